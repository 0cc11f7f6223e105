import PyProof.Rows.All
import Wide.All
import OpenK.AllK
import Wide.FinOn
import Lean
import PyProof.EqAt
import PyProof.EqKinds
import PyProof.TupleCall
import PySem.Challenge.RW_stairseek_k31_spans_and_changes
set_option Elab.async false
set_option linter.all false
set_option maxRecDepth 100000
namespace L2
open PySem PySem.Spec PyProof.Rows
abbrev Key := Sum Int Str
def keyIs : Key → Value → Bool
  | .inl k, v => Value.isInt k v
  | .inr x, v => Value.isStrOf x v
def keyH (w : World) : Key → Int
  | .inl k => hashInt k
  | .inr x => hashStr w x
theorem keyIs_shape : ∀ {k : Key} {v : Value}, keyIs k v = true → (∃ i t, k = Sum.inl i ∧ v = Value.int i t) ∨ (∃ x t, k = Sum.inr x ∧ v = Value.str x t)
  | .inl i, v, h => by
    obtain ⟨t, e⟩ := Value.isInt_shape (k := i) (v := v) h
    exact .inl ⟨i, t, rfl, e⟩
  | .inr x, v, h => by
    obtain ⟨t, e⟩ := Value.isStrOf_shape (x := x) (v := v) h
    exact .inr ⟨x, t, rfl, e⟩
theorem key_ll (a b : Int) : decide ((Sum.inl a : Key) = Sum.inl b) = (a == b) := by
  by_cases e : a = b
  · subst e; simp
  · have h : ¬ (Sum.inl a : Key) = Sum.inl b := fun q => e (Sum.inl.inj q)
    rw [decide_eq_false h]
    exact (beq_eq_false_iff_ne.mpr e).symm
theorem key_rr (a b : Str) : decide ((Sum.inr a : Key) = Sum.inr b) = decide (a = b) := by
  by_cases e : a = b
  · subst e; simp
  · have h : ¬ (Sum.inr a : Key) = Sum.inr b := fun q => e (Sum.inr.inj q)
    rw [decide_eq_false h, decide_eq_false e]
theorem key_lr (a : Int) (b : Str) : decide ((Sum.inl a : Key) = Sum.inr b) = false := decide_eq_false (fun q => nomatch q)
theorem key_rl (a : Str) (b : Int) : decide ((Sum.inr a : Key) = Sum.inl b) = false := decide_eq_false (fun q => nomatch q)
def mixKind (prog : Program) (w : World) : PySem.KeyKind prog w Key where
  is := keyIs
  hash := keyH w
  inj := fun v a b ha hb => by
    rcases keyIs_shape ha with ⟨i, t, rfl, rfl⟩ | ⟨x, t, rfl, rfl⟩
    · rcases keyIs_shape hb with ⟨j, u, rfl, e⟩ | ⟨y, u, rfl, e⟩
      · injection e with e1 _; rw [e1]
      · exact nomatch e
    · rcases keyIs_shape hb with ⟨j, u, rfl, e⟩ | ⟨y, u, rfl, e⟩
      · exact nomatch e
      · injection e with e1 _; rw [e1]
  byValue := fun k v h => by
    rcases keyIs_shape h with ⟨i, t, rfl, rfl⟩ | ⟨x, t, rfl, rfl⟩ <;> rfl
  pyHash := fun hv h => by
    rcases keyIs_shape hv with ⟨i, t, rfl, rfl⟩ | ⟨x, t, rfl, rfl⟩
    · exact wpAny_pyHash_int h
    · exact wpAny_pyHash_str h
  eqBool := fun hu hv h => by
    rcases keyIs_shape hu with ⟨i, t, rfl, rfl⟩ | ⟨x, t, rfl, rfl⟩
    · rcases keyIs_shape hv with ⟨j, u, rfl, rfl⟩ | ⟨y, u, rfl, rfl⟩
      · rw [key_ll] at h; exact wpAny_eqBool_int h
      · rw [key_lr] at h; exact SeqAt.EqAt.int_str i t y u _ _ _ _ h
    · rcases keyIs_shape hv with ⟨j, u, rfl, rfl⟩ | ⟨y, u, rfl, rfl⟩
      · rw [key_rl] at h; exact SeqAt.EqAt.str_int x t j u _ _ _ _ h
      · rw [key_rr] at h; exact wpAny_eqBool_str h
  «strs» := fun k x t v h => by
    rcases keyIs_shape h with ⟨i, u, rfl, e⟩ | ⟨y, u, rfl, e⟩
    · exact nomatch e
    · injection e with e1 _
      subst e1
      cases v <;> rfl
inductive V where
  | non | bl (b : Bool) | int (i : Int) | str (x : Str) | byt (b : Array UInt8) | flt (b : UInt64) | ref (a : Addr) | ty (n : String)
  deriving DecidableEq
def RelV : V → Value → Prop
  | .non, u => u = Value.none
  | .bl b, u => u = Value.bool b
  | .int i, u => ∃ t, u = Value.int i t
  | .str x, u => ∃ t, u = Value.str x t
  | .byt b, u => ∃ t, u = Value.bytes b t
  | .flt b, u => ∃ t, u = Value.float b t
  | .ref a, u => u = Value.ref a
  | .ty n, u => u = Value.type n
abbrev Vals : List V → List Value → Prop := Paired RelV
theorem Vals.length {xs : List V} {us : List Value} (r : Vals xs us) : xs.length = us.length := Paired.length r
theorem Vals.get : ∀ {xs : List V} {us : List Value} {i : Nat} {x : V}, Vals xs us → xs[i]? = some x → ∃ u, us[i]? = some u ∧ RelV x u
  | _, _, _, _, .nil, e => by simp at e
  | _, _, 0, _, .cons r _, e => by simp at e; subst e; exact ⟨_, rfl, r⟩
  | _, _, i + 1, x, .cons _ t, e => by
    obtain ⟨u, h1, h2⟩ := Vals.get (i := i) (x := x) t (by simpa using e)
    exact ⟨u, by simpa using h1, h2⟩
theorem Vals.set {x : V} {u : Value} (r : RelV x u) : ∀ {xs : List V} {us : List Value} (i : Nat), Vals xs us → Vals (xs.set i x) (us.set i u)
  | _, _, _, .nil => .nil
  | _, _, 0, .cons _ t => .cons r t
  | _, _, i + 1, .cons q t => .cons q (Vals.set r i t)
theorem Vals.append : ∀ {xs ys : List V} {us ws : List Value}, Vals xs us → Vals ys ws → Vals (xs ++ ys) (us ++ ws)
  | _, _, _, _, .nil, s => s
  | _, _, _, _, .cons r t, s => .cons r (Vals.append t s)
theorem Vals.take : ∀ {xs : List V} {us : List Value} (n : Nat), Vals xs us → Vals (xs.take n) (us.take n)
  | _, _, 0, _ => .nil
  | _, _, _ + 1, .nil => .nil
  | _, _, n + 1, .cons r t => .cons r (Vals.take n t)
theorem Vals.drop : ∀ {xs : List V} {us : List Value} (n : Nat), Vals xs us → Vals (xs.drop n) (us.drop n)
  | _, _, 0, r => r
  | _, _, _ + 1, .nil => .nil
  | _, _, n + 1, .cons _ t => Vals.drop n t
def RelO : Option V → Option Value → Prop
  | some v, some u => RelV v u
  | none, none => True
  | _, _ => False
def KV {κ : Type} : List (κ × V) → List (κ × Value) → Prop := Paired fun (p : κ × V) (q : κ × Value) => p.1 = q.1 ∧ RelV p.2 q.2
def kV : Key → V
  | .inl i => .int i
  | .inr x => .str x
inductive HO where
  | lst (xs : List V)
  | tup (xs : List V)
  | dK (kvs : List (Key × V)) | dT (kvs : List (List Key × V))
  | set (S : Int → Bool) (n : Nat)
  | ins (C dx : Addr) (fs : List (Str × V))
  | own (x : Addr)
  | xd (fs : List (Str × V))
  | met (f x : Addr)
  | rng (lo hi : Int)
  | frz (o : Obj) (u : HO)
  | tbl (ps : Array Value)
  | ext (φ : Heap → Prop)
abbrev Hp := Addr → Option HO
def upd (H : Hp) (a : Addr) (o : HO) : Hp := fun b => if b = a then some o else H b
theorem upd_same {H : Hp} {a : Addr} {o : HO} : upd H a o a = some o := by unfold upd; rw [if_pos rfl]
theorem upd_ne {H : Hp} {a b : Addr} {o : HO} (h : b ≠ a) : upd H a o b = H b := by unfold upd; rw [if_neg h]
theorem ne_of_none {H : Hp} {a b : Addr} {o : HO} (h : H a = some o) (h' : H b = none) : a ≠ b := by
  intro e; subst e; rw [h] at h'; cases h'
section
variable (P : Program) (w : World)
def ObjOk (H : Hp) (h : Heap) (a : Addr) : HO → Prop
  | .lst xs => xs.length ≤ sizeLine ∧ ∃ (its : List Value) (n : Nat), Vals xs its ∧ h.get? a = some { cls := .type "list", data := .seq its.toArray n }
  | .tup xs => xs.length ≤ sizeLine ∧ ∃ its : List Value, Vals xs its ∧ IsTup h a its.toArray
  | .dK kvs => kvs.length ≤ sizeLine ∧ (a == sysModules) = false ∧ ∃ vs, KV kvs vs ∧ h.DictOf (mixKind P w) a vs
  | .dT kvs => kvs.length ≤ sizeLine ∧ (a == sysModules) = false ∧ ∃ xs : List (List Key × Addr × Value),
      Paired (fun (p : List Key × V) (q : List Key × Addr × Value) => p.1 = q.1 ∧ H q.2.1 = some (.tup (p.1.map kV)) ∧ RelV p.2 q.2.2) kvs xs ∧
      ∃ o es ep, h.get? a = some o ∧ o.ExactDict ∧ o.data = .dict es ep ∧ es.toList = xs.map (entryOfKey (tupleKind (mixKind P w))) ∧ (xs.map (·.1)).Nodup
  | .set S n => h.SetOf (intKind P w) a S n
  | .ins C dx fs => H dx = some (.own a) ∧ fs.length ≤ 1000 ∧ dx ≠ a ∧ h.get? a = some (PySem.W.instObj C dx) ∧
      ∃ mA, h.Ns1 dx mA ∧ (∀ f, RelO (fs.lookup f) (mA f)) ∧ PySem.Within mA (fs.map (·.1))
  | .own _ => ∃ o, h.get? a = some o
  | .xd fs => ∃ mA, h.Ns1 a mA ∧ ∀ f, RelO (fs.lookup f) (mA f)
  | .rng lo hi => ∃ t u v, h.get? a = some { cls := .type "range", data := .fields #[.int lo t, .int hi u, .int 1 v] }
  | .frz o u => h.get? a = some o ∧ ObjOk H h a u
  | .tbl ps => h.get? a = some { cls := .none, data := .fields ps }
  | .met f x => h.get? a = some (PySem.W.methodObj (.ref f) (.ref x))
  | .ext φ => φ h ∧ (∃ o, h.get? a = some o) ∧ ∀ h1 h2 : Heap, φ h1 → (∀ o, h1.get? a = some o → h2.get? a = some o) → φ h2
def HOk (H : Hp) (h : Heap) : Prop := ∀ a o, H a = some o → ObjOk P w H h a o
end
section
variable {P : Program} {w : World} {H H' : Hp} {h h' : Heap} {a : Addr} {o : HO}
theorem ObjOk.lt (x : ObjOk P w H h a o) : a < h.objs.size := by
  cases o with
  | lst xs => obtain ⟨_, _, _, _, e⟩ := x; exact Heap.lt_size e
  | tup xs => obtain ⟨_, _, _, p⟩ := x; exact p.lt
  | dK kvs => obtain ⟨_, _, _, _, o, _, _, e, _⟩ := x; exact Heap.lt_size e
  | dT kvs => obtain ⟨_, _, _, _, o, _, _, e, _⟩ := x; exact Heap.lt_size e
  | set S n => obtain ⟨o, _, _, _, e, _⟩ := x; exact Heap.lt_size e
  | ins C dx fs => obtain ⟨_, _, _, e, _⟩ := x; exact Heap.lt_size e
  | own y => obtain ⟨_, e⟩ := x; exact Heap.lt_size e
  | xd fs => obtain ⟨_, ⟨_, _, _, e, _⟩, _⟩ := x; exact Heap.lt_size e
  | rng lo hi => obtain ⟨_, _, _, e⟩ := x; exact Heap.lt_size e
  | frz ob u => obtain ⟨e, _⟩ := x; exact Heap.lt_size e
  | tbl ps => exact Heap.lt_size (show h.get? a = some _ from x)
  | met f y => exact Heap.lt_size (show h.get? a = some _ from x)
  | ext φ => obtain ⟨_, ⟨_, e⟩, _⟩ := x; exact Heap.lt_size e
theorem Paired.mapP {α β : Type} {F G : α → β → Prop} : ∀ {l₁ : List α} {l₂ : List β}, Paired F l₁ l₂ → (∀ a b, F a b → G a b) → Paired G l₁ l₂
  | _, _, .nil, _ => .nil
  | _, _, .cons r t, f => .cons (f _ _ r) (Paired.mapP t f)
theorem ObjOk.stay (x : ObjOk P w H h a o) (k : ∀ b u, (b = a ∨ H b = some (.own a)) → h.get? b = some u → h'.get? b = some u)
    (ho : ∀ b, H b = some (.own a) → H' b = some (.own a)) (ht : ∀ b xs, H b = some (.tup xs) → H' b = some (.tup xs)) : ObjOk P w H' h' a o := by
  induction o with
  | lst xs => obtain ⟨z, its, n, r, e⟩ := x; exact ⟨z, its, n, r, k _ _ (.inl rfl) e⟩
  | tup xs => obtain ⟨z, its, r, ob, e, c⟩ := x; exact ⟨z, its, r, ob, k _ _ (.inl rfl) e, c⟩
  | dK kvs => obtain ⟨z, y, vs, r, ob, es, ep, e, c⟩ := x; exact ⟨z, y, vs, r, ob, es, ep, k _ _ (.inl rfl) e, c⟩
  | dT kvs =>
    obtain ⟨z, y, xs, r, ob, es, ep, e, c⟩ := x
    exact ⟨z, y, xs, Paired.mapP r fun p q z => ⟨z.1, ht _ _ z.2.1, z.2.2⟩, ob, es, ep, k _ _ (.inl rfl) e, c⟩
  | set S n => obtain ⟨ob, es, ep, t, e, c⟩ := x; exact ⟨ob, es, ep, t, k _ _ (.inl rfl) e, c⟩
  | ins C dx fs =>
    obtain ⟨d, z, ne, e, mA, ⟨od, es, ep, e2, c⟩, r⟩ := x
    exact ⟨ho _ d, z, ne, k _ _ (.inl rfl) e, mA, ⟨od, es, ep, k _ _ (.inr d) e2, c⟩, r⟩
  | own y => obtain ⟨ob, e⟩ := x; exact ⟨ob, k _ _ (.inl rfl) e⟩
  | xd fs => obtain ⟨mA, ⟨od, es, ep, e, c⟩, r⟩ := x; exact ⟨mA, ⟨od, es, ep, k _ _ (.inl rfl) e, c⟩, r⟩
  | rng lo hi => obtain ⟨t, u, v, e⟩ := x; exact ⟨t, u, v, k _ _ (.inl rfl) e⟩
  | frz ob u ih => obtain ⟨e, q⟩ := x; exact ⟨k _ _ (.inl rfl) e, ih q⟩
  | tbl ps =>
    have e : h.get? a = some { cls := .none, data := .fields ps } := x
    show h'.get? a = some { cls := .none, data := .fields ps }
    exact k a _ (.inl rfl) e
  | met f y =>
    have e : h.get? a = some (PySem.W.methodObj (.ref f) (.ref y)) := x
    show h'.get? a = some (PySem.W.methodObj (.ref f) (.ref y))
    exact k a _ (.inl rfl) e
  | ext φ => obtain ⟨p, ⟨o, e⟩, st⟩ := x; exact ⟨st _ _ p fun o q => k _ _ (.inl rfl) q, ⟨o, k _ _ (.inl rfl) e⟩, st⟩
theorem HOk.lt (x : HOk P w H h) (e : H a = some o) : a < h.objs.size := (x a o e).lt
theorem HOk.fresh (x : HOk P w H h) (e : h.objs.size ≤ a) : H a = none := by
  cases q : H a with
  | none => rfl
  | some u => exact absurd (Nat.lt_of_lt_of_le (x.lt q) e) (Nat.lt_irrefl _)
theorem HOk.kept (x : HOk P w H h) (k : ∀ b u, h.get? b = some u → h'.get? b = some u) : HOk P w H h' := fun a o e =>
  (x a o e).stay (fun b u _ q => k b u q) (fun _ q => q) fun _ _ q => q
theorem HOk.laid (x : HOk P w H h) (k : ∀ b u, h.get? b = some u → h'.get? b = some u) (hp : h.objs.size ≤ a) (new : ObjOk P w (upd H a o) h' a o) : HOk P w (upd H a o) h' := fun b u e => by
  have hn := x.fresh hp
  by_cases hb : b = a
  · subst hb; rw [upd_same] at e; cases e; exact new
  · rw [upd_ne hb] at e
    exact (x b u e).stay (fun c v _ q => k c v q) (fun c q => by rw [upd_ne (ne_of_none q hn)]; exact q) fun c xs q => by rw [upd_ne (ne_of_none q hn)]; exact q
end
def Rd (H : Hp) (a : Addr) (u : HO) : Prop := H a = some u ∨ ∃ o, H a = some (.frz o u)
theorem Rd.ok {P : Program} {w : World} {H : Hp} {h : Heap} {a : Addr} {u : HO} (r : Rd H a u) (x : HOk P w H h) : ObjOk P w H h a u := by
  rcases r with r | ⟨o, r⟩
  · exact x a u r
  · obtain ⟨_, q⟩ := x a _ r
    exact q
def Mut : Option HO → Prop
  | some (.lst _) => True
  | some (.dK _) => True
  | some (.dT _) => True
  | some (.set _ _) => True
  | some (.ins _ _ _) => True
  | some (.ext _) => True
  | _ => False
section
variable {P : Program} {w : World} {H : Hp} {h h' : Heap} {x e : Addr} {o' : HO}
theorem HOk.write (ok : HOk P w H h) (mu : Mut (H x)) (he : e = x ∨ H e = some (.own x)) (k : ∀ b u, b ≠ e → h.get? b = some u → h'.get? b = some u) (heo : ∃ u, h'.get? e = some u)
    (new : ObjOk P w (upd H x o') h' x o') : HOk P w (upd H x o') h' := fun b u q => by
  have nown : ∀ c y, H c = some (.own y) → c ≠ x := fun c y r z => by subst z; rw [r] at mu; exact mu
  have ntup : ∀ c xs, H c = some (.tup xs) → c ≠ x := fun c xs r z => by subst z; rw [r] at mu; exact mu
  by_cases hb : b = x
  · subst hb; rw [upd_same] at q; cases q; exact new
  · rw [upd_ne hb] at q
    by_cases hbe : b = e
    · have q' : H b = some (.own x) := by
        rcases he with z | z
        · exact absurd (hbe.trans z) hb
        · rw [hbe]; exact z
      rw [q] at q'; cases q'
      obtain ⟨v, hv⟩ := heo
      exact ⟨v, by rw [hbe]; exact hv⟩
    · refine (ok b u q).stay (fun c v hc r => k c v ?_ r) (fun c r => by rw [upd_ne (nown c b r)]; exact r) fun c xs r => by rw [upd_ne (ntup c xs r)]; exact r
      rcases hc with rfl | hc
      · exact hbe
      · rintro rfl
        rcases he with z | z
        · exact nown c b hc z
        · rw [hc] at z; cases z; exact hb rfl
end
structure Un (fs ex : List Addr) (H H' : Hp) (h h' : Heap) : Prop where
  keep : ∀ b o, h.get? b = some o → H b = none → b ∉ fs → b ∉ ex → h'.get? b = some o
  slot : ∀ b o, h.get? b = some o → H b = none → b ∈ fs → b ∉ ex → ∃ sl, h'.get? b = some { o with slots := sl }
  free : ∀ b o, h.get? b = some o → H b = none → b ∉ ex → H' b = none
  there : ∀ b o, h.get? b = some o → b ∉ ex → ∃ o', h'.get? b = some o'
  tups : ∀ b xs, H b = some (.tup xs) → H' b = some (.tup xs)
  frzs : ∀ b o u, H b = some (.frz o u) → H' b = some (.frz o u)
  tbls : ∀ b ps, H b = some (.tbl ps) → ∃ more, H' b = some (.tbl (ps ++ more))
section
variable {fs fs' ex ex' : List Addr} {H H1 H2 : Hp} {h h1 h2 h' : Heap} {a x e : Addr} {o : HO}
theorem Un.any (u : Un fs ex H H1 h h1) {b : Addr} {ob : Obj} (q : h.get? b = some ob) (n : H b = none) (hx : b ∉ ex) : ∃ sl, h1.get? b = some { ob with slots := sl } := by
  by_cases hb : b ∈ fs
  · exact u.slot b ob q n hb hx
  · exact ⟨ob.slots, u.keep b ob q n hb hx⟩
theorem Un.kept (k : ∀ b u, h.get? b = some u → h'.get? b = some u) : Un fs ex H H h h' :=
  ⟨fun b ob q _ _ _ => k b ob q, fun b ob q _ _ _ => ⟨ob.slots, k b ob q⟩, fun _ _ _ n _ => n, fun b ob q _ => ⟨ob, k b ob q⟩, fun _ _ q => q, fun _ _ _ q => q, fun _ ps q => ⟨#[], by rw [q]; simp⟩⟩
theorem Un.refl : Un fs ex H H h h := Un.kept fun _ _ q => q
theorem Un.laid (k : ∀ b u, h.get? b = some u → h'.get? b = some u) (hp : h.objs.size ≤ a) (hn : H a = none) : Un fs ex H (upd H a o) h h' where
  keep := fun b u q _ _ _ => k b u q
  slot := fun b u q _ _ _ => ⟨u.slots, k b u q⟩
  free := fun b u q n _ => by rw [upd_ne (Nat.ne_of_lt (Nat.lt_of_lt_of_le (Heap.lt_size q) hp))]; exact n
  there := fun b u q _ => ⟨u, k b u q⟩
  tups := fun b xs q => by rw [upd_ne (ne_of_none q hn)]; exact q
  frzs := fun b u xs q => by rw [upd_ne (ne_of_none q hn)]; exact q
  tbls := fun b ps q => ⟨#[], by rw [upd_ne (ne_of_none q hn), q]; simp⟩
theorem Un.write (mu : Mut (H x)) (he : e = x ∨ H e = some (.own x)) (k : ∀ b u, b ≠ e → h.get? b = some u → h'.get? b = some u) (heo : ∃ u, h'.get? e = some u) : Un fs ex H (upd H x o) h h' := by
  have hx : ∀ b, H b = none → b ≠ x := fun b n z => by subst z; rw [n] at mu; exact mu
  have hb : ∀ b, H b = none → b ≠ e := fun b n z => by
    subst z
    rcases he with r | r
    · exact hx b n r
    · rw [n] at r; cases r
  have hm : ∀ b u, H b = some u → ¬ Mut (some u) → b ≠ x := fun b u q nm z => by subst z; rw [q] at mu; exact nm mu
  refine ⟨fun b u q n _ _ => k b u (hb b n) q, fun b u q n _ _ => ⟨u.slots, k b u (hb b n) q⟩, fun b u q n _ => by rw [upd_ne (hx b n)]; exact n, fun b u q _ => ?_,
    fun b xs q => by rw [upd_ne (hm b _ q fun z => z)]; exact q, fun b u xs q => by rw [upd_ne (hm b _ q fun z => z)]; exact q, fun b ps q => ⟨#[], by rw [upd_ne (hm b _ q fun z => z), q]; simp⟩⟩
  by_cases hbe : b = e
  · subst hbe; exact heo
  · exact ⟨u, k b u hbe q⟩
theorem Un.mono (u : Un fs ex H H1 h h1) (hs : ∀ b ∈ fs, b ∈ fs') (hx : ∀ b ∈ ex, b ∈ ex') : Un fs' ex' H H1 h h1 :=
  ⟨fun b ob q n hb he => u.keep b ob q n (fun z => hb (hs b z)) fun z => he (hx b z), fun _ _ q n _ he => u.any q n fun z => he (hx _ z), fun b ob q n he => u.free b ob q n fun z => he (hx b z), fun b ob q he => u.there b ob q fun z => he (hx b z), u.tups, u.frzs, u.tbls⟩
end
def trk (h : Heap) (H : Hp) : List Addr := (List.range h.objs.size).filter fun a => (H a).isSome
def hidT (h : Heap) (H : Hp) : Heap := PySem.W.hideAll h (trk h H)
theorem hidT_size (h : Heap) (H : Hp) : (hidT h H).objs.size = h.objs.size := PySem.W.hideAll_size _ _
theorem hidT_get {h : Heap} {H : Hp} {b : Addr} {o : Obj} (e : h.get? b = some o) (n : H b = none) : (hidT h H).get? b = some o :=
  PySem.W.hideAll_get _ e fun hm => by
    have q : (H b).isSome = true := (List.mem_filter.mp hm).2
    rw [n] at q; simp at q
theorem of_hidT {h : Heap} {H : Hp} {b : Addr} {o : Obj} (e : (hidT h H).get? b = some o) : h.get? b = some o ∧ H b = none := by
  have e' : h.get? b = some o := PySem.W.of_hideAll (trk h H) e
  refine ⟨e', ?_⟩
  cases q : H b with
  | none => rfl
  | some x =>
    have hm : b ∈ trk h H := List.mem_filter.mpr ⟨List.mem_range.mpr (Heap.lt_size e'), by simp [q]⟩
    have z : (hidT h H).get? b = none := PySem.W.hideAll_none (trk h H) hm
    rw [z] at e; cases e
def allNews (g h : Heap) (L : Addr) : List (Addr × Obj) := (List.range h.objs.size).filterMap fun a => if a = L ∨ (g.get? a).isSome = true then none else (h.get? a).map fun o => (a, o)
def rest (g h : Heap) (L d : Addr) : List (Addr × Obj) := (allNews g h L).filter fun p => decide (p.1 ≠ d)
structure Mod (K : PySem.W.Frag) (mg : Str → Option Value) (base : Heap) : Prop where
  kin : K.In base
  glob : base.Ns mainGlobals mg
  blt : ∃ mb, base.Ns builtinsNs mb ∧ ∀ x : Str, x ≠ "__name__" → mb x = bootBuiltins x
  nolimit : base.NoLimit
structure Cx where
  prog : Program
  w : World
  K : PySem.W.Frag
  mg : Str → Option Value
  base : Heap
  A : Around
  N : List Str
  s₀ : Shared
  H₀ : Hp
  env : Env
  outer : List Env
  stack : List Env
  ex : List Addr
  fn : Str → Bool
  calm : Bool
  pn : List (Addr × Obj)
  xe : Value → Shared → Prop
def frs (l : List Env) : List Addr := l.filterMap (·.frame)
abbrev Cx.fs (X : Cx) : List Addr := frs X.outer
def Vis (sc : Scope) (x : Str) : Prop := sc.names.lookup x = some .local ∨ sc.names.lookup x = some .cell ∨ sc.names.lookup x = some .free
def Loc (sc : Scope) (x : Str) : Prop := sc.names.lookup x = some .local ∨ sc.names.lookup x = some .cell
def Look (env : Env) (h : Heap) (m : Str → Option Value) (x : Str) (u : Value) : Prop :=
  (env.kindOf x = some .local ∧ m x = some u) ∨ ((env.kindOf x = some .cell ∨ env.kindOf x = some .free) ∧ ∃ c, env.cells.lookup x = some c ∧ h.IsCell c (some u))
structure Cx.Ok (X : Cx) : Prop where
  mod : Mod X.K X.mg X.base
  kind : X.env.scope.kind = .function
  glob : X.env.globals = mainGlobals
  blt : X.env.builtins = builtinsNs
  above : X.s₀.heap.objs.size ≤ X.env.locals
  inj : ∀ x y c, X.env.cells.lookup x = some c → X.env.cells.lookup y = some c → x = y
  has : ∀ x, (X.env.kindOf x = some .cell ∨ X.env.kindOf x = some .free) → ∃ c, X.env.cells.lookup x = some c
  cab : ∀ x c, X.fn x = true → X.env.cells.lookup x = some c → X.s₀.heap.objs.size ≤ c
  hd : X.calm = true → X.A.handled = none
  frames : X.A.frames = some X.stack
  stk : X.stack = X.outer ∨ (X.stack = X.env :: X.outer ∧ X.env.frame = some X.env.locals)
  exf : ∀ b ∈ X.ex, b ≠ X.env.locals ∧ ∀ x c, X.env.cells.lookup x = some c → c ≠ b
  bs : ∀ b o, X.base.get? b = some o → X.s₀.heap.get? b = some o ∧ X.H₀ b = none
  bsz : X.base.objs.size ≤ X.s₀.heap.objs.size
  noex : ∀ b o, X.base.get? b = some o → b ∉ X.ex
  exfs : ∀ b ∈ X.ex, b ∉ X.fs
  funs : X.s₀.heap.FunFrames X.base X.outer
  frf : ∀ b ∈ X.fs, X.H₀ b = none
structure Inv (X : Cx) (pins : List (Addr × Obj)) (σ : List (Option V)) (H : Hp) (s : Shared) : Prop where
  ok : X.Ok
  os : s.os = X.s₀.os
  bare : AllBare s.gens
  base : Un X.fs X.ex X.H₀ H X.s₀.heap s.heap
  loc : ∃ m, s.heap.Ns X.env.locals m ∧ ∀ (i : Nat) (x : Str) (v : V), X.N[i]? = some x → σ[i]? = some (some v) → Vis X.env.scope x → ∃ u, RelV v u ∧ Look X.env s.heap m x u
  cell : ∀ x c, X.env.cells.lookup x = some c → ∃ v, s.heap.IsCell c v
  free : H X.env.locals = none
  freeC : ∀ x c, X.env.cells.lookup x = some c → H c = none
  pin : ∀ p ∈ X.pn ++ pins, s.heap.get? p.1 = some p.2 ∧ H p.1 = none ∧ p.1 ≠ X.env.locals ∧ p.1 ∉ X.fs ∧ ∀ v, p.2.data ≠ .cell v
  hok : HOk X.prog X.w H s.heap
  len : σ.length = X.N.length
section
variable {X : Cx} {pins : List (Addr × Obj)} {σ : List (Option V)} {H H' : Hp} {s : Shared} {h' : Heap}
theorem Cx.Ok.nofr (ok : X.Ok) {b : Addr} {o : Obj} (e : X.base.get? b = some o) : b ∉ X.fs := fun hb => by
  have := (ok.funs.mem hb).1
  rw [e] at this; cases this
theorem Inv.bs (I : Inv X pins σ H s) : ∀ b o, X.base.get? b = some o → s.heap.get? b = some o ∧ H b = none := fun b o e =>
  ⟨I.base.keep b o (I.ok.bs b o e).1 (I.ok.bs b o e).2 (I.ok.nofr e) (I.ok.noex b o e), I.base.free b o (I.ok.bs b o e).1 (I.ok.bs b o e).2 (I.ok.noex b o e)⟩
theorem Inv.bk (I : Inv X pins σ H s) : ∀ b o, X.base.get? b = some o → s.heap.get? b = some o := fun b o e => (I.bs b o e).1
theorem Inv.mod (I : Inv X pins σ H s) : Mod X.K X.mg X.base := I.ok.mod
theorem Inv.kIn (I : Inv X pins σ H s) : X.K.In s.heap := I.ok.mod.kin.keeps I.bk
theorem Inv.fr (I : Inv X pins σ H s) : ∃ m, Fr X.base X.env.locals s.heap m :=
  let ⟨m, hn, _⟩ := I.loc
  ⟨m, hn, I.bk, Nat.le_trans I.ok.bsz I.ok.above⟩
theorem Inv.lt (I : Inv X pins σ H s) : X.env.locals < s.heap.objs.size := let ⟨_, hn, _⟩ := I.loc; hn.lt
theorem Inv.sz (I : Inv X pins σ H s) : X.s₀.heap.objs.size ≤ s.heap.objs.size := Nat.le_trans I.ok.above (Nat.le_of_lt I.lt)
theorem Inv.nofs (I : Inv X pins σ H s) {a : Addr} (h : s.heap.objs.size ≤ a) : a ∉ X.fs := fun hb => by
  obtain ⟨_, o, ho, _⟩ := I.ok.funs.mem hb
  exact absurd (Nat.lt_of_lt_of_le (Heap.lt_size ho) (Nat.le_trans I.sz h)) (Nat.lt_irrefl _)
theorem Inv.cne (I : Inv X pins σ H s) : ∀ x c, X.env.cells.lookup x = some c → c ≠ X.env.locals := fun x c e z => by
  obtain ⟨v, o, ho, hd⟩ := I.cell x c e
  obtain ⟨m, ⟨o', es, ep, ho', hd', _⟩, _⟩ := I.loc
  rw [z, ho'] at ho; cases ho; rw [hd'] at hd; cases hd
theorem Inv.funs (I : Inv X pins σ H s) : s.heap.FunFrames X.base X.outer := by
  have all : ∀ (l : List Env), (∀ b ∈ frs l, b ∈ X.fs) → X.s₀.heap.FunFrames X.base l → s.heap.FunFrames X.base l := by
    intro l
    induction l with
    | nil => intro _ _; trivial
    | cons env r ih =>
      intro hs hl
      obtain ⟨hk, ⟨L, o, hf, hn, ho, hd⟩, hr⟩ := hl
      have hL : L ∈ X.fs := hs L (by unfold frs; rw [List.filterMap_cons, hf]; exact List.mem_cons_self)
      obtain ⟨sl, e⟩ := I.base.slot L o ho (I.ok.frf L hL) hL fun z => I.ok.exfs L z hL
      exact ⟨hk, ⟨L, _, hf, hn, e, hd⟩, ih (fun b hb => hs b (by unfold frs; rw [List.filterMap_cons, hf]; exact List.mem_cons_of_mem _ hb)) hr⟩
  exact all X.outer (fun _ hb => hb) I.ok.funs
theorem Inv.stack (I : Inv X pins σ H s) : s.heap.FunFrames X.base X.stack := by
  rcases I.ok.stk with e | ⟨e, hf⟩
  · rw [e]; exact I.funs
  · rw [e]
    obtain ⟨m, hn, _⟩ := I.loc
    refine .cons (by rw [I.ok.kind]; decide) hf hn ?_ I.funs
    exact Heap.get?_none_of_le (Nat.le_trans I.ok.bsz I.ok.above)
theorem Inv.stkSub (I : Inv X pins σ H s) : ∀ b ∈ frs X.stack, b ∈ X.env.locals :: X.fs := fun b hb => by
  rcases I.ok.stk with e | ⟨e, hf⟩
  · rw [e] at hb; exact List.mem_cons_of_mem _ hb
  · rw [e] at hb
    unfold frs at hb
    rw [List.filterMap_cons, hf] at hb
    exact hb
theorem Inv.stkFree (I : Inv X pins σ H s) : ∀ b ∈ frs X.stack, H b = none := fun b hb => by
  rcases List.mem_cons.mp (I.stkSub b hb) with e | hb
  · rw [e]; exact I.free
  · obtain ⟨_, o, ho, _⟩ := I.ok.funs.mem hb
    exact I.base.free b o ho (I.ok.frf b hb) fun z => I.ok.exfs b z hb
theorem Inv.step {g' : Array GenState} {t' : Nat} {d' : Drawn} {ch : List Addr} (I : Inv X pins σ H s)
    (hch : ∀ b ∈ ch, (b ∈ X.ex ∨ X.s₀.heap.objs.size ≤ b) ∧ b ≠ X.env.locals ∧ (∀ x c, X.env.cells.lookup x = some c → c ≠ b) ∧ ∀ p ∈ X.pn ++ pins, p.1 ≠ b)
    (keep : ∀ b o, b ≠ X.env.locals → b ∉ X.fs → b ∉ ch → s.heap.get? b = some o → H b = none → h'.get? b = some o)
    (slot : ∀ b o, b ≠ X.env.locals → b ∈ X.fs → b ∉ ch → s.heap.get? b = some o → H b = none → ∃ sl, h'.get? b = some { o with slots := sl }) (free : ∀ b o, b ∉ ch → s.heap.get? b = some o → H b = none → H' b = none)
    (there : ∀ b o, b ∉ ch → s.heap.get? b = some o → ∃ o', h'.get? b = some o')
    (tups : ∀ b xs, H b = some (.tup xs) → H' b = some (.tup xs)) (frzs : ∀ b o u, H b = some (.frz o u) → H' b = some (.frz o u)) (tbls : ∀ b ps, H b = some (.tbl ps) → ∃ more, H' b = some (.tbl (ps ++ more)))
    (ns : ∀ m, s.heap.Ns X.env.locals m → h'.Ns X.env.locals m) (hok : HOk X.prog X.w H' h') (hg : AllBare g') :
    Inv X pins σ H' { s with heap := h', gens := g', drawn := d', toks := t' } := by
  have neL : ∀ b o, X.s₀.heap.get? b = some o → b ≠ X.env.locals := fun b o e => Nat.ne_of_lt (Nat.lt_of_lt_of_le (Heap.lt_size e) I.ok.above)
  have neC : ∀ b o, X.s₀.heap.get? b = some o → b ∉ X.ex → b ∉ ch := fun b o e hx hb => by
    rcases (hch b hb).1 with z | z
    · exact hx z
    · exact absurd (Nat.lt_of_lt_of_le (Heap.lt_size e) z) (Nat.lt_irrefl _)
  have cellK : ∀ x c, X.env.cells.lookup x = some c → ∀ v, s.heap.IsCell c v → h'.IsCell c v := fun x c e v ⟨o, ho, hd⟩ => by
    have nch : c ∉ ch := fun z => (hch c z).2.2.1 x c e rfl
    by_cases hc : c ∈ X.fs
    · obtain ⟨sl, q⟩ := slot c o (I.cne x c e) hc nch ho (I.freeC x c e)
      exact ⟨_, q, hd⟩
    · exact ⟨o, keep c o (I.cne x c e) hc nch ho (I.freeC x c e), hd⟩
  refine ⟨I.ok, I.os, hg, ⟨fun b o e n hb hx => ?_, fun b o e n hb hx => ?_, fun b o e n hx => ?_, fun b o e hx => ?_, fun b xs e => tups b xs (I.base.tups b xs e), fun b o xs e => frzs b o xs (I.base.frzs b o xs e), fun b ps e => ?_⟩, ?_, fun x c e => ?_, ?_, fun x c e => ?_, fun p hp => ?_, hok, I.len⟩
  · exact keep b o (neL b o e) hb (neC b o e hx) (I.base.keep b o e n hb hx) (I.base.free b o e n hx)
  · obtain ⟨sl, e1⟩ := I.base.slot b o e n hb hx
    obtain ⟨sl', e2⟩ := slot b _ (neL b o e) hb (neC b o e hx) e1 (I.base.free b o e n hx)
    exact ⟨sl', e2⟩
  · obtain ⟨o', e1⟩ := I.base.there b o e hx
    exact free b o' (neC b o e hx) e1 (I.base.free b o e n hx)
  · obtain ⟨o', e1⟩ := I.base.there b o e hx
    exact there b o' (neC b o e hx) e1
  · obtain ⟨m1, e1⟩ := I.base.tbls b ps e
    obtain ⟨m2, e2⟩ := tbls b _ e1
    exact ⟨m1 ++ m2, by rw [e2, Array.append_assoc]⟩
  · obtain ⟨m, hn, hl⟩ := I.loc
    refine ⟨m, ns m hn, fun i x v e1 e2 e3 => ?_⟩
    obtain ⟨u, r, l⟩ := hl i x v e1 e2 e3
    refine ⟨u, r, ?_⟩
    rcases l with l | ⟨k, c, e, z⟩
    · exact .inl l
    · exact .inr ⟨k, c, e, cellK x c e _ z⟩
  · obtain ⟨v, z⟩ := I.cell x c e
    exact ⟨v, cellK x c e v z⟩
  · obtain ⟨m, ⟨o, _, _, ho, _⟩, _⟩ := I.loc
    exact free _ o (fun z => (hch _ z).2.1 rfl) ho I.free
  · obtain ⟨v, o, ho, hd⟩ := I.cell x c e
    exact free c o (fun z => (hch c z).2.2.1 x c e rfl) ho (I.freeC x c e)
  · obtain ⟨e, n, ne, nf, d⟩ := I.pin p hp
    have nch : p.1 ∉ ch := fun z => (hch p.1 z).2.2.2 p hp rfl
    exact ⟨keep p.1 p.2 ne nf nch e n, free p.1 p.2 nch e n, ne, nf, d⟩
theorem Inv.un {t' : Nat} (I : Inv X pins σ H s) (u : Un X.fs [] H H' s.heap h') (hok : HOk X.prog X.w H' h') : Inv X pins σ H' { s with heap := h', toks := t' } := by
  obtain ⟨m, ⟨o, es, ep, ho, r⟩, _⟩ := id I.loc
  obtain ⟨sl, hL⟩ := u.any ho I.free (by simp)
  exact I.step (g' := s.gens) (d' := s.drawn) (ch := []) (fun _ z => nomatch z) (fun b o _ hb _ e n => u.keep b o e n hb (by simp)) (fun b o _ hb _ e n => u.slot b o e n hb (by simp)) (fun b o _ e n => u.free b o e n (by simp)) (fun b o _ e => u.there b o e (by simp)) u.tups u.frzs u.tbls (fun m' hm => by
    obtain ⟨o', es', ep', ho', r'⟩ := hm
    rw [ho] at ho'; cases ho'
    exact ⟨_, es', ep', hL, r'⟩) hok I.bare
theorem Inv.call {g' : Array GenState} {t' : Nat} {d' : Drawn} {ch : List Addr} (I : Inv X pins σ H s) (u : Un (frs X.stack) ch H H' s.heap h') (hok : HOk X.prog X.w H' h') (hg : AllBare g')
    (hch : ∀ b ∈ ch, (b ∈ X.ex ∨ X.s₀.heap.objs.size ≤ b) ∧ b ≠ X.env.locals ∧ (∀ x c, X.env.cells.lookup x = some c → c ≠ b) ∧ ∀ p ∈ X.pn ++ pins, p.1 ≠ b) :
    Inv X pins σ H' { s with heap := h', gens := g', drawn := d', toks := t' } := by
  obtain ⟨m, ⟨o, es, ep, ho, r⟩, _⟩ := id I.loc
  obtain ⟨sl, hL⟩ := u.any ho I.free fun z => (hch _ z).2.1 rfl
  exact I.step (ch := ch) hch (fun b o hL hb hc e n => u.keep b o e n (fun z => (List.mem_cons.mp (I.stkSub b z)).elim hL hb) hc) (fun b o _ _ hc e n => u.any e n hc) (fun b o hc e n => u.free b o e n hc) (fun b o hc e => u.there b o e hc) u.tups u.frzs u.tbls (fun m' hm => by
    obtain ⟨o', es', ep', ho', r'⟩ := hm
    rw [ho] at ho'; cases ho'
    exact ⟨_, es', ep', hL, r'⟩) hok hg
theorem Inv.turned {t' : Nat} {it : Addr} (I : Inv X pins σ H s) (k : ∀ b o, b ≠ it → s.heap.get? b = some o → h'.get? b = some o) (hn : H it = none) (hL : it ≠ X.env.locals)
    (h1 : it ∈ X.ex ∨ X.s₀.heap.objs.size ≤ it) (h2 : ∀ x c, X.env.cells.lookup x = some c → c ≠ it) (h3 : ∀ p ∈ X.pn ++ pins, p.1 ≠ it) : Inv X pins σ H { s with heap := h', toks := t' } := by
  have nit : ∀ b u, H b = some u → b ≠ it := fun b u e z => by rw [z, hn] at e; cases e
  refine I.step (g' := s.gens) (d' := s.drawn) (ch := [it]) (fun b hb => ?_) (fun b o _ _ hc e _ => k b o (fun z => hc (by simp [z])) e) (fun b o _ _ hc e _ => ⟨o.slots, k b o (fun z => hc (by simp [z])) e⟩) (fun _ _ _ _ n => n)
    (fun b o hc e => ⟨o, k b o (fun z => hc (by simp [z])) e⟩) (fun _ _ e => e) (fun _ _ _ e => e) (fun b ps e => ⟨#[], by rw [e]; simp⟩) (fun m hm => ?_) (fun b u e => ?_) I.bare
  · have e : b = it := by simpa using hb
    subst e
    exact ⟨h1, hL, h2, h3⟩
  · obtain ⟨o, es, ep, ho, r⟩ := hm
    exact ⟨o, es, ep, k _ o (Ne.symm hL) ho, r⟩
  · refine (I.hok b u e).stay (fun c v hc q => k c v ?_ q) (fun _ q => q) fun _ _ q => q
    rcases hc with z | z
    · rw [z]; exact nit b u e
    · exact nit c _ z
theorem Inv.tok (I : Inv X pins σ H s) (t : Nat) : Inv X pins σ H { s with toks := t } := I.un (h' := s.heap) (t' := t) Un.refl I.hok
theorem Inv.kept {t' : Nat} (I : Inv X pins σ H s) (k : ∀ b u, s.heap.get? b = some u → h'.get? b = some u) : Inv X pins σ H { s with heap := h', toks := t' } := I.un (Un.kept k) (I.hok.kept k)
theorem Inv.laid {a : Addr} {o : HO} {t' : Nat} (I : Inv X pins σ H s) (k : ∀ b u, s.heap.get? b = some u → h'.get? b = some u) (hp : s.heap.objs.size ≤ a) (new : ObjOk X.prog X.w (upd H a o) h' a o) :
    Inv X pins σ (upd H a o) { s with heap := h', toks := t' } := I.un (Un.laid k hp (I.hok.fresh hp)) (I.hok.laid k hp new)
theorem Inv.write {x e : Addr} {o : HO} {t' : Nat} (I : Inv X pins σ H s) (mu : Mut (H x)) (he : e = x ∨ H e = some (.own x)) (k : ∀ b u, b ≠ e → s.heap.get? b = some u → h'.get? b = some u) (heo : ∃ u, h'.get? e = some u)
    (new : ObjOk X.prog X.w (upd H x o) h' x o) : Inv X pins σ (upd H x o) { s with heap := h', toks := t' } := I.un (Un.write mu he k heo) (I.hok.write mu he k heo new)
theorem Inv.pins_of {pins' : List (Addr × Obj)} (I : Inv X pins σ H s) (h : ∀ p ∈ pins', s.heap.get? p.1 = some p.2 ∧ H p.1 = none ∧ p.1 ≠ X.env.locals ∧ p.1 ∉ X.fs ∧ ∀ v, p.2.data ≠ .cell v) : Inv X pins' σ H s :=
  ⟨I.ok, I.os, I.bare, I.base, I.loc, I.cell, I.free, I.freeC, fun p hp => (List.mem_append.mp hp).elim (fun z => I.pin p (List.mem_append_left _ z)) (h p), I.hok, I.len⟩
theorem nodup_ix {N : List Str} (hN : N.Nodup) {i j : Nat} {x : Str} (a : N[i]? = some x) (b : N[j]? = some x) : i = j := by
  obtain ⟨h1, e1⟩ := List.getElem?_eq_some_iff.mp a
  obtain ⟨h2, e2⟩ := List.getElem?_eq_some_iff.mp b
  exact (List.getElem_inj hN).mp (e1.trans e2.symm)
theorem store_ok2 {M : Model} {A : Around} {E : Value → Shared → Prop} {i : Nat} {x : Str} {v : V} {u : Value} {Q : Unit → Shared → Prop} (I : Inv X pins σ H s) (hN : X.N.Nodup) (hi : X.N[i]? = some x) (hx : Loc X.env.scope x) (r : RelV v u)
    (h : ∀ s', Inv X pins (σ.set i (some v)) H s' → (∃ a, Heap.SameBut a s.heap s'.heap ∧ (a = X.env.locals ∨ X.env.cells.lookup x = some a)) → Q () s') (hf : X.fn x = true ∨ X.env.scope.names.lookup x = some .local := by first | exact .inl rfl | exact .inr rfl | assumption) : wpAny M A (storeName X.env x u) Q E s := by
  obtain ⟨m, hn, hl⟩ := id I.loc
  have hcls : (X.env.scope.kind == .class || (X.env.scope.kind == .module && X.env.locals != X.env.globals)) = false := by rw [I.ok.kind]; rfl
  have hiσ : i < σ.length := by rw [I.len]; exact (List.getElem?_eq_some_iff.mp hi).1
  have cne := I.cne
  have tracked : ∀ {a : Addr} {h' : Heap}, (∃ o, s.heap.get? a = some o ∧ H a = none) → Heap.SameBut a s.heap h' → HOk X.prog X.w H h' := fun {a h'} ha hs b ob e => by
    obtain ⟨_, _, hfree⟩ := ha
    refine (I.hok b ob e).stay (fun c w' hc q => (hs.2 c ?_).trans q) (fun _ q => q) fun _ _ q => q
    rintro rfl
    rcases hc with rfl | hc
    · rw [hfree] at e; cases e
    · rw [hfree] at hc; cases hc
  rcases hx with hk | hk
  · refine wpAny_storeName_local hk hn (fun h' hn' hs => ?_) hcls
    obtain ⟨oL, _, _, hoL, _⟩ := id hn
    refine h _ ⟨I.ok, I.os, I.bare, ⟨fun b o e n hb hx => ?_, fun b o e n hb hx => ?_, I.base.free, fun b o e hx => ?_, I.base.tups, I.base.frzs, I.base.tbls⟩, ⟨_, hn', fun j y v' e1 e2 e3 => ?_⟩, fun y c e => ?_, I.free, I.freeC, fun p hp => ?_, tracked ⟨oL, hoL, I.free⟩ hs, by simpa using I.len⟩ ⟨_, hs, .inl rfl⟩
    · exact (hs.2 b (Nat.ne_of_lt (Nat.lt_of_lt_of_le (Heap.lt_size e) I.ok.above))).trans (I.base.keep b o e n hb hx)
    · obtain ⟨sl, e1⟩ := I.base.slot b o e n hb hx
      exact ⟨sl, (hs.2 b (Nat.ne_of_lt (Nat.lt_of_lt_of_le (Heap.lt_size e) I.ok.above))).trans e1⟩
    · obtain ⟨o', e1⟩ := I.base.there b o e hx
      exact ⟨o', (hs.2 b (Nat.ne_of_lt (Nat.lt_of_lt_of_le (Heap.lt_size e) I.ok.above))).trans e1⟩
    · by_cases hj : j = i
      · subst hj
        rw [hi] at e1; cases e1
        rw [List.getElem?_set_self hiσ] at e2
        cases e2
        exact ⟨u, r, .inl ⟨hk, by simp⟩⟩
      · rw [List.getElem?_set_ne (Ne.symm hj)] at e2
        obtain ⟨u', r', q⟩ := hl j y v' e1 e2 e3
        refine ⟨u', r', ?_⟩
        rcases q with ⟨k, e⟩ | ⟨k, c, e, z⟩
        · refine .inl ⟨k, ?_⟩
          have : y ≠ x := fun e => hj (nodup_ix hN e1 (e ▸ hi))
          simp [this, e]
        · exact .inr ⟨k, c, e, z.sameBut hs (cne y c e)⟩
    · obtain ⟨w', z⟩ := I.cell y c e
      exact ⟨w', z.sameBut hs (cne y c e)⟩
    · obtain ⟨e, n, ne, nf, d⟩ := I.pin p hp
      exact ⟨(hs.2 p.1 ne).trans e, n, ne, nf, d⟩
  · have hfn : X.fn x = true := by
      rcases hf with z | z
      · exact z
      · rw [z] at hk; cases hk
    obtain ⟨c, hc⟩ := I.ok.has x (.inl hk)
    obtain ⟨w', z⟩ := I.cell x c hc
    refine wpAny_storeName_cell I.ok.kind hk hc z (fun h' hc' hs => ?_)
    obtain ⟨oc, hoc, hocd⟩ := id z
    refine h { s with heap := h' } ⟨I.ok, I.os, I.bare, ⟨fun b o e n hb hx => ?_, fun b o e n hb hx => ?_, I.base.free, fun b o e hx => ?_, I.base.tups, I.base.frzs, I.base.tbls⟩, ⟨m, hn.sameBut hs (Ne.symm (cne x c hc)), fun j y v' e1 e2 e3 => ?_⟩, fun y c' e => ?_, I.free, I.freeC, fun p hp => ?_, tracked ⟨oc, hoc, I.freeC x c hc⟩ hs, by simpa using I.len⟩ ⟨c, hs, .inr hc⟩
    · exact (hs.2 b (Nat.ne_of_lt (Nat.lt_of_lt_of_le (Heap.lt_size e) (I.ok.cab x c hfn hc)))).trans (I.base.keep b o e n hb hx)
    · obtain ⟨sl, e1⟩ := I.base.slot b o e n hb hx
      exact ⟨sl, (hs.2 b (Nat.ne_of_lt (Nat.lt_of_lt_of_le (Heap.lt_size e) (I.ok.cab x c hfn hc)))).trans e1⟩
    · obtain ⟨o', e1⟩ := I.base.there b o e hx
      exact ⟨o', (hs.2 b (Nat.ne_of_lt (Nat.lt_of_lt_of_le (Heap.lt_size e) (I.ok.cab x c hfn hc)))).trans e1⟩
    · by_cases hj : j = i
      · subst hj
        rw [hi] at e1; cases e1
        rw [List.getElem?_set_self hiσ] at e2
        cases e2
        exact ⟨u, r, .inr ⟨.inl hk, c, hc, hc'⟩⟩
      · rw [List.getElem?_set_ne (Ne.symm hj)] at e2
        obtain ⟨u', r', q⟩ := hl j y v' e1 e2 e3
        refine ⟨u', r', ?_⟩
        rcases q with q | ⟨k, c', e, z'⟩
        · exact .inl q
        · refine .inr ⟨k, c', e, z'.sameBut hs ?_⟩
          rintro rfl
          exact hj (nodup_ix hN e1 (I.ok.inj _ _ _ e hc ▸ hi))
    · by_cases hcc : c' = c
      · subst hcc; exact ⟨_, hc'⟩
      · obtain ⟨w2, z2⟩ := I.cell y c' e
        exact ⟨w2, z2.sameBut hs hcc⟩
    · obtain ⟨e, n, ne, nf, d⟩ := I.pin p hp
      refine ⟨(hs.2 p.1 ?_).trans e, n, ne, nf, d⟩
      intro q
      rw [q, hoc] at e
      have q' : oc = p.2 := Option.some.inj e
      exact d w' (by rw [← q']; exact hocd)
theorem store_ok {M : Model} {A : Around} {E : Value → Shared → Prop} {i : Nat} {x : Str} {v : V} {u : Value} {Q : Unit → Shared → Prop} (I : Inv X pins σ H s) (hN : X.N.Nodup) (hi : X.N[i]? = some x) (hx : Loc X.env.scope x) (r : RelV v u)
    (h : ∀ s', Inv X pins (σ.set i (some v)) H s' → Q () s') (hf : X.fn x = true ∨ X.env.scope.names.lookup x = some .local := by first | exact .inl rfl | exact .inr rfl | assumption) : wpAny M A (storeName X.env x u) Q E s :=
  store_ok2 I hN hi hx r (fun s' I' _ => h s' I') hf
theorem Inv.call' {s' : Shared} {ch : List Addr} (I : Inv X pins σ H s) (ho : s'.os = s.os) (u : Un (frs X.stack) ch H H' s.heap s'.heap) (hok : HOk X.prog X.w H' s'.heap) (hg : AllBare s'.gens)
    (hch : ∀ b ∈ ch, (b ∈ X.ex ∨ X.s₀.heap.objs.size ≤ b) ∧ b ≠ X.env.locals ∧ (∀ x c, X.env.cells.lookup x = some c → c ≠ b) ∧ ∀ p ∈ X.pn ++ pins, p.1 ≠ b) : Inv X pins σ H' s' := by
  obtain ⟨h', g', d', t', o'⟩ := s'
  have e : o' = s.os := ho
  subst e
  exact I.call (g' := g') (t' := t') (d' := d') u hok hg hch
end
abbrev XK := Value → Option Addr → Hp → Prop
abbrev St := List (Option V)
abbrev VK := V → Hp → Prop
abbrev TE := St → Hp → VK → Prop
abbrev TT := St → Hp → (Bool → Hp → Prop) → Prop
abbrev TA := St → Hp → (List V → Hp → Prop) → Prop
structure Ends where
  nx : St → Hp → Prop
  rt : VK
  bk : St → Hp → Prop := fun _ _ => False
  ct : St → Hp → Prop := fun _ _ => False
abbrev TS := Ends → St → Hp → Prop
def EP (X : Cx) (pins : List (Addr × Obj)) (σ : St) (Q : VK) (u : Value) (s' : Shared) : Prop := ∃ v H', Inv X pins σ H' s' ∧ RelV v u ∧ Q v H'
def TP (X : Cx) (pins : List (Addr × Obj)) (σ : St) (Q : Bool → Hp → Prop) (b : Bool) (s' : Shared) : Prop := ∃ H', Inv X pins σ H' s' ∧ Q b H'
def AP (X : Cx) (pins : List (Addr × Obj)) (σ : St) (Q : List V → Hp → Prop) (us : List Value) (s' : Shared) : Prop := ∃ vs H', Inv X pins σ H' s' ∧ Vals vs us ∧ Q vs H'
def SP (X : Cx) (pins : List (Addr × Obj)) (D : Ends) (f : Flow) (s' : Shared) : Prop :=
  match f with
  | .next => ∃ σ' H', Inv X pins σ' H' s' ∧ D.nx σ' H'
  | .brk => ∃ σ' H', Inv X pins σ' H' s' ∧ D.bk σ' H'
  | .cont => ∃ σ' H', Inv X pins σ' H' s' ∧ D.ct σ' H'
  | .ret u => ∃ v σ' H', Inv X pins σ' H' s' ∧ RelV v u ∧ D.rt v H'
def PE (X : Cx) (e : Expr) (t : TE) : Prop :=
  ∀ (pins : List (Addr × Obj)) (s : Shared) (σ : St) (H : Hp) (Q : VK), Inv X pins σ H s → t σ H Q → wpAny (model X.prog X.w) X.A (eval e X.env) (EP X pins σ Q) X.xe s
def PT (X : Cx) (e : Expr) (t : TT) : Prop :=
  ∀ (pins : List (Addr × Obj)) (s : Shared) (σ : St) (H : Hp) (Q : Bool → Hp → Prop), Inv X pins σ H s → t σ H Q → wpAny (model X.prog X.w) X.A (isTrue e X.env (eval e X.env)) (TP X pins σ Q) X.xe s
def PW (X : Cx) (e : Expr) (t : TT) : Prop :=
  ∀ (whole : Sem Value) (pins : List (Addr × Obj)) (s : Shared) (σ : St) (H : Hp) (Q : Bool → Hp → Prop), Inv X pins σ H s → t σ H Q → wpAny (model X.prog X.w) X.A (isTrue e X.env whole) (TP X pins σ Q) X.xe s
theorem PW.pt {X : Cx} {e : Expr} {t : TT} (h : PW X e t) : PT X e t := h _
def PA (X : Cx) (es : List Expr) (t : TA) : Prop :=
  ∀ (pos : Pos) (pins : List (Addr × Obj)) (s : Shared) (σ : St) (H : Hp) (Q : List V → Hp → Prop), Inv X pins σ H s → t σ H Q → wpAny (model X.prog X.w) X.A (spliced (backTo pos (starEach es X.env))) (AP X pins σ Q) X.xe s
def PS (X : Cx) (st : Stmt) (t : TS) : Prop :=
  ∀ (pins : List (Addr × Obj)) (s : Shared) (σ : St) (H : Hp) (D : Ends), Inv X pins σ H s → t D σ H → wpAny (model X.prog X.w) X.A (exec st X.env) (SP X pins D) X.xe s
def PSs (X : Cx) (st : List Stmt) (t : TS) : Prop :=
  ∀ (pins : List (Addr × Obj)) (s : Shared) (σ : St) (H : Hp) (D : Ends), Inv X pins σ H s → t D σ H → wpAny (model X.prog X.w) X.A (execs st X.env) (SP X pins D) X.xe s
theorem thn {α : Type} {t : Sem α} {Q Q' : α → Shared → Prop} {M : Model} {A : Around} {E : Value → Shared → Prop} {s : Shared} (h : wpAny M A t Q E s) (hQ : ∀ a s, Q a s → Q' a s) : wpAny M A t Q' E s := wpAny_mono h hQ fun _ _ x => x
section
variable {X : Cx}
def tVar (i : Nat) : TE := fun σ H Q => ∃ v, σ[i]? = some (some v) ∧ Q v H
def tC (v : V) : TE := fun _ H Q => Q v H
theorem pe_var {i : Nat} {x : Str} {pos : Pos} (hN : X.N[i]? = some x) (hv : Vis X.env.scope x) (hd : (x == ("__debug__" : Str)) = false := by decide) (hcd : (x == ("__classdict__" : Str)) = false := by decide) : PE X (.Name x pos) (tVar i) := by
  intro pins s σ H Q I h
  obtain ⟨v, e, h⟩ := h
  obtain ⟨m, hn, hl⟩ := I.loc
  obtain ⟨u, r, l⟩ := hl i x v hN e hv
  have fin : EP X pins σ Q u s := ⟨v, H, I, r, h⟩
  rcases l with ⟨hk, hm⟩ | ⟨hk, c, hc, hcell⟩
  · exact wpAny_Name (wpAny_loadName_local I.ok.kind hk hn hm fin) hd
  · rcases hk with hk | hk
    · exact wpAny_Name (wpAny_loadName_cell I.ok.kind hk hc hcell fin) hd
    · exact wpAny_Name (wpAny_loadName_free I.ok.kind hk hc hcell fin hcd) hd
theorem pe_int {i j pos} : PE X (.Constant (.int i) j pos) (tC (.int i)) := fun _ _ _ H _ I h => wpAny_Constant_int ⟨.int i, H, I.tok _, ⟨_, rfl⟩, h⟩
theorem pe_bl {b j pos} : PE X (.Constant (.bool b) j pos) (tC (.bl b)) := fun _ _ _ H _ I h => Constant_bool ⟨.bl b, H, I, rfl, h⟩
theorem pe_non {j pos} : PE X (.Constant .none j pos) (tC .non) := fun _ _ _ H _ I h => Constant_none ⟨.non, H, I, rfl, h⟩
theorem pe_str {x j pos} : PE X (.Constant (.str x) j pos) (tC (.str x)) := fun _ _ _ H _ I h => Calls.Constant_str ⟨.str x, H, I.tok _, ⟨_, rfl⟩, h⟩
def Gl (X : Cx) (x : Str) : Prop := X.env.kindOf x = some .globalImplicit
theorem ld_glob {E : Value → Shared → Prop} {pins : List (Addr × Obj)} {s : Shared} {σ : St} {H : Hp} {x : Str} {u : Value} {pos : Pos} {Q : Value → Shared → Prop} (I : Inv X pins σ H s) (hg : Gl X x) (hm : X.mg x = some u) (h : Q u s)
    (hd : (x == ("__debug__" : Str)) = false := by decide) : wpAny (model X.prog X.w) X.A (eval (.Name x pos) X.env) Q E s :=
  Calls.Name_function_global I.ok.kind hg (Calls.loadGlobal_global (by rw [I.ok.glob]; exact I.mod.glob.keeps I.bk) hm h) hd
theorem ld_blt {E : Value → Shared → Prop} {pins : List (Addr × Obj)} {s : Shared} {σ : St} {H : Hp} {x : Str} {u : Value} {pos : Pos} {Q : Value → Shared → Prop} (I : Inv X pins σ H s) (hg : Gl X x) (hm : X.mg x = none) (hv : bootBuiltins x = some u) (h : Q u s)
    (hn : x ≠ "__name__" := by decide) (hd : (x == ("__debug__" : Str)) = false := by decide) : wpAny (model X.prog X.w) X.A (eval (.Name x pos) X.env) Q E s := by
  obtain ⟨mb, h1, h2⟩ := I.mod.blt
  exact Calls.Name_function_global I.ok.kind hg (Calls.loadGlobal_builtin (by rw [I.ok.glob]; exact I.mod.glob.keeps I.bk) hm (by rw [I.ok.blt]; exact h1.keeps I.bk) ((h2 x hn).trans hv) h) hd
theorem pe_glob {x : Str} {v : V} {u : Value} {pos : Pos} (hg : Gl X x) (hm : X.mg x = some u) (r : RelV v u) (hd : (x == ("__debug__" : Str)) = false := by decide) : PE X (.Name x pos) (tC v) :=
  fun _ _ _ H _ I h => ld_glob I hg hm ⟨v, H, I, r, h⟩ hd
theorem pe_bltn {x : Str} {v : V} {u : Value} {pos : Pos} (hg : Gl X x) (hm : X.mg x = none) (hv : bootBuiltins x = some u) (r : RelV v u) (hn : x ≠ "__name__" := by decide) (hd : (x == ("__debug__" : Str)) = false := by decide) : PE X (.Name x pos) (tC v) :=
  fun _ _ _ H _ I h => ld_blt I hg hm hv ⟨v, H, I, r, h⟩ hn hd
variable {a b : Expr} {ta tb : TE} {pos : Pos}
def tB (t : TE) : TT := fun σ H Q => t σ H fun x H1 => ∃ c, x = .bl c ∧ Q c H1
theorem pt_val {e : Expr} {t : TE} (h : PE X e t) (he : ∀ whole, isTrue e X.env whole = (do let v ← whole; standAt e.pos; holding [v] (truthy v)) := by intro _; rfl) : PT X e (tB t) := by
  intro pins s σ H Q I hw
  refine isTrue_plain (thn (h pins s σ H _ I hw) fun v s1 ⟨x, H1, I1, r1, q1⟩ => ?_) (he _)
  obtain ⟨d, rfl, q⟩ := q1
  cases r1
  exact wpAny_truthy_bool ⟨H1, I1, q⟩
variable {tA tB' : TT} {rest : List Expr}
def tAnd (t u : TT) : TT := fun σ H Q => t σ H fun c H1 => if c = true then u σ H1 Q else Q false H1
def tOr (t u : TT) : TT := fun σ H Q => t σ H fun c H1 => if c = true then Q true H1 else u σ H1 Q
def tNot (t : TT) : TT := fun σ H Q => t σ H fun c H1 => Q (!c) H1
theorem pw_and1 (ha : PT X a tA) : PW X (.BoolOp .And [a] pos) tA := by
  intro wh pins s σ H Q I h
  refine isTrue_and (thn (ha pins s σ H Q I h) fun c s1 e => ?_)
  cases c with
  | true => exact isTrue_and_nil e
  | false => exact e
theorem pw_or1 (ha : PT X a tA) : PW X (.BoolOp .Or [a] pos) tA := by
  intro wh pins s σ H Q I h
  refine isTrue_or (thn (ha pins s σ H Q I h) fun c s1 e => ?_)
  cases c with
  | false => exact isTrue_or_nil e
  | true => exact e
theorem pw_and (ha : PT X a tA) (hb : PW X (.BoolOp .And (b :: rest) pos) tB') : PW X (.BoolOp .And (a :: b :: rest) pos) (tAnd tA tB') := by
  intro wh pins s σ H Q I h
  refine isTrue_and (thn (ha pins s σ H _ I h) fun c s1 ⟨H1, I1, q1⟩ => ?_)
  cases c with
  | true => exact hb wh pins s1 σ H1 Q I1 q1
  | false => exact ⟨H1, I1, q1⟩
theorem pw_or (ha : PT X a tA) (hb : PW X (.BoolOp .Or (b :: rest) pos) tB') : PW X (.BoolOp .Or (a :: b :: rest) pos) (tOr tA tB') := by
  intro wh pins s σ H Q I h
  refine isTrue_or (thn (ha pins s σ H _ I h) fun c s1 ⟨H1, I1, q1⟩ => ?_)
  cases c with
  | true => exact ⟨H1, I1, q1⟩
  | false => exact hb wh pins s1 σ H1 Q I1 q1
theorem pt_not (ha : PT X a tA) : PT X (.UnaryOp .Not a pos) (tNot tA) := by
  intro pins s σ H Q I h
  exact isTrue_not (ha pins s σ H (fun c H1 => Q (!c) H1) I h)
def tAndV (ta tb : TE) : TE := fun σ H Q => ta σ H fun x H1 => ∃ c, x = .bl c ∧ if c = true then tb σ H1 Q else Q (.bl false) H1
def tOrV (ta tb : TE) : TE := fun σ H Q => ta σ H fun x H1 => ∃ c, x = .bl c ∧ if c = true then Q (.bl true) H1 else tb σ H1 Q
def tNotV (ta : TE) : TE := fun σ H Q => ta σ H fun x H1 => ∃ c, x = .bl c ∧ Q (.bl (!c)) H1
theorem pe_one {op} {t : TE} (h : PE X a t) : PE X (.BoolOp op [a] pos) t := fun pins s σ H Q I hw => BoolOp_one (h pins s σ H Q I hw)
theorem pe_and (ha : PE X a ta) (hb : PE X (.BoolOp .And (b :: rest) pos) tb) : PE X (.BoolOp .And (a :: b :: rest) pos) (tAndV ta tb) := by
  intro pins s σ H Q I h
  refine BoolOp_and (thn (ha pins s σ H _ I h) fun v s1 ⟨x, H1, I1, r1, q1⟩ => ?_)
  obtain ⟨c, rfl, q1⟩ := q1
  cases r1
  refine wpAny_truthy_bool ?_
  cases c with
  | true => exact hb pins s1 σ H1 Q I1 q1
  | false => exact ⟨.bl false, H1, I1, rfl, q1⟩
theorem pe_or (ha : PE X a ta) (hb : PE X (.BoolOp .Or (b :: rest) pos) tb) : PE X (.BoolOp .Or (a :: b :: rest) pos) (tOrV ta tb) := by
  intro pins s σ H Q I h
  refine BoolOp_or (thn (ha pins s σ H _ I h) fun v s1 ⟨x, H1, I1, r1, q1⟩ => ?_)
  obtain ⟨c, rfl, q1⟩ := q1
  cases r1
  refine wpAny_truthy_bool ?_
  cases c with
  | false => exact hb pins s1 σ H1 Q I1 q1
  | true => exact ⟨.bl true, H1, I1, rfl, q1⟩
theorem pe_not (ha : PE X a ta) : PE X (.UnaryOp .Not a pos) (tNotV ta) := by
  intro pins s σ H Q I h
  refine UnaryOp_ (thn (ha pins s σ H _ I h) fun v s1 ⟨x, H1, I1, r1, q1⟩ => ?_)
  obtain ⟨c, rfl, q1⟩ := q1
  cases r1
  exact not_of (wpAny_truthy_bool ⟨.bl (!c), H1, I1, rfl, q1⟩)
end
def SqL (K : PySem.W.Frag) (H : Hp) (a : Addr) (xs : List V) : Prop :=
  Rd H a (.lst xs) ∨
    ∃ (o : Obj) (its : Array Value) (n : Nat), K.lookup a = some o ∧ o.cls = .type "list" ∧ o.dict = none ∧ o.data = .seq its n ∧ its.size ≤ sizeLine ∧ Vals xs its.toList
def SqT (K : PySem.W.Frag) (H : Hp) (a : Addr) (xs : List V) : Prop :=
  Rd H a (.tup xs) ∨
    ∃ (o : Obj) (its : Array Value) (n : Nat), K.lookup a = some o ∧ o.cls = .type "tuple" ∧ o.data = .seq its n ∧ its.size ≤ sizeLine ∧ Vals xs its.toList
def absV : Value → Option V
  | .none => some .non
  | .bool b => some (.bl b)
  | .int i _ => some (.int i)
  | .str x _ => some (.str x)
  | .bytes b _ => some (.byt b)
  | .float b _ => some (.flt b)
  | .ref a => some (.ref a)
  | .type n => some (.ty n)
  | _ => none
theorem RelV.abs {x : V} {u : Value} (r : RelV x u) : absV u = some x := by
  cases x with
  | non => cases r; rfl
  | bl _ => cases r; rfl
  | int _ => obtain ⟨t, rfl⟩ := r; rfl
  | str _ => obtain ⟨t, rfl⟩ := r; rfl
  | byt _ => obtain ⟨t, rfl⟩ := r; rfl
  | flt _ => obtain ⟨t, rfl⟩ := r; rfl
  | ref _ => cases r; rfl
  | ty _ => cases r; rfl
theorem RelV.inj {x y : V} {u : Value} (r : RelV x u) (q : RelV y u) : x = y := Option.some.inj (r.abs.symm.trans q.abs)
theorem Vals.inj : ∀ {xs ys : List V} {us : List Value}, Vals xs us → Vals ys us → xs = ys
  | _, _, _, .nil, .nil => rfl
  | _, _, _, .cons r t, .cons r' t' => by rw [r.inj r', Vals.inj t t']
section
variable {X : Cx} {pins : List (Addr × Obj)} {σ : St} {H : Hp} {s : Shared} {a : Addr} {xs ys : List V}
theorem SqL.of {K : PySem.W.Frag} (h : H a = some (.lst xs)) : SqL K H a xs := .inl (.inl h)
theorem SqT.of {K : PySem.W.Frag} (h : H a = some (.tup xs)) : SqT K H a xs := .inl (.inl h)
theorem Inv.list (I : Inv X pins σ H s) (h : SqL X.K H a xs) : ∃ its : List Value, Vals xs its ∧ PlainL s.heap a its.toArray ∧ xs.length ≤ sizeLine := by
  rcases h with h | ⟨o, its, n, hk, hc, hd, hs, hz, r⟩
  · obtain ⟨z, its, n, r, e⟩ := h.ok I.hok
    exact ⟨its, r, ⟨_, n, e, rfl, rfl, rfl⟩, z⟩
  · refine ⟨its.toList, r, ⟨o, n, I.kIn a o hk, hc, hd, by simpa using hs⟩, ?_⟩
    have e := r.length
    simp only [Array.length_toList] at e
    omega
theorem Inv.tuple (I : Inv X pins σ H s) (h : SqT X.K H a xs) : ∃ its : List Value, Vals xs its ∧ IsTup s.heap a its.toArray ∧ xs.length ≤ sizeLine := by
  rcases h with h | ⟨o, its, n, hk, hc, hs, hz, r⟩
  · obtain ⟨z, its, r, p⟩ := h.ok I.hok
    exact ⟨its, r, p, z⟩
  · refine ⟨its.toList, r, ⟨o, I.kIn a o hk, hc, n, by simpa using hs⟩, ?_⟩
    have e := r.length
    simp only [Array.length_toList] at e
    omega
theorem Inv.list_inj (I : Inv X pins σ H s) (h : SqL X.K H a xs) (h' : SqL X.K H a ys) : xs = ys := by
  obtain ⟨its, r, ⟨o, n, e, _, _, d⟩, _⟩ := I.list h
  obtain ⟨its', r', ⟨o', n', e', _, _, d'⟩, _⟩ := I.list h'
  rw [e] at e'; cases e'
  rw [d] at d'
  injection d' with d1 _
  have : its = its' := by simpa using congrArg Array.toList d1
  subst this
  exact r.inj r'
theorem Inv.tuple_inj (I : Inv X pins σ H s) (h : SqT X.K H a xs) (h' : SqT X.K H a ys) : xs = ys := by
  obtain ⟨its, r, ⟨o, e, _, n, d⟩, _⟩ := I.tuple h
  obtain ⟨its', r', ⟨o', e', _, n', d'⟩, _⟩ := I.tuple h'
  rw [e] at e'; cases e'
  rw [d] at d'
  injection d' with d1 _
  have : its = its' := by simpa using congrArg Array.toList d1
  subst this
  exact r.inj r'
end
abbrev Cx.wish (X : Cx) (E : Value → Shared → Prop) : Cx := { X with xe := E }
abbrev Cx.nox (X : Cx) : Cx := X.wish fun _ _ => False
theorem Cx.Ok.wish {X : Cx} (ok : X.Ok) (E : Value → Shared → Prop) : (X.wish E).Ok :=
  ⟨ok.mod, ok.kind, ok.glob, ok.blt, ok.above, ok.inj, ok.has, ok.cab, ok.hd, ok.frames, ok.stk, ok.exf, ok.bs, ok.bsz, ok.noex, ok.exfs, ok.funs, ok.frf⟩
theorem Cx.Ok.unwish {X : Cx} {E : Value → Shared → Prop} (ok : (X.wish E).Ok) : X.Ok :=
  ⟨ok.mod, ok.kind, ok.glob, ok.blt, ok.above, ok.inj, ok.has, ok.cab, ok.hd, ok.frames, ok.stk, ok.exf, ok.bs, ok.bsz, ok.noex, ok.exfs, ok.funs, ok.frf⟩
section
variable {X : Cx} {pins : List (Addr × Obj)} {σ : St} {H : Hp} {s : Shared} {E : Value → Shared → Prop}
theorem Inv.wish (I : Inv X pins σ H s) (E : Value → Shared → Prop) : Inv (X.wish E) pins σ H s := ⟨I.ok.wish E, I.os, I.bare, I.base, I.loc, I.cell, I.free, I.freeC, I.pin, I.hok, I.len⟩
theorem Inv.unwish (I : Inv (X.wish E) pins σ H s) : Inv X pins σ H s := ⟨I.ok.unwish, I.os, I.bare, I.base, I.loc, I.cell, I.free, I.freeC, I.pin, I.hok, I.len⟩
theorem SP.unwish {D : Ends} {f : Flow} {s' : Shared} (h : SP (X.wish E) pins D f s') : SP X pins D f s' := by
  cases f with
  | next => obtain ⟨σ', H', I, q⟩ := h; exact ⟨σ', H', I.unwish, q⟩
  | brk => obtain ⟨σ', H', I, q⟩ := h; exact ⟨σ', H', I.unwish, q⟩
  | cont => obtain ⟨σ', H', I, q⟩ := h; exact ⟨σ', H', I.unwish, q⟩
  | ret u => obtain ⟨v, σ', H', I, r, q⟩ := h; exact ⟨v, σ', H', I.unwish, r, q⟩
theorem PSs.nox {st : List Stmt} {t : TS} (h : PSs X.nox st t) : PSs X st t := fun pins s σ H D I hw =>
  wpAny_mono (h pins s σ H D (I.wish _) hw) (fun _ _ q => q.unwish) fun _ _ z => False.elim z
end
section
variable {X : Cx} {st : Stmt} {rest : List Stmt} {t u : TS} {e : Expr} {te : TE} {pos : Pos}
def tNext : TS := fun D σ H => D.nx σ H
def tSeq (t u : TS) : TS := fun D σ H => t { D with nx := u D } σ H
theorem pss_nil : PSs X [] tNext := fun _ _ σ H _ I h => wpAny_execs_nil ⟨σ, H, I, h⟩
theorem pss_cons (h1 : PS X st t) (h2 : PSs X rest u) : PSs X (st :: rest) (tSeq t u) := by
  intro pins s σ H D I h
  refine wpAny_execs_cons (thn (h1 pins s σ H { D with nx := u D } I h) fun f s1 q => ?_)
  cases f with
  | next =>
    obtain ⟨σ', H', I', q⟩ := q
    exact h2 pins s1 σ' H' D I' q
  | ret v => exact q
  | brk => exact q
  | cont => exact q
theorem pss_one (h1 : PS X st t) : PSs X [st] t := by
  intro pins s σ H D I h
  refine wpAny_execs_cons (thn (h1 pins s σ H D I h) fun f s1 q => ?_)
  cases f with
  | next => exact wpAny_execs_nil q
  | ret v => exact q
  | brk => exact q
  | cont => exact q
theorem Inv.quiet {pins : List (Addr × Obj)} {σ : St} {H : Hp} {s : Shared} (I : Inv X pins σ H s) : interactive X.env = false := by simp [interactive, I.ok.kind]
def tDrop (te : TE) : TS := fun D σ H => te σ H fun _ H1 => D.nx σ H1
theorem ps_expr (he : PE X e te) (hs : swapsWith e none pos.line X.env = pure false := by rfl) : PS X (.Expr e pos) (tDrop te) := by
  intro pins s σ H D I h
  exact wpAny_Expr_any (thn (he pins s σ H _ I h) fun v s1 ⟨x, H1, I1, r1, q1⟩ => ⟨σ, H1, I1, q1⟩) I.quiet hs
def tRet (te : TE) : TS := fun D σ H => te σ H D.rt
theorem ps_ret (he : PE X e te) : PS X (.Return (some e) pos) (tRet te) := by
  intro pins s σ H D I h
  exact wpAny_Return_some (thn (he pins s σ H _ I h) fun v s1 ⟨x, H1, I1, r1, q1⟩ => ⟨x, σ, H1, I1, r1, q1⟩)
def tIfS (c : TT) (t u : TS) : TS := fun D σ H => c σ H fun b H1 => if b = true then t D σ H1 else u D σ H1
theorem ps_if {c : Expr} {a b : List Stmt} {tc : TT} (hc : PT X c tc) (ha : PSs X a t) (hb : PSs X b u) : PS X (.If c a b pos) (tIfS tc t u) := by
  intro pins s σ H D I h
  refine wpAny_If (thn (hc pins s σ H _ I h) fun d s1 ⟨H1, I1, q1⟩ => ?_)
  cases d with
  | true => exact ha pins s1 σ H1 D I1 q1
  | false => exact hb pins s1 σ H1 D I1 q1
def tNever : TS := fun _ _ _ => False
theorem pss_never {sts : List Stmt} : PSs X sts tNever := fun _ _ _ _ _ _ h => h.elim
end
abbrev TG := V → St → Hp → (St → Hp → Prop) → Prop
abbrev TGs := List V → St → Hp → (St → Hp → Prop) → Prop
def PG (X : Cx) (target : Expr) (t : TG) : Prop :=
  ∀ (pins : List (Addr × Obj)) (s : Shared) (σ : St) (H : Hp) (v : V) (u : Value) (Q : St → Hp → Prop), Inv X pins σ H s → RelV v u → t v σ H Q →
    wpAny (model X.prog X.w) X.A (assign target X.env u) (fun _ s' => ∃ σ' H', Inv X pins σ' H' s' ∧ Q σ' H') X.xe s
def PGs (X : Cx) (ts : List Expr) (t : TGs) : Prop :=
  ∀ (pins : List (Addr × Obj)) (s : Shared) (σ : St) (H : Hp) (vs : List V) (us : List Value) (Q : St → Hp → Prop), Inv X pins σ H s → Vals vs us → t vs σ H Q →
    wpAny (model X.prog X.w) X.A (assignInOrder ((assignEach ts X.env).map (·.2)) us) (fun _ s' => ∃ σ' H', Inv X pins σ' H' s' ∧ Q σ' H') X.xe s
abbrev TSet := V → V → V → Hp → (Hp → Prop) → Prop
def PSet (X : Cx) (t : TSet) : Prop :=
  ∀ (pins : List (Addr × Obj)) (s : Shared) (σ : St) (H : Hp) (o i v : V) (ov iv u : Value) (Q : Hp → Prop), Inv X pins σ H s → RelV o ov → RelV i iv → RelV v u → t o i v H Q →
    wpAny (model X.prog X.w) X.A (setItem ov iv u) (fun _ s' => ∃ H', Inv X pins σ H' s' ∧ Q H') X.xe s
section
variable {X : Cx} {pos : Pos}
def gName (i : Nat) : TG := fun v σ H Q => Q (σ.set i (some v)) H
theorem pg_name {i : Nat} {x : Str} (hN : X.N.Nodup) (hi : X.N[i]? = some x) (hx : Loc X.env.scope x) (hf : X.fn x = true ∨ X.env.scope.names.lookup x = some .local := by first | exact .inl rfl | exact .inr rfl | assumption) : PG X (.Name x pos) (gName i) := by
  intro pins s σ H v u Q I r h
  exact wpAny_assign_Name (store_ok I hN hi hx r (fun s' I' => ⟨_, H, I', h⟩) hf)
def gNil : TGs := fun vs σ H Q => vs = [] ∧ Q σ H
def gCons (t : TG) (u : TGs) : TGs := fun vs σ H Q => ∃ v r, vs = v :: r ∧ t v σ H fun σ' H' => u r σ' H' Q
theorem pgs_nil : PGs X [] gNil := by
  intro pins s σ H vs us Q I r h
  obtain ⟨e, h⟩ := h
  subst e
  cases r
  exact assignInOrder_nil ⟨σ, H, I, h⟩
theorem pgs_cons {e : Expr} {es : List Expr} {t : TG} {u : TGs} (h1 : PG X e t) (h2 : PGs X es u)
    (hs : (assignEach (e :: es) X.env).map (·.2) = assign e X.env :: (assignEach es X.env).map (·.2) := by rfl) : PGs X (e :: es) (gCons t u) := by
  intro pins s σ H vs us Q I r h
  obtain ⟨v, vr, e1, h⟩ := h
  subst e1
  cases r with
  | cons r rr =>
    rw [hs]
    refine assignInOrder_cons (thn (h1 pins s σ H _ _ _ I r h) fun _ s1 ⟨σ1, H1, I1, q1⟩ => ?_)
    exact h2 pins s1 σ1 H1 _ _ Q I1 rr q1
def gTup (K : PySem.W.Frag) (n : Nat) (t : TGs) : TG := fun v σ H Q => ∃ a xs, v = .ref a ∧ SqT K H a xs ∧ xs.length = n ∧ t xs σ H Q
theorem pg_tup {es : List Expr} {k : Nat} {t : TGs} {n : Nat} (hc : X.calm = true) (h : PGs X es t)
    (hn : (assignEach es X.env).length = n := by rfl) (hst : (assignEach es X.env).findIdx? (·.1) = none := by rfl) : PG X (.Tuple es k pos) (gTup X.K n t) := by
  intro pins s σ H v u Q I r hw
  obtain ⟨a, xs, e1, hq, hl, hw⟩ := hw
  subst e1
  cases r
  obtain ⟨its, rv, ht, hz⟩ := I.tuple hq
  refine assign_Tuple_tuple (I.ok.hd hc) ht (by simp [hn, ← hl, rv.length]) hst fun h' hx => ?_
  have I1 : Inv X pins σ H { s with heap := h' } := I.kept (t' := s.toks) fun b o e => hx b o (Nat.ne_of_lt (Heap.lt_size e)) e
  exact h pins _ σ H xs _ Q I1 (by simpa using rv) hw
def gSub (to ti : TE) (t : TSet) : TG := fun v σ H Q => to σ H fun o H1 => ti σ H1 fun i H2 => t o i v H2 fun H3 => Q σ H3
theorem pg_sub {o i : Expr} {to ti : TE} {t : TSet} (ho : PE X o to) (hi : PE X i ti) (hs : PSet X t)
    (ha : ∀ v, assign (.Subscript o i pos) X.env v = (do
      let ov ← holding [v] (eval o X.env)
      let iv ← holding [v, ov] (eval i X.env)
      standAt pos
      holding [v, ov, iv] (setItem ov iv v)
      release [v, ov, iv] []) := by intro _; rfl) : PG X (.Subscript o i pos) (gSub to ti t) := by
  intro pins s σ H v u Q I r h
  rw [ha]
  refine wpAny_bind (wpAny_holding (thn (ho pins s σ H _ I h) fun ov s1 ⟨x, H1, I1, r1, q1⟩ => ?_))
  refine wpAny_bind (wpAny_holding (thn (hi pins s1 σ H1 _ I1 q1) fun iv s2 ⟨y, H2, I2, r2, q2⟩ => ?_))
  refine wpAny_bind (wpAny_standAt (wpAny_bind (wpAny_holding (thn (hs pins s2 σ H2 x y v ov iv u _ I2 r1 r2 r q2) fun _ s3 ⟨H3, I3, q3⟩ => ?_))))
  exact wpAny_release ⟨σ, H3, I3, q3⟩
def tAsg (te : TE) (g : TG) : TS := fun D σ H => te σ H fun x H1 => g x σ H1 D.nx
theorem ps_asg {tg e : Expr} {te : TE} {g : TG} (he : PE X e te) (hg : PG X tg g) (hs : swapsWithSole [tg] e pos.line X.env = pure false := by rfl) (hw : swappedStores [tg] e X.env = pure none := by rfl)
    (h1 : (assignEach [tg] X.env).map (·.2) = [assign tg X.env] := by rfl) : PS X (.Assign [tg] e pos) (tAsg te g) := by
  intro pins s σ H D I h
  refine wpAny_Assign_stores (thn (he pins s σ H _ I h) fun v s1 ⟨x, H1, I1, r1, q1⟩ => ?_) hs hw
  rw [h1]
  exact thn (hg pins s1 σ H1 x v _ I1 r1 q1) fun _ s2 q => q
theorem ps_set {i : Nat} {x : Str} {e : Expr} {te : TE} {pos' : Pos} (hN : X.N.Nodup) (hi : X.N[i]? = some x) (hx : Loc X.env.scope x) (he : PE X e te) (hs : swapsWith e (some (.Name x pos')) pos.line X.env = pure false := by rfl) (hf : X.fn x = true ∨ X.env.scope.names.lookup x = some .local := by first | exact .inl rfl | exact .inr rfl | assumption) :
    PS X (.Assign [.Name x pos'] e pos) (tAsg te (gName i)) := by
  intro pins s σ H D I h
  refine wpAny_Assign_Name (thn (he pins s σ H _ I h) fun v s1 ⟨y, H1, I1, r1, q1⟩ => ?_) hs
  exact store_ok I1 hN hi hx r1 (fun s2 I2 => ⟨_, H1, I2, q1⟩) hf
end
structure It where
  go : Nat → Hp → Prop
  yld : Nat → Hp → V → Hp → Prop
  stop : Nat → Hp → Prop
def FpOk (X : Cx) (pins : List (Addr × Obj)) (H : Hp) (b : Addr) : Prop :=
  H b = none ∧ b ≠ X.env.locals ∧ b ∉ X.fs ∧ (b ∈ X.ex ∨ X.s₀.heap.objs.size ≤ b) ∧ (∀ x c, X.env.cells.lookup x = some c → c ≠ b) ∧ ∀ p ∈ X.pn ++ pins, p.1 ≠ b
theorem Inv.fpOk {X : Cx} {pins : List (Addr × Obj)} {σ : St} {H H' : Hp} {s : Shared} {b : Addr} (I : Inv X pins σ H s) (hb : s.heap.objs.size ≤ b) (hn : H' b = none) : FpOk X pins H' b := by
  refine ⟨hn, Nat.ne_of_gt (Nat.lt_of_lt_of_le I.lt hb), I.nofs hb, .inr (Nat.le_trans I.sz hb), fun x c e z => ?_, fun p hp z => ?_⟩
  · obtain ⟨v, q⟩ := I.cell x c e
    exact absurd (Nat.lt_of_lt_of_le q.lt (by rw [z]; exact hb)) (Nat.lt_irrefl _)
  · exact absurd (Nat.lt_of_lt_of_le (Heap.lt_size (I.pin p hp).1) (by rw [z]; exact hb)) (Nat.lt_irrefl _)
structure Turn (P : Program) (w : World) (K : PySem.W.Frag) (tg : Expr) (J : It) (fp : List Addr) (it : Addr) (tn : Nat → Heap → Prop) : Prop where
  mem : it ∈ fp
  obj : ∀ i h, tn i h → ∀ b ∈ fp, ∃ o, h.get? b = some o ∧ ∀ v, o.data ≠ .cell v
  keep : ∀ i h h', tn i h → (∀ b ∈ fp, ∀ o, h.get? b = some o → h'.get? b = some o) → tn i h'
  item : ∀ (X : Cx), X.prog = P → X.w = w → X.K = K → X.calm = true → ∀ (i : Nat) (pins : List (Addr × Obj)) (s : Shared) (σ : St) (H : Hp) (E : Value → Shared → Prop), Inv X pins σ H s → (∀ b ∈ fp, FpOk X pins H b) → tn i s.heap → J.go i H →
    wpAny (model P w) X.A (pyNext (.ref it)) (fun r s1 => ∃ u, r = some u ∧
      wpAny (model P w) X.A (letOwnedTupleGo tg (.ref it) u) (fun _ s2 => ∃ x H', Inv X pins σ H' s2 ∧ RelV x u ∧ J.yld i H x H' ∧ tn (i + 1) s2.heap ∧ ∀ b ∈ fp, H' b = none) E s1) E s
  done : ∀ (X : Cx), X.prog = P → X.w = w → X.K = K → X.calm = true → ∀ (i : Nat) (pins : List (Addr × Obj)) (s : Shared) (σ : St) (H : Hp) (E : Value → Shared → Prop), Inv X pins σ H s → (∀ b ∈ fp, FpOk X pins H b) → tn i s.heap → J.stop i H →
    wpAny (model P w) X.A (pyNext (.ref it)) (fun r s1 => r = none ∧ Inv X pins σ H s1) E s
  self : ∀ (A : Around) (i : Nat) (s : Shared) (Q : Value → Shared → Prop) (E : Value → Shared → Prop), tn i s.heap → Q (.ref it) s → wpAny (model P w) A (pyIter (.ref it)) Q E s
abbrev TI := St → Hp → (It → Hp → Prop) → Prop
def PIE (X : Cx) (pins : List (Addr × Obj)) (σ : St) (tg : Expr) (R : It → Hp → Prop) (itv : Value) (s2 : Shared) : Prop :=
  ∃ (it : Addr) (fp : List Addr) (tn : Nat → Heap → Prop) (J : It) (H' : Hp), itv = .ref it ∧ Inv X pins σ H' s2 ∧ Turn X.prog X.w X.K tg J fp it tn ∧ tn 0 s2.heap ∧ (∀ b ∈ fp, FpOk X pins H' b) ∧ R J H'
def PI (X : Cx) (tg iter : Expr) (wi : TI) : Prop :=
  ∀ (pins : List (Addr × Obj)) (s : Shared) (σ : St) (H : Hp) (R : It → Hp → Prop), Inv X pins σ H s → wi σ H R →
    wpAny (model X.prog X.w) X.A (eval iter X.env) (fun v s1 => wpAny (model X.prog X.w) X.A (pyIter v) (PIE X pins σ tg R) X.xe s1) X.xe s
theorem go_of {M : Model} {A : Around} {E : Value → Shared → Prop} {s : Shared} {tg : Expr} {it : Addr} {u : Value} {o : Obj} {n : String} {vs : Array Value} {Q : Unit → Shared → Prop} (ho : s.heap.get? it = some o) (hc : o.cls = .type n) (hd : o.data = .fields vs)
    (hn : ["enumerate", "zip", "dict_itemiterator", "dict_reverseitemiterator", "odict_iterator", "itertools.zip_longest", "itertools.pairwise"].contains n = false) (hQ : Q () s) : wpAny M A (letOwnedTupleGo tg (.ref it) u) Q E s := by
  unfold letOwnedTupleGo
  cases tg <;> first
    | exact wpAny_pure hQ
    | (cases u <;> first
        | exact wpAny_pure hQ
        | (refine wpAny_bind (wpAny_load ho ?_)
           rw [hc, hd]
           show wpAny M A (if (["enumerate", "zip", "dict_itemiterator", "dict_reverseitemiterator", "odict_iterator", "itertools.zip_longest", "itertools.pairwise"].contains n && vs[0]? == some (rawInt _)) = true then _ else _) Q E s
           rw [if_neg (by intro h; rw [hn, Bool.false_and] at h; cases h)]
           exact wpAny_pure hQ))
def Itl (K : PySem.W.Frag) (a : Addr) : It :=
  ⟨fun i H => ∃ xs x, SqL K H a xs ∧ xs[i]? = some x, fun i H x H' => H' = H ∧ ∀ xs, SqL K H a xs → xs[i]? = some x, fun i H => ∃ xs, SqL K H a xs ∧ xs.length ≤ i⟩
def Itt (K : PySem.W.Frag) (a : Addr) : It :=
  ⟨fun i H => ∃ xs x, SqT K H a xs ∧ xs[i]? = some x, fun i H x H' => H' = H ∧ ∀ xs, SqT K H a xs → xs[i]? = some x, fun i H => ∃ xs, SqT K H a xs ∧ xs.length ≤ i⟩
def Itr (lo : Int) (n : Nat) : It := ⟨fun i _ => i < n, fun i H x H' => H' = H ∧ x = .int (lo + i), fun i _ => n ≤ i⟩
theorem turn_list {P : Program} {w : World} {K : PySem.W.Frag} {tg : Expr} (a it : Addr) : Turn P w K tg (Itl K a) [it] it (fun i h => h.IsListIter it a i) where
  mem := by simp
  obj := fun i h st b hb => by
    have e : b = it := by simpa using hb
    subst e
    obtain ⟨o, e, c, d⟩ := st
    exact ⟨o, e, fun v z => by rw [d] at z; cases z⟩
  keep := fun i h h' st k => st.at fun o e => k it (by simp) o e
  item := by
    intro X hP hw hK hc i pins s σ H E I hf st hg
    subst hP hw hK
    obtain ⟨xs, x, hq, hx⟩ := hg
    obtain ⟨its, rv, p, hz⟩ := I.list hq
    obtain ⟨u, hu, ru⟩ := rv.get hx
    obtain ⟨f0, f1, f2, f3, f4, f5⟩ := hf it (by simp)
    refine wpAny_pyNext_list_item st p.isList (x := u) (by simpa using hu) fun h' st' sb => ?_
    have I1 : Inv X pins σ H { s with heap := h' } := I.turned (t' := s.toks) (fun b o hb e => (sb.2 b hb).trans e) f0 f1 f3 f4 f5
    obtain ⟨o, e, c, d⟩ := id st'
    exact ⟨u, rfl, go_of (s := { s with heap := h' }) e c d (by decide) ⟨x, H, I1, ru, ⟨rfl, fun ys hy => by rw [I.list_inj hy hq]; exact hx⟩, st', fun b hb => (hf b hb).1⟩⟩
  done := by
    intro X hP hw hK hc i pins s σ H E I hf st hg
    subst hP hw hK
    obtain ⟨xs, hq, hx⟩ := hg
    obtain ⟨its, rv, p, hz⟩ := I.list hq
    obtain ⟨f0, f1, f2, f3, f4, f5⟩ := hf it (by simp)
    have hl := rv.length
    exact wpAny_pyNext_list_end (I.ok.hd hc) st p.isList (by simp; omega) fun h' eb => ⟨rfl, I.turned (t' := s.toks) (fun b o hb e => eb b o hb e) f0 f1 f3 f4 f5⟩
  self := fun _ _ _ _ _ st h => wpAny_pyIter_listiter st h
theorem turn_tuple {P : Program} {w : World} {K : PySem.W.Frag} {tg : Expr} (a it : Addr) : Turn P w K tg (Itt K a) [it] it (fun i h => h.IsTupleIter it a i) where
  mem := by simp
  obj := fun i h st b hb => by
    have e : b = it := by simpa using hb
    subst e
    obtain ⟨o, e, c, d⟩ := st
    exact ⟨o, e, fun v z => by rw [d] at z; cases z⟩
  keep := fun i h h' st k => st.at fun o e => k it (by simp) o e
  item := by
    intro X hP hw hK hc i pins s σ H E I hf st hg
    subst hP hw hK
    obtain ⟨xs, x, hq, hx⟩ := hg
    obtain ⟨its, rv, p, hz⟩ := I.tuple hq
    obtain ⟨u, hu, ru⟩ := rv.get hx
    obtain ⟨f0, f1, f2, f3, f4, f5⟩ := hf it (by simp)
    refine wpAny_pyNext_tuple_item st (show s.heap.IsTuple a its.toArray from p) (x := u) (by simpa using hu) fun h' st' sb => ?_
    have I1 : Inv X pins σ H { s with heap := h' } := I.turned (t' := s.toks) (fun b o hb e => (sb.2 b hb).trans e) f0 f1 f3 f4 f5
    obtain ⟨o, e, c, d⟩ := id st'
    exact ⟨u, rfl, go_of (s := { s with heap := h' }) e c d (by decide) ⟨x, H, I1, ru, ⟨rfl, fun ys hy => by rw [I.tuple_inj hy hq]; exact hx⟩, st', fun b hb => (hf b hb).1⟩⟩
  done := by
    intro X hP hw hK hc i pins s σ H E I hf st hg
    subst hP hw hK
    obtain ⟨xs, hq, hx⟩ := hg
    obtain ⟨its, rv, p, hz⟩ := I.tuple hq
    obtain ⟨f0, f1, f2, f3, f4, f5⟩ := hf it (by simp)
    have hl := rv.length
    exact wpAny_pyNext_tuple_end (I.ok.hd hc) st (show s.heap.IsTuple a its.toArray from p) (by simp; omega) fun h' eb => ⟨rfl, I.turned (t' := s.toks) (fun b o hb e => eb b o hb e) f0 f1 f3 f4 f5⟩
  self := fun _ _ _ _ _ st h => wpAny_pyIter_tupleiter st h
theorem turn_range {P : Program} {w : World} {K : PySem.W.Frag} {tg : Expr} (it : Addr) (lo : Int) (n : Nat) : Turn P w K tg (Itr lo n) [it] it (fun i h => IsRangeIter h it (lo + (i : Nat) * 1) ((n : Int) - (i : Nat)) 1) where
  mem := by simp
  obj := fun i h st b hb => by
    have e : b = it := by simpa using hb
    subst e
    exact ⟨_, st, fun v z => by
      have z' : Data.fields _ = Data.cell v := z
      cases z'⟩
  keep := fun i h h' st k => k it (by simp) _ st
  item := by
    intro X hP hw hK hc i pins s σ H E I hf st hg
    subst hP hw hK
    obtain ⟨f0, f1, f2, f3, f4, f5⟩ := hf it (by simp)
    have W := Walks.range (prog := X.prog) (w := X.w) (I.ok.hd hc) it lo 1 n
    refine W.item i s _ _ hg st fun v h' tk hv st' kk => ?_
    obtain ⟨t, rfl⟩ := hv
    have I1 : Inv X pins σ H { s with heap := h', toks := tk } := I.turned (fun b o hb e => kk b o (by simpa using hb) e) f0 f1 f3 f4 f5
    refine ⟨_, rfl, go_of (s := { s with heap := h', toks := tk }) (n := "range_iterator") st' rfl rfl (by decide) ⟨.int (lo + i), H, I1, ⟨t, ?_⟩, ⟨rfl, rfl⟩, st', fun b hb => (hf b hb).1⟩⟩
    rw [Int.mul_one]
  done := by
    intro X hP hw hK hc i pins s σ H E I hf st hg
    subst hP hw hK
    obtain ⟨f0, f1, f2, f3, f4, f5⟩ := hf it (by simp)
    exact wpAny_pyNext_range_end (I.ok.hd hc) st (by have : n ≤ i := hg; omega) fun h' eb => ⟨rfl, I.turned (t' := s.toks) (fun b o hb e => eb b o hb e) f0 f1 f3 f4 f5⟩
  self := fun _ _ _ _ _ st h => wpAny_pyIter_rangeiter st h
section
variable {X : Cx} {tg : Expr}
def iList (K : PySem.W.Frag) (tl : TE) : TI := fun σ H R => tl σ H fun x H1 => ∃ a, x = .ref a ∧ (∃ xs, SqL K H1 a xs) ∧ R (Itl K a) H1
def iTup (K : PySem.W.Frag) (tl : TE) : TI := fun σ H R => tl σ H fun x H1 => ∃ a, x = .ref a ∧ (∃ xs, SqT K H1 a xs) ∧ R (Itt K a) H1
theorem pi_list {l : Expr} {tl : TE} (hl : PE X l tl) : PI X tg l (iList X.K tl) := by
  intro pins s σ H R I h
  refine thn (hl pins s σ H _ I h) fun v s1 ⟨x, H1, I1, r1, q1⟩ => ?_
  obtain ⟨a, e, ⟨xs, hq⟩, q⟩ := q1
  subst e
  cases r1
  obtain ⟨its, rv, p, hz⟩ := I1.list hq
  refine wpAny_pyIter_list p.isList ?_
  refine ⟨s1.heap.objs.size, [s1.heap.objs.size], _, _, H1, rfl, I1.kept (t' := s1.toks) fun b o e => Heap.get?_push_of_some _ e, turn_list a _, ⟨_, Heap.get?_push_size _ rfl, rfl, rfl⟩, fun b hb => ?_, q⟩
  have e : b = s1.heap.objs.size := by simpa using hb
  subst e
  exact I1.fpOk (Nat.le_refl _) (I1.hok.fresh (Nat.le_refl _))
theorem pi_tup {l : Expr} {tl : TE} (hl : PE X l tl) : PI X tg l (iTup X.K tl) := by
  intro pins s σ H R I h
  refine thn (hl pins s σ H _ I h) fun v s1 ⟨x, H1, I1, r1, q1⟩ => ?_
  obtain ⟨a, e, ⟨xs, hq⟩, q⟩ := q1
  subst e
  cases r1
  obtain ⟨its, rv, p, hz⟩ := I1.tuple hq
  refine wpAny_pyIter_tuple (show s1.heap.IsTuple a its.toArray from p) ?_
  refine ⟨s1.heap.objs.size, [s1.heap.objs.size], _, _, H1, rfl, I1.kept (t' := s1.toks) fun b o e => Heap.get?_push_of_some _ e, turn_tuple a _, ⟨_, Heap.get?_push_size _ rfl, rfl, rfl⟩, fun b hb => ?_, q⟩
  have e : b = s1.heap.objs.size := by simpa using hb
  subst e
  exact I1.fpOk (Nat.le_refl _) (I1.hok.fresh (Nat.le_refl _))
theorem range_it {pins : List (Addr × Obj)} {σ : St} {H : Hp} {s : Shared} {R : It → Hp → Prop} {E : Value → Shared → Prop} {lo hi : Int} {t u v : Tok} {tk : Nat} (I : Inv X pins σ H s) (h1 : -(2 ^ 62) ≤ lo) (h2 : lo < 2 ^ 62) (h3 : -(2 ^ 62) ≤ hi) (h4 : hi < 2 ^ 62)
    (q : R (Itr lo (hi - lo).toNat) H) : wpAny (model X.prog X.w) X.A (pyIter (.ref s.heap.objs.size)) (PIE X pins σ tg R) E { s with heap := s.heap.push { cls := .type "range", data := .fields #[.int lo t, .int hi u, .int 1 v] }, toks := tk } := by
  refine wpAny_pyIter_range (IsRange.new ..) (small_one h1 h2 h3 h4) ?_
  have I1 : Inv X pins σ H { s with heap := s.heap.push { cls := .type "range", data := .fields #[.int lo t, .int hi u, .int 1 v] }, toks := tk } := I.kept fun b o e => Heap.get?_push_of_some _ e
  refine ⟨(s.heap.push { cls := .type "range", data := .fields #[.int lo t, .int hi u, .int 1 v] }).objs.size, [(s.heap.push { cls := .type "range", data := .fields #[.int lo t, .int hi u, .int 1 v] }).objs.size], _, _, H, rfl,
    I1.kept (t' := tk) fun b o e => Heap.get?_push_of_some _ e, turn_range _ lo (hi - lo).toNat, ?_, fun b hb => ?_, q⟩
  · have e1 : lo + ((0 : Nat) : Int) * 1 = lo := by simp
    have e2 : (((hi - lo).toNat : Nat) : Int) - ((0 : Nat) : Int) = Builtin.Range.rangeSize lo hi 1 := by rw [rangeSize_one]; split <;> omega
    show IsRangeIter _ _ (lo + ((0 : Nat) : Int) * 1) ((((hi - lo).toNat : Nat) : Int) - ((0 : Nat) : Int)) 1
    rw [e1, e2]
    exact Heap.get?_push_size _ rfl
  · have e : b = (s.heap.push { cls := .type "range", data := .fields #[.int lo t, .int hi u, .int 1 v] }).objs.size := by simpa using hb
    subst e
    exact I1.fpOk (Nat.le_refl _) (I1.hok.fresh (Nat.le_refl _))
def iRng1 (ta : TA) : TI := fun σ H R => ta σ H fun vs H1 => ∃ j : Int, vs = [.int j] ∧ -(2 ^ 62) ≤ j ∧ j < 2 ^ 62 ∧ R (Itr 0 j.toNat) H1
def iRng2 (ta : TA) : TI := fun σ H R => ta σ H fun vs H1 => ∃ i j : Int, vs = [.int i, .int j] ∧ (-(2 ^ 62) ≤ i ∧ i < 2 ^ 62 ∧ -(2 ^ 62) ≤ j ∧ j < 2 ^ 62) ∧ R (Itr i (j - i).toNat) H1
theorem pi_range1 {a : Expr} {ta : TA} {p pos : Pos} (hg : Gl X "range") (hm : X.mg "range" = none) (ha : PA X [a] ta) (hs : starEach [a] X.env = [(false, eval a X.env)] := by rfl) : PI X tg (.Call (.Name "range" p) [a] [] pos) (iRng1 ta) := by
  intro pins s σ H R I h
  refine Call_ (ld_blt I hg hm boot_range (PyProof.Rows.callWith_type1 (thn (ha pos pins s σ H _ I h) fun us s1 ⟨vs, H1, I1, r1, q1⟩ => ?_) hs rfl))
  obtain ⟨j, e, q1, q2, q⟩ := q1
  subst e
  cases r1 with
  | cons r rr =>
    cases rr
    obtain ⟨t, rfl⟩ := r
    exact call_range_1 (range_it I1 (by omega) (by omega) q1 q2 (by simpa using q))
theorem pi_range2 {a b : Expr} {ta : TA} {p pos : Pos} (hg : Gl X "range") (hm : X.mg "range" = none) (ha : PA X [a, b] ta) (hs : starEach [a, b] X.env = [(false, eval a X.env), (false, eval b X.env)] := by rfl) (hs2 : starEach [b] X.env = [(false, eval b X.env)] := by rfl) :
    PI X tg (.Call (.Name "range" p) [a, b] [] pos) (iRng2 ta) := by
  intro pins s σ H R I h
  refine Call_ (ld_blt I hg hm boot_range (PyProof.Rows.callWith_type1 (thn (ha pos pins s σ H _ I h) fun us s1 ⟨vs, H1, I1, r1, q1⟩ => ?_) (by rw [hs, hs2]) (by rw [hs2]; rfl)))
  obtain ⟨i, j, e, ⟨q1, q2, q3, q4⟩, q⟩ := q1
  subst e
  cases r1 with
  | cons r rr =>
    cases rr with
    | cons r' rr =>
      cases rr
      obtain ⟨t, rfl⟩ := r
      obtain ⟨t', rfl⟩ := r'
      exact call_range_2 (range_it I1 q1 q2 q3 q4 q)
def tFor (wi : TI) (g : TG) (tb : TS) : TS := fun D σ H => wi σ H fun J H1 => ∃ W : Nat → Nat → St → Hp → Prop, (∃ m, W 0 m σ H1) ∧ ∀ i m σ H, W i m σ H →
  (J.stop i H ∧ D.nx σ H) ∨ (J.go i H ∧ ∃ N : St → Hp → Prop, (∀ σ' H', N σ' H' → ∃ m', m' < m ∧ W (i + 1) m' σ' H') ∧ ∀ x H', J.yld i H x H' → g x σ H' fun σ2 H2 => tb { D with nx := N, ct := N, bk := D.nx } σ2 H2)
def pinsAt (fp : List Addr) (h : Heap) : List (Addr × Obj) := fp.filterMap fun b => (h.get? b).map fun o => (b, o)
theorem mem_pinsAt {fp : List Addr} {h : Heap} {b : Addr} {o : Obj} (hb : b ∈ fp) (e : h.get? b = some o) : (b, o) ∈ pinsAt fp h := List.mem_filterMap.mpr ⟨b, hb, by rw [e]; rfl⟩
theorem of_pinsAt {fp : List Addr} {h : Heap} {p : Addr × Obj} (hp : p ∈ pinsAt fp h) : p.1 ∈ fp ∧ h.get? p.1 = some p.2 := by
  obtain ⟨b, hb, e⟩ := List.mem_filterMap.mp hp
  cases q : h.get? b with
  | none => rw [q] at e; cases e
  | some o =>
    rw [q] at e
    have e' : (b, o) = p := Option.some.inj e
    subst e'
    exact ⟨hb, q⟩
theorem Inv.pinned {pins : List (Addr × Obj)} {σ : St} {H : Hp} {s : Shared} {fp : List Addr} (I : Inv X pins σ H s) (hf : ∀ b ∈ fp, FpOk X pins H b) (ho : ∀ b ∈ fp, ∃ o, s.heap.get? b = some o ∧ ∀ v, o.data ≠ .cell v) : Inv X (pins ++ pinsAt fp s.heap) σ H s :=
  I.pins_of fun p hp => (List.mem_append.mp hp).elim (fun z => I.pin p (List.mem_append_right _ z)) fun z => by
    obtain ⟨hb, e⟩ := of_pinsAt z
    obtain ⟨f0, f1, f2, _⟩ := hf p.1 hb
    obtain ⟨o, e', d⟩ := ho p.1 hb
    rw [e] at e'; cases e'
    exact ⟨e, f0, f1, f2, d⟩
theorem Inv.unpinned {pins pl : List (Addr × Obj)} {σ : St} {H : Hp} {s : Shared} (I : Inv X (pins ++ pl) σ H s) : Inv X pins σ H s := I.pins_of fun p hp => I.pin p (List.mem_append_right _ (List.mem_append_left _ hp))
theorem ps_for {iter : Expr} {body : List Stmt} {wi : TI} {g : TG} {tb : TS} {pos : Pos} (hp : PassesOwn (model X.prog X.w) X.A X.env X.xe) (hc : X.calm = true) (hi : PI X tg iter wi) (hg : PG X tg g) (hb : PSs X body tb)
    (hs : ∀ x, foldedSetIterable iter X.env x = pure x := by intro _; rfl) : PS X (.For tg iter body [] pos) (tFor wi g tb) := by
  intro pins s σ H D I h
  refine wpAny_For (thn (hi pins s σ H _ I h) fun v s1 h1 => thn h1 fun itv s2 h2 => ?_) hs
  obtain ⟨it, fp, tn, J, H2, e, I2, T, st2, f2, W, ⟨m0, w0⟩, turn⟩ := h2
  subst e
  have stat : ∀ {H' : Hp}, (∀ b ∈ fp, H' b = none) → ∀ b ∈ fp, FpOk X pins H' b := fun hn b hb => ⟨hn b hb, (f2 b hb).2⟩
  refine codeAny_forLoop_any (fun n s' => ∃ i σ' H', Inv X pins σ' H' s' ∧ tn i s'.heap ∧ (∀ b ∈ fp, H' b = none) ∧ W i n σ' H') ?_ m0 ⟨0, σ, H2, I2, st2, fun b hb => (f2 b hb).1, w0⟩
  rintro n s3 ⟨i, σ3, H3, I3, st3, fr3, w3⟩
  rcases turn i n σ3 H3 w3 with ⟨stop, qn⟩ | ⟨go, N, hN, step⟩
  · refine wpAny_passesOwn hp (thn (T.done X rfl rfl rfl hc i pins s3 σ3 H3 X.xe I3 (stat fr3) st3 stop) fun r s4 ⟨hr, I4⟩ => ?_)
    subst hr
    exact wpAny_execs_nil ⟨σ3, H3, I4, qn⟩
  · refine wpAny_passesOwn hp (thn (T.item X rfl rfl rfl hc i pins s3 σ3 H3 X.xe I3 (stat fr3) st3 go) fun r s4 ⟨u, hr, h4⟩ => ?_)
    subst hr
    refine wpAny_passesOwn hp (thn h4 fun _ s5 ⟨x, H5, I5, r5, y5, st5, fr5⟩ => ?_)
    have I5' := I5.pinned (stat fr5) (T.obj _ _ st5)
    refine wpAny_passesOwn hp (thn (hg _ s5 σ3 H5 x u _ I5' r5 (step x H5 y5)) fun _ s6 ⟨σ6, H6, I6, q6⟩ => ?_)
    refine wpAny_passesOwn hp (thn (hb _ s6 σ6 H6 _ I6 q6) fun f s7 q7 => ?_)
    have again : ∀ {σ7 : St} {H7 : Hp}, Inv X (pins ++ pinsAt fp s5.heap) σ7 H7 s7 → N σ7 H7 → ∃ m, m < n ∧ ∃ i σ' H', Inv X pins σ' H' s7 ∧ tn i s7.heap ∧ (∀ b ∈ fp, H' b = none) ∧ W i m σ' H' := fun {σ7 H7} I7 n7 => by
      obtain ⟨m', hm, w7⟩ := hN σ7 H7 n7
      refine ⟨m', hm, i + 1, σ7, H7, I7.unpinned, T.keep _ _ _ st5 fun b hb o e => (I7.pin (b, o) (List.mem_append_right _ (List.mem_append_right _ (mem_pinsAt hb e)))).1, fun b hb => ?_, w7⟩
      obtain ⟨o, e, d⟩ := T.obj _ _ st5 b hb
      exact (I7.pin (b, o) (List.mem_append_right _ (List.mem_append_right _ (mem_pinsAt hb e)))).2.1
    cases f with
    | next => obtain ⟨σ7, H7, I7, n7⟩ := q7; exact again I7 n7
    | cont => obtain ⟨σ7, H7, I7, n7⟩ := q7; exact again I7 n7
    | brk => obtain ⟨σ7, H7, I7, q7⟩ := q7; exact ⟨σ7, H7, I7.unpinned, q7⟩
    | ret v => obtain ⟨x7, σ7, H7, I7, r7, q7⟩ := q7; exact ⟨x7, σ7, H7, I7.unpinned, r7, q7⟩
end
theorem for_list {K : PySem.W.Frag} {a : Addr} {xs : List V} {g : TG} {tb : TS} {D : Ends} {σ : St} {H : Hp} (Pv : Nat → St → Hp → Prop) (h0 : Pv 0 σ H) (hl : ∀ i σ H, i ≤ xs.length → Pv i σ H → SqL K H a xs)
    (hs : ∀ i x σ H, xs[i]? = some x → Pv i σ H → g x σ H fun σ2 H2 => tb { D with nx := Pv (i + 1), ct := Pv (i + 1), bk := D.nx } σ2 H2) (hd : ∀ σ H, Pv xs.length σ H → D.nx σ H) :
    ∃ W : Nat → Nat → St → Hp → Prop, (∃ m, W 0 m σ H) ∧ ∀ i m σ H, W i m σ H →
      ((Itl K a).stop i H ∧ D.nx σ H) ∨ ((Itl K a).go i H ∧ ∃ N : St → Hp → Prop, (∀ σ' H', N σ' H' → ∃ m', m' < m ∧ W (i + 1) m' σ' H') ∧ ∀ x H', (Itl K a).yld i H x H' → g x σ H' fun σ2 H2 => tb { D with nx := N, ct := N, bk := D.nx } σ2 H2) := by
  refine ⟨fun i m σ H => m = xs.length - i ∧ i ≤ xs.length ∧ Pv i σ H, ⟨xs.length, by simp, Nat.zero_le _, h0⟩, ?_⟩
  rintro i m σ H ⟨rfl, hi, p⟩
  have q := hl i σ H hi p
  by_cases hlt : i < xs.length
  · refine .inr ⟨⟨xs, xs[i], q, by simp [hlt]⟩, Pv (i + 1), fun σ' H' p' => ⟨xs.length - (i + 1), by omega, rfl, hlt, p'⟩, fun x H' y => ?_⟩
    obtain ⟨e, y⟩ := y
    subst e
    exact hs i x σ _ (y xs q) p
  · have e : i = xs.length := by omega
    subst e
    exact .inl ⟨⟨xs, q, Nat.le_refl _⟩, hd σ H p⟩
theorem for_tup {K : PySem.W.Frag} {a : Addr} {xs : List V} {g : TG} {tb : TS} {D : Ends} {σ : St} {H : Hp} (Pv : Nat → St → Hp → Prop) (h0 : Pv 0 σ H) (hl : ∀ i σ H, i ≤ xs.length → Pv i σ H → SqT K H a xs)
    (hs : ∀ i x σ H, xs[i]? = some x → Pv i σ H → g x σ H fun σ2 H2 => tb { D with nx := Pv (i + 1), ct := Pv (i + 1), bk := D.nx } σ2 H2) (hd : ∀ σ H, Pv xs.length σ H → D.nx σ H) :
    ∃ W : Nat → Nat → St → Hp → Prop, (∃ m, W 0 m σ H) ∧ ∀ i m σ H, W i m σ H →
      ((Itt K a).stop i H ∧ D.nx σ H) ∨ ((Itt K a).go i H ∧ ∃ N : St → Hp → Prop, (∀ σ' H', N σ' H' → ∃ m', m' < m ∧ W (i + 1) m' σ' H') ∧ ∀ x H', (Itt K a).yld i H x H' → g x σ H' fun σ2 H2 => tb { D with nx := N, ct := N, bk := D.nx } σ2 H2) := by
  refine ⟨fun i m σ H => m = xs.length - i ∧ i ≤ xs.length ∧ Pv i σ H, ⟨xs.length, by simp, Nat.zero_le _, h0⟩, ?_⟩
  rintro i m σ H ⟨rfl, hi, p⟩
  have q := hl i σ H hi p
  by_cases hlt : i < xs.length
  · refine .inr ⟨⟨xs, xs[i], q, by simp [hlt]⟩, Pv (i + 1), fun σ' H' p' => ⟨xs.length - (i + 1), by omega, rfl, hlt, p'⟩, fun x H' y => ?_⟩
    obtain ⟨e, y⟩ := y
    subst e
    exact hs i x σ _ (y xs q) p
  · have e : i = xs.length := by omega
    subst e
    exact .inl ⟨⟨xs, q, Nat.le_refl _⟩, hd σ H p⟩
theorem for_range {lo : Int} {n : Nat} {g : TG} {tb : TS} {D : Ends} {σ : St} {H : Hp} (Pv : Nat → St → Hp → Prop) (h0 : Pv 0 σ H)
    (hs : ∀ i σ H, i < n → Pv i σ H → g (.int (lo + i)) σ H fun σ2 H2 => tb { D with nx := Pv (i + 1), ct := Pv (i + 1), bk := D.nx } σ2 H2) (hd : ∀ σ H, Pv n σ H → D.nx σ H) :
    ∃ W : Nat → Nat → St → Hp → Prop, (∃ m, W 0 m σ H) ∧ ∀ i m σ H, W i m σ H →
      ((Itr lo n).stop i H ∧ D.nx σ H) ∨ ((Itr lo n).go i H ∧ ∃ N : St → Hp → Prop, (∀ σ' H', N σ' H' → ∃ m', m' < m ∧ W (i + 1) m' σ' H') ∧ ∀ x H', (Itr lo n).yld i H x H' → g x σ H' fun σ2 H2 => tb { D with nx := N, ct := N, bk := D.nx } σ2 H2) := by
  refine ⟨fun i m σ H => m = n - i ∧ i ≤ n ∧ Pv i σ H, ⟨n, by simp, Nat.zero_le _, h0⟩, ?_⟩
  rintro i m σ H ⟨rfl, hi, p⟩
  by_cases hlt : i < n
  · refine .inr ⟨hlt, Pv (i + 1), fun σ' H' p' => ⟨n - (i + 1), by omega, rfl, hlt, p'⟩, fun x H' y => ?_⟩
    obtain ⟨e, y⟩ := y
    subst e y
    exact hs i σ _ hlt p
  · have e : i = n := by omega
    subst e
    exact .inl ⟨Nat.le_refl _, hd σ H p⟩
abbrev R2 := V → V → Hp → VK → Prop
def OpR (X : Cx) (f : Value → Value → Sem Value) (r : R2) : Prop :=
  ∀ (pins : List (Addr × Obj)) (s : Shared) (σ : St) (H : Hp) (x y : V) (v u : Value) (Q : VK), Inv X pins σ H s → RelV x v → RelV y u → r x y H Q →
    wpAny (model X.prog X.w) X.A (f v u) (EP X pins σ Q) X.xe s
def UnR (X : Cx) (f : Value → Sem Value) (r : V → Hp → VK → Prop) : Prop :=
  ∀ (pins : List (Addr × Obj)) (s : Shared) (σ : St) (H : Hp) (x : V) (v : Value) (Q : VK), Inv X pins σ H s → RelV x v → r x H Q →
    wpAny (model X.prog X.w) X.A (f v) (EP X pins σ Q) X.xe s
def CallR (X : Cx) (f : Value) (r : List V → Hp → VK → Prop) : Prop :=
  ∀ (pins : List (Addr × Obj)) (s : Shared) (σ : St) (H : Hp) (xs : List V) (us : List Value) (Q : VK), Inv X pins σ H s → Vals xs us → r xs H Q →
    wpAny (model X.prog X.w) X.A (call f us) (EP X pins σ Q) X.xe s
def tOp (r : R2) (ta tb : TE) : TE := fun σ H Q => ta σ H fun x H1 => tb σ H1 fun y H2 => r x y H2 Q
def tUn (r : V → Hp → VK → Prop) (ta : TE) : TE := fun σ H Q => ta σ H fun x H1 => r x H1 Q
def rI (C : Int → Int → Prop) (g : Int → Int → V) : R2 := fun x y H Q => ∃ i j, x = .int i ∧ y = .int j ∧ C i j ∧ Q (g i j) H
def rI0 (g : Int → Int → V) : R2 := fun x y H Q => ∃ i j, x = .int i ∧ y = .int j ∧ Q (g i j) H
def rU (g : Int → V) : V → Hp → VK → Prop := fun x H Q => ∃ i, x = .int i ∧ Q (g i) H
section
variable {X : Cx} {a b c : Expr} {ta tb tc : TE} {pos : Pos}
theorem binT (ha : PE X a ta) (hb : PE X b tb) {pins : List (Addr × Obj)} {s : Shared} {σ : St} {H : Hp} {R : V → V → Hp → Prop} (I : Inv X pins σ H s)
    (h : ta σ H fun x H1 => tb σ H1 fun y H2 => R x y H2) {Q : Value → Shared → Prop} {f : Value → Value → Sem Value}
    (hf : ∀ v u s2 x y H2, Inv X pins σ H2 s2 → RelV x v → RelV y u → R x y H2 → wpAny (model X.prog X.w) X.A (f v u) Q X.xe s2) :
    wpAny (model X.prog X.w) X.A (eval a X.env) (fun v s₁ => wpAny (model X.prog X.w) X.A (eval b X.env) (fun u s₂ => wpAny (model X.prog X.w) X.A (f v u) Q X.xe s₂) X.xe s₁) X.xe s := by
  refine thn (ha pins s σ H _ I h) fun v s1 ⟨x, H1, I1, r1, q1⟩ => ?_
  refine thn (hb pins s1 σ H1 _ I1 q1) fun u s2 ⟨y, H2, I2, r2, q2⟩ => ?_
  exact hf v u s2 x y H2 I2 r1 r2 q2
theorem pe_op {op : Operator} {r : R2} (ho : OpR X (binaryOp op) r) (ha : PE X a ta) (hb : PE X b tb) : PE X (.BinOp a op b pos) (tOp r ta tb) := by
  intro pins s σ H Q I h
  exact wpAny_BinOp (binT ha hb I h fun v u s2 x y H2 I2 rx ry q => ho pins s2 σ H2 x y v u Q I2 rx ry q)
theorem pe_un {op : UnaryOp} {r : V → Hp → VK → Prop} (ho : UnR X (unaryOp op) r) (ha : PE X a ta) : PE X (.UnaryOp op a pos) (tUn r ta) := by
  intro pins s σ H Q I h
  exact UnaryOp_ (thn (ha pins s σ H _ I h) fun v s1 ⟨x, H1, I1, r1, q1⟩ => ho pins s1 σ H1 x v Q I1 r1 q1)
theorem opI {f : Value → Value → Sem Value} {C : Int → Int → Prop} {g : Int → Int → Int}
    (rule : ∀ (i j : Int) (t u : Tok) (s : Shared) (Q : Value → Shared → Prop) (E : Value → Shared → Prop), C i j → Q (.int (g i j) s.toks) { s with toks := s.toks + 1 } → wpAny (model X.prog X.w) X.A (f (.int i t) (.int j u)) Q E s) :
    OpR X f (rI C fun i j => .int (g i j)) := by
  intro pins s σ H x y v u Q I rx ry h
  obtain ⟨i, j, rfl, rfl, hc, q⟩ := h
  obtain ⟨t, rfl⟩ := rx
  obtain ⟨t', rfl⟩ := ry
  exact rule i j t t' s _ _ hc ⟨.int (g i j), H, I.tok _, ⟨_, rfl⟩, q⟩
theorem opI0 {f : Value → Value → Sem Value} {g : Int → Int → Int}
    (rule : ∀ (i j : Int) (t u : Tok) (s : Shared) (Q : Value → Shared → Prop) (E : Value → Shared → Prop), Q (.int (g i j) s.toks) { s with toks := s.toks + 1 } → wpAny (model X.prog X.w) X.A (f (.int i t) (.int j u)) Q E s) :
    OpR X f (rI0 fun i j => .int (g i j)) := by
  intro pins s σ H x y v u Q I rx ry h
  obtain ⟨i, j, rfl, rfl, q⟩ := h
  obtain ⟨t, rfl⟩ := rx
  obtain ⟨t', rfl⟩ := ry
  exact rule i j t t' s _ _ ⟨.int (g i j), H, I.tok _, ⟨_, rfl⟩, q⟩
theorem opB0 {f : Value → Value → Sem Value} {g : Int → Int → Bool}
    (rule : ∀ (i j : Int) (t u : Tok) (s : Shared) (Q : Value → Shared → Prop) (E : Value → Shared → Prop), Q (.bool (g i j)) s → wpAny (model X.prog X.w) X.A (f (.int i t) (.int j u)) Q E s) :
    OpR X f (rI0 fun i j => .bl (g i j)) := by
  intro pins s σ H x y v u Q I rx ry h
  obtain ⟨i, j, rfl, rfl, q⟩ := h
  obtain ⟨t, rfl⟩ := rx
  obtain ⟨t', rfl⟩ := ry
  exact rule i j t t' s _ _ ⟨.bl (g i j), H, I, rfl, q⟩
def CDiv (i j : Int) : Prop := 0 < j ∧ j < 1073741824
def CPow (i j : Int) : Prop := 0 ≤ j ∧ j ≤ 1000000 ∧ i.natAbs < 2 ^ 64
def CMul (i j : Int) : Prop := (-(2 ^ 64) < i ∧ i < 2 ^ 64) ∨ (-(2 ^ 64) < j ∧ j < 2 ^ 64)
theorem CMul.ok {i j : Int} (h : CMul i j) : IntMulOk i j := by
  rcases h with ⟨h1, h2⟩ | ⟨h1, h2⟩
  · exact .of_left (intBits_le_64 h1 h2)
  · exact .of_right (intBits_le_64 h1 h2)
theorem op_add : OpR X (binaryOp .Add) (rI0 fun i j => .int (i + j)) := opI0 fun _ _ _ _ _ _ _ q => add_int q
theorem op_sub : OpR X (binaryOp .Sub) (rI0 fun i j => .int (i - j)) := opI0 fun _ _ _ _ _ _ _ q => sub_int q
theorem op_mul : OpR X (binaryOp .Mult) (rI CMul fun i j => .int (i * j)) := opI fun _ _ _ _ _ _ _ hc q => mul_int q hc.ok
theorem op_fdiv : OpR X (binaryOp .FloorDiv) (rI CDiv fun i j => .int (i / j)) := opI fun i j _ _ _ _ _ hc q => by
  have h1 : (0 : Int) < j := hc.1
  have h2 : j < 1073741824 := hc.2
  exact floordiv_int (by omega) (by rw [Int.fdiv_eq_ediv_of_nonneg i (by omega)]; exact q) (.inl (PyProof.noPylong_small (by omega)))
theorem op_mod : OpR X (binaryOp .Mod) (rI (fun _ j => 0 < j) fun i j => .int (i % j)) := opI fun i j _ _ _ _ _ hc q => by
  have h1 : (0 : Int) < j := hc
  exact mod_int' (by omega) (by rw [Int.fmod_eq_emod_of_nonneg i (by omega)]; exact q)
theorem op_pow : OpR X (binaryOp .Pow) (rI CPow fun i j => .int (i ^ j.toNat)) := opI fun _ _ _ _ _ _ _ hc q => pow_int_small hc.1 hc.2.1 hc.2.2 q
theorem unI {f : Value → Sem Value} {g : Int → Int}
    (rule : ∀ (i : Int) (t : Tok) (s : Shared) (Q : Value → Shared → Prop) (E : Value → Shared → Prop), Q (.int (g i) s.toks) { s with toks := s.toks + 1 } → wpAny (model X.prog X.w) X.A (f (.int i t)) Q E s) :
    UnR X f (rU fun i => .int (g i)) := by
  intro pins s σ H x v Q I rx h
  obtain ⟨i, rfl, q⟩ := h
  obtain ⟨t, rfl⟩ := rx
  exact rule i t s _ _ ⟨.int (g i), H, I.tok _, ⟨_, rfl⟩, q⟩
theorem un_neg : UnR X (unaryOp .USub) (rU fun i => .int (-i)) := unI fun _ _ _ _ _ q => neg_int q
end
def scal : V → V → Bool
  | .non, .non => true | .non, .int _ => true | .int _, .non => true | .non, .bl _ => true | .bl _, .non => true | .non, .str _ => true | .str _, .non => true
  | .int _, .int _ => true | .bl _, .bl _ => true | .str _, .str _ => true | .byt _, .byt _ => true
  | .int _, .str _ => true | .str _, .int _ => true | .bl _, .str _ => true | .str _, .bl _ => true
  | _, _ => false
def rEq : R2 := fun x y H Q => scal x y = true ∧ Q (.bl (decide (x = y))) H
def rNe : R2 := fun x y H Q => scal x y = true ∧ Q (.bl (!decide (x = y))) H
theorem dec_int {i j : Int} : decide (V.int i = V.int j) = (i == j) := by
  rw [Bool.eq_iff_iff]
  simp
theorem dec_bl {i j : Bool} : decide (V.bl i = V.bl j) = (i == j) := by
  rw [Bool.eq_iff_iff]
  simp
theorem dec_str {i j : Str} : decide (V.str i = V.str j) = (i == j) := by
  rw [Bool.eq_iff_iff]
  simp
theorem dec_byt {i j : Array UInt8} : decide (V.byt i = V.byt j) = (i.toList == j.toList) := by
  rw [Bool.eq_iff_iff]
  cases i
  cases j
  simp
section
variable {X : Cx} {a b c : Expr} {ta tb tc : TE} {pos : Pos}
theorem fin_bl {pins : List (Addr × Obj)} {σ : St} {H : Hp} {s : Shared} {Q : VK} {k k' : Bool} (I : Inv X pins σ H s) (q : Q (.bl k) H) (e : k = k') : EP X pins σ Q (.bool k') s := by
  subst e
  exact ⟨.bl k, H, I, rfl, q⟩
theorem op_eq : OpR X (compareOp .Eq) rEq := by
  intro pins s σ H x y v u Q I rx ry h
  obtain ⟨hs, q⟩ := h
  cases x with
  | non =>
    cases rx
    cases y with
    | non => cases ry; exact PySem.EqNone.eq_none_none (fin_bl I q (by simp))
    | bl j => cases ry; exact PySem.EqNone.eq_none_bool (fin_bl I q (by simp))
    | int j => obtain ⟨t', rfl⟩ := ry; exact PySem.EqNone.eq_none_int (fin_bl I q (by simp))
    | str j => obtain ⟨t', rfl⟩ := ry; exact PySem.EqNone.eq_none_str (fin_bl I q (by simp))
    | _ => exact absurd (show false = true from hs) Bool.false_ne_true
  | bl i =>
    cases rx
    cases y with
    | non => cases ry; exact PySem.EqNone.eq_bool_none (fin_bl I q (by simp))
    | bl j => cases ry; exact eq_bool (fin_bl I q dec_bl)
    | str j => obtain ⟨t', rfl⟩ := ry; exact PySem.EqMixed.eq_bool_str (fin_bl I q (by simp))
    | _ => exact absurd (show false = true from hs) Bool.false_ne_true
  | int i =>
    obtain ⟨t, rfl⟩ := rx
    cases y with
    | non => cases ry; exact PySem.EqNone.eq_int_none (fin_bl I q (by simp))
    | int j => obtain ⟨t', rfl⟩ := ry; exact eq_int (fin_bl I q dec_int)
    | str j => obtain ⟨t', rfl⟩ := ry; exact PySem.EqMixed.eq_int_str (fin_bl I q (by simp))
    | _ => exact absurd (show false = true from hs) Bool.false_ne_true
  | str i =>
    obtain ⟨t, rfl⟩ := rx
    cases y with
    | non => cases ry; exact PySem.EqNone.eq_str_none (fin_bl I q (by simp))
    | bl j => cases ry; exact PySem.EqMixed.eq_str_bool (fin_bl I q (by simp))
    | int j => obtain ⟨t', rfl⟩ := ry; exact PySem.EqMixed.eq_str_int (fin_bl I q (by simp))
    | str j => obtain ⟨t', rfl⟩ := ry; exact eq_str (fin_bl I q dec_str)
    | _ => exact absurd (show false = true from hs) Bool.false_ne_true
  | byt i =>
    obtain ⟨t, rfl⟩ := rx
    cases y with
    | byt j => obtain ⟨t', rfl⟩ := ry; exact PySem.W.eq_bytes (fin_bl I q dec_byt)
    | _ => exact absurd (show false = true from hs) Bool.false_ne_true
  | _ => cases y <;> exact absurd (show false = true from hs) Bool.false_ne_true
theorem op_ne : OpR X (compareOp .NotEq) rNe := by
  intro pins s σ H x y v u Q I rx ry h
  obtain ⟨hs, q⟩ := h
  cases x with
  | non =>
    cases rx
    cases y with
    | non => cases ry; exact PySem.EqNone.ne_none_none (fin_bl I q (by simp))
    | bl j => cases ry; exact PySem.EqNone.ne_none_bool (fin_bl I q (by simp))
    | int j => obtain ⟨t', rfl⟩ := ry; exact PySem.EqNone.ne_none_int (fin_bl I q (by simp))
    | str j => obtain ⟨t', rfl⟩ := ry; exact PySem.EqNone.ne_none_str (fin_bl I q (by simp))
    | _ => exact absurd (show false = true from hs) Bool.false_ne_true
  | bl i =>
    cases rx
    cases y with
    | non => cases ry; exact PySem.EqNone.ne_bool_none (fin_bl I q (by simp))
    | bl j => cases ry; exact ne_bool (fin_bl I q (congrArg not dec_bl))
    | str j => obtain ⟨t', rfl⟩ := ry; exact PySem.EqMixed.ne_bool_str (fin_bl I q (by simp))
    | _ => exact absurd (show false = true from hs) Bool.false_ne_true
  | int i =>
    obtain ⟨t, rfl⟩ := rx
    cases y with
    | non => cases ry; exact PySem.EqNone.ne_int_none (fin_bl I q (by simp))
    | int j => obtain ⟨t', rfl⟩ := ry; exact ne_int (fin_bl I q (congrArg not dec_int))
    | str j => obtain ⟨t', rfl⟩ := ry; exact PySem.EqMixed.ne_int_str (fin_bl I q (by simp))
    | _ => exact absurd (show false = true from hs) Bool.false_ne_true
  | str i =>
    obtain ⟨t, rfl⟩ := rx
    cases y with
    | non => cases ry; exact PySem.EqNone.ne_str_none (fin_bl I q (by simp))
    | bl j => cases ry; exact PySem.EqMixed.ne_str_bool (fin_bl I q (by simp))
    | int j => obtain ⟨t', rfl⟩ := ry; exact PySem.EqMixed.ne_str_int (fin_bl I q (by simp))
    | str j => obtain ⟨t', rfl⟩ := ry; exact ne_str (fin_bl I q (congrArg not dec_str))
    | _ => exact absurd (show false = true from hs) Bool.false_ne_true
  | byt i =>
    obtain ⟨t, rfl⟩ := rx
    cases y with
    | byt j => obtain ⟨t', rfl⟩ := ry; exact PySem.W.ne_bytes (fin_bl I q (congrArg not dec_byt))
    | _ => exact absurd (show false = true from hs) Bool.false_ne_true
  | _ => cases y <;> exact absurd (show false = true from hs) Bool.false_ne_true
theorem op_lt : OpR X (compareOp .Lt) (rI0 fun i j => .bl (decide (i < j))) := opB0 fun _ _ _ _ _ _ _ q => lt_int q
theorem op_le : OpR X (compareOp .LtE) (rI0 fun i j => .bl (decide (i ≤ j))) := opB0 fun _ _ _ _ _ _ _ q => le_int q
theorem op_gt : OpR X (compareOp .Gt) (rI0 fun i j => .bl (decide (j < i))) := opB0 fun _ _ _ _ _ _ _ q => gt_int q
theorem op_ge : OpR X (compareOp .GtE) (rI0 fun i j => .bl (decide (j ≤ i))) := opB0 fun _ _ _ _ _ _ _ q => ge_int q
theorem op_in_str : OpR X (compareOp .In) (fun x y H Q => ∃ i j, x = .str i ∧ y = .str j ∧ Q (.bl (!(Builtin.Str.occurrences j i 0 j.length 1).isEmpty)) H) := by
  intro pins s σ H x y v u Q I rx ry h
  obtain ⟨i, j, rfl, rfl, q⟩ := h
  obtain ⟨t, rfl⟩ := rx
  obtain ⟨t', rfl⟩ := ry
  exact in_str (fin_bl I q rfl)
theorem op_isN : OpR X (compareOp .Is) (fun x y H Q => y = .non ∧ Q (.bl (decide (x = .non))) H) := by
  intro pins s σ H x y v u Q I rx ry h
  obtain ⟨rfl, q⟩ := h
  cases ry
  refine is_none_gen (fin_bl I q ?_)
  cases x <;> first
    | (cases rx; rfl)
    | (obtain ⟨t, rfl⟩ := rx; rfl)
theorem op_notN : OpR X (compareOp .IsNot) (fun x y H Q => y = .non ∧ Q (.bl (!decide (x = .non))) H) := by
  intro pins s σ H x y v u Q I rx ry h
  obtain ⟨rfl, q⟩ := h
  cases ry
  refine isnot_none_gen (fin_bl I q ?_)
  cases x <;> first
    | (cases rx; rfl)
    | (obtain ⟨t, rfl⟩ := rx; rfl)
theorem nomark (b : Expr) {op : CmpOp} (h : op ≠ .In := by decide) (h2 : op ≠ .NotIn := by decide) : behindInMarks op b = false := by
  have e1 : (op == CmpOp.In) = false := by cases op <;> first | rfl | exact absurd rfl h
  have e2 : (op == CmpOp.NotIn) = false := by cases op <;> first | rfl | exact absurd rfl h2
  cases b <;> simp [behindInMarks, e1, e2]
theorem pe_cmpR {op : CmpOp} {r : R2} (ho : OpR X (compareOp op) r) (ha : PE X a ta) (hb : PE X b tb) (hm : behindInMarks op b = false) : PE X (.Compare a [op] [b] pos) (tOp r ta tb) := by
  intro pins s σ H Q I h
  exact wpAny_Compare1 (binT ha hb I h fun v u s2 x y H2 I2 rx ry q => ho pins s2 σ H2 x y v u Q I2 rx ry q) hm
def tTest (t : TE) : TT := fun σ H Q => t σ H fun x H' => ∃ k, x = .bl k ∧ Q k H'
theorem pt_cmpR {op : CmpOp} {r : R2} (ho : OpR X (compareOp op) r) (ha : PE X a ta) (hb : PE X b tb) (hm : behindInMarks op b = false) : PT X (.Compare a [op] [b] pos) (tTest (tOp r ta tb)) := by
  intro pins s σ H Q I h
  refine wpAny_isTrue_Compare1 (thn (ha pins s σ H _ I h) fun v s1 ⟨x, H1, I1, r1, q1⟩ => thn (hb pins s1 σ H1 _ I1 q1) fun u s2 ⟨y, H2, I2, r2, q2⟩ =>
    thn (ho pins s2 σ H2 x y v u _ I2 r1 r2 q2) fun c s3 ⟨z, H3, I3, r3, k, e, q3⟩ => ?_) hm
  subst e
  cases r3
  exact wpAny_truthy_bool ⟨H3, I3, q3⟩
def tChain (r r' : R2) (ta tb tc : TE) : TE := fun σ H Q => ta σ H fun x H1 => tb σ H1 fun y H2 => r x y H2 fun z H3 => ∃ k, z = .bl k ∧
  (if k = true then tc σ H3 fun w' H4 => r' y w' H4 Q else Q (.bl false) H3)
theorem pe_chain {op op' : CmpOp} {r r' : R2} (ho : OpR X (compareOp op) r) (ho' : OpR X (compareOp op') r') (ha : PE X a ta) (hb : PE X b tb) (hc : PE X c tc)
    (hm : lastMarks [op, op'] [b, c] = false := by with_unfolding_all rfl) : PE X (.Compare a [op, op'] [b, c] pos) (tChain r r' ta tb tc) := by
  intro pins s σ H Q I h
  refine Compare_chain (thn (ha pins s σ H _ I h) fun v s1 ⟨x, H1, I1, r1, q1⟩ => chain_link (thn (hb pins s1 σ H1 _ I1 q1) fun u s2 ⟨y, H2, I2, r2, q2⟩ =>
    thn (ho pins s2 σ H2 x y v u _ I2 r1 r2 q2) fun d s3 ⟨z, H3, I3, r3, k, e, q3⟩ => ?_)) hm
  subst e
  cases r3
  refine wpAny_truthy_bool ?_
  cases k with
  | false => exact ite_ff ⟨.bl false, H3, I3, rfl, q3⟩
  | true => exact ite_tt (chain_last (thn (hc pins s3 σ H3 _ I3 q3) fun w' s4 ⟨z', H4, I4, r4, q4⟩ => ho' pins s4 σ H4 y z' u w' Q I4 r2 r4 q4))
theorem pt_chain {op op' : CmpOp} {r r' : R2} (ho : OpR X (compareOp op) r) (ho' : OpR X (compareOp op') r') (ha : PE X a ta) (hb : PE X b tb) (hc : PE X c tc)
    (hm : lastMarks [op, op'] [b, c] = false := by with_unfolding_all rfl) : PT X (.Compare a [op, op'] [b, c] pos) (tTest (tChain r r' ta tb tc)) := by
  intro pins s σ H Q I h
  refine isTrue_chain (thn (ha pins s σ H _ I h) fun v s1 ⟨x, H1, I1, r1, q1⟩ => test_link (thn (hb pins s1 σ H1 _ I1 q1) fun u s2 ⟨y, H2, I2, r2, q2⟩ =>
    thn (ho pins s2 σ H2 x y v u _ I2 r1 r2 q2) fun d s3 ⟨z, H3, I3, r3, k, e, q3⟩ => ?_)) hm
  subst e
  cases r3
  refine wpAny_truthy_bool ?_
  cases k with
  | false =>
    obtain ⟨k', e', q'⟩ := q3
    cases e'
    exact ite_ff ⟨H3, I3, q'⟩
  | true =>
    refine ite_tt (test_last (thn (hc pins s3 σ H3 _ I3 q3) fun w' s4 ⟨z', H4, I4, r4, q4⟩ => thn (ho' pins s4 σ H4 y z' u w' _ I4 r2 r4 q4) fun d' s5 ⟨z2, H5, I5, r5, k2, e2, q5⟩ => ?_))
    subst e2
    cases r5
    exact wpAny_truthy_bool ⟨H5, I5, q5⟩
theorem line63 : (sizeLine : Nat) < 2 ^ 63 := by rw [sizeLine_eq]; decide
theorem vals1 {x : V} {us : List Value} (r : Vals [x] us) : ∃ u, us = [u] ∧ RelV x u := by
  cases r with
  | cons r1 r2 => cases r2; exact ⟨_, rfl, r1⟩
theorem vals2 {x y : V} {us : List Value} (r : Vals [x, y] us) : ∃ u w', us = [u, w'] ∧ RelV x u ∧ RelV y w' := by
  cases r with
  | cons r1 r2 =>
    cases r2 with
    | cons r3 r4 => cases r4; exact ⟨_, _, rfl, r1, r3⟩
theorem call_max2 (hc : X.calm = true) : CallR X (.builtin "max") (fun xs H Q => ∃ i j, xs = [.int i, .int j] ∧ Q (.int (if j > i then j else i)) H) := by
  intro pins s σ H xs us Q I r h
  obtain ⟨i, j, rfl, q⟩ := h
  obtain ⟨u, w', rfl, ⟨t, rfl⟩, ⟨t', rfl⟩⟩ := vals2 r
  refine max_two_ints (I.ok.hd hc) fun h' tk k => ⟨_, H, I.kept k, ?_, q⟩
  by_cases hj : j > i
  · rw [if_pos hj, if_pos hj]; exact ⟨_, rfl⟩
  · rw [if_neg hj, if_neg hj]; exact ⟨_, rfl⟩
theorem call_min2 (hc : X.calm = true) : CallR X (.builtin "min") (fun xs H Q => ∃ i j, xs = [.int i, .int j] ∧ Q (.int (if j < i then j else i)) H) := by
  intro pins s σ H xs us Q I r h
  obtain ⟨i, j, rfl, q⟩ := h
  obtain ⟨u, w', rfl, ⟨t, rfl⟩, ⟨t', rfl⟩⟩ := vals2 r
  refine min_two_ints (I.ok.hd hc) fun h' tk k => ⟨_, H, I.kept k, ?_, q⟩
  by_cases hj : j < i
  · rw [if_pos hj, if_pos hj]; exact ⟨_, rfl⟩
  · rw [if_neg hj, if_neg hj]; exact ⟨_, rfl⟩
theorem call_int1 : CallR X (.type "int") (fun xs H Q => (∃ i, xs = [.int i] ∧ Q (.int i) H) ∨ ∃ k, xs = [.bl k] ∧ Q (.int (if k then 1 else 0)) H) := by
  intro pins s σ H xs us Q I r h
  rcases h with ⟨i, rfl, q⟩ | ⟨k, rfl, q⟩
  · obtain ⟨u, rfl, t, rfl⟩ := vals1 r
    exact call_int_int ⟨.int i, H, I, ⟨_, rfl⟩, q⟩
  · obtain ⟨u, rfl, r1⟩ := vals1 r
    cases r1
    exact call_int_bool ⟨.int (if k then 1 else 0), H, I.tok _, ⟨_, rfl⟩, q⟩
end
structure ObjM (h : Heap) (x dx C : Addr) (mA : Str → Option Value) : Prop where
  obj : h.get? x = some (PySem.W.instObj C dx)
  ns : h.Ns1 dx mA
  ne : dx ≠ x
theorem lookIn_ns {h : Heap} {dx : Addr} {mA : Str → Option Value} (n : h.Ns1 dx mA) : ∃ od, h.get? dx = some od ∧ ∀ name, PySem.W.lookIn name od = some (mA name) := by
  obtain ⟨o, es, ep, ho, hd, hk, _, hm⟩ := n
  refine ⟨o, ho, fun name => ?_⟩
  have e := hm name
  unfold nsFind findBy at e
  rw [← Array.find?_toList] at e
  unfold PySem.W.lookIn
  rw [hd]
  dsimp only
  split
  · rename_i y q
    rw [q] at e
    exact congrArg some e
  · rename_i q
    rw [q] at e
    have a : es.toList.any (·.refKey) = false := by
      rw [List.any_eq_false]
      intro y hy
      obtain ⟨z, t, hkey⟩ := hk y (Array.mem_toList_iff.mp hy)
      simp [DictEntry.refKey, hkey]
    have a' : ¬ es.toList.any (·.refKey) = true := by rw [a]; exact Bool.false_ne_true
    rw [if_neg a']
    exact congrArg some e
theorem ObjM.look {h : Heap} {x dx C : Addr} {mA : Str → Option Value} (I : ObjM h x dx C mA) : ∃ od, PySem.W.InstAt h x (PySem.W.instObj C dx) C (some od) ∧ ∀ name, PySem.W.lookIn name od = some (mA name) :=
  let ⟨od, ho, hl⟩ := lookIn_ns I.ns
  ⟨od, ⟨I.obj, rfl, rfl, ho⟩, hl⟩
section
variable {prog : Program} {w : World} {A : Around} {E : Value → Shared → Prop} {s : Shared} {K : PySem.W.Frag} {x dx C f : Addr} {mA : Str → Option Value} {name : Str} {v : Value}
theorem get_map {expr : Bool} {Q : Value → Shared → Prop} (X : K.In s.heap) (I : ObjM s.heap x dx C mA) (hg : PySem.W.plainGet K C name = true) (hh : PySem.W.hasDictIn K C = true)
    (ha : PySem.W.findIn K (.ref C) name = some none) (hv : mA name = some v) (hv' : PySem.W.handedIn v = true) (h : Q v { s with toks := s.toks + 1 }) :
    wpAny (model prog w) A (getAttr (.ref x) name expr) Q E s := by
  obtain ⟨od, J, hl⟩ := I.look
  exact PySem.W.get_value X J (PySem.W.plainGet_of hg).1 (PySem.W.findObj_own hh ha rfl (by rw [hl, hv])) hv' h
theorem get_meth {pl : Sem Bool} {Q : Value × List Value → Shared → Prop} (X : K.In s.heap) (I : ObjM s.heap x dx C mA) (hg : PySem.W.plainGet K C name = true)
    (hf : PySem.W.findIn K (.ref C) name = some (some (.ref f))) (ht : PySem.W.isFn K (.ref f) = true) (hv : mA name = none) (h : Q (.ref f, [.ref x]) s) :
    wpAny (model prog w) A (getMethod (.ref x) name pl) Q E s := by
  obtain ⟨od, J, hl⟩ := I.look
  exact PySem.W.method_fn X J (PySem.W.plainGet_of hg).1 (PySem.W.plainGet_of hg).2 hf (beq_iff_eq.mp ht) (by show (PySem.W.lookIn name od).map (·.isSome) = some false; rw [hl, hv]; rfl) h
theorem set_map {ns : List Str} {Q : Unit → Shared → Prop} (X : K.In s.heap) (I : ObjM s.heap x dx C mA)
    (hs : PySem.W.findIn K (.ref C) "__setattr__" = some (some (.builtin "object.__setattr__"))) (hp : PySem.W.plainOver K C = true) (ht : PySem.W.takerIn K C name = some none) (hh : PySem.W.hasDictIn K C = true)
    (hw : PySem.Within mA ns) (hsz : ns.length ≤ sizeLine)
    (h : ∀ h', ObjM h' x dx C (fun y => if y = name then some v else mA y) → Heap.SameBut dx s.heap h' → Q () { s with heap := h', toks := s.toks + 2 }) :
    wpAny (model prog w) A (setAttr (.ref x) name v) Q E s := by
  obtain ⟨od, J, hl⟩ := I.look
  refine PySem.W.set_plain X J hs (PySem.W.osa_open (s := { s with toks := s.toks + 1 }) (r := none) X J hp ht fun b => ?_)
  obtain ⟨cd, hc, hd'⟩ := PySem.W.any_some hh
  have hx : s.heap.get? x = some ⟨.ref C, some dx, .plain, #[]⟩ := I.obj
  refine wpAny_bind (wpAny_pure (wpAny_bind (wpAny_bind (wpAny_loadPart hx (wpAny_bind (PySem.W.Looks.here (s := { s with toks := s.toks + 1 }) (PySem.W.looks_clsIn X hc) ?_))))))
  rw [hd']
  refine wpAny_pure (a := some dx) (wpAny_bind (wpAny_pure (wpAny_bind ?_)))
  refine wpAny_nsSet1 (s := { s with toks := s.toks + 1 }) I.ns fun h' hn2 hs2 => ?_
  obtain ⟨oD, esD, epD, hoD, hdD, hcD⟩ := hn2.count (PySem.Within.cons name v hw)
  refine wpAny_bind (wpAny_lookBehind hoD (by rw [hdD]; exact pastItsLine_dict (Nat.le_trans hcD (by rw [List.length_cons]; omega))) ?_)
  exact wpAny_pure (h _ ⟨(hs2.2 _ (Ne.symm I.ne)).trans I.obj, hn2, I.ne⟩ hs2)
theorem make_map {R : Result → Shared → Prop} {vs : List Value} {kw : List (Str × Value)} (X : K.In s.heap) (hm : PySem.W.makesIn K C = true)
    (hi : PySem.W.findIn K (.ref C) "__init__" = some (some (.ref f))) (hf : PySem.W.typeIn K (.ref f) = some (.type "function"))
    (h : codeAny (model prog w) (A.under (.builtin "type.__call__" ⟨.ref C :: vs, kw⟩)) (.call (.ref f) ⟨.ref (s.heap.objs.size + 1) :: vs, kw⟩) (PySem.W.InitBack (s.heap.objs.size + 1) R)
      { s with heap := (s.heap.push PySem.W.emptyDict).push (PySem.W.instObj C s.heap.objs.size) }) :
    codeAny (model prog w) A (.call (.ref C) ⟨vs, kw⟩) R s := by
  obtain ⟨hh, g, d, t, os⟩ := s
  exact PySem.W.make_core (PySem.W.makes_of X hm) (PySem.W.looks_findIn X hi) (fun self => PySem.W.bind_fn X self hf) (.inl rfl) h
end
def putF (f : Str) (v : V) : List (Str × V) → List (Str × V)
  | [] => [(f, v)]
  | (g, x) :: r => if g = f then (g, v) :: r else (g, x) :: putF f v r
theorem lookup_putF (f g : Str) (v : V) : ∀ fs : List (Str × V), (putF f v fs).lookup g = if g = f then some v else fs.lookup g
  | [] => by
    show List.lookup g [(f, v)] = _
    by_cases h : g = f
    · have hb : (g == f) = true := beq_iff_eq.mpr h
      simp only [List.lookup, hb, if_pos h]
    · have hb : (g == f) = false := beq_eq_false_iff_ne.mpr h
      simp only [List.lookup, hb, if_neg h]
  | (k, x) :: r => by
    have ih := lookup_putF f g v r
    rw [show putF f v ((k, x) :: r) = (if k = f then (k, v) :: r else (k, x) :: putF f v r) from rfl]
    by_cases hk : k = f
    · rw [if_pos hk]
      by_cases h : g = k
      · have hb : (g == k) = true := beq_iff_eq.mpr h
        simp only [List.lookup, hb, if_pos (h.trans hk)]
      · have hb : (g == k) = false := beq_eq_false_iff_ne.mpr h
        simp only [List.lookup, hb, if_neg (fun e : g = f => h (e.trans hk.symm))]
    · rw [if_neg hk]
      by_cases h : g = k
      · have hb : (g == k) = true := beq_iff_eq.mpr h
        simp only [List.lookup, hb, if_neg (fun e : g = f => hk (h.symm.trans e))]
      · have hb : (g == k) = false := beq_eq_false_iff_ne.mpr h
        simp only [List.lookup, hb]
        exact ih
theorem keys_putF (f : Str) (v : V) : ∀ fs : List (Str × V), f ∈ (putF f v fs).map (·.1) ∧ ∀ g, g ∈ fs.map (·.1) → g ∈ (putF f v fs).map (·.1)
  | [] => ⟨by simp [putF], fun g h => by simp at h⟩
  | (k, x) :: r => by
    obtain ⟨i1, i2⟩ := keys_putF f v r
    rw [show putF f v ((k, x) :: r) = (if k = f then (k, v) :: r else (k, x) :: putF f v r) from rfl]
    by_cases hk : k = f
    · rw [if_pos hk]
      subst hk
      exact ⟨by simp, fun g h => by simpa using h⟩
    · rw [if_neg hk]
      refine ⟨?_, fun g h => ?_⟩
      · rw [List.map_cons]
        exact List.mem_cons_of_mem _ i1
      · rw [List.map_cons] at h ⊢
        rcases List.mem_cons.mp h with e | e
        · exact List.mem_cons.mpr (.inl e)
        · exact List.mem_cons_of_mem _ (i2 g e)
theorem length_putF (f : Str) (v : V) : ∀ fs : List (Str × V), (putF f v fs).length ≤ fs.length + 1
  | [] => by simp [putF]
  | (k, x) :: r => by
    have ih := length_putF f v r
    rw [show putF f v ((k, x) :: r) = (if k = f then (k, v) :: r else (k, x) :: putF f v r) from rfl]
    by_cases hk : k = f
    · rw [if_pos hk, List.length_cons, List.length_cons]; omega
    · rw [if_neg hk, List.length_cons, List.length_cons]; omega
theorem RelO.some_of {v : V} {o : Option Value} (r : RelO (some v) o) : ∃ u, o = some u ∧ RelV v u := by
  cases o with
  | none => exact (show False from r).elim
  | some u => exact ⟨u, rfl, r⟩
theorem RelO.none_of {o : Option Value} (r : RelO none o) : o = none := by
  cases o with
  | none => rfl
  | some u => exact (show False from r).elim
theorem handed_of {v : V} {u : Value} (r : RelV v u) : PySem.W.handedIn u = true := by
  cases v with
  | non => cases (show u = Value.none from r); rfl
  | bl b => cases (show u = Value.bool b from r); rfl
  | int i => obtain ⟨t, e⟩ := (show ∃ t, u = Value.int i t from r); cases e; rfl
  | str x => obtain ⟨t, e⟩ := (show ∃ t, u = Value.str x t from r); cases e; rfl
  | byt b => obtain ⟨t, e⟩ := (show ∃ t, u = Value.bytes b t from r); cases e; rfl
  | flt b => obtain ⟨t, e⟩ := (show ∃ t, u = Value.float b t from r); cases e; rfl
  | ref a => cases (show u = Value.ref a from r); rfl
  | ty n => cases (show u = Value.type n from r); rfl
section
variable {P : Program} {w : World} {H H' : Hp} {h h' : Heap} {a C dx : Addr} {fs fs' : List (Str × V)}
theorem ins_get (hok : HOk P w H h) (e : H a = some (.ins C dx fs)) : ∃ mA, ObjM h a dx C mA ∧ (∀ f, RelO (fs.lookup f) (mA f)) ∧ PySem.Within mA (fs.map (·.1)) ∧ fs.length ≤ 1000 ∧ H dx = some (.own a) := by
  obtain ⟨d, z, ne, ob, mA, n, r, q⟩ := (show ObjOk P w H h a (.ins C dx fs) from hok a _ e)
  exact ⟨mA, ⟨ob, n, ne⟩, r, q, z, d⟩
end
structure Cls (K : PySem.W.Frag) (C : Addr) : Prop where
  pg : PySem.W.plainGet K C Str.empty = true
  hd : PySem.W.hasDictIn K C = true
  po : PySem.W.plainOver K C = true
  sa : PySem.W.findIn K (.ref C) "__setattr__" = some (some (.builtin "object.__setattr__"))
theorem Cls.get {K : PySem.W.Frag} {C : Addr} (c : Cls K C) (f : Str) : PySem.W.plainGet K C f = true := c.pg
def NoAttr (K : PySem.W.Frag) (C : Addr) (f : Str) : Prop := PySem.W.findIn K (.ref C) f = some none
theorem NoAttr.taker {K : PySem.W.Frag} {C : Addr} {f : Str} (n : NoAttr K C f) : PySem.W.takerIn K C f = some none := by
  unfold PySem.W.takerIn
  rw [show PySem.W.findIn K (.ref C) f = some none from n]
  rfl
structure Meth (K : PySem.W.Frag) (C : Addr) (m : Str) (f : Addr) : Prop where
  at_ : PySem.W.findIn K (.ref C) m = some (some (.ref f))
  fn : PySem.W.isFn K (.ref f) = true
  kp : PySem.W.keepIn K (.ref f) = true
section
variable {X : Cx} {pins : List (Addr × Obj)} {σ : St} {H : Hp} {s : Shared} {a C dx : Addr} {fs : List (Str × V)} {f : Str} {v : V} {A : Around} {E : Value → Shared → Prop}
theorem getattr_ok {b : Bool} {Q : Value → Shared → Prop} (I : Inv X pins σ H s) (e : H a = some (.ins C dx fs)) (c : Cls X.K C) (n : NoAttr X.K C f) (l : fs.lookup f = some v)
    (h : ∀ u s', Inv X pins σ H s' → RelV v u → Q u s') : wpAny (model X.prog X.w) A (getAttr (.ref a) f b) Q E s := by
  obtain ⟨mA, O, r, _, _, _⟩ := ins_get I.hok e
  obtain ⟨u, hu, ru⟩ := RelO.some_of (v := v) (o := mA f) (by rw [← l]; exact r f)
  exact get_map I.kIn O (c.get f) c.hd n hu (handed_of ru) (h u _ (I.tok _) ru)
theorem getmeth_ok {m : Str} {g : Addr} {pl : Sem Bool} {Q : Value × List Value → Shared → Prop} (I : Inv X pins σ H s) (e : H a = some (.ins C dx fs)) (c : Cls X.K C) (k : Meth X.K C m g) (l : fs.lookup m = none)
    (h : Q (.ref g, [.ref a]) s) : wpAny (model X.prog X.w) A (getMethod (.ref a) m pl) Q E s := by
  obtain ⟨mA, O, r, _, _, _⟩ := ins_get I.hok e
  have hn : mA m = none := RelO.none_of (by rw [← l]; exact r m)
  exact get_meth I.kIn O (c.get m) k.at_ k.fn hn h
theorem setattr_ok {y : V} {u : Value} {Q : Unit → Shared → Prop} (I : Inv X pins σ H s) (e : H a = some (.ins C dx fs)) (c : Cls X.K C) (n : NoAttr X.K C f) (hl : fs.length < 1000) (ry : RelV y u)
    (h : ∀ s', Inv X pins σ (upd H a (.ins C dx (putF f y fs))) s' → Q () s') : wpAny (model X.prog X.w) A (setAttr (.ref a) f u) Q E s := by
  obtain ⟨mA, O, r, wi, _, ho⟩ := ins_get I.hok e
  have hz : (fs.map (·.1)).length ≤ sizeLine := by rw [List.length_map, sizeLine_eq]; omega
  refine set_map I.kIn O c.sa c.po n.taker c.hd wi hz fun h' O' sb => h _ ?_
  have hd : ∃ o, h'.get? dx = some o := let ⟨o, _, _, e', _⟩ := O'.ns; ⟨o, e'⟩
  refine I.write (x := a) (e := dx) (by rw [e]; exact True.intro) (.inr ho) (fun b q hb z => (sb.2 b hb).trans z) hd ?_
  refine ⟨by rw [upd_ne O.ne]; exact ho, ?_, O.ne, O'.obj, _, O'.ns, fun g => ?_, fun g hg => ?_⟩
  · have := length_putF f y fs; omega
  · show RelO ((putF f y fs).lookup g) (if g = f then some u else mA g)
    rw [lookup_putF]
    by_cases q : g = f
    · rw [if_pos q, if_pos q]; exact ry
    · rw [if_neg q, if_neg q]; exact r g
  · by_cases q : g = f
    · rw [q]; exact (keys_putF f y fs).1
    · refine (keys_putF f y fs).2 g (wi g fun z => hg ?_)
      show (if g = f then some u else mA g) = none
      rw [if_neg q]; exact z
theorem Inv.made (I : Inv X pins σ H s) : Inv X pins σ (upd (upd H s.heap.objs.size (.own (s.heap.objs.size + 1))) (s.heap.objs.size + 1) (.ins C s.heap.objs.size []))
    { s with heap := (s.heap.push PySem.W.emptyDict).push (PySem.W.instObj C s.heap.objs.size) } := by
  have e1 : (s.heap.push PySem.W.emptyDict).get? s.heap.objs.size = some PySem.W.emptyDict := Heap.get?_push_size s.heap rfl
  have e2 : ((s.heap.push PySem.W.emptyDict).push (PySem.W.instObj C s.heap.objs.size)).get? (s.heap.objs.size + 1) = some (PySem.W.instObj C s.heap.objs.size) := by
    have := Heap.get?_push_size (s.heap.push PySem.W.emptyDict) (o := PySem.W.instObj C s.heap.objs.size) rfl
    rwa [Heap.size_push] at this
  have e3 : (s.heap.push PySem.W.emptyDict).Ns s.heap.objs.size (fun _ => none) := ⟨PySem.W.emptyDict, #[], _, e1, rfl, (fun e he => absurd he (by simp)), fun _ => rfl⟩
  have I1 := I.laid (a := s.heap.objs.size) (o := .own (s.heap.objs.size + 1)) (h' := s.heap.push PySem.W.emptyDict) (t' := s.toks) (fun b u q => Heap.get?_push_of_some _ q) (Nat.le_refl _) ⟨_, e1⟩
  refine I1.laid (a := s.heap.objs.size + 1) (o := .ins C s.heap.objs.size []) (t' := s.toks) (fun b u q => Heap.get?_push_of_some _ q) (Nat.le_of_eq (Heap.size_push _ _)) ?_
  have ne : s.heap.objs.size ≠ s.heap.objs.size + 1 := Nat.ne_of_lt (Nat.lt_succ_self _)
  refine ⟨by rw [upd_ne ne, upd_same], Nat.zero_le _, ne, e2, fun _ => none, (Heap.Ns1.of_empty e3).at fun o q => Heap.get?_push_of_some _ q, fun _ => True.intro, fun y hy => absurd rfl hy⟩
theorem attr_of {prog : Program} {w : World} {env : Env} {e : Expr} {f : Str} {pos : Pos} {s : Shared} {Q : Value → Shared → Prop} (hb : attributeBase e f env (eval e env) = eval e env)
    (h : wpAny (model prog w) A (eval e env) (fun o s₁ => wpAny (model prog w) A (getAttr o f true) Q E s₁) E s) : wpAny (model prog w) A (eval (.Attribute e f pos) env) Q E s :=
  Attribute_any_ h (by rw [arm_eval_Attribute, hb])
end
def tFld (K : PySem.W.Frag) (ta : TE) (f : Str) : TE := fun σ H Q => ta σ H fun x H1 => ∃ a C dx fs v, x = .ref a ∧ H1 a = some (.ins C dx fs) ∧ Cls K C ∧ NoAttr K C f ∧ fs.lookup f = some v ∧ Q v H1
def sFld (K : PySem.W.Frag) (ta tv : TE) (f : Str) : TS := fun D σ H => tv σ H fun y H1 => ta σ H1 fun x H2 => ∃ a C dx fs, x = .ref a ∧ H2 a = some (.ins C dx fs) ∧ Cls K C ∧ NoAttr K C f ∧ fs.length < 1000 ∧
  D.nx σ (upd H2 a (.ins C dx (putF f y fs)))
section
variable {X : Cx} {o e value : Expr} {f : Str} {pos pos' tpos : Pos} {ta tv : TE}
theorem pe_fld (he : PE X e ta) (hb : attributeBase e f X.env (eval e X.env) = eval e X.env) : PE X (.Attribute e f pos) (tFld X.K ta f) := by
  intro pins s σ H Q I h
  refine attr_of hb (thn (he pins s σ H _ I h) fun u s1 ⟨x, H1, I1, rx, a, C, dx, fs, v, ex, ea, c, n, l, q⟩ => ?_)
  subst ex
  obtain rfl : u = Value.ref a := rx
  exact getattr_ok I1 ea c n l fun u' s2 I2 ru => ⟨v, H1, I2, ru, q⟩
theorem ps_fld (ha : PE X o ta) (hv : PE X value tv) (hs : swapsWith value (some (.Attribute o f pos')) pos.line X.env = pure false) : PS X (.Assign [.Attribute o f pos'] value pos) (sFld X.K ta tv f) := by
  intro pins s σ H D I h
  refine plainObj_wpAny_Assign_Attribute (thn (hv pins s σ H _ I h) fun u s1 ⟨y, H1, I1, ry, q⟩ => thn (ha pins s1 σ H1 _ I1 q) fun ov s2 ⟨x, H2, I2, rx, a, C, dx, fs, ex, ea, c, n, l, q2⟩ => ?_) hs
  subst ex
  obtain rfl : ov = Value.ref a := rx
  exact setattr_ok I2 ea c n l ry fun s3 I3 => ⟨σ, _, I3, q2⟩
end
section
variable {X : Cx} {pins : List (Addr × Obj)} {σ : St} {H : Hp} {s : Shared} {A : Around} {E : Value → Shared → Prop} {Q : Value → Shared → Prop} {c : Value} {b : Bool}
inductive TyOf (K : PySem.W.Frag) (H : Hp) : V → Value → Prop where
  | non : TyOf K H .non (.type "NoneType")
  | bl (x : Bool) : TyOf K H (.bl x) (.type "bool")
  | int (i : Int) : TyOf K H (.int i) (.type "int")
  | str (x : Str) : TyOf K H (.str x) (.type "str")
  | flt (x : UInt64) : TyOf K H (.flt x) (.type "float")
  | lst {a : Addr} {xs : List V} (e : H a = some (.lst xs)) : TyOf K H (.ref a) (.type "list")
  | frz {a : Addr} {o : Obj} {xs : List V} (e : H a = some (.frz o (.lst xs))) : TyOf K H (.ref a) (.type "list")
  | tup {a : Addr} {xs : List V} (e : H a = some (.tup xs)) : TyOf K H (.ref a) (.type "tuple")
  | dK {a : Addr} {kvs : List (Key × V)} (e : H a = some (.dK kvs)) : TyOf K H (.ref a) (.type "dict")
  | dT {a : Addr} {kvs : List (List Key × V)} (e : H a = some (.dT kvs)) : TyOf K H (.ref a) (.type "dict")
  | ins {a C dx : Addr} {fs : List (Str × V)} (e : H a = some (.ins C dx fs)) (cl : Cls K C) (ha : PySem.W.findIn K (.ref C) "__class__" = some (some (.builtin "object.__class__")))
      (hn : PySem.W.specialIn K (.builtin "object.__class__") "__get__" = some (some (.builtin "getset_descriptor.__get__"))) (htk : PySem.W.takesIn K (.builtin "object.__class__") = some true)
      (hm : PySem.W.mroIn K C (.type "object") = some true) : TyOf K H (.ref a) (.ref C)
theorem isinst_ok {x : V} {u t : Value} (I : Inv X pins σ H s) (rx : RelV x u) (ty : TyOf X.K H x t) (e : PySem.W.kitOne X.K t c = some b) (h : ∀ tk, Q (.bool b) { s with toks := tk }) :
    wpAny (model X.prog X.w) A (call (.builtin "isinstance") [u, c]) Q E s := by
  cases ty with
  | non => cases (show u = Value.none from rx); exact PySem.W.kia_one PySem.W.kitx_none I.kIn True.intro e (fun z => nomatch z) h
  | bl y => cases (show u = Value.bool y from rx); exact PySem.W.kia_one PySem.W.kitx_bool I.kIn True.intro e (fun z => nomatch z) h
  | int i => obtain ⟨t, q⟩ := (show ∃ t, u = Value.int i t from rx); cases q; exact PySem.W.kia_one PySem.W.kitx_int I.kIn True.intro e (fun z => nomatch z) h
  | str y => obtain ⟨t, q⟩ := (show ∃ t, u = Value.str y t from rx); cases q; exact PySem.W.kia_one PySem.W.kitx_str I.kIn True.intro e (fun z => nomatch z) h
  | flt y => obtain ⟨t, q⟩ := (show ∃ t, u = Value.float y t from rx); cases q; exact PySem.W.kia_one PySem.W.kitx_float I.kIn True.intro e (fun z => nomatch z) h
  | @lst a xs ea =>
    cases (show u = Value.ref a from rx)
    obtain ⟨_, _, n, _, h1⟩ := (show ObjOk X.prog X.w H s.heap a (.lst xs) from I.hok a _ ea)
    exact PySem.W.kia_one PySem.W.kitx_list I.kIn ⟨_, h1, rfl⟩ e (fun z => nomatch z) h
  | @frz a ob xs ea =>
    cases (show u = Value.ref a from rx)
    obtain ⟨_, _, _, n, _, h1⟩ := (show ObjOk X.prog X.w H s.heap a (.frz ob (.lst xs)) from I.hok a _ ea)
    exact PySem.W.kia_one PySem.W.kitx_list I.kIn ⟨_, h1, rfl⟩ e (fun z => nomatch z) h
  | @tup a xs ea =>
    cases (show u = Value.ref a from rx)
    obtain ⟨_, _, _, p⟩ := (show ObjOk X.prog X.w H s.heap a (.tup xs) from I.hok a _ ea)
    obtain ⟨o, h1, h2, _⟩ := p
    exact PySem.W.kia_one PySem.W.kitx_tuple I.kIn ⟨o, h1, h2⟩ e (fun z => nomatch z) h
  | @dK a kvs ea =>
    cases (show u = Value.ref a from rx)
    obtain ⟨_, _, vs, _, p⟩ := (show ObjOk X.prog X.w H s.heap a (.dK kvs) from I.hok a _ ea)
    obtain ⟨o, es, ep, h1, h2, _⟩ := p
    exact PySem.W.kia_one PySem.W.kitx_dict I.kIn ⟨o, h1, h2.1⟩ e (fun z => nomatch z) h
  | @dT a kvs ea =>
    cases (show u = Value.ref a from rx)
    obtain ⟨_, _, xs, _, o, es, ep, h1, h2, _⟩ := (show ObjOk X.prog X.w H s.heap a (.dT kvs) from I.hok a _ ea)
    exact PySem.W.kia_one PySem.W.kitx_dict I.kIn ⟨o, h1, h2.1⟩ e (fun z => nomatch z) h
  | @ins a C dx fs ea cl ha hn htk hm =>
    cases (show u = Value.ref a from rx)
    obtain ⟨mA, O, _⟩ := ins_get I.hok ea
    obtain ⟨od, J, _⟩ := O.look
    exact PySem.W.kia_one (PySem.W.kitx_own (cl.get _) cl.hd ha hn htk hm) I.kIn J e (fun z => nomatch z) h
end
structure Room (k : Nat) (A : Around) : Prop where
  hd : A.handled = none
  dp : A.depth + 3 * k + 5 < recursionLimit
  un : A.units + 16 * k + 200 < cLine
  gd : A.guards = some []
theorem Room.mono {j k : Nat} {A : Around} (r : Room k A) (h : j ≤ k) : Room j A := ⟨r.hd, by have := r.dp; omega, by have := r.un; omega, r.gd⟩
theorem Room.deeper {k : Nat} {A : Around} (r : Room (k + 1) A) (env : Env) : Room k (A.deeper env) :=
  ⟨r.hd, by have := r.dp; show A.depth + 1 + 3 * k + 5 < _; omega, by have := r.un; show A.units + 3 + 16 * k + 200 < _; omega, r.gd⟩
theorem make_depth {A : Around} {C : Addr} {us : List Value} {kw : List (Str × Value)} : (A.under (.builtin "type.__call__" ⟨.ref C :: us, kw⟩)).depth = A.depth + 1 := by
  first | rfl | simp [Around.under, Code.weight, Code.isCreation, Code.isGuard, Code.isCaller, Code.frames, Code.isFrame, guardIds]
theorem make_units {A : Around} {C : Addr} {us : List Value} {kw : List (Str × Value)} : (A.under (.builtin "type.__call__" ⟨.ref C :: us, kw⟩)).units = A.units + 1 := by
  first | rfl | simp [Around.under, Code.cUnits, Code.frames, Code.isFrame]
theorem Room.make {k : Nat} {A : Around} (r : Room (k + 1) A) (C : Addr) (us : List Value) (kw : List (Str × Value)) : Room k (A.under (.builtin "type.__call__" ⟨.ref C :: us, kw⟩)) :=
  ⟨r.hd, by have := r.dp; rw [make_depth]; omega, by have := r.un; rw [make_units]; omega, by first | exact r.gd | (rw [← r.gd]; rfl) | (simp only [Around.under]; rw [r.gd]; rfl)⟩
theorem Room.depth {k : Nat} {A : Around} (r : Room k A) : A.depth < recursionLimit := by have := r.dp; omega
theorem Room.units {k : Nat} {A : Around} (r : Room k A) : A.units + 64 < cLine := by have := r.un; omega
def tNil : TA := fun _ H Q => Q [] H
def tCons (ta : TE) (tr : TA) : TA := fun σ H Q => ta σ H fun x H1 => tr σ H1 fun xs H2 => Q (x :: xs) H2
section
variable {X : Cx} {e : Expr} {es : List Expr} {te : TE} {t : TA} {pos : Pos}
theorem pa_nil : PA X [] tNil := fun _ _ _ _ H Q I h => Calls.spliced_nil ⟨[], H, I, .nil, h⟩
theorem pa_cons (ha : PE X e te) (hr : PA X es t) (hs : starEach (e :: es) X.env = (false, eval e X.env) :: starEach es X.env := by rfl) : PA X (e :: es) (tCons te t) := by
  intro pos pins s σ H Q I h
  rw [hs]
  show wpAny _ _ (spliced ((false, eval e X.env) :: backTo pos (starEach es X.env))) _ _ s
  refine Calls.spliced_cons (thn (ha pins s σ H _ I h) fun u s1 ⟨x, H1, I1, r1, q1⟩ => ?_)
  exact thn (hr pos pins s1 σ H1 _ I1 q1) fun us s2 ⟨xs, H2, I2, r2, q2⟩ => ⟨x :: xs, H2, I2, .cons r1 r2, q2⟩
def tTup (t : TA) : TE := fun σ H Q => t σ H fun xs H1 => xs.length ≤ sizeLine ∧ ∀ p, H1 p = none → Q (.ref p) (upd H1 p (.tup xs))
def tLst (t : TA) : TE := fun σ H Q => t σ H fun xs H1 => xs.length ≤ sizeLine ∧ ∀ p, H1 p = none → Q (.ref p) (upd H1 p (.lst xs))
theorem pe_tup {x1} (h : PA X es t) : PE X (.Tuple es x1 pos) (tTup t) := by
  intro pins s σ H Q I hq
  refine wpAny_Tuple_spliced (thn (h pos pins s σ H _ I hq) fun us s1 ⟨xs, H1, I1, r, z, q⟩ => ⟨by rw [← r.length]; exact z, ?_⟩)
  have hf : H1 s1.heap.objs.size = none := I1.hok.fresh (Nat.le_refl _)
  refine ⟨.ref s1.heap.objs.size, upd H1 s1.heap.objs.size (.tup xs), I1.laid (t' := s1.toks) (fun b u e => Heap.get?_push_of_some _ e) (Nat.le_refl _) ?_, rfl, q _ hf⟩
  exact ⟨z, us, r, ⟨_, Heap.get?_push_size _ rfl, rfl, _, rfl⟩⟩
theorem pe_lst (h : PA X es t) : PE X (.List es pos) (tLst t) := by
  intro pins s σ H Q I hq
  refine wpAny_List_spliced (thn (h pos pins s σ H _ I hq) fun us s1 ⟨xs, H1, I1, r, z, q⟩ => ⟨by rw [← r.length]; exact z, ?_⟩)
  have hf : H1 s1.heap.objs.size = none := I1.hok.fresh (Nat.le_refl _)
  refine ⟨.ref s1.heap.objs.size, upd H1 s1.heap.objs.size (.lst xs), I1.laid (t' := s1.toks) (fun b u e => Heap.get?_push_of_some _ e) (Nat.le_refl _) ?_, rfl, q _ hf⟩
  exact ⟨z, us, 0, r, Heap.get?_push_size _ rfl⟩
end
abbrev Sp := List V → Hp → VK → XK → Prop
abbrev CXT := List Env → Hp → Shared → XK → Value → Shared → Prop
structure Env0 (P : Program) (w : World) (K : PySem.W.Frag) (mg : Str → Option Value) (base : Heap) (A : Around) (outer : List Env) (s : Shared) (H : Hp) : Prop where
  frames : A.frames = some outer
  mod : Mod K mg base
  bs : ∀ b o, base.get? b = some o → s.heap.get? b = some o ∧ H b = none
  bsz : base.objs.size ≤ s.heap.objs.size
  funs : s.heap.FunFrames base outer
  frf : ∀ b ∈ frs outer, H b = none
  hok : HOk P w H s.heap
  bare : AllBare s.gens
def CE (outer : List Env) (P : Program) (w : World) (H : Hp) (s : Shared) (Q : VK) (u : Value) (s' : Shared) : Prop :=
  ∃ v H', s'.os = s.os ∧ AllBare s'.gens ∧ Un (frs outer) [] H H' s.heap s'.heap ∧ HOk P w H' s'.heap ∧ RelV v u ∧ Q v H'
def CR (CX : CXT) (outer : List Env) (P : Program) (w : World) (H : Hp) (s : Shared) (Q : VK) (E : XK) (r : Result) (s' : Shared) : Prop :=
  match r with
  | .ok (.ret u) => CE outer P w H s Q u s'
  | .ok _ => False
  | .error e => CX outer H s E e s'
structure FnOk (P : Program) (w : World) (K : PySem.W.Frag) (mg : Str → Option Value) (base : Heap) (CX : CXT) (k : Nat) (f : Addr) (fd : FuncData) (ps : List Str) (sp : Sp) : Prop where
  len : ∀ vs H Q E, sp vs H Q E → vs.length = ps.length
  run : ∀ (A : Around) (outer : List Env) (s : Shared) (H : Hp) (args : Args) (us : List Value) (vs : List V) (Q : VK) (E : XK), Room k A → Env0 P w K mg base A outer s H → BindsTo s fd args (ps.zip us) → Vals vs us → sp vs H Q E →
    codeAny (model P w) A (.call (.ref f) args) (CR CX outer P w H s Q E) s
theorem FnOk.mono {P : Program} {w : World} {K : PySem.W.Frag} {mg : Str → Option Value} {base : Heap} {CX : CXT} {j k : Nat} {f : Addr} {fd : FuncData} {ps : List Str} {sp : Sp} (F : FnOk P w K mg base CX j f fd ps sp) (h : j ≤ k) :
    FnOk P w K mg base CX k f fd ps sp := ⟨F.len, fun A outer s H args us vs Q E hr => F.run A outer s H args us vs Q E (hr.mono h)⟩
theorem Env0.make {P : Program} {w : World} {K : PySem.W.Frag} {mg : Str → Option Value} {base : Heap} {A : Around} {outer : List Env} {s : Shared} {H : Hp} (e : Env0 P w K mg base A outer s H) (C : Addr) (us : List Value) (kw : List (Str × Value)) :
    Env0 P w K mg base (A.under (.builtin "type.__call__" ⟨.ref C :: us, kw⟩)) outer s H := ⟨by first | exact e.frames | (simpa [Around.under, Code.envs, Code.isFrame, pushEnvs] using e.frames), e.mod, e.bs, e.bsz, e.funs, e.frf, e.hok, e.bare⟩
section
variable {X : Cx} {pins : List (Addr × Obj)} {σ : St} {H : Hp} {s s' : Shared}
theorem Inv.env0 (I : Inv X pins σ H s) : Env0 X.prog X.w X.K X.mg X.base X.A X.stack s H :=
  ⟨I.ok.frames, I.ok.mod, I.bs, Nat.le_trans I.ok.bsz I.sz, I.stack, I.stkFree, I.hok, I.bare⟩
theorem Inv.after {Q : VK} {u : Value} (I : Inv X pins σ H s) (h : CE X.stack X.prog X.w H s Q u s') : EP X pins σ Q u s' := by
  obtain ⟨v, H', os, bare, un, hok, r, q⟩ := h
  obtain ⟨hh, g, d, t, os'⟩ := s'
  obtain rfl : os' = s.os := os
  exact ⟨v, H', I.call (h' := hh) (g' := g) (d' := d) (t' := t) (ch := []) un hok bare (fun b z => absurd z (by simp)), r, q⟩
end
def tCall (sp : Sp) (dvs : List V) (E : XK) (t : TA) : TE := fun σ H Q => t σ H fun vs H1 => sp (vs ++ dvs) H1 Q E
def tMeth (C : Addr) (m : Str) (sp : Sp) (dvs : List V) (E : XK) (ta : TE) (t : TA) : TE := fun σ H Q => ta σ H fun x H1 => ∃ a dx fs, x = .ref a ∧ H1 a = some (.ins C dx fs) ∧ fs.lookup m = none ∧
  t σ H1 fun vs H2 => sp (x :: (vs ++ dvs)) H2 Q E
def tMake (C : Addr) (sp : Sp) (dvs : List V) (E : XK) (t : TA) : TE := fun σ H Q => t σ H fun vs H1 => ∀ x dx, H1 x = none → H1 dx = none → dx ≠ x →
  sp (.ref x :: (vs ++ dvs)) (upd (upd H1 dx (.own x)) x (.ins C dx [])) (fun v H2 => v = .non ∧ Q (.ref x) H2) E
def Binds (K : PySem.W.Frag) (fd : FuncData) (ps : List Str) (ds : List Value) : Prop :=
  ∀ (s : Shared) (us : List Value), K.In s.heap → (us ++ ds).length = ps.length → BindsTo s fd ⟨us, []⟩ (ps.zip (us ++ ds))
theorem Binds.all {K : PySem.W.Frag} {fd : FuncData} {ps : List Str} (h : ∀ us : List Value, us.length = ps.length → bindArgs fd ⟨us, []⟩ = pure (ps.zip us)) : Binds K fd ps [] := fun s us _ hl => by
  rw [List.append_nil] at hl ⊢
  exact .of_eq (h us hl)
def Passes (CX : CXT) (X : Cx) (E : XK) : Prop := ∀ (pins : List (Addr × Obj)) (σ : St) (H : Hp) (s : Shared) (e : Value) (s' : Shared), Inv X pins σ H s → CX X.stack H s E e s' → X.xe e s'
section
variable {X : Cx} {CX : CXT} {k : Nat} {f C : Addr} {fd : FuncData} {ps : List Str} {sp : Sp} {dvs : List V} {ds : List Value} {E : XK} {x m : Str} {p pos apos : Pos} {e o : Expr} {es : List Expr} {ta : TE} {t : TA}
theorem run_fn {pins : List (Addr × Obj)} {σ : St} {H : Hp} {s : Shared} {Q : VK} {us : List Value} {vs : List V} (F : FnOk X.prog X.w X.K X.mg X.base CX k f fd ps sp) (hr : Room k X.A) (hb : Binds X.K fd ps ds) (hd : Vals dvs ds) (hx : Passes CX X E)
    (I : Inv X pins σ H s) (r : Vals vs us) (h : sp (vs ++ dvs) H Q E) : wpAny (model X.prog X.w) X.A (call (.ref f) us) (EP X pins σ Q) X.xe s := by
  have r2 : Vals (vs ++ dvs) (us ++ ds) := r.append hd
  have hl : (us ++ ds).length = ps.length := by rw [← r2.length]; exact F.len _ _ _ _ h
  refine wpAny_call (codeAny_mono (F.run X.A X.stack s H ⟨us, []⟩ (us ++ ds) (vs ++ dvs) Q E hr I.env0 (hb s us I.kIn hl) r2 h) fun r s' hq => ?_)
  cases r with
  | error e => exact hx pins σ H s e s' I hq
  | ok fl =>
    cases fl with
    | ret u => exact I.after hq
    | next => exact False.elim hq
    | brk => exact False.elim hq
    | cont => exact False.elim hq
theorem pe_call (F : FnOk X.prog X.w X.K X.mg X.base CX k f fd ps sp) (hr : Room k X.A) (hg : Gl X x) (hm : X.mg x = some (.ref f)) (hk : PySem.W.keepIn X.K (.ref f) = true) (hb : Binds X.K fd ps ds) (hd : Vals dvs ds) (hx : Passes CX X E)
    (ha : PA X (e :: es) t) (hdb : (x == ("__debug__" : Str)) = false := by decide) (he : starEach (e :: es) X.env = (false, eval e X.env) :: starEach es X.env := by rfl) (hpl : (backTo pos (starEach es X.env)).any (·.1) = false := by rfl) :
    PE X (.Call (.Name x p) (e :: es) [] pos) (tCall sp dvs E t) := by
  intro pins s σ H Q I h
  refine wpAny_Call_Name_kw (ld_glob I hg hm ?_ hdb)
  refine PySem.W.callWith_K (h₀ := X.base) I.ok.mod.kin hk (thn (ha pos pins s σ H _ I h) fun us s1 ⟨vs, H1, I1, r, q⟩ => ⟨I1.kIn, ?_⟩) he hpl
  exact run_fn F hr hb hd hx I1 r q
theorem pe_meth {pl : Sem Bool} (he : PE X o ta) (c : Cls X.K C) (hm : Meth X.K C m f) (F : FnOk X.prog X.w X.K X.mg X.base CX k f fd ps sp) (hr : Room k X.A) (hb : Binds X.K fd ps ds) (hd : Vals dvs ds) (hx : Passes CX X E) (ha : PA X (e :: es) t)
    (hst : starEach (e :: es) X.env = (false, eval e X.env) :: starEach es X.env := by rfl) (hpl : (backTo pos (starEach es X.env)).any (·.1) = false := by rfl)
    (ht : eval (.Call (.Attribute o m apos) (e :: es) [] pos) X.env = (do
      let ov ← eval o X.env
      standAt apos.atName
      let (f, first) ← holding [ov] (getMethod ov m pl)
      callWith pos f first (backTo pos (starEach (e :: es) X.env)) (backToKw pos (keywordEach [] X.env))) := by rfl) :
    PE X (.Call (.Attribute o m apos) (e :: es) [] pos) (tMeth C m sp dvs E ta t) := by
  intro pins s σ H Q I h
  refine PySem.W.methodCall_KW (pl := pl) (thn (he pins s σ H _ I h) fun u s1 ⟨x, H1, I1, rx, a, dx, fs, ex, ea, l, q⟩ => ?_) ht
  subst ex
  obtain rfl : u = Value.ref a := rx
  refine getmeth_ok I1 ea c hm l ?_
  refine PySem.W.callWith_K (first := [.ref a]) (h₀ := X.base) I.ok.mod.kin hm.kp (thn (ha pos pins s1 σ H1 _ I1 q) fun us s2 ⟨vs, H2, I2, r, q2⟩ => ⟨I2.kIn, ?_⟩) hst hpl
  exact run_fn (us := .ref a :: us) (vs := .ref a :: vs) F hr hb hd hx I2 (.cons rfl r) q2
theorem pe_meth0 {pl : Sem Bool} (he : PE X o ta) (c : Cls X.K C) (hm : Meth X.K C m f) (F : FnOk X.prog X.w X.K X.mg X.base CX k f fd ps sp) (hr : Room k X.A) (hb : Binds X.K fd ps ds) (hd : Vals dvs ds) (hx : Passes CX X E)
    (ht : eval (.Call (.Attribute o m apos) [] [] pos) X.env = (do
      let ov ← eval o X.env
      standAt apos.atName
      let (f, first) ← holding [ov] (getMethod ov m pl)
      callWith pos f first (backTo pos (starEach [] X.env)) (backToKw pos (keywordEach [] X.env))) := by rfl) :
    PE X (.Call (.Attribute o m apos) [] [] pos) (tMeth C m sp dvs E ta tNil) := by
  intro pins s σ H Q I h
  refine PySem.W.methodCall_KW (pl := pl) (thn (he pins s σ H _ I h) fun u s1 ⟨x, H1, I1, rx, a, dx, fs, ex, ea, l, q⟩ => ?_) ht
  subst ex
  obtain rfl : u = Value.ref a := rx
  refine getmeth_ok I1 ea c hm l ?_
  exact PySem.W.callWith_K0 (first := [.ref a]) I1.kIn hm.kp (run_fn (us := [.ref a]) (vs := [.ref a]) F hr hb hd hx I1 (.cons rfl .nil) q)
structure Mk (K : PySem.W.Frag) (C f : Addr) : Prop where
  makes : PySem.W.makesIn K C = true
  init : PySem.W.findIn K (.ref C) "__init__" = some (some (.ref f))
  fn : PySem.W.isFn K (.ref f) = true
  kp : PySem.W.keepIn K (.ref C) = true
theorem run_make {pins : List (Addr × Obj)} {σ : St} {H : Hp} {s : Shared} {Q : VK} {us : List Value} {vs : List V} (M : Mk X.K C f) (F : FnOk X.prog X.w X.K X.mg X.base CX k f fd ps sp) (hr : Room (k + 1) X.A) (hb : Binds X.K fd ps ds) (hd : Vals dvs ds)
    (hx : Passes CX X E) (I : Inv X pins σ H s) (r : Vals vs us)
    (h : ∀ x dx, H x = none → H dx = none → dx ≠ x → sp (.ref x :: (vs ++ dvs)) (upd (upd H dx (.own x)) x (.ins C dx [])) (fun v H2 => v = .non ∧ Q (.ref x) H2) E) :
    wpAny (model X.prog X.w) X.A (call (.ref C) us) (EP X pins σ Q) X.xe s := by
  have hq := h (s.heap.objs.size + 1) s.heap.objs.size (I.hok.fresh (Nat.le_succ _)) (I.hok.fresh (Nat.le_refl _)) (Nat.ne_of_lt (Nat.lt_succ_self _))
  have I2 := Inv.made (C := C) I
  have r2 : Vals (V.ref (s.heap.objs.size + 1) :: (vs ++ dvs)) (Value.ref (s.heap.objs.size + 1) :: (us ++ ds)) := .cons rfl (r.append hd)
  have hl : (Value.ref (s.heap.objs.size + 1) :: us ++ ds).length = ps.length := by
    have e := r2.length
    rw [F.len _ _ _ _ hq] at e
    exact e.symm
  refine wpAny_call (make_map (f := f) I.kIn M.makes M.init (beq_iff_eq.mp M.fn) (codeAny_mono (F.run _ X.stack _ _ ⟨Value.ref (s.heap.objs.size + 1) :: us, []⟩ (Value.ref (s.heap.objs.size + 1) :: (us ++ ds)) _ _ E (hr.make C us [])
    (I2.env0.make C us []) (hb _ (Value.ref (s.heap.objs.size + 1) :: us) I2.kIn hl) r2 hq) fun r s' hq' => ?_))
  cases r with
  | error e => exact hx pins σ _ _ e s' I2 hq'
  | ok fl =>
    cases fl with
    | ret u =>
      obtain ⟨v, H', I3, rv, ev, q3⟩ := I2.after hq'
      subst ev
      exact ⟨rv, ⟨V.ref (s.heap.objs.size + 1), H', I3, rfl, q3⟩⟩
    | next => exact False.elim hq'
    | brk => exact False.elim hq'
    | cont => exact False.elim hq'
theorem pe_make (M : Mk X.K C f) (F : FnOk X.prog X.w X.K X.mg X.base CX k f fd ps sp) (hr : Room (k + 1) X.A) (hg : Gl X x) (hm : X.mg x = some (.ref C)) (hb : Binds X.K fd ps ds) (hd : Vals dvs ds) (hx : Passes CX X E)
    (ha : PA X (e :: es) t) (hdb : (x == ("__debug__" : Str)) = false := by decide) (he : starEach (e :: es) X.env = (false, eval e X.env) :: starEach es X.env := by rfl) (hpl : (backTo pos (starEach es X.env)).any (·.1) = false := by rfl) :
    PE X (.Call (.Name x p) (e :: es) [] pos) (tMake C sp dvs E t) := by
  intro pins s σ H Q I h
  refine wpAny_Call_Name_kw (ld_glob I hg hm ?_ hdb)
  refine PySem.W.callWith_K (h₀ := X.base) I.ok.mod.kin M.kp (thn (ha pos pins s σ H _ I h) fun us s1 ⟨vs, H1, I1, r, q⟩ => ⟨I1.kIn, ?_⟩) he hpl
  exact run_make M F hr hb hd hx I1 r q
end
def PK (X : Cx) (kws : List Keyword) (t : TA) : Prop :=
  ∀ (pos : Pos) (pins : List (Addr × Obj)) (s : Shared) (σ : St) (H : Hp) (Q : List V → Hp → Prop), Inv X pins σ H s → t σ H Q → wpAny (model X.prog X.w) X.A (evalAll ((backToKw pos (keywordEach kws X.env)).map (·.2))) (AP X pins σ Q) X.xe s
section
variable {X : Cx} {CX : CXT} {k : Nat} {f C : Addr} {fd : FuncData} {ps ks : List Str} {sp : Sp} {E : XK} {x m : Str} {p pos apos kpos : Pos} {e o : Expr} {es : List Expr} {kws : List Keyword} {te ta : TE} {t tk : TA} {nm : Option Str}
theorem pk_nil : PK X [] tNil := fun _ _ _ _ H Q I h => wpAny_evalAll_nil ⟨[], H, I, .nil, h⟩
theorem pk_cons (ha : PE X e te) (hr : PK X kws t) : PK X (⟨nm, e, kpos⟩ :: kws) (tCons te t) := by
  intro pos pins s σ H Q I h
  show wpAny _ _ (evalAll ((do let v ← eval e X.env; standAt pos; pure v) :: (backToKw pos (keywordEach kws X.env)).map (·.2))) _ _ s
  refine wpAny_evalAll_cons (wpAny_bind (thn (ha pins s σ H _ I h) fun u s1 ⟨x, H1, I1, r1, q1⟩ => wpAny_bind (wpAny_standAt (wpAny_pure ?_))))
  exact thn (hr pos pins s1 σ H1 _ I1 q1) fun us s2 ⟨xs, H2, I2, r2, q2⟩ => ⟨x :: xs, H2, I2, .cons r1 r2, q2⟩
variable {g : List Value → List Value → List Value} {gV : List V → List V → List V}
end
structure FnScope (N P : List Str) (sc : Scope) : Prop where
  kind : sc.kind = .function
  co : sc.isCoroutine = false
  gen : sc.isGenerator = false
  nd : N.Nodup
  pre : N.take P.length = P
  par : ∀ x ∈ P, sc.names.lookup x = some .local ∨ sc.names.lookup x = some .cell
  nofree : ∀ y ∈ sc.names, y.2 ≠ .free
theorem bindL_out {kindOf : Str → Option NameKind} {x : Str} : ∀ {binds : List (Str × Value)} {m : Str → Option Value}, (∀ v, (x, v) ∉ binds) → bindL kindOf binds m x = m x
  | [], _, _ => rfl
  | (n, v) :: r, m, h => by
    unfold bindL
    rw [bindL_out fun w hw => h w (List.mem_cons_of_mem _ hw)]
    split
    · have : x ≠ n := by rintro rfl; exact h v List.mem_cons_self
      simp [this]
    · rfl
theorem bindC_out {kindOf : Str → Option NameKind} {x : Str} : ∀ {binds : List (Str × Value)} {m : Str → Option Value}, (∀ v, (x, v) ∉ binds) → bindC kindOf binds m x = m x
  | [], _, _ => rfl
  | (n, v) :: r, m, h => by
    unfold bindC
    rw [bindC_out fun w hw => h w (List.mem_cons_of_mem _ hw)]
    split
    · rfl
    · have : x ≠ n := by rintro rfl; exact h v List.mem_cons_self
      simp [this]
theorem bindL_get {kindOf : Str → Option NameKind} {x : Str} {v : Value} : ∀ {P : List Str} {vs : List Value} {i : Nat} {m : Str → Option Value}, P.Nodup → P[i]? = some x → vs[i]? = some v → kindOf x = some .local →
    bindL kindOf (P.zip vs) m x = some v
  | [], _, _, _, _, h, _, _ => by simp at h
  | _ :: _, [], _, _, _, _, h, _ => by simp at h
  | p :: P, w :: vs, 0, m, nd, h1, h2, hk => by
    simp at h1 h2; subst h1; subst h2
    show bindL kindOf ((p, w) :: P.zip vs) m p = _
    unfold bindL
    rw [bindL_out fun v hv => (List.nodup_cons.mp nd).1 (List.of_mem_zip hv).1, if_pos hk]
    simp
  | p :: P, w :: vs, i + 1, m, nd, h1, h2, hk => by
    show bindL kindOf ((p, w) :: P.zip vs) m x = _
    unfold bindL
    exact bindL_get (i := i) (List.nodup_cons.mp nd).2 (by simpa using h1) (by simpa using h2) hk
theorem bindC_get {kindOf : Str → Option NameKind} {x : Str} {v : Value} : ∀ {P : List Str} {vs : List Value} {i : Nat} {m : Str → Option Value}, P.Nodup → P[i]? = some x → vs[i]? = some v → kindOf x ≠ some .local →
    bindC kindOf (P.zip vs) m x = some v
  | [], _, _, _, _, h, _, _ => by simp at h
  | _ :: _, [], _, _, _, _, h, _ => by simp at h
  | p :: P, w :: vs, 0, m, nd, h1, h2, hk => by
    simp at h1 h2; subst h1; subst h2
    show bindC kindOf ((p, w) :: P.zip vs) m p = _
    unfold bindC
    rw [bindC_out fun v hv => (List.nodup_cons.mp nd).1 (List.of_mem_zip hv).1, if_neg hk]
    simp
  | p :: P, w :: vs, i + 1, m, nd, h1, h2, hk => by
    show bindC kindOf ((p, w) :: P.zip vs) m x = _
    unfold bindC
    exact bindC_get (i := i) (List.nodup_cons.mp nd).2 (by simpa using h1) (by simpa using h2) hk
def start (N : List Str) (vs : List V) : St := vs.map some ++ List.replicate (N.length - vs.length) none
def cxOf (CX : CXT) (P : Program) (w : World) (K : PySem.W.Frag) (mg : Str → Option Value) (base : Heap) (N : List Str) (qual : Str) (scope : Scope) (f : Addr) (cd : Value) (A : Around) (outer : List Env) (s : Shared) (H : Hp) (E : XK) : Cx where
  prog := P
  w := w
  K := K
  mg := mg
  base := base
  A := A.deeper (envOfC qual scope s.heap.objs.size f cd)
  N := N
  s₀ := s
  H₀ := H
  env := envOfC qual scope s.heap.objs.size f cd
  outer := outer
  stack := envOfC qual scope s.heap.objs.size f cd :: outer
  ex := []
  calm := true
  fn := fun _ => true
  pn := []
  xe := fun e s' => wpAny (model P w) (A.deeper (envOfC qual scope s.heap.objs.size f cd)) (leaving (envOfC qual scope s.heap.objs.size f cd) e) (fun _ s'' => CX outer H s E e s'') (fun e' s'' => CX outer H s E e' s'') s'
theorem cell_has {sc : Scope} {n : Nat} {x : Str} (h : sc.names.lookup x = some .cell) : ∃ c, (cellsFrom n sc.names []).lookup x = some c := by
  have q := PySem.W.cellsFrom_some sc.names n [] (.inl h)
  exact Option.isSome_iff_exists.mp q
theorem inv_start {CX : CXT} {P : Program} {w : World} {K : PySem.W.Frag} {mg : Str → Option Value} {base : Heap} {N ps : List Str} {qual : Str} {scope : Scope} {f : Addr} {cd : Value} {A : Around} {outer : List Env} {s s1 : Shared} {H : Hp} {E : XK} {us : List Value} {vs : List V}
    (S : FnScope N ps scope) (hd : A.handled = none) (e0 : Env0 P w K mg base A outer s H) (hl : vs.length = ps.length) (r : Vals vs us)
    (x : InCallC s s.heap.objs.size (bindL (envOfC qual scope s.heap.objs.size f cd).kindOf (ps.zip us) fun _ => none) (cellsFrom (s.heap.objs.size + 1) scope.names []) (bindC (envOfC qual scope s.heap.objs.size f cd).kindOf (ps.zip us) fun _ => none) s1) :
    Inv (cxOf CX P w K mg base N qual scope f cd A outer s H E) [] (start N vs) H s1 := by
  have hpl : ps.length ≤ N.length := by have := congrArg List.length S.pre; rw [List.length_take] at this; omega
  obtain ⟨h1, tk, rfl, hk⟩ := x.done
  have noA : ∀ b : Addr, b ∉ (cxOf CX P w K mg base N qual scope f cd A outer s H E).ex := fun b z => absurd (show b ∈ ([] : List Addr) from z) (by simp)
  refine ⟨⟨e0.mod, S.kind, rfl, rfl, Nat.le_refl _, fun y z c h1 h2 => ?_, fun y hy => ?_, fun y c _ h => ?_, fun _ => hd, Around.frames_deeper e0.frames, .inr ⟨rfl, rfl⟩, fun b z => absurd z (noA b), e0.bs, e0.bsz, fun b _ _ => noA b, fun b z => absurd z (noA b), e0.funs, e0.frf⟩,
    rfl, e0.bare, Un.kept hk, ⟨_, x.toInCall.ns, fun i y v h1 h2 h3 => ?_⟩, fun y c h => ⟨_, x.cell y c h⟩, e0.hok.fresh (Nat.le_refl _), fun y c h => ?_, fun p hp => absurd (show p ∈ ([] : List (Addr × Obj)) from hp) (by simp), e0.hok.kept hk, ?_⟩
  · exact name_of_addr x.apart (PySem.mem_of_lookup h1) (PySem.mem_of_lookup h2)
  · have hy : scope.names.lookup y = some .cell ∨ scope.names.lookup y = some .free := hy
    rcases hy with hy | hy
    · exact cell_has hy
    · exact absurd rfl (S.nofree _ (PySem.mem_of_lookup hy))
  · exact Nat.le_of_lt (x.above y c (PySem.mem_of_lookup h))
  · have hi : i < vs.length := by
      unfold start at h2
      by_cases hi : i < vs.length
      · exact hi
      · rw [List.getElem?_append_right (by simpa using hi)] at h2
        rw [List.getElem?_replicate] at h2
        split at h2 <;> cases h2
    have ha : vs[i]? = some v := by
      unfold start at h2
      rw [List.getElem?_append_left (by simpa using hi), List.getElem?_map] at h2
      cases e : vs[i]? with
      | none => rw [e] at h2; cases h2
      | some a => rw [e] at h2; cases h2; rfl
    obtain ⟨u, hu, rv⟩ := r.get ha
    have hp : ps[i]? = some y := by
      rw [← S.pre, List.getElem?_take_of_lt (by omega)]; exact h1
    have ndP : ps.Nodup := by rw [← S.pre]; exact S.nd.sublist (List.take_sublist _ _)
    refine ⟨u, rv, ?_⟩
    rcases S.par y (List.mem_of_getElem? hp) with k | k
    · exact .inl ⟨k, bindL_get ndP hp hu k⟩
    · obtain ⟨c, e⟩ := cell_has (n := s.heap.objs.size + 1) k
      refine .inr ⟨.inl k, c, e, ?_⟩
      have q := x.cell y c e
      rw [bindC_get ndP hp hu (by show scope.names.lookup y ≠ _; rw [k]; decide)] at q
      exact q
  · exact e0.hok.fresh (Nat.le_of_lt (x.above y c (PySem.mem_of_lookup h)))
  · unfold start
    show _ = N.length
    rw [List.length_append, List.length_map, List.length_replicate]
    omega
theorem fn_of {CX : CXT} {P : Program} {w : World} {K : PySem.W.Frag} {mg : Str → Option Value} {base : Heap} {k : Nat} {f : Addr} {name qual : Str} {params : Arguments} {body : List Stmt} {scope : Scope} {dV kV doc pm cdv ct oc : Value} {an od : Option Addr}
    {osl : Array (Option Value)} {N ps : List Str} {sp : Sp} (lk : K.lookup f = some ⟨oc, od, .func (PySem.W.fnOf name qual params body scope dV kV doc pm an cdv ct), osl⟩) (hcd : PySem.W.codeIn K cdv qual = true) (S : FnScope N ps scope)
    (len : ∀ vs H Q E, sp vs H Q E → vs.length = ps.length)
    (hbody : ∀ (A : Around) (outer : List Env) (s : Shared) (H : Hp) (vs : List V) (Q : VK) (E : XK), Room k (A.deeper (envOfC qual scope s.heap.objs.size f cdv)) → sp vs H Q E →
      ∃ t, PSs (cxOf CX P w K mg base N qual scope f cdv A outer s H E) body t ∧ t { nx := fun _ H' => Q .non H', rt := Q } (start N vs) H) :
    FnOk P w K mg base CX (k + 1) f (PySem.W.fnOf name qual params body scope dV kV doc pm an cdv ct) ps sp := by
  refine ⟨len, fun A outer s H args us vs Q E hr e0 hb r hsp => ?_⟩
  have hl := len _ _ _ _ hsp
  have KX : K.In s.heap := e0.mod.kin.keeps fun b o e => (e0.bs b o e).1
  have lim : s.heap.NoLimit := e0.mod.nolimit.keeps fun b o e => (e0.bs b o e).1
  have hkind : ∀ y ∈ ps.zip us, scope.names.lookup y.1 = some .local ∨ (scope.names.lookup y.1 = some .cell ∧ ((cellsFrom (s.heap.objs.size + 1) scope.names []).lookup y.1).isSome = true) := fun ⟨n, v⟩ hy => by
    rcases S.par n (List.of_mem_zip hy).1 with q | q
    · exact .inl q
    · exact .inr ⟨q, PySem.W.cellsFrom_some _ _ _ (.inl q)⟩
  refine codeAny_call_function hr.depth (KX _ _ lk) rfl S.co S.gen rfl (PySem.W.codeRec_of KX hcd) (hb _ _ _ _ ?_)
  refine wpAny_newFunctionEnv_cells S.kind hkind fun env he s1 x => ?_
  subst he
  refine ⟨lim.keeps x.toInCall.keep, codeAny_func ?_⟩
  obtain ⟨t, ht, hq⟩ := hbody A outer s H vs Q E (hr.deeper _) hsp
  have I : Inv (cxOf CX P w K mg base N qual scope f cdv A outer s H E) [] (start N vs) H s1 := inv_start S hr.hd e0 hl r x
  refine wpAny_mono (ht [] s1 (start N vs) H _ I hq) (fun fl s' hs => ?_) fun e s' hs => hs
  have fin : ∀ {σ' : St} {H' : Hp} {v : V} {u : Value}, Inv (cxOf CX P w K mg base N qual scope f cdv A outer s H E) [] σ' H' s' → RelV v u → Q v H' → CE outer P w H s Q u s' :=
    fun {σ' H' v u} J rv q => ⟨v, H', J.os, J.bare, J.base, J.hok, rv, q⟩
  cases fl with
  | ret u =>
    obtain ⟨v, σ', H', J, rv, q⟩ := hs
    exact fin J rv q
  | next =>
    obtain ⟨σ', H', J, q⟩ := hs
    exact fin (v := V.non) (u := Value.none) J rfl q
  | brk =>
    obtain ⟨_, _, _, q⟩ := hs
    exact False.elim q
  | cont =>
    obtain ⟨_, _, _, q⟩ := hs
    exact False.elim q
section
variable {X : Cx} {x : Str} {p pos : Pos} {e : Expr} {es : List Expr} {t : TA} {id T : String} {r : List V → Hp → VK → Prop}
def tCB (r : List V → Hp → VK → Prop) (t : TA) : TE := fun σ H Q => t σ H fun vs H1 => r vs H1 Q
theorem pe_callB (hc : CallR X (.builtin id) r) (hg : Gl X x) (hm : X.mg x = none) (hv : bootBuiltins x = some (.builtin id)) (ha : PA X (e :: es) t) (hn : x ≠ "__name__" := by decide) (hdb : (x == ("__debug__" : Str)) = false := by decide)
    (he : starEach (e :: es) X.env = (false, eval e X.env) :: starEach es X.env := by rfl) (hpl : (backTo pos (starEach es X.env)).any (·.1) = false := by rfl) : PE X (.Call (.Name x p) (e :: es) [] pos) (tCB r t) := by
  intro pins s σ H Q I h
  refine wpAny_Call_Name_kw (ld_blt I hg hm hv ?_ hn hdb)
  exact PyProof.Rows.callWith_builtin1 (thn (ha pos pins s σ H _ I h) fun us s1 ⟨vs, H1, I1, r1, q1⟩ => hc pins s1 σ H1 vs us Q I1 r1 q1) he hpl
theorem pe_callTy (hc : CallR X (.type T) r) (hg : Gl X x) (hm : X.mg x = none) (hv : bootBuiltins x = some (.type T)) (ha : PA X (e :: es) t) (hn : x ≠ "__name__" := by decide) (hdb : (x == ("__debug__" : Str)) = false := by decide)
    (he : starEach (e :: es) X.env = (false, eval e X.env) :: starEach es X.env := by rfl) (hpl : (backTo pos (starEach es X.env)).any (·.1) = false := by rfl) : PE X (.Call (.Name x p) (e :: es) [] pos) (tCB r t) := by
  intro pins s σ H Q I h
  refine wpAny_Call_Name_kw (ld_blt I hg hm hv ?_ hn hdb)
  exact PyProof.Rows.callWith_type1 (thn (ha pos pins s σ H _ I h) fun us s1 ⟨vs, H1, I1, r1, q1⟩ => hc pins s1 σ H1 vs us Q I1 r1 q1) he hpl
end
end L2
namespace HT
open PySem PyProof.Rows
section
open PySem.SeqAt
open PySem.AutoSeq1 (wpAny_loadPart')
open PySem.MeetsSeq PySem.MeetsSeq2 PySem.MeetsSeq3
end
section
variable {prog : Program} {w : World} {A : Around} {E : Value → Shared → Prop} {s : Shared}
def sIx (n d : Nat) : Option Int → Nat
  | none => d
  | some v => if v < 0 then (v + (n : Int)).toNat else min v.toNat n
theorem sIx_none (n d : Nat) : sIx n d none = d := rfl
theorem sIx_nat (n d k : Nat) : sIx n d (some (k : Int)) = min k n := by
  show (if (k : Int) < 0 then ((k : Int) + (n : Int)).toNat else min (k : Int).toNat n) = min k n
  rw [if_neg (by omega), Int.toNat_natCast]
end
end HT
namespace L2
open PySem PySem.Spec PyProof.Rows
abbrev TO := St → Hp → (Option Int → Hp → Prop) → Prop
def PO (X : Cx) (e : Option Expr) (t : TO) : Prop :=
  ∀ (pins : List (Addr × Obj)) (s : Shared) (σ : St) (H : Hp) (Q : Option Int → Hp → Prop), Inv X pins σ H s → t σ H Q →
    wpAny (model X.prog X.w) X.A (evalPart e X.env) (fun u s' => ∃ o H', Inv X pins σ H' s' ∧ IsPart u o ∧ Q o H') X.xe s
def tNoPart : TO := fun _ H Q => Q none H
def tPart (t : TE) : TO := fun σ H Q => t σ H fun x H1 => ∃ i, x = .int i ∧ Q (some i) H1
section
variable {X : Cx} {e : Expr} {te : TE} {lo hi : Option Expr} {tl th : TO} {pos p2 : Pos}
theorem po_none : PO X none tNoPart := by
  intro pins s σ H Q I h
  rw [evalPart_none]
  exact wpAny_pure ⟨none, H, I, .none, h⟩
theorem po_some (h : PE X e te) : PO X (some e) (tPart te) := by
  intro pins s σ H Q I hw
  rw [evalPart_some]
  refine thn (h pins s σ H _ I hw) fun u s1 ⟨x, H1, I1, r1, q1⟩ => ?_
  obtain ⟨i, rfl, q⟩ := q1
  obtain ⟨t, rfl⟩ := r1
  exact ⟨some i, H1, I1, .int i t, q⟩
def SlR (X : Cx) (r : V → Option Int → Option Int → Hp → VK → Prop) : Prop :=
  ∀ (pins : List (Addr × Obj)) (s : Shared) (σ : St) (H : Hp) (x : V) (v vl vu : Value) (lo hi : Option Int) (sl : Addr) (Q : VK), Inv X pins σ H s → RelV x v → s.heap.IsSliceOf sl vl vu .none → IsPart vl lo → IsPart vu hi → r x lo hi H Q →
    ∃ T id, typeLookup (.type T) "__getitem__" = pure (some (.builtin id)) ∧ s.TypeIs v T ∧ wpAny (model X.prog X.w) X.A (getItem v (.ref sl)) (EP X pins σ Q) X.xe s
def tSl (r : V → Option Int → Option Int → Hp → VK → Prop) (te : TE) (tl th : TO) : TE := fun σ H Q => te σ H fun x H1 => tl σ H1 fun l H2 => th σ H2 fun u H3 => r x l u H3 Q
theorem pe_slice {r : V → Option Int → Option Int → Hp → VK → Prop} (hr : SlR X r) (he : PE X e te) (hl : PO X lo tl) (hu : PO X hi th) : PE X (.Subscript e (.Slice lo hi none p2) pos) (tSl r te tl th) := by
  intro pins s σ H Q I h
  refine Subscript_ (thn (he pins s σ H _ I h) fun v s1 ⟨x, H1, I1, r1, q1⟩ => ?_)
  refine wpAny_Slice (thn (hl pins s1 σ H1 _ I1 q1) fun vl s2 ⟨l, H2, I2, pl, q2⟩ => thn (hu pins s2 σ H2 _ I2 q2) fun vu s3 ⟨u, H3, I3, pu, q3⟩ => ?_)
  rw [evalPart_none]
  refine wpAny_pure ?_
  have I4 : Inv X pins σ H3 { s3 with heap := s3.heap.push { cls := .type "slice", data := .fields #[vl, vu, .none] } } := I3.kept (t' := s3.toks) fun b ob q => Heap.get?_push_of_some _ q
  obtain ⟨T, id, hT, ht, hg⟩ := hr pins { s3 with heap := s3.heap.push { cls := .type "slice", data := .fields #[vl, vu, .none] } } σ H3 x v vl vu l u s3.heap.objs.size Q I4 r1 (Heap.IsSliceOf.new ..) pl pu q3
  show wpAny (model X.prog X.w) X.A (subscriptTail e (.Slice lo hi none p2) v (.ref s3.heap.objs.size)) (EP X pins σ Q) X.xe { s3 with heap := s3.heap.push { cls := .type "slice", data := .fields #[vl, vu, .none] } }
  exact tail_any (ops := [.ref s3.heap.objs.size, v]) ht hT hg (by with_unfolding_all rfl)
def cutV (xs : List V) (lo hi : Option Int) : List V := (xs.drop (HT.sIx xs.length 0 lo)).take (HT.sIx xs.length xs.length hi - HT.sIx xs.length 0 lo)
theorem cutV_length (xs : List V) (lo hi : Option Int) : (cutV xs lo hi).length ≤ xs.length := by
  unfold cutV
  rw [List.length_take, List.length_drop]
  omega
end
def ixN (n : Nat) (i : Int) : Option Nat := if 0 ≤ i then (if i < n then some i.toNat else none) else if -(n : Int) ≤ i then some (i + n).toNat else none
def atI {α : Type} (xs : List α) (i : Int) : Option α := (ixN xs.length i).bind fun j => xs[j]?
theorem ixN_seq {n : Nat} {i : Int} {j : Nat} (h : ixN n i = some j) : seqIndex? i n = some j ∧ j < n ∧ -(n : Int) ≤ i ∧ i < n := by
  unfold ixN at h
  by_cases h0 : 0 ≤ i
  · rw [if_pos h0] at h
    by_cases h1 : i < n
    · rw [if_pos h1] at h
      have e : i.toNat = j := Option.some.inj h
      exact ⟨by rw [seqIndex_of h0 h1, e], by omega, by omega, h1⟩
    · rw [if_neg h1] at h; cases h
  · rw [if_neg h0] at h
    by_cases h1 : -(n : Int) ≤ i
    · rw [if_pos h1] at h
      have e : (i + n).toNat = j := Option.some.inj h
      exact ⟨by rw [seqIndex_neg (by omega) h1, e], by omega, h1, by omega⟩
    · rw [if_neg h1] at h; cases h
theorem atI_get {α : Type} {xs : List α} {i : Int} {v : α} (h : atI xs i = some v) : ∃ j, seqIndex? i xs.length = some j ∧ xs[j]? = some v ∧ j < xs.length ∧ -(xs.length : Int) ≤ i ∧ i < xs.length := by
  unfold atI at h
  cases e : ixN xs.length i with
  | none => rw [e] at h; cases h
  | some j =>
    rw [e] at h
    obtain ⟨h1, h2, h3, h4⟩ := ixN_seq e
    exact ⟨j, h1, h, h2, h3, h4⟩
theorem atI_nat {α : Type} {xs : List α} {j : Nat} {v : α} (h : xs[j]? = some v) : atI xs (j : Int) = some v := by
  have hj : j < xs.length := (List.getElem?_eq_some_iff.mp h).1
  have e : ixN xs.length (j : Int) = some j := by
    unfold ixN
    rw [if_pos (by omega), if_pos (by omega)]; simp
  unfold atI; rw [e]; exact h
def PlainIx (b : Expr) : Prop := ∀ o i, subscripted b false o i = operate [o, i] (getItem o i)
def IxR (X : Cx) (r : R2) : Prop :=
  ∀ (value slice : Expr) (pins : List (Addr × Obj)) (s : Shared) (σ : St) (H : Hp) (x y : V) (v u : Value) (Q : VK), Inv X pins σ H s → RelV x v → RelV y u → r x y H Q →
    subscripted slice false v u = operate [v, u] (getItem v u) → wpAny (model X.prog X.w) X.A (subscriptTail value slice v u) (EP X pins σ Q) X.xe s
def MtR (X : Cx) (id : String) (r : V → List V → Hp → VK → Prop) : Prop :=
  ∀ (pins : List (Addr × Obj)) (s : Shared) (σ : St) (H : Hp) (x : V) (xs : List V) (v : Value) (us : List Value) (Q : VK), Inv X pins σ H s → RelV x v → Vals xs us → r x xs H Q →
    wpAny (model X.prog X.w) X.A (call (.builtin id) (v :: us)) (EP X pins σ Q) X.xe s
section
variable {X : Cx} {a b : Expr} {ta tb : TE} {pos : Pos}
theorem pe_ix {r : R2} (hr : IxR X r) (ha : PE X a ta) (hb : PE X b tb) (hs : PlainIx b) : PE X (.Subscript a b pos) (tOp r ta tb) := by
  intro pins s σ H Q I h
  exact Subscript_ (binT ha hb I h fun v u s2 x y H2 I2 rx ry q => hr a b pins s2 σ H2 x y v u Q I2 rx ry q (hs _ _))
def rIxL (K : PySem.W.Frag) : R2 := fun x y H Q => ∃ p xs i v, x = .ref p ∧ y = .int i ∧ SqL K H p xs ∧ atI xs i = some v ∧ Q v H
def rIxT (K : PySem.W.Frag) : R2 := fun x y H Q => ∃ p xs i v, x = .ref p ∧ y = .int i ∧ SqT K H p xs ∧ atI xs i = some v ∧ Q v H
def rIxS : R2 := fun x y H Q => ∃ z i c, x = .str z ∧ y = .int i ∧ z.length ≤ sizeLine ∧ atI z.cps.toList i = some c ∧ Q (.str ⟨#[c]⟩) H
theorem ix_list : IxR X (rIxL X.K) := by
  intro value slice pins s σ H x y v u Q I rx ry h hs
  obtain ⟨p, xs, i, z, rfl, rfl, hq, he, q⟩ := h
  cases rx
  obtain ⟨t, rfl⟩ := ry
  obtain ⟨its, r, pl, hz⟩ := I.list hq
  obtain ⟨j, h1, h2, h3, h4, h5⟩ := atI_get he
  obtain ⟨w, ew, rw'⟩ := r.get h2
  have hl := r.length
  have hn := line63
  have fin : EP X pins σ Q w s := ⟨z, H, I, rw', q⟩
  by_cases h0 : 0 ≤ i
  · have hj : i.toNat = j := by
      rw [seqIndex_of h0 h5] at h1
      exact Option.some.inj h1
    exact item_listR pl.isList h0 (by omega) (by rw [hj]; simpa using ew) fin hs
  · have hj : (i + (its.toArray.size : Int)).toNat = j := by
      rw [seqIndex_neg (by omega) h4] at h1
      rw [List.size_toArray, ← hl]
      exact Option.some.inj h1
    exact subscriptTail_builtinR (x := w) pl.isList.typeIs slot_list_getitem.lookup
      (wpAny_getItem_list_neg (Q := fun r s' => r = w ∧ EP X pins σ Q r s') pl.isList (by omega) (by rw [List.size_toArray] <;> omega) (by omega) (by rw [hj]; simpa using ew) ⟨rfl, fin⟩) hs
theorem ix_tup : IxR X (rIxT X.K) := by
  intro value slice pins s σ H x y v u Q I rx ry h hs
  obtain ⟨p, xs, i, z, rfl, rfl, hq, he, q⟩ := h
  cases rx
  obtain ⟨t, rfl⟩ := ry
  obtain ⟨its, r, pl, hz⟩ := I.tuple hq
  obtain ⟨j, h1, h2, h3, h4, h5⟩ := atI_get he
  obtain ⟨w, ew, rw'⟩ := r.get h2
  have hl := r.length
  have hn := line63
  have fin : EP X pins σ Q w s := ⟨z, H, I, rw', q⟩
  exact subscriptTail_builtinR (x := w) pl.typeIs slot_tuple_getitem.lookup
    (getItem_tuple (j := j) (Q := fun r s' => r = w ∧ EP X pins σ Q r s') pl (by omega) (by omega) (by rw [List.size_toArray, ← hl]; exact h1) (by simpa using ew) ⟨rfl, fin⟩) hs
theorem ix_str : IxR X rIxS := by
  intro value slice pins s σ H x y v u Q I rx ry h hs
  obtain ⟨z, i, c, rfl, rfl, hz, he, q⟩ := h
  obtain ⟨t, rfl⟩ := rx
  obtain ⟨t', rfl⟩ := ry
  obtain ⟨j, h1, h2, h3, h4, h5⟩ := atI_get he
  have hl : z.cps.toList.length = z.length := by simp [Str.length]
  rw [hl] at h1 h4 h5
  have hn := line63
  exact tail_any (typeIs_str s z t) slot_str_getitem.lookup (getItem_str (c := c) (by
    have e1 : decide (i < -(2 ^ 63 : Int)) = false := decide_eq_false (by omega)
    have e2 : decide (i ≥ 2 ^ 63) = false := decide_eq_false (by omega)
    rw [e1, e2, Bool.or_false]) (by rw [h1]; simpa using h2) ⟨.str ⟨#[c]⟩, H, I.tok _, ⟨_, rfl⟩, q⟩) hs
theorem mapSeq_set (its : List Value) (n j : Nat) (u : Value) : Obj.mapSeq (·.setIfInBounds j u) { cls := .type "list", data := .seq its.toArray n } = { cls := .type "list", data := .seq (its.set j u).toArray n } := by
  simp [Obj.mapSeq]
theorem Inv.lst {pins : List (Addr × Obj)} {σ : St} {H : Hp} {s : Shared} {p : Addr} {xs : List V} (I : Inv X pins σ H s) (h : H p = some (.lst xs)) :
    ∃ (its : List Value) (n : Nat), Vals xs its ∧ s.heap.get? p = some { cls := .type "list", data := .seq its.toArray n } ∧ xs.length ≤ sizeLine := by
  obtain ⟨z, its, n, r, e⟩ := I.hok p _ h
  exact ⟨its, n, r, e, z⟩
theorem Inv.lstUpd {pins : List (Addr × Obj)} {σ : St} {H : Hp} {s : Shared} {p : Addr} {xs ys : List V} {its its' : List Value} {n n' : Nat} {f : Obj → Obj} (I : Inv X pins σ H s) (h : H p = some (.lst xs))
    (ho : s.heap.get? p = some { cls := .type "list", data := .seq its.toArray n }) (hf : f { cls := .type "list", data := .seq its.toArray n } = { cls := .type "list", data := .seq its'.toArray n' }) (r : Vals ys its') (hz : ys.length ≤ sizeLine) (t : Nat) :
    Inv X pins σ (upd H p (.lst ys)) { s with heap := s.heap.update p f, toks := t } := by
  have e : (s.heap.update p f).get? p = some { cls := .type "list", data := .seq its'.toArray n' } := by
    rw [Heap.get?_update_self f ho (by rw [hf] <;> rfl), hf]
  refine I.write (x := p) (e := p) (by rw [h]; trivial) (.inl rfl) (fun b u hb q => (Heap.get?_update_other _ _ (Ne.symm hb)).trans q) ⟨_, e⟩ ?_
  exact ⟨hz, its', n', r, e⟩
def rSetL : V → V → V → Hp → (Hp → Prop) → Prop := fun o i v H Q => ∃ p xs k j, o = .ref p ∧ i = .int k ∧ H p = some (.lst xs) ∧ ixN xs.length k = some j ∧ Q (upd H p (.lst (xs.set j v)))
theorem set_list : PSet X rSetL := by
  intro pins s σ H o i v ov iv u Q I ro ri rv h
  obtain ⟨p, xs, k, j, rfl, rfl, hp, hj, q⟩ := h
  cases ro
  obtain ⟨t, rfl⟩ := ri
  obtain ⟨its, n, r, ho, hz⟩ := I.lst hp
  obtain ⟨h1, h2, h3, h4⟩ := ixN_seq hj
  have hl := r.length
  have hn := line63
  have I' : Inv X pins σ (upd H p (.lst (xs.set j v))) { s with heap := s.heap.update p (Obj.mapSeq (·.setIfInBounds j u)) } :=
    I.lstUpd hp ho (mapSeq_set its n j u) (r.set rv j) (by rw [List.length_set]; exact hz) s.toks
  by_cases h0 : 0 ≤ k
  · have hk : k.toNat = j := by
      rw [seqIndex_of h0 h4] at h1
      exact Option.some.inj h1
    exact PySem.W.ki_setAt ho h0 (by omega) (by rw [List.size_toArray, ← hl]; exact h4) (by rw [hk]; exact ⟨_, I', q⟩)
  · have hk : (k + (its.toArray.size : Int)).toNat = j := by
      rw [seqIndex_neg (by omega) h3] at h1
      rw [List.size_toArray, ← hl]
      exact Option.some.inj h1
    exact PySem.W.ki_setBack ho (by omega) (by rw [List.size_toArray, ← hl]; exact h3) (by omega) (by rw [hk]; exact ⟨_, I', q⟩)
theorem slice_bounds (lo hi : Option Int) (n : Nat) : (sliceBounds lo hi none n).1 = ((HT.sIx n 0 lo : Nat) : Int) ∧ (sliceBounds lo hi none n).2.1 = ((HT.sIx n n hi : Nat) : Int) ∧ (sliceBounds lo hi none n).2.2 = 1 := by
  refine ⟨?_, ?_, rfl⟩
  · cases lo with
    | none => simp [sliceBounds, HT.sIx]
    | some i =>
      simp only [sliceBounds, HT.sIx, Option.getD_none, show (1 : Int) > 0 by decide, if_true]
      by_cases h : i < 0
      · simp only [h, if_true] <;> omega
      · simp only [h, if_false] <;> omega
  · cases hi with
    | none => simp [sliceBounds, HT.sIx]
    | some i =>
      simp only [sliceBounds, HT.sIx, Option.getD_none, show (1 : Int) > 0 by decide, if_true]
      by_cases h : i < 0
      · simp only [h, if_true] <;> omega
      · simp only [h, if_false] <;> omega
theorem slicePick_cut (its : List Value) (lo hi : Option Int) : slicePick its.toArray lo hi none = ((its.drop (HT.sIx its.length 0 lo)).take (HT.sIx its.length its.length hi - HT.sIx its.length 0 lo)).toArray := by
  obtain ⟨h1, h2, h3⟩ := slice_bounds lo hi its.toArray.size
  unfold slicePick
  rw [h1, h2, h3]
  simp only [sliceRange_one, pick_run, List.size_toArray] <;> rfl
def rSlL (K : PySem.W.Frag) : V → Option Int → Option Int → Hp → VK → Prop := fun x lo hi H Q => ∃ a xs, x = .ref a ∧ SqL K H a xs ∧ ∀ p, H p = none → Q (.ref p) (upd H p (.lst (cutV xs lo hi)))
theorem sl_list : SlR X (rSlL X.K) := by
  intro pins s σ H x v vl vu lo hi sl Q I rx hs pl pu h
  obtain ⟨a, xs, rfl, hx, q⟩ := h
  cases rx
  obtain ⟨its, r, ht, hz⟩ := I.list hx
  have hlen := r.length
  refine ⟨"list", _, slot_list_getitem.lookup, ht.isList.typeIs, ?_⟩
  refine wpAny_getItem_list_slice ht.isList hs pl pu .none (by simp) ?_ (by rw [List.size_toArray] <;> omega)
  rw [slicePick_cut, ← hlen]
  refine ⟨.ref s.heap.objs.size, _, I.laid (t' := s.toks) (o := .lst (cutV xs lo hi)) (fun b ob q => Heap.get?_push_of_some _ q) (Nat.le_refl _) ?_, rfl, q _ (I.hok.fresh (Nat.le_refl _))⟩
  exact ⟨Nat.le_trans (cutV_length xs lo hi) hz, _, 0, (r.drop (HT.sIx xs.length 0 lo)).take (HT.sIx xs.length xs.length hi - HT.sIx xs.length 0 lo), Heap.get?_push_size _ rfl⟩
theorem call_len_seq : CallR X (.builtin "len") (fun xs H Q => ∃ p ys, xs = [.ref p] ∧ (SqL X.K H p ys ∨ SqT X.K H p ys) ∧ Q (.int ys.length) H) := by
  intro pins s σ H xs us Q I r h
  obtain ⟨p, ys, rfl, hq, q⟩ := h
  obtain ⟨u, rfl, rx⟩ := vals1 r
  cases rx
  have hn := line63
  rcases hq with hq | hq
  · obtain ⟨its, r', pl, hz⟩ := I.list hq
    have hlen := r'.length
    exact Calls.call_len_list pl.isList (by simp only [List.size_toArray] <;> omega) ⟨.int ys.length, H, I.tok _, ⟨s.toks + 1, by rw [List.size_toArray, hlen]⟩, q⟩
  · obtain ⟨its, r', pl, hz⟩ := I.tuple hq
    have hlen := r'.length
    exact len_tuple pl (by simp only [List.size_toArray] <;> omega) ⟨.int ys.length, H, I.tok _, ⟨s.toks + 1, by rw [List.size_toArray, hlen]⟩, q⟩
theorem call_list_of : CallR X (.type "list") (fun xs H Q => ∃ p ys, xs = [.ref p] ∧ (SqL X.K H p ys ∨ SqT X.K H p ys) ∧ ∀ l, H l = none → Q (.ref l) (upd H l (.lst ys))) := by
  intro pins s σ H xs us Q I r h
  obtain ⟨p, ys, rfl, hq, q⟩ := h
  obtain ⟨u, rfl, rx⟩ := vals1 r
  cases rx
  have fin : ∀ (its : List Value), Vals ys its → ys.length ≤ sizeLine → ∀ (h' : Heap) (c' : Nat), (∀ b o', s.heap.get? b = some o' → h'.get? b = some o') →
      h'.get? s.heap.objs.size = some { cls := .type "list", dict := none, data := .seq its.toArray c', slots := #[] } → EP X pins σ Q (.ref s.heap.objs.size) { s with heap := h' } := fun its r' hz h' c' kp e =>
    ⟨.ref s.heap.objs.size, _, I.laid (t' := s.toks) kp (Nat.le_refl _) (show ObjOk X.prog X.w _ h' _ (.lst ys) from ⟨hz, its, c', r', e⟩), rfl, q _ (I.hok.fresh (Nat.le_refl _))⟩
  rcases hq with hq | hq
  · obtain ⟨its, r', pl, hz⟩ := I.list hq
    have hlen := r'.length
    obtain ⟨o, ho, hc, n, hd⟩ := pl.isList
    exact call_list_seq p (.inl rfl) ho hc hd (fun h' c' kp e => fin its r' hz h' c' kp e) (by simp only [List.size_toArray] <;> omega)
  · obtain ⟨its, r', pl, hz⟩ := I.tuple hq
    have hlen := r'.length
    obtain ⟨o, ho, hc, n, hd⟩ := pl
    exact call_list_seq p (.inr rfl) ho hc hd (fun h' c' kp e => fin its r' hz h' c' kp e) (by simp only [List.size_toArray] <;> omega)
def tyV (K : PySem.W.Frag) (T : String) (x : V) (H : Hp) : Prop := match x with
  | .str _ => T = "str"
  | .int _ => T = "int"
  | .ref p => (T = "list" ∧ ∃ xs, SqL K H p xs) ∨ (T = "tuple" ∧ ∃ o, K.lookup p = some o ∧ o.cls = .type "tuple" ∧ o.dict = none) ∨
      (T = "dict" ∧ ((∃ kvs, H p = some (.dK kvs)) ∨ ∃ kvs, H p = some (.dT kvs))) ∨ (T = "set" ∧ ∃ S n, H p = some (.set S n))
  | _ => False
theorem tyV_is {pins : List (Addr × Obj)} {σ : St} {H : Hp} {s : Shared} {T : String} {x : V} {v : Value} (I : Inv X pins σ H s) (r : RelV x v) (ty : tyV X.K T x H) :
    s.TypeIs v T ∧ ∀ a, v = .ref a → ∃ ob, s.heap.get? a = some ob ∧ ob.dict = none := by
  cases x with
  | str z =>
    obtain ⟨t, rfl⟩ := r
    cases (show T = "str" from ty)
    exact ⟨typeIs_str s z t, fun _ e => nomatch e⟩
  | int i =>
    obtain ⟨t, rfl⟩ := r
    cases (show T = "int" from ty)
    exact ⟨typeIs_int s i t, fun _ e => nomatch e⟩
  | ref p =>
    cases r
    rcases ty with ⟨rfl, xs, hq⟩ | ⟨rfl, o, hk, hc, hd⟩ | ⟨rfl, hk⟩ | ⟨rfl, S, n, hk⟩
    · obtain ⟨its, _, pl, _⟩ := I.list hq
      refine ⟨pl.isList.typeIs, fun a e => ?_⟩
      cases e
      obtain ⟨o, n, e, c, hd, _⟩ := pl
      exact ⟨o, e, hd⟩
    · refine ⟨⟨o, I.kIn p o hk, hc⟩, fun a e => ?_⟩
      cases e
      exact ⟨o, I.kIn _ o hk, hd⟩
    · have z : ∃ o, s.heap.get? p = some o ∧ o.ExactDict := by
        rcases hk with ⟨kvs, hk⟩ | ⟨kvs, hk⟩
        · obtain ⟨_, _, _, _, o, _, _, e, ex, _⟩ := I.hok p _ hk
          exact ⟨o, e, ex⟩
        · obtain ⟨_, _, _, _, o, _, _, e, ex, _⟩ := I.hok p _ hk
          exact ⟨o, e, ex⟩
      obtain ⟨o, e, ex⟩ := z
      refine ⟨⟨o, e, ex.1⟩, fun a e2 => ?_⟩
      cases e2
      exact ⟨o, e, ex.2.1⟩
    · obtain ⟨o, _, _, _, e, ex, _⟩ := I.hok p _ hk
      refine ⟨⟨o, e, ex.1⟩, fun a e2 => ?_⟩
      cases e2
      exact ⟨o, e, ex.2.1⟩
  | _ => exact False.elim ty
def tBM0 (K : PySem.W.Frag) (T : String) (r : V → List V → Hp → VK → Prop) (to : TE) : TE := fun σ H Q => to σ H fun x H1 => tyV K T x H1 ∧ r x [] H1 Q
def tBM (K : PySem.W.Frag) (T : String) (r : V → List V → Hp → VK → Prop) (to : TE) (t : TA) : TE := fun σ H Q => to σ H fun x H1 => tyV K T x H1 ∧ t σ H1 fun xs H2 => r x xs H2 Q
variable {o e : Expr} {es : List Expr} {to : TE} {t : TA} {name : Str} {apos cpos : Pos} {T id : String} {r : V → List V → Hp → VK → Prop}
theorem pe_bm0 (pa : PlainAttrs T) (slot : Slot T name id) (hty : typeOf (.builtin id) = pure (.type "method_descriptor")) (hm : MtR X id r) (ho : PE X o to)
    (hbase : attributeBase o name X.env (eval o X.env) = eval o X.env := by rfl) (hline : (apos.endLine == cpos.line) = true := by rfl) : PE X (.Call (.Attribute o name apos) [] [] cpos) (tBM0 X.K T r to) := by
  intro pins s σ H Q I h
  refine wpAny_Call_method0_late hbase hline (thn (ho pins s σ H _ I h) fun v s1 ⟨x, H1, I1, r1, ty, q1⟩ => ?_)
  obtain ⟨h1, h2⟩ := tyV_is I1 r1 ty
  exact ⟨T, id, pa, slot, hty, h1, h2, Calls.callWith_builtin rfl (PySem.evalArgs_none (hm pins s1 σ H1 x [] v [] Q I1 r1 .nil q1))⟩
theorem pe_bm (pa : PlainAttrs T) (slot : Slot T name id) (hty : typeOf (.builtin id) = pure (.type "method_descriptor")) (hm : MtR X id r) (ho : PE X o to) (ha : PA X (e :: es) t)
    (hbase : attributeBase o name X.env (eval o X.env) = eval o X.env := by rfl)
    (hfew : ((backTo cpos (starEach (e :: es) X.env)).all (fun x => !x.1) && (backToKw cpos (keywordEach [] X.env)).all (fun x => x.1.isSome)
      && decide ((e :: es).length + ([] : List Keyword).length + (if ([] : List Keyword).isEmpty then 0 else 1) < 30)) = true := by rfl)
    (hline : (apos.endLine == cpos.line) = true := by rfl) (hs : starEach (e :: es) X.env = (false, eval e X.env) :: starEach es X.env := by rfl) (hplain : (backTo cpos (starEach es X.env)).any (·.1) = false := by rfl) :
    PE X (.Call (.Attribute o name apos) (e :: es) [] cpos) (tBM X.K T r to t) := by
  intro pins s σ H Q I h
  refine wpAny_Call_method_late hbase hfew hline rfl (thn (ho pins s σ H _ I h) fun v s1 ⟨x, H1, I1, r1, ty, q1⟩ => ?_)
  obtain ⟨h1, h2⟩ := tyV_is I1 r1 ty
  refine ⟨T, id, pa, slot, hty, h1, h2, ?_⟩
  have hA := ha cpos pins s1 σ H1 _ I1 q1
  rw [hs] at hA ⊢
  refine Calls.callWith_builtin (by show (false || (backTo cpos (starEach es X.env)).any (·.1)) = false; rw [hplain] <;> rfl) (Calls.evalArgs_plain ?_)
  exact thn hA fun us s2 ⟨vs, H2, I2, r2, q2⟩ => hm pins s2 σ H2 x vs v us Q I2 r1 r2 q2
end
def MtM (X : Cx) (id : String) (r : V → List V → Hp → VK → Prop) : Prop :=
  ∀ (pins : List (Addr × Obj)) (s : Shared) (σ : St) (H : Hp) (x : V) (xs : List V) (v : Value) (us : List Value) (Q : VK), Inv X pins σ H s → RelV x v → Vals xs us → r x xs H Q →
    wpAny (model X.prog X.w) X.A (call (.builtin id) (v :: us)) (EP X pins σ Q) X.xe s
theorem Vals.one : ∀ {x : V} {us : List Value}, Vals [x] us → ∃ u, us = [u] ∧ RelV x u
  | _, _, .cons r .nil => ⟨_, rfl, r⟩
theorem Vals.two : ∀ {x y : V} {us : List Value}, Vals [x, y] us → ∃ u v, us = [u, v] ∧ RelV x u ∧ RelV y v
  | _, _, _, .cons r (.cons q .nil) => ⟨_, _, rfl, r, q⟩
theorem Vals.zero : ∀ {us : List Value}, Vals [] us → us = []
  | _, .nil => rfl
theorem Vals.dropLast {xs : List V} {us : List Value} (h : Vals xs us) : Vals xs.dropLast us.dropLast := by
  induction h with
  | nil => exact .nil
  | cons r t ih =>
    cases t with
    | nil => exact .nil
    | cons q t' => exact .cons r ih
theorem Vals.eraseIdx : ∀ {xs : List V} {us : List Value} (i : Nat), Vals xs us → Vals (xs.eraseIdx i) (us.eraseIdx i)
  | _, _, _, .nil => .nil
  | _, _, 0, .cons _ t => t
  | _, _, i + 1, .cons r t => .cons r (Vals.eraseIdx i t)
theorem Vals.rep {xs : List V} {us : List Value} (h : Vals xs us) : ∀ k : Nat, Vals (List.replicate k xs).flatten (List.replicate k us).flatten
  | 0 => .nil
  | k + 1 => by
    rw [List.replicate_succ, List.replicate_succ, List.flatten_cons, List.flatten_cons]
    exact Vals.append h (Vals.rep h k)
theorem erase_last {α : Type} (l : List α) : l.eraseIdx (l.length - 1) = l.dropLast := by
  induction l with
  | nil => rfl
  | cons a r ih =>
    cases r with
    | nil => rfl
    | cons b r =>
      have e : (a :: b :: r).length - 1 = ((b :: r).length - 1) + 1 := by
        have h1 : (a :: b :: r).length = r.length + 2 := rfl
        have h2 : (b :: r).length = r.length + 1 := rfl
        omega
      rw [e, List.eraseIdx_cons_succ, ih]
      all_goals rfl
theorem len_erase {α : Type} : ∀ (l : List α) (i : Nat), (l.eraseIdx i).length ≤ l.length
  | [], _ => Nat.le_refl _
  | _ :: _, 0 => Nat.le_succ _
  | _ :: r, i + 1 => Nat.succ_le_succ (len_erase r i)
theorem foldl_rep (its : List Value) : ∀ (k : Nat) (acc : List Value),
    List.foldl (fun x1 x2 => x1 ++ x2) acc.toArray (List.replicate k its.toArray) = (acc ++ (List.replicate k its).flatten).toArray
  | 0, acc => by simp
  | k + 1, acc => by
    have e : acc.toArray ++ its.toArray = (acc ++ its).toArray := by simp
    have e2 : (acc ++ its) ++ (List.replicate k its).flatten = acc ++ (List.replicate (k + 1) its).flatten := by
      rw [List.replicate_succ, List.flatten_cons, List.append_assoc]
    rw [← e2, ← foldl_rep its k (acc ++ its), ← e, List.replicate_succ, List.foldl_cons]
section
variable {X : Cx} {pins : List (Addr × Obj)} {σ : St} {H : Hp} {s : Shared} {l b : Addr} {xs ys zs : List V}
theorem Inv.lset {its its' : List Value} {n : Nat} {f : Array Value → Array Value} {t' : Nat} (I : Inv X pins σ H s) (hH : H l = some (.lst xs))
    (e : s.heap.get? l = some { cls := .type "list", data := .seq its.toArray n }) (hf : f its.toArray = its'.toArray) (hv : Vals ys its') (hz : ys.length ≤ sizeLine) :
    Inv X pins σ (upd H l (.lst ys)) { s with heap := s.heap.update l (Obj.mapSeq f), toks := t' } := by
  have q := PySem.IsL.update e f
  rw [hf] at q
  refine I.write (x := l) (e := l) (by rw [hH]; exact trivial) (.inl rfl) (fun b' u hb hu => (Heap.get?_update_other s.heap (Obj.mapSeq f) (Ne.symm hb)).trans hu) ⟨_, q⟩ ?_
  exact ⟨hz, its', _, hv, q⟩
theorem Inv.lnew {its : List Value} {t' : Nat} (I : Inv X pins σ H s) (hv : Vals ys its) (hz : ys.length ≤ sizeLine) :
    Inv X pins σ (upd H s.heap.objs.size (.lst ys)) { s with heap := s.heap.push { cls := .type "list", data := .seq its.toArray }, toks := t' } :=
  I.laid (fun _ _ q => Heap.get?_push_of_some _ q) (Nat.le_refl _) ⟨hz, its, 0, hv, Heap.get?_push_size _ rfl⟩
theorem Inv.fresh (I : Inv X pins σ H s) : H s.heap.objs.size = none := I.hok.fresh (Nat.le_refl _)
theorem Inv.lstM (I : Inv X pins σ H s) (hH : H l = some (.lst xs)) : xs.length ≤ sizeLine ∧ ∃ (its : List Value) (n : Nat), Vals xs its ∧ xs.length = its.length ∧ s.heap.get? l = some { cls := .type "list", data := .seq its.toArray n } := by
  obtain ⟨z, its, n, r, e⟩ := I.hok l _ hH
  exact ⟨z, its, n, r, r.length, e⟩
theorem notLongL {n : Nat} (h : n ≤ sizeLine) : Builtin.List.listTooLong n = false := by
  unfold Builtin.List.listTooLong
  exact decide_eq_false (by omega)
end
section
variable {X : Cx}
def rAppend : V → List V → Hp → VK → Prop := fun x vs H Q => ∃ l xs y, x = .ref l ∧ vs = [y] ∧ H l = some (.lst xs) ∧ xs.length < sizeLine ∧ Q .non (upd H l (.lst (xs ++ [y])))
theorem mt_append : MtM X "list.append" rAppend := by
  intro pins s σ H x vs v us Q I rx rv h
  obtain ⟨l, xs, y, rfl, rfl, hH, hz, q⟩ := h
  cases rx
  obtain ⟨u, rfl, ru⟩ := rv.one
  obtain ⟨z, its, n, r, hl, e⟩ := I.lstM hH
  refine call_meets F.slot_list_append ⟨_, e, rfl⟩ F.entry_list_append (F.args_list_append_2 _ _) (PySem.list_append l its.toArray n u (by rw [List.size_toArray]; omega)) ⟨e, ?_⟩
  refine ⟨.non, _, I.lset (its' := its ++ [u]) hH e (by simp) (r.append (.cons ru .nil)) ?_, rfl, q⟩
  rw [List.length_append, List.length_singleton]
  omega
def rExtend : V → List V → Hp → VK → Prop := fun x vs H Q => ∃ l b xs zs, x = .ref l ∧ vs = [.ref b] ∧ H l = some (.lst xs) ∧ H b = some (.lst zs) ∧ xs.length + zs.length ≤ sizeLine ∧ Q .non (upd H l (.lst (xs ++ zs)))
theorem mt_extend : MtM X "list.extend" rExtend := by
  intro pins s σ H x vs v us Q I rx rv h
  obtain ⟨l, b, xs, zs, rfl, rfl, hH, hB, hz, q⟩ := h
  cases rx
  obtain ⟨u, rfl, ru⟩ := rv.one
  cases ru
  obtain ⟨z, its, n, r, hl, e⟩ := I.lstM hH
  obtain ⟨z2, its2, n2, r2, hl2, e2⟩ := I.lstM hB
  have hsz : its.toArray.size + its2.toArray.size ≤ sizeLine := by rw [List.size_toArray, List.size_toArray]; omega
  have hlong : ¬ (!its.toArray.isEmpty && Builtin.List.listTooLong (its.toArray.size + its2.toArray.size)) = true := by
    rw [notLongL hsz, Bool.and_false]
    exact Bool.false_ne_true
  refine call_meets F.slot_list_extend ⟨_, e, rfl⟩ F.entry_list_extend (F.args_list_extend_2 _ _)
    (AutoSeq1.list_extend_list_list_0 l its.toArray n b its2.toArray n2 hlong (by rw [List.size_toArray]; omega) (by omega)) ⟨e, e2, ?_⟩
  refine ⟨.non, _, I.lset (its' := its ++ its2) hH e (by simp) (r.append r2) ?_, rfl, q⟩
  rw [List.length_append]
  omega
def rPop : V → List V → Hp → VK → Prop := fun x vs H Q => ∃ l xs y, x = .ref l ∧ vs = [] ∧ H l = some (.lst xs) ∧ xs[xs.length - 1]? = some y ∧ Q y (upd H l (.lst xs.dropLast))
theorem mt_pop : MtM X "list.pop" rPop := by
  intro pins s σ H x vs v us Q I rx rv h
  obtain ⟨l, xs, y, rfl, rfl, hH, hy, q⟩ := h
  cases rx
  have hus := rv.zero
  subst hus
  obtain ⟨z, its, n, r, hl, e⟩ := I.lstM hH
  obtain ⟨u, hu, ru⟩ := r.get hy
  have hy' : its.toArray[its.toArray.size - 1]? = some u := by
    show its.toArray[its.length - 1]? = some u
    rw [← Array.getElem?_toList, ← hl]
    exact hu
  refine call_meets F.slot_list_pop ⟨_, e, rfl⟩ F.entry_list_pop (F.args_list_pop_1 _) (MeetsSeq.list_pop_last l its.toArray n u hy' (by rw [List.size_toArray]; omega)) ⟨e, ?_⟩
  refine ⟨y, _, I.lset (its' := its.dropLast) hH e ?_ r.dropLast ?_, ru, q⟩
  · show its.toArray.eraseIdxIfInBounds (its.toArray.size - 1) = its.dropLast.toArray
    rw [List.size_toArray, List.eraseIdxIfInBounds_toArray, erase_last]
  · rw [List.length_dropLast]
    omega
def rPopAt : V → List V → Hp → VK → Prop := fun x vs H Q => ∃ l xs i k y, x = .ref l ∧ vs = [.int i] ∧ H l = some (.lst xs) ∧ -(2 ^ 63) ≤ i ∧ i < 2 ^ 63 ∧ seqIndex? i xs.length = some k ∧ xs[k]? = some y ∧ Q y (upd H l (.lst (xs.eraseIdx k)))
theorem mt_popAt : MtM X "list.pop" rPopAt := by
  intro pins s σ H x vs v us Q I rx rv h
  obtain ⟨l, xs, i, k, y, rfl, rfl, hH, h1, h2, hk, hy, q⟩ := h
  cases rx
  obtain ⟨u, rfl, ru⟩ := rv.one
  obtain ⟨t, rfl⟩ := ru
  obtain ⟨z, its, n, r, hl, e⟩ := I.lstM hH
  obtain ⟨w, hw, rw'⟩ := r.get hy
  refine call_meets F.slot_list_pop ⟨_, e, rfl⟩ F.entry_list_pop (F.args_list_pop_2 _ _)
    (MeetsSeq.list_pop_at l its.toArray n i t k w (fitsIndex_both h1 h2) (by rw [List.size_toArray, ← hl]; exact hk) (by rw [← Array.getElem?_toList]; exact hw) (by rw [List.size_toArray]; omega)) ⟨e, ?_⟩
  refine ⟨y, _, I.lset (its' := its.eraseIdx k) hH e ?_ (r.eraseIdx k) ?_, rw', q⟩
  · show its.toArray.eraseIdxIfInBounds k = (its.eraseIdx k).toArray
    rw [List.eraseIdxIfInBounds_toArray]
  · have := len_erase xs k
    omega
def rCat : R2 := fun x y H Q => ∃ l b xs zs, x = .ref l ∧ y = .ref b ∧ H l = some (.lst xs) ∧ H b = some (.lst zs) ∧ xs.length + zs.length ≤ sizeLine ∧ ∀ p, H p = none → Q (.ref p) (upd H p (.lst (xs ++ zs)))
theorem op_cat : OpR X (binaryOp .Add) rCat := by
  intro pins s σ H x y v u Q I rx ry h
  obtain ⟨l, b, xs, zs, rfl, rfl, hH, hB, hz, q⟩ := h
  cases rx
  cases ry
  obtain ⟨z, its, n, r, hl, e⟩ := I.lstM hH
  obtain ⟨z2, its2, n2, r2, hl2, e2⟩ := I.lstM hB
  refine PySem.P.add_list e e2 ?_ (by rw [List.size_toArray, List.size_toArray]; omega)
  have ea : its.toArray ++ its2.toArray = (its ++ its2).toArray := by simp
  rw [ea]
  exact ⟨.ref _, _, I.lnew (t' := s.toks) (r.append r2) (by rw [List.length_append]; omega), rfl, q _ I.fresh⟩
def rRep : R2 := fun x y H Q => ∃ l k xs, x = .ref l ∧ y = .int k ∧ H l = some (.lst xs) ∧ -(2 ^ 63) ≤ k ∧ k < 2 ^ 63 ∧ xs.length * k.toNat ≤ sizeLine ∧
  ∀ p, H p = none → Q (.ref p) (upd H p (.lst (List.replicate k.toNat xs).flatten))
theorem len_rep {α : Type} (xs : List α) (k : Nat) : (List.replicate k xs).flatten.length = k * xs.length := by
  induction k with
  | zero => simp
  | succ k ih => rw [List.replicate_succ, List.flatten_cons, List.length_append, ih, Nat.succ_mul, Nat.add_comm]
theorem op_rep : OpR X (binaryOp .Mult) rRep := by
  intro pins s σ H x y v u Q I rx ry h
  obtain ⟨l, k, xs, rfl, rfl, hH, h1, h2, hz, q⟩ := h
  cases rx
  obtain ⟨t, rfl⟩ := ry
  obtain ⟨z, its, n, r, hl, e⟩ := I.lstM hH
  have hlen : its.toArray.size * k.toNat ≤ sizeLine := by rw [List.size_toArray, ← hl]; exact hz
  have hcap : ¬ its.toArray.size * k.toNat > (2 ^ 63 - 1) / 8 := by
    have : (sizeLine : Nat) ≤ (2 ^ 63 - 1) / 8 := by decide
    omega
  have hfit : ¬ (!Builtin.List.listFitsIndex k) = true := by
    rw [fitsIndex_both h1 h2]
    exact Bool.false_ne_true
  have hlong : ¬ Builtin.List.listTooLong (its.toArray.size * k.toNat) = true := by
    rw [notLongL hlen]
    exact Bool.false_ne_true
  have hnew : List.foldl (fun x1 x2 => x1 ++ x2) #[] (List.replicate (if its.toArray.isEmpty = true then 0 else k.toNat) its.toArray) = (List.replicate k.toNat its).flatten.toArray := by
    have f0 : ∀ m : Nat, List.foldl (fun x1 x2 => x1 ++ x2) #[] (List.replicate m its.toArray) = (List.replicate m its).flatten.toArray := fun m => by
      have := foldl_rep its m []
      rw [List.nil_append] at this
      exact this
    rw [f0]
    cases its with
    | nil => simp
    | cons a r' => rw [if_neg (by simp)]
  refine wpAny_binaryOp_repeat_ref (T := "list") (U := "int") (by decide) ⟨_, e, rfl⟩ (fun s' => typeIs_int s' k t) noFill_list_mul F.fills_int_mul F.slot_int_rmul repeat_list F.slot_int_index.lookup
    (call_meets F.slot_int_rmul (typeIs_int s k t) F.entry_int_rmul (F.args_int_rmul_2 _ _) (int___rmul___int_list k t l its.toArray n)
      ⟨e, rfl, ⟨_, e, rfl⟩, call_meets F.slot_list_mul ⟨_, e, rfl⟩ F.entry_list_mul (F.args_list_mul_2 _ _) (AutoListH.list___mul___list_int_3 l its.toArray n k t hfit hcap hlong) ⟨e, ?_⟩⟩)
  rw [hnew]
  exact ⟨.ref _, _, I.lnew (t' := s.toks) (r.rep k.toNat) (by rw [len_rep, Nat.mul_comm]; exact hz), rfl, q _ I.fresh⟩
end
section
variable {prog : Program} {w : World} {A : Around} {E : Value → Shared → Prop} {s : Shared}
end
section
variable {X : Cx}
end
end L2
namespace Att
open PySem PySem.W PySem.Calls PyProof.Rows
theorem ints_of_wellAll {P : Params} {h : Heap} : ∀ (ns : List Int) (vs : List Value), WellAll P h vs (ns.map WData.int) → IntsAre vs ns := by
  intro ns
  induction ns with
  | nil =>
    intro vs w
    rw [List.map_nil] at w
    cases w
    exact .nil
  | cons n ns ih =>
    intro vs w
    rw [List.map_cons] at w
    cases w with
    | cons a b =>
      cases a
      exact .cons _ _ (ih _ b)
theorem script_of {l : OpenLaw} {n : Nat} (hn : l.most = some n) {P : Params} {h : Heap} {args : List WData} {vals : List Value}
    (hpre : l.row.toRowW.claim.pre args = true) (hwl : WellAll P h vals args) :
    ∃ a vs ns, vals = [Value.ref a] ∧ args = [WData.list (ns.map WData.int)] ∧ h.get? a = some { cls := .type "list", data := .seq vs.toArray } ∧ IntsAre vs ns ∧ ns.length ≤ n := by
  have hsh : WShape.hasAll [] args [.list .int] = true := (pre_splitW hpre).1
  have hc : l.pre.holds [] { args := args } = true := (pre_splitW hpre).2
  obtain ⟨d, r, rfl, h1, h2⟩ := hasAllW_cons hsh
  obtain rfl := hasAllW_nil h2
  obtain ⟨xs, rfl, h3⟩ := hasW_list h1
  obtain ⟨ns, rfl⟩ := items_int h3
  have hlen : ns.length ≤ n := by
    unfold OpenLaw.pre at hc
    have h4 : (WTm.not (.lt (.lit (.int (n : Int))) (.len (.arg 0)))).holds [] { args := [.list (ns.map .int)] } = true := by
      have h4 := (holds_andW hc).1
      rw [hn] at h4
      exact h4
    have h5 := condW_of h4 (w_not (w_lt w_lit (w_len_list (w_arg rfl))))
    rw [List.length_map] at h5
    refine Nat.le_of_not_lt fun q => ?_
    have q' : (n : Int) < ((ns.length : Nat) : Int) := by omega
    first
      | (rw [decide_eq_true q'] at h5; exact absurd h5 (by decide))
      | (simp at h5; omega)
  cases hwl with
  | cons w1 w2 =>
    cases w2
    cases w1 with
    | list ho hall => exact ⟨_, _, ns, rfl, rfl, ho, ints_of_wellAll ns _ hall, hlen⟩
theorem post_true (l : OpenLaw) (args : List WData) : l.row.toRowW.claim.post args (.bool true) args = true :=
  postW_of (r := l.row.toRowW) (X := (true == true))
    (show WShape.has [] (.bool true) .bool = true by first | rfl | decide | simp [WShape.has, WShape.arms, WShape.armsAll])
    (show (WTm.eq .res (.lit (.bool true))).value [] { args := args, res := some (.bool true), after := args } = some (.bool (true == true)) from w_eq_bool (w_res rfl) w_lit) rfl
theorem attach_call {l : OpenLaw} {n : Nat} {q : Program} {loose : List Str} {XP : (Str → Option Value) → Heap → Prop} {YP : World → Heap → Prop} {d : DefRec}
    (hn : l.most = some n) (hdf : d.params.defaults = [])
    (call : ∀ (w : World) (s₀ s₁ : Shared) (mg mb : Str → Option Value) (fa : Addr) (o : Obj) (pm cd doc : Value) (a : Addr) (vs : List Value) (ns : List Int),
      Ground q loose [] XP w s₀ mg mb s₁.heap → YP w s₁.heap →
      s₁.heap.get? fa = some o → o.data = .func (docDef d.name d.params d.body d.scope pm cd doc) → s₁.heap.CodeRec cd d.name → mg d.name = some (.ref fa) →
      s₁.heap.get? a = some { cls := .type "list", data := .seq vs.toArray } → IntsAre vs ns → ns.length ≤ n → s₁.gens = #[] →
      codeAny (model l.prog w) callerA (.call (.ref fa) ⟨[.ref a], []⟩) (fun r s' => r = .ok (.ret (.bool true)) ∧ OldK s₁.heap s'.heap ∧ s'.os = s₁.os ∧ AllBare s'.gens) s₁) :
    WalkO q loose XP YP l.row.toRowW d [] (fun f vs => PySem.call f vs) := by
  intro w s₀ s₁ mg mb G Y fa o pm cd doc dV kV ho hd hcd hD hmg hg args vals as hpre hlay hrd hwl hlo
  obtain rfl : dV = .none := Dflts.none hD hdf
  obtain rfl : kV = .none := Dflts.noKw hD
  obtain ⟨a, vs, ns, rfl, rfl, hobj, hints, hlen⟩ := script_of hn hpre hwl
  refine enter_call (codeAny_mono (call w s₀ s₁ mg mb fa o pm cd doc a vs ns G Y ho (fd_plain hd) hcd hmg hobj hints hlen hg) fun r s' hq => ?_)
  obtain ⟨rfl, h2, h3, h4⟩ := hq
  exact ⟨.inl ⟨.bool true, .bool true, [], rfl, fun _ => rfl, .bool true, post_true l _, fun _ => ⟨List.Pairwise.nil, fun _ hm => (nomatch hm)⟩⟩, h2, h3, h4⟩
section
variable {prog : Program} {w : World} {A : Around} {E : Value → Shared → Prop} {s : Shared} {K : Frag}
end
end Att
namespace L2
open PySem PySem.Spec PyProof.Rows
theorem vals_ints : ∀ {vs : List Value} {ns : List Int}, IntsAre vs ns → Vals (ns.map V.int) vs
  | _, _, .nil => .nil
  | _, _, .cons n t h => .cons ⟨t, rfl⟩ (vals_ints h)
def Only (H : Hp) : Prop := ∀ b, H b = none ∨ ∃ o xs, H b = some (.frz o (.lst xs))
theorem law_call {P : Program} {w : World} {K : PySem.W.Frag} {mg mb : Str → Option Value} {CX : CXT} {k : Nat} {fa a : Addr} {fd : FuncData} {x : Str} {sp : Sp} {s₁ : Shared} {vs : List Value} {ns : List Int}
    (KX : K.In s₁.heap) (hns : s₁.heap.Ns mainGlobals mg) (hb : s₁.heap.Ns builtinsNs mb) (hbb : ∀ x : Str, x ≠ "__name__" → mb x = bootBuiltins x) (hlim : s₁.heap.NoLimit) (hg : s₁.gens = #[])
    (ha : s₁.heap.get? a = some { cls := .type "list", data := .seq vs.toArray }) (hi : IntsAre vs ns) (hl : ns.length ≤ sizeLine) (hr : Room k callerA)
    (F : ∀ base : Heap, K.In base → base.Ns mainGlobals mg → FnOk P w K mg base CX k fa fd [x] sp) (hbind : ∀ (s : Shared) (u : Value), BindsTo s fd ⟨[u], []⟩ [(x, u)])
    (hsp : ∀ H : Hp, Only H → SqL K H a (ns.map V.int) → sp [.ref a] H (fun v _ => v = .bl true) fun _ _ _ => False)
    (hCX : ∀ H e s', CX [] H s₁ (fun _ _ _ => False) e s' → False) :
    codeAny (model P w) callerA (.call (.ref fa) ⟨[.ref a], []⟩) (fun r s' => r = .ok (.ret (.bool true)) ∧ OldK s₁.heap s'.heap ∧ s'.os = s₁.os ∧ AllBare s'.gens) s₁ := by
  have rv := vals_ints hi
  have lenV := hi.length
  have core : ∀ H : Hp, Only H → SqL K H a (ns.map V.int) → HOk P w H s₁.heap → (∀ b, H b ≠ none → b = a) → (H a ≠ none → K.lookup a = none) →
      codeAny (model P w) callerA (.call (.ref fa) ⟨[.ref a], []⟩) (fun r s' => r = .ok (.ret (.bool true)) ∧ OldK s₁.heap s'.heap ∧ s'.os = s₁.os ∧ AllBare s'.gens) s₁ := by
    intro H hO hS hok hA hK
    have base_of : ∀ {b : Addr} {o : Obj}, s₁.heap.get? b = some o → H b = none → (hidT s₁.heap H).get? b = some o := fun e n => hidT_get e n
    have noA : ∀ {b : Addr} {o : Obj} {es : Array DictEntry} {ep : Nat}, s₁.heap.get? b = some o → o.data = .dict es ep → H b = none := fun {b o es ep} e d => by
      cases q : H b with
      | none => rfl
      | some u =>
        have e' : b = a := hA b (by rw [q]; simp)
        subst e'
        rw [ha] at e; cases e
        have d' : Data.seq vs.toArray _ = Data.dict es ep := d
        cases d'
    have nsK : ∀ {b : Addr} {m : Str → Option Value}, s₁.heap.Ns b m → (hidT s₁.heap H).Ns b m := fun {b m} ⟨o, es, ep, e, d, r⟩ => ⟨o, es, ep, base_of e (noA e d), d, r⟩
    have hKb : K.In (hidT s₁.heap H) := fun b o e => base_of (KX b o e) (by
      cases q : H b with
      | none => rfl
      | some u =>
        have e' : b = a := hA b (by rw [q]; simp)
        subst e'
        rw [hK (by rw [q]; simp)] at e; cases e)
    have hM : Mod K mg (hidT s₁.heap H) := ⟨hKb, nsK hns, ⟨mb, nsK hb, hbb⟩, let ⟨mc, h1, h2⟩ := hlim; ⟨mc, nsK h1, h2⟩⟩
    have e0 : Env0 P w K mg (hidT s₁.heap H) callerA [] s₁ H := ⟨rfl, hM, fun b o e => of_hidT e, Nat.le_of_eq (hidT_size _ _), trivial, fun b hb => absurd (show b ∈ ([] : List Addr) from hb) (by simp), hok, .of_eq hg⟩
    refine codeAny_mono ((F _ hKb (nsK hns)).run callerA [] s₁ H ⟨[.ref a], []⟩ [.ref a] [.ref a] _ _ hr e0 (hbind s₁ (.ref a)) (.cons rfl .nil) (hsp H hO hS)) fun r s' h => ?_
    cases r with
    | error e => exact (hCX H e s' h).elim
    | ok fl =>
      cases fl with
      | next => exact False.elim h
      | brk => exact False.elim h
      | cont => exact False.elim h
      | ret u =>
        obtain ⟨v, H', os, bare, un, hok', r', q⟩ := h
        have q' : v = .bl true := q
        subst q'
        obtain rfl : u = Value.bool true := r'
        refine ⟨rfl, OldK.of_keep fun b o e => ?_, os, bare⟩
        cases q : H b with
        | none => exact un.keep b o e q (by intro z; exact absurd (show b ∈ ([] : List Addr) from z) (by simp)) (by simp)
        | some u =>
          rcases hO b with z | ⟨ob, xs, z⟩
          · rw [q] at z; cases z
          · have z2 := un.frzs b ob _ z
            obtain ⟨e1, _⟩ := hok b _ z
            obtain ⟨e2, _⟩ := hok' b _ z2
            rw [e] at e1; cases e1
            exact e2
  cases hk : K.lookup a with
  | some o =>
    have e := KX a o hk
    rw [ha] at e
    cases e
    refine core (fun _ => none) (fun _ => .inl rfl) (.inr ⟨_, vs.toArray, _, hk, rfl, rfl, rfl, by rw [List.size_toArray, lenV]; exact hl, by simpa using rv⟩) (fun b u z => by have z' : (none : Option HO) = some u := z; cases z') (fun b z => absurd rfl z) fun z => absurd rfl z
  | none =>
    refine core (fun b => if b = a then some (.frz { cls := .type "list", data := .seq vs.toArray } (.lst (ns.map V.int))) else none) (fun b => ?_) (.inl (.inr ⟨{ cls := .type "list", data := .seq vs.toArray }, if_pos rfl⟩)) (fun b u z => ?_) (fun b z => ?_) fun _ => hk
    · by_cases hb : b = a
      · exact .inr ⟨_, _, if_pos hb⟩
      · exact .inl (if_neg hb)
    · by_cases hb : b = a
      · have z' := (if_pos hb).symm.trans z
        cases z'
        subst hb
        exact ⟨ha, by rw [List.length_map]; exact hl, vs, _, rv, ha⟩
      · have z' := (if_neg hb).symm.trans z
        cases z'
    · by_cases hb : b = a
      · exact hb
      · exact absurd (if_neg hb) z
theorem walk_of {l : PySem.W.OpenLaw} {n k : Nat} {q : Program} {loose : List Str} {XP : (Str → Option Value) → Heap → Prop} {YP : World → Heap → Prop} {d : DefRec} {K : Params → PySem.W.Frag} {CX : World → CXT} {sp : World → Sp} {x : Str}
    (hn : l.most = some n) (hn2 : n ≤ sizeLine) (hdf : d.params.defaults = []) (hr : Room k callerA)
    (hY : ∀ (w : World) (h : Heap), YP w h → (K w.params).In h)
    (F : ∀ (w : World) (mg : Str → Option Value) (fa : Addr) (h : Heap), (K w.params).In h → h.Ns mainGlobals mg → mg d.name = some (.ref fa) →
      ∃ fd : FuncData, (∀ (s : Shared) (u : Value), BindsTo s fd ⟨[u], []⟩ [(x, u)]) ∧
        ∀ base : Heap, (K w.params).In base → base.Ns mainGlobals mg → FnOk l.prog w (K w.params) mg base (CX w) k fa fd [x] (sp w))
    (hsp : ∀ (w : World) (H : Hp) (a : Addr) (ns : List Int), ns.length ≤ n → Only H → SqL (K w.params) H a (ns.map V.int) → sp w [.ref a] H (fun v _ => v = .bl true) fun _ _ _ => False)
    (hCX : ∀ (w : World) (H : Hp) (s : Shared) (e : Value) (s' : Shared), CX w [] H s (fun _ _ _ => False) e s' → False) :
    PySem.W.WalkO q loose XP YP l.row.toRowW d [] (fun f vs => PySem.call f vs) := by
  refine Att.attach_call hn hdf fun w s₀ s₁ mg mb fa o pm cd doc a vs ns G Y ho hd hcd hmg hobj hints hlen hg => ?_
  have KX := hY w _ Y
  obtain ⟨fd, hb, hF⟩ := F w mg fa _ KX G.T.g hmg
  exact law_call KX G.T.g G.T.b G.T.builtins G.T.nolimit hg hobj hints (Nat.le_trans hlen hn2) hr hF hb (fun H hO hS => hsp w H a ns hlen hO hS) fun H e s' => hCX w H s₁ e s'
def defArgs (s : Stmt) : Arguments := match s with
  | .FunctionDef _ a _ _ _ _ _ _ _ _ => a
  | _ => { posonlyargs := [], args := [], vararg := none, kwonlyargs := [], kw_defaults := [], kwarg := none, defaults := [] }
def defBody (s : Stmt) : List Stmt := match s with
  | .FunctionDef _ _ b _ _ _ _ _ _ _ => b
  | _ => []
def defScope (s : Stmt) : Scope := match s with
  | .FunctionDef _ _ _ _ _ _ sc _ _ _ => sc
  | _ => { kind := .function, names := [], isGenerator := false, isCoroutine := false }
abbrev CX0 : CXT := fun _ _ _ _ _ _ => False
abbrev E0 : XK := fun _ _ _ => False
theorem pass0 {X : Cx} : Passes CX0 X E0 := fun _ _ _ _ _ _ _ h => h.elim
structure Fun (K : PySem.W.Frag) (x qual : Str) (st : Stmt) (f : Addr) (fd : FuncData) : Prop where
  ex : ∃ (oc : Value) (od : Option Addr) (kV doc pm : Value) (an : Option Addr) (cdv ct : Value) (osl : Array (Option Value)),
    fd = PySem.W.fnOf x qual (defArgs st) (defBody st) (defScope st) .none kV doc pm an cdv ct ∧ K.lookup f = some ⟨oc, od, .func fd, osl⟩ ∧ PySem.W.codeIn K cdv qual = true
  kp : PySem.W.keepIn K (.ref f) = true
section
variable {P : Program} {w : World} {K : PySem.W.Frag} {mg : Str → Option Value} {base : Heap}
theorem Fun.ok {x qual : Str} {st : Stmt} {f : Addr} {fd : FuncData} {N ps : List Str} {k : Nat} {sp : Sp} (F : Fun K x qual st f fd) (S : FnScope N ps (defScope st)) (len : ∀ vs H Q E, sp vs H Q E → vs.length = ps.length)
    (hbody : ∀ (cdv : Value) (A : Around) (outer : List Env) (s : Shared) (H : Hp) (vs : List V) (Q : VK) (E : XK), Room k (A.deeper (envOfC qual (defScope st) s.heap.objs.size f cdv)) → sp vs H Q E →
      ∃ t, PSs (cxOf CX0 P w K mg base N qual (defScope st) f cdv A outer s H E).nox (defBody st) t ∧ t { nx := fun _ H' => Q .non H', rt := Q } (start N vs) H) : FnOk P w K mg base CX0 (k + 1) f fd ps sp := by
  obtain ⟨oc, od, kV, doc, pm, an, cdv, ct, osl, rfl, lk, hcd⟩ := F.ex
  refine fn_of lk hcd S len fun A outer s H vs Q E hr hsp => ?_
  obtain ⟨t, h, q⟩ := hbody cdv A outer s H vs Q E hr hsp
  exact ⟨t, h.nox, q⟩
theorem Fun.binds {x qual : Str} {st : Stmt} {f : Addr} {fd : FuncData} {ps : List Str} (F : Fun K x qual st f fd)
    (h : ∀ (kV doc pm : Value) (an : Option Addr) (cdv ct : Value) (us : List Value), us.length = ps.length → bindArgs (PySem.W.fnOf x qual (defArgs st) (defBody st) (defScope st) .none kV doc pm an cdv ct) ⟨us, []⟩ = pure (ps.zip us)) : Binds K fd ps [] := by
  obtain ⟨oc, od, kV, doc, pm, an, cdv, ct, osl, rfl, lk, hcd⟩ := F.ex
  exact .all (h kV doc pm an cdv ct)
theorem fun_mk {x qual : Str} {st : Stmt} {f : Addr} {oc : Value} {od an : Option Addr} {osl : Array (Option Value)} {kV doc pm cdv ct : Value} (l : K.lookup f = some ⟨oc, od, .func (PySem.W.fnOf x qual (defArgs st) (defBody st) (defScope st) .none kV doc pm an cdv ct), osl⟩)
    (c : PySem.W.codeIn K cdv qual = true) (k : PySem.W.keepIn K (.ref f) = true) : Fun K x qual st f (PySem.W.fnOf x qual (defArgs st) (defBody st) (defScope st) .none kV doc pm an cdv ct) := ⟨⟨oc, od, kV, doc, pm, an, cdv, ct, osl, rfl, l, c⟩, k⟩
end
theorem small1000 {n : Nat} (h : n ≤ 1000) : n < sizeLine := Nat.lt_of_le_of_lt h (by decide)
section
variable {X : Cx}
theorem pv (i : Nat) {x : Str} {pos : Pos} (hN : X.N[i]? = some x := by rfl) (hv : Vis X.env.scope x := by first | exact Or.inl rfl | exact Or.inr (Or.inl rfl) | exact Or.inr (Or.inr rfl)) (hd : (x == ("__debug__" : Str)) = false := by decide)
    (hcd : (x == ("__classdict__" : Str)) = false := by decide) : PE X (.Name x pos) (tVar i) := pe_var hN hv hd hcd
end
theorem iteF {A B : Prop} (h : B) : if false = true then A else B := by
  rw [if_neg Bool.false_ne_true]
  exact h
theorem iteT {A B : Prop} (h : A) : if true = true then A else B := by
  rw [if_pos rfl]
  exact h
theorem ite2 {c A B : Prop} [Decidable c] (h1 : c → A) (h2 : ¬ c → B) : if c then A else B := by
  by_cases h : c
  · rw [if_pos h]
    exact h1 h
  · rw [if_neg h]
    exact h2 h
def Same (H H' : Hp) : Prop := ∀ b o, H b = some o → H' b = some o
theorem Same.refl (H : Hp) : Same H H := fun _ _ h => h
theorem Same.trans {H H1 H2 : Hp} (a : Same H H1) (b : Same H1 H2) : Same H H2 := fun c o h => b c o (a c o h)
theorem Same.free {H H' : Hp} (e : Same H H') {l : Addr} (h : H' l = Option.none) : H l = Option.none := by
  cases q : H l with
  | none => rfl
  | some o =>
    rw [e l o q] at h
    cases h
theorem Same.seq {K : PySem.W.Frag} {H H' : Hp} {a : Addr} {xs : List V} (e : Same H H') (h : SqL K H a xs) : SqL K H' a xs := by
  rcases h with (h | ⟨o, h⟩) | h
  · exact .inl (.inl (e _ _ h))
  · exact .inl (.inr ⟨o, e _ _ h⟩)
  · exact .inr h
end L2
set_option Elab.async false
set_option linter.all false
set_option maxRecDepth 100000
set_option maxHeartbeats 4000000
namespace L2
open PySem PySem.Spec PyProof.Rows
def Cx.comp (X : Cx) (N' : List Str) (scope : Scope) (cl : List (Str × Addr)) (C : Addr) (s2 : Shared) (H2 : Hp) (ex : List Addr) : Cx :=
  { X with N := N', s₀ := s2, H₀ := H2, env := compEnvC scope cl C X.env, outer := X.stack, ex := ex, fn := fun _ => false, pn := [], xe := fun _ _ => False }
theorem closure_go {env : Env} : ∀ (names : List (Str × NameKind)) (acc : List (Str × Addr)), (∀ y ∈ names, y.2 = .free → ∃ c, env.cells.lookup y.1 = some c) →
    (∀ x c, acc.lookup x = some c → env.cells.lookup x = some c) →
    ∃ cl, (forIn names acc fun (x : Str × NameKind) (cs : List (Str × Addr)) => (match x with
      | (name, kind) => if (kind == NameKind.free) = true then do let c ← cellOf env name; pure (ForInStep.yield ((name, c) :: cs)) else pure (ForInStep.yield cs) : Sem (ForInStep (List (Str × Addr))))) = pure cl ∧
      (∀ x c, cl.lookup x = some c → env.cells.lookup x = some c) ∧ (∀ x c, acc.lookup x = some c → cl.lookup x = some c) ∧
      (∀ x, (x, NameKind.free) ∈ names → ∃ c, cl.lookup x = some c)
  | [], acc, _, h2 => ⟨acc, rfl, h2, fun _ _ h => h, fun _ h => nomatch h⟩
  | (n, k) :: r, acc, h1, h2 => by
    rw [List.forIn_cons]
    dsimp only
    by_cases hk : (k == NameKind.free) = true
    · have hk' : k = NameKind.free := by simpa using hk
      obtain ⟨c, hc⟩ := h1 (n, k) List.mem_cons_self hk'
      have e : cellOf env n = pure c := by unfold cellOf; rw [hc]
      obtain ⟨cl, e1, e2, e3, e4⟩ := closure_go r ((n, c) :: acc) (fun y hy => h1 y (List.mem_cons_of_mem _ hy)) (fun x d hd => by
        rw [List.lookup_cons] at hd
        cases hx : x == n with
        | true =>
          rw [hx] at hd
          have : x = n := by simpa using hx
          subst this
          cases hd
          exact hc
        | false =>
          rw [hx] at hd
          exact h2 x d hd)
      have self : cl.lookup n = some c := e3 n c (by rw [List.lookup_cons]; simp)
      refine ⟨cl, ?_, e2, fun x d hd => ?_, fun x hx => ?_⟩
      · rw [if_pos hk, e, pure_bind, pure_bind]
        exact e1
      · by_cases hx : x = n
        · subst hx
          have := h2 x d hd
          rw [hc] at this
          cases this
          exact self
        · exact e3 x d (by rw [List.lookup_cons]; simp only [show (x == n) = false by simpa using hx]; exact hd)
      · rcases List.mem_cons.mp hx with z | z
        · cases z
          exact ⟨c, self⟩
        · exact e4 x z
    · obtain ⟨cl, e1, e2, e3, e4⟩ := closure_go r acc (fun y hy => h1 y (List.mem_cons_of_mem _ hy)) h2
      refine ⟨cl, ?_, e2, e3, fun x hx => ?_⟩
      · rw [if_neg hk, pure_bind]
        exact e1
      · rcases List.mem_cons.mp hx with z | z
        · cases z
          exact absurd rfl hk
        · exact e4 x z
theorem closure_of {scope : Scope} {env : Env} (h : ∀ y ∈ scope.names, y.2 = .free → ∃ c, env.cells.lookup y.1 = some c) :
    ∃ cl, closureFor scope env = pure cl ∧ (∀ x c, cl.lookup x = some c → env.cells.lookup x = some c) ∧ (∀ x, (x, NameKind.free) ∈ scope.names → ∃ c, cl.lookup x = some c) := by
  obtain ⟨cl, e1, e2, e3, e4⟩ := closure_go (env := env) scope.names [] h (fun x c hc => by simp at hc)
  refine ⟨cl, ?_, e2, e4⟩
  unfold closureFor
  simp only [bind_pure]
  exact e1
theorem relabel_lookup {env : Env} {x : Str} {k : NameKind} : ∀ {names : List (Str × NameKind)},
    (names.map fun (n, k) => if (k == NameKind.free && env.scope.kind == .function && env.kindOf n == some .cell) then (n, NameKind.cell) else (n, k)).lookup x = some k →
    ∃ k', names.lookup x = some k' ∧ (k' = k ∨ k' = .free ∧ k = .cell)
  | [], h => by simp at h
  | (n, j) :: r, h => by
    rw [List.map_cons] at h
    dsimp only at h
    have ih := @relabel_lookup env x k r
    by_cases hc : (j == NameKind.free && env.scope.kind == .function && env.kindOf n == some .cell) = true
    · rw [if_pos hc, List.lookup_cons] at h
      rw [List.lookup_cons]
      cases hx : x == n with
      | true =>
        rw [hx] at h
        cases h
        simp only [Bool.and_eq_true] at hc
        exact ⟨j, rfl, .inr ⟨by simpa using hc.1.1, rfl⟩⟩
      | false =>
        rw [hx] at h
        exact ih h
    · rw [if_neg hc, List.lookup_cons] at h
      rw [List.lookup_cons]
      cases hx : x == n with
      | true =>
        rw [hx] at h
        cases h
        exact ⟨_, rfl, .inl rfl⟩
      | false =>
        rw [hx] at h
        exact ih h
theorem relabel_free {env : Env} {x : Str} : ∀ {names : List (Str × NameKind)}, names.lookup x = some .free →
    (names.map fun (n, k) => if (k == NameKind.free && env.scope.kind == .function && env.kindOf n == some .cell) then (n, NameKind.cell) else (n, k)).lookup x = some .cell ∨
    (names.map fun (n, k) => if (k == NameKind.free && env.scope.kind == .function && env.kindOf n == some .cell) then (n, NameKind.cell) else (n, k)).lookup x = some .free
  | [], h => by simp at h
  | (n, j) :: r, h => by
    rw [List.map_cons]
    dsimp only
    have ih := @relabel_free env x r
    rw [List.lookup_cons] at h
    by_cases hc : (j == NameKind.free && env.scope.kind == .function && env.kindOf n == some .cell) = true
    · rw [if_pos hc, List.lookup_cons]
      cases hx : x == n with
      | true => exact .inl rfl
      | false => rw [hx] at h; exact ih h
    · rw [if_neg hc, List.lookup_cons]
      cases hx : x == n with
      | true => rw [hx] at h; cases h; exact .inr rfl
      | false => rw [hx] at h; exact ih h
theorem compLoop_any {prog : Program} {w : World} {A : Around} {R : Result → Shared → Prop} {s : Shared} {elt target iter : Expr} {ifs : List Expr} {scope : Scope} {pos : Pos} {it acc : Value} {env : Env} (I : Nat → Shared → Prop)
    (turn : ∀ n s, I n s → wpAny (model prog w) A (pyNext it) (fun r s₁ => match r with
      | none => R (.ok .next) s₁
      | some v => wpAny (model prog w) A (letOwnedTupleGo target it v) (fun _ s₁' => wpAny (model prog w) A (assign target env v) (fun _ s₂ =>
          wpAny (model prog w) A (forIn ifs true fun c r => if r = true then do let ok ← isTrue c env (eval c env); pure (ForInStep.yield ok) else pure (ForInStep.yield r)) (fun ok s₃ =>
            if ok = true then wpAny (model prog w) A (eval elt env) (fun x s₄ =>
              wpAny (model prog w) A (call (.builtin "list.append") [acc, x]) (fun _ s₅ => ∃ m, m < n ∧ I m s₅) (fun _ _ => False) s₄) (fun _ _ => False) s₃
            else ∃ m, m < n ∧ I m s₃) (fun _ _ => False) s₂) (fun _ _ => False) s₁') (fun _ _ => False) s₁) (fun _ _ => False) s)
    (n : Nat) (h : I n s) :
    codeAny (model prog w) A (.compLoop (.ListComp elt [⟨target, iter, ifs, 0⟩] scope pos) 0 it acc env) R s := by
  refine codeAny_loop rfl I (fun n s hI => ?_) n h
  show wpAny _ A ((compTurn (.ListComp elt [⟨target, iter, ifs, 0⟩] scope pos) 0 it acc env).onRaise (fun x => do noteFrame x env; theTreesLotGoes x)) _ _ s
  refine wpAny_noted ?_
  rw [compTurn_list]
  refine wpAny_bind (wpAny_standAt (wpAny_bind (wpAny_mono (turn n s hI) (fun r s₁ h₁ => ?_) fun _ _ h' => h'.elim)))
  cases r with
  | none => exact wpAny_pure h₁
  | some v =>
    refine wpAny_bind (wpAny_mono h₁ (fun _ s₁' h₁' => ?_) fun _ _ h' => h'.elim)
    refine wpAny_bind (wpAny_mono h₁' (fun _ s₂ h₂ => wpAny_bind (wpAny_mono h₂ (fun ok s₃ h₃ => ?_) fun _ _ h' => h'.elim)) fun _ _ h' => h'.elim)
    cases ok with
    | false => exact wpAny_pure ⟨rfl, h₃⟩
    | true =>
      exact wpAny_bind (wpAny_bind (wpAny_mono h₃ (fun x s₄ h₄ => wpAny_bind (wpAny_mono h₄ (fun _ s₅ h₅ => wpAny_pure (wpAny_pure ⟨rfl, h₅⟩)) fun _ _ h' => h'.elim)) fun _ _ h' => h'.elim))
end L2
set_option Elab.async false
set_option linter.all false
set_option maxRecDepth 100000
set_option maxHeartbeats 4000000
namespace L2
open PySem PySem.Spec PyProof.Rows
def pick (σ : St) : Option Nat → Option V
  | none => none
  | some i => (σ[i]?).getD none
theorem pick_some {σ : St} {j : Nat} {v : V} (h : pick σ (some j) = some v) : σ[j]? = some (some v) := by
  have h : (σ[j]?).getD none = some v := h
  cases e : σ[j]? with
  | none => rw [e] at h; cases h
  | some o => rw [e] at h; exact congrArg some h
def compOk (osc scope : Scope) (N Nb : List Str) (ix : List (Option Nat)) : Bool :=
  decide (scope.kind = .function) && scope.names.all (fun y => decide (y.2 ≠ .cell)) &&
  scope.names.all (fun y => decide (y.2 = .local → scope.names.lookup y.1 = some .local)) &&
  scope.names.all (fun y => decide (y.2 = .free → osc.names.lookup y.1 = some .cell ∨ osc.names.lookup y.1 = some .free)) &&
  decide (ix.length = Nb.length) &&
  (List.range Nb.length).all (fun i => match ix[i]? with
    | some (some j) => match Nb[i]? with
      | some x => decide (N[j]? = some x ∧ scope.names.lookup x = some .free)
      | none => true
    | _ => true)
structure CompOk (osc scope : Scope) (N Nb : List Str) (ix : List (Option Nat)) : Prop where
  kind : scope.kind = .function
  nocell : ∀ y ∈ scope.names, y.2 ≠ .cell
  names : ∀ y ∈ scope.names, y.2 = .local → scope.names.lookup y.1 = some .local
  fr : ∀ y ∈ scope.names, y.2 = .free → osc.names.lookup y.1 = some .cell ∨ osc.names.lookup y.1 = some .free
  len : ix.length = Nb.length
  src : ∀ (i j : Nat) (x : Str), Nb[i]? = some x → ix[i]? = some (some j) → N[j]? = some x ∧ scope.names.lookup x = some .free
theorem compOk_of {osc scope : Scope} {N Nb : List Str} {ix : List (Option Nat)} (h : compOk osc scope N Nb ix = true) : CompOk osc scope N Nb ix := by
  unfold compOk at h
  simp only [Bool.and_eq_true] at h
  obtain ⟨⟨⟨⟨⟨h1, h2⟩, h3⟩, h4⟩, h5⟩, h6⟩ := h
  refine ⟨of_decide_eq_true h1, fun y hy => of_decide_eq_true (List.all_eq_true.mp h2 y hy), fun y hy => of_decide_eq_true (List.all_eq_true.mp h3 y hy), fun y hy => of_decide_eq_true (List.all_eq_true.mp h4 y hy), of_decide_eq_true h5, fun i j x e1 e2 => ?_⟩
  have hi : i < Nb.length := (List.getElem?_eq_some_iff.mp e1).1
  have q := List.all_eq_true.mp h6 i (List.mem_range.mpr hi)
  rw [e2] at q
  simp only [e1] at q
  exact of_decide_eq_true q
def PIfs (X : Cx) (ifs : List Expr) (t : TT) : Prop :=
  ∀ (pins : List (Addr × Obj)) (s : Shared) (σ : St) (H : Hp) (Q : Bool → Hp → Prop), Inv X pins σ H s → t σ H Q →
    wpAny (model X.prog X.w) X.A (forIn ifs true fun c r => if r = true then do let ok ← isTrue c X.env (eval c X.env); pure (ForInStep.yield ok) else pure (ForInStep.yield r)) (TP X pins σ Q) X.xe s
def tTrue : TT := fun _ H Q => Q true H
theorem pifs_nil {X : Cx} : PIfs X [] tTrue := fun _ _ _ H _ I h => wpAny_tests_nil ⟨H, I, h⟩
theorem pifs_one {X : Cx} {c : Expr} {t : TT} (h : PT X c t) : PIfs X [c] t := fun pins s σ H Q I hq => wpAny_tests_one (h pins s σ H Q I hq)
def CompRun (J : It) (g : TG) (tc : TT) (te : TE) (σ0 : St) (H1 : Hp) (Q : VK) : Prop := ∀ D, H1 D = none →
  ∃ W : Nat → Nat → List V → St → Hp → Prop, (∃ m, W 0 m [] σ0 (upd H1 D (.lst []))) ∧
    ∀ i m ys σ' H', W i m ys σ' H' → H' D = some (.lst ys) ∧ ((J.stop i H' ∧ Q (.ref D) H') ∨ (J.go i H' ∧ ∀ x H2, J.yld i H' x H2 → g x σ' H2 fun σ2 H3 => tc σ2 H3 fun b H4 =>
      if b = true then te σ2 H4 fun y H5 => H5 D = some (.lst ys) ∧ ys.length < sizeLine ∧ ∃ m', m' < m ∧ W (i + 1) m' (ys ++ [y]) σ2 (upd H5 D (.lst (ys ++ [y])))
      else ∃ m', m' < m ∧ W (i + 1) m' ys σ2 H4))
def tComp (wi : TI) (g : TG) (tc : TT) (te : TE) (ix : List (Option Nat)) : TE := fun σ H Q => wi σ H fun J H1 => CompRun J g tc te (ix.map (pick σ)) H1 Q
section
variable {X : Cx} {N' : List Str} {scope osc : Scope} {cl : List (Str × Addr)} {C : Addr} {ex : List Addr} {ix : List (Option Nat)} {pins : List (Addr × Obj)} {σ : St} {H2 : Hp} {s2 : Shared}
theorem comp_ok (I2 : Inv X pins σ H2 s2) (K : CompOk X.env.scope scope X.N N' ix) (e2 : ∀ x c, cl.lookup x = some c → X.env.cells.lookup x = some c) (e3 : ∀ x, (x, NameKind.free) ∈ scope.names → ∃ c, cl.lookup x = some c)
    (hC : s2.heap.objs.size ≤ C) (f2 : ∀ b ∈ ex, FpOk X pins H2 b) (hex : ∀ b ∈ ex, b < s2.heap.objs.size) : (X.comp N' scope cl C s2 H2 ex).Ok where
  mod := I2.ok.mod
  kind := K.kind
  glob := I2.ok.glob
  blt := I2.ok.blt
  above := hC
  inj := fun x y c h1 h2 => I2.ok.inj x y c (e2 x c h1) (e2 y c h2)
  has := fun x hx => by
    have key : ∀ k, (relabel scope X.env).names.lookup x = some k → k = .cell ∨ k = .free → ∃ c, cl.lookup x = some c := fun k hk hk2 => by
      obtain ⟨k', h1, h2⟩ := relabel_lookup hk
      have hm := PySem.mem_of_lookup h1
      rcases h2 with rfl | ⟨rfl, rfl⟩
      · rcases hk2 with rfl | rfl
        · exact absurd rfl (K.nocell _ hm)
        · exact e3 x hm
      · exact e3 x hm
    rcases hx with hx | hx
    · exact key _ hx (.inl rfl)
    · exact key _ hx (.inr rfl)
  cab := fun x c h => by cases h
  hd := I2.ok.hd
  frames := I2.ok.frames
  stk := .inl rfl
  exf := fun b hb => ⟨Nat.ne_of_lt (Nat.lt_of_lt_of_le (hex b hb) hC), fun x c h => (f2 b hb).2.2.2.2.1 x c (e2 x c h)⟩
  bs := I2.bs
  bsz := Nat.le_trans I2.ok.bsz I2.sz
  noex := fun b o e hb => by
    rcases (f2 b hb).2.2.2.1 with z | z
    · exact I2.ok.noex b o e z
    · exact absurd (Nat.lt_of_lt_of_le (Heap.lt_size (I2.ok.bs b o e).1) z) (Nat.lt_irrefl _)
  exfs := fun b hb hf => by
    rcases List.mem_cons.mp (I2.stkSub b hf) with z | z
    · exact (f2 b hb).2.1 z
    · exact (f2 b hb).2.2.1 z
  funs := I2.stack
  frf := I2.stkFree
theorem comp_out (I2 : Inv X pins σ H2 s2) (f2 : ∀ b ∈ ex, FpOk X pins H2 b) (hC : s2.heap.objs.size ≤ C) {σ3 : St} {H3 : Hp} {s4 : Shared} {h' : Heap}
    (J : Inv (X.comp N' scope cl C s2 H2 ex) [] σ3 H3 s4) (sb : Heap.SameBut C s4.heap h') : Inv X pins σ H3 { s4 with heap := h' } := by
  have ne : ∀ b o, s2.heap.get? b = some o → b ≠ C := fun b o e => Nat.ne_of_lt (Nat.lt_of_lt_of_le (Heap.lt_size e) hC)
  have B := J.base
  have fr : H3 C = none := J.free
  refine I2.call' (s' := { s4 with heap := h' }) (ch := ex) J.os ⟨fun b o e n hb hx => ?_, fun b o e n hb hx => ?_, B.free, fun b o e hx => ?_, B.tups, B.frzs, B.tbls⟩ ?_ J.bare fun b hb => ?_
  · exact (sb.2 b (ne b o e)).trans (B.keep b o e n hb hx)
  · obtain ⟨sl, q⟩ := B.slot b o e n hb hx
    exact ⟨sl, (sb.2 b (ne b o e)).trans q⟩
  · obtain ⟨o', q⟩ := B.there b o e hx
    exact ⟨o', (sb.2 b (ne b o e)).trans q⟩
  · intro b ob e
    refine (J.hok b ob e).stay (fun c w' hc q => (sb.2 c ?_).trans q) (fun _ q => q) fun _ _ q => q
    rintro rfl
    rcases hc with rfl | hc
    · rw [fr] at e; cases e
    · rw [fr] at hc; cases hc
  · obtain ⟨_, f1, _, f3, f4, f5⟩ := f2 b hb
    exact ⟨f3, f1, f4, f5⟩
end
theorem comp_block {X : Cx} {tg iter elt : Expr} {ifs : List Expr} {scope : Scope} {pos : Pos} {g : TG} {tc : TT} {te : TE} {N' : List Str} {ix : List (Option Nat)} {pins : List (Addr × Obj)} {σ : St} {s2 : Shared} {itv : Value} {Q : VK} {cl : List (Str × Addr)}
    {RR : Value → Addr → Result → Shared → Prop} (hc : X.calm = true) (K : CompOk X.env.scope scope X.N N' ix) (e2 : ∀ x c, cl.lookup x = some c → X.env.cells.lookup x = some c) (e3 : ∀ x, (x, NameKind.free) ∈ scope.names → ∃ c, cl.lookup x = some c)
    (hg : ∀ cl C s2 H2 ex, PG (X.comp N' scope cl C s2 H2 ex) tg g) (ht : ∀ cl C s2 H2 ex, PIfs (X.comp N' scope cl C s2 H2 ex) ifs tc) (he : ∀ cl C s2 H2 ex, PE (X.comp N' scope cl C s2 H2 ex) elt te)
    (h2 : PIE X pins σ tg (fun J H1 => CompRun J g tc te (ix.map (pick σ)) H1 Q) itv s2)
    (hRR : ∀ H2 fp C D σ3 H3 s4, Inv X pins σ H2 s2 → (∀ b ∈ fp, FpOk X pins H2 b) → s2.heap.objs.size ≤ C → Inv (X.comp N' scope cl C s2 H2 fp) [] σ3 H3 s4 → Q (.ref D) H3 → RR (.ref D) C (.ok .next) s4) :
    wpAny (model X.prog X.w) X.A (newList []) (fun acc s₃ => wpAny (model X.prog X.w) X.A (newFunctionEnv scope X.env.globals cl [] X.env.qual none .none (some X.env)) (fun cenv s₄ =>
      codeAny (model X.prog X.w) X.A (.compStart (.ListComp elt [⟨tg, iter, ifs, 0⟩] scope pos) 0 itv acc { cenv with scope := relabel scope X.env }) (RR acc cenv.locals) s₄) X.xe s₃) X.xe s2 := by
  obtain ⟨it, fp, tn, J, H2, rfl, I2, T, st2, f2, q⟩ := h2
  refine wpAny_newObj_type (wpAny_newFunctionEnv K.nocell (by intro y hy; simp at hy) (fun h1 hns1 hsb1 => ?_) K.kind)
  dsimp only at hns1 hsb1 ⊢
  generalize hP : s2.heap.push { cls := .type "list", dict := none, data := .seq ([] : List Value).toArray } = P2 at hns1 hsb1 ⊢
  have hCs : P2.objs.size = s2.heap.objs.size + 1 := by rw [← hP, Heap.size_push]
  have hC : s2.heap.objs.size ≤ P2.objs.size := by omega
  have hDC : s2.heap.objs.size ≠ P2.objs.size := by omega
  have old : ∀ b o, s2.heap.get? b = some o → h1.get? b = some o := fun b o e =>
    hsb1.extBut b o (Nat.ne_of_lt (Nat.lt_of_lt_of_le (Heap.lt_size e) hC)) (Heap.get?_push_of_some _ (hP ▸ Heap.get?_push_of_some _ e))
  have hacc : h1.get? s2.heap.objs.size = some { cls := .type "list", dict := none, data := .seq ([] : List Value).toArray } :=
    hsb1.extBut _ _ hDC (Heap.get?_push_of_some _ (hP ▸ Heap.get?_push_size _ rfl))
  have hD : H2 s2.heap.objs.size = none := I2.hok.fresh (Nat.le_refl _)
  have hCn : H2 P2.objs.size = none := I2.hok.fresh hC
  obtain ⟨W, ⟨m0, w0⟩, turn⟩ := q s2.heap.objs.size hD
  have hex : ∀ b ∈ fp, b < s2.heap.objs.size := fun b hb => by
    obtain ⟨o, e, _⟩ := T.obj 0 _ st2 b hb
    exact Heap.lt_size e
  have YOk := comp_ok (cl := cl) (C := P2.objs.size) (ex := fp) I2 K e2 e3 hC f2 hex
  have hok1 : HOk X.prog X.w (upd H2 s2.heap.objs.size (.lst [])) h1 := I2.hok.laid old (Nat.le_refl _) ⟨Nat.zero_le _, [], 0, .nil, hacc⟩
  have IY : Inv (X.comp N' scope cl P2.objs.size s2 H2 fp) [] (ix.map (pick σ)) (upd H2 s2.heap.objs.size (.lst [])) { s2 with heap := h1, toks := s2.toks + ([] : List (Str × Value)).length } := by
    refine ⟨YOk, rfl, I2.bare, ?_, ⟨_, hns1, fun i x v e1 e4 e5 => ?_⟩, fun x c e => ?_, ?_, fun x c e => ?_, fun p hp => absurd (show p ∈ ([] : List (Addr × Obj)) from hp) (by simp), hok1, ?_⟩
    · exact (Un.laid old (Nat.le_refl _) hD).mono (fun _ z => z) (fun _ z => z)
    · rw [List.getElem?_map] at e4
      cases e6 : ix[i]? with
      | none => rw [e6] at e4; cases e4
      | some o =>
        rw [e6] at e4
        cases o with
        | none => cases (Option.some.inj e4)
        | some j =>
          have e7 : σ[j]? = some (some v) := pick_some (Option.some.inj e4)
          obtain ⟨n1, n2⟩ := K.src i j x e1 e6
          have hm := PySem.mem_of_lookup n2
          have kx := K.fr _ hm rfl
          obtain ⟨m, hn, hl⟩ := I2.loc
          obtain ⟨u, r, l⟩ := hl j x v n1 e7 (kx.elim (fun z => .inr (.inl z)) fun z => .inr (.inr z))
          refine ⟨u, r, .inr ⟨?_, ?_⟩⟩
          · exact relabel_free n2
          · rcases l with ⟨k1, _⟩ | ⟨_, c, hc1, hc2⟩
            · exfalso
              have k1' : X.env.scope.names.lookup x = some .local := k1
              rcases kx with z | z
              · rw [k1'] at z; cases z
              · rw [k1'] at z; cases z
            · obtain ⟨c', hc'⟩ := e3 x hm
              have e8 := e2 x c' hc'
              rw [hc1] at e8
              cases e8
              obtain ⟨o, ho, hd⟩ := hc2
              exact ⟨c, hc', o, old _ _ ho, hd⟩
    · obtain ⟨v, o, ho, hd⟩ := I2.cell x c (e2 x c e)
      exact ⟨v, o, old _ _ ho, hd⟩
    · show upd H2 s2.heap.objs.size (.lst []) P2.objs.size = none
      rw [upd_ne (Ne.symm hDC)]
      exact hCn
    · obtain ⟨v, z⟩ := I2.cell x c (e2 x c e)
      rw [upd_ne (Nat.ne_of_lt z.lt)]
      exact I2.freeC x c (e2 x c e)
    · rw [List.length_map]
      exact K.len
  have hnf : ∀ b ∈ fp, b ≠ P2.objs.size := fun b hb => Nat.ne_of_lt (Nat.lt_of_lt_of_le (hex b hb) hC)
  have stat : ∀ {H' : Hp}, (∀ b ∈ fp, H' b = none) → ∀ b ∈ fp, FpOk (X.comp N' scope cl P2.objs.size s2 H2 fp) [] H' b := fun hn b hb =>
    ⟨hn b hb, hnf b hb, YOk.exfs b hb, .inl hb, fun x c e => (f2 b hb).2.2.2.2.1 x c (e2 x c e), fun p hp => absurd (show p ∈ ([] : List (Addr × Obj)) from hp) (by simp)⟩
  have loop : ∀ s₃ : Shared, s₃ = { s2 with heap := h1, toks := s2.toks + ([] : List (Str × Value)).length } →
      codeAny (model X.prog X.w) X.A (.compLoop (.ListComp elt [⟨tg, iter, ifs, 0⟩] scope pos) 0 (.ref it) (.ref s2.heap.objs.size) (compEnvC scope cl P2.objs.size X.env))
        (RR (.ref s2.heap.objs.size) P2.objs.size) s₃ := by
    rintro s₃ rfl
    refine compLoop_any (fun n s' => ∃ i ys σ' H', Inv (X.comp N' scope cl P2.objs.size s2 H2 fp) [] σ' H' s' ∧ tn i s'.heap ∧ (∀ b ∈ fp, H' b = none) ∧ W i n ys σ' H') ?_ m0
      ⟨0, [], _, _, IY, T.keep _ _ _ st2 (fun b hb o e => old b o e), fun b hb => ?_, w0⟩
    · rintro n s3 ⟨i, ys, σ3, H3, I3, st3, fr3, w3⟩
      obtain ⟨hDl, tt⟩ := turn i n ys σ3 H3 w3
      rcases tt with ⟨stop, qn⟩ | ⟨go, step⟩
      · refine thn (T.done (X.comp N' scope cl P2.objs.size s2 H2 fp) rfl rfl rfl hc i [] s3 σ3 H3 (fun _ _ => False) I3 (stat fr3) st3 stop) fun r s4 ⟨hr, I4⟩ => ?_
        subst hr
        exact hRR H2 fp P2.objs.size s2.heap.objs.size σ3 H3 s4 I2 f2 hC I4 qn
      · refine thn (T.item (X.comp N' scope cl P2.objs.size s2 H2 fp) rfl rfl rfl hc i [] s3 σ3 H3 (fun _ _ => False) I3 (stat fr3) st3 go) fun r s4 ⟨u, hr, h4⟩ => ?_
        subst hr
        refine thn h4 fun _ s5 ⟨x, H5, I5, r5, y5, st5, fr5⟩ => ?_
        have I5' := I5.pinned (stat fr5) (T.obj _ _ st5)
        refine thn (hg cl P2.objs.size s2 H2 fp _ s5 σ3 H5 x u _ I5' r5 (step x H5 y5)) fun _ s6 ⟨σ6, H6, I6, q6⟩ => ?_
        refine thn (ht cl P2.objs.size s2 H2 fp _ s6 σ6 H6 _ I6 q6) fun b s7 ⟨H7, I7, q7⟩ => ?_
        have again : ∀ {s8 : Shared} {H8 : Hp} {ys' : List V} {m' : Nat}, Inv (X.comp N' scope cl P2.objs.size s2 H2 fp) ([] ++ pinsAt fp s5.heap) σ6 H8 s8 → m' < n → W (i + 1) m' ys' σ6 H8 →
            ∃ m, m < n ∧ ∃ i ys σ' H', Inv (X.comp N' scope cl P2.objs.size s2 H2 fp) [] σ' H' s8 ∧ tn i s8.heap ∧ (∀ b ∈ fp, H' b = none) ∧ W i m ys σ' H' := fun {s8 H8 ys' m'} I8 hm w8 => by
          refine ⟨m', hm, i + 1, ys', σ6, H8, I8.unpinned, T.keep _ _ _ st5 fun b hb o e => (I8.pin (b, o) (List.mem_append_right _ (List.mem_append_right _ (mem_pinsAt hb e)))).1, fun b hb => ?_, w8⟩
          obtain ⟨o, e, d⟩ := T.obj _ _ st5 b hb
          exact (I8.pin (b, o) (List.mem_append_right _ (List.mem_append_right _ (mem_pinsAt hb e)))).2.1
        cases b with
        | false =>
          obtain ⟨m', hm, w7⟩ : ∃ m', m' < n ∧ W (i + 1) m' ys σ6 H7 := q7
          exact again I7 hm w7
        | true =>
          have q7' : te σ6 H7 _ := q7
          show wpAny _ _ (eval elt (compEnvC scope cl P2.objs.size X.env)) _ _ _
          refine thn (he cl P2.objs.size s2 H2 fp _ s7 σ6 H7 _ I7 q7') fun yv s8 ⟨y, H8, I8, r8, hD8, hz8, m', hm, w8⟩ => ?_
          refine thn (mt_append (X := X.comp N' scope cl P2.objs.size s2 H2 fp) _ s8 σ6 H8 (.ref s2.heap.objs.size) [y] (.ref s2.heap.objs.size) [yv] (fun _ H9 => H9 = upd H8 s2.heap.objs.size (.lst (ys ++ [y]))) I8 rfl (.cons r8 .nil)
            ⟨_, ys, y, rfl, rfl, hD8, hz8, rfl⟩) fun _ s9 ⟨_, H9, I9, _, e9⟩ => ?_
          subst e9
          exact again I9 hm w8
    · show upd H2 s2.heap.objs.size (.lst []) b = none
      rw [upd_ne (Nat.ne_of_lt (hex b hb))]
      exact (f2 b hb).1
  exact codeAny_compStart_list (loop _ rfl) (T.self X.A 0 _ _ _ (T.keep _ _ _ st2 (fun b hb o e => old b o e)) (loop _ rfl))
theorem pe_comp {X : Cx} {tg iter elt : Expr} {ifs : List Expr} {scope : Scope} {pos : Pos} {wi : TI} {g : TG} {tc : TT} {te : TE} (N' : List Str) (ix : List (Option Nat)) (osc : Scope) (N : List Str)
    (hc : X.calm = true) (hi : PI X tg iter wi) (ok : compOk osc scope N N' ix = true)
    (hg : ∀ cl C s2 H2 ex, PG (X.comp N' scope cl C s2 H2 ex) tg g) (ht : ∀ cl C s2 H2 ex, PIfs (X.comp N' scope cl C s2 H2 ex) ifs tc) (he : ∀ cl C s2 H2 ex, PE (X.comp N' scope cl C s2 H2 ex) elt te)
    (hsc : X.env.scope = osc := by rfl) (hN : X.N = N := by rfl) (hs : ∀ x, foldedSetIterable iter X.env x = pure x := by intro _; rfl) : PE X (.ListComp elt [⟨tg, iter, ifs, 0⟩] scope pos) (tComp wi g tc te ix) := by
  intro pins s σ H Q I h
  have K0 := compOk_of ok
  have K : CompOk X.env.scope scope X.N N' ix := by rw [hsc, hN]; exact K0
  obtain ⟨cl, hclos, e2, e3⟩ := closure_of (scope := scope) (env := X.env) (fun y hy hf => I.ok.has y.1 (K.fr y hy hf))
  rw [eval_ListComp]
  refine wpAny_comprehension_free (use := none) rfl hs hclos K.kind K.names (wpAny_mono (hi pins s σ H _ I h) (fun v s1 h1 => thn h1 fun itv s2 h2 => ?_) fun _ _ e => e)
  refine comp_block hc K e2 e3 hg ht he h2 fun H2 fp C D σ3 H3 s4 I2 f2 hC I4 qn => ?_
  obtain ⟨m, hn, _⟩ := I4.loc
  exact ⟨m, hn, fun h' sb => ⟨.ref D, H3, comp_out I2 f2 hC I4 sb, rfl, qn⟩⟩
theorem ps_setC {X : Cx} {tg iter elt : Expr} {ifs : List Expr} {scope : Scope} {pos spos py : Pos} {y : Str} {wi : TI} {g : TG} {tc : TT} {te : TE} (N' : List Str) (ix : List (Option Nat)) (osc : Scope) (N : List Str) {i : Nat} (nd : X.N.Nodup) (hiy : X.N[i]? = some y) (hxy : Loc X.env.scope y)
    (hc : X.calm = true) (hi : PI X tg iter wi) (ok : compOk osc scope N N' ix = true)
    (hg : ∀ cl C s2 H2 ex, PG (X.comp N' scope cl C s2 H2 ex) tg g) (ht : ∀ cl C s2 H2 ex, PIfs (X.comp N' scope cl C s2 H2 ex) ifs tc) (he : ∀ cl C s2 H2 ex, PE (X.comp N' scope cl C s2 H2 ex) elt te)
    (hsc : X.env.scope = osc := by rfl) (hN : X.N = N := by rfl) (hs : ∀ x, foldedSetIterable iter X.env x = pure x := by intro _; rfl)
    (hsw : swapsWith (.ListComp elt [⟨tg, iter, ifs, 0⟩] scope pos) (some (.Name y py)) spos.line X.env = pure true := by rfl) (hf : X.fn y = true ∨ X.env.scope.names.lookup y = some .local := by first | exact .inl rfl | exact .inr rfl | assumption) :
    PS X (.Assign [.Name y py] (.ListComp elt [⟨tg, iter, ifs, 0⟩] scope pos) spos) (tAsg (tComp wi g tc te ix) (gName i)) := by
  intro pins s σ H D I h
  have K0 := compOk_of ok
  have K : CompOk X.env.scope scope X.N N' ix := by rw [hsc, hN]; exact K0
  obtain ⟨cl, hclos, e2, e3⟩ := closure_of (scope := scope) (env := X.env) (fun y hy hf => I.ok.has y.1 (K.fr y hy hf))
  rw [exec_Assign_Name_used _ _ _ _ hsw]
  refine wpAny_bind (wpAny_standAt (wpAny_bind ?_))
  show wpAny _ X.A (do let _ ← comprehension (.ListComp elt [⟨tg, iter, ifs, 0⟩] scope pos) scope X.env _ (newList []) false (eval iter X.env) (some (assign (.Name y py) X.env))) _ _ s
  refine wpAny_bind (wpAny_mono (wpAny_comprehension_free (use := some (assign (.Name y py) X.env)) (Q := fun _ s' => SP X pins D .next s') rfl hs hclos K.kind K.names
    (wpAny_mono (hi pins s σ H _ I h) (fun v s1 h1 => thn h1 fun itv s2 h2 => ?_) fun _ _ e => e)) (fun _ s' hq => wpAny_pure (wpAny_pure hq)) fun _ _ e => e)
  refine comp_block hc K e2 e3 hg ht he h2 fun H2 fp C L σ3 H3 s4 I2 f2 hC I4 qn => ?_
  have I5 : Inv X pins σ H3 s4 := comp_out I2 f2 hC I4 (Heap.SameBut.refl ..)
  obtain ⟨m, hn, _⟩ := I4.loc
  have hn : s4.heap.Ns C m := hn
  have fC : FpOk X pins H3 C := I2.fpOk hC I4.free
  show wpAny _ X.A (assign (.Name y py) X.env (.ref L)) _ _ s4
  refine wpAny_assign_Name (store_ok2 I5 nd hiy hxy (v := .ref L) rfl (fun s5 I6 hch => ?_) hf)
  obtain ⟨a, sb, ha⟩ := hch
  have nCa : C ≠ a := by
    rcases ha with rfl | ha
    · exact fC.2.1
    · exact fun z => fC.2.2.2.2.1 y a ha z.symm
  refine ⟨m, hn.sameBut sb nCa, fun h' sb' => ⟨_, H3, ?_, qn⟩⟩
  obtain ⟨f0, f1, f2', f3, f4, f5⟩ := fC
  exact I6.turned (t' := s5.toks) (fun b o hb e => (sb'.2 b hb).trans e) f0 f1 f3 f4 f5
end L2
set_option Elab.async false
set_option linter.all false
set_option maxRecDepth 100000
set_option maxHeartbeats 4000000
namespace L2
open PySem PySem.Spec PyProof.Rows
section
variable {X : Cx}
theorem bools_of : ∀ {bs : List Bool} {us : List Value}, Vals (bs.map V.bl) us → LSm.BoolsAre us bs
  | [], _, .nil => .nil
  | b :: bs, _, .cons r t => by
    cases r
    exact .cons b (bools_of t)
theorem call_all (hc : X.calm = true) : CallR X (.builtin "all") (fun xs H Q => ∃ (p : Addr) (bs : List Bool), xs = [.ref p] ∧ SqL X.K H p (bs.map V.bl) ∧ Q (.bl (bs.all id)) H) := by
  intro pins s σ H xs us Q I rv h
  obtain ⟨p, bs, rfl, hq, q⟩ := h
  obtain ⟨u, rfl, ru⟩ := rv.one
  cases ru
  obtain ⟨its, r, pl, hz⟩ := I.list hq
  have hb := bools_of r
  obtain ⟨m, F⟩ := I.fr
  have hl := pl.isList
  have hlt : p < s.heap.objs.size := by obtain ⟨_, e, _⟩ := hl; exact Heap.lt_size e
  have hh := I.ok.hd hc
  refine call_all_walk (wpAny_pyIter_list hl ?_)
  refine ⟨s.heap.objs.size, [s.heap.objs.size, p], [s.heap.objs.size], its.toArray.size, _, _, fun i => (bs[i]?).getD true, rfl, Walks.list (A := X.A.in1) hh _ p (Nat.ne_of_lt hlt) its.toArray,
    ⟨⟨_, Heap.get?_push_size _ rfl, rfl, rfl⟩, hl.push _⟩, fun i v s' Q' E' hP hQ => ?_, fun h' tk hk => ?_⟩
  · obtain ⟨b, e, rfl⟩ := hb.get i v (by simpa using hP)
    simp only [e, Option.getD_some] at hQ
    exact wpAny_truthy_bool hQ
  · have e : ((List.range its.toArray.size).all fun i => (bs[i]?).getD true) = bs.all id := by
      rw [List.size_toArray, hb.length]; exact LSm.range_all bs
    rw [e]
    exact ⟨.bl _, H, I.kept (LSm.kept_iter hk), rfl, q⟩
theorem call_isinst : CallR X (.builtin "isinstance") (fun xs H Q => ∃ x T t b, xs = [x, .ty T] ∧ TyOf X.K H x t ∧ PySem.W.kitOne X.K t (.type T) = some b ∧ Q (.bl b) H) := by
  intro pins s σ H xs us Q I rv h
  obtain ⟨x, T, t, b, rfl, ty, e, q⟩ := h
  obtain ⟨u, v, rfl, ru, rv⟩ := rv.two
  cases rv
  exact isinst_ok I ru ty e fun tk => ⟨.bl b, H, I.tok tk, rfl, q⟩
theorem ints_of : ∀ {ns : List Int} {us : List Value}, Vals (ns.map V.int) us → IntsAre us ns
  | [], _, .nil => .nil
  | b :: bs, _, .cons r t => by
    obtain ⟨tk, rfl⟩ := r
    exact .cons _ _ (ints_of t)
end
mutual
inductive RdD (K : PySem.W.Frag) (H : Hp) : V → PyData → Prop
  | non : RdD K H .non .none
  | bl (b : Bool) : RdD K H (.bl b) (.bool b)
  | int (i : Int) : RdD K H (.int i) (.int i)
  | str (x : Str) : RdD K H (.str x) (.str x)
  | lst {a : Addr} {xs : List V} {ds : List PyData} : SqL K H a xs → RdAll K H xs ds → RdD K H (.ref a) (.list ds)
  | tup {a : Addr} {xs : List V} {ds : List PyData} : SqT K H a xs → RdAll K H xs ds → RdD K H (.ref a) (.tuple ds)
inductive RdAll (K : PySem.W.Frag) (H : Hp) : List V → List PyData → Prop
  | nil : RdAll K H [] []
  | cons {x : V} {d : PyData} {xs : List V} {ds : List PyData} : RdD K H x d → RdAll K H xs ds → RdAll K H (x :: xs) (d :: ds)
end
section
variable {X : Cx} {pins : List (Addr × Obj)} {σ : St} {H : Hp} {s : Shared}
mutual
theorem Inv.reads (I : Inv X pins σ H s) : ∀ {x : V} {d : PyData} {u : Value}, RdD X.K H x d → RelV x u → ∃ as, Reads s.heap u d as
  | _, _, _, .non, r => by cases r; exact ⟨_, .none⟩
  | _, _, _, .bl b, r => by cases r; exact ⟨_, .bool b⟩
  | _, _, _, .int i, r => by obtain ⟨t, rfl⟩ := r; exact ⟨_, .int i t⟩
  | _, _, _, .str x, r => by obtain ⟨t, rfl⟩ := r; exact ⟨_, .str x t⟩
  | _, _, _, .lst hq ha, r => by
    cases r
    obtain ⟨its, rv, ⟨o, n, e, c, dd, dt⟩, _⟩ := I.list hq
    obtain ⟨as, q⟩ := Inv.readsAll I ha rv
    exact ⟨_, .list e c dt (by simpa using q)⟩
  | _, _, _, .tup hq ha, r => by
    cases r
    obtain ⟨its, rv, ⟨o, e, c, n, dt⟩, _⟩ := I.tuple hq
    obtain ⟨as, q⟩ := Inv.readsAll I ha rv
    exact ⟨_, .tuple e c dt (by simpa using q)⟩
theorem Inv.readsAll (I : Inv X pins σ H s) : ∀ {xs : List V} {ds : List PyData} {us : List Value}, RdAll X.K H xs ds → Vals xs us → ∃ as, ReadsAll s.heap us ds as
  | _, _, _, .nil, .nil => ⟨_, .nil⟩
  | _, _, _, .cons h t, .cons r rr => by
    obtain ⟨as, q⟩ := Inv.reads I h r
    obtain ⟨bs, p⟩ := Inv.readsAll I t rr
    exact ⟨_, .cons q p⟩
end
def rEqD (K : PySem.W.Frag) (neg : Bool) : R2 := fun x y H Q => ∃ dx dy, RdD K H x dx ∧ RdD K H y dy ∧ SeqAt.shaped dx = true ∧ SeqAt.shaped dy = true ∧ Q (.bl (if neg then !PyData.eqv dx dy else PyData.eqv dx dy)) H
theorem op_eqD (hu : X.A.units + 64 < cLine) : OpR X (compareOp .Eq) (rEqD X.K false) := by
  intro pins s σ H x y v u Q I rx ry h
  obtain ⟨dx, dy, h1, h2, s1, s2, q⟩ := h
  obtain ⟨as, r1⟩ := I.reads h1 rx
  obtain ⟨bs, r2⟩ := I.reads h2 ry
  exact eq_dataH r1 r2 s1 s2 hu ⟨.bl _, H, I, rfl, q⟩
theorem op_neD (hu : X.A.units + 64 < cLine) : OpR X (compareOp .NotEq) (rEqD X.K true) := by
  intro pins s σ H x y v u Q I rx ry h
  obtain ⟨dx, dy, h1, h2, s1, s2, q⟩ := h
  obtain ⟨as, r1⟩ := I.reads h1 rx
  obtain ⟨bs, r2⟩ := I.reads h2 ry
  exact ne_dataH r1 r2 s1 s2 hu ⟨.bl _, H, I, rfl, q⟩
end
end L2
set_option Elab.async false
set_option linter.all false
set_option maxRecDepth 100000
set_option maxHeartbeats 4000000
namespace L2
open PySem PySem.Spec PyProof.Rows
theorem Inv.tupNew {X : Cx} {pins : List (Addr × Obj)} {σ : St} {H : Hp} {s : Shared} {h' : Heap} {t' : Nat} {fp : List Addr} {T : Addr} {xs : List V} {its : List Value} {n : Nat} (I : Inv X pins σ H s) (hf : ∀ b ∈ fp, FpOk X pins H b)
    (hT : s.heap.objs.size ≤ T) (k : ∀ b o, b ∉ fp → s.heap.get? b = some o → h'.get? b = some o) (hz : xs.length ≤ sizeLine) (rv : Vals xs its) (e : h'.get? T = some { cls := .type "tuple", data := .seq its.toArray n })
    (tr : ∀ b ∈ fp, ∃ o, h'.get? b = some o) : Inv X pins σ (upd H T (.tup xs)) { s with heap := h', toks := t' } := by
  have hTn : H T = none := I.hok.fresh hT
  have nT : ∀ b o, s.heap.get? b = some o → b ≠ T := fun b o q => Nat.ne_of_lt (Nat.lt_of_lt_of_le (Heap.lt_size q) hT)
  have nfp : ∀ b o, H b = some o → b ∉ fp := fun b o q hb => by have := (hf b hb).1; rw [q] at this; cases this
  refine I.step (g' := s.gens) (d' := s.drawn) (ch := fp) (fun b hb => ?_) (fun b o _ _ hc q _ => k b o hc q) (fun b o _ _ hc q _ => ⟨o.slots, k b o hc q⟩) (fun b o _ q n => by rw [upd_ne (nT b o q)]; exact n)
    (fun b o hc q => ⟨o, k b o hc q⟩) (fun b ys q => by rw [upd_ne (ne_of_none q hTn)]; exact q) (fun b o u q => by rw [upd_ne (ne_of_none q hTn)]; exact q) (fun b ps q => ⟨#[], by rw [upd_ne (ne_of_none q hTn), q]; simp⟩) (fun m hm => ?_) (fun b u q => ?_) I.bare
  · obtain ⟨_, f1, _, f3, f4, f5⟩ := hf b hb
    exact ⟨f3, f1, f4, f5⟩
  · obtain ⟨o, es, ep, ho, r⟩ := hm
    exact ⟨o, es, ep, k _ o (fun z => (hf _ z).2.1 rfl) ho, r⟩
  · by_cases hb : b = T
    · subst hb
      rw [upd_same] at q
      cases q
      exact ⟨hz, its, rv, _, e, rfl, n, rfl⟩
    · rw [upd_ne hb] at q
      refine (I.hok b u q).stay (fun c v hc w => k c v ?_ w) (fun c w => by rw [upd_ne (ne_of_none w hTn)]; exact w) fun c ys w => by rw [upd_ne (ne_of_none w hTn)]; exact w
      rcases hc with rfl | hc
      · exact nfp _ _ q
      · exact nfp _ _ hc
end L2
set_option Elab.async false
set_option linter.all false
set_option maxRecDepth 100000
set_option maxHeartbeats 4000000
namespace L2
open PySem PySem.Spec PyProof.Rows
def Pu (te : TE) (σ : St) (H : Hp) (v : V) : Prop := ∀ (H' : Hp) (Q : VK), Same H H' → (∀ H'', Same H' H'' → Q v H'') → te σ H' Q
def PuT (tc : TT) (σ : St) (H : Hp) (b : Bool) : Prop := ∀ (H' : Hp) (Q : Bool → Hp → Prop), Same H H' → (∀ H'', Same H' H'' → Q b H'') → tc σ H' Q
theorem puT_true {σ : St} {H : Hp} : PuT tTrue σ H true := fun H' Q _ q => q H' (Same.refl _)
theorem Same.upd {H H' : Hp} {D : Addr} {o : HO} (e : Same H H') (hD : H D = none) : Same H (upd H' D o) := fun b u q => by
  rw [upd_ne (ne_of_none q hD)]
  exact e b u q
theorem Same.new {H : Hp} {D : Addr} {o : HO} (hD : H D = none) : Same H (L2.upd H D o) := (Same.refl H).upd hD
theorem Same.tup {K : PySem.W.Frag} {H H' : Hp} {a : Addr} {xs : List V} (e : Same H H') (h : SqT K H a xs) : SqT K H' a xs := by
  rcases h with (h | ⟨o, h⟩) | h
  · exact .inl (.inl (e _ _ h))
  · exact .inl (.inr ⟨o, e _ _ h⟩)
  · exact .inr h
theorem comp_by {J : It} {n : Nat} {σ0 : St} {H1 : Hp} {D : Addr} {tc : TT} {te : TE} {Q : VK} (Pv : Nat → List V → Hp → Prop) (h0 : Pv 0 [] (upd H1 D (.lst [])))
    (hl : ∀ i ys H', i ≤ n → Pv i ys H' → H' D = some (.lst ys)) (hgo : ∀ i ys H', i < n → Pv i ys H' → J.go i H') (hst : ∀ ys H', Pv n ys H' → J.stop n H')
    (step : ∀ i ys H' x H2, i < n → Pv i ys H' → J.yld i H' x H2 → tc (σ0.set 0 (some x)) H2 fun b H4 => if b = true then te (σ0.set 0 (some x)) H4 fun y H5 => H5 D = some (.lst ys) ∧ ys.length < sizeLine ∧ Pv (i + 1) (ys ++ [y]) (upd H5 D (.lst (ys ++ [y]))) else Pv (i + 1) ys H4)
    (fin : ∀ ys H', Pv n ys H' → Q (.ref D) H') :
    ∃ W : Nat → Nat → List V → St → Hp → Prop, (∃ m, W 0 m [] σ0 (upd H1 D (.lst []))) ∧
      ∀ i m ys σ' H', W i m ys σ' H' → H' D = some (.lst ys) ∧ ((J.stop i H' ∧ Q (.ref D) H') ∨ (J.go i H' ∧ ∀ x H2, J.yld i H' x H2 → gName 0 x σ' H2 fun σ2 H3 => tc σ2 H3 fun b H4 =>
        if b = true then te σ2 H4 fun y H5 => H5 D = some (.lst ys) ∧ ys.length < sizeLine ∧ ∃ m', m' < m ∧ W (i + 1) m' (ys ++ [y]) σ2 (upd H5 D (.lst (ys ++ [y])))
        else ∃ m', m' < m ∧ W (i + 1) m' ys σ2 H4)) := by
  refine ⟨fun i m ys σ' H' => m = n - i ∧ i ≤ n ∧ (∀ x, σ'.set 0 x = σ0.set 0 x) ∧ Pv i ys H', ⟨n, by simp, Nat.zero_le _, fun _ => rfl, h0⟩, ?_⟩
  rintro i m ys σ' H' ⟨rfl, hi, es, p⟩
  refine ⟨hl i ys H' hi p, ?_⟩
  by_cases hlt : i < n
  · refine .inr ⟨hgo i ys H' hlt p, fun x H2 y => ?_⟩
    have st := step i ys H' x H2 hlt p y
    show tc (σ'.set 0 (some x)) H2 _
    rw [es]
    have e1 : ∀ z, (σ0.set 0 (some x)).set 0 z = σ0.set 0 z := fun z => by rw [List.set_set]
    have e2 : ∀ ys' H5, (∃ m', m' < n - i ∧ m' = n - (i + 1) ∧ i + 1 ≤ n ∧ (∀ z, (σ0.set 0 (some x)).set 0 z = σ0.set 0 z) ∧ Pv (i + 1) ys' H5) ↔ Pv (i + 1) ys' H5 := fun ys' H5 =>
      ⟨fun ⟨_, _, _, _, _, q⟩ => q, fun q => ⟨n - (i + 1), by omega, rfl, hlt, e1, q⟩⟩
    simp only [e2]
    exact st
  · have e : i = n := by omega
    subst e
    exact .inl ⟨hst ys H' p, fin ys H' p⟩
theorem comp_of {α : Type} {K : PySem.W.Frag} {a : Addr} {ms : List α} {σ0 : St} {H1 : Hp} {tc : TT} {te : TE} {Q : VK} (u : α → V) (p : α → Bool) (f : α → V) (hq : SqL K H1 a (ms.map u)) (hn : ms.length ≤ sizeLine)
    (ht : ∀ x ∈ ms, PuT tc (σ0.set 0 (some (u x))) H1 (p x)) (he : ∀ x ∈ ms, p x = true → Pu te (σ0.set 0 (some (u x))) H1 (f x))
    (fin : ∀ D H', H1 D = none → Same H1 H' → H' D = some (.lst ((ms.filter p).map f)) → Q (.ref D) H') :
    CompRun (Itl K a) (gName 0) tc te σ0 H1 Q := by
  intro D hD
  refine comp_by (n := ms.length) (fun i ys H' => Same H1 H' ∧ H' D = some (.lst ys) ∧ ys = ((ms.take i).filter p).map f) ⟨Same.new hD, upd_same, by simp⟩ (fun i ys H' _ q => q.2.1) (fun i ys H' hi q => ⟨ms.map u, u ms[i], q.1.seq hq, by simp [hi]⟩)
    (fun ys H' q => ⟨ms.map u, q.1.seq hq, by simp⟩) ?_ (fun ys H' q => ?_)
  · rintro i ys H' x H2 hi ⟨sm, hDl, hys⟩ ⟨rfl, hy⟩
    have hx : (ms.map u)[i]? = some x := hy _ (sm.seq hq)
    obtain ⟨z, hz, rfl⟩ : ∃ z, ms[i]? = some z ∧ u z = x := by
      rw [List.getElem?_map] at hx
      cases e : ms[i]? with
      | none => rw [e] at hx; cases hx
      | some z => rw [e] at hx; exact ⟨z, rfl, Option.some.inj hx⟩
    have hm : z ∈ ms := List.mem_of_getElem? hz
    have tk : ms.take (i + 1) = ms.take i ++ [z] := by
      rw [List.take_add_one, hz]
      simp only [Option.toList]
    have hlen : ys.length ≤ i := by
      rw [hys, List.length_map]
      exact Nat.le_trans (List.length_filter_le _ _) (by rw [List.length_take]; omega)
    refine ht z hm _ _ sm fun H4 s4 => ?_
    cases hp : p z with
    | true =>
      refine iteT ?_
      refine he z hm hp _ _ (sm.trans s4) fun H5 s5 => ⟨s5 _ _ (s4 _ _ hDl), by omega, ((sm.trans s4).trans s5).upd hD, upd_same, ?_⟩
      rw [tk, List.filter_append, List.map_append, ← hys]
      simp [hp]
    | false =>
      refine iteF ⟨sm.trans s4, s4 _ _ hDl, ?_⟩
      rw [tk, List.filter_append, List.map_append, ← hys]
      simp [hp]
  · obtain ⟨sm, hDl, hys⟩ := q
    rw [List.take_length] at hys
    exact fin D H' hD sm (by rw [← hys]; exact hDl)
theorem comp_map {α : Type} {K : PySem.W.Frag} {a : Addr} {ms : List α} {σ0 : St} {H1 : Hp} {te : TE} {Q : VK} (u : α → V) (f : α → V) (hq : SqL K H1 a (ms.map u)) (hn : ms.length ≤ sizeLine)
    (he : ∀ x ∈ ms, Pu te (σ0.set 0 (some (u x))) H1 (f x))
    (fin : ∀ D H', H1 D = none → Same H1 H' → H' D = some (.lst (ms.map f)) → Q (.ref D) H') :
    CompRun (Itl K a) (gName 0) tTrue te σ0 H1 Q :=
  comp_of u (fun _ => true) f hq hn (fun _ _ => puT_true) (fun x hx _ => he x hx) fun D H' hD sm e => fin D H' hD sm (by rw [List.filter_eq_self.mpr (fun _ _ => rfl)] at e; exact e)
theorem comp_range {lo : Int} {n : Nat} {σ0 : St} {H1 : Hp} {te : TE} {Q : VK} (f : Nat → V) (hn : n ≤ sizeLine)
    (he : ∀ i, i < n → Pu te (σ0.set 0 (some (.int (lo + i)))) H1 (f i))
    (fin : ∀ D H', H1 D = none → Same H1 H' → H' D = some (.lst ((List.range n).map f)) → Q (.ref D) H') :
    CompRun (Itr lo n) (gName 0) tTrue te σ0 H1 Q := by
  intro D hD
  refine comp_by (n := n) (fun i ys H' => Same H1 H' ∧ H' D = some (.lst ys) ∧ ys = (List.range i).map f) ⟨Same.new hD, upd_same, by simp⟩ (fun i ys H' _ q => q.2.1) (fun i ys H' hi q => hi)
    (fun ys H' q => Nat.le_refl _) ?_ (fun ys H' q => ?_)
  · rintro i ys H' x H2 hi ⟨sm, hDl, hys⟩ ⟨rfl, rfl⟩
    unfold tTrue
    refine iteT ?_
    refine he i hi _ _ sm fun H5 s5 => ⟨s5 _ _ hDl, ?_, (sm.trans s5).upd hD, upd_same, ?_⟩
    · rw [hys, List.length_map, List.length_range]
      omega
    · rw [List.range_succ, List.map_append, ← hys]
      simp
  · obtain ⟨sm, hDl, hys⟩ := q
    exact fin D H' hD sm (by rw [← hys]; exact hDl)
def DefAt (K : PySem.W.Frag) (mg : Str → Option Value) (x : Str) (st : Stmt) (ps : List Str) : Prop := ∃ f fd, Fun K x x st f fd ∧ mg x = some (.ref f) ∧ Binds K fd ps []
def FnAt (P : Program) (w : World) (K : PySem.W.Frag) (mg : Str → Option Value) (base : Heap) (k : Nat) (x : Str) (ps : List Str) (sp : Sp) : Prop :=
  ∃ f fd, FnOk P w K mg base CX0 k f fd ps sp ∧ mg x = some (.ref f) ∧ PySem.W.keepIn K (.ref f) = true ∧ Binds K fd ps []
theorem FnAt.of {P : Program} {w : World} {K : PySem.W.Frag} {mg : Str → Option Value} {base : Heap} {k : Nat} {x : Str} {st : Stmt} {N ps : List Str} {sp : Sp} (D : DefAt K mg x st ps) (S : FnScope N ps (defScope st)) (len : ∀ vs H Q E, sp vs H Q E → vs.length = ps.length)
    (hbody : ∀ (f : Addr) (cdv : Value) (A : Around) (outer : List Env) (s : Shared) (H : Hp) (vs : List V) (Q : VK) (E : XK), Room k (A.deeper (envOfC x (defScope st) s.heap.objs.size f cdv)) → sp vs H Q E →
      ∃ t, PSs (cxOf CX0 P w K mg base N x (defScope st) f cdv A outer s H E).nox (defBody st) t ∧ t { nx := fun _ H' => Q .non H', rt := Q } (start N vs) H) : FnAt P w K mg base (k + 1) x ps sp := by
  obtain ⟨f, fd, F, hm, hb⟩ := D
  exact ⟨f, fd, F.ok S len fun cdv A outer s H vs Q E hr h => hbody f cdv A outer s H vs Q E hr h, hm, F.kp, hb⟩
def tF (sp : Sp) (t : TA) : TE := fun σ H Q => t σ H fun vs H1 => sp vs H1 Q E0
section
variable {X : Cx} {k : Nat} {x : Str} {ps : List Str} {sp : Sp} {e : Expr} {es : List Expr} {t : TA} {p pos : Pos}
theorem pe_f (F : FnAt X.prog X.w X.K X.mg X.base k x ps sp) (hr : Room k X.A) (ha : PA X (e :: es) t) (hg : Gl X x := by rfl) (hdb : (x == ("__debug__" : Str)) = false := by decide)
    (he : starEach (e :: es) X.env = (false, eval e X.env) :: starEach es X.env := by rfl) (hpl : (backTo pos (starEach es X.env)).any (·.1) = false := by rfl) : PE X (.Call (.Name x p) (e :: es) [] pos) (tF sp t) := by
  obtain ⟨f, fd, F, hm, hk, hb⟩ := F
  have q := pe_call (p := p) (pos := pos) F hr hg hm hk hb .nil (pass0 (X := X)) ha hdb he hpl
  have e : tCall sp [] E0 t = tF sp t := by
    unfold tCall tF
    simp only [List.append_nil]
  rw [e] at q
  exact q
theorem pe_b {id : String} {r : List V → Hp → VK → Prop} (hc : CallR X (.builtin id) r) (hm : X.mg x = none) (hv : bootBuiltins x = some (.builtin id)) (ha : PA X (e :: es) t) (hg : Gl X x := by rfl) (hn : x ≠ "__name__" := by decide) (hdb : (x == ("__debug__" : Str)) = false := by decide)
    (he : starEach (e :: es) X.env = (false, eval e X.env) :: starEach es X.env := by rfl) (hpl : (backTo pos (starEach es X.env)).any (·.1) = false := by rfl) : PE X (.Call (.Name x p) (e :: es) [] pos) (tCB r t) := pe_callB hc hg hm hv ha hn hdb he hpl
theorem pe_t {T : String} {r : List V → Hp → VK → Prop} (hc : CallR X (.type T) r) (hm : X.mg x = none) (hv : bootBuiltins x = some (.type T)) (ha : PA X (e :: es) t) (hg : Gl X x := by rfl) (hn : x ≠ "__name__" := by decide) (hdb : (x == ("__debug__" : Str)) = false := by decide)
    (he : starEach (e :: es) X.env = (false, eval e X.env) :: starEach es X.env := by rfl) (hpl : (backTo pos (starEach es X.env)).any (·.1) = false := by rfl) : PE X (.Call (.Name x p) (e :: es) [] pos) (tCB r t) := pe_callTy hc hg hm hv ha hn hdb he hpl
theorem pe_ty {T : String} {pos : Pos} (hm : X.mg x = none) (hv : bootBuiltins x = some (.type T)) (hg : Gl X x := by rfl) (hn : x ≠ "__name__" := by decide) (hd : (x == ("__debug__" : Str)) = false := by decide) : PE X (.Name x pos) (tC (.ty T)) :=
  pe_bltn hg hm hv rfl hn hd
theorem pg_c {N' : List Str} {scope : Scope} {cl : List (Str × Addr)} {C : Addr} {s2 : Shared} {H2 : Hp} {ex : List Addr} (i : Nat) {y : Str} (nd : N'.Nodup) (hi : N'[i]? = some y := by rfl) (hx : (relabel scope X.env).names.lookup y = some .local := by rfl) :
    PG (X.comp N' scope cl C s2 H2 ex) (.Name y pos) (gName i) := pg_name (X := X.comp N' scope cl C s2 H2 ex) nd hi (.inl hx) (.inr hx)
end
section
variable {X : Cx}
theorem ixL (K : PySem.W.Frag) (hK : X.K = K := by rfl) : IxR X (rIxL K) := by subst hK; exact ix_list
theorem lenK (K : PySem.W.Frag) (hK : X.K = K := by rfl) : CallR X (.builtin "len") (fun xs H Q => ∃ p ys, xs = [.ref p] ∧ (SqL K H p ys ∨ SqT K H p ys) ∧ Q (.int ys.length) H) := by subst hK; exact call_len_seq
theorem listK (K : PySem.W.Frag) (hK : X.K = K := by rfl) : CallR X (.type "list") (fun xs H Q => ∃ p ys, xs = [.ref p] ∧ (SqL K H p ys ∨ SqT K H p ys) ∧ ∀ l, H l = none → Q (.ref l) (upd H l (.lst ys))) := by subst hK; exact call_list_of
end
theorem kit_ii (K : PySem.W.Frag) : PySem.W.kitOne K (.type "int") (.type "int") = some true := by kernel_rfl
theorem kit_ib (K : PySem.W.Frag) : PySem.W.kitOne K (.type "int") (.type "bool") = some false := by kernel_rfl
theorem kit_ll (K : PySem.W.Frag) : PySem.W.kitOne K (.type "list") (.type "list") = some true := by kernel_rfl
theorem kit_tt (K : PySem.W.Frag) : PySem.W.kitOne K (.type "tuple") (.type "tuple") = some true := by kernel_rfl
end L2
set_option Elab.async false
set_option linter.all false
set_option maxRecDepth 100000
set_option maxHeartbeats 4000000
namespace L2
open PySem PySem.Spec PyProof.Rows
section
variable {X : Cx}
def rAddI : R2 := fun x y H Q => ∃ i j : Int, x = .int i ∧ y = .int j ∧ Q (.int (i + j)) H
def rSubI : R2 := fun x y H Q => ∃ i j : Int, x = .int i ∧ y = .int j ∧ Q (.int (i - j)) H
def rMulI : R2 := fun x y H Q => ∃ i j : Int, x = .int i ∧ y = .int j ∧ CMul i j ∧ Q (.int (i * j)) H
def rModI : R2 := fun x y H Q => ∃ i j : Int, x = .int i ∧ y = .int j ∧ 0 < j ∧ Q (.int (i % j)) H
def rDivI : R2 := fun x y H Q => ∃ i j : Int, x = .int i ∧ y = .int j ∧ CDiv i j ∧ Q (.int (i / j)) H
def rPowI : R2 := fun x y H Q => ∃ i j : Int, x = .int i ∧ y = .int j ∧ CPow i j ∧ Q (.int (i ^ j.toNat)) H
def rLtI : R2 := fun x y H Q => ∃ i j : Int, x = .int i ∧ y = .int j ∧ Q (.bl (decide (i < j))) H
def rLeI : R2 := fun x y H Q => ∃ i j : Int, x = .int i ∧ y = .int j ∧ Q (.bl (decide (i ≤ j))) H
def rGtI : R2 := fun x y H Q => ∃ i j : Int, x = .int i ∧ y = .int j ∧ Q (.bl (decide (j < i))) H
def rGeI : R2 := fun x y H Q => ∃ i j : Int, x = .int i ∧ y = .int j ∧ Q (.bl (decide (j ≤ i))) H
def rNegI : V → Hp → VK → Prop := fun x H Q => ∃ i : Int, x = .int i ∧ Q (.int (-i)) H
theorem o_add : OpR X (binaryOp .Add) rAddI := op_add
theorem o_sub : OpR X (binaryOp .Sub) rSubI := op_sub
theorem o_mul : OpR X (binaryOp .Mult) rMulI := op_mul
theorem o_mod : OpR X (binaryOp .Mod) rModI := op_mod
theorem o_div : OpR X (binaryOp .FloorDiv) rDivI := op_fdiv
theorem o_pow : OpR X (binaryOp .Pow) rPowI := op_pow
theorem o_lt : OpR X (compareOp .Lt) rLtI := op_lt
theorem o_le : OpR X (compareOp .LtE) rLeI := op_le
theorem o_gt : OpR X (compareOp .Gt) rGtI := op_gt
theorem o_ge : OpR X (compareOp .GtE) rGeI := op_ge
theorem o_neg : UnR X (unaryOp .USub) rNegI := un_neg
end
end L2
set_option Elab.async false
set_option linter.all false
set_option maxRecDepth 100000
set_option maxHeartbeats 4000000
namespace L2
open PySem PySem.Spec PyProof.Rows
theorem Inv.turnedL {X : Cx} {pins : List (Addr × Obj)} {σ : St} {H : Hp} {s : Shared} {h' : Heap} {t' : Nat} {fp : List Addr} (I : Inv X pins σ H s) (hf : ∀ b ∈ fp, FpOk X pins H b)
    (k : ∀ b o, b ∉ fp → s.heap.get? b = some o → h'.get? b = some o) : Inv X pins σ H { s with heap := h', toks := t' } := by
  have nfp : ∀ b o, H b = some o → b ∉ fp := fun b o q hb => by have := (hf b hb).1; rw [q] at this; cases this
  refine I.step (g' := s.gens) (d' := s.drawn) (ch := fp) (fun b hb => ?_) (fun b o _ _ hc q _ => k b o hc q) (fun b o _ _ hc q _ => ⟨o.slots, k b o hc q⟩) (fun b o _ _ n => n)
    (fun b o hc q => ⟨o, k b o hc q⟩) (fun b ys q => q) (fun b o u q => q) (fun b ps q => ⟨#[], by rw [q]; simp⟩) (fun m hm => ?_) (fun b u q => ?_) I.bare
  · obtain ⟨_, f1, _, f3, f4, f5⟩ := hf b hb
    exact ⟨f3, f1, f4, f5⟩
  · obtain ⟨o, es, ep, ho, r⟩ := hm
    exact ⟨o, es, ep, k _ o (fun z => (hf _ z).2.1 rfl) ho, r⟩
  · refine (I.hok b u q).stay (fun c v hc w => k c v ?_ w) (fun c w => w) fun c ys w => w
    rcases hc with rfl | hc
    · exact nfp _ _ q
    · exact nfp _ _ hc
theorem Inv.sq_ne {X : Cx} {pins : List (Addr × Obj)} {σ : St} {H : Hp} {s : Shared} {a b : Addr} {xs : List V} (I : Inv X pins σ H s) (h : SqL X.K H a xs) (f : FpOk X pins H b) : a ≠ b := by
  rintro rfl
  rcases h with (h | ⟨o, h⟩) | ⟨o, its, n, hk, _⟩
  · rw [f.1] at h
    cases h
  · rw [f.1] at h
    cases h
  · have hb : X.base.get? a = some o := I.ok.mod.kin a o hk
    rcases f.2.2.2.1 with z | z
    · exact I.ok.noex a o hb z
    · exact absurd (Nat.lt_of_lt_of_le (Heap.lt_size (I.ok.bs a o hb).1) z) (Nat.lt_irrefl _)
def Itz (K : PySem.W.Frag) (a c : Addr) : It :=
  ⟨fun i H => ∃ xs ys x y, SqL K H a xs ∧ SqL K H c ys ∧ xs[i]? = some x ∧ ys[i]? = some y,
    fun i H v H' => ∃ T x y, v = .ref T ∧ H T = none ∧ H' = upd H T (.tup [x, y]) ∧ (∀ xs, SqL K H a xs → xs[i]? = some x) ∧ ∀ ys, SqL K H c ys → ys[i]? = some y,
    fun i H => ∃ xs ys, SqL K H a xs ∧ SqL K H c ys ∧ (xs.length ≤ i ∨ ys.length ≤ i)⟩
structure ZipAt (h : Heap) (z TI TO i1 i2 l1 l2 : Addr) (i : Nat) : Prop where
  hz : IsZip h z TI TO .none
  hTI : IsPair h TI (.ref i1) (.ref i2)
  hTO : ∃ a b, IsPair h TO a b
  h1 : h.IsListIter i1 l1 i
  h2 : h.IsListIter i2 l2 i
  nd : [z, TI, TO, i1, i2].Nodup
theorem turn_zip {P : Program} {w : World} {K : PySem.W.Frag} {es : List Expr} {k1} {ps : Pos} (a c z TI TO i1 i2 : Addr) : Turn P w K (.Tuple es k1 ps) (Itz K a c) [z, TI, TO, i1, i2] z (fun i h => ZipAt h z TI TO i1 i2 a c i) where
  mem := by simp
  obj := fun i h st b hb => by
    simp only [List.mem_cons, List.not_mem_nil, or_false] at hb
    rcases hb with rfl | rfl | rfl | rfl | rfl
    · exact ⟨_, st.hz, fun v q => by have q' : Data.fields _ = Data.cell v := q; cases q'⟩
    · exact ⟨_, st.hTI, fun v q => by have q' : Data.seq _ _ = Data.cell v := q; cases q'⟩
    · obtain ⟨x, y, e⟩ := st.hTO
      exact ⟨_, e, fun v q => by have q' : Data.seq _ _ = Data.cell v := q; cases q'⟩
    · obtain ⟨o, e, _, d⟩ := st.h1
      exact ⟨o, e, fun v q => by rw [d] at q; cases q⟩
    · obtain ⟨o, e, _, d⟩ := st.h2
      exact ⟨o, e, fun v q => by rw [d] at q; cases q⟩
  keep := fun i h h' st k => ⟨k z (by simp) _ st.hz, k TI (by simp) _ st.hTI, let ⟨x, y, e⟩ := st.hTO; ⟨x, y, k TO (by simp) _ e⟩, st.h1.at fun o q => k i1 (by simp) o q, st.h2.at fun o q => k i2 (by simp) o q, st.nd⟩
  item := by
    intro X hP hw hK hc i pins s σ H E I hf st hg
    subst hP hw hK
    obtain ⟨xs, ys, x, y, hq, hq2, hx, hy⟩ := hg
    obtain ⟨its, rv, p, _⟩ := I.list hq
    obtain ⟨its2, rv2, p2, _⟩ := I.list hq2
    obtain ⟨u, hu, ru⟩ := rv.get hx
    obtain ⟨u2, hu2, ru2⟩ := rv2.get hy
    obtain ⟨ta, tb, hTO⟩ := st.hTO
    have nd := st.nd
    simp only [List.nodup_cons, List.mem_cons, List.not_mem_nil, or_false, not_or, List.nodup_nil, and_true, not_false_eq_true] at nd
    obtain ⟨⟨n1, n2, n3, n4⟩, ⟨n5, n6, n7⟩, ⟨n8, n9⟩, n10⟩ := nd
    have Dz : ZipApart z TI TO i1 i2 a c := ⟨Ne.symm n1, Ne.symm n2, Ne.symm n3, Ne.symm n4, n5, n6, n7, n8, n9, n10, I.sq_ne hq (hf z (by simp)), I.sq_ne hq (hf TO (by simp)), I.sq_ne hq (hf i1 (by simp)), I.sq_ne hq (hf i2 (by simp)),
      I.sq_ne hq2 (hf z (by simp)), I.sq_ne hq2 (hf TO (by simp)), I.sq_ne hq2 (hf i1 (by simp)), I.sq_ne hq2 (hf i2 (by simp))⟩
    refine wpAny_pyNext_zip_item Dz st.hz st.hTI hTO st.h1 st.h2 p.isList p2.isList (x := u) (y := u2) (by simpa using hu) (by simpa using hu2) fun h' z1 z2 z3 z4 z5 z6 z7 => ?_
    refine ⟨_, rfl, wpAny_letOwnedTupleGo_zip z1 fun h2 hz2 hs2 => ?_⟩
    have hs2' : Heap.SameBut z h' h2 := hs2
    have zlt : z ≠ s.heap.objs.size := Nat.ne_of_lt (Heap.lt_size st.hz)
    have fresh : ∀ b ∈ [z, TI, TO, i1, i2], b ≠ s.heap.objs.size := fun b hb => by
      simp only [List.mem_cons, List.not_mem_nil, or_false] at hb
      rcases hb with rfl | rfl | rfl | rfl | rfl
      · exact zlt
      · exact Nat.ne_of_lt (Heap.lt_size st.hTI)
      · exact Nat.ne_of_lt (Heap.lt_size hTO)
      · obtain ⟨o, e, _⟩ := st.h1; exact Nat.ne_of_lt (Heap.lt_size e)
      · obtain ⟨o, e, _⟩ := st.h2; exact Nat.ne_of_lt (Heap.lt_size e)
    have hT2 : IsPair h2 s.heap.objs.size u u2 := (hs2'.2 _ (Ne.symm zlt)).trans z5
    have st2 : ZipAt h2 z TI TO i1 i2 a c (i + 1) := ⟨hz2, (hs2'.2 TI (Ne.symm n1)).trans (z7 TI _ (Ne.symm n1) n5 n6 n7 st.hTI), ⟨_, _, (hs2'.2 TO (Ne.symm n2)).trans z2⟩, z3.at fun o q => (hs2'.2 i1 (Ne.symm n3)).trans q, z4.at fun o q => (hs2'.2 i2 (Ne.symm n4)).trans q, st.nd⟩
    have hfr : H s.heap.objs.size = none := I.hok.fresh (Nat.le_refl _)
    have I2 : Inv X pins σ (upd H s.heap.objs.size (.tup [x, y])) { s with heap := h2, toks := s.toks } := by
      refine I.tupNew (its := [u, u2]) hf (Nat.le_refl _) (fun b o hb q => ?_) (by show 2 ≤ sizeLine; decide) (.cons ru (.cons ru2 .nil)) hT2 (fun b hb => ?_)
      · simp only [List.mem_cons, List.not_mem_nil, or_false, not_or] at hb
        exact (hs2'.2 b hb.1).trans (z7 b o hb.1 hb.2.2.1 hb.2.2.2.1 hb.2.2.2.2 q)
      · simp only [List.mem_cons, List.not_mem_nil, or_false] at hb
        rcases hb with rfl | rfl | rfl | rfl | rfl
        · exact ⟨_, st2.hz⟩
        · exact ⟨_, st2.hTI⟩
        · obtain ⟨_, _, e⟩ := st2.hTO; exact ⟨_, e⟩
        · obtain ⟨o, e, _⟩ := st2.h1; exact ⟨_, e⟩
        · obtain ⟨o, e, _⟩ := st2.h2; exact ⟨_, e⟩
    refine ⟨.ref s.heap.objs.size, _, I2, rfl, ⟨_, x, y, rfl, hfr, rfl, fun zs hz => by rw [I.list_inj hz hq]; exact hx, fun zs hz => by rw [I.list_inj hz hq2]; exact hy⟩, st2, fun b hb => ?_⟩
    rw [upd_ne (fresh b hb)]
    exact (hf b hb).1
  done := by
    intro X hP hw hK hc i pins s σ H E I hf st hg
    subst hP hw hK
    obtain ⟨xs, ys, hq, hq2, hend⟩ := hg
    obtain ⟨its, rv, p, _⟩ := I.list hq
    obtain ⟨its2, rv2, p2, _⟩ := I.list hq2
    obtain ⟨ta, tb, hTO⟩ := st.hTO
    have nd := st.nd
    simp only [List.nodup_cons, List.mem_cons, List.not_mem_nil, or_false, not_or, List.nodup_nil, and_true, not_false_eq_true] at nd
    obtain ⟨⟨n1, n2, n3, n4⟩, ⟨n5, n6, n7⟩, ⟨n8, n9⟩, n10⟩ := nd
    have Dz : ZipApart z TI TO i1 i2 a c := ⟨Ne.symm n1, Ne.symm n2, Ne.symm n3, Ne.symm n4, n5, n6, n7, n8, n9, n10, I.sq_ne hq (hf z (by simp)), I.sq_ne hq (hf TO (by simp)), I.sq_ne hq (hf i1 (by simp)), I.sq_ne hq (hf i2 (by simp)),
      I.sq_ne hq2 (hf z (by simp)), I.sq_ne hq2 (hf TO (by simp)), I.sq_ne hq2 (hf i1 (by simp)), I.sq_ne hq2 (hf i2 (by simp))⟩
    have l1 := rv.length
    have l2 := rv2.length
    refine wpAny_pyNext_zip_end (I.ok.hd hc) Dz st.hz st.hTI hTO st.h1 st.h2 p.isList p2.isList (hend.elim (fun q => .inl (by simp; omega)) fun q => .inr (by simp; omega)) fun h' k => ⟨rfl, I.turnedL (t' := s.toks) hf fun b o hb q => ?_⟩
    simp only [List.mem_cons, List.not_mem_nil, or_false, not_or] at hb
    exact k b o hb.1 hb.2.2.1 hb.2.2.2.1 hb.2.2.2.2 q
  self := fun _ _ _ _ _ st h => wpAny_pyIter_zip st.hz h
def iZip (K : PySem.W.Frag) (ta : TA) : TI := fun σ H R => ta σ H fun vs H1 => ∃ a c, vs = [.ref a, .ref c] ∧ (∃ xs, SqL K H1 a xs) ∧ (∃ ys, SqL K H1 c ys) ∧ R (Itz K a c) H1
theorem pi_zip {X : Cx} {a b : Expr} {ta : TA} {es : List Expr} {k1} {ps p pos : Pos} (hg : Gl X "zip") (hm : X.mg "zip" = none) (ha : PA X [a, b] ta) (hs : starEach [a, b] X.env = [(false, eval a X.env), (false, eval b X.env)] := by rfl) (hs2 : starEach [b] X.env = [(false, eval b X.env)] := by rfl) :
    PI X (.Tuple es k1 ps) (.Call (.Name "zip" p) [a, b] [] pos) (iZip X.K ta) := by
  intro pins s σ H R I h
  refine Call_ (ld_blt I hg hm boot_zip (PyProof.Rows.callWith_type1 (thn (ha pos pins s σ H _ I h) fun us s1 ⟨vs, H1, I1, r1, q1⟩ => ?_) (by rw [hs, hs2]) (by rw [hs2]; rfl)))
  obtain ⟨a, c, e, ⟨xs, hq⟩, ⟨ys, hq2⟩, q⟩ := q1
  subst e
  obtain ⟨u, v, rfl, ru, rv⟩ := r1.two
  cases ru
  cases rv
  obtain ⟨its, _, pl, _⟩ := I1.list hq
  obtain ⟨its2, _, pl2, _⟩ := I1.list hq2
  refine call_zip_2 pl.isList pl2.isList fun h' z1 z2 z3 z4 z5 z6 z7 => wpAny_pyIter_zip z1 ?_
  have I2 : Inv X pins σ H1 { s1 with heap := h' } := I1.kept (t' := s1.toks) z7
  refine ⟨s1.heap.objs.size + 4, [s1.heap.objs.size + 4, s1.heap.objs.size + 2, s1.heap.objs.size + 3, s1.heap.objs.size, s1.heap.objs.size + 1], _, _, H1, rfl, I2, turn_zip a c _ _ _ _ _, ⟨z1, z2, ⟨_, _, z3⟩, z4, z5, ?_⟩, fun b hb => ?_, q⟩
  · generalize s1.heap.objs.size = n
    show List.Nodup ([n + 4, n + 2, n + 3, n, n + 1] : List Nat)
    simp
  · have hb' : s1.heap.objs.size ≤ b := by
      simp only [List.mem_cons, List.not_mem_nil, or_false] at hb
      rcases hb with rfl | rfl | rfl | rfl | rfl
      · exact Nat.le_add_right _ _
      · exact Nat.le_add_right _ _
      · exact Nat.le_add_right _ _
      · exact Nat.le_refl _
      · exact Nat.le_add_right _ _
    exact I1.fpOk hb' (I1.hok.fresh hb')
theorem set2 {σ : St} {a b u v : Option V} : ((((σ.set 0 a).set 1 b).set 0 u).set 1 v) = (σ.set 0 u).set 1 v := by
  rw [List.set_comm b u (by decide : (1 : Nat) ≠ 0), List.set_set, List.set_set]
theorem pg_c2 {X : Cx} {N' : List Str} {scope : Scope} {cl : List (Str × Addr)} {C : Addr} {s2 : Shared} {H2 : Hp} {ex : List Addr} {y z : Str} {p1 p2 pos : Pos} {k : Nat} (K : PySem.W.Frag) (hc : X.calm = true) (nd : N'.Nodup) (h0 : N'[0]? = some y := by rfl) (h1 : N'[1]? = some z := by rfl)
    (hy : (relabel scope X.env).names.lookup y = some .local := by rfl) (hz : (relabel scope X.env).names.lookup z = some .local := by rfl) (hK : X.K = K := by rfl) :
    PG (X.comp N' scope cl C s2 H2 ex) (.Tuple [.Name y p1, .Name z p2] k pos) (gTup K 2 (gCons (gName 0) (gCons (gName 1) gNil))) := by
  subst hK
  exact pg_tup (X := X.comp N' scope cl C s2 H2 ex) hc (pgs_cons (pg_name (X := X.comp N' scope cl C s2 H2 ex) nd h0 (.inl hy) (.inr hy)) (pgs_cons (pg_name (X := X.comp N' scope cl C s2 H2 ex) nd h1 (.inl hz) (.inr hz)) pgs_nil))
end L2
set_option Elab.async false
set_option linter.all false
set_option maxRecDepth 100000
set_option maxHeartbeats 4000000
namespace L2
open PySem PySem.Spec PyProof.Rows
theorem call_maxL {X : Cx} (hc : X.calm = true) : CallR X (.builtin "max") (fun xs H Q => ∃ (p : Addr) (ns : List Int), xs = [.ref p] ∧ SqL X.K H p (ns.map V.int) ∧ 0 < ns.length ∧ ∀ M, M ∈ ns → (∀ a ∈ ns, a ≤ M) → Q (.int M) H) := by
  intro pins s σ H xs us Q I rv h
  obtain ⟨p, ns, rfl, hq, hne, q⟩ := h
  obtain ⟨u, rfl, ru⟩ := rv.one
  cases ru
  obtain ⟨its, r, pl, _⟩ := I.list hq
  have hi := ints_of r
  obtain ⟨ys, e⟩ := hi.allInts.items
  have hl := pl.isList
  have en : ns = ys.toList.map (·.1) := by
    have e1 := hi.numsOf
    have e2 := nums_intItems ys
    rw [← e] at e2
    exact e1.symm.trans e2
  have lz : ys.size = ns.length := by rw [en]; simp
  rw [e] at hl
  refine max_intList (I.ok.hd hc) hl (by omega) fun v h' tk hv hk => ?_
  obtain ⟨t, rfl⟩ := intItems_at hv
  obtain ⟨b1, b2⟩ := argBest_gt (numAt ys) (ys.size - 1)
  refine ⟨.int _, H, I.kept hk, ⟨_, rfl⟩, q _ ?_ fun a ha => ?_⟩
  · rw [en, numAt_eq]
    exact getD_mem (by rw [List.length_map, Array.length_toList]; omega)
  · rw [en] at ha
    obtain ⟨j, hj, rfl⟩ := mem_getD ha
    rw [List.length_map, Array.length_toList] at hj
    have := b2 j (by omega)
    rw [numAt_eq ys j] at this
    exact this
theorem comp_tup {α : Type} {K : PySem.W.Frag} {a : Addr} {σ0 : St} {H1 : Hp} {te : TE} {Q : VK} (u : α → V) {ms : List α} (f : α → V) (hq : SqT K H1 a (ms.map u)) (hn : ms.length ≤ sizeLine)
    (he : ∀ x ∈ ms, Pu te (σ0.set 0 (some (u x))) H1 (f x))
    (fin : ∀ D H', H1 D = none → Same H1 H' → H' D = some (.lst (ms.map f)) → Q (.ref D) H') :
    CompRun (Itt K a) (gName 0) tTrue te σ0 H1 Q := by
  intro D hD
  refine comp_by (n := ms.length) (fun i ys H' => Same H1 H' ∧ H' D = some (.lst ys) ∧ ys = (ms.take i).map f) ⟨Same.new hD, upd_same, by simp⟩ (fun i ys H' _ q => q.2.1) (fun i ys H' hi q => ⟨ms.map u, u ms[i], q.1.tup hq, by simp [hi]⟩)
    (fun ys H' q => ⟨ms.map u, q.1.tup hq, by simp⟩) ?_ (fun ys H' q => ?_)
  · rintro i ys H' x H2 hi ⟨sm, hDl, hys⟩ ⟨rfl, hy⟩
    have hx := hy _ (sm.tup hq)
    rw [List.getElem?_map, List.getElem?_eq_getElem hi] at hx
    have hx : u ms[i] = x := Option.some.inj hx
    subst hx
    unfold tTrue
    refine iteT ?_
    refine he ms[i] (List.getElem_mem hi) _ _ sm fun H5 s5 => ⟨s5 _ _ hDl, ?_, (sm.trans s5).upd hD, upd_same, ?_⟩
    · rw [hys, List.length_map, List.length_take]
      omega
    · rw [List.take_add_one, List.getElem?_eq_getElem hi, List.map_append, ← hys]
      rfl
  · obtain ⟨sm, hDl, hys⟩ := q
    rw [List.take_length] at hys
    exact fin D H' hD sm (by rw [← hys]; exact hDl)
end L2
set_option Elab.async false
set_option linter.all false
set_option maxRecDepth 100000
set_option maxHeartbeats 4000000
namespace SrtT
open PySem PySem.W PyProof.Rows
section
variable {O : KeyOrd} {key : Nat → O.α} {N : Nat} {cmp : Nat → Nat → (Bool → Shared → Prop) → Shared → Prop} {s : Shared}
def kk (key : Nat → O.α) (p : Array Nat) (i : Nat) : O.α := key (p.getD i 0)
def Fair (key : Nat → O.α) (N : Nat) (cmp : Nat → Nat → (Bool → Shared → Prop) → Shared → Prop) (s : Shared) : Prop := ∀ i j C, i < N → j < N → C (O.blt (key i) (key j)) s → cmp i j C s
end
end SrtT
set_option Elab.async false
set_option linter.all false
set_option maxRecDepth 100000
set_option maxHeartbeats 4000000
namespace SrtT
open PySem PyProof.Rows
section
open PySem.SeqAt
open PySem.AutoSeq1 (wpAny_loadPart')
open PySem.MeetsSeq PySem.MeetsSeq2 PySem.MeetsSeq3
end
section
variable {prog : Program} {w : World} {A : Around} {E : Value → Shared → Prop} {s : Shared}
end
end SrtT
set_option Elab.async false
set_option linter.all false
set_option maxRecDepth 100000
set_option maxHeartbeats 4000000
namespace SrtT
open PySem PySem.W PyProof.Rows
section
variable {prog : Program} {w : World} {A : Around} {E : Value → Shared → Prop} {s : Shared} {O : KeyOrd} {key : Nat → O.α} {vs : List Value}
def Look (prog : Program) (w : World) (A : Around) (O : KeyOrd) (key : Nat → O.α) (vs : List Value) (s : Shared) : Prop :=
  ∀ h' : Heap, (∀ b o, s.heap.get? b = some o → h'.get? b = some o) → ∃ κ, (2 ≤ vs.length → ∀ (Q : SortKind → Shared → Prop) (E : Value → Shared → Prop), Q κ { s with heap := h' } → wpAny (model prog w) A (keyKind' vs.toArray) Q E { s with heap := h' }) ∧
    Fair key vs.length (kas_ask prog w A κ vs) { s with heap := h' }
end
end SrtT
namespace L2
open PySem PySem.Spec PyProof.Rows
section
variable {X : Cx}
end
end L2
namespace SrtT
open PySem PySem.W PyProof.Rows
section
variable {prog : Program} {w : World} {A : Around} {E : Value → Shared → Prop} {s : Shared}
end
end SrtT
namespace L2
open PySem PySem.Spec PyProof.Rows
section
variable {X : Cx}
end
end L2
set_option Elab.async false
set_option linter.all false
set_option maxRecDepth 100000
set_option maxHeartbeats 4000000
namespace L2
open PySem PySem.Spec PyProof.Rows
theorem comp_objs {α : Type} {J : It} {ms : List α} {σ0 : St} {H1 : Hp} {te : TE} {Q : VK} (u : α → V) (o : α → HO) (hn : ms.length ≤ 1000)
    (hgo : ∀ i H', i < ms.length → Same H1 H' → J.go i H') (hst : ∀ H', Same H1 H' → J.stop ms.length H') (hy : ∀ i H' x H2 (h : i < ms.length), Same H1 H' → J.yld i H' x H2 → H2 = H' ∧ x = u ms[i])
    (he : ∀ x ∈ ms, ∀ (H' : Hp) (Q' : VK), Same H1 H' → (∀ l H'', H' l = none → Same H' H'' → H'' l = some (o x) → Q' (.ref l) H'') → te (σ0.set 0 (some (u x))) H' Q')
    (fin : ∀ (D : Addr) (qs : List (Addr × α)) (H' : Hp), H1 D = none → qs.map (·.2) = ms → (qs.map (·.1)).Nodup → (∀ q ∈ qs, H' q.1 = some (o q.2) ∧ H1 q.1 = none ∧ q.1 ≠ D) → Same H1 H' → H' D = some (.lst (qs.map fun q => V.ref q.1)) → Q (.ref D) H') :
    CompRun J (gName 0) tTrue te σ0 H1 Q := by
  intro D hD
  refine comp_by (n := ms.length) (fun i ys H' => ∃ qs : List (Addr × α), Same H1 H' ∧ H' D = some (.lst ys) ∧ ys = (qs.map fun q => V.ref q.1) ∧ qs.map (·.2) = ms.take i ∧ (qs.map (·.1)).Nodup ∧ ∀ q ∈ qs, H' q.1 = some (o q.2) ∧ H1 q.1 = none ∧ q.1 ≠ D)
    ⟨[], Same.new hD, upd_same, rfl, by simp, List.nodup_nil, fun q hq => nomatch hq⟩ (fun i ys H' _ ⟨_, _, e, _⟩ => e) (fun i ys H' hi ⟨_, sm, _⟩ => hgo i H' hi sm) (fun ys H' ⟨_, sm, _⟩ => hst H' sm) ?_ (fun ys H' h => ?_)
  · rintro i ys H' x H2 hi ⟨qs, sm, hDl, hys, hqm, hnd, hq⟩ y
    obtain ⟨rfl, rfl⟩ := hy i H' x H2 hi sm y
    unfold tTrue
    refine iteT (he ms[i] (List.getElem_mem hi) _ _ sm fun l H5 hl s5 el => ?_)
    have nlD : D ≠ l := ne_of_none hDl hl
    have ql : qs.length = i := by
      have := congrArg List.length hqm
      rw [List.length_map, List.length_take] at this
      omega
    refine ⟨s5 _ _ hDl, ?_, qs ++ [(l, ms[i])], (sm.trans s5).upd hD, upd_same, ?_, ?_, ?_, ?_⟩
    · rw [hys, List.length_map, ql]
      exact small1000 (by omega)
    · rw [hys, List.map_append]
      rfl
    · rw [List.map_append, hqm, List.take_add_one, List.getElem?_eq_getElem hi]
      rfl
    · rw [List.map_append, List.nodup_append]
      refine ⟨hnd, by simp, fun a ha b hb e => ?_⟩
      obtain ⟨q, hq1, rfl⟩ := List.mem_map.mp ha
      have hb : b = l := by simpa using hb
      subst hb
      have := (hq q hq1).1
      rw [e, hl] at this
      cases this
    · intro q hq1
      rcases List.mem_append.mp hq1 with z | z
      · obtain ⟨z1, z2, z3⟩ := hq q z
        exact ⟨by rw [upd_ne z3]; exact s5 _ _ z1, z2, z3⟩
      · have : q = (l, ms[i]) := by simpa using z
        subst this
        exact ⟨by rw [upd_ne (Ne.symm nlD)]; exact el, sm.free hl, Ne.symm nlD⟩
  · obtain ⟨qs, sm, hDl, hys, hqm, hnd, hq⟩ := h
    rw [List.take_length] at hqm
    exact fin D qs H' hD hqm hnd hq sm (by rw [← hys]; exact hDl)
theorem comp_objsL {α : Type} {K : PySem.W.Frag} {a : Addr} {ms : List α} {σ0 : St} {H1 : Hp} {te : TE} {Q : VK} (u : α → V) (o : α → HO) (hq : SqL K H1 a (ms.map u)) (hn : ms.length ≤ 1000)
    (he : ∀ x ∈ ms, ∀ (H' : Hp) (Q' : VK), Same H1 H' → (∀ l H'', H' l = none → Same H' H'' → H'' l = some (o x) → Q' (.ref l) H'') → te (σ0.set 0 (some (u x))) H' Q')
    (fin : ∀ (D : Addr) (qs : List (Addr × α)) (H' : Hp), H1 D = none → qs.map (·.2) = ms → (qs.map (·.1)).Nodup → (∀ q ∈ qs, H' q.1 = some (o q.2) ∧ H1 q.1 = none ∧ q.1 ≠ D) → Same H1 H' → H' D = some (.lst (qs.map fun q => V.ref q.1)) → Q (.ref D) H') :
    CompRun (Itl K a) (gName 0) tTrue te σ0 H1 Q :=
  comp_objs u o hn (fun i H' hi sm => ⟨ms.map u, u ms[i], sm.seq hq, by simp [hi]⟩) (fun H' sm => ⟨ms.map u, sm.seq hq, by simp⟩) (fun i H' x H2 hi sm y => ⟨y.1, by
    have := y.2 _ (sm.seq hq)
    rw [List.getElem?_map, List.getElem?_eq_getElem hi] at this
    exact (Option.some.inj this).symm⟩) he fin
theorem comp_objsR {lo : Int} {n : Nat} {σ0 : St} {H1 : Hp} {te : TE} {Q : VK} (o : Nat → HO) (hn : n ≤ 1000)
    (he : ∀ i, i < n → ∀ (H' : Hp) (Q' : VK), Same H1 H' → (∀ l H'', H' l = none → Same H' H'' → H'' l = some (o i) → Q' (.ref l) H'') → te (σ0.set 0 (some (.int (lo + i)))) H' Q')
    (fin : ∀ (D : Addr) (qs : List (Addr × Nat)) (H' : Hp), H1 D = none → qs.map (·.2) = List.range n → (qs.map (·.1)).Nodup → (∀ q ∈ qs, H' q.1 = some (o q.2) ∧ H1 q.1 = none ∧ q.1 ≠ D) → Same H1 H' → H' D = some (.lst (qs.map fun q => V.ref q.1)) → Q (.ref D) H') :
    CompRun (Itr lo n) (gName 0) tTrue te σ0 H1 Q :=
  comp_objs (ms := List.range n) (fun i => .int (lo + i)) o (by simpa using hn) (fun i H' hi sm => by show i < n; simpa using hi) (fun H' sm => by show n ≤ _; simp) (fun i H' x H2 hi sm y => ⟨y.1, by rw [y.2, List.getElem_range]⟩)
    (fun x hx => he x (List.mem_range.mp hx)) fin
section
variable {X : Cx}
def rInD (K : PySem.W.Frag) (neg : Bool) : R2 := fun x y H Q => ∃ (dx : PyData) (ds : List PyData), RdD K H x dx ∧ RdD K H y (.list ds) ∧ SeqAt.shaped dx = true ∧ SeqAt.shaped (.list ds) = true ∧ Q (.bl (if neg then !(ds.any fun d => PyData.eqv d dx) else ds.any fun d => PyData.eqv d dx)) H
theorem op_inD (hu : X.A.units + 65 < cLine) : OpR X (compareOp .In) (rInD X.K false) := by
  intro pins s σ H x y v u Q I rx ry h
  obtain ⟨dx, ds, h1, h2, s1, s2, q⟩ := h
  obtain ⟨as, r1⟩ := I.reads h1 rx
  obtain ⟨bs, r2⟩ := I.reads h2 ry
  exact SeqAt.in_list_reads r2 r1 (SeqAt.canLay_of_shaped s2) (SeqAt.canLay_of_shaped s1) (room_in_shaped s1 hu) ⟨.bl _, H, I, rfl, q⟩
end
end L2
set_option Elab.async false
set_option linter.all false
set_option maxRecDepth 100000
set_option maxHeartbeats 4000000
namespace L2
open PySem PySem.Spec PyProof.Rows
mutual
inductive RdS (S : List Addr) (H : Hp) : V → PyData → Prop
  | non : RdS S H .non .none
  | bl (b : Bool) : RdS S H (.bl b) (.bool b)
  | int (i : Int) : RdS S H (.int i) (.int i)
  | str (x : Str) : RdS S H (.str x) (.str x)
  | lst {a : Addr} {xs : List V} {ds : List PyData} : H a = some (.lst xs) → a ∉ S → RdSs S H xs ds → RdS S H (.ref a) (.list ds)
  | tup {a : Addr} {xs : List V} {ds : List PyData} : H a = some (.tup xs) → a ∉ S → RdSs S H xs ds → RdS S H (.ref a) (.tuple ds)
  | dct {a : Addr} : H a = some (.dK []) → a ∉ S → RdS S H (.ref a) (.dict [])
inductive RdSs (S : List Addr) (H : Hp) : List V → List PyData → Prop
  | nil : RdSs S H [] []
  | cons {x : V} {d : PyData} {xs : List V} {ds : List PyData} : RdS S H x d → RdSs S H xs ds → RdSs S H (x :: xs) (d :: ds)
end
mutual
theorem RdS.move {S S' : List Addr} {H H' : Hp} (k : ∀ b o, b ∉ S → H b = some o → H' b = some o) (ss : ∀ b, b ∉ S → b ∉ S') : ∀ {x : V} {d : PyData}, RdS S H x d → RdS S' H' x d
  | _, _, .non => .non
  | _, _, .bl b => .bl b
  | _, _, .int i => .int i
  | _, _, .str x => .str x
  | _, _, .lst e n r => .lst (k _ _ n e) (ss _ n) (RdSs.move k ss r)
  | _, _, .tup e n r => .tup (k _ _ n e) (ss _ n) (RdSs.move k ss r)
  | _, _, .dct e n => .dct (k _ _ n e) (ss _ n)
theorem RdSs.move {S S' : List Addr} {H H' : Hp} (k : ∀ b o, b ∉ S → H b = some o → H' b = some o) (ss : ∀ b, b ∉ S → b ∉ S') : ∀ {xs : List V} {ds : List PyData}, RdSs S H xs ds → RdSs S' H' xs ds
  | _, _, .nil => .nil
  | _, _, .cons h t => .cons (RdS.move k ss h) (RdSs.move k ss t)
end
theorem RdS.same {S : List Addr} {H H' : Hp} {x : V} {d : PyData} (r : RdS S H x d) (s : Same H H') : RdS S H' x d := r.move (fun b o _ e => s b o e) fun _ n => n
theorem RdSs.same {S : List Addr} {H H' : Hp} {xs : List V} {ds : List PyData} (r : RdSs S H xs ds) (s : Same H H') : RdSs S H' xs ds := r.move (fun b o _ e => s b o e) fun _ n => n
theorem RdSs.length {S : List Addr} {H : Hp} : ∀ {xs : List V} {ds : List PyData}, RdSs S H xs ds → xs.length = ds.length
  | _, _, .nil => rfl
  | _, _, .cons _ t => by simp [t.length]
theorem RdSs.pairs {S : List Addr} {H : Hp} : ∀ {xs : List V} {ds : List PyData}, RdSs S H xs ds → ∃ ms : List (V × PyData), xs = ms.map (·.1) ∧ ds = ms.map (·.2) ∧ ∀ m ∈ ms, RdS S H m.1 m.2
  | _, _, .nil => ⟨[], rfl, rfl, fun m h => nomatch h⟩
  | _, _, .cons (x := x) (d := d) h t => by
    obtain ⟨ms, e1, e2, hm⟩ := t.pairs
    refine ⟨(x, d) :: ms, by rw [e1]; rfl, by rw [e2]; rfl, fun m hmm => ?_⟩
    rcases List.mem_cons.mp hmm with rfl | z
    · exact h
    · exact hm m z
def tyD : PyData → String
  | .none => "NoneType"
  | .bool _ => "bool"
  | .int _ => "int"
  | .str _ => "str"
  | .list _ => "list"
  | .tuple _ => "tuple"
  | .dict _ => "dict"
theorem RdS.ty {S : List Addr} {H : Hp} {K : PySem.W.Frag} : ∀ {x : V} {d : PyData}, RdS S H x d → TyOf K H x (.type (tyD d))
  | _, _, .non => .non
  | _, _, .bl b => .bl b
  | _, _, .int i => .int i
  | _, _, .str x => .str x
  | _, _, .lst e _ _ => .lst e
  | _, _, .tup e _ _ => .tup e
  | _, _, .dct e _ => .dK e
def isIntD : PyData → Bool
  | .int _ => true
  | _ => false
theorem kit_int (K : PySem.W.Frag) (d : PyData) : PySem.W.kitOne K (.type (tyD d)) (.type "int") = some (match d with | .int _ => true | .bool _ => true | _ => false) := by
  cases d <;> (simp only [tyD]; kernel_rfl)
theorem kit_bool (K : PySem.W.Frag) (d : PyData) : PySem.W.kitOne K (.type (tyD d)) (.type "bool") = some (match d with | .bool _ => true | _ => false) := by
  cases d <;> (simp only [tyD]; kernel_rfl)
theorem kit_tuple (K : PySem.W.Frag) (d : PyData) : PySem.W.kitOne K (.type (tyD d)) (.type "tuple") = some (match d with | .tuple _ => true | _ => false) := by
  cases d <;> (simp only [tyD]; kernel_rfl)
section
variable {P : Program} {w : World} {H : Hp} {h : Heap} {S : List Addr}
theorem dict_empty (ok : HOk P w H h) {a : Addr} (e : H a = some (.dK [])) : (a == sysModules) = false ∧ ∃ o n, h.get? a = some o ∧ o.cls = .type "dict" ∧ o.data = .dict #[] n := by
  obtain ⟨_, y, vs, r, o, es, ep, e1, c, d, _, pr, _⟩ := (show ObjOk P w H h a (.dK []) from ok a _ e)
  cases r
  have hl : es.toList.length = 0 := pr.length
  have he : es = #[] := by
    cases es with
    | mk l =>
      have : l = [] := List.length_eq_zero_iff.mp hl
      rw [this]
  rw [he] at d
  exact ⟨y, o, ep, e1, c.1, d⟩
mutual
theorem RdS.shows (ok : HOk P w H h) : ∀ {x : V} {d : PyData} {u : Value}, RdS S H x d → RelV x u → d.showable = true → d.shown.length ≤ sizeLine →
    (∃ as, Reads h u d as) ∧ ∃ bs, ReadAtMost h d.depth bs ∧ ReprK P w bs h d.depth u d.shown
  | _, _, _, .non, r, _, _ => by cases r; exact ⟨⟨_, .none⟩, [], (fun _ h => nomatch h), by simp only [PyData.shown]; exact .of_is ReprIs.none _ _ _⟩
  | _, _, _, .bl b, r, _, _ => by cases r; exact ⟨⟨_, .bool b⟩, [], (fun _ h => nomatch h), by simp only [PyData.shown]; exact .of_is (ReprIs.bool b) _ _ _⟩
  | _, _, _, .int i, r, hs, _ => by obtain ⟨t, rfl⟩ := r; exact ⟨⟨_, .int i t⟩, [], (fun _ h => nomatch h), by simp only [PyData.shown]; exact .of_is (ReprIs.int t (by simpa [PyData.showable] using hs)) _ _ _⟩
  | _, _, _, .str x, r, _, hz => by obtain ⟨t, rfl⟩ := r; exact ⟨⟨_, .str x t⟩, [], (fun _ h => nomatch h), by simp only [PyData.shown]; exact .of_is (ReprIs.str x t (by simpa only [PyData.shown] using hz)) _ _ _⟩
  | _, _, _, .lst (a := a) (ds := ds) e _ ra, r, hs, hz => by
    cases r
    obtain ⟨_, its, n, rv, e1⟩ := (show ObjOk P w H h a (.lst _) from ok a _ e)
    have hz' : (listText (PyData.shownAll ds)).length ≤ sizeLine := by simpa only [PyData.shown] using hz
    obtain ⟨⟨as, rr⟩, bs, hb, hk⟩ := RdSs.shows ok ra rv (by simpa [PyData.showable] using hs) (fun t ht => Nat.le_trans (listText_mem_le ht) hz')
    have rd : Reads h (.ref a) (.list ds) (a :: as) := .list e1 rfl rfl (by simpa using rr)
    have hna : a ∉ bs := not_mem_of_deeper rd (by simp only [PyData.depth]; omega) hb
    refine ⟨⟨_, rd⟩, a :: bs, ReadAtMost.cons rd (by simp only [PyData.depth]; omega) hb, ?_⟩
    simp only [PyData.depth, PyData.shown]
    cases its with
    | nil =>
      cases rr
      simp only [PyData.shownAll, listText_nil]
      exact ReprK.listEmpty e1 rfl rfl
    | cons x l => exact ReprK.list e1 rfl rfl hna (by simpa using hk.length_eq) (fun i y e => hk.item i y (by simpa using e))
  | _, _, _, .tup (a := a) (ds := ds) e _ ra, r, hs, hz => by
    cases r
    obtain ⟨_, its, rv, o, e1, c, n, dt⟩ := (show ObjOk P w H h a (.tup _) from ok a _ e)
    have hz' : (tupleText (PyData.shownAll ds)).length ≤ sizeLine := by simpa only [PyData.shown] using hz
    obtain ⟨⟨as, rr⟩, bs, hb, hk⟩ := RdSs.shows ok ra rv (by simpa [PyData.showable] using hs) (fun t ht => Nat.le_trans (tupleText_mem_le ht) hz')
    have rd : Reads h (.ref a) (.tuple ds) as := .tuple e1 c dt (by simpa using rr)
    have hna : a ∉ bs := not_mem_of_deeper rd (by simp only [PyData.depth]; omega) hb
    refine ⟨⟨_, rd⟩, a :: bs, ReadAtMost.cons rd (by simp only [PyData.depth]; omega) hb, ?_⟩
    simp only [PyData.depth, PyData.shown]
    exact ReprK.tuple e1 c dt hna (by simpa using hk)
  | _, _, _, .dct (a := a) e _, r, hs, hz => by
    cases r
    obtain ⟨hsys, o, n, e1, c, dt⟩ := dict_empty ok e
    have rd : Reads h (.ref a) (.dict []) (a :: [] ++ []) := .dict (kvs := []) e1 c dt .nil .nil
    refine ⟨⟨_, rd⟩, a :: [], ReadAtMost.cons (n := 0) rd (Nat.zero_le _) (fun _ h => nomatch h), ?_⟩
    simp only [PyData.depth, PyData.depthKv, PyData.shown, PyData.shownKv]
    exact ReprK.dict e1 c dt hsys (by simp) .nil
theorem RdSs.shows (ok : HOk P w H h) : ∀ {xs : List V} {ds : List PyData} {us : List Value}, RdSs S H xs ds → Vals xs us → PyData.showableAll ds = true → (∀ t ∈ PyData.shownAll ds, t.length ≤ sizeLine) →
    (∃ as, ReadsAll h us ds as) ∧ ∃ bs, ReadAtMost h (PyData.depthAll ds) bs ∧ ReprAllK P w bs h (PyData.depthAll ds) us (PyData.shownAll ds)
  | _, _, _, .nil, .nil, _, _ => ⟨⟨_, .nil⟩, [], (fun _ h => nomatch h), by simp only [PyData.shownAll]; exact .nil⟩
  | _, _, _, .cons (d := d) (ds := ds) r rs, .cons v vs, hs, hz => by
    have hs' : d.showable = true ∧ PyData.showableAll ds = true := by simpa [PyData.showableAll] using hs
    obtain ⟨⟨a1, r1⟩, b1, hb1, k1⟩ := RdS.shows ok r v hs'.1 (hz _ (by simp only [PyData.shownAll]; exact List.mem_cons_self ..))
    obtain ⟨⟨a2, r2⟩, b2, hb2, k2⟩ := RdSs.shows ok rs vs hs'.2 (fun t ht => hz t (by simp only [PyData.shownAll]; exact List.mem_cons_of_mem _ ht))
    refine ⟨⟨_, .cons r1 r2⟩, b1 ++ b2, ?_, ?_⟩
    · simp only [PyData.depthAll]
      exact (hb1.mono (Nat.le_max_left _ _)).append (hb2.mono (Nat.le_max_right _ _))
    · simp only [PyData.depthAll, PyData.shownAll]
      exact .cons ((k1.more fun b hb => List.mem_append_left _ hb).level_le (Nat.le_max_left _ _)) (k2.more_le (fun b hb => List.mem_append_right _ hb) (Nat.le_max_right _ _))
end
end
section
variable {X : Cx}
theorem Inv.big {pins : List (Addr × Obj)} {σ : St} {H : Hp} {s : Shared} (I : Inv X pins σ H s) : sysModules < s.heap.objs.size := by
  have h : mainGlobals < s.heap.objs.size := (I.mod.glob.keeps I.bk).lt
  exact Nat.lt_trans (by decide) h
def tDict0 : TE := fun _ H Q => ∀ p, H p = none → Q (.ref p) (upd H p (.dK []))
theorem pe_dict0 {pos : Pos} : PE X (.Dict [] [] pos) tDict0 := fun pins s σ H Q I h =>
  wpAny_Dict_empty ⟨.ref s.heap.objs.size, _, I.laid (a := s.heap.objs.size) (o := .dK []) (t' := s.toks) (fun _ _ q => Heap.get?_push_of_some _ q) (Nat.le_refl _)
    ⟨Nat.zero_le _, beq_eq_false_iff_ne.mpr (Ne.symm (Nat.ne_of_lt I.big)), [], .nil, Heap.DictOf.new s.heap⟩, rfl, h _ (I.hok.fresh (Nat.le_refl _))⟩
def tRev (te : TE) (ts : TO) : TE := fun σ H Q => te σ H fun x H1 => ts σ H1 fun st H2 => ∃ a xs, st = some (-1) ∧ x = .ref a ∧ H2 a = some (.lst xs) ∧ ∀ p, H2 p = none → Q (.ref p) (upd H2 p (.lst xs.reverse))
theorem vals_rev {xs : List V} {us : List Value} (r : Vals xs us) : Vals xs.reverse us.reverse := by
  induction r with
  | nil => exact .nil
  | cons h t ih =>
    rw [List.reverse_cons, List.reverse_cons]
    exact ih.append (.cons h .nil)
theorem pe_rev {e se : Expr} {te : TE} {ts : TO} {p2 pos : Pos} (he : PE X e te) (hs : PO X (some se) ts) : PE X (.Subscript e (.Slice none none (some se) p2) pos) (tRev te ts) := by
  intro pins s σ H Q I h
  refine Subscript_ (thn (he pins s σ H _ I h) fun v s1 ⟨x, H1, I1, r1, q1⟩ => ?_)
  refine wpAny_Slice ?_
  rw [evalPart_none]
  refine wpAny_pure ?_
  refine wpAny_pure ?_
  refine thn (hs pins s1 σ H1 _ I1 q1) fun vs s2 ⟨st, H2, I2, pst, q2⟩ => ?_
  obtain ⟨a, xs, rfl, rfl, hx, q⟩ := q2
  cases r1
  have I4 : Inv X pins σ H2 { s2 with heap := s2.heap.push { cls := .type "slice", data := .fields #[.none, .none, vs] } } := I2.kept (t' := s2.toks) fun b ob q => Heap.get?_push_of_some _ q
  obtain ⟨its, r, ht, hz⟩ := I4.list (SqL.of hx)
  have hlen := r.length
  show wpAny (model X.prog X.w) X.A (subscriptTail e (.Slice none none (some se) p2) (.ref a) (.ref s2.heap.objs.size)) (EP X pins σ Q) X.xe { s2 with heap := s2.heap.push { cls := .type "slice", data := .fields #[.none, .none, vs] } }
  refine tail_any (ops := [.ref a, .ref s2.heap.objs.size]) ht.isList.typeIs slot_list_getitem.lookup ?_ rfl
  refine wpAny_getItem_list_slice ht.isList (Heap.IsSliceOf.new ..) .none .none pst (by simp) ?_ (by rw [List.size_toArray] <;> omega)
  rw [PySem.W.krv_pick]
  refine ⟨.ref _, _, I4.laid (t' := s2.toks) (o := .lst xs.reverse) (fun b ob q => Heap.get?_push_of_some _ q) (Nat.le_refl _) ?_, rfl, q _ (I4.hok.fresh (Nat.le_refl _))⟩
  have e : its.toArray.toList.reverse.toArray = its.reverse.toArray := by simp
  rw [e]
  exact ⟨by rw [List.length_reverse]; exact hz, its.reverse, 0, vals_rev r, Heap.get?_push_size _ rfl⟩
end
structure Sz (c k : Nat) (d : PyData) : Prop where
  sh : d.showable = true
  le : d.shown.length ≤ c
  dp : d.depth ≤ k
end L2
set_option Elab.async false
set_option linter.all false
set_option maxRecDepth 100000
set_option maxHeartbeats 4000000
namespace L2
open PySem PySem.Spec PyProof.Rows
end L2
set_option Elab.async false
set_option linter.all false
set_option maxRecDepth 100000
set_option maxHeartbeats 4000000
namespace L2
open PySem PySem.Spec PyProof.Rows PySem.Calls
section
variable {prog : Program} {w : World} {A : Around} {E : Value → Shared → Prop} {s : Shared}
end
theorem call_sortedI {X : Cx} : CallR X (.builtin "sorted") (fun xs H Q => ∃ (a : Addr) (ns : List Int), xs = [.ref a] ∧ SqL X.K H a (ns.map V.int) ∧ ns.length < 64 ∧ ∀ (D : Addr) (ms : List Int), H D = none → ms.Perm ns → ms.Pairwise (· ≤ ·) → Q (.ref D) (upd H D (.lst (ms.map V.int)))) := by
  intro pins s σ H xs us Q I rv h
  obtain ⟨a, ns, rfl, hq, h64, q⟩ := h
  obtain ⟨u, rfl, ru⟩ := rv.one
  cases ru
  obtain ⟨its, r, pl, hz⟩ := I.list hq
  have hlen := r.length
  rw [List.length_map] at hlen
  refine sorted_ints pl.isList (ints_of r) (by omega) fun out ms hi hp hs => ?_
  obtain ⟨e, he⟩ := sortedAll_at s.heap its out
  refine ⟨.ref _, _, I.laid (t' := s.toks) (o := .lst (ms.map V.int)) (fun b o => sortedAll_old) (Nat.le_succ _) ⟨?_, out.toList, e, vals_ints hi, ?_⟩, rfl, q _ ms (I.hok.fresh (Nat.le_succ _)) hp hs⟩
  · rw [List.length_map, hp.length_eq]
    exact Nat.le_of_lt (small1000 (by omega))
  · rw [Array.toArray_toList]
    exact he
theorem pg_cz {X : Cx} {N' : List Str} {scope : Scope} {cl : List (Str × Addr)} {C : Addr} {s2 : Shared} {H2 : Hp} {ex : List Addr} {y z : Str} {p1 p2 pos : Pos} {k : Nat} (K : PySem.W.Frag) (hc : X.calm = true) (nd : N'.Nodup) (h0 : N'[0]? = some y := by rfl) (h1 : N'[1]? = some z := by rfl)
    (hy : (relabel scope X.env).names.lookup y = some .local := by rfl) (hz : (relabel scope X.env).names.lookup z = some .local := by rfl) (hK : X.K = K := by rfl) :
    PG (X.comp N' scope cl C s2 H2 ex) (.Tuple [.Name y p1, .Name z p2] k pos) (gTup K 2 (gCons (gName 0) (gCons (gName 1) gNil))) := pg_c2 K hc nd h0 h1 hy hz hK
end L2
set_option Elab.async false
set_option linter.all false
set_option maxRecDepth 100000
set_option maxHeartbeats 4000000
namespace L2
open PySem PySem.Spec PyProof.Rows
end L2
set_option Elab.async false
set_option linter.all false
set_option maxRecDepth 100000
set_option maxHeartbeats 4000000
namespace L2
open PySem PySem.Spec PyProof.Rows
section
variable {X : Cx} {N' : List Str} {scope osc : Scope} {cl : List (Str × Addr)} {C : Addr} {ex : List Addr} {ix : List (Option Nat)} {pins : List (Addr × Obj)} {σ : St} {H2 : Hp} {s2 : Shared}
end
end L2
set_option maxRecDepth 100000
namespace L2
open PySem PySem.Spec PyProof.Rows
theorem ObjOk.get {P : Program} {w : World} {H : Hp} {h : Heap} {a : Addr} {o : HO} (x : ObjOk P w H h a o) : ∃ u, h.get? a = some u := by
  cases o with
  | lst xs => obtain ⟨_, _, _, _, e⟩ := x; exact ⟨_, e⟩
  | tup xs => obtain ⟨_, _, _, _, e, _⟩ := x; exact ⟨_, e⟩
  | dK kvs => obtain ⟨_, _, _, _, o, _, _, e, _⟩ := x; exact ⟨_, e⟩
  | dT kvs => obtain ⟨_, _, _, _, o, _, _, e, _⟩ := x; exact ⟨_, e⟩
  | set S n => obtain ⟨o, _, _, _, e, _⟩ := x; exact ⟨_, e⟩
  | ins C dx fs => obtain ⟨_, _, _, e, _⟩ := x; exact ⟨_, e⟩
  | own y => exact x
  | xd fs => obtain ⟨_, ⟨_, _, _, e, _⟩, _⟩ := x; exact ⟨_, e⟩
  | rng lo hi => obtain ⟨_, _, _, e⟩ := x; exact ⟨_, e⟩
  | frz ob u => exact ⟨_, x.1⟩
  | tbl ps => exact ⟨_, x⟩
  | met f y => exact ⟨_, x⟩
  | ext φ => exact x.2.1
def Trc (h : Heap) (H' : Hp) (g : Heap) (e : Addr) (cls fl : Value) : Prop :=
  ∃ a0 oe vs T oT ts, h.get? e = some oe ∧ (oe.cls = cls ∧ vs[0]? = some a0) ∧ oe.data = .fields vs ∧ vs[1]? = some (.ref T) ∧ T ≠ e ∧ h.get? T = some oT ∧ oT.data = .fields ts ∧ ts[3]? = some fl ∧ (H' e = none ∧ H' T = none) ∧ g.get? e = none ∧ g.get? T = none
structure Fli (P : Program) (w : World) (l : List Env) (H : Hp) (s : Shared) (e : Addr) (cls fl : Value) (H' : Hp) (s' : Shared) : Prop where
  os : s'.os = s.os
  bare : AllBare s'.gens
  un : Un (frs l) [] H H' s.heap s'.heap
  hok : HOk P w H' s'.heap
  tr : Trc s'.heap H' s.heap e cls fl
section
variable {P : Program} {w : World} {l : List Env} {H H' : Hp} {s s1 : Shared} {e : Addr} {cls fl : Value}
theorem fli_of {base : Heap} (F : Fli P w l H s e cls fl H' s1) (hfr : s1.heap.FunFrames base l) (hff : ∀ b ∈ frs l, H' b = none) :
    ∃ (B : Heap) (a0 : Value), (B.StaysIn s1.heap ∧ B.get? e = none ∧ s1.heap.FunFrames B l ∧ s1.heap.TracedAtW B e cls a0 fl) ∧
      ∀ h' fl', B.StaysIn h' → h'.TracedAtW B e cls a0 fl' → s1.heap.UpToSlots h' → Fli P w l H s e cls fl' H' { s1 with heap := h' } := by
  obtain ⟨a0, oe, vs, T, oT, ts, h1, h2, h3, h4, h5, h6, h7, h8, ⟨h9, h10⟩, h11, h12⟩ := F.tr
  have none_of : ∀ b, b ∈ e :: T :: frs l → (PySem.W.hideAll s1.heap (e :: T :: frs l)).get? b = none := fun b hb => PySem.W.hideAll_none _ hb
  have at_of : ∀ b o, s1.heap.get? b = some o → b ∉ e :: T :: frs l → (PySem.W.hideAll s1.heap (e :: T :: frs l)).get? b = some o := fun b o q hb => PySem.W.hideAll_get _ q hb
  have nofld : ∀ b ∈ frs l, ∀ o, s1.heap.get? b = some o → ∀ vs, o.data ≠ .fields vs := fun b hb o q => by
    obtain ⟨_, o', ho', hn⟩ := hfr.mem hb
    rw [q] at ho'; cases ho'; exact hn
  have hidT : ∀ b, H' b ≠ none → b ∉ e :: T :: frs l := fun b q z => by
    rcases List.mem_cons.mp z with r | z
    · rw [r] at q; exact q h9
    · rcases List.mem_cons.mp z with r | z
      · rw [r] at q; exact q h10
      · exact q (hff b z)
  refine ⟨PySem.W.hideAll s1.heap (e :: T :: frs l), a0, ⟨fun b o q => PySem.W.of_hideAll _ q, none_of e List.mem_cons_self, PySem.W.funFrames_hide hfr fun env he a ha => ?_, oe, vs, T, oT, ts, h1, h2, h3, h4, none_of T (by simp), h5, h6, h7, h8⟩, fun h' fl' hB ht hu => ?_⟩
  · exact List.mem_cons_of_mem _ (List.mem_cons_of_mem _ (List.mem_filterMap.mpr ⟨env, he, ha⟩))
  · obtain ⟨oe', vs', T', oT', ts', k1, k2, k3, k4, k5, k6, k7, k8, k9⟩ := ht
    have hT' : H' T' = none := by
      cases q : H' T' with
      | none => rfl
      | some u =>
        obtain ⟨ob, hob⟩ := (F.hok _ _ q).get
        have := at_of T' ob hob (hidT T' (by rw [q]; simp))
        rw [k5] at this; cases this
    have gT' : s.heap.get? T' = none := by
      cases q : s.heap.get? T' with
      | none => rfl
      | some u =>
        obtain ⟨ob, hob⟩ := F.un.there T' u q (by simp)
        by_cases z : T' ∈ e :: T :: frs l
        · rcases List.mem_cons.mp z with r | z
          · exact absurd r k6
          · rcases List.mem_cons.mp z with r | z
            · rw [r, h12] at q; cases q
            · obtain ⟨sl, hsl⟩ := hu T' ob hob (nofld T' z ob hob)
              rw [k7] at hsl; cases hsl
              exact absurd k8 (nofld T' z ob hob _)
        · have := at_of T' ob hob z
          rw [k5] at this; cases this
    have new : ∀ b o, s.heap.get? b = some o → b ∉ frs l → b ∉ e :: T :: frs l := fun b o q hb z => by
      rcases List.mem_cons.mp z with r | z
      · rw [r, h11] at q; cases q
      · rcases List.mem_cons.mp z with r | z
        · rw [r, h12] at q; cases q
        · exact hb z
    refine ⟨F.os, F.bare, ⟨fun b o q n hb _ => ?_, fun b o q n hb _ => ?_, F.un.free, fun b o q _ => ?_, F.un.tups, F.un.frzs, F.un.tbls⟩, fun b o q => ?_, a0, oe', vs', T', oT', ts', k1, k2, k3, k4, k6, k7, k8, k9, ⟨h9, hT'⟩, h11, gT'⟩
    · exact hB b o (at_of b o (F.un.keep b o q n hb (by simp)) (new b o q hb))
    · obtain ⟨sl, q1⟩ := F.un.slot b o q n hb (by simp)
      obtain ⟨sl', q2⟩ := hu b _ q1 (nofld b hb _ q1)
      exact ⟨sl', q2⟩
    · obtain ⟨o', q1⟩ := F.un.there b o q (by simp)
      by_cases hb : b ∈ frs l
      · obtain ⟨sl', q2⟩ := hu b _ q1 (nofld b hb _ q1)
        exact ⟨_, q2⟩
      · exact ⟨o', hB b o' (at_of b o' q1 (new b o q hb))⟩
    · refine (F.hok b o q).stay (fun c v hc r => hB c v (at_of c v r (hidT c ?_))) (fun _ z => z) fun _ _ z => z
      rcases hc with z | z
      · rw [z, q]; simp
      · rw [z]; simp
end
def CXW (P : Program) (w : World) : CXT := fun l H s E ev s' => ∃ e cls H', ev = .ref e ∧ Fli P w l H s e cls .none H' s' ∧ E cls none H'
def Flies (X : Cx) (R : St → Value → Hp → Prop) : Prop := ∀ (pins : List (Addr × Obj)) (σ : St) (H : Hp) (s : Shared) (e : Addr) (cls : Value) (H' : Hp) (s' : Shared), Inv X pins σ H s → Fli X.prog X.w X.stack H s e cls .none H' s' → R σ cls H' → X.xe (.ref e) s'
def Throws (X : Cx) (R : St → Value → Hp → Prop) : Prop := ∀ (pins : List (Addr × Obj)) (σ : St) (H : Hp) (s : Shared) (e : Addr) (cls : Value) (vs : List Value) (h' : Heap), Inv X pins σ H s → Heap.MadeExcOf s.heap h' e cls vs → R σ cls H → X.xe (.ref e) { s with heap := h' }
section
variable {X : Cx} {pins : List (Addr × Obj)} {σ : St} {H H' : Hp} {s s' : Shared} {e : Addr} {cls fl : Value}
theorem Inv.fly (I : Inv X pins σ H s) (F : Fli X.prog X.w X.stack H s e cls fl H' s') : Inv X pins σ H' s' := I.call' (ch := []) F.os F.un F.hok F.bare fun b z => absurd z (by simp)
theorem Inv.old (I : Inv X pins σ H s) (hex : X.ex = []) {b : Addr} (h : s.heap.get? b = none) : X.s₀.heap.get? b = none := by
  cases q : X.s₀.heap.get? b with
  | none => rfl
  | some o =>
    obtain ⟨o', q'⟩ := I.base.there b o q (by rw [hex]; simp)
    rw [h] at q'; cases q'
theorem Fli.out (I : Inv X pins σ H s) (F : Fli X.prog X.w X.stack H s e cls fl H' s') (hex : X.ex = []) : Fli X.prog X.w X.outer X.H₀ X.s₀ e cls fl H' s' := by
  have J := I.fly F
  obtain ⟨a0, oe, vs, T, oT, ts, h1, h2, h3, h4, h5, h6, h7, h8, h9, h11, h12⟩ := F.tr
  refine ⟨J.os, J.bare, ?_, J.hok, a0, oe, vs, T, oT, ts, h1, h2, h3, h4, h5, h6, h7, h8, h9, I.old hex h11, I.old hex h12⟩
  have := J.base
  rw [hex] at this
  exact this
theorem fli_made {B h' h'' : Heap} {a0 : Value} {vs : List Value} (I : Inv X pins σ H s) (hB : B = PySem.W.hideAll s.heap (frs X.stack)) (hx : Heap.MadeExcOf s.heap h' e cls vs) (ht : h''.TracedW B e cls a0) (hs : B.StaysIn h'') (hu : h'.UpToSlots h'') :
    Fli X.prog X.w X.stack H s e cls .none H { s with heap := h'' } := by
  subst hB
  obtain ⟨oe, ws, T, oT, ts, k1, k2, k3, k4, k5, k6, k7, k8, k9⟩ := ht
  have nofld : ∀ b ∈ frs X.stack, ∃ o, s.heap.get? b = some o ∧ ∀ vs, o.data ≠ .fields vs := fun b hb => (I.stack.mem hb).2
  have at_of : ∀ b o, s.heap.get? b = some o → b ∉ frs X.stack → h''.get? b = some o := fun b o q hb => hs b o (PySem.W.hideAll_get _ q hb)
  have gT : s.heap.get? T = none := by
    cases q : s.heap.get? T with
    | none => rfl
    | some u =>
      by_cases z : T ∈ frs X.stack
      · obtain ⟨o, ho, hn⟩ := nofld T z
        obtain ⟨sl, hsl⟩ := hu T o (hx.keeps T o ho) hn
        rw [k7] at hsl; cases hsl
        exact absurd k8 (hn _)
      · have := PySem.W.hideAll_get _ q z
        rw [k5] at this; cases this
  have fr : ∀ b, s.heap.get? b = none → H b = none := fun b q => by
    cases r : H b with
    | none => rfl
    | some u =>
      obtain ⟨o, ho⟩ := (I.hok b u r).get
      rw [q] at ho; cases ho
  have sl : ∀ b o, s.heap.get? b = some o → b ∈ frs X.stack → ∃ sl, h''.get? b = some { o with slots := sl } := fun b o q hb => by
    obtain ⟨o', ho', hn⟩ := nofld b hb
    rw [q] at ho'; cases ho'
    exact hu b o (hx.keeps b o q) hn
  refine ⟨rfl, I.bare, ⟨fun b o q _ hb _ => at_of b o q hb, fun b o q _ hb _ => sl b o q hb, fun _ _ _ n _ => n, fun b o q _ => ?_, fun _ _ q => q, fun _ _ _ q => q, fun b ps q => ⟨#[], by rw [q]; simp⟩⟩, fun b o q => ?_, a0, oe, ws, T, oT, ts, k1, k2, k3, k4, k6, k7, k8, k9, ⟨fr e hx.new, fr T gT⟩, hx.new, gT⟩
  · by_cases hb : b ∈ frs X.stack
    · obtain ⟨_, z⟩ := sl b o q hb
      exact ⟨_, z⟩
    · exact ⟨o, at_of b o q hb⟩
  · refine (I.hok b o q).stay (fun c v hc r => at_of c v r fun hb => ?_) (fun _ z => z) fun _ _ z => z
    have n := I.stkFree c hb
    rcases hc with z | z
    · rw [z, q] at n; cases n
    · rw [z] at n; cases n
end
section
variable {P : Program} {w : World} {K : PySem.W.Frag} {mg : Str → Option Value} {base : Heap} {N : List Str} {qual : Str} {scope : Scope} {f : Addr} {cd : Value} {A : Around} {outer : List Env} {s : Shared} {H : Hp} {E : XK}
theorem flies_def : Flies (cxOf (CXW P w) P w K mg base N qual scope f cd A outer s H E) fun _ cls H' => E cls none H' := by
  intro pins σ H1 s1 e cls H' s' I F r
  have J := I.fly F
  obtain ⟨B, a0, ⟨b1, b2, b3, b4⟩, st⟩ := fli_of F J.stack J.stkFree
  refine wpAny_leaves_onW I.ok.frames rfl ⟨b1, b2, b3, b4⟩ fun h' hf hu => ?_
  exact ⟨e, cls, H', rfl, Fli.out I (st h' .none hf.1 hf.2.2.2 hu) rfl, r⟩
theorem throws_def : Throws (cxOf (CXW P w) P w K mg base N qual scope f cd A outer s H E) fun _ cls H' => E cls none H' := by
  intro pins σ H1 s1 e cls vs h' I hx r
  refine wpAny_leaves_madeW (base := PySem.W.hideAll s1.heap (frs (envOfC qual scope s.heap.objs.size f cd :: outer))) I.ok.frames rfl (fun b o q => PySem.W.of_hideAll _ q)
    (PySem.W.funFrames_hide I.stack fun env he a ha => List.mem_filterMap.mpr ⟨env, he, ha⟩) hx fun h'' t hf _ _ hu => ?_
  exact ⟨e, cls, H1, rfl, Fli.out I (fli_made I rfl hx hf.2.2.2 hf.1 hu) rfl, r⟩
end
def FnAtX (P : Program) (w : World) (K : PySem.W.Frag) (mg : Str → Option Value) (base : Heap) (k : Nat) (x : Str) (ps : List Str) (sp : Sp) : Prop :=
  ∃ f, mg x = some (.ref f) ∧ PySem.W.keepIn K (.ref f) = true ∧ (∀ vs H Q E, sp vs H Q E → vs.length = ps.length) ∧
    ∀ (A : Around) (outer : List Env) (s : Shared) (H : Hp) (us : List Value) (vs : List V) (Q : VK) (E : XK), Room k A → Env0 P w K mg base A outer s H → Vals vs us → sp vs H Q E → codeAny (model P w) A (.call (.ref f) ⟨us, []⟩) (CR (CXW P w) outer P w H s Q E) s
section
variable {P : Program} {w : World} {K : PySem.W.Frag} {mg : Str → Option Value} {base : Heap} {j k : Nat} {x : Str} {ps : List Str} {sp sp' : Sp}
theorem FnAtX.at {CX : CXT} {f : Addr} {fd : FuncData} (F : FnOk P w K mg base CX k f fd ps sp) (hm : mg x = some (.ref f)) (hk : PySem.W.keepIn K (.ref f) = true) (hb : Binds K fd ps []) (hc : ∀ l H s E e s', CX l H s E e s' → CXW P w l H s E e s') : FnAtX P w K mg base k x ps sp := by
  refine ⟨f, hm, hk, F.len, fun A outer s H us vs Q E hr e0 r q => ?_⟩
  have hl : us.length = ps.length := by rw [← r.length]; exact F.len _ _ _ _ q
  refine codeAny_mono (F.run A outer s H ⟨us, []⟩ us vs Q E hr e0 (by simpa using hb s us (e0.mod.kin.keeps fun b o z => (e0.bs b o z).1) (by simpa using hl)) r q) fun res s' hq => ?_
  cases res with
  | error ev => exact hc _ _ _ _ _ _ hq
  | ok fl => cases fl <;> exact hq
theorem FnAtX.of {st : Stmt} {N : List Str} (D : DefAt K mg x st ps) (S : FnScope N ps (defScope st)) (len : ∀ vs H Q E, sp vs H Q E → vs.length = ps.length)
    (hbody : ∀ (f : Addr) (cdv : Value) (A : Around) (outer : List Env) (s : Shared) (H : Hp) (vs : List V) (Q : VK) (E : XK), Room k (A.deeper (envOfC x (defScope st) s.heap.objs.size f cdv)) → sp vs H Q E →
      ∃ t, PSs (cxOf (CXW P w) P w K mg base N x (defScope st) f cdv A outer s H E) (defBody st) t ∧ t { nx := fun _ H' => Q .non H', rt := Q } (start N vs) H) : FnAtX P w K mg base (k + 1) x ps sp := by
  obtain ⟨f, fd, F, hm, hb⟩ := D
  obtain ⟨oc, od, kV, doc, pm, an, cdv, ct, osl, rfl, lk, hcd⟩ := F.ex
  exact .at (CX := CXW P w) (fn_of lk hcd S len fun A outer s H vs Q E hr hsp => hbody f cdv A outer s H vs Q E hr hsp) hm F.kp hb fun _ _ _ _ _ _ z => z
end
def tFx (sp : Sp) (R : St → Value → Hp → Prop) (t : TA) : TE := fun σ H Q => t σ H fun vs H1 => sp vs H1 Q fun cls _ H' => R σ cls H'
section
variable {X : Cx} {k : Nat} {x : Str} {ps : List Str} {sp : Sp} {e : Expr} {es : List Expr} {t : TA} {p pos : Pos} {R : St → Value → Hp → Prop}
theorem pe_fx (F : FnAtX X.prog X.w X.K X.mg X.base k x ps sp) (hr : Room k X.A) (hR : Flies X R) (ha : PA X (e :: es) t) (hg : Gl X x := by rfl) (hdb : (x == ("__debug__" : Str)) = false := by decide)
    (he : starEach (e :: es) X.env = (false, eval e X.env) :: starEach es X.env := by rfl) (hpl : (backTo pos (starEach es X.env)).any (·.1) = false := by rfl) : PE X (.Call (.Name x p) (e :: es) [] pos) (tFx sp R t) := by
  obtain ⟨f, hm, hk, hl, run⟩ := F
  intro pins s σ H Q I h
  refine wpAny_Call_Name_kw (ld_glob I hg hm ?_ hdb)
  refine PySem.W.callWith_K (h₀ := X.base) I.ok.mod.kin hk (thn (ha pos pins s σ H _ I h) fun us s1 ⟨vs, H1, I1, r, q⟩ => ⟨I1.kIn, ?_⟩) he hpl
  refine wpAny_call (codeAny_mono (run X.A X.stack s1 H1 us vs Q _ hr I1.env0 r q) fun res s' hq => ?_)
  cases res with
  | error ev =>
    obtain ⟨e', cls, H', rfl, Fl, rr⟩ := hq
    exact hR pins σ H1 s1 e' cls H' s' I1 Fl rr
  | ok fl =>
    cases fl with
    | ret u => exact I1.after hq
    | next => exact False.elim hq
    | brk => exact False.elim hq
    | cont => exact False.elim hq
end
end L2
set_option maxRecDepth 100000
namespace L2
open PySem PySem.Spec PySem.Calls PyProof.Rows
open Builtin Builtin.ObjectAttr Builtin.Getset_descriptor
structure ExcK (K : PySem.W.Frag) (C : Addr) : Prop where
  exc : PySem.W.excIn K C [.type "ValueError", .type "Exception", .type "BaseException", .type "object"] "ValueError.__new__" = true
  ga : PySem.W.findIn K (.ref C) "__getattribute__" = some (some (.builtin "BaseException.__getattribute__"))
  gt : PySem.W.findIn K (.ref C) "__getattr__" = some none
  cl : PySem.W.findIn K (.ref C) "__class__" = some (some (.builtin "object.__class__"))
  ob : PySem.W.mroIn K C (.type "object") = some true
  bx : PySem.W.mroIn K C (.type "BaseException") = some true
theorem exc_obj {K : PySem.W.Frag} {h : Heap} {C : Addr} {nid : String} {bmB : List Value} (Y : K.In h) (q : PySem.W.excIn K C bmB nid = true) :
    ∃ bm N nm qn bs hd sn sub ab col dd k0 k1 k2 k3 k5 mN, h.get? C = some (excClassObj nm qn C N bs bm hd sn sub ab col dd k0 k1 k2 k3 k5 nid) ∧ h.Ns N mN ∧ mN "__init__" = none ∧ OwnTail h bmB bm := by
  unfold PySem.W.excIn at q
  split at q
  · next dd cdt slt hlk =>
    split at q
    · next C1 bm1 j0 j1 j2 j3 n1 j5 hmro hslots =>
      simp only [Bool.and_eq_true, beq_iff_eq, Bool.not_eq_true'] at q
      obtain ⟨⟨⟨⟨⟨e1, e2⟩, hdl⟩, htl⟩, hns⟩, hin⟩ := q
      subst e1 e2
      obtain ⟨nm, bs, mro, ns, qn, hd, sn, sub, ab, col, del⟩ := cdt
      dsimp only at hmro hdl hns hin
      subst hmro hdl
      obtain ⟨sll⟩ := slt
      have hz : sll = [j0, j1, j2, j3, some (.builtin n1), j5] := hslots
      subst hz
      exact ⟨bm1, ns, nm, qn, bs, hd, sn, sub, ab, col, dd, j0, j1, j2, j3, j5, _, Y _ _ hlk, .of_isNs (PySem.W.isNs_of_in Y hns), PySem.W.nsMap_none_of_in Y hns hin, PySem.W.tail_of_in Y htl⟩
    · cases q
  · cases q
def tRaise (R : St → Value → Hp → Prop) (C : Addr) : TS := fun _ σ H => R σ (.ref C) H
theorem ps_raise {X : Cx} {R : St → Value → Hp → Prop} {x : Str} {C : Addr} {e₀ : Expr} {msg : Str} {np cpos pos : Pos} (hx : Throws X R) (hk : ExcK X.K C) (ha : PE X e₀ (tC (.str msg))) (hm : X.mg x = some (.ref C)) (hg : Gl X x := by rfl) (hc : X.calm = true := by rfl)
    (hdb : (x == ("__debug__" : Str)) = false := by decide) (he : starEach [e₀] X.env = (false, eval e₀ X.env) :: starEach [] X.env := by rfl) (hpl : (backTo cpos (starEach ([] : List Expr) X.env)).any (·.1) = false := by rfl) :
    PS X (.Raise (some (.Call (.Name x np) [e₀] [] cpos)) none pos) (tRaise R C) := by
  intro pins s σ H D I h
  obtain ⟨bm, N, nm, qn, bs, hd, sn, sub, ab, col, dd, k0, k1, k2, k3, k5, mN, hC, hN, hni, T⟩ := exc_obj I.ok.mod.kin hk.exc
  have hpa : PA X [e₀] (tCons (tC (.str msg)) tNil) := pa_cons ha pa_nil he
  refine wpAny_Raise_call_subU (nm := nm) (q := qn) (N := N) (bs := bs) (hdct := hd) (sn := sn) (sub := sub) (ab := ab) (col := col) (dd := dd) (k0 := k0) (k1 := k1) (k2 := k2) (k3 := k3) (k5 := k5) PySem.F.excBase_ValueError (by decide) PySem.F.excBase_ValueError (T.hasType (b := true) (by decide)) (I.ok.hd hc) (by rw [he]; show (false || (backTo cpos (starEach ([] : List Expr) X.env)).any (·.1)) = false; rw [hpl]; rfl) hni (ld_glob I hg hm ⟨rfl, ?_⟩ hdb)
  have z := hpa cpos pins s σ H (fun vs H1 => vs = [.str msg] ∧ H1 = H) I ⟨rfl, rfl⟩
  rw [he] at z ⊢
  refine Calls.evalArgs_plain (wpAny_mono z (fun us s2 ⟨vs, H1, I2, r, hv, hH⟩ => ?_) fun _ _ y => y)
  subst hv hH
  have hl : us.length = 1 := by rw [← r.length]; rfl
  refine ⟨rfl, by show us.length ≤ _; rw [hl]; decide, I2.bk _ _ hC, hN.keeps I2.bk, T.keeps I2.bk, fun h' e hx' => ?_⟩
  exact hx pins σ _ s2 e _ _ h' I2 hx' h
theorem exc_match {M : Model} {A : Around} {E : Value → Shared → Prop} {Q : Bool → Shared → Prop} {K : PySem.W.Frag} {e C D : Addr} {oe : Obj} {s : Shared} (Y : K.In s.heap) (hD : ExcK K D) (hm : PySem.W.mroIn K C (.ref D) = some true)
    (he : s.heap.get? e = some oe) (hcls : oe.cls = .ref C) (hq : Q true s) : wpAny M A (excMatches (.ref e) (.ref D)) Q E s := by
  obtain ⟨h, g, d, t, os⟩ := s
  obtain ⟨bm, N, nm, qn, bs, hd, sn, sub, ab, col, dd, k0, k1, k2, k3, k5, mN, hO, hN, hni, T⟩ := exc_obj Y hD.exc
  have hcB : (Value.ref D :: bm).contains (.type "BaseException") = true := by rw [List.contains_cons, T.hasType (b := true) (by decide), Bool.or_true]
  have L := PySem.W.looks_mroIn (M := M) Y hm
  have f := tc_notTuple
  unfold excMatches
  repeat (first | (with_reducible refine wpAny_loadPart_at he ?_; rw [hcls]) | with_reducible refine wpAny_loadPart_at hO ?_ | (with_reducible refine wpAny_isSubtype_exc hO ?_; rw [hcB]) | with_reducible refine L.at ?_ | wp_step)
  exact hq
def ExcAt (e C : Addr) (h : Heap) : Prop := ∃ oe vs, h.get? e = some oe ∧ oe.cls = .ref C ∧ oe.data = .fields vs
section
variable {K : PySem.W.Frag} {C e : Addr}
theorem excAt_ty {h : Heap} (M : Model) (p : ExcAt e C h) : PySem.W.Looks M h (typeOf (.ref e)) (.ref C) := by
  obtain ⟨oe, vs, h1, h2, _⟩ := p
  exact h2 ▸ (PySem.W.Looks.ld h1).andThen .now
theorem exc_cls (k : ExcK K C) : ∃ c' d' cd sl, K.lookup C = some ⟨c', d', .cls cd, sl⟩ := by
  obtain ⟨cd, a, _⟩ := Option.bind_eq_some_iff.mp k.ob
  unfold PySem.W.clsIn at a
  split at a
  · next z => exact ⟨_, _, _, _, z⟩
  · cases a
theorem exc_check {M : Model} {A : Around} {E : Value → Shared → Prop} {h : Heap} {g : Array GenState} {d : Drawn} {t : Nat} {os : OsState} {nv : Value} {Q : Unit → Shared → Prop} (k : ExcK K C) (Y : K.In h) (p : ExcAt e C h) (hq : Q () ⟨h, g, d, t, os⟩) :
    wpAny M A (checkBuiltinCall "BaseException.__getattribute__" ⟨[.ref e, nv], []⟩) Q E ⟨h, g, d, t, os⟩ := by
  have hkd : builtinKind "BaseException.__getattribute__" = some .slot := by decide +kernel
  have hsp : splitId "BaseException.__getattribute__" = some ("BaseException", "__getattribute__") := by decide +kernel
  have L0 := excAt_ty M p
  have L1 := PySem.W.looks_mroIn (M := M) Y k.bx
  have ha := F.args_bexc_ga (.ref e) nv
  simp only [checkBuiltinCall, hkd, hsp]
  refine wpAny_bind ?_
  unfold isInstance
  repeat (first | with_reducible refine L0.at ?_ | with_reducible refine L1.at ?_ | wp_step)
  exact hq
theorem exc_clsget {prog : Program} {w : World} {A : Around} {h : Heap} {g : Array GenState} {d : Drawn} {t : Nat} {os : OsState} {tp : Value} {R : Result → Shared → Prop} (k : ExcK K C) (Y : K.In h) (p : ExcAt e C h) (hq : R (.ok (.ret (.ref C))) ⟨h, g, d, t, os⟩) :
    codeAny (model prog w) A (.call (.builtin "getset_descriptor.__get__") ⟨[.builtin "object.__class__", .ref e, tp], []⟩) R ⟨h, g, d, t, os⟩ := by
  have L0 := excAt_ty (model prog w) p
  have L1 := PySem.W.looks_mroIn (M := model prog w) Y k.ob
  refine codeAny_call_builtin PySem.W.KF.slot_gs.plain PySem.W.KF.entry_gs (PySem.W.KF.slot_gs.check _ _ _ _ _ _ _ _ PySem.W.KF.type_class (PySem.W.KF.args_gs _ _ _) ?_)
  unfold Builtin.«getset_descriptor.__get__» descrGet
  rw [PySem.W.dga_obj]
  refine wpAny_bind (wpAny_pure ?_)
  unfold descrGetter descrCheckInstance descrNameAndClass isInstance
  simp only [PySem.W.KF.owner_class]
  repeat lk
  refine ⟨Code.quiet_builtin _ (by decide +kernel), codeAny_builtin PySem.W.KF.entry_class ?_⟩
  unfold Builtin.«object.__class__» shownTypeOf
  repeat lk
  exact hq
theorem exc_clsent {prog : Program} {w : World} {A : Around} {E : Value → Shared → Prop} {h : Heap} {g : Array GenState} {d : Drawn} {t : Nat} {os : OsState} {tk : Tok} {Q : Fin → Shared → Prop} (k : ExcK K C) (Y : K.In h) (p : ExcAt e C h) (hq : Q (.done (.ret (.ref C))) ⟨h, g, d, t, os⟩) :
    wpAny (model prog w) A (Builtin.«object.__getattribute__» ⟨[.ref e, .str "__class__" tk], []⟩) Q E ⟨h, g, d, t, os⟩ := by
  have L0 := excAt_ty (model prog w) p
  have L1 := PySem.W.looks_findIn (M := model prog w) Y k.cl
  have hT5 : (⟨h, g, d, t, os⟩ : Shared).TypeIs (.builtin "object.__class__") "getset_descriptor" := F.typeOf_object_class
  have f5 := F.typeOf_object_class
  have f6 := F.slot_gs_get.lookup
  have f7 := F.slot_gs_set.lookup
  repeat (any_goals (first | assumption | with_reducible refine L0.at ?_ | with_reducible refine L1.at ?_ | wp_step))
  refine exc_clsget k Y p ?_
  repeat (any_goals (first | assumption | wp_step))
theorem exc_clsattr {prog : Program} {w : World} {A : Around} {E : Value → Shared → Prop} {Q : Option Value → Shared → Prop} {s : Shared} (k : ExcK K C) (Y : K.In s.heap) (p : ExcAt e C s.heap) (hq : Q (some (.ref C)) { s with toks := s.toks + 1 }) :
    wpAny (model prog w) A (getAttr? (.ref e) "__class__") Q E s := by
  obtain ⟨h, g, d, t, os⟩ := s
  have L0 := excAt_ty (model prog w) p
  have L1 := PySem.W.looks_findIn (M := model prog w) Y k.ga
  have L2 := PySem.W.looks_findIn (M := model prog w) Y k.gt
  have f3 := F.attr_ValueError.ga.bind (.ref e)
  unfold getAttr? getAttrBy? getAttrBy
  refine wpAny_bind (wpAny_mkText (wpAny_bind (wpAny_attempt (wpAny_holding (wpAny_bind (L0.at (wpAny_bind (L1.at ?_))))))))
  show wpAny _ _ (getAttrByItsOwn (.ref e) _ (.ref C) (.builtin "BaseException.__getattribute__") false false) _ _ _
  unfold getAttrByItsOwn
  refine wpAny_bind (m := hookBefore (.ref C)) (L2.at ?_)
  refine wpAny_bind (wpAny_attempt (wpAny_holding ?_))
  show wpAny _ _ (boundAndCalled (.builtin "BaseException.__getattribute__") (.ref e) _) _ _ _
  unfold boundAndCalled
  refine wpAny_bind (wpAny_of_eq f3 ?_)
  refine wpAny_call (codeAny_call_builtin F.attr_ValueError.ga.plain F.entry_bexc_ga (exc_check k Y p (exc_clsent k Y p ?_)))
  show wpAny _ _ (handedOut (.ref C)) _ _ _
  exact wpAny_pure (wpAny_pure hq)
theorem kitx_exc (k : ExcK K C) : PySem.W.KitX K (.ref e) (.ref C) (ExcAt e C) where
  ty := fun M _ _ p => excAt_ty M p
  it := fun _ _ Y _ => by
    obtain ⟨_, _, _, _, z⟩ := exc_cls k
    intro A' Q' E' s' kk q
    unfold isType loadHead
    exact wpAny_bind (wpAny_loadPart (kk _ _ (Y _ _ z)) (wpAny_pure q))
  ne := fun h tp dd its n sl Y htp => by
    obtain ⟨_, _, _, _, z⟩ := exc_cls k
    refine Bool.eq_false_iff.mpr fun q => ?_
    have e' : C = tp := Value.ref.inj (beq_iff_eq.mp q)
    subst e'
    cases (Y _ _ z).symm.trans htp
  ca := fun Y p kk => exc_clsattr k Y p kk
end
end L2
set_option maxRecDepth 100000
namespace L2
open PySem PySem.Spec PySem.Calls PyProof.Rows
def excO (e C : Addr) : HO := .ext (ExcAt e C)
theorem excO_ok {P : Program} {w : World} {H : Hp} {h : Heap} {e C : Addr} (p : ExcAt e C h) : ObjOk P w H h e (excO e C) :=
  ⟨p, let ⟨oe, _, h1, _⟩ := p; ⟨oe, h1⟩, fun _ _ ⟨oe, vs, h1, h2, h3⟩ kk => ⟨oe, vs, kk _ h1, h2, h3⟩⟩
theorem excO_at {X : Cx} {pins : List (Addr × Obj)} {σ : St} {H : Hp} {s : Shared} {e C : Addr} (I : Inv X pins σ H s) (q : H e = some (excO e C)) : ExcAt e C s.heap := (I.hok e _ q).1
abbrev Cx.tryC (X : Cx) (pn : List (Addr × Obj)) (W : Value → Shared → Prop) : Cx := { X with pn := X.pn ++ pn, xe := W }
abbrev Cx.hand (X : Cx) (v : Value) : Cx := { X with A := X.A.mark (some v), calm := false, xe := fun _ _ => False }
section
variable {X : Cx} {pins pn : List (Addr × Obj)} {W : Value → Shared → Prop} {σ : St} {H : Hp} {s : Shared} {v : Value}
theorem Cx.Ok.tryC (ok : X.Ok) (pn : List (Addr × Obj)) (W : Value → Shared → Prop) : (X.tryC pn W).Ok :=
  ⟨ok.mod, ok.kind, ok.glob, ok.blt, ok.above, ok.inj, ok.has, ok.cab, ok.hd, ok.frames, ok.stk, ok.exf, ok.bs, ok.bsz, ok.noex, ok.exfs, ok.funs, ok.frf⟩
theorem Cx.Ok.unTry (ok : (X.tryC pn W).Ok) : X.Ok :=
  ⟨ok.mod, ok.kind, ok.glob, ok.blt, ok.above, ok.inj, ok.has, ok.cab, ok.hd, ok.frames, ok.stk, ok.exf, ok.bs, ok.bsz, ok.noex, ok.exfs, ok.funs, ok.frf⟩
theorem Cx.Ok.hand (ok : X.Ok) (v : Value) : (X.hand v).Ok :=
  ⟨ok.mod, ok.kind, ok.glob, ok.blt, ok.above, ok.inj, ok.has, ok.cab, (fun z => nomatch z), ok.frames, ok.stk, ok.exf, ok.bs, ok.bsz, ok.noex, ok.exfs, ok.funs, ok.frf⟩
theorem Inv.tryIn (I : Inv X pins σ H s) (W : Value → Shared → Prop) : Inv (X.tryC pins W) [] σ H s :=
  ⟨I.ok.tryC pins W, I.os, I.bare, I.base, I.loc, I.cell, I.free, I.freeC, fun p hp => I.pin p (by simpa using hp), I.hok, I.len⟩
theorem Inv.tryOut (I : Inv (X.tryC pn W) pins σ H s) : Inv X pn σ H s :=
  ⟨I.ok.unTry, I.os, I.bare, I.base, I.loc, I.cell, I.free, I.freeC, fun p hp => I.pin p (List.mem_append_left _ hp), I.hok, I.len⟩
theorem Inv.hand (I : Inv X pins σ H s) (v : Value) : Inv (X.hand v) pins σ H s :=
  ⟨I.ok.hand v, I.os, I.bare, I.base, I.loc, I.cell, I.free, I.freeC, I.pin, I.hok, I.len⟩
theorem Inv.unhand (I : Inv (X.hand v) pins σ H s) (ok : X.Ok) : Inv X pins σ H s :=
  ⟨ok, I.os, I.bare, I.base, I.loc, I.cell, I.free, I.freeC, I.pin, I.hok, I.len⟩
theorem SP.tryOut {D : Ends} {f : Flow} {s' : Shared} (h : SP (X.tryC pn W) pins D f s') : SP X pn D f s' := by
  cases f with
  | next => obtain ⟨σ', H', I, q⟩ := h; exact ⟨σ', H', I.tryOut, q⟩
  | brk => obtain ⟨σ', H', I, q⟩ := h; exact ⟨σ', H', I.tryOut, q⟩
  | cont => obtain ⟨σ', H', I, q⟩ := h; exact ⟨σ', H', I.tryOut, q⟩
  | ret u => obtain ⟨v, σ', H', I, r, q⟩ := h; exact ⟨v, σ', H', I.tryOut, r, q⟩
theorem Inv.gone {i : Nat} {n : Str} {h' : Heap} {t' : Nat} {v' : Option Value} {m : Str → Option Value} (I : Inv X pins σ H s) (hN : X.N.Nodup) (hi : X.N[i]? = some n)
    (hm : ∀ (j : Nat) (x : Str) (v : V), X.N[j]? = some x → σ[j]? = some (some v) → Vis X.env.scope x → ∃ u, RelV v u ∧ Look X.env s.heap m x u)
    (hn' : h'.Ns X.env.locals (fun x => if x = n then v' else m x)) (hs : Heap.SameBut X.env.locals s.heap h') : Inv X pins (σ.set i none) H { s with heap := h', toks := t' } := by
  obtain ⟨mm, ⟨oL, _, _, hoL, _⟩, _⟩ := id I.loc
  have cne := I.cne
  refine ⟨I.ok, I.os, I.bare, ⟨fun b o e n hb hx => ?_, fun b o e n hb hx => ?_, I.base.free, fun b o e hx => ?_, I.base.tups, I.base.frzs, I.base.tbls⟩, ⟨_, hn', fun j y w e1 e2 e3 => ?_⟩, fun y c e => ?_, I.free, I.freeC, fun p hp => ?_, fun b ob e => ?_, by simpa using I.len⟩
  · exact (hs.2 b (Nat.ne_of_lt (Nat.lt_of_lt_of_le (Heap.lt_size e) I.ok.above))).trans (I.base.keep b o e n hb hx)
  · obtain ⟨sl, e1⟩ := I.base.slot b o e n hb hx
    exact ⟨sl, (hs.2 b (Nat.ne_of_lt (Nat.lt_of_lt_of_le (Heap.lt_size e) I.ok.above))).trans e1⟩
  · obtain ⟨o', e1⟩ := I.base.there b o e hx
    exact ⟨o', (hs.2 b (Nat.ne_of_lt (Nat.lt_of_lt_of_le (Heap.lt_size e) I.ok.above))).trans e1⟩
  · have hji : j ≠ i := by
      rintro rfl
      rw [List.getElem?_set] at e2
      split at e2
      · split at e2 <;> cases e2
      · next z => exact z rfl
    rw [List.getElem?_set_ne (Ne.symm hji)] at e2
    obtain ⟨u, r, q⟩ := hm j y w e1 e2 e3
    refine ⟨u, r, ?_⟩
    rcases q with ⟨kk, q⟩ | ⟨kk, c, q, z⟩
    · refine .inl ⟨kk, ?_⟩
      have : y ≠ n := fun z => hji (nodup_ix hN e1 (z ▸ hi))
      simp [this, q]
    · exact .inr ⟨kk, c, q, z.sameBut hs (cne y c q)⟩
  · obtain ⟨w, z⟩ := I.cell y c e
    exact ⟨w, z.sameBut hs (cne y c e)⟩
  · obtain ⟨e, n, ne, nf, d⟩ := I.pin p hp
    exact ⟨(hs.2 p.1 ne).trans e, n, ne, nf, d⟩
  · refine (I.hok b ob e).stay (fun c w' hc q => (hs.2 c ?_).trans q) (fun _ q => q) fun _ _ q => q
    rintro rfl
    rcases hc with z | hc
    · rw [← z, I.free] at e; cases e
    · rw [I.free] at hc; cases hc
theorem Inv.catch {H' : Hp} {s' : Shared} {e C : Addr} (I : Inv X pins σ H s) (F : Fli X.prog X.w X.stack H s e (.ref C) .none H' s') : Inv X pins σ (upd H' e (excO e C)) s' := by
  obtain ⟨a0, oe, vs, T, oT, ts, h1, h2, h3, h4, h5, h6, h7, h8, ⟨h9, h10⟩, h11, h12⟩ := F.tr
  refine I.call' (ch := []) F.os ⟨F.un.keep, F.un.slot, fun b o q n hx => ?_, F.un.there, fun b xs q => ?_, fun b o u q => ?_, fun b ps q => ?_⟩ (fun b o q => ?_) F.bare fun b z => absurd z (by simp)
  · rw [upd_ne (fun z => by rw [z, h11] at q; cases q)]
    exact F.un.free b o q n hx
  · have z := F.un.tups b xs q
    rw [upd_ne (ne_of_none z h9)]; exact z
  · have z := F.un.frzs b o u q
    rw [upd_ne (ne_of_none z h9)]; exact z
  · obtain ⟨m, z⟩ := F.un.tbls b ps q
    exact ⟨m, by rw [upd_ne (ne_of_none z h9)]; exact z⟩
  · by_cases hb : b = e
    · subst hb
      rw [upd_same] at q; cases q
      exact excO_ok ⟨oe, vs, h1, h2.1, h3⟩
    · rw [upd_ne hb] at q
      exact (F.hok b o q).stay (fun _ _ _ r => r) (fun c r => by rw [upd_ne (ne_of_none r h9)]; exact r) fun c xs r => by rw [upd_ne (ne_of_none r h9)]; exact r
end
def Ends.gone (D : Ends) (i : Nat) : Ends := { nx := fun σ H => D.nx (σ.set i none) H, rt := D.rt, bk := fun σ H => D.bk (σ.set i none) H, ct := fun σ H => D.ct (σ.set i none) H }
def RTry (K : PySem.W.Frag) (Dc : Addr) (i : Nat) (th : TS) (D : Ends) : St → Value → Hp → Prop := fun σ cls H' => ∃ C, cls = .ref C ∧ ExcK K C ∧ PySem.W.mroIn K C (.ref Dc) = some true ∧
  ∀ e, H' e = none → th (D.gone i) (σ.set i (some (.ref e))) (upd H' e (excO e C))
def tTry (K : PySem.W.Frag) (Dc : Addr) (i : Nat) (tb : (St → Value → Hp → Prop) → TS) (th : TS) : TS := fun D σ H => tb (RTry K Dc i th D) D σ H
section
variable {X : Cx}
theorem ps_try {body hs : List Stmt} {b₀ : Stmt} {cn n : Str} {np hpos pos : Pos} {Dc : Addr} {i : Nat} {tb : (St → Value → Hp → Prop) → TS} {th : TS} (hst : X.stack = X.env :: X.outer) (hfr : X.env.frame = some X.env.locals) (hN : X.N.Nodup) (hD : ExcK X.K Dc) (hm : X.mg cn = some (.ref Dc))
    (hb : ∀ (pn : List (Addr × Obj)) (W : Value → Shared → Prop) (R : St → Value → Hp → Prop), Flies (X.tryC pn W) R → PSs (X.tryC pn W) body (tb R)) (hh : ∀ v, PSs (X.hand v) (b₀ :: hs) th)
    (hi : X.N[i]? = some n := by rfl) (hl : X.env.kindOf n = some .local := by rfl) (hg : Gl X cn := by rfl) (hdb : (cn == ("__debug__" : Str)) = false := by decide) :
    PS X (.Try body [.ExceptHandler (some (.Name cn np)) (some n) (b₀ :: hs) hpos] [] [] pos) (tTry X.K Dc i tb th) := by
  intro pins s σ H D I h
  refine wpAny_Try_except ?_
  have key : Flies (X.tryC pins fun e s₁ => wpAny (model X.prog X.w) X.A (noteFrame e X.env) (fun _ s₂ => wpAny (model X.prog X.w) X.A (setFlight e none) (fun _ s₃ => wpAny (model X.prog X.w) X.A (handleBy e X.env [.ExceptHandler (some (.Name cn np)) (some n) (b₀ :: hs) hpos]) (SP X pins D) X.xe s₃) X.xe s₂) X.xe s₁)
      (RTry X.K Dc i th D) := by
    rintro pins' σ' H1 s1 e cls H' s' I0 F ⟨C, rfl, kC, hmC, hth⟩
    have I1 : Inv X pins σ' H1 s1 := I0.tryOut
    have F : Fli X.prog X.w X.stack H1 s1 e (.ref C) .none H' s' := F
    have J := I1.fly F
    obtain ⟨B, a0, fl, st⟩ := fli_of F J.stack J.stkFree
    have frm : X.A.frames = some (X.env :: X.outer) := by rw [← hst]; exact I1.ok.frames
    rw [hst] at fl
    refine wpAny_looks_onW frm hfr fl fun h4 g4 u4 => ?_
    refine wpAny_landsW g4 fun h5 g5 u5 => ?_
    have F5 := st h5 .none g5.1 g5.2.2.2 (u4.trans u5)
    have J5 := I1.fly F5
    obtain ⟨_, oe, _, _, _, _, he, ⟨hc, _⟩, _⟩ := F5.tr
    refine wpAny_handleBy_cons (codeAny_handlers_test (ld_glob (X := X.hand (.ref e)) (J5.hand (.ref e)) hg hm ?_ hdb)) (by intro q; cases q)
    refine exc_match J5.kIn hD hmC he hc ?_
    refine codeAny_handlers_suite_as ?_
    refine lands_againW g5 fun h6 g6 u6 => ?_
    have F6 := st h6 .none g6.1 g6.2.2.2 ((u4.trans u5).trans u6)
    obtain ⟨_, _, _, _, _, _, _, _, _, _, _, _, _, _, ⟨he0, _⟩, _, _⟩ := F6.tr
    have J6 := (I1.catch F6).hand (.ref e)
    refine store_ok (X := X.hand (.ref e)) (v := .ref e) J6 hN hi (.inl hl) rfl (fun s7 J7 => ?_) (.inr hl)
    refine wpAny_mono (hh (.ref e) pins s7 _ _ (D.gone i) J7 (hth e he0)) (fun f s8 q8 => ?_) fun _ _ z => False.elim z
    have hp : (X.env.scope.kind == .class || (X.env.scope.kind == .module && X.env.locals != X.env.globals)) = false := by rw [I.ok.kind]; rfl
    show wpAny (model X.prog X.w) X.A (do bindName X.env n .none; unbindBehindTheSuite X.env n hpos) (fun _ s₃ => SP X pins D f s₃) X.xe s8
    cases f with
    | next =>
      obtain ⟨σ8, H8, I8, q⟩ := q8
      have I9 := I8.unhand I.ok
      obtain ⟨m, hn, hml⟩ := id I9.loc
      exact wpAny_nameGoes_keeps hl hn hp fun h' v' hn' hs' => ⟨_, H8, I9.gone hN hi hml hn' hs', q⟩
    | brk =>
      obtain ⟨σ8, H8, I8, q⟩ := q8
      have I9 := I8.unhand I.ok
      obtain ⟨m, hn, hml⟩ := id I9.loc
      exact wpAny_nameGoes_keeps hl hn hp fun h' v' hn' hs' => ⟨_, H8, I9.gone hN hi hml hn' hs', q⟩
    | cont =>
      obtain ⟨σ8, H8, I8, q⟩ := q8
      have I9 := I8.unhand I.ok
      obtain ⟨m, hn, hml⟩ := id I9.loc
      exact wpAny_nameGoes_keeps hl hn hp fun h' v' hn' hs' => ⟨_, H8, I9.gone hN hi hml hn' hs', q⟩
    | ret u =>
      obtain ⟨v, σ8, H8, I8, r, q⟩ := q8
      have I9 := I8.unhand I.ok
      obtain ⟨m, hn, hml⟩ := id I9.loc
      exact wpAny_nameGoes_keeps hl hn hp fun h' v' hn' hs' => ⟨v, _, H8, I9.gone hN hi hml hn' hs', r, q⟩
  refine wpAny_mono (hb pins _ _ key [] s σ H D (I.tryIn _) h) (fun f s1 q => ?_) fun _ _ z => z
  have q := SP.tryOut q
  cases f with
  | next => exact wpAny_execs_nil q
  | brk => exact q
  | cont => exact q
  | ret u => exact q
end
end L2
set_option Elab.async false
set_option linter.all false
set_option maxRecDepth 100000
set_option maxHeartbeats 4000000
namespace L2
open PySem PySem.Spec PyProof.Rows
def MethDef (K : PySem.W.Frag) (C : Addr) (m qual : Str) (st : Stmt) (ps : List Str) : Prop := ∃ f fd, Fun K m qual st f fd ∧ Meth K C m f ∧ Binds K fd ps []
def MtAt (P : Program) (w : World) (K : PySem.W.Frag) (mg : Str → Option Value) (base : Heap) (k : Nat) (C : Addr) (m : Str) (ps : List Str) (sp : Sp) : Prop :=
  ∃ f fd, FnOk P w K mg base CX0 k f fd ps sp ∧ Meth K C m f ∧ Binds K fd ps []
def MtAtX (P : Program) (w : World) (K : PySem.W.Frag) (mg : Str → Option Value) (base : Heap) (k : Nat) (C : Addr) (m : Str) (ps : List Str) (sp : Sp) : Prop :=
  ∃ f, Meth K C m f ∧ (∀ vs H Q E, sp vs H Q E → vs.length = ps.length) ∧
    ∀ (A : Around) (outer : List Env) (s : Shared) (H : Hp) (us : List Value) (vs : List V) (Q : VK) (E : XK), Room k A → Env0 P w K mg base A outer s H → Vals vs us → sp vs H Q E → codeAny (model P w) A (.call (.ref f) ⟨us, []⟩) (CR (CXW P w) outer P w H s Q E) s
section
variable {P : Program} {w : World} {K : PySem.W.Frag} {mg : Str → Option Value} {base : Heap} {j k : Nat} {C : Addr} {m qual : Str} {ps : List Str} {sp sp' : Sp}
theorem MtAt.of {st : Stmt} {N : List Str} (D : MethDef K C m qual st ps) (S : FnScope N ps (defScope st)) (len : ∀ vs H Q E, sp vs H Q E → vs.length = ps.length)
    (hbody : ∀ (f : Addr) (cdv : Value) (A : Around) (outer : List Env) (s : Shared) (H : Hp) (vs : List V) (Q : VK) (E : XK), Room k (A.deeper (envOfC qual (defScope st) s.heap.objs.size f cdv)) → sp vs H Q E →
      ∃ t, PSs (cxOf CX0 P w K mg base N qual (defScope st) f cdv A outer s H E).nox (defBody st) t ∧ t { nx := fun _ H' => Q .non H', rt := Q } (start N vs) H) : MtAt P w K mg base (k + 1) C m ps sp := by
  obtain ⟨f, fd, F, hm, hb⟩ := D
  exact ⟨f, fd, F.ok S len fun cdv A outer s H vs Q E hr h => hbody f cdv A outer s H vs Q E hr h, hm, hb⟩
theorem MtAtX.at {CX : CXT} {f : Addr} {fd : FuncData} (F : FnOk P w K mg base CX k f fd ps sp) (hm : Meth K C m f) (hb : Binds K fd ps []) (hc : ∀ l H s E e s', CX l H s E e s' → CXW P w l H s E e s') : MtAtX P w K mg base k C m ps sp := by
  refine ⟨f, hm, F.len, fun A outer s H us vs Q E hr e0 r q => ?_⟩
  have hl : us.length = ps.length := by rw [← r.length]; exact F.len _ _ _ _ q
  refine codeAny_mono (F.run A outer s H ⟨us, []⟩ us vs Q E hr e0 (by simpa using hb s us (e0.mod.kin.keeps fun b o z => (e0.bs b o z).1) (by simpa using hl)) r q) fun res s' hq => ?_
  cases res with
  | error ev => exact hc _ _ _ _ _ _ hq
  | ok fl => cases fl <;> exact hq
theorem MtAtX.of {st : Stmt} {N : List Str} (D : MethDef K C m qual st ps) (S : FnScope N ps (defScope st)) (len : ∀ vs H Q E, sp vs H Q E → vs.length = ps.length)
    (hbody : ∀ (f : Addr) (cdv : Value) (A : Around) (outer : List Env) (s : Shared) (H : Hp) (vs : List V) (Q : VK) (E : XK), Room k (A.deeper (envOfC qual (defScope st) s.heap.objs.size f cdv)) → sp vs H Q E →
      ∃ t, PSs (cxOf (CXW P w) P w K mg base N qual (defScope st) f cdv A outer s H E) (defBody st) t ∧ t { nx := fun _ H' => Q .non H', rt := Q } (start N vs) H) : MtAtX P w K mg base (k + 1) C m ps sp := by
  obtain ⟨f, fd, F, hm, hb⟩ := D
  obtain ⟨oc, od, kV, doc, pm, an, cdv, ct, osl, rfl, lk, hcd⟩ := F.ex
  exact .at (CX := CXW P w) (fn_of lk hcd S len fun A outer s H vs Q E hr hsp => hbody f cdv A outer s H vs Q E hr hsp) hm hb fun _ _ _ _ _ _ z => z
end
def tM (C : Addr) (m : Str) (sp : Sp) (ta : TE) (t : TA) : TE := fun σ H Q => ta σ H fun x H1 => ∃ (a dx : Addr) (fs : List (Str × V)), x = .ref a ∧ H1 a = some (.ins C dx fs) ∧ fs.lookup m = none ∧ t σ H1 fun vs H2 => sp (x :: vs) H2 Q E0
def tMx (C : Addr) (m : Str) (sp : Sp) (R : St → Value → Hp → Prop) (ta : TE) (t : TA) : TE := fun σ H Q => ta σ H fun x H1 => ∃ (a dx : Addr) (fs : List (Str × V)), x = .ref a ∧ H1 a = some (.ins C dx fs) ∧ fs.lookup m = none ∧ t σ H1 fun vs H2 => sp (x :: vs) H2 Q fun cls _ H' => R σ cls H'
section
variable {X : Cx} {k : Nat} {C : Addr} {m : Str} {ps : List Str} {sp : Sp} {e o : Expr} {es : List Expr} {ta : TE} {t : TA} {apos pos : Pos} {R : St → Value → Hp → Prop}
theorem pe_m {pl : Sem Bool} (F : MtAt X.prog X.w X.K X.mg X.base k C m ps sp) (c : Cls X.K C) (hr : Room k X.A) (he : PE X o ta) (ha : PA X (e :: es) t)
    (hst : starEach (e :: es) X.env = (false, eval e X.env) :: starEach es X.env := by rfl) (hpl : (backTo pos (starEach es X.env)).any (·.1) = false := by rfl)
    (ht : eval (.Call (.Attribute o m apos) (e :: es) [] pos) X.env = (do
      let ov ← eval o X.env
      standAt apos.atName
      let (f, first) ← holding [ov] (getMethod ov m pl)
      callWith pos f first (backTo pos (starEach (e :: es) X.env)) (backToKw pos (keywordEach [] X.env))) := by rfl) :
    PE X (.Call (.Attribute o m apos) (e :: es) [] pos) (tM C m sp ta t) := by
  obtain ⟨f, fd, F, hm, hb⟩ := F
  have q := pe_meth (pl := pl) (apos := apos) (pos := pos) he c hm F hr hb .nil (pass0 (X := X)) ha hst hpl ht
  intro pins s σ H Q I h
  refine q pins s σ H Q I ?_
  unfold tMeth
  simp only [List.append_nil]
  exact h
theorem pe_m0 {pl : Sem Bool} (F : MtAt X.prog X.w X.K X.mg X.base k C m ps sp) (c : Cls X.K C) (hr : Room k X.A) (he : PE X o ta)
    (ht : eval (.Call (.Attribute o m apos) [] [] pos) X.env = (do
      let ov ← eval o X.env
      standAt apos.atName
      let (f, first) ← holding [ov] (getMethod ov m pl)
      callWith pos f first (backTo pos (starEach [] X.env)) (backToKw pos (keywordEach [] X.env))) := by rfl) :
    PE X (.Call (.Attribute o m apos) [] [] pos) (tM C m sp ta tNil) := by
  obtain ⟨f, fd, F, hm, hb⟩ := F
  have q := pe_meth0 (pl := pl) (apos := apos) (pos := pos) he c hm F hr hb .nil (pass0 (X := X)) ht
  intro pins s σ H Q I h
  refine q pins s σ H Q I ?_
  unfold tMeth
  simp only [List.append_nil]
  exact h
theorem pe_mx {pl : Sem Bool} (F : MtAtX X.prog X.w X.K X.mg X.base k C m ps sp) (c : Cls X.K C) (hr : Room k X.A) (hR : Flies X R) (he : PE X o ta) (ha : PA X (e :: es) t)
    (hst : starEach (e :: es) X.env = (false, eval e X.env) :: starEach es X.env := by rfl) (hpl : (backTo pos (starEach es X.env)).any (·.1) = false := by rfl)
    (ht : eval (.Call (.Attribute o m apos) (e :: es) [] pos) X.env = (do
      let ov ← eval o X.env
      standAt apos.atName
      let (f, first) ← holding [ov] (getMethod ov m pl)
      callWith pos f first (backTo pos (starEach (e :: es) X.env)) (backToKw pos (keywordEach [] X.env))) := by rfl) :
    PE X (.Call (.Attribute o m apos) (e :: es) [] pos) (tMx C m sp R ta t) := by
  obtain ⟨f, hm, hl, run⟩ := F
  intro pins s σ H Q I h
  refine PySem.W.methodCall_KW (pl := pl) (thn (he pins s σ H _ I h) fun u s1 ⟨x, H1, I1, rx, a, dx, fs, ex, ea, l, q⟩ => ?_) ht
  subst ex
  obtain rfl : u = Value.ref a := rx
  refine getmeth_ok I1 ea c hm l ?_
  refine PySem.W.callWith_K (first := [.ref a]) (h₀ := X.base) I.ok.mod.kin hm.kp (thn (ha pos pins s1 σ H1 _ I1 q) fun us s2 ⟨vs, H2, I2, r, q2⟩ => ⟨I2.kIn, ?_⟩) hst hpl
  refine wpAny_call (codeAny_mono (run X.A X.stack s2 H2 (.ref a :: us) (.ref a :: vs) Q _ hr I2.env0 (.cons rfl r) q2) fun res s' hq => ?_)
  cases res with
  | error ev =>
    obtain ⟨e', cls, H', rfl, Fl, rr⟩ := hq
    exact hR pins σ H2 s2 e' cls H' s' I2 Fl rr
  | ok fl =>
    cases fl with
    | ret u => exact I2.after hq
    | next => exact False.elim hq
    | brk => exact False.elim hq
    | cont => exact False.elim hq
end
end L2
set_option Elab.async false
set_option linter.all false
set_option maxRecDepth 100000
set_option maxHeartbeats 4000000
namespace L2
open PySem PySem.Spec PyProof.Rows
theorem fn_tree {prog : Program} {w : World} {A : Around} {E : Value → Shared → Prop} {s : Shared} {id : String} {b : Builtin} {args : List Value} {kw : List (Str × Value)} {Q : Value → Shared → Prop} (hk : builtinKind id = none) (hp : plainId id = true)
    (hb : entryFor table id = some b) (ha : argsOk id ⟨args, kw⟩)
    (hc : wpAny (model prog w) A.in1 (b ⟨args, kw⟩) (fun fin s' => match fin with
      | .done f => (match (Except.ok f : Result) with | .ok (.ret v) => Q v s' | .ok _ => False | .error e => E e s')
      | .again c' => c'.quiet = true ∧ codeAny (model prog w) A c' (fun r s' => match r with | .ok (.ret v) => Q v s' | .ok _ => False | .error e => E e s') s') E s) :
    wpAny (model prog w) A (call (.builtin id) args kw) Q E s := by
  refine wpAny_call (codeAny_call_builtin hp hb ?_)
  simp only [checkBuiltinCall, hk]
  cases hsig : Manifest.signature? id with
  | none => exact wpAny_pure hc
  | some sig =>
    have ha' : Bind.checkArgs id sig ⟨args, kw⟩ = pure () := by simpa only [argsOk, hsig] using ha
    simp only [ha']
    exact wpAny_pure hc
theorem args_maxd (a v : Value) : argsOk "max" ⟨[a], [("default", v)]⟩ := by unfold argsOk; kernel_rfl
def oldS (o : Option Value) : Array Value := match o with | none => #[] | some v => #[v, v]
section
variable {prog : Program} {w : World} {A : Around} {R : Result → Shared → Prop} {I : Addr} {fp wr : List Addr} {n : Nat} {P : Nat → Value → Prop} {St : Nat → Heap → Prop}
theorem max_loopD (W : Walks prog w A.in1 I fp wr n P St) (bt : Nat → Nat → Bool) (hcmp : CmpOf prog w A.in1 .Gt P bt) (S : Addr) (hSf : S ∉ fp) (d : Value) :
    ∀ (k j : Nat) (s : Shared) (o : Option Value) (c : Nat), n - j = k → j ≤ n → St j s.heap → (o = none → j = 0) → (∀ v, o = some v → 0 < j ∧ P (argBest bt (j - 1)) v) →
    s.heap.get? S = some { cls := .type "list", dict := none, data := .seq (oldS o) c, slots := #[] } →
    (∀ v h' tk, (n = 0 → v = d) → (0 < n → P (argBest bt (n - 1)) v) → (∀ b o, b ∉ wr → b ≠ S → s.heap.get? b = some o → h'.get? b = some o) → R (.ok (.ret v)) { s with heap := h', toks := tk }) →
    codeAny (model prog w) A (.builtin "max.loop" ⟨[.ref I, .none, .ref S], [("default", d)]⟩) R s := by
  have hSw : S ∉ wr := fun h => hSf (W.sub _ h)
  have hname : (toString "max" ++ toString ".loop" : String) = "max.loop" := by decide
  intro k
  induction k with
  | zero =>
    intro j s o c hk hj hst h0 h1 hS hR
    have hin : j = n := by omega
    refine codeAny_builtin F.entry_max_loop ?_
    rw [Around.under_plainId F.plain_max_loop _]
    show wpAny _ A.in1 (seqItems? (.ref S) >>= _) _ _ s
    refine wpAny_bind (wpAny_seqItems hS rfl ?_)
    show wpAny _ A.in1 (tryCatch (pyNext (.ref I)) _ >>= _) _ _ s
    refine wpAny_bind (wpAny_tryCatch (W.done s _ _ (hin ▸ hst) fun h' tk hk' => ?_))
    have hS' := hk' S _ hSw hS
    cases o with
    | none =>
      refine wpAny_bind (wpAny_rule (wpAny_pure ?_))
      exact hR d _ tk (fun _ => rfl) (fun z => absurd (h0 rfl) (by omega)) fun b o hbw hbS e => hk' b o hbw e
    | some vb =>
      obtain ⟨p1, p2⟩ := h1 vb rfl
      show wpAny _ A.in1 (updateSeq S (fun _ => #[]) >>= _) _ _ _
      refine wpAny_bind ?_
      refine wpAny_updateSeq hS' rfl (hz := (by show 2 ≤ sizeLine; decide)) (wpAny_bind (wpAny_letGo (wpAny_pure ?_)))
      exact hR vb _ tk (fun z => absurd z (by omega)) (fun _ => by rw [← hin]; exact p2) fun b o hbw hbS e => (Heap.get?_update_other _ _ (Ne.symm hbS)).trans (hk' b o hbw e)
  | succ k ih =>
    intro j s o c hk hj hst h0 h1 hS hR
    have hlt : j < n := by omega
    refine codeAny_builtin F.entry_max_loop ?_
    rw [Around.under_plainId F.plain_max_loop _]
    show wpAny _ A.in1 (seqItems? (.ref S) >>= _) _ _ s
    refine wpAny_bind (wpAny_seqItems hS rfl ?_)
    show wpAny _ A.in1 (tryCatch (pyNext (.ref I)) _ >>= _) _ _ s
    refine wpAny_bind (wpAny_tryCatch (W.item j s _ _ hlt hst fun v h' tk hP hst' hk' => ?_))
    have hS' := hk' S _ hSw hS
    cases o with
    | none =>
      have hj0 := h0 rfl
      subst hj0
      show wpAny _ A.in1 (updateSeq S (fun _ => #[v, v]) >>= _) _ _ _
      refine wpAny_bind ?_
      refine wpAny_updateSeq hS' rfl ?_
      rw [hname]
      refine wpAny_pure ⟨plainId_quiet F.plain_max_loop _, ih 1 _ (some v) _ (by omega) hlt (W.frame _ _ _ hst' fun b hbf o e => ?_) (fun z => nomatch z) (fun v' z => by cases z; exact ⟨by decide, hP⟩) (Heap.get?_update_self _ hS' rfl) fun v' h'' tk'' z1 hP' hk'' => ?_⟩
      · exact (Heap.get?_update_other _ _ (fun h : S = b => hSf (by rw [h]; exact hbf))).trans e
      · exact hR v' h'' tk'' z1 hP' fun b o hbw hbS e => hk'' b o hbw hbS ((Heap.get?_update_other _ _ (Ne.symm hbS)).trans (hk' b o hbw e))
    | some vb =>
      obtain ⟨p1, hPb⟩ := h1 vb rfl
      obtain ⟨j, rfl⟩ : ∃ i, j = i + 1 := ⟨j - 1, by omega⟩
      simp only [Nat.add_sub_cancel] at hPb
      show wpAny _ A.in1 (tryCatch (holding [v, v] (richCompare .Gt v vb >>= _)) _ >>= _) _ _ _
      refine wpAny_bind (wpAny_tryCatch (wpAny_holding (wpAny_bind (hcmp (j + 1) (argBest bt j) v vb _ _ _ hP hPb ?_))))
      refine wpAny_bind (wpAny_holding (wpAny_truthy_bool ?_))
      refine wpAny_bind (wpAny_letGo (wpAny_pure ?_))
      cases hb : bt (j + 1) (argBest bt j) with
      | true =>
        simp only [if_true]
        refine wpAny_bind ?_
        refine wpAny_updateSeq hS' rfl (hz := (by show 2 ≤ sizeLine; decide)) (wpAny_bind (wpAny_letGo ?_))
        rw [hname]
        refine wpAny_pure ⟨plainId_quiet F.plain_max_loop _, ih (j + 2) _ (some v) _ (by omega) hlt (W.frame _ _ _ hst' fun b hbf o e => ?_) (fun z => nomatch z) (fun v' z => by cases z; exact ⟨by omega, by show P (argBest bt (j + 1)) v; simp only [argBest, hb, if_true]; exact hP⟩) (Heap.get?_update_self _ hS' rfl)
          fun v' h'' tk'' z1 hP' hk'' => ?_⟩
        · exact (Heap.get?_update_other _ _ (fun h : S = b => hSf (by rw [h]; exact hbf))).trans e
        · exact hR v' h'' tk'' z1 hP' fun b o hbw hbS e => hk'' b o hbw hbS ((Heap.get?_update_other _ _ (Ne.symm hbS)).trans (hk' b o hbw e))
      | false =>
        simp only [Bool.false_eq_true, if_false]
        refine wpAny_bind (wpAny_letGo ?_)
        rw [hname]
        refine wpAny_pure ⟨plainId_quiet F.plain_max_loop _, ih (j + 2) _ (some vb) c (by omega) hlt hst' (fun z => nomatch z) (fun v' z => by cases z; exact ⟨by omega, by show P (argBest bt (j + 1)) vb; simp only [argBest, hb, Bool.false_eq_true, if_false]; exact hPb⟩) hS' fun v' h'' tk'' z1 hP' hk'' => ?_⟩
        exact hR v' h'' tk'' z1 hP' fun b o hbw hbS e => hk'' b o hbw hbS (hk' b o hbw e)
end
theorem call_maxD {X : Cx} (hc : X.calm = true) {pins : List (Addr × Obj)} {s : Shared} {σ : St} {H : Hp} {p : Addr} {ns : List Int} {dv : V} {d : Value} {Q : VK} (I : Inv X pins σ H s) (rd : RelV dv d) (hq : SqL X.K H p (ns.map V.int))
    (q0 : ns = [] → Q dv H) (q : ns ≠ [] → ∀ M, M ∈ ns → (∀ a ∈ ns, a ≤ M) → Q (.int M) H) : wpAny (model X.prog X.w) X.A (call (.builtin "max") [.ref p] [("default", d)]) (EP X pins σ Q) X.xe s := by
  have hname : (toString "max" ++ toString ".loop" : String) = "max.loop" := by decide
  obtain ⟨its, r, pl, _⟩ := I.list hq
  have hi := ints_of r
  obtain ⟨ys, e⟩ := hi.allInts.items
  have hl := pl.isList
  have en : ns = ys.toList.map (·.1) := by
    have e1 := hi.numsOf
    have e2 := nums_intItems ys
    rw [← e] at e2
    exact e1.symm.trans e2
  have lz : ys.size = ns.length := by rw [en]; simp
  rw [e] at hl
  refine fn_tree F.kind_max F.plain_max F.entry_max (args_maxd _ _) ?_
  show wpAny _ _ (Builtin.Builtins.bindParams "max" ["key", "default"] 0 ⟨[], [("default", d)]⟩ >>= _) _ _ s
  refine wpAny_bind (wpAny_of_eq (show Builtin.Builtins.bindParams "max" ["key", "default"] 0 ⟨[], [("default", d)]⟩ = pure [none, some d] from rfl) ?_)
  refine wpAny_bind (wpAny_pure ?_)
  refine wpAny_bind (iter_intList hl fun s₂ e st hfp hlI => ?_)
  subst e
  refine wpAny_bind (wpAny_newObj_type ?_)
  rw [hname]
  have W := Walks.list (prog := X.prog) (w := X.w) (A := X.A.in1) (I.ok.hd hc) _ p hlI (intItems ys)
  refine wpAny_pure ⟨plainId_quiet F.plain_max_loop _, max_loopD W (fun i j => decide (numAt ys i > numAt ys j)) (CmpOf.ints_gt (numAt ys) (fun _ _ => intItems_at)) _ (fun hm => Nat.lt_irrefl _ (hfp _ hm)) d _ 0 _ none _ rfl (Nat.zero_le _) (W.frame _ _ _ st fun b _ o e => Heap.get?_push_of_some _ e) (fun _ => rfl) (fun _ z => nomatch z) (Heap.get?_push_size _ rfl) fun v h' tk z1 z2 hk => ?_⟩
  have hk0 := old_kept (s := s) (l := p) (h' := h') fun b o hbw e => hk b o hbw (Nat.ne_of_lt (Heap.lt_size e)) (Heap.get?_push_of_some _ e)
  have hsz : (intItems ys).size = ys.size := by simp [intItems]
  by_cases hn : ns = []
  · have : v = d := z1 (by rw [hsz, lz, hn]; rfl)
    subst this
    exact ⟨dv, H, I.kept hk0, rd, q0 hn⟩
  · have hpos : 0 < ns.length := by
      cases ns with
      | nil => exact absurd rfl hn
      | cons => exact Nat.succ_pos _
    have hv := z2 (by rw [hsz]; omega)
    rw [hsz] at hv
    obtain ⟨t, rfl⟩ := intItems_at hv
    obtain ⟨b1, b2⟩ := argBest_gt (numAt ys) (ys.size - 1)
    refine ⟨.int _, H, I.kept hk0, ⟨_, rfl⟩, q hn _ ?_ fun a ha => ?_⟩
    · rw [en, numAt_eq]
      exact getD_mem (by rw [List.length_map, Array.length_toList]; omega)
    · rw [en] at ha
      obtain ⟨j, hj, rfl⟩ := mem_getD ha
      rw [List.length_map, Array.length_toList] at hj
      have := b2 j (by omega)
      rw [numAt_eq ys j] at this
      exact this
theorem args_mind (a v : Value) : argsOk "min" ⟨[a], [("default", v)]⟩ := by unfold argsOk; kernel_rfl
section
variable {prog : Program} {w : World} {A : Around} {R : Result → Shared → Prop} {I : Addr} {fp wr : List Addr} {n : Nat} {P : Nat → Value → Prop} {St : Nat → Heap → Prop}
theorem min_loopD (W : Walks prog w A.in1 I fp wr n P St) (bt : Nat → Nat → Bool) (hcmp : CmpOf prog w A.in1 .Lt P bt) (S : Addr) (hSf : S ∉ fp) (d : Value) :
    ∀ (k j : Nat) (s : Shared) (o : Option Value) (c : Nat), n - j = k → j ≤ n → St j s.heap → (o = none → j = 0) → (∀ v, o = some v → 0 < j ∧ P (argBest bt (j - 1)) v) →
    s.heap.get? S = some { cls := .type "list", dict := none, data := .seq (oldS o) c, slots := #[] } →
    (∀ v h' tk, (n = 0 → v = d) → (0 < n → P (argBest bt (n - 1)) v) → (∀ b o, b ∉ wr → b ≠ S → s.heap.get? b = some o → h'.get? b = some o) → R (.ok (.ret v)) { s with heap := h', toks := tk }) →
    codeAny (model prog w) A (.builtin "min.loop" ⟨[.ref I, .none, .ref S], [("default", d)]⟩) R s := by
  have hSw : S ∉ wr := fun h => hSf (W.sub _ h)
  have hname : (toString "min" ++ toString ".loop" : String) = "min.loop" := by decide
  intro k
  induction k with
  | zero =>
    intro j s o c hk hj hst h0 h1 hS hR
    have hin : j = n := by omega
    refine codeAny_builtin F.entry_min_loop ?_
    rw [Around.under_plainId F.plain_min_loop _]
    show wpAny _ A.in1 (seqItems? (.ref S) >>= _) _ _ s
    refine wpAny_bind (wpAny_seqItems hS rfl ?_)
    show wpAny _ A.in1 (tryCatch (pyNext (.ref I)) _ >>= _) _ _ s
    refine wpAny_bind (wpAny_tryCatch (W.done s _ _ (hin ▸ hst) fun h' tk hk' => ?_))
    have hS' := hk' S _ hSw hS
    cases o with
    | none =>
      refine wpAny_bind (wpAny_rule (wpAny_pure ?_))
      exact hR d _ tk (fun _ => rfl) (fun z => absurd (h0 rfl) (by omega)) fun b o hbw hbS e => hk' b o hbw e
    | some vb =>
      obtain ⟨p1, p2⟩ := h1 vb rfl
      show wpAny _ A.in1 (updateSeq S (fun _ => #[]) >>= _) _ _ _
      refine wpAny_bind ?_
      refine wpAny_updateSeq hS' rfl (hz := (by show 2 ≤ sizeLine; decide)) (wpAny_bind (wpAny_letGo (wpAny_pure ?_)))
      exact hR vb _ tk (fun z => absurd z (by omega)) (fun _ => by rw [← hin]; exact p2) fun b o hbw hbS e => (Heap.get?_update_other _ _ (Ne.symm hbS)).trans (hk' b o hbw e)
  | succ k ih =>
    intro j s o c hk hj hst h0 h1 hS hR
    have hlt : j < n := by omega
    refine codeAny_builtin F.entry_min_loop ?_
    rw [Around.under_plainId F.plain_min_loop _]
    show wpAny _ A.in1 (seqItems? (.ref S) >>= _) _ _ s
    refine wpAny_bind (wpAny_seqItems hS rfl ?_)
    show wpAny _ A.in1 (tryCatch (pyNext (.ref I)) _ >>= _) _ _ s
    refine wpAny_bind (wpAny_tryCatch (W.item j s _ _ hlt hst fun v h' tk hP hst' hk' => ?_))
    have hS' := hk' S _ hSw hS
    cases o with
    | none =>
      have hj0 := h0 rfl
      subst hj0
      show wpAny _ A.in1 (updateSeq S (fun _ => #[v, v]) >>= _) _ _ _
      refine wpAny_bind ?_
      refine wpAny_updateSeq hS' rfl ?_
      rw [hname]
      refine wpAny_pure ⟨plainId_quiet F.plain_min_loop _, ih 1 _ (some v) _ (by omega) hlt (W.frame _ _ _ hst' fun b hbf o e => ?_) (fun z => nomatch z) (fun v' z => by cases z; exact ⟨by decide, hP⟩) (Heap.get?_update_self _ hS' rfl) fun v' h'' tk'' z1 hP' hk'' => ?_⟩
      · exact (Heap.get?_update_other _ _ (fun h : S = b => hSf (by rw [h]; exact hbf))).trans e
      · exact hR v' h'' tk'' z1 hP' fun b o hbw hbS e => hk'' b o hbw hbS ((Heap.get?_update_other _ _ (Ne.symm hbS)).trans (hk' b o hbw e))
    | some vb =>
      obtain ⟨p1, hPb⟩ := h1 vb rfl
      obtain ⟨j, rfl⟩ : ∃ i, j = i + 1 := ⟨j - 1, by omega⟩
      simp only [Nat.add_sub_cancel] at hPb
      show wpAny _ A.in1 (tryCatch (holding [v, v] (richCompare .Lt v vb >>= _)) _ >>= _) _ _ _
      refine wpAny_bind (wpAny_tryCatch (wpAny_holding (wpAny_bind (hcmp (j + 1) (argBest bt j) v vb _ _ _ hP hPb ?_))))
      refine wpAny_bind (wpAny_holding (wpAny_truthy_bool ?_))
      refine wpAny_bind (wpAny_letGo (wpAny_pure ?_))
      cases hb : bt (j + 1) (argBest bt j) with
      | true =>
        simp only [if_true]
        refine wpAny_bind ?_
        refine wpAny_updateSeq hS' rfl (hz := (by show 2 ≤ sizeLine; decide)) (wpAny_bind (wpAny_letGo ?_))
        rw [hname]
        refine wpAny_pure ⟨plainId_quiet F.plain_min_loop _, ih (j + 2) _ (some v) _ (by omega) hlt (W.frame _ _ _ hst' fun b hbf o e => ?_) (fun z => nomatch z) (fun v' z => by cases z; exact ⟨by omega, by show P (argBest bt (j + 1)) v; simp only [argBest, hb, if_true]; exact hP⟩) (Heap.get?_update_self _ hS' rfl)
          fun v' h'' tk'' z1 hP' hk'' => ?_⟩
        · exact (Heap.get?_update_other _ _ (fun h : S = b => hSf (by rw [h]; exact hbf))).trans e
        · exact hR v' h'' tk'' z1 hP' fun b o hbw hbS e => hk'' b o hbw hbS ((Heap.get?_update_other _ _ (Ne.symm hbS)).trans (hk' b o hbw e))
      | false =>
        simp only [Bool.false_eq_true, if_false]
        refine wpAny_bind (wpAny_letGo ?_)
        rw [hname]
        refine wpAny_pure ⟨plainId_quiet F.plain_min_loop _, ih (j + 2) _ (some vb) c (by omega) hlt hst' (fun z => nomatch z) (fun v' z => by cases z; exact ⟨by omega, by show P (argBest bt (j + 1)) vb; simp only [argBest, hb, Bool.false_eq_true, if_false]; exact hPb⟩) hS' fun v' h'' tk'' z1 hP' hk'' => ?_⟩
        exact hR v' h'' tk'' z1 hP' fun b o hbw hbS e => hk'' b o hbw hbS (hk' b o hbw e)
end
theorem call_minD {X : Cx} (hc : X.calm = true) {pins : List (Addr × Obj)} {s : Shared} {σ : St} {H : Hp} {p : Addr} {ns : List Int} {dv : V} {d : Value} {Q : VK} (I : Inv X pins σ H s) (rd : RelV dv d) (hq : SqL X.K H p (ns.map V.int))
    (q0 : ns = [] → Q dv H) (q : ns ≠ [] → ∀ M, M ∈ ns → (∀ a ∈ ns, M ≤ a) → Q (.int M) H) : wpAny (model X.prog X.w) X.A (call (.builtin "min") [.ref p] [("default", d)]) (EP X pins σ Q) X.xe s := by
  have hname : (toString "min" ++ toString ".loop" : String) = "min.loop" := by decide
  obtain ⟨its, r, pl, _⟩ := I.list hq
  have hi := ints_of r
  obtain ⟨ys, e⟩ := hi.allInts.items
  have hl := pl.isList
  have en : ns = ys.toList.map (·.1) := by
    have e1 := hi.numsOf
    have e2 := nums_intItems ys
    rw [← e] at e2
    exact e1.symm.trans e2
  have lz : ys.size = ns.length := by rw [en]; simp
  rw [e] at hl
  refine fn_tree F.kind_min F.plain_min F.entry_min (args_mind _ _) ?_
  show wpAny _ _ (Builtin.Builtins.bindParams "min" ["key", "default"] 0 ⟨[], [("default", d)]⟩ >>= _) _ _ s
  refine wpAny_bind (wpAny_of_eq (show Builtin.Builtins.bindParams "min" ["key", "default"] 0 ⟨[], [("default", d)]⟩ = pure [none, some d] from rfl) ?_)
  refine wpAny_bind (wpAny_pure ?_)
  refine wpAny_bind (iter_intList hl fun s₂ e st hfp hlI => ?_)
  subst e
  refine wpAny_bind (wpAny_newObj_type ?_)
  rw [hname]
  have W := Walks.list (prog := X.prog) (w := X.w) (A := X.A.in1) (I.ok.hd hc) _ p hlI (intItems ys)
  refine wpAny_pure ⟨plainId_quiet F.plain_min_loop _, min_loopD W (fun i j => decide (numAt ys i < numAt ys j)) (CmpOf.ints_lt (numAt ys) (fun _ _ => intItems_at)) _ (fun hm => Nat.lt_irrefl _ (hfp _ hm)) d _ 0 _ none _ rfl (Nat.zero_le _) (W.frame _ _ _ st fun b _ o e => Heap.get?_push_of_some _ e) (fun _ => rfl) (fun _ z => nomatch z) (Heap.get?_push_size _ rfl) fun v h' tk z1 z2 hk => ?_⟩
  have hk0 := old_kept (s := s) (l := p) (h' := h') fun b o hbw e => hk b o hbw (Nat.ne_of_lt (Heap.lt_size e)) (Heap.get?_push_of_some _ e)
  have hsz : (intItems ys).size = ys.size := by simp [intItems]
  by_cases hn : ns = []
  · have : v = d := z1 (by rw [hsz, lz, hn]; rfl)
    subst this
    exact ⟨dv, H, I.kept hk0, rd, q0 hn⟩
  · have hpos : 0 < ns.length := by
      cases ns with
      | nil => exact absurd rfl hn
      | cons => exact Nat.succ_pos _
    have hv := z2 (by rw [hsz]; omega)
    rw [hsz] at hv
    obtain ⟨t, rfl⟩ := intItems_at hv
    obtain ⟨b1, b2⟩ := argBest_lt (numAt ys) (ys.size - 1)
    refine ⟨.int _, H, I.kept hk0, ⟨_, rfl⟩, q hn _ ?_ fun a ha => ?_⟩
    · rw [en, numAt_eq]
      exact getD_mem (by rw [List.length_map, Array.length_toList]; omega)
    · rw [en] at ha
      obtain ⟨j, hj, rfl⟩ := mem_getD ha
      rw [List.length_map, Array.length_toList] at hj
      have := b2 j (by omega)
      rw [numAt_eq ys j] at this
      exact this
def rDef (K : PySem.W.Frag) (R : Int → Int → Prop) (xs zs : List V) (H : Hp) (Q : VK) : Prop := ∃ (p : Addr) (ns : List Int) (dv : V), xs = [.ref p] ∧ zs = [dv] ∧ SqL K H p (ns.map V.int) ∧ (ns = [] → Q dv H) ∧ (ns ≠ [] → ∀ M, M ∈ ns → (∀ a ∈ ns, R a M) → Q (.int M) H)
def tDef (K : PySem.W.Frag) (R : Int → Int → Prop) (t tk : TA) : TE := fun σ H Q => t σ H fun xs H1 => tk σ H1 fun zs H2 => rDef K R xs zs H2 Q
theorem pe_maxD {X : Cx} {p pos kpos : Pos} {e dE : Expr} {te td : TE} (hc : X.calm = true) (hg : Gl X "max") (hm : X.mg "max" = none) (he : PE X e te) (hd : PE X dE td)
    (hst : starEach [e] X.env = (false, eval e X.env) :: starEach [] X.env := by rfl)
    (hall : (backToKw pos (keywordEach [⟨some "default", dE, kpos⟩] X.env)).all (·.1.isSome) = true := by rfl) (hks : (backToKw pos (keywordEach [⟨some "default", dE, kpos⟩] X.env)).filterMap (·.1) = [("default" : Str)] := by rfl)
    (hpl : (backTo pos (starEach [e] X.env)).any (·.1) = false := by rfl) (hno : (backToKw pos (keywordEach [⟨some "default", dE, kpos⟩] X.env)).any (·.1.isNone) = false := by rfl)
    (hst2 : backTo pos (starEach [e] X.env) = (false, eval e X.env) :: backTo pos (starEach [] X.env) := by rfl) :
    PE X (.Call (.Name "max" p) [e] [⟨some "default", dE, kpos⟩] pos) (tDef X.K (fun a M => a ≤ M) (tCons te tNil) (tCons td tNil)) := by
  intro pins s σ H Q I h
  refine wpAny_Call_Name_kw (ld_blt (u := .builtin "max") I hg hm (by kernel_rfl) ?_)
  refine PyProof.Rows.callWith_kw (thn (pa_cons he pa_nil hst pos pins s σ H _ I h) fun us s1 ⟨vs, H1, I1, r, q⟩ => ?_) hst2 hpl hall hno
  refine thn (pk_cons (kpos := kpos) (nm := some "default") hd pk_nil pos pins s1 σ H1 _ I1 q) fun ws s2 ⟨zs, H2, I2, rz, q2⟩ => ?_
  obtain ⟨p, ns, dv, rfl, rfl, hq, q0, q1⟩ := q2
  obtain ⟨d, rfl, rd⟩ := rz.one
  obtain ⟨u, rfl, ru⟩ := r.one
  cases ru
  rw [hks]
  exact call_maxD hc I2 rd hq q0 q1
theorem pe_minD {X : Cx} {p pos kpos : Pos} {e dE : Expr} {te td : TE} (hc : X.calm = true) (hg : Gl X "min") (hm : X.mg "min" = none) (he : PE X e te) (hd : PE X dE td)
    (hst : starEach [e] X.env = (false, eval e X.env) :: starEach [] X.env := by rfl)
    (hall : (backToKw pos (keywordEach [⟨some "default", dE, kpos⟩] X.env)).all (·.1.isSome) = true := by rfl) (hks : (backToKw pos (keywordEach [⟨some "default", dE, kpos⟩] X.env)).filterMap (·.1) = [("default" : Str)] := by rfl)
    (hpl : (backTo pos (starEach [e] X.env)).any (·.1) = false := by rfl) (hno : (backToKw pos (keywordEach [⟨some "default", dE, kpos⟩] X.env)).any (·.1.isNone) = false := by rfl)
    (hst2 : backTo pos (starEach [e] X.env) = (false, eval e X.env) :: backTo pos (starEach [] X.env) := by rfl) :
    PE X (.Call (.Name "min" p) [e] [⟨some "default", dE, kpos⟩] pos) (tDef X.K (fun a M => M ≤ a) (tCons te tNil) (tCons td tNil)) := by
  intro pins s σ H Q I h
  refine wpAny_Call_Name_kw (ld_blt (u := .builtin "min") I hg hm (by kernel_rfl) ?_)
  refine PyProof.Rows.callWith_kw (thn (pa_cons he pa_nil hst pos pins s σ H _ I h) fun us s1 ⟨vs, H1, I1, r, q⟩ => ?_) hst2 hpl hall hno
  refine thn (pk_cons (kpos := kpos) (nm := some "default") hd pk_nil pos pins s1 σ H1 _ I1 q) fun ws s2 ⟨zs, H2, I2, rz, q2⟩ => ?_
  obtain ⟨p, ns, dv, rfl, rfl, hq, q0, q1⟩ := q2
  obtain ⟨d, rfl, rd⟩ := rz.one
  obtain ⟨u, rfl, ru⟩ := r.one
  cases ru
  rw [hks]
  exact call_minD hc I2 rd hq q0 q1
end L2
set_option Elab.async false
set_option linter.all false
set_option maxRecDepth 100000
set_option maxHeartbeats 4000000
namespace L2
open PySem PySem.Spec PyProof.Rows
section
variable {prog : Program} {w : World} {A : Around} {E : Value → Shared → Prop} {s : Shared}
end
end L2
set_option Elab.async false
set_option linter.all false
set_option maxRecDepth 100000
set_option maxHeartbeats 4000000
namespace L2
open PySem PySem.Spec PyProof.Rows
section
variable {X : Cx} {tg : Expr}
end
end L2
set_option Elab.async false
set_option linter.all false
set_option maxRecDepth 100000
set_option maxHeartbeats 4000000
namespace L2
open PySem PySem.Spec PyProof.Rows
section
variable {X : Cx}
def rStrI : List V → Hp → VK → Prop := fun xs H Q => ∃ n : Int, xs = [.int n] ∧ n.natAbs.log2 < 1920 ∧ Q (.str (Str.ofString (toString n))) H
theorem call_strI : CallR X (.type "str") rStrI := by
  intro pins s σ H xs us Q I rv h
  obtain ⟨n, rfl, hn, q⟩ := h
  obtain ⟨u, rfl, ru⟩ := rv.one
  obtain ⟨t, rfl⟩ := ru
  exact P.str_of_int hn ⟨.str _, H, I.tok _, ⟨_, rfl⟩, q⟩
def rIntT : List V → Hp → VK → Prop := fun xs H Q => ∃ (x : Str) (n : Int), xs = [.str x] ∧ intText? x = some n ∧ x.length ≤ 640 ∧ Q (.int n) H
theorem call_intT : CallR X (.type "int") rIntT := by
  intro pins s σ H xs us Q I rv h
  obtain ⟨x, n, rfl, hn, hl, q⟩ := h
  obtain ⟨u, rfl, ru⟩ := rv.one
  obtain ⟨t, rfl⟩ := ru
  exact PySem.W.KIN.call_text hn hl ⟨.int n, H, I.tok _, ⟨_, rfl⟩, q⟩
theorem vals_strs : ∀ {ws : List Str} {us : List Value}, Vals (ws.map V.str) us → ∃ l : List (Str × Tok), strValues l = us ∧ l.map (·.1) = ws
  | [], [], _ => ⟨[], rfl, rfl⟩
  | w :: ws, _, .cons r rr => by
    obtain ⟨t, rfl⟩ := r
    obtain ⟨l, rfl, e⟩ := vals_strs rr
    exact ⟨(w, t) :: l, rfl, by rw [List.map_cons, e]⟩
theorem strs_vals : ∀ l : List (Str × Tok), Vals ((l.map (·.1)).map V.str) (strValues l)
  | [] => .nil
  | (w, t) :: l => .cons ⟨t, rfl⟩ (strs_vals l)
def rJoin : V → List V → Hp → VK → Prop := fun x vs H Q => ∃ (sep : Str) (l : Addr) (ws : List Str), x = .str sep ∧ vs = [.ref l] ∧ H l = some (.lst (ws.map V.str)) ∧ JoinOk sep ws = true ∧ Q (.str (Txt.join sep ws)) H
theorem mt_join : MtR X "str.join" rJoin := by
  intro pins s σ H x vs v us Q I rx rv h
  obtain ⟨sep, l, ws, rfl, rfl, hH, hok, q⟩ := h
  obtain ⟨t, rfl⟩ := rx
  obtain ⟨u, rfl, ru⟩ := rv.one
  cases ru
  obtain ⟨its, n, r, e, z⟩ := I.lst hH
  obtain ⟨ls, rfl, ew⟩ := vals_strs r
  exact SC.join ⟨_, e, rfl, n, rfl⟩ ew hok fun t' k => ⟨.str _, H, I.tok _, ⟨_, rfl⟩, q⟩
def rSplit : V → List V → Hp → VK → Prop := fun x vs H Q => ∃ (z y : Str), x = .str z ∧ vs = [.str y] ∧ (y.length == 0) = false ∧ z.length ≤ 100000 ∧ ∀ p, H p = none → Q (.ref p) (upd H p (.lst ((Txt.split z y).map V.str)))
theorem parts_len (z y : Str) : (Builtin.Str.partsBetween z (Builtin.Str.occurrences z y 0 z.length (z.length + 1)) y.length).length ≤ z.length + 2 := by
  unfold Builtin.Str.partsBetween
  have h := StrLaws.occ_length_le z y 0 z.length (z.length + 1)
  rw [List.length_map, List.length_zip, List.length_cons, List.length_map, List.length_append, List.length_singleton, Nat.min_self]
  omega
theorem split_len (z y : Str) : (Txt.split z y).length ≤ z.length + 2 := by
  unfold Txt.split
  split
  · simp
  · split
    · simp
    · exact parts_len z y
theorem mt_split : MtR X "str.split" rSplit := by
  intro pins s σ H x vs v us Q I rx rv h
  obtain ⟨z, y, rfl, rfl, hy, hz, q⟩ := h
  obtain ⟨t, rfl⟩ := rx
  obtain ⟨u, rfl, ru⟩ := rv.one
  obtain ⟨tu, rfl⟩ := ru
  have fin : ∀ (l : List (Str × Tok)) (tk : Nat), l.map (·.1) = Txt.split z y → EP X pins σ Q (.ref s.heap.objs.size) { s with heap := s.heap.push { cls := .type "list", data := .seq (strValues l).toArray }, toks := tk } := fun l tk e => by
    have hl := split_len z y
    have hv := strs_vals l
    rw [e] at hv
    exact ⟨.ref _, _, I.lnew (t' := tk) hv (by rw [List.length_map, sizeLine_eq]; omega), rfl, q _ I.fresh⟩
  have hsz : z.length ≤ sizeLine := by rw [sizeLine_eq]; omega
  have hsz2 : (Builtin.Str.partsBetween z (Builtin.Str.occurrences z y 0 z.length (z.length + 1)) y.length).length ≤ sizeLine := by have := parts_len z y; rw [sizeLine_eq]; omega
  cases h1 : (decide (z.length < y.length) || decide (Builtin.Str.strKind z < Builtin.Str.strKind y))
  · cases hf : (Builtin.Str.occurrences z y 0 z.length (z.length + 1)).isEmpty
    · refine call_meets F.slot_str_split (typeIs_str _ _ _) F.entry_str_split (F.args_str_split_2 _ _) (meets_str_split_sep z y t tu h1 hy hf hsz hsz2) ?_
      show EP X pins σ Q (.ref s.heap.objs.size) { s with toks := _, heap := s.heap.push { cls := .type "list", data := .seq (strsFrom s.toks (Builtin.Str.partsBetween z (Builtin.Str.occurrences z y 0 z.length (z.length + 1)) y.length)).toArray } }
      rw [strsFrom_eq]
      exact fin _ _ ((numbered_texts _ _).trans ((if_neg (ne_true_of_eq_false h1)).trans (if_neg (ne_true_of_eq_false hf))).symm)
    · exact call_meets F.slot_str_split (typeIs_str _ _ _) F.entry_str_split (F.args_str_split_2 _ _) (meets_str_split_not_found z y t tu h1 hy hf) (fin [(z, t)] s.toks ((if_neg (ne_true_of_eq_false h1)).trans (if_pos hf)).symm)
  · exact call_meets F.slot_str_split (typeIs_str _ _ _) F.entry_str_split (F.args_str_split_2 _ _) (meets_str_split_cannot_occur z y t tu h1) (fin [(z, t)] s.toks (if_pos h1).symm)
def rStarts : V → List V → Hp → VK → Prop := fun x vs H Q => ∃ (z y : Str), x = .str z ∧ vs = [.str y] ∧ Q (.bl (Txt.startswith z y)) H
theorem mt_starts : MtR X "str.startswith" rStarts := by
  intro pins s σ H x vs v us Q I rx rv h
  obtain ⟨z, y, rfl, rfl, q⟩ := h
  obtain ⟨t, rfl⟩ := rx
  obtain ⟨u, rfl, ru⟩ := rv.one
  obtain ⟨tu, rfl⟩ := ru
  exact SC.startswith ⟨.bl _, H, I, rfl, q⟩
end
def Its (z : Str) : It where
  go := fun i _ => i < z.cps.size
  yld := fun i H x H' => H' = H ∧ ∃ c, z.cps[i]? = some c ∧ x = .str ⟨#[c]⟩
  stop := fun i _ => z.cps.size ≤ i
end L2
set_option Elab.async false
set_option linter.all false
set_option maxRecDepth 100000
set_option maxHeartbeats 4000000
namespace L2
open PySem PySem.Spec PyProof.Rows
theorem itType (z : Str) : strIterType z = "str_ascii_iterator" ∨ strIterType z = "str_iterator" := by
  unfold strIterType
  split
  · exact .inl rfl
  · exact .inr rfl
theorem turn_str {P : Program} {w : World} {K : PySem.W.Frag} {tg : Expr} (z : Str) (t : Tok) (it : Addr) : Turn P w K tg (Its z) [it] it (fun i h => h.IsStrIter it (strIterType z) z t i) where
  mem := by simp
  obj := fun i h st b hb => by
    have e : b = it := by simpa using hb
    subst e
    obtain ⟨o, e, c, d⟩ := st
    exact ⟨o, e, fun v z => by rw [d] at z; cases z⟩
  keep := fun i h h' ⟨o, e, c, d⟩ k => ⟨o, k it (by simp) o e, c, d⟩
  item := by
    intro X hP hw hK hc i pins s σ H E I hf st hg
    subst hP hw hK
    have hg : i < z.cps.size := hg
    have hx : z.cps[i]? = some z.cps[i] := by simp [hg]
    obtain ⟨f0, f1, f2, f3, f4, f5⟩ := hf it (by simp)
    have fin : ∀ h', h'.IsStrIter it (strIterType z) z t (i + 1) → Heap.SameBut it s.heap h' → ∃ u, some (Value.str ⟨#[z.cps[i]]⟩ s.toks) = some u ∧ wpAny (model X.prog X.w) X.A (letOwnedTupleGo tg (.ref it) u) (fun _ s2 => ∃ x H', Inv X pins σ H' s2 ∧ RelV x u ∧ (Its z).yld i H x H' ∧ s2.heap.IsStrIter it (strIterType z) z t (i + 1) ∧ ∀ b ∈ [it], H' b = none) E { s with heap := h', toks := s.toks + 1 } := fun h' st' sb => by
      have I1 : Inv X pins σ H { s with heap := h', toks := s.toks + 1 } := I.turned (t' := s.toks + 1) (fun b o hb e => (sb.2 b hb).trans e) f0 f1 f3 f4 f5
      obtain ⟨o, e, c, d⟩ := id st'
      refine ⟨_, rfl, go_of (s := { s with heap := h', toks := s.toks + 1 }) e c d ?_ ⟨.str ⟨#[z.cps[i]]⟩, H, I1, ⟨_, rfl⟩, ⟨rfl, _, hx, rfl⟩, st', fun b hb => (hf b hb).1⟩⟩
      unfold strIterType
      split <;> decide
    have e2 := itType z
    generalize strIterType z = ty at st fin e2 ⊢
    rcases e2 with rfl | rfl
    · exact wpAny_pyNext_ascii_item st hx fin
    · exact wpAny_pyNext_wide_item st hx fin
  done := by
    intro X hP hw hK hc i pins s σ H E I hf st hg
    subst hP hw hK
    have hg : z.cps.size ≤ i := hg
    have hx : z.cps[i]? = none := by simp [hg]
    obtain ⟨f0, f1, f2, f3, f4, f5⟩ := hf it (by simp)
    unfold strIterType at st
    split at st
    · exact wpAny_pyNext_ascii_end (I.ok.hd hc) st hx fun h' eb => ⟨rfl, I.turned (t' := s.toks) (fun b o hb e => eb b o hb e) f0 f1 f3 f4 f5⟩
    · exact wpAny_pyNext_wide_end (I.ok.hd hc) st hx fun h' eb => ⟨rfl, I.turned (t' := s.toks) (fun b o hb e => eb b o hb e) f0 f1 f3 f4 f5⟩
  self := fun A i s Q E st h => by
    unfold strIterType at st
    split at st
    · exact wpAny_pyIter_striter_ascii st h
    · exact wpAny_pyIter_striter_wide st h
section
variable {X : Cx} {tg : Expr}
def iStr (tl : TE) : TI := fun σ H R => tl σ H fun x H1 => ∃ z, x = .str z ∧ R (Its z) H1
theorem pi_str {l : Expr} {tl : TE} (hl : PE X l tl) : PI X tg l (iStr tl) := by
  intro pins s σ H R I h
  refine thn (hl pins s σ H _ I h) fun v s1 ⟨x, H1, I1, r1, q1⟩ => ?_
  obtain ⟨z, e, q⟩ := q1
  subst e
  obtain ⟨t, rfl⟩ := r1
  refine wpAny_pyIter_strU ?_
  refine ⟨s1.heap.objs.size, [s1.heap.objs.size], _, _, H1, rfl, I1.kept (t' := s1.toks) fun b o e => Heap.get?_push_of_some _ e, turn_str z t _, ⟨_, Heap.get?_push_size _ rfl, rfl, rfl⟩, fun b hb => ?_, q⟩
  have e : b = s1.heap.objs.size := by simpa using hb
  subst e
  exact I1.fpOk (Nat.le_refl _) (I1.hok.fresh (Nat.le_refl _))
def rSlS : V → Option Int → Option Int → Hp → VK → Prop := fun x lo hi H Q => ∃ z : Str, x = .str z ∧ z.length ≤ sizeLine ∧ Q (.str (Txt.slice z lo hi)) H
theorem sl_str : SlR X rSlS := by
  intro pins s σ H x v vl vu lo hi sl Q I rx hs pl pu h
  obtain ⟨z, rfl, hz, q⟩ := h
  obtain ⟨t, rfl⟩ := rx
  refine ⟨"str", _, F.slot_str_getitem.lookup, typeIs_str _ _ _, ?_⟩
  have fin : ∀ t' k, EP X pins σ Q (.str (Txt.slice z lo hi) t') { s with toks := k } := fun t' k => ⟨.str _, H, I.tok _, ⟨_, rfl⟩, q⟩
  cases pl with
  | none =>
    cases pu with
    | none => exact wpAny_getItem_str_slice (l := none) (u := none) (st := none) hs rfl (post_val_or_str ⟨Nat.le_trans (Txt.slice_le z _ _) hz, fin⟩)
    | int j tj => exact wpAny_getItem_str_slice (l := none) (u := some (j, tj)) (st := none) hs rfl (post_val_or_str ⟨Nat.le_trans (Txt.slice_le z _ _) hz, fin⟩)
  | int i ti =>
    cases pu with
    | none => exact wpAny_getItem_str_slice (l := some (i, ti)) (u := none) (st := none) hs rfl (post_val_or_str ⟨Nat.le_trans (Txt.slice_le z _ _) hz, fin⟩)
    | int j tj => exact wpAny_getItem_str_slice (l := some (i, ti)) (u := some (j, tj)) (st := none) hs rfl (post_val_or_str ⟨Nat.le_trans (Txt.slice_le z _ _) hz, fin⟩)
end
end L2
set_option Elab.async false
set_option linter.all false
set_option maxRecDepth 100000
set_option maxHeartbeats 4000000
namespace Seek
open PySem L2 PyProof.Rows
def top (i : Nat) : Stmt := PySem.Challenge.pw_stairseek_k31_spans_and_changes.main.body.getD i (.Pass ⟨0, 0, 0, 0⟩)
abbrev dIsWhole : Stmt := top 17
abbrev dAllWhole : Stmt := top 18
abbrev dNeverFalls : Stmt := top 19
abbrev dIsRow : Stmt := top 20
abbrev dShape : Stmt := top 21
abbrev dAtPlace : Stmt := top 22
abbrev dSorted : Stmt := top 23
abbrev dIsTable : Stmt := top 24
abbrev dNeedTable : Stmt := top 27
abbrev dNeedNumber : Stmt := top 29
abbrev dTake : Stmt := top 53
abbrev dTable : Stmt := top 55
abbrev dCopy : Stmt := top 56
abbrev dLaw : Stmt := top 63
abbrev dIsCell : Stmt := top 26
abbrev dNeedCell : Stmt := top 28
abbrev dNumberAt : Stmt := top 30
abbrev dCellSz : Stmt := top 25
abbrev dLCell : Stmt := top 51
abbrev dStore : Stmt := top 52
abbrev dFar : Stmt := top 54
abbrev dRefused : Stmt := top 59
abbrev dKind : Stmt := top 57
abbrev dCopyOf : Stmt := top 38
abbrev dWith : Stmt := top 39
abbrev dChanged : Stmt := top 40
abbrev dBeside : Stmt := top 41
abbrev dSpan : Stmt := top 42
abbrev dLSpan : Stmt := top 58
abbrev dWCount : Stmt := top 46
abbrev dWNumber : Stmt := top 47
abbrev dReadRow : Stmt := top 48
abbrev dReadTable : Stmt := top 49
abbrev dGood : Stmt := top 60
abbrev dCellR : Stmt := top 61
abbrev dGreatR : Stmt := top 62
abbrev dKeeper : Stmt := top 43
def methOf (c : Stmt) (j : Nat) : Stmt := match c with | .ClassDef _ _ _ b _ _ _ _ _ _ _ => b.getD j (.Pass ⟨0, 0, 0, 0⟩) | _ => .Pass ⟨0, 0, 0, 0⟩
def Row (H : Hp) (a : Addr) (ns : List Int) : Prop := H a = some (.lst (ns.map V.int))
def nfB (ns : List Int) : Bool := ((List.range (ns.length - 1)).map fun i => decide (ns.getD i 0 ≤ ns.getD (i + 1) 0)).all id
theorem Row.same {H H' : Hp} {a : Addr} {ns : List Int} (e : Same H H') (h : Row H a ns) : Row H' a ns := e _ _ h
theorem Row.sq {K : PySem.W.Frag} {H : Hp} {a : Addr} {ns : List Int} (h : Row H a ns) : SqL K H a (ns.map V.int) := SqL.of h
structure Blt (mg : Str → Option Value) : Prop where
  len : mg "len" = none
  all : mg "all" = none
  isinst : mg "isinstance" = none
  rng : mg "range" = none
  int : mg "int" = none
  bool : mg "bool" = none
  list : mg "list" = none
  enum : mg "enumerate" = none
  abs : mg "abs" = none
  max : mg "max" = none
  mr : ∃ t, mg "MOST_ROWS" = some (.int 6 t)
  mp : ∃ t, mg "MOST_PLACES" = some (.int 6 t)
theorem sl6 {n : Nat} (h : n ≤ 1000) : n ≤ sizeLine := Nat.le_of_lt (small1000 h)
section
variable {P : Program} {w : World} {K : PySem.W.Frag} {mg : Str → Option Value} {base : Heap}
def spIsWhole : Sp := fun vs H Q _ => ∃ i : Int, vs = [.int i] ∧ Q (.bl true) H
theorem sc_isWhole : FnScope ["thing"] ["thing"] (defScope dIsWhole) := ⟨rfl, rfl, rfl, by decide +kernel, rfl, by decide +kernel, by decide +kernel⟩
theorem ok_isWhole (T : Blt mg) (D : DefAt K mg "is_whole" dIsWhole ["thing"]) : FnAt P w K mg base 1 "is_whole" ["thing"] spIsWhole := by
  refine FnAt.of D sc_isWhole (fun vs H Q E h => ?_) (fun f cdv A outer s H vs Q E hr h => ?_)
  · obtain ⟨i, rfl, _⟩ := h
    rfl
  · obtain ⟨i, rfl, q⟩ := h
    refine ⟨_, pss_one (ps_ret (pe_and (pe_b call_isinst T.isinst boot_isinstance (pa_cons (pv 0) (pa_cons (pe_ty T.int boot_int) pa_nil)))
      (pe_one (pe_not (pe_b call_isinst T.isinst boot_isinstance (pa_cons (pv 0) (pa_cons (pe_ty T.bool boot_bool) pa_nil))))))), ?_⟩
    exact ⟨_, rfl, _, _, _, _, rfl, .int i, kit_ii _, _, rfl, iteT ⟨_, rfl, _, _, _, _, rfl, .int i, kit_ib _, _, rfl, q⟩⟩
def spAllWhole (K : PySem.W.Frag) : Sp := fun vs H Q _ => ∃ (a : Addr) (ns : List Int), vs = [.ref a] ∧ Row H a ns ∧ ns.length ≤ 1000 ∧ ∀ H', Same H H' → Q (.bl true) H'
theorem sc_allWhole : FnScope ["things"] ["things"] (defScope dAllWhole) := ⟨rfl, rfl, rfl, by decide +kernel, rfl, by decide +kernel, by decide +kernel⟩
theorem all_true {α : Type} (xs : List α) : (xs.map fun _ => true).all id = true := by simp
theorem ok_allWhole (T : Blt mg) (D : DefAt K mg "all_whole" dAllWhole ["things"]) (G1 : FnAt P w K mg base 1 "is_whole" ["thing"] spIsWhole) : FnAt P w K mg base 2 "all_whole" ["things"] (spAllWhole K) := by
  refine FnAt.of D sc_allWhole (fun vs H Q E h => ?_) (fun f cdv A outer s H vs Q E hr h => ?_)
  · obtain ⟨a, ns, rfl, _⟩ := h
    rfl
  · obtain ⟨a, ns, rfl, hR, hn, q⟩ := h
    have nd1 : (["thing"] : List Str).Nodup := by decide +kernel
    refine ⟨_, pss_one (ps_ret (pe_b (call_all rfl) T.all boot_all (pa_cons (pe_comp ["thing"] [none] (defScope dAllWhole) ["things"] rfl (pi_list (pv 0)) (by decide +kernel)
      (fun cl C s2 H2 ex => pg_c 0 nd1) (fun cl C s2 H2 ex => pifs_nil) (fun cl C s2 H2 ex => pe_f G1 hr (pa_cons (pv 0) pa_nil))) pa_nil))), ?_⟩
    refine ⟨_, rfl, a, rfl, ⟨_, hR.sq⟩, comp_map V.int (fun _ => .bl true) hR.sq (sl6 hn) (fun i hx H' Q' sm q' => ?_) fun D H' hD sm hDl => ?_⟩
    · exact ⟨_, rfl, i, rfl, q' _ (Same.refl _)⟩
    · refine ⟨D, ns.map fun _ => true, rfl, SqL.of ?_, ?_⟩
      · rw [hDl]
        simp [Function.comp]
      · rw [all_true]
        exact q H' sm
def spNF : Sp := fun vs H Q _ => ∃ (a : Addr) (ns : List Int), vs = [.ref a] ∧ Row H a ns ∧ ns.length ≤ 1000 ∧ ∀ H', Same H H' → Q (.bl (nfB ns)) H'
theorem sc_nf : FnScope ["numbers"] ["numbers"] (defScope dNeverFalls) := ⟨rfl, rfl, rfl, by decide +kernel, rfl, by decide +kernel, by decide +kernel⟩
theorem at_row {ns : List Int} {i : Nat} (h : i < ns.length) : atI (ns.map V.int) (i : Int) = some (.int (ns.getD i 0)) := atI_nat (by simp [h])
theorem ok_nf (T : Blt mg) (D : DefAt K mg "never_falls" dNeverFalls ["numbers"]) : FnAt P w K mg base 1 "never_falls" ["numbers"] spNF := by
  refine FnAt.of D sc_nf (fun vs H Q E h => ?_) (fun f cdv A outer s H vs Q E hr h => ?_)
  · obtain ⟨a, ns, rfl, _⟩ := h
    rfl
  · obtain ⟨a, ns, rfl, hR, hn, q⟩ := h
    have nd1 : (["k", "numbers"] : List Str).Nodup := by decide +kernel
    refine ⟨_, pss_one (ps_ret (pe_b (call_all rfl) T.all boot_all (pa_cons (pe_comp ["k", "numbers"] [none, some 0] (defScope dNeverFalls) ["numbers"] rfl
      (pi_range2 rfl T.rng (pa_cons pe_int (pa_cons (pe_b call_len_seq T.len boot_len (pa_cons (pv 0) pa_nil)) pa_nil))) (by decide +kernel)
      (fun cl C s2 H2 ex => pg_c 0 nd1) (fun cl C s2 H2 ex => pifs_nil)
      (fun cl C s2 H2 ex => pe_cmpR op_le (pe_ix (ixL K) (pv 1) (pe_op op_sub (pv 0) pe_int) (fun _ _ => rfl)) (pe_ix (ixL K) (pv 1) (pv 0) (fun _ _ => rfl)) (nomark _))) pa_nil))), ?_⟩
    refine ⟨_, rfl, a, _, rfl, .inl hR.sq, 1, _, rfl, ⟨by omega, by omega, ?_, ?_⟩, ?_⟩
    · omega
    · rw [List.length_map]
      omega
    · rw [List.length_map, show ((ns.length : Int) - 1).toNat = ns.length - 1 by omega]
      refine comp_range (fun i => .bl (decide (ns.getD i 0 ≤ ns.getD (i + 1) 0))) (sl6 (by omega)) (fun i hi H' Q' sm q' => ?_) fun D H' hD sm hDl => ?_
      · have h1 : (1 : Int) + (i : Int) - 1 = ((i : Nat) : Int) := by omega
        have h2 : (1 : Int) + (i : Int) = ((i + 1 : Nat) : Int) := by omega
        refine ⟨_, rfl, _, rfl, _, _, rfl, rfl, a, _, _, _, rfl, rfl, (hR.same sm).sq, (by rw [h1]; exact at_row (by omega)), _, rfl, _, rfl, a, _, _, _, rfl, rfl, (hR.same sm).sq, (by rw [h2]; exact at_row (by omega)), _, _, rfl, rfl, ?_⟩
        exact q' _ (Same.refl _)
      · refine ⟨D, (List.range (ns.length - 1)).map fun i => decide (ns.getD i 0 ≤ ns.getD (i + 1) 0), rfl, SqL.of ?_, q H' sm⟩
        rw [hDl]
        simp [Function.comp]
end
abbrev Prs := List (Addr × List Int)
structure Tab (H : Hp) (t : Addr) (prs : Prs) : Prop where
  l : H t = some (.lst (prs.map fun p => V.ref p.1))
  r : ∀ p ∈ prs, Row H p.1 p.2
theorem Tab.same {H H' : Hp} {t : Addr} {prs : Prs} (e : Same H H') (h : Tab H t prs) : Tab H' t prs := ⟨e _ _ h.l, fun p hp => (h.r p hp).same e⟩
theorem Tab.sq {K : PySem.W.Frag} {H : Hp} {t : Addr} {prs : Prs} (h : Tab H t prs) : SqL K H t (prs.map fun p => V.ref p.1) := SqL.of h.l
def Sm (prs : Prs) : Prop := prs.length ≤ 1000 ∧ ∀ p ∈ prs, p.2.length ≤ 1000
def rowB (ns : List Int) : Bool := decide (1 ≤ ns.length) && decide (ns.length ≤ 6)
def w0 (prs : Prs) : Nat := (prs.head?.map (·.2.length)).getD 0
def shB (prs : Prs) : Bool := (decide (1 ≤ prs.length) && decide (prs.length ≤ 6)) && ((prs.map fun p => rowB p.2).all id && (prs.map fun p => decide (p.2.length = w0 prs)).all id)
def col (prs : Prs) (j : Nat) : List Int := prs.map fun p => p.2.getD j 0
def srB (prs : Prs) : Bool := (prs.map fun p => nfB p.2).all id && ((List.range (w0 prs)).map fun j => nfB (col prs j)).all id
def tabB (prs : Prs) : Bool := shB prs && srB prs
theorem map_bl {α : Type} (xs : List α) (f : α → Bool) : xs.map (fun x => V.bl (f x)) = (xs.map f).map V.bl := by simp [Function.comp]
theorem dec_nat {i j : Nat} : decide (V.int (i : Int) = V.int (j : Int)) = decide (i = j) := by
  rw [decide_eq_decide]
  constructor
  · intro h
    injection h with h
    omega
  · rintro rfl
    rfl
theorem head_at {prs : Prs} (h : 1 ≤ prs.length) : ∃ p, prs.head? = some p ∧ p ∈ prs ∧ prs[0]? = some p := by
  cases prs with
  | nil => simp at h
  | cons p r => exact ⟨p, rfl, by simp, rfl⟩
section
variable {P : Program} {w : World} {K : PySem.W.Frag} {mg : Str → Option Value} {base : Heap}
def spIsRow : Sp := fun vs H Q _ => ∃ (a : Addr) (ns : List Int), vs = [.ref a] ∧ Row H a ns ∧ ns.length ≤ 1000 ∧ ∀ H', Same H H' → Q (.bl (rowB ns)) H'
theorem sc_isRow : FnScope ["thing"] ["thing"] (defScope dIsRow) := ⟨rfl, rfl, rfl, by decide +kernel, rfl, by decide +kernel, by decide +kernel⟩
theorem ok_isRow (T : Blt mg) (D : DefAt K mg "is_row" dIsRow ["thing"]) (G : FnAt P w K mg base 2 "all_whole" ["things"] (spAllWhole K)) : FnAt P w K mg base 3 "is_row" ["thing"] spIsRow := by
  refine FnAt.of D sc_isRow (fun vs H Q E h => ?_) (fun f cdv A outer s H vs Q E hr h => ?_)
  · obtain ⟨a, ns, rfl, _⟩ := h
    rfl
  · obtain ⟨a, ns, rfl, hR, hn, q⟩ := h
    obtain ⟨tk, mp⟩ := T.mp
    refine ⟨_, pss_one (ps_ret (pe_and (pe_b call_isinst T.isinst boot_isinstance (pa_cons (pv 0) (pa_cons (pe_ty T.list boot_list) pa_nil)))
      (pe_and (pe_chain op_le op_le pe_int (pe_b call_len_seq T.len boot_len (pa_cons (pv 0) pa_nil)) (pe_glob (v := .int 6) rfl mp ⟨_, rfl⟩))
      (pe_one (pe_f G hr (pa_cons (pv 0) pa_nil)))))), ?_⟩
    refine ⟨_, rfl, _, _, _, _, rfl, .lst hR, kit_ll _, _, rfl, iteT ⟨_, rfl, a, _, rfl, .inl hR.sq, 1, _, rfl, rfl, _, rfl, ?_⟩⟩
    rw [List.length_map]
    refine ite2 (fun h1 => ?_) (fun h1 => ?_)
    · have h1 := of_decide_eq_true h1
      refine ⟨_, _, rfl, rfl, _, rfl, ite2 (fun h2 => ?_) (fun h2 => ?_)⟩
      · have h2 := of_decide_eq_true h2
        refine ⟨_, rfl, a, ns, rfl, hR, hn, fun H' sm => ?_⟩
        have e : rowB ns = true := by
          unfold rowB
          rw [decide_eq_true (by omega), decide_eq_true (by omega)]
          rfl
        rw [← e]
        exact q H' sm
      · have e : rowB ns = false := by
          unfold rowB
          rw [decide_eq_false (p := ns.length ≤ 6) (by intro z; exact h2 (decide_eq_true (by omega)))]
          simp
        rw [← e]
        exact q H (Same.refl _)
    · refine ⟨_, rfl, iteF ?_⟩
      have e : rowB ns = false := by
        unfold rowB
        rw [decide_eq_false (p := 1 ≤ ns.length) (by intro z; exact h1 (decide_eq_true (by omega)))]
        simp
      rw [← e]
      exact q H (Same.refl _)
def spShape : Sp := fun vs H Q _ => ∃ (t : Addr) (prs : Prs), vs = [.ref t] ∧ Tab H t prs ∧ Sm prs ∧ ∀ H', Same H H' → Q (.bl (shB prs)) H'
theorem sc_shape : FnScope ["thing", "row"] ["thing"] (defScope dShape) := ⟨rfl, rfl, rfl, by decide +kernel, rfl, by decide +kernel, by decide +kernel⟩
theorem ok_shape (T : Blt mg) (D : DefAt K mg "has_table_shape" dShape ["thing"]) (G : FnAt P w K mg base 3 "is_row" ["thing"] spIsRow) : FnAt P w K mg base 4 "has_table_shape" ["thing"] spShape := by
  refine FnAt.of D sc_shape (fun vs H Q E h => ?_) (fun f cdv A outer s H vs Q E hr h => ?_)
  · obtain ⟨t, prs, rfl, _⟩ := h
    rfl
  · obtain ⟨t, prs, rfl, hT, ⟨hn, hw⟩, q⟩ := h
    obtain ⟨tk, mr⟩ := T.mr
    have nd1 : (["row"] : List Str).Nodup := by decide +kernel
    have nd2 : (["row", "thing"] : List Str).Nodup := by decide +kernel
    refine ⟨_, pss_cons (ps_if (PW.pt (pw_or (pt_not (pt_val (pe_b call_isinst T.isinst boot_isinstance (pa_cons (pv 0) (pa_cons (pe_ty T.list boot_list) pa_nil)))))
        (pw_or1 (pt_not (pt_chain op_le op_le pe_int (pe_b call_len_seq T.len boot_len (pa_cons (pv 0) pa_nil)) (pe_glob (v := .int 6) rfl mr ⟨_, rfl⟩)))))) (pss_one (ps_ret pe_bl)) pss_nil)
      (pss_cons (ps_if (pt_not (pt_val (pe_b (call_all rfl) T.all boot_all (pa_cons (pe_comp ["row"] [none] (defScope dShape) ["thing", "row"] rfl (pi_list (pv 0)) (by decide +kernel)
        (fun cl C s2 H2 ex => pg_c 0 nd1) (fun cl C s2 H2 ex => pifs_nil) (fun cl C s2 H2 ex => pe_f G hr (pa_cons (pv 0) pa_nil))) pa_nil)))) (pss_one (ps_ret pe_bl)) pss_nil)
      (pss_one (ps_ret (pe_b (call_all rfl) T.all boot_all (pa_cons (pe_comp ["row", "thing"] [none, some 0] (defScope dShape) ["thing", "row"] rfl (pi_list (pv 0)) (by decide +kernel)
        (fun cl C s2 H2 ex => pg_c 0 nd2) (fun cl C s2 H2 ex => pifs_nil)
        (fun cl C s2 H2 ex => pe_cmpR op_eq (pe_b (lenK K) T.len boot_len (pa_cons (pv 0) pa_nil)) (pe_b (lenK K) T.len boot_len (pa_cons (pe_ix (ixL K) (pv 1) pe_int (fun _ _ => rfl)) pa_nil)) (nomark _))) pa_nil))))), ?_⟩
    refine ⟨_, rfl, _, _, _, _, rfl, .lst hT.l, kit_ll _, _, rfl, iteF ⟨_, rfl, t, _, rfl, .inl hT.sq, 1, _, rfl, rfl, _, rfl, ?_⟩⟩
    rw [List.length_map]
    have bad : ¬ (1 ≤ prs.length ∧ prs.length ≤ 6) → shB prs = false := fun z => by
      unfold shB
      rw [← Bool.decide_and, decide_eq_false z]
      rfl
    refine ite2 (fun h1 => ?_) (fun h1 => ?_)
    · have h1 := of_decide_eq_true h1
      refine ⟨_, _, rfl, rfl, _, rfl, ?_⟩
      by_cases h2 : prs.length ≤ 6
      · rw [decide_eq_true (show (prs.length : Int) ≤ 6 by omega)]
        refine iteF ?_
        refine ⟨_, rfl, t, rfl, ⟨_, hT.sq⟩, comp_map (fun p => V.ref p.1) (fun p => .bl (rowB p.2)) hT.sq (sl6 hn) (fun p hp H' Q' sm q' => ?_) fun D H' hD sm hDl => ?_⟩
        · exact ⟨_, rfl, p.1, p.2, rfl, (hT.r p hp).same sm, hw p hp, q'⟩
        · refine ⟨D, prs.map fun p => rowB p.2, rfl, SqL.of (by rw [hDl, map_bl]), _, rfl, ?_⟩
          cases e1 : (prs.map fun p => rowB p.2).all id with
          | false =>
            refine iteT ?_
            have e : shB prs = false := by
              unfold shB
              rw [e1]
              simp
            have q1 := q H' sm
            rw [e] at q1
            exact q1
          | true =>
            refine iteF ?_
            have hT1 := hT.same sm
            obtain ⟨p0, hp0, hm0, hx0⟩ := head_at (prs := prs) (by omega)
            have hw0 : w0 prs = p0.2.length := by
              unfold w0
              rw [hp0]
              rfl
            refine ⟨_, rfl, t, rfl, ⟨_, hT1.sq⟩, comp_map (fun p => V.ref p.1) (fun p => .bl (decide (p.2.length = w0 prs))) hT1.sq (sl6 hn) (fun p hp H2 Q' sm2 q' => ?_) fun D2 H2 hD2 sm2 hDl2 => ?_⟩
            · have hT2 := hT1.same sm2
              refine ⟨_, rfl, p.1, _, rfl, .inl (hT2.r p hp).sq, _, rfl, t, _, 0, .ref p0.1, rfl, rfl, hT2.sq, atI_nat (j := 0) (by rw [List.getElem?_map, hx0]; rfl), p0.1, _, rfl, .inl (hT2.r p0 hm0).sq, rfl, ?_⟩
              rw [List.length_map, List.length_map, dec_nat, ← hw0]
              exact q' _ (Same.refl _)
            · refine ⟨D2, prs.map fun p => decide (p.2.length = w0 prs), rfl, SqL.of (by rw [hDl2, map_bl]), ?_⟩
              have q1 := q H2 (sm.trans sm2)
              unfold shB at q1
              rw [e1, decide_eq_true (show 1 ≤ prs.length by omega), decide_eq_true h2] at q1
              exact q1
      · rw [decide_eq_false (show ¬ (prs.length : Int) ≤ 6 by omega)]
        refine iteT ?_
        have q1 := q H (Same.refl _)
        rw [bad (by omega)] at q1
        exact q1
    · refine ⟨_, rfl, iteT ?_⟩
      have q1 := q H (Same.refl _)
      rw [bad (by
        intro z
        exact h1 (decide_eq_true (by omega)))] at q1
      exact q1
def spAtPlace : Sp := fun vs H Q _ => ∃ (t : Addr) (prs : Prs) (j : Nat), vs = [.ref t, .int j] ∧ Tab H t prs ∧ prs.length ≤ 1000 ∧ (∀ p ∈ prs, j < p.2.length) ∧ ∀ D H', H D = none → Same H H' → Row H' D (col prs j) → Q (.ref D) H'
theorem sc_atPlace : FnScope ["table", "place"] ["table", "place"] (defScope dAtPlace) := ⟨rfl, rfl, rfl, by decide +kernel, rfl, by decide +kernel, by decide +kernel⟩
theorem ok_atPlace (D : DefAt K mg "numbers_at_place" dAtPlace ["table", "place"]) : FnAt P w K mg base 1 "numbers_at_place" ["table", "place"] spAtPlace := by
  refine FnAt.of D sc_atPlace (fun vs H Q E h => ?_) (fun f cdv A outer s H vs Q E hr h => ?_)
  · obtain ⟨t, prs, j, rfl, _⟩ := h
    rfl
  · obtain ⟨t, prs, j, rfl, hT, hn, hj, q⟩ := h
    have nd1 : (["row", "place"] : List Str).Nodup := by decide +kernel
    refine ⟨_, pss_one (ps_ret (pe_comp ["row", "place"] [none, some 1] (defScope dAtPlace) ["table", "place"] rfl (pi_list (pv 0)) (by decide +kernel)
        (fun cl C s2 H2 ex => pg_c 0 nd1) (fun cl C s2 H2 ex => pifs_nil) (fun cl C s2 H2 ex => pe_ix (ixL K) (pv 0) (pv 1) (fun _ _ => rfl)))), ?_⟩
    refine ⟨_, rfl, t, rfl, ⟨_, hT.sq⟩, comp_map (fun p => V.ref p.1) (fun p => .int (p.2.getD j 0)) hT.sq (sl6 hn) (fun p hp H' Q' sm q' => ?_) fun D H' hD sm hDl => ?_⟩
    · exact ⟨_, rfl, _, rfl, p.1, _, _, _, rfl, rfl, ((hT.r p hp).same sm).sq, at_row (hj p hp), q' _ (Same.refl _)⟩
    · refine q D H' hD sm ?_
      unfold Row col
      rw [hDl, List.map_map]
      rfl
def spSorted : Sp := fun vs H Q _ => ∃ (t : Addr) (prs : Prs), vs = [.ref t] ∧ Tab H t prs ∧ Sm prs ∧ 1 ≤ prs.length ∧ (∀ p ∈ prs, p.2.length = w0 prs) ∧ ∀ H', Same H H' → Q (.bl (srB prs)) H'
theorem sc_sorted : FnScope ["table", "row", "place"] ["table"] (defScope dSorted) := ⟨rfl, rfl, rfl, by decide +kernel, rfl, by decide +kernel, by decide +kernel⟩
theorem ok_sorted (T : Blt mg) (D : DefAt K mg "is_sorted_both_ways" dSorted ["table"]) (G : FnAt P w K mg base 1 "never_falls" ["numbers"] spNF) (G2 : FnAt P w K mg base 1 "numbers_at_place" ["table", "place"] spAtPlace) : FnAt P w K mg base 2 "is_sorted_both_ways" ["table"] spSorted := by
  refine FnAt.of D sc_sorted (fun vs H Q E h => ?_) (fun f cdv A outer s H vs Q E hr h => ?_)
  · obtain ⟨t, prs, rfl, _⟩ := h
    rfl
  · obtain ⟨t, prs, rfl, hT, ⟨hn, hw⟩, h1, hv, q⟩ := h
    have nd1 : (["row"] : List Str).Nodup := by decide +kernel
    have nd2 : (["place", "table"] : List Str).Nodup := by decide +kernel
    obtain ⟨p0, hp0, hm0, hx0⟩ := head_at (prs := prs) h1
    have hw0 : w0 prs = p0.2.length := (hv p0 hm0).symm
    refine ⟨_, pss_cons (ps_if (pt_not (pt_val (pe_b (call_all rfl) T.all boot_all (pa_cons (pe_comp ["row"] [none] (defScope dSorted) ["table", "row", "place"] rfl (pi_list (pv 0)) (by decide +kernel)
        (fun cl C s2 H2 ex => pg_c 0 nd1) (fun cl C s2 H2 ex => pifs_nil) (fun cl C s2 H2 ex => pe_f G hr (pa_cons (pv 0) pa_nil))) pa_nil)))) (pss_one (ps_ret pe_bl)) pss_nil)
      (pss_one (ps_ret (pe_b (call_all rfl) T.all boot_all (pa_cons (pe_comp ["place", "table"] [none, some 0] (defScope dSorted) ["table", "row", "place"] rfl
        (pi_range1 rfl T.rng (pa_cons (pe_b call_len_seq T.len boot_len (pa_cons (pe_ix ix_list (pv 0) pe_int (fun _ _ => rfl)) pa_nil)) pa_nil)) (by decide +kernel)
        (fun cl C s2 H2 ex => pg_c 0 nd2) (fun cl C s2 H2 ex => pifs_nil)
        (fun cl C s2 H2 ex => pe_f G hr (pa_cons (pe_f G2 hr (pa_cons (pv 1) (pa_cons (pv 0) pa_nil))) pa_nil))) pa_nil)))), ?_⟩
    refine ⟨_, rfl, t, rfl, ⟨_, hT.sq⟩, comp_map (fun p => V.ref p.1) (fun p => .bl (nfB p.2)) hT.sq (sl6 hn) (fun p hp H' Q' sm q' => ?_) fun D H' hD sm hDl => ?_⟩
    · exact ⟨_, rfl, p.1, p.2, rfl, (hT.r p hp).same sm, hw p hp, q'⟩
    · refine ⟨D, prs.map fun p => nfB p.2, rfl, SqL.of (by rw [hDl, map_bl]), _, rfl, ?_⟩
      cases e1 : (prs.map fun p => nfB p.2).all id with
      | false =>
        refine iteT ?_
        have q1 := q H' sm
        unfold srB at q1
        rw [e1] at q1
        exact q1
      | true =>
        refine iteF ?_
        have hT1 := hT.same sm
        refine ⟨_, rfl, t, _, 0, .ref p0.1, rfl, rfl, hT1.sq, atI_nat (j := 0) (by rw [List.getElem?_map, hx0]; rfl), p0.1, _, rfl, .inl (hT1.r p0 hm0).sq, _, rfl, ?_, ?_, ?_⟩
        · omega
        · have := hw p0 hm0
          rw [List.length_map]
          omega
        · rw [List.length_map, ← hw0, Int.toNat_natCast]
          have hb : w0 prs ≤ 1000 := by rw [hw0]; exact hw p0 hm0
          refine comp_range (fun j => .bl (nfB (col prs j))) (sl6 hb) (fun j hj H2 Q' sm2 q' => ?_) fun D2 H2 hD2 sm2 hDl2 => ?_
          · have hT2 := hT1.same sm2
            refine ⟨_, rfl, _, rfl, t, prs, j, by rw [Int.zero_add], hT2, hn, fun p hp => by rw [hv p hp]; exact hj, fun D3 H3 hD3 sm3 r3 => ⟨D3, col prs j, rfl, r3, ?_, fun H4 sm4 => q' H4 (sm3.trans sm4)⟩⟩
            unfold col
            rw [List.length_map]
            exact hn
          · refine ⟨D2, (List.range (w0 prs)).map fun j => nfB (col prs j), rfl, SqL.of (by rw [hDl2, map_bl]), ?_⟩
            have q1 := q H2 (sm.trans sm2)
            unfold srB at q1
            rw [e1] at q1
            exact q1
def spIsTable : Sp := fun vs H Q _ => ∃ (t : Addr) (prs : Prs), vs = [.ref t] ∧ Tab H t prs ∧ Sm prs ∧ ∀ H', Same H H' → Q (.bl (tabB prs)) H'
theorem sc_isTable : FnScope ["thing"] ["thing"] (defScope dIsTable) := ⟨rfl, rfl, rfl, by decide +kernel, rfl, by decide +kernel, by decide +kernel⟩
theorem shB_of {prs : Prs} (h : shB prs = true) : 1 ≤ prs.length ∧ prs.length ≤ 6 ∧ (∀ p ∈ prs, 1 ≤ p.2.length ∧ p.2.length ≤ 6) ∧ ∀ p ∈ prs, p.2.length = w0 prs := by
  unfold shB rowB at h
  simp only [Bool.and_eq_true, decide_eq_true_eq, List.all_eq_true, List.mem_map, id] at h
  obtain ⟨⟨h1, h2⟩, h3, h4⟩ := h
  exact ⟨h1, h2, fun p hp => by simpa using h3 _ ⟨p, hp, rfl⟩, fun p hp => by simpa using h4 _ ⟨p, hp, rfl⟩⟩
theorem ok_isTable (D : DefAt K mg "is_table" dIsTable ["thing"]) (G : FnAt P w K mg base 4 "has_table_shape" ["thing"] spShape) (G2 : FnAt P w K mg base 2 "is_sorted_both_ways" ["table"] spSorted) : FnAt P w K mg base 5 "is_table" ["thing"] spIsTable := by
  refine FnAt.of D sc_isTable (fun vs H Q E h => ?_) (fun f cdv A outer s H vs Q E hr h => ?_)
  · obtain ⟨t, prs, rfl, _⟩ := h
    rfl
  · obtain ⟨t, prs, rfl, hT, hs, q⟩ := h
    refine ⟨_, pss_one (ps_ret (pe_and (pe_f G hr (pa_cons (pv 0) pa_nil)) (pe_one (pe_f G2 (hr.mono (by decide)) (pa_cons (pv 0) pa_nil))))), ?_⟩
    refine ⟨_, rfl, t, prs, rfl, hT, hs, fun H' sm => ⟨_, rfl, ?_⟩⟩
    cases e : shB prs with
    | false =>
      refine iteF ?_
      have q1 := q H' sm
      unfold tabB at q1
      rw [e] at q1
      exact q1
    | true =>
      obtain ⟨a1, a2, a3, a4⟩ := shB_of e
      refine iteT ⟨_, rfl, t, prs, rfl, hT.same sm, hs, a1, a4, fun H2 sm2 => ?_⟩
      have q1 := q H2 (sm.trans sm2)
      unfold tabB at q1
      rw [e] at q1
      exact q1
def spNeedTable : Sp := fun vs H Q _ => ∃ (t : Addr) (prs : Prs), vs = [.ref t] ∧ Tab H t prs ∧ Sm prs ∧ tabB prs = true ∧ ∀ H', Same H H' → Q .non H'
theorem sc_needTable : FnScope ["thing"] ["thing"] (defScope dNeedTable) := ⟨rfl, rfl, rfl, by decide +kernel, rfl, by decide +kernel, by decide +kernel⟩
theorem ok_needTable (D : DefAt K mg "need_table" dNeedTable ["thing"]) (G : FnAt P w K mg base 5 "is_table" ["thing"] spIsTable) : FnAt P w K mg base 6 "need_table" ["thing"] spNeedTable := by
  refine FnAt.of D sc_needTable (fun vs H Q E h => ?_) (fun f cdv A outer s H vs Q E hr h => ?_)
  · obtain ⟨t, prs, rfl, _⟩ := h
    rfl
  · obtain ⟨t, prs, rfl, hT, hs, hg, q⟩ := h
    refine ⟨_, pss_one (ps_if (pt_not (pt_val (pe_f G hr (pa_cons (pv 0) pa_nil)))) pss_never pss_nil), ?_⟩
    refine ⟨_, rfl, t, prs, rfl, hT, hs, fun H' sm => ⟨_, rfl, ?_⟩⟩
    rw [hg]
    exact iteF (q H' sm)
def spNeedNumber : Sp := fun vs H Q _ => ∃ i : Int, vs = [.int i] ∧ Q .non H
theorem sc_needNumber : FnScope ["thing"] ["thing"] (defScope dNeedNumber) := ⟨rfl, rfl, rfl, by decide +kernel, rfl, by decide +kernel, by decide +kernel⟩
theorem ok_needNumber (D : DefAt K mg "need_number" dNeedNumber ["thing"]) (G : FnAt P w K mg base 1 "is_whole" ["thing"] spIsWhole) : FnAt P w K mg base 2 "need_number" ["thing"] spNeedNumber := by
  refine FnAt.of D sc_needNumber (fun vs H Q E h => ?_) (fun f cdv A outer s H vs Q E hr h => ?_)
  · obtain ⟨i, rfl, _⟩ := h
    rfl
  · obtain ⟨i, rfl, q⟩ := h
    refine ⟨_, pss_one (ps_if (pt_not (pt_val (pe_f G hr (pa_cons (pv 0) pa_nil)))) pss_never pss_nil), ?_⟩
    exact ⟨_, rfl, i, rfl, _, rfl, iteF q⟩
end
def nfP (ns : List Int) : Prop := ∀ i, i + 1 < ns.length → ns.getD i 0 ≤ ns.getD (i + 1) 0
theorem nfB_iff {ns : List Int} : nfB ns = true ↔ nfP ns := by
  unfold nfB nfP
  simp only [List.all_map, List.all_eq_true, List.mem_range, Function.comp, id, decide_eq_true_eq]
  constructor
  · intro h i hi
    exact h i (by omega)
  · intro h i hi
    exact h i (by omega)
def rowAt (prs : Prs) (i : Nat) : List Int := ((prs[i]?).map (·.2)).getD []
theorem rowAt_mem {prs : Prs} {i : Nat} (h : i < prs.length) : ∃ p ∈ prs, prs[i]? = some p ∧ rowAt prs i = p.2 := by
  refine ⟨prs[i], List.getElem_mem h, by simp [h], ?_⟩
  unfold rowAt
  rw [List.getElem?_eq_getElem h]
  rfl
theorem col_len (prs : Prs) (j : Nat) : (col prs j).length = prs.length := by
  unfold col
  rw [List.length_map]
theorem col_at {prs : Prs} {i j : Nat} (h : i < prs.length) : (col prs j).getD i 0 = (rowAt prs i).getD j 0 := by
  unfold col rowAt
  rw [List.getD_eq_getElem?_getD, List.getElem?_map, List.getElem?_eq_getElem h]
  rfl
structure GoodP (wide : Nat) (prs : Prs) : Prop where
  len : ∀ p ∈ prs, p.2.length = wide
  row : ∀ p ∈ prs, nfP p.2
  down : ∀ i, i + 1 < prs.length → ∀ j, j < wide → (rowAt prs i).getD j 0 ≤ (rowAt prs (i + 1)).getD j 0
theorem w0_of {wide : Nat} {prs : Prs} (h : 1 ≤ prs.length) (hl : ∀ p ∈ prs, p.2.length = wide) : w0 prs = wide := by
  obtain ⟨p, h1, h2, _⟩ := head_at h
  unfold w0
  rw [h1]
  exact hl p h2
theorem tabB_of {wide : Nat} {prs : Prs} (g : GoodP wide prs) (h1 : 1 ≤ prs.length) (h2 : prs.length ≤ 6) (h3 : 1 ≤ wide) (h4 : wide ≤ 6) : tabB prs = true := by
  have hw := w0_of h1 g.len
  unfold tabB shB srB rowB
  simp only [Bool.and_eq_true, decide_eq_true_eq, List.all_eq_true, List.mem_map, id]
  refine ⟨⟨⟨h1, h2⟩, ?_, ?_⟩, ?_, ?_⟩
  · rintro b ⟨p, hp, rfl⟩
    have := g.len p hp
    simp only [Bool.and_eq_true, decide_eq_true_eq]
    omega
  · rintro b ⟨p, hp, rfl⟩
    rw [decide_eq_true_eq, hw]
    exact g.len p hp
  · rintro b ⟨p, hp, rfl⟩
    exact nfB_iff.mpr (g.row p hp)
  · rintro b ⟨j, hj, rfl⟩
    rw [List.mem_range, hw] at hj
    refine nfB_iff.mpr fun i hi => ?_
    rw [col_len] at hi
    rw [col_at (by omega), col_at hi]
    exact g.down i hi j hj
theorem good_of {prs : Prs} (h : tabB prs = true) : GoodP (w0 prs) prs ∧ 1 ≤ prs.length ∧ prs.length ≤ 6 ∧ 1 ≤ w0 prs ∧ w0 prs ≤ 6 := by
  unfold tabB at h
  rw [Bool.and_eq_true] at h
  obtain ⟨h1, h2, h3, h4⟩ := shB_of h.1
  obtain ⟨p, e1, e2, _⟩ := head_at h1
  have h5 := h3 p e2
  have h6 := h4 p e2
  have hs := h.2
  unfold srB at hs
  simp only [Bool.and_eq_true, List.all_eq_true, List.mem_map, id] at hs
  refine ⟨⟨h4, fun p hp => nfB_iff.mp (hs.1 _ ⟨p, hp, rfl⟩), fun i hi j hj => ?_⟩, h1, h2, by omega, by omega⟩
  have := nfB_iff.mp (hs.2 _ ⟨j, List.mem_range.mpr hj, rfl⟩) i (by rw [col_len]; exact hi)
  rw [col_at (by omega), col_at hi] at this
  exact this
theorem getD_push {ns : List Int} {v : Int} {i : Nat} : (ns ++ [v]).getD i 0 = if i < ns.length then ns.getD i 0 else if i = ns.length then v else 0 := by
  rw [List.getD_eq_getElem?_getD, List.getD_eq_getElem?_getD]
  by_cases h : i < ns.length
  · rw [if_pos h, List.getElem?_append_left h]
  · rw [if_neg h, List.getElem?_append_right (by omega)]
    by_cases h2 : i = ns.length
    · subst h2
      simp
    · rw [if_neg h2, List.getElem?_eq_none (by simp; omega)]
      rfl
theorem nfP_push {ns : List Int} {v : Int} (h : nfP ns) (hl : ∀ k, k + 1 = ns.length → ns.getD k 0 ≤ v) : nfP (ns ++ [v]) := fun i hi => by
  rw [List.length_append, List.length_singleton] at hi
  rw [getD_push, getD_push, if_pos (by omega)]
  by_cases h2 : i + 1 < ns.length
  · rw [if_pos h2]
    exact h i h2
  · rw [if_neg h2, if_pos (by omega)]
    exact hl i (by omega)
theorem rowAt_push {prs : Prs} {p : Addr × List Int} {i : Nat} (h : i ≤ prs.length) : rowAt (prs ++ [p]) i = if i < prs.length then rowAt prs i else p.2 := by
  unfold rowAt
  by_cases h2 : i < prs.length
  · rw [if_pos h2, List.getElem?_append_left h2]
  · have : i = prs.length := by omega
    subst this
    rw [if_neg h2]
    simp
theorem good_push {wide : Nat} {prs : Prs} {a : Addr} {cur : List Int} (g : GoodP wide prs) (hl : cur.length = wide) (hn : nfP cur) (hd : prs.length = 0 ∨ ∀ j, j < wide → (rowAt prs (prs.length - 1)).getD j 0 ≤ cur.getD j 0) : GoodP wide (prs ++ [(a, cur)]) where
  len := fun p hp => by
    rcases List.mem_append.mp hp with z | z
    · exact g.len p z
    · have : p = (a, cur) := by simpa using z
      subst this
      exact hl
  row := fun p hp => by
    rcases List.mem_append.mp hp with z | z
    · exact g.row p z
    · have : p = (a, cur) := by simpa using z
      subst this
      exact hn
  down := fun i hi j hj => by
    rw [List.length_append, List.length_singleton] at hi
    rw [rowAt_push (by omega), rowAt_push (by omega), if_pos (by omega)]
    by_cases h2 : i + 1 < prs.length
    · rw [if_pos h2]
      exact g.down i h2 j hj
    · rw [if_neg h2]
      rcases hd with z | z
      · omega
      · have := z j hj
        rw [show prs.length - 1 = i by omega] at this
        exact this
theorem at_mem {ns : List Int} {d : Int} (h0 : 0 ≤ d) (h1 : d < ns.length) : ∃ r ∈ ns, atI (ns.map V.int) d = some (.int r) := by
  obtain ⟨k, rfl⟩ : ∃ k : Nat, d = k := ⟨d.toNat, by omega⟩
  have hk : k < ns.length := by omega
  exact ⟨ns[k], List.getElem_mem hk, atI_nat (by simp [hk])⟩
theorem atI_last {α : Type} {xs : List α} {v : α} (h : xs[xs.length - 1]? = some v) : atI xs (-1) = some v := by
  have hl : 0 < xs.length := by
    have := (List.getElem?_eq_some_iff.mp h).1
    omega
  unfold atI ixN
  rw [if_neg (by decide), if_pos (by omega)]
  show xs[((-1 : Int) + (xs.length : Int)).toNat]? = some v
  rw [show ((-1 : Int) + (xs.length : Int)).toNat = xs.length - 1 by omega]
  exact h
def dRow (ns : List Int) : PyData := .list (ns.map PyData.int)
def dTab (rows : List (List Int)) : PyData := .list (rows.map dRow)
theorem rdAll_ints {K : PySem.W.Frag} {H : Hp} : ∀ ns : List Int, RdAll K H (ns.map V.int) (ns.map PyData.int)
  | [] => .nil
  | n :: r => .cons (.int n) (rdAll_ints r)
theorem Row.rd {K : PySem.W.Frag} {H : Hp} {a : Addr} {ns : List Int} (h : Row H a ns) : RdD K H (.ref a) (dRow ns) := .lst h.sq (rdAll_ints ns)
theorem rdAll_rows {K : PySem.W.Frag} {H : Hp} : ∀ prs : Prs, (∀ p ∈ prs, Row H p.1 p.2) → RdAll K H (prs.map fun p => V.ref p.1) ((prs.map (·.2)).map dRow)
  | [], _ => .nil
  | p :: r, h => .cons (h p (by simp)).rd (rdAll_rows r fun q hq => h q (by simp [hq]))
theorem Tab.rd {K : PySem.W.Frag} {H : Hp} {t : Addr} {prs : Prs} (h : Tab H t prs) : RdD K H (.ref t) (dTab (prs.map (·.2))) := .lst h.sq (rdAll_rows prs h.r)
theorem lay_ints : ∀ ns : List Int, PyData.canLayAll0 (ns.map PyData.int) = true ∧ PyData.depthAll (ns.map PyData.int) ≤ 0
  | [] => by simp [PyData.canLayAll0, PyData.depthAll]
  | n :: r => by
    have h := lay_ints r
    simp only [List.map_cons, PyData.canLayAll0, PyData.canLay0, PyData.depthAll, PyData.depth, h.1, Bool.and_self, true_and]
    have := h.2
    omega
theorem lay_rows : ∀ rows : List (List Int), PyData.canLayAll0 (rows.map dRow) = true ∧ PyData.depthAll (rows.map dRow) ≤ 1
  | [] => by simp [PyData.canLayAll0, PyData.depthAll]
  | ns :: r => by
    have h := lay_rows r
    have h2 := lay_ints ns
    simp only [List.map_cons, dRow, PyData.canLayAll0, PyData.canLay0, PyData.depthAll, PyData.depth, h2.1]
    have a1 := h.2
    have a2 := h2.2
    refine ⟨by rw [Bool.true_and]; exact h.1, ?_⟩
    show max (PyData.depthAll (ns.map PyData.int) + 1) (PyData.depthAll (r.map dRow)) ≤ 1
    omega
theorem shaped_row (ns : List Int) : SeqAt.shaped (dRow ns) = true := by
  have h := lay_ints ns
  have h2 := h.2
  show (PyData.canLay0 (.list (ns.map PyData.int)) && decide (PyData.depth (.list (ns.map PyData.int)) ≤ 64)) = true
  rw [Bool.and_eq_true]
  exact ⟨by simp only [PyData.canLay0]; exact h.1, decide_eq_true (by simp only [PyData.depth]; omega)⟩
theorem shaped_tab (rows : List (List Int)) : SeqAt.shaped (dTab rows) = true := by
  have h := lay_rows rows
  have h2 := h.2
  show (PyData.canLay0 (.list (rows.map dRow)) && decide (PyData.depth (.list (rows.map dRow)) ≤ 64)) = true
  rw [Bool.and_eq_true]
  exact ⟨by simp only [PyData.canLay0]; exact h.1, decide_eq_true (by simp only [PyData.depth]; omega)⟩
theorem eqv_ints : ∀ ns : List Int, PyData.eqvAll (ns.map PyData.int) (ns.map PyData.int) = true
  | [] => by simp [PyData.eqvAll]
  | n :: r => by simp [PyData.eqvAll, PyData.eqv, eqv_ints r]
theorem eqv_row (ns : List Int) : PyData.eqv (dRow ns) (dRow ns) = true := by
  unfold dRow
  simp only [PyData.eqv]
  exact eqv_ints ns
theorem eqv_rows : ∀ rows : List (List Int), PyData.eqvAll (rows.map dRow) (rows.map dRow) = true
  | [] => by simp [PyData.eqvAll]
  | n :: r => by simp [PyData.eqvAll, eqv_row n, eqv_rows r]
theorem eqv_tab (rows : List (List Int)) : PyData.eqv (dTab rows) (dTab rows) = true := by
  unfold dTab
  simp only [PyData.eqv]
  exact eqv_rows rows
theorem good_bounds {prs : Prs} (h : tabB prs = true) : Sm prs := by
  obtain ⟨g, h1, h2, h3, h4⟩ := good_of h
  exact ⟨by omega, fun p hp => by rw [g.len p hp]; omega⟩
theorem tabB_rows {prs prs' : Prs} (h : prs'.map (·.2) = prs.map (·.2)) : tabB prs' = tabB prs := by
  have hl : prs'.length = prs.length := by
    have := congrArg List.length h
    simpa using this
  have hm : ∀ (f : List Int → Bool), (prs'.map fun p => f p.2) = (prs.map fun p => f p.2) := fun f => by
    have := congrArg (List.map f) h
    rw [List.map_map, List.map_map] at this
    exact this
  have hm2 : ∀ (f : List Int → Int), (prs'.map fun p => f p.2) = (prs.map fun p => f p.2) := fun f => by
    have := congrArg (List.map f) h
    rw [List.map_map, List.map_map] at this
    exact this
  have hw : w0 prs' = w0 prs := by
    have := congrArg (fun l : List (List Int) => (l.head?.map List.length).getD 0) h
    simp only [List.head?_map, Option.map_map] at this
    exact this
  have hc : ∀ j, col prs' j = col prs j := fun j => hm2 fun ns => ns.getD j 0
  unfold tabB shB srB
  rw [hl, hw, hm rowB, hm fun ns => decide (ns.length = w0 prs), hm nfB]
  simp only [hc]
section
variable {P : Program} {w : World} {K : PySem.W.Frag} {mg : Str → Option Value} {base : Heap}
end
def StK (H : Hp) (s : Addr) : Prop := ∃ g b c : Int, H s = some (.lst [.int g, .int b, .int c])
def But (s : Addr) (H H' : Hp) : Prop := ∀ b o, b ≠ s → H b = some o → H' b = some o
theorem But.refl (s : Addr) (H : Hp) : But s H H := fun _ _ _ e => e
theorem But.trans {s : Addr} {H H1 H2 : Hp} (a : But s H H1) (b : But s H1 H2) : But s H H2 := fun c o n e => b c o n (a c o n e)
theorem Same.but {s : Addr} {H H' : Hp} (a : Same H H') : But s H H' := fun c o _ e => a c o e
theorem StK.same {H H' : Hp} {s : Addr} (e : Same H H') (h : StK H s) : StK H' s := let ⟨g, b, c, h⟩ := h; ⟨g, b, c, e _ _ h⟩
theorem StK.ne {H : Hp} {s a : Addr} (h : StK H s) (n : H a = none) : s ≠ a := let ⟨_, _, _, h⟩ := h; ne_of_none h n
theorem But.free {s a : Addr} {H H' : Hp} (b : But s H H') (S : StK H' s) (h : H' a = none) : H a = none := by
  cases e : H a with
  | none => rfl
  | some o =>
    by_cases hz : a = s
    · obtain ⟨_, _, _, z⟩ := S
      rw [hz, z] at h
      cases h
    · rw [b a o hz e] at h
      cases h
theorem Same.but' {s : Addr} {H H1 H2 : Hp} (a : Same H H1) (n : H s = none) (b : But s H1 H2) : Same H H2 := fun c o e => b c o (ne_of_none e n) (a c o e)
theorem Row.but {H H' : Hp} {s a : Addr} {ns : List Int} (r : Row H a ns) (n : a ≠ s) (e : But s H H') : Row H' a ns := e _ _ n r
theorem Tab.but {H H' : Hp} {s t : Addr} {prs : Prs} (r : Tab H t prs) (n : t ≠ s) (ns : ∀ p ∈ prs, p.1 ≠ s) (e : But s H H') : Tab H' t prs := ⟨e _ _ n r.l, fun p hp => (r.r p hp).but (ns p hp) e⟩
theorem len0 : 0 ≤ sizeLine := Nat.zero_le _
theorem len1 : 1 ≤ sizeLine := by decide
theorem len2 : 2 ≤ sizeLine := by decide
theorem len3 : 3 ≤ sizeLine := by decide
theorem len4 : 4 ≤ sizeLine := by decide
theorem len5 : 5 ≤ sizeLine := by decide
theorem Row.new {H : Hp} {D : Addr} : Row (upd H D (.lst [])) D [] := upd_same
theorem Row.push {H : Hp} {D : Addr} {ds : List Int} {v : Int} : Row (upd H D (.lst (ds.map V.int ++ [.int v]))) D (ds ++ [v]) := by
  unfold Row
  rw [upd_same, List.map_append]
  rfl
section
variable {P : Program} {w : World} {K : PySem.W.Frag} {mg : Str → Option Value} {base : Heap}
def spLCell (K : PySem.W.Frag) : Sp := fun vs H Q _ => ∃ (a : Addr) (ns : List Int) (k : Nat), vs = [.ref a, .int (k : Nat)] ∧ SqL K H a (ns.map V.int) ∧ k ≤ 100 ∧ ∀ c, Q (.int c) H
theorem sc_lcell : FnScope ["script", "k"] ["script", "k"] (defScope dLCell) := ⟨rfl, rfl, rfl, by decide +kernel, rfl, by decide +kernel, by decide +kernel⟩
theorem ok_lcell (T : Blt mg) (D : DefAt K mg "_law_cell" dLCell ["script", "k"]) : FnAt P w K mg base 1 "_law_cell" ["script", "k"] (spLCell K) := by
  refine FnAt.of D sc_lcell (fun vs H Q E h => ?_) (fun f cdv A outer s H vs Q E hr h => ?_)
  · obtain ⟨a, ns, k, rfl, _⟩ := h
    rfl
  · obtain ⟨a, ns, k, rfl, hS, hk, q⟩ := h
    refine ⟨_, pss_cons (ps_if (pt_cmpR o_lt (pv 1) (pe_b call_len_seq T.len boot_len (pa_cons (pv 0) pa_nil)) (nomark _)) (pss_one (ps_ret (pe_ix ix_list (pv 0) (pv 1) (fun _ _ => rfl)))) pss_nil)
      (pss_one (ps_ret (pe_op o_add (pe_op o_add (pe_op o_mul (pe_op o_mul pe_int (pv 1)) (pv 1)) (pe_op o_mul pe_int (pv 1))) pe_int))), ?_⟩
    refine ⟨_, rfl, _, rfl, a, _, rfl, .inl hS, _, _, rfl, rfl, _, rfl, ?_⟩
    rw [List.length_map]
    refine ite2 (fun h1 => ?_) (fun h1 => ?_)
    · have h1 := of_decide_eq_true h1
      exact ⟨_, rfl, _, rfl, a, _, _, _, rfl, rfl, hS, at_row (by omega), q _⟩
    · exact ⟨_, rfl, _, _, rfl, rfl, .inl ⟨by decide, by decide⟩, _, rfl, _, _, rfl, rfl, .inr ⟨by omega, by omega⟩, _, rfl, _, _, rfl, rfl, .inl ⟨by decide, by decide⟩, _, _, rfl, rfl, _, _, rfl, rfl, q _⟩
def spStore : Sp := fun vs H Q _ => ∃ c : Int, vs = [.int c] ∧ ∀ s H', H s = none → Same H H' → StK H' s → Q (.ref s) H'
theorem sc_store : FnScope ["cell", "great"] ["cell"] (defScope dStore) := ⟨rfl, rfl, rfl, by decide +kernel, rfl, by decide +kernel, by decide +kernel⟩
theorem ok_store (D : DefAt K mg "_law_store" dStore ["cell"]) : FnAt P w K mg base 1 "_law_store" ["cell"] spStore := by
  refine FnAt.of D sc_store (fun vs H Q E h => ?_) (fun f cdv A outer s H vs Q E hr h => ?_)
  · obtain ⟨c, rfl, _⟩ := h
    rfl
  · obtain ⟨c, rfl, q⟩ := h
    have nd := sc_store.nd
    refine ⟨_, pss_cons (ps_set (i := 1) nd rfl (Or.inl rfl) pe_int) (pss_cons (ps_if (pt_cmpR o_ge (pv 0) (pe_op o_pow pe_int pe_int) (nomark _)) (pss_one (ps_set (i := 1) nd rfl (Or.inl rfl) (pv 0))) pss_nil)
      (pss_one (ps_ret (pe_lst (pa_cons (pv 1) (pa_cons (pe_op o_mod (pv 0) pe_int) (pa_cons pe_int pa_nil))))))), ?_⟩
    refine ⟨_, rfl, _, _, rfl, rfl, ⟨by decide, by decide, by decide⟩, _, _, rfl, rfl, _, rfl, ite2 (fun _ => ?_) (fun _ => ?_)⟩
    · exact ⟨_, rfl, _, rfl, _, rfl, _, _, rfl, rfl, by decide, len3, fun p hp => q p _ hp (Same.new hp) ⟨_, _, _, upd_same⟩⟩
    · exact ⟨_, rfl, _, rfl, _, _, rfl, rfl, by decide, len3, fun p hp => q p _ hp (Same.new hp) ⟨_, _, _, upd_same⟩⟩
def spTakeK : Sp := fun vs H Q _ => ∃ (s : Addr) (m : Int), vs = [.ref s, .int m] ∧ 0 < m ∧ m < 100000 ∧ StK H s ∧ ∀ d H', 0 ≤ d → d < m → But s H H' → StK H' s → Q (.int d) H'
theorem sc_takeK : FnScope ["store", "many", "told", "one"] ["store", "many"] (defScope dTake) := ⟨rfl, rfl, rfl, by decide +kernel, rfl, by decide +kernel, by decide +kernel⟩
set_option maxHeartbeats 16000000 in
theorem ok_takeK (D : DefAt K mg "_law_take" dTake ["store", "many"]) : FnAt P w K mg base 1 "_law_take" ["store", "many"] spTakeK := by
  refine FnAt.of D sc_takeK (fun vs H Q E h => ?_) (fun f cdv A outer s H vs Q E hr h => ?_)
  · obtain ⟨st, m, rfl, _⟩ := h
    rfl
  · obtain ⟨st, m, rfl, hm, hm2, ⟨g, b, c, h1⟩, q⟩ := h
    have nd := sc_takeK.nd
    refine ⟨_, pss_cons (ps_if (pt_cmpR o_gt (pe_ix ix_list (pv 0) pe_int (fun _ _ => rfl)) pe_int (nomark _))
        (pss_cons (ps_set (i := 2) nd rfl (Or.inl rfl) (pe_op o_mod (pe_ix ix_list (pv 0) pe_int (fun _ _ => rfl)) (pv 1)))
        (pss_cons (ps_asg (pe_op o_div (pe_ix ix_list (pv 0) pe_int (fun _ _ => rfl)) (pv 1)) (pg_sub (pv 0) pe_int set_list))
        (pss_one (ps_ret (pv 2))))) pss_nil)
      (pss_cons (ps_asg (pe_op o_add (pe_ix ix_list (pv 0) pe_int (fun _ _ => rfl)) pe_int) (pg_sub (pv 0) pe_int set_list))
      (pss_cons (ps_set (i := 3) nd rfl (Or.inl rfl) (pe_op o_mod (pe_op o_mul (pe_op o_add (pe_ix ix_list (pv 0) pe_int (fun _ _ => rfl)) (pe_op o_mul pe_int (pe_ix ix_list (pv 0) pe_int (fun _ _ => rfl)))) pe_int) pe_int))
      (pss_cons (ps_set (i := 3) nd rfl (Or.inl rfl) (pe_op o_mod (pe_op o_mul (pv 3) (pv 3)) pe_int))
      (pss_cons (ps_set (i := 3) nd rfl (Or.inl rfl) (pe_op o_mod (pe_op o_mul (pe_op o_add (pv 3) (pe_op o_mul pe_int (pe_ix ix_list (pv 0) pe_int (fun _ _ => rfl)))) pe_int) pe_int))
      (pss_one (ps_ret (pe_op o_mod (pe_op o_div (pv 3) pe_int) (pv 1)))))))), ?_⟩
    refine ⟨_, rfl, st, _, 0, .int g, rfl, rfl, SqL.of h1, rfl, _, _, rfl, rfl, _, rfl, ite2 (fun _ => ?_) (fun _ => ?_)⟩
    · refine ⟨_, rfl, st, _, 0, .int g, rfl, rfl, SqL.of h1, rfl, _, rfl, _, _, rfl, rfl, hm, ?_⟩
      refine ⟨_, rfl, st, _, 0, .int g, rfl, rfl, SqL.of h1, rfl, _, rfl, _, _, rfl, rfl, ⟨hm, by omega⟩, _, rfl, st, _, 0, 0, rfl, rfl, h1, rfl, ?_⟩
      refine ⟨_, rfl, q _ _ (Int.emod_nonneg _ (by omega)) (Int.emod_lt_of_pos _ hm) (fun b o n e => by rw [upd_ne n]; exact e) ⟨_, _, _, upd_same⟩⟩
    · refine ⟨_, rfl, st, _, 2, .int c, rfl, rfl, SqL.of h1, rfl, _, _, rfl, rfl, _, rfl, st, _, 2, 2, rfl, rfl, h1, rfl, ?_⟩
      have e1 : (upd H st (.lst ([V.int g, .int b, .int c].set 2 (.int (c + 1))))) st = some (.lst [.int g, .int b, .int (c + 1)]) := upd_same
      have hb : But st H (upd H st (.lst ([V.int g, .int b, .int c].set 2 (.int (c + 1))))) := fun b o n e => by rw [upd_ne n]; exact e
      generalize upd H st (.lst ([V.int g, .int b, .int c].set 2 (.int (c + 1)))) = H1 at e1 hb ⊢
      refine ⟨_, rfl, st, _, 1, .int b, rfl, rfl, SqL.of e1, rfl, _, rfl, st, _, 2, .int (c + 1), rfl, rfl, SqL.of e1, rfl, _, _, rfl, rfl, .inl ⟨by decide, by decide⟩, _, _, rfl, rfl, _, _, rfl, rfl, .inr ⟨by decide, by decide⟩, _, _, rfl, rfl, (by decide), ?_⟩
      generalize (b + 7919 * (c + 1)) * 48271 = z1
      have b1 : 0 ≤ z1 % 2147483647 ∧ z1 % 2147483647 < 2147483647 := ⟨Int.emod_nonneg _ (by decide), Int.emod_lt_of_pos _ (by decide)⟩
      generalize z1 % 2147483647 = o1 at b1 ⊢
      refine ⟨_, rfl, _, rfl, _, _, rfl, rfl, .inl ⟨by omega, by omega⟩, _, _, rfl, rfl, (by decide), ?_⟩
      generalize (o1 * o1) % 2147483629 = o2
      refine ⟨_, rfl, _, rfl, st, _, 2, .int (c + 1), rfl, rfl, SqL.of e1, rfl, _, _, rfl, rfl, .inl ⟨by decide, by decide⟩, _, _, rfl, rfl, _, _, rfl, rfl, .inr ⟨by decide, by decide⟩, _, _, rfl, rfl, (by decide), ?_⟩
      generalize (o2 + 40692 * (c + 1)) * 69621 % 2147483587 = o3
      refine ⟨_, rfl, _, _, rfl, rfl, ⟨by decide, by decide⟩, _, rfl, _, _, rfl, rfl, hm, ?_⟩
      exact q _ _ (Int.emod_nonneg _ (by omega)) (Int.emod_lt_of_pos _ hm) hb ⟨_, _, _, e1⟩
def spFar : Sp := fun vs H Q _ => ∃ (s : Addr) (m : Int), vs = [.ref s, .int m] ∧ 0 < m ∧ m < 1000 ∧ StK H s ∧ ∀ d H', 0 ≤ d → d < 10 ^ m.toNat → But s H H' → StK H' s → Q (.int d) H'
theorem sc_far : FnScope ["store", "figures", "found", "k"] ["store", "figures"] (defScope dFar) := ⟨rfl, rfl, rfl, by decide +kernel, rfl, by decide +kernel, by decide +kernel⟩
theorem ok_far (T : Blt mg) (D : DefAt K mg "_law_far" dFar ["store", "figures"]) (G : FnAt P w K mg base 1 "_law_take" ["store", "many"] spTakeK) : FnAt P w K mg base 2 "_law_far" ["store", "figures"] spFar := by
  refine FnAt.of D sc_far (fun vs H Q E h => ?_) (fun f cdv A outer s H vs Q E hr h => ?_)
  · obtain ⟨st, m, rfl, _⟩ := h
    rfl
  · obtain ⟨st, m, rfl, hm, hm2, S, q⟩ := h
    have nd := sc_far.nd
    refine ⟨_, pss_cons (ps_set (i := 2) nd rfl (Or.inl rfl) pe_int)
      (pss_cons (ps_for PassesOwn.never rfl (pi_range1 rfl T.rng (pa_cons (pe_op o_add pe_int (pe_f G hr (pa_cons (pv 0) (pa_cons (pv 1) pa_nil)))) pa_nil)) (pg_name (i := 3) nd rfl (Or.inl rfl))
        (pss_one (ps_set (i := 2) nd rfl (Or.inl rfl) (pe_op o_add (pe_op o_mul (pv 2) pe_int) (pe_f G hr (pa_cons (pv 0) (pa_cons pe_int pa_nil)))))))
      (pss_one (ps_ret (pv 2)))), ?_⟩
    refine ⟨_, rfl, _, rfl, st, m, rfl, hm, by omega, S, fun d H1 d0 d1 B1 S1 => ⟨_, _, rfl, rfl, _, rfl, by omega, by omega, for_range (fun i σ H2 => ∃ (n : Int) (o3 : Option V), σ = [some (.ref st), some (.int m), some (.int n), o3] ∧ 0 ≤ n ∧ n < 10 ^ i ∧ But st H H2 ∧ StK H2 st) ⟨0, none, rfl, by decide, by decide, B1, S1⟩ ?_ ?_⟩⟩
    · rintro i σ H2 hi ⟨n, o3, rfl, hn, hnb, B2, S2⟩
      refine ⟨_, rfl, _, _, rfl, rfl, .inr ⟨by decide, by decide⟩, _, rfl, st, _, rfl, by decide, by decide, S2, fun d H3 d0 d1 B3 S3 => ⟨_, _, rfl, rfl, _, _, rfl, by omega, by rw [Int.pow_succ]; generalize (10 : Int) ^ i = M at *; omega, B2.trans B3, S3⟩⟩
    · rintro σ H2 ⟨n, o3, rfl, hn, hnb, B2, S2⟩
      refine ⟨_, rfl, q n H2 hn (Int.lt_of_lt_of_le hnb ?_) B2 S2⟩
      have h1 : (10 : Nat) ^ (1 + d).toNat ≤ 10 ^ m.toNat := Nat.pow_le_pow_right (by decide) (by omega)
      have h2 : ((10 : Nat) ^ (1 + d).toNat : Int) ≤ ((10 : Nat) ^ m.toNat : Int) := by exact_mod_cast h1
      exact h2
end
theorem cut_last {xs : List V} : cutV xs (some (-1)) none = xs.drop (xs.length - 1) := by
  have e : HT.sIx xs.length 0 (some (-1)) = xs.length - 1 := by
    show (if (-1 : Int) < 0 then ((-1 : Int) + (xs.length : Int)).toNat else min (-1 : Int).toNat xs.length) = xs.length - 1
    rw [if_pos (by decide)]
    omega
  unfold cutV
  rw [e, HT.sIx_none]
  refine List.take_of_length_le ?_
  rw [List.length_drop]
  omega
def lastL (ns : List Int) : List Int := ns.drop (ns.length - 1)
theorem lastL_mem {ns : List Int} {k : Nat} (h : k + 1 = ns.length) : ns.getD k 0 ∈ lastL ns := by
  unfold lastL
  rw [show ns.length - 1 = k by omega, List.getD_eq_getElem?_getD, List.getElem?_eq_getElem (by omega)]
  exact List.mem_iff_getElem?.mpr ⟨0, by rw [List.getElem?_drop, Nat.add_zero]; exact List.getElem?_eq_getElem (by omega)⟩
theorem lastL_len (ns : List Int) : (lastL ns).length ≤ 1 := by
  unfold lastL
  rw [List.length_drop]
  omega
theorem eqv_nil (A : List Int) : PyData.eqv (dRow A) (dRow []) = A.isEmpty := by
  cases A with
  | nil => exact eqv_row []
  | cons a A => simp [dRow, PyData.eqv, PyData.eqvAll]
theorem if_tail {tc : TT} {t u : TS} {D : Ends} {σ0 : L2.St} {H0 : Hp} (C : (L2.St → Hp → Prop) → Prop) (h : C (u D)) (hA : C (u D) → tc σ0 H0 (fun b H1 => if b = true then t { D with nx := u D } σ0 H1 else u D σ0 H1)) : tSeq (tIfS tc t tNext) u D σ0 H0 := hA h
def Bnd (prs : Prs) : Prop := ∀ p ∈ prs, ∀ n ∈ p.2, n.natAbs < 10 ^ 38
def Stp (m : Int) (n : Int) : Prop := -10000000000000000000000000 ≤ n ∧ n ≤ 10000000000000000000000000 + m * 1000000000000000000000000
theorem e25 : (10 : Int) ^ (25 : Int).toNat = 10000000000000000000000000 := by decide
theorem e24 : (10 : Int) ^ (24 : Int).toNat = 1000000000000000000000000 := by decide
section
variable {P : Program} {w : World} {K : PySem.W.Frag} {mg : Str → Option Value} {base : Heap}
def spTableK : Sp := fun vs H Q _ => ∃ (s : Addr), vs = [.ref s] ∧ StK H s ∧ ∀ t prs H', H t = none → (∀ p ∈ prs, H p.1 = none) → (prs.map (·.1)).Nodup → But s H H' → StK H' s → Tab H' t prs → tabB prs = true → Bnd prs → Q (.ref t) H'
theorem sc_tableK : FnScope ["store", "wide", "begin", "way", "found", "row", "line", "place", "ahead", "more"] ["store"] (defScope dTable) := ⟨rfl, rfl, rfl, by decide +kernel, rfl, by decide +kernel, by decide +kernel⟩
set_option maxHeartbeats 32000000 in
theorem ok_tableK (T : Blt mg) (D : DefAt K mg "_law_table" dTable ["store"]) (G : FnAt P w K mg base 1 "_law_take" ["store", "many"] spTakeK) (G2 : FnAt P w K mg base 2 "_law_far" ["store", "figures"] spFar) : FnAt P w K mg base 3 "_law_table" ["store"] spTableK := by
  refine FnAt.of D sc_tableK (fun vs H Q E h => ?_) (fun f cdv A outer s H vs Q E hr h => ?_)
  · obtain ⟨st, rfl, _⟩ := h
    rfl
  · obtain ⟨st, rfl, S, q⟩ := h
    have nd := sc_tableK.nd
    have nd1 : (["one", "place"] : List Str).Nodup := by decide +kernel
    have hr1 : Room 1 _ := hr.mono (by decide)
    refine ⟨_, pss_cons (ps_set (i := 1) nd rfl (Or.inl rfl) (pe_op o_add pe_int (pe_f G hr1 (pa_cons (pv 0) (pa_cons pe_int pa_nil)))))
      (pss_cons (ps_set (i := 2) nd rfl (Or.inl rfl) (pe_ix ix_list (pe_lst (pa_cons pe_int (pa_cons (pe_op o_sub (pe_f G hr1 (pa_cons (pv 0) (pa_cons pe_int pa_nil))) pe_int) (pa_cons (pe_f G2 hr (pa_cons (pv 0) (pa_cons pe_int pa_nil))) (pa_cons (pe_op o_sub pe_int (pe_f G2 hr (pa_cons (pv 0) (pa_cons pe_int pa_nil)))) pa_nil)))))
        (pe_f G hr1 (pa_cons (pv 0) (pa_cons pe_int pa_nil))) (fun _ _ => rfl)))
      (pss_cons (ps_set (i := 3) nd rfl (Or.inl rfl) (pe_f G hr1 (pa_cons (pv 0) (pa_cons pe_int pa_nil))))
      (pss_cons (ps_set (i := 4) nd rfl (Or.inl rfl) (pe_lst pa_nil))
      (pss_cons (ps_for PassesOwn.never rfl (pi_range1 rfl T.rng (pa_cons (pe_op o_add pe_int (pe_f G hr1 (pa_cons (pv 0) (pa_cons pe_int pa_nil)))) pa_nil)) (pg_name (i := 5) nd rfl (Or.inl rfl))
        (pss_cons (ps_set (i := 6) nd rfl (Or.inl rfl) (pe_lst pa_nil))
        (pss_cons (ps_for PassesOwn.never rfl (pi_range1 rfl T.rng (pa_cons (pv 1) pa_nil)) (pg_name (i := 7) nd rfl (Or.inr rfl))
          (pss_cons (ps_set (i := 8) nd rfl (Or.inl rfl) (pe_op op_cat (pe_slice sl_list (pv 6) (po_some (pe_un o_neg pe_int)) po_none) (pe_comp ["one", "place"] [none, some 7] (defScope dTable) ["store", "wide", "begin", "way", "found", "row", "line", "place", "ahead", "more"] rfl (pi_list (pe_slice sl_list (pv 4) (po_some (pe_un o_neg pe_int)) po_none)) (by decide +kernel)
            (fun cl C s2 H2 ex => pg_c 0 nd1) (fun cl C s2 H2 ex => pifs_nil) (fun cl C s2 H2 ex => pe_ix (ixL K) (pv 0) (pv 1) (fun _ _ => rfl)))))
          (pss_cons (ps_set (i := 9) nd rfl (Or.inl rfl) (pe_f G hr1 (pa_cons (pv 0) (pa_cons (pe_ix ix_list (pe_lst (pa_cons pe_int (pa_cons pe_int (pa_cons pe_int (pa_cons pe_int (pa_cons pe_int pa_nil)))))) (pv 3) (fun _ _ => rfl)) pa_nil))))
          (pss_cons (ps_if (PW.pt (pw_and (pt_cmpR op_eq (pv 3) pe_int (nomark _)) (pw_and1 (pt_cmpR op_eq (pv 9) pe_int (nomark _))))) (pss_one (ps_set (i := 9) nd rfl (Or.inl rfl) (pe_f G2 hr (pa_cons (pv 0) (pa_cons pe_int pa_nil))))) pss_nil)
          (pss_one (ps_expr (pe_bm PySem.F.plainAttrs_list PySem.F.slot_list_append PySem.F.type_list_append mt_append (pv 6) (pa_cons (pe_op o_add (pe_b (call_maxL rfl) T.max boot_max (pa_cons (pe_op op_cat (pv 8) (pe_op op_rep (pe_lst (pa_cons (pv 2) pa_nil)) (pe_t call_int1 T.int boot_int (pa_cons (pe_cmpR (op_eqD hr.units) (pv 8) (pe_lst pa_nil) (nomark _)) pa_nil)))) pa_nil)) (pv 9)) pa_nil))))))))
        (pss_one (ps_expr (pe_bm PySem.F.plainAttrs_list PySem.F.slot_list_append PySem.F.type_list_append mt_append (pv 4) (pa_cons (pv 6) pa_nil)))))))
      (pss_one (ps_ret (pv 4))))))), ?_⟩
    refine ⟨_, rfl, st, _, rfl, by decide, by decide, S, fun w1 H1 w10 w11 B1 S1 => ⟨_, _, rfl, rfl, ?_⟩⟩
    refine ⟨_, rfl, st, _, rfl, by decide, by decide, S1, fun d1 H2 d10 d11 B2 S2 => ⟨_, _, rfl, rfl, _, rfl, st, _, rfl, by decide, by decide, S2, fun d2 H3 d20 d2b B3 S3 => ⟨_, rfl, st, _, rfl, by decide, by decide, S3, fun d3 H4 d30 d3b B4 S4 => ⟨_, _, rfl, rfl, len4, fun l hl => ?_⟩⟩⟩⟩
    have S4' := S4.same (Same.new (o := .lst [.int 0, .int (d1 - 4), .int d2, .int (0 - d3)]) hl)
    refine ⟨_, rfl, st, _, rfl, by decide, by decide, S4', fun d4 H5 d40 d41 B5 S5 => ?_⟩
    obtain ⟨bg, hbg0, ebg⟩ := at_mem (ns := [0, d1 - 4, d2, 0 - d3]) d40 d41
    rw [e25] at d2b d3b
    have hbg : Stp 0 bg := by
      simp only [List.mem_cons, List.not_mem_nil, or_false] at hbg0
      unfold Stp
      omega
    refine ⟨l, _, _, .int bg, rfl, rfl, SqL.of (B5 _ _ (Ne.symm (S4.ne hl)) upd_same), ebg, ?_⟩
    have C5 : But st H H5 := B1.trans (B2.trans (B3.trans (B4.trans ((Same.but (Same.new hl)).trans B5))))
    clear B1 B2 B3 B4 B5 S1 S2 S3 S4 S4' ebg
    refine ⟨_, rfl, st, _, rfl, by decide, by decide, S5, fun way H6 way0 way1 B6 S6 => ?_⟩
    have C6 := C5.trans B6
    clear B6 C5 S5
    refine ⟨len0, fun tb htb => ?_⟩
    have tb0 : H tb = none := C6.free S6 htb
    have C7 := C6.trans (Same.but (Same.new (o := .lst []) htb))
    have S7 := S6.same (Same.new (o := .lst []) htb)
    refine ⟨_, rfl, st, _, rfl, by decide, by decide, S7, fun rw1 H8 rw10 rw11 B8 S8 => ?_⟩
    have hbt : tb ≠ st := Ne.symm (S6.ne htb)
    have t8 : H8 tb = some (.lst []) := B8 _ _ hbt upd_same
    have C8 := C7.trans B8
    refine ⟨_, _, rfl, rfl, _, rfl, by omega, by omega, for_range (fun i σ H2 => ∃ (prs : Prs) (o5 o6 o7 o8 o9 : Option V), σ = [some (.ref st), some (.int (1 + w1)), some (.int bg), some (.int way), some (.ref tb), o5, o6, o7, o8, o9] ∧
      But st H H2 ∧ StK H2 st ∧ Tab H2 tb prs ∧ prs.length = i ∧ GoodP (1 + w1).toNat prs ∧ (prs.map (·.1)).Nodup ∧ (∀ p ∈ prs, H p.1 = none ∧ p.1 ≠ st) ∧ ∀ p ∈ prs, ∀ n ∈ p.2, Stp (6 * (i : Nat)) n)
      ⟨[], none, none, none, none, none, rfl, C8, S8, ⟨t8, fun p hp => nomatch hp⟩, rfl, ⟨fun p hp => (nomatch hp), fun p hp => (nomatch hp), fun i hi => absurd hi (by simp)⟩, by simp, (fun p hp => nomatch hp), (fun p hp => nomatch hp)⟩ ?_ ?_⟩
    · rintro i σ H2 hi ⟨prs, o5, o6, o7, o8, o9, rfl, B, S, hT, hlen, hg, hnd, hfr, hbd⟩
      refine ⟨len0, fun nn hnn => ?_⟩
      have nn0 : H nn = none := B.free S hnn
      have nnt : tb ≠ nn := ne_of_none hT.l hnn
      have nnp : ∀ p ∈ prs, p.1 ≠ nn := fun p hp => ne_of_none (hT.r p hp) hnn
      have nns : nn ≠ st := Ne.symm (S.ne hnn)
      have hps : ∀ p ∈ prs, p.1 ≠ st := fun p hp => (hfr p hp).2
      refine ⟨_, rfl, 1 + w1, rfl, by omega, by omega, for_range (fun j σ H3 => ∃ (cur : List Int) (o7 o8 o9 : Option V), σ = [some (.ref st), some (.int (1 + w1)), some (.int bg), some (.int way), some (.ref tb), some (.int (0 + (i : Nat))), some (.ref nn), o7, o8, o9] ∧
        But st H H3 ∧ StK H3 st ∧ Tab H3 tb prs ∧ Row H3 nn cur ∧ cur.length = j ∧ nfP cur ∧ (i = 0 ∨ ∀ k, k < j → (rowAt prs (i - 1)).getD k 0 ≤ cur.getD k 0) ∧ ∀ n ∈ cur, Stp (6 * (i : Nat) + (j : Nat)) n)
        ⟨[], o7, o8, o9, rfl, B.trans (Same.but (Same.new hnn)), S.same (Same.new hnn), hT.same (Same.new hnn), Row.new, rfl, fun k hk => absurd hk (by simp), .inr fun k hk => absurd hk (by simp), fun n hn => nomatch hn⟩ ?_ ?_⟩
      · rintro j σ H3 hj ⟨cur, o7, o8, o9, rfl, B3, S3, hT3, hR3, hcl, hnf, hab, hcb⟩
        refine ⟨_, rfl, _, rfl, _, rfl, nn, _, rfl, hR3.sq, fun p1 hp1 => ?_⟩
        rw [cut_last]
        have e1 : (upd H3 p1 (.lst ((cur.map V.int).drop ((cur.map V.int).length - 1)))) p1 = some (.lst ((lastL cur).map V.int)) := by
          rw [upd_same]
          unfold lastL
          rw [List.map_drop, List.length_map]
        have s1 : Same H3 (upd H3 p1 (.lst ((cur.map V.int).drop ((cur.map V.int).length - 1)))) := Same.new hp1
        generalize upd H3 p1 (.lst ((cur.map V.int).drop ((cur.map V.int).length - 1))) = H4 at e1 s1 ⊢
        have hT4 := hT3.same s1
        refine ⟨_, rfl, _, rfl, _, rfl, tb, _, rfl, hT4.sq, fun p2 hp2 => ?_⟩
        rw [cut_last]
        have e2 : (upd H4 p2 (.lst ((prs.map fun p => V.ref p.1).drop ((prs.map fun p => V.ref p.1).length - 1)))) p2 = some (.lst ((prs.drop (prs.length - 1)).map fun p => V.ref p.1)) := by
          rw [upd_same, List.map_drop, List.length_map]
        have s2 : Same H4 (upd H4 p2 (.lst ((prs.map fun p => V.ref p.1).drop ((prs.map fun p => V.ref p.1).length - 1)))) := Same.new hp2
        generalize upd H4 p2 (.lst ((prs.map fun p => V.ref p.1).drop ((prs.map fun p => V.ref p.1).length - 1))) = H5 at e2 s2 ⊢
        have hT5 := hT4.same s2
        refine ⟨p2, rfl, ⟨_, SqL.of e2⟩, comp_map (ms := prs.drop (prs.length - 1)) (fun p : Addr × List Int => V.ref p.1) (fun p => .int (p.2.getD j 0)) (SqL.of e2) (sl6 (by rw [List.length_drop]; omega)) (fun p hp H' Q' sm q' => ?_) fun D1 H6 hD1 s6 hDl => ?_⟩
        · have hpm := List.mem_of_mem_drop hp
          have hpl := hg.len p hpm
          exact ⟨_, rfl, _, rfl, p.1, _, _, _, rfl, rfl, ((hT5.r p hpm).same sm).sq, by rw [Int.zero_add]; exact at_row (by omega), q' _ (Same.refl _)⟩
        have e6 := s6 _ _ (s2 _ _ e1)
        have hDl2 : H6 D1 = some (.lst (((prs.drop (prs.length - 1)).map fun p => p.2.getD j 0).map V.int)) := by
          rw [hDl, List.map_map]
          rfl
        refine ⟨p1, D1, _, _, rfl, rfl, e6, hDl2, ?_, fun ah hah => ?_⟩
        · rw [List.length_map, List.length_map, List.length_map, List.length_drop]
          have := lastL_len cur
          exact sl6 (by omega)
        have eah : Row (upd H6 ah (.lst ((lastL cur).map V.int ++ ((prs.drop (prs.length - 1)).map fun p => p.2.getD j 0).map V.int))) ah (lastL cur ++ (prs.drop (prs.length - 1)).map fun p => p.2.getD j 0) := by
          unfold Row
          rw [upd_same, List.map_append]
        have s7 : Same H6 (upd H6 ah (.lst ((lastL cur).map V.int ++ ((prs.drop (prs.length - 1)).map fun p => p.2.getD j 0).map V.int))) := Same.new hah
        generalize upd H6 ah (.lst ((lastL cur).map V.int ++ ((prs.drop (prs.length - 1)).map fun p => p.2.getD j 0).map V.int)) = H7 at eah s7 ⊢
        have ha0 : ∀ k, k + 1 = cur.length → cur.getD k 0 ∈ lastL cur ++ (prs.drop (prs.length - 1)).map fun p => p.2.getD j 0 := fun k hk => List.mem_append_left _ (lastL_mem hk)
        have ha1 : i = 0 ∨ (rowAt prs (i - 1)).getD j 0 ∈ lastL cur ++ (prs.drop (prs.length - 1)).map fun p => p.2.getD j 0 := by
          by_cases z : i = 0
          · exact .inl z
          · obtain ⟨p, hp1, hp2, hp3⟩ := rowAt_mem (prs := prs) (i := i - 1) (by omega)
            refine .inr (List.mem_append_right _ (List.mem_map.mpr ⟨p, ?_, by rw [hp3]⟩))
            exact List.mem_iff_getElem?.mpr ⟨0, by rw [List.getElem?_drop, Nat.add_zero, hlen]; exact hp2⟩
        have hal : (lastL cur ++ (prs.drop (prs.length - 1)).map fun p => p.2.getD j 0).length ≤ 2 := by
          rw [List.length_append, List.length_map, List.length_drop]
          have := lastL_len cur
          omega
        have haB : ∀ a ∈ lastL cur ++ (prs.drop (prs.length - 1)).map fun p => p.2.getD j 0, Stp (6 * (i : Nat) + (j : Nat)) a := fun a ha => by
          rcases List.mem_append.mp ha with z | z
          · exact hcb a (List.mem_of_mem_drop z)
          · obtain ⟨p, hp, rfl⟩ := List.mem_map.mp z
            have hpm := List.mem_of_mem_drop hp
            have hpl := hg.len p hpm
            have := hbd p hpm (p.2.getD j 0) (by rw [List.getD_eq_getElem?_getD, List.getElem?_eq_getElem (by omega)]; exact List.getElem_mem _)
            unfold Stp at this ⊢
            omega
        generalize (lastL cur ++ (prs.drop (prs.length - 1)).map fun p => p.2.getD j 0) = aa at eah ha0 ha1 hal haB
        have s37 : Same H3 H7 := s1.trans (s2.trans (s6.trans s7))
        have nah : ah ≠ st := fun z => (S3.same (s1.trans (s2.trans s6))).ne hah z.symm
        have nan : ah ≠ nn := fun z => by
          have := (s1.trans (s2.trans s6)) _ _ hR3
          rw [z, this] at hah
          cases hah
        have S4 := S3.same s37
        have hT8 := hT3.same s37
        have hR8 := hR3.same s37
        have B7 := B3.trans (Same.but s37)
        clear S3 hT3 hR3 B3 s37 s7 s6 s2 s1 e6 hDl hDl2 e1 e2 hT4 hT5 hah hD1 hp1 hp2
        refine ⟨_, rfl, len5, fun lm hlm => ?_⟩
        have slm : Same H7 (upd H7 lm (.lst [.int 1, .int 2, .int 3, .int 9, .int 3])) := Same.new hlm
        have elm : (upd H7 lm (.lst [.int 1, .int 2, .int 3, .int 9, .int 3])) lm = some (.lst ([1, 2, 3, 9, 3].map V.int)) := upd_same
        generalize upd H7 lm (.lst [.int 1, .int 2, .int 3, .int 9, .int 3]) = H8' at slm elm ⊢
        obtain ⟨r, hr1', hr2'⟩ := at_mem (ns := [1, 2, 3, 9, 3]) way0 way1
        have hrb : 0 < r ∧ r < 100 := by
          simp only [List.mem_cons, List.not_mem_nil, or_false] at hr1'
          omega
        refine ⟨_, rfl, lm, _, _, .int r, rfl, rfl, SqL.of elm, hr2', st, r, rfl, hrb.1, by omega, S4.same slm, fun mo H9 mo0 mo1 B9 S9 => ?_⟩
        have moC : mo ≤ 1000000000000000000000000 := by omega
        have hT9 := (hT8.same slm).but hbt hps B9
        have hR9 := (hR8.same slm).but nns B9
        have ea9 := (eah.same slm).but nah B9
        have C9 := B7.trans ((Same.but slm).trans B9)
        clear S4 hT8 hR8 eah B7 B9 slm elm hlm hr1' hr2' hrb mo1
        dsimp only [gName]
        refine if_tail (fun N => ∀ (more : Int) (H10 : Hp), 0 ≤ more → more ≤ 1000000000000000000000000 → But st H9 H10 → StK H10 st → N [some (.ref st), some (.int (1 + w1)), some (.int bg), some (.int way), some (.ref tb), some (.int (0 + (i : Nat))), some (.ref nn), some (.int (0 + (j : Nat))), some (.ref ah), some (.int more)] H10) (fun mo1 H10 mo0' moB B10 S10 => ?_) (fun tail => ?_)
        · have hT10 := hT9.but hbt hps B10
          have hR10 := hR9.but nns B10
          have ea10 := ea9.but nah B10
          have C10 := C9.trans B10
          refine ⟨_, rfl, .inl ⟨rfl, _, hR10.sq⟩, _, rfl, _, rfl, len1, fun l1 hl1 => ?_⟩
          have s1 : Same H10 (upd H10 l1 (.lst [.int bg])) := Same.new hl1
          have e1 : (upd H10 l1 (.lst [.int bg])) l1 = some (.lst [.int bg]) := upd_same
          generalize upd H10 l1 (.lst [.int bg]) = H11 at s1 e1 ⊢
          refine ⟨_, rfl, len0, fun l2 hl2 => ?_⟩
          have s2 : Same H11 (upd H11 l2 (.lst [])) := Same.new hl2
          have e2 : Row (upd H11 l2 (.lst [])) l2 [] := Row.new
          generalize upd H11 l2 (.lst []) = H12 at s2 e2 ⊢
          have s12 := s1.trans s2
          refine ⟨_, _, (ea10.same s12).rd, e2.rd, shaped_row _, shaped_row _, ?_⟩
          rw [show (if false = true then !PyData.eqv (dRow aa) (dRow []) else PyData.eqv (dRow aa) (dRow [])) = aa.isEmpty from eqv_nil aa]
          refine .inr ⟨_, rfl, l1, _, _, rfl, rfl, s2 _ _ e1, ?_, ?_, ?_, fun l3 hl3 => ?_⟩
          · split <;> omega
          · split <;> omega
          · cases aa.isEmpty with
            | true => exact (show 1 * 1 ≤ sizeLine by decide)
            | false => exact (show 1 * 0 ≤ sizeLine by decide)
          have e3 : (upd H12 l3 (.lst (List.replicate (if aa.isEmpty = true then (1 : Int) else 0).toNat [V.int bg]).flatten)) l3 = some (.lst ((if aa.isEmpty = true then [bg] else []).map V.int)) := by
            rw [upd_same]
            cases aa.isEmpty <;> rfl
          have s3 : Same H12 (upd H12 l3 (.lst (List.replicate (if aa.isEmpty = true then (1 : Int) else 0).toNat [V.int bg]).flatten)) := Same.new hl3
          generalize upd H12 l3 (.lst (List.replicate (if aa.isEmpty = true then (1 : Int) else 0).toNat [V.int bg]).flatten) = H13 at e3 s3 ⊢
          have s13 := s12.trans s3
          refine ⟨ah, l3, _, _, rfl, rfl, ea10.same s13, e3, ?_, fun l4 hl4 => ?_⟩
          · rw [List.length_map, List.length_map]
            refine sl6 ?_
            split
            · rw [List.length_singleton]
              omega
            · rw [List.length_nil]
              omega
          have e4 : Row (upd H13 l4 (.lst (aa.map V.int ++ (if aa.isEmpty = true then [bg] else []).map V.int))) l4 (aa ++ (if aa.isEmpty = true then [bg] else [])) := by
            unfold Row
            rw [upd_same, List.map_append]
          have s4 : Same H13 (upd H13 l4 (.lst (aa.map V.int ++ (if aa.isEmpty = true then [bg] else []).map V.int))) := Same.new hl4
          generalize upd H13 l4 (.lst (aa.map V.int ++ (if aa.isEmpty = true then [bg] else []).map V.int)) = H14 at e4 s4 ⊢
          have s14 := s13.trans s4
          refine ⟨l4, _, rfl, e4.sq, ?_, fun M hMm hM => ⟨_, rfl, _, _, rfl, rfl, nn, _, _, rfl, rfl, hR10.same s14, ?_, ?_⟩⟩
          · rw [List.length_append]
            cases aa with
            | nil => exact Nat.succ_pos _
            | cons a r => exact Nat.lt_of_lt_of_le (Nat.succ_pos _) (Nat.le_add_right _ _)
          · rw [List.length_map]
            exact small1000 (by omega)
          · have hM2 : ∀ a ∈ aa, a ≤ M := fun a ha => hM a (List.mem_append_left _ ha)
            have hT14 := hT10.same s14
            have S14 := S10.same s14
            have C14 := C10.trans (Same.but s14)
            refine ⟨cur ++ [M + mo1], _, _, _, rfl, ?_, ?_, ?_, Row.push, ?_, ?_, ?_, ?_⟩
            · intro b o hb e
              rw [upd_ne (ne_of_none e nn0)]
              exact C14 b o hb e
            · obtain ⟨g', b', c', z⟩ := S14
              exact ⟨g', b', c', by rw [upd_ne (Ne.symm nns)]; exact z⟩
            · refine ⟨by rw [upd_ne nnt]; exact hT14.l, fun p hp => ?_⟩
              unfold Row
              rw [upd_ne (nnp p hp)]
              exact hT14.r p hp
            · rw [List.length_append, List.length_singleton, hcl]
            · refine nfP_push hnf fun k hk => ?_
              have := hM2 _ (ha0 k hk)
              omega
            · rcases hab with z | z
              · exact .inl z
              · rcases ha1 with z2 | z2
                · exact .inl z2
                · have z2 := hM2 _ z2
                  refine .inr fun k hk => ?_
                  rw [getD_push]
                  by_cases hkj : k < cur.length
                  · rw [if_pos hkj]
                    exact z k (by omega)
                  · rw [if_neg hkj, if_pos (by omega), show k = j by omega]
                    omega
            · have hMb : Stp (6 * (i : Nat) + (j : Nat)) M := by
                rcases List.mem_append.mp hMm with z | z
                · exact haB M z
                · split at z
                  · rw [List.mem_singleton.mp z]
                    unfold Stp at hbg ⊢
                    omega
                  · nomatch z
              intro n hn
              rcases List.mem_append.mp hn with z | z
              · have := hcb n z
                unfold Stp at this ⊢
                omega
              · rw [List.mem_singleton.mp z]
                unfold Stp at hMb ⊢
                omega
        · exact ⟨_, rfl, rfl, _, rfl, ite2 (fun _ => ⟨_, rfl, rfl, _, rfl, ite2 (fun _ => ⟨_, rfl, st, _, rfl, by decide, by decide, S9, fun mo' H10 mo0' mob B10 S10 => tail mo' H10 mo0' (by rw [e24] at mob; omega) B10 S10⟩) (fun _ => tail mo H9 mo0 moC (But.refl _ _) S9)⟩) (fun _ => iteF (tail mo H9 mo0 moC (But.refl _ _) S9))⟩
      ·
        rintro σ H3 ⟨cur, o7, o8, o9, rfl, B3, S3, hT3, hR3, hcl, hnf, hab, hcb⟩
        refine ⟨_, rfl, .inl ⟨rfl, _, hT3.sq⟩, _, rfl, tb, _, _, rfl, rfl, hT3.l, ?_, ?_⟩
        · rw [List.length_map]
          exact small1000 (by omega)
        · have key : ∀ b o, b ≠ tb → H3 b = some o → (upd H3 tb (.lst ((prs.map fun p => V.ref p.1) ++ [.ref nn]))) b = some o := fun b o hb e => by
            rw [upd_ne hb]
            exact e
          have ntb : ∀ p ∈ prs, p.1 ≠ tb := fun p hp z => by
            have h1 := hT3.r p hp
            rw [z] at h1
            have h2 := hT3.l
            unfold Row at h1
            rw [h1] at h2
            have h3 := hg.len p hp
            cases hq : p.2 with
            | nil => rw [hq] at h3; simp at h3; omega
            | cons n ns =>
              rw [hq] at h2
              cases prs with
              | nil => simp at h2
              | cons p' r' => simp at h2
          have ntn : nn ≠ tb := Ne.symm nnt
          have etb : (upd H3 tb (.lst ((prs.map fun p => V.ref p.1) ++ [.ref nn]))) tb = some (.lst ((prs ++ [(nn, cur)]).map fun p => V.ref p.1)) := by
            rw [upd_same, List.map_append]
            rfl
          refine ⟨prs ++ [(nn, cur)], _, _, _, _, _, rfl, ?_, ?_, ⟨etb, fun p hp => ?_⟩, ?_, ?_, ?_, fun p hp => ?_, fun p hp => ?_⟩
          · intro b o hb e
            rw [upd_ne (ne_of_none e tb0)]
            exact B3 b o hb e
          · obtain ⟨g', b', c', z⟩ := S3
            exact ⟨g', b', c', key _ _ (Ne.symm hbt) z⟩
          · rcases List.mem_append.mp hp with z | z
            · exact key _ _ (ntb p z) (hT3.r p z)
            · have : p = (nn, cur) := by simpa using z
              subst this
              exact key _ _ ntn hR3
          · rw [List.length_append, List.length_singleton, hlen]
          · refine good_push hg hcl hnf ?_
            rcases hab with z | z
            · exact .inl (by omega)
            · rw [hlen]
              exact .inr z
          · rw [List.map_append, List.nodup_append]
            refine ⟨hnd, by simp, fun a ha b hb z => ?_⟩
            obtain ⟨p, hp, rfl⟩ := List.mem_map.mp ha
            have hb : b = nn := by simpa using hb
            exact nnp p hp (z.trans hb)
          · rcases List.mem_append.mp hp with z | z
            · exact hfr p z
            · have : p = (nn, cur) := by simpa using z
              subst this
              exact ⟨nn0, nns⟩
          · rcases List.mem_append.mp hp with z | z
            · intro n hn
              have := hbd p z n hn
              unfold Stp at this ⊢
              omega
            · have : p = (nn, cur) := by simpa using z
              subst this
              intro n hn
              have := hcb n hn
              unfold Stp at this ⊢
              omega
    · rintro σ H2 ⟨prs, o5, o6, o7, o8, o9, rfl, B, S, hT, hlen, hg, hnd, hfr, hbd⟩
      refine ⟨_, rfl, q tb prs H2 tb0 (fun p hp => (hfr p hp).1) hnd B S hT (tabB_of hg (by omega) (by omega) (by omega) (by omega)) fun p hp n hn => ?_⟩
      have := hbd p hp n hn
      unfold Stp at this
      omega
end
def setR (rows : List (List Int)) (i j : Nat) (x : Int) : List (List Int) := rows.set i ((rows.getD i []).set j x)
section
variable {P : Program} {w : World} {K : PySem.W.Frag} {mg : Str → Option Value} {base : Heap}
def NewTab (H : Hp) (Q : VK) (rows : List (List Int)) : Prop := ∀ t' prs' H', H t' = none → (∀ p ∈ prs', H p.1 = none ∧ p.1 ≠ t') → (prs'.map (·.1)).Nodup → Same H H' → Tab H' t' prs' → prs'.map (·.2) = rows → Q (.ref t') H'
def spCopyN : Sp := fun vs H Q _ => ∃ (t : Addr) (prs : Prs), vs = [.ref t] ∧ Tab H t prs ∧ Sm prs ∧ NewTab H Q (prs.map (·.2))
theorem sc_copyOf : FnScope ["table"] ["table"] (defScope dCopyOf) := ⟨rfl, rfl, rfl, by decide +kernel, rfl, by decide +kernel, by decide +kernel⟩
theorem ok_copyOf (T : Blt mg) (D : DefAt K mg "copy_of" dCopyOf ["table"]) : FnAt P w K mg base 1 "copy_of" ["table"] spCopyN := by
  refine FnAt.of D sc_copyOf (fun vs H Q E h => ?_) (fun f cdv A outer s H vs Q E hr h => ?_)
  · obtain ⟨t, prs, rfl, _⟩ := h
    rfl
  · obtain ⟨t, prs, rfl, hT, hs, q⟩ := h
    have nd1 : (["row"] : List Str).Nodup := by decide +kernel
    refine ⟨_, pss_one (ps_ret (pe_comp ["row"] [none] (defScope dCopyOf) ["table"] rfl (pi_list (pv 0)) (by decide +kernel)
      (fun cl C s2 H2 ex => pg_c 0 nd1) (fun cl C s2 H2 ex => pifs_nil) (fun cl C s2 H2 ex => pe_t (listK K) T.list boot_list (pa_cons (pv 0) pa_nil)))), ?_⟩
    refine ⟨_, rfl, t, rfl, ⟨_, hT.sq⟩, comp_objsL (fun p : Addr × List Int => V.ref p.1) (fun p => .lst (p.2.map V.int)) hT.sq hs.1 (fun p hp H' Q' sm q' => ⟨_, rfl, p.1, _, rfl, .inl ((hT.same sm).r p hp).sq, fun l hl => q' l _ hl (Same.new hl) upd_same⟩) fun M qs H2 hM hqm hnd hq s2 eM => ?_⟩
    refine q M (qs.map fun x => (x.1, x.2.2)) H2 hM (fun p hp => ?_) ?_ s2 ⟨?_, fun p hp => ?_⟩ ?_
    · obtain ⟨x, hx, rfl⟩ := List.mem_map.mp hp
      exact (hq x hx).2
    · rw [List.map_map]
      exact hnd
    · rw [eM, List.map_map]
      rfl
    · obtain ⟨x, hx, rfl⟩ := List.mem_map.mp hp
      exact (hq x hx).1
    · rw [List.map_map, ← hqm, List.map_map]
      rfl
def spWith : Sp := fun vs H Q _ => ∃ (t c : Addr) (prs : Prs) (i j : Nat) (x : Int), vs = [.ref t, .ref c, .int x] ∧ Tab H t prs ∧ Sm prs ∧ H c = some (.tup [.int (i : Nat), .int (j : Nat)]) ∧ i < prs.length ∧ j < (rowAt prs i).length ∧ NewTab H Q (setR (prs.map (·.2)) i j x)
theorem sc_with : FnScope ["table", "cell", "x", "changed"] ["table", "cell", "x"] (defScope dWith) := ⟨rfl, rfl, rfl, by decide +kernel, rfl, by decide +kernel, by decide +kernel⟩
set_option maxHeartbeats 16000000 in
theorem ok_with (D : DefAt K mg "table_with" dWith ["table", "cell", "x"]) (G : FnAt P w K mg base 1 "copy_of" ["table"] spCopyN) : FnAt P w K mg base 2 "table_with" ["table", "cell", "x"] spWith := by
  refine FnAt.of D sc_with (fun vs H Q E h => ?_) (fun f cdv A outer s H vs Q E hr h => ?_)
  · obtain ⟨t, c, prs, i, j, x, rfl, _⟩ := h
    rfl
  · obtain ⟨t, c, prs, i, j, x, rfl, hT, hs, hc, hi, hj, q⟩ := h
    have nd := sc_with.nd
    refine ⟨_, pss_cons (ps_set (i := 3) nd rfl (Or.inl rfl) (pe_f G hr (pa_cons (pv 0) pa_nil)))
      (pss_cons (ps_asg (pv 2) (pg_sub (pe_ix ix_list (pv 3) (pe_ix ix_tup (pv 1) pe_int (fun _ _ => rfl)) (fun _ _ => rfl)) (pe_ix ix_tup (pv 1) pe_int (fun _ _ => rfl)) set_list))
      (pss_one (ps_ret (pv 3)))), ?_⟩
    refine ⟨_, rfl, t, prs, rfl, hT, hs, fun t' qs H1 ht' hqn hnd s1 hT1 hrows => ?_⟩
    have hc1 := s1 _ _ hc
    have hql : qs.length = prs.length := by
      have := congrArg List.length hrows
      simpa using this
    have hiq : i < qs.length := by omega
    have hqi : qs[i]? = some qs[i] := List.getElem?_eq_getElem hiq
    have mqi : qs[i] ∈ qs := List.getElem_mem hiq
    have hri : qs[i].2 = rowAt prs i := by
      have h1 : (qs.map (·.2))[i]? = (prs.map (·.2))[i]? := by rw [hrows]
      rw [List.getElem?_map, hqi, List.getElem?_map, List.getElem?_eq_getElem hi] at h1
      have h2 : qs[i].2 = prs[i].2 := by simpa using h1
      rw [h2]
      unfold rowAt
      rw [List.getElem?_eq_getElem hi]
      rfl
    have hR := hT1.r qs[i] mqi
    refine ⟨_, rfl, _, rfl, _, rfl, c, _, 0, .int (i : Nat), rfl, rfl, SqT.of hc1, rfl, t', _, _, .ref qs[i].1, rfl, rfl, hT1.sq, atI_nat (by rw [List.getElem?_map, hqi]; rfl), _, rfl, c, _, 1, .int (j : Nat), rfl, rfl, SqT.of hc1, rfl, qs[i].1, _, _, j, rfl, rfl, hR, ?_, _, rfl, ?_⟩
    · rw [List.length_map, hri]
      unfold ixN
      rw [if_pos (by omega), if_pos (by omega), Int.toNat_natCast]
    rw [← List.map_set]
    have hn : ∀ p ∈ qs, p.1 = qs[i].1 → p = qs[i] := fun p hp e => by
      obtain ⟨k, hk⟩ := List.mem_iff_getElem?.mp hp
      have hkl := (List.getElem?_eq_some_iff.mp hk).1
      have : k = i := (List.getElem?_inj (l := qs.map (·.1)) (by rw [List.length_map]; exact hkl) hnd).mp (by rw [List.getElem?_map, List.getElem?_map, hk, hqi]; simp [e])
      subst this
      exact Option.some.inj (hk.symm.trans hqi)
    have key : ∀ b o, b ≠ qs[i].1 → H1 b = some o → (upd H1 qs[i].1 (.lst ((qs[i].2.set j x).map V.int))) b = some o := fun b o n e => by rw [upd_ne n]; exact e
    refine q t' (qs.set i (qs[i].1, qs[i].2.set j x)) _ ht' (fun p hp => ?_) ?_ (fun b o e => key b o (fun z => ?_) (s1 _ _ e)) ⟨?_, fun p hp => ?_⟩ ?_
    · rcases List.mem_or_eq_of_mem_set hp with z | z
      · exact hqn p z
      · rw [z]
        exact hqn qs[i] mqi
    · have : (qs.set i (qs[i].1, qs[i].2.set j x)).map (·.1) = qs.map (·.1) := by
        rw [List.map_set]
        refine List.ext_getElem? fun k => ?_
        rw [List.getElem?_set]
        split
        · next h =>
          subst h
          rw [List.length_map, if_pos hiq, List.getElem?_map, hqi]
          rfl
        · rfl
      rw [this]
      exact hnd
    · rw [z, (hqn _ mqi).1] at e
      cases e
    · have : (qs.set i (qs[i].1, qs[i].2.set j x)).map (fun p => V.ref p.1) = qs.map fun p => V.ref p.1 := by
        rw [List.map_set]
        refine List.ext_getElem? fun k => ?_
        rw [List.getElem?_set]
        split
        · next h =>
          subst h
          rw [List.length_map, if_pos hiq, List.getElem?_map, hqi]
          rfl
        · rfl
      rw [this]
      exact key _ _ (fun z => (hqn _ mqi).2 z.symm) hT1.l
    · obtain ⟨k, hk⟩ := List.mem_iff_getElem?.mp hp
      rw [List.getElem?_set] at hk
      by_cases h : i = k
      · rw [if_pos h, if_pos hiq] at hk
        rw [← Option.some.inj hk]
        exact upd_same
      · rw [if_neg h] at hk
        have hkl := (List.getElem?_eq_some_iff.mp hk).1
        refine key _ _ (fun e => h ?_) (hT1.r p (List.mem_of_getElem? hk))
        exact ((List.getElem?_inj (l := qs.map (·.1)) (by rw [List.length_map]; exact hkl) hnd).mp (by rw [List.getElem?_map, List.getElem?_map, hk, hqi]; simp [e])).symm
    · rw [List.map_set, hrows]
      unfold setR
      rw [show (prs.map (·.2)).getD i [] = qs[i].2 by
        rw [hri]
        unfold rowAt
        rw [List.getD_eq_getElem?_getD, List.getElem?_map]]
end
def Cell (H : Hp) (c : Addr) (i j : Nat) : Prop := H c = some (.tup [.int (i : Nat), .int (j : Nat)])
section
variable {P : Program} {w : World} {K : PySem.W.Frag} {mg : Str → Option Value} {base : Heap}
def spAllWholeT : Sp := fun vs H Q _ => ∃ (c : Addr) (i j : Nat), vs = [.ref c] ∧ Cell H c i j ∧ ∀ H', Same H H' → Q (.bl true) H'
theorem ok_allWholeT (T : Blt mg) (D : DefAt K mg "all_whole" dAllWhole ["things"]) (G1 : FnAt P w K mg base 1 "is_whole" ["thing"] spIsWhole) : FnAt P w K mg base 2 "all_whole" ["things"] spAllWholeT := by
  refine FnAt.of D sc_allWhole (fun vs H Q E h => ?_) (fun f cdv A outer s H vs Q E hr h => ?_)
  · obtain ⟨c, i, j, rfl, _⟩ := h
    rfl
  · obtain ⟨c, i, j, rfl, hC, q⟩ := h
    have nd1 : (["thing"] : List Str).Nodup := by decide +kernel
    refine ⟨_, pss_one (ps_ret (pe_b (call_all rfl) T.all boot_all (pa_cons (pe_comp ["thing"] [none] (defScope dAllWhole) ["things"] rfl (pi_tup (pv 0)) (by decide +kernel)
      (fun cl C s2 H2 ex => pg_c 0 nd1) (fun cl C s2 H2 ex => pifs_nil) (fun cl C s2 H2 ex => pe_f G1 hr (pa_cons (pv 0) pa_nil))) pa_nil))), ?_⟩
    refine ⟨_, rfl, c, rfl, ⟨_, SqT.of hC⟩, comp_tup V.int (ms := [(i : Int), (j : Int)]) (fun _ => .bl true) (SqT.of hC) (by show 2 ≤ sizeLine; decide) (fun n _ H' Q' sm q' => ?_) fun L H' hL sm hLl => ?_⟩
    · exact ⟨_, rfl, n, rfl, q' _ (Same.refl _)⟩
    · exact ⟨L, [true, true], rfl, SqL.of hLl, q H' sm⟩
def spCellSz : Sp := fun vs H Q _ => ∃ (c : Addr) (r p i j : Nat), vs = [.int (r : Nat), .int (p : Nat), .ref c] ∧ Cell H c i j ∧ i < r ∧ j < p ∧ ∀ H', Same H H' → Q (.bl true) H'
theorem sc_cellSz : FnScope ["rows", "places", "thing"] ["rows", "places", "thing"] (defScope dCellSz) := ⟨rfl, rfl, rfl, by decide +kernel, rfl, by decide +kernel, by decide +kernel⟩
theorem ok_cellSz (T : Blt mg) (htup : mg "tuple" = none) (D : DefAt K mg "is_cell_of_size" dCellSz ["rows", "places", "thing"]) (G : FnAt P w K mg base 2 "all_whole" ["things"] spAllWholeT) : FnAt P w K mg base 3 "is_cell_of_size" ["rows", "places", "thing"] spCellSz := by
  refine FnAt.of D sc_cellSz (fun vs H Q E h => ?_) (fun f cdv A outer s H vs Q E hr h => ?_)
  · obtain ⟨c, r, p, i, j, rfl, _⟩ := h
    rfl
  · obtain ⟨c, r, p, i, j, rfl, hC, hi, hj, q⟩ := h
    refine ⟨_, pss_cons (ps_if (PW.pt (pw_or (pt_not (pt_val (pe_b call_isinst T.isinst boot_isinstance (pa_cons (pv 2) (pa_cons (pe_ty htup boot_tuple) pa_nil))))) (pw_or (pt_cmpR op_ne (pe_b call_len_seq T.len boot_len (pa_cons (pv 2) pa_nil)) pe_int (nomark _)) (pw_or1 (pt_not (pt_val (pe_f G hr (pa_cons (pv 2) pa_nil)))))))) (pss_one (ps_ret pe_bl)) pss_nil)
      (pss_one (ps_ret (pe_and (pe_chain o_le o_lt pe_int (pe_ix ix_tup (pv 2) pe_int (fun _ _ => rfl)) (pv 0))
        (pe_one (pe_chain o_le o_lt pe_int (pe_ix ix_tup (pv 2) pe_int (fun _ _ => rfl)) (pv 1)))))), ?_⟩
    refine ⟨_, rfl, _, _, _, _, rfl, .tup hC, kit_tt _, _, rfl, iteF ⟨_, rfl, c, _, rfl, .inr (SqT.of hC), rfl, _, rfl, ?_⟩⟩
    refine iteF ⟨_, rfl, c, i, j, rfl, hC, fun H1 s1 => ⟨_, rfl, iteF ?_⟩⟩
    have hC1 : Cell H1 c i j := s1 _ _ hC
    refine ⟨_, rfl, c, _, 0, .int (i : Nat), rfl, rfl, SqT.of hC1, rfl, _, _, rfl, rfl, _, rfl, ?_⟩
    rw [decide_eq_true (show (0 : Int) ≤ (i : Nat) by omega)]
    refine iteT ⟨_, rfl, _, _, rfl, rfl, _, rfl, ?_⟩
    rw [decide_eq_true (show ((i : Nat) : Int) < (r : Nat) by omega)]
    refine iteT ⟨_, rfl, c, _, 1, .int (j : Nat), rfl, rfl, SqT.of hC1, rfl, _, _, rfl, rfl, _, rfl, ?_⟩
    rw [decide_eq_true (show (0 : Int) ≤ (j : Nat) by omega)]
    refine iteT ⟨_, rfl, _, _, rfl, rfl, ?_⟩
    rw [decide_eq_true (show ((j : Nat) : Int) < (p : Nat) by omega)]
    exact q H1 s1
def spIsCell : Sp := fun vs H Q _ => ∃ (t c : Addr) (prs : Prs) (i j : Nat), vs = [.ref t, .ref c] ∧ Tab H t prs ∧ tabB prs = true ∧ Cell H c i j ∧ i < prs.length ∧ j < w0 prs ∧ ∀ H', Same H H' → Q (.bl true) H'
theorem sc_isCell : FnScope ["table", "thing"] ["table", "thing"] (defScope dIsCell) := ⟨rfl, rfl, rfl, by decide +kernel, rfl, by decide +kernel, by decide +kernel⟩
theorem ok_isCell (T : Blt mg) (D : DefAt K mg "is_cell" dIsCell ["table", "thing"]) (G : FnAt P w K mg base 3 "is_cell_of_size" ["rows", "places", "thing"] spCellSz) : FnAt P w K mg base 4 "is_cell" ["table", "thing"] spIsCell := by
  refine FnAt.of D sc_isCell (fun vs H Q E h => ?_) (fun f cdv A outer s H vs Q E hr h => ?_)
  · obtain ⟨t, c, prs, i, j, rfl, _⟩ := h
    rfl
  · obtain ⟨t, c, prs, i, j, rfl, hT, hg, hC, hi, hj, q⟩ := h
    obtain ⟨g, g1, g2, g3, g4⟩ := good_of hg
    obtain ⟨p0, hp0, hm0, hx0⟩ := head_at (prs := prs) g1
    refine ⟨_, pss_one (ps_ret (pe_f G hr (pa_cons (pe_b call_len_seq T.len boot_len (pa_cons (pv 0) pa_nil)) (pa_cons (pe_b call_len_seq T.len boot_len (pa_cons (pe_ix ix_list (pv 0) pe_int (fun _ _ => rfl)) pa_nil)) (pa_cons (pv 1) pa_nil))))), ?_⟩
    exact ⟨_, rfl, t, _, rfl, .inl hT.sq, _, rfl, t, _, 0, .ref p0.1, rfl, rfl, hT.sq, atI_nat (j := 0) (by rw [List.getElem?_map, hx0]; rfl), p0.1, _, rfl, .inl (hT.r p0 hm0).sq, _, rfl, c, prs.length, w0 prs, i, j, by rw [List.length_map, List.length_map, g.len p0 hm0], hC, hi, hj, q⟩
def spNeedCell : Sp := fun vs H Q _ => ∃ (t c : Addr) (prs : Prs) (i j : Nat), vs = [.ref t, .ref c] ∧ Tab H t prs ∧ tabB prs = true ∧ Cell H c i j ∧ i < prs.length ∧ j < w0 prs ∧ ∀ H', Same H H' → Q .non H'
theorem sc_needCell : FnScope ["table", "thing"] ["table", "thing"] (defScope dNeedCell) := ⟨rfl, rfl, rfl, by decide +kernel, rfl, by decide +kernel, by decide +kernel⟩
theorem ok_needCell (D : DefAt K mg "need_cell" dNeedCell ["table", "thing"]) (G : FnAt P w K mg base 4 "is_cell" ["table", "thing"] spIsCell) : FnAt P w K mg base 5 "need_cell" ["table", "thing"] spNeedCell := by
  refine FnAt.of D sc_needCell (fun vs H Q E h => ?_) (fun f cdv A outer s H vs Q E hr h => ?_)
  · obtain ⟨t, c, prs, i, j, rfl, _⟩ := h
    rfl
  · obtain ⟨t, c, prs, i, j, rfl, hT, hg, hC, hi, hj, q⟩ := h
    refine ⟨_, pss_one (ps_if (pt_not (pt_val (pe_f G hr (pa_cons (pv 0) (pa_cons (pv 1) pa_nil))))) pss_never pss_nil), ?_⟩
    exact ⟨_, rfl, _, rfl, t, c, prs, i, j, rfl, hT, hg, hC, hi, hj, fun H' sm => ⟨_, rfl, iteF (q H' sm)⟩⟩
def spNumberAt : Sp := fun vs H Q _ => ∃ (t c : Addr) (prs : Prs) (i j : Nat), vs = [.ref t, .ref c] ∧ Tab H t prs ∧ tabB prs = true ∧ Cell H c i j ∧ i < prs.length ∧ j < w0 prs ∧ ∀ H', Same H H' → Q (.int ((rowAt prs i).getD j 0)) H'
theorem sc_numberAt : FnScope ["table", "cell"] ["table", "cell"] (defScope dNumberAt) := ⟨rfl, rfl, rfl, by decide +kernel, rfl, by decide +kernel, by decide +kernel⟩
theorem ok_numberAt (D : DefAt K mg "number_at" dNumberAt ["table", "cell"]) (G1 : FnAt P w K mg base 6 "need_table" ["thing"] spNeedTable) (G2 : FnAt P w K mg base 5 "need_cell" ["table", "thing"] spNeedCell) : FnAt P w K mg base 7 "number_at" ["table", "cell"] spNumberAt := by
  refine FnAt.of D sc_numberAt (fun vs H Q E h => ?_) (fun f cdv A outer s H vs Q E hr h => ?_)
  · obtain ⟨t, c, prs, i, j, rfl, _⟩ := h
    rfl
  · obtain ⟨t, c, prs, i, j, rfl, hT, hg, hC, hi, hj, q⟩ := h
    obtain ⟨g, g1, g2, g3, g4⟩ := good_of hg
    have hsm : Sm prs := ⟨by omega, fun p hp => by rw [g.len p hp]; omega⟩
    refine ⟨_, pss_cons (ps_expr (pe_f G1 hr (pa_cons (pv 0) pa_nil))) (pss_cons (ps_expr (pe_f G2 (hr.mono (by decide)) (pa_cons (pv 0) (pa_cons (pv 1) pa_nil))))
      (pss_one (ps_ret (pe_ix ix_list (pe_ix ix_list (pv 0) (pe_ix ix_tup (pv 1) pe_int (fun _ _ => rfl)) (fun _ _ => rfl)) (pe_ix ix_tup (pv 1) pe_int (fun _ _ => rfl)) (fun _ _ => rfl))))), ?_⟩
    refine ⟨_, rfl, t, prs, rfl, hT, hsm, hg, fun H1 s1 => ⟨_, rfl, _, rfl, t, c, prs, i, j, rfl, hT.same s1, hg, s1 _ _ hC, hi, hj, fun H2 s2 => ?_⟩⟩
    have s12 := s1.trans s2
    have hT2 := hT.same s12
    have hC2 : Cell H2 c i j := s12 _ _ hC
    obtain ⟨p, hp1, hp2, hp3⟩ := rowAt_mem hi
    have hpl := g.len p hp1
    refine ⟨_, rfl, _, rfl, c, _, 0, .int (i : Nat), rfl, rfl, SqT.of hC2, rfl, t, _, _, .ref p.1, rfl, rfl, hT2.sq, atI_nat (by rw [List.getElem?_map, hp2]; rfl), _, rfl, c, _, 1, .int (j : Nat), rfl, rfl, SqT.of hC2, rfl, p.1, _, _, .int (p.2.getD j 0), rfl, rfl, (hT2.r p hp1).sq, at_row (by omega), ?_⟩
    rw [← hp3]
    exact q H2 s12
end
def rowsOk (rows : List (List Int)) : Bool := tabB (rows.map fun r => ((0 : Addr), r))
theorem rowsOk_of {prs : Prs} {rows : List (List Int)} (h : prs.map (·.2) = rows) : tabB prs = rowsOk rows := by
  unfold rowsOk
  refine tabB_rows ?_
  rw [h, List.map_map]
  exact (List.map_id _).symm
theorem sm_rows {prs : Prs} {rows : List (List Int)} {i j : Nat} {x : Int} (hs : Sm prs) {prs' : Prs} (h : prs'.map (·.2) = setR (prs.map (·.2)) i j x) : Sm prs' := by
  have hl : prs'.length = prs.length := by
    have := congrArg List.length h
    unfold setR at this
    rw [List.length_set] at this
    simpa using this
  refine ⟨by rw [hl]; exact hs.1, fun p hp => ?_⟩
  have hm : p.2 ∈ setR (prs.map (·.2)) i j x := by rw [← h]; exact List.mem_map.mpr ⟨p, hp, rfl⟩
  unfold setR at hm
  rcases List.mem_or_eq_of_mem_set hm with z | z
  · obtain ⟨q, hq, e⟩ := List.mem_map.mp z
    rw [← e]
    exact hs.2 q hq
  · rw [z, List.length_set, List.getD_eq_getElem?_getD, List.getElem?_map]
    cases hg : prs[i]? with
    | none => simp
    | some q => exact hs.2 q (List.mem_of_getElem? hg)
section
variable {P : Program} {w : World} {K : PySem.W.Frag} {mg : Str → Option Value} {base : Heap} {C : Addr}
def spChanged : Sp := fun vs H Q _ => ∃ (t c : Addr) (prs : Prs) (i j : Nat) (x : Int), vs = [.ref t, .ref c, .int x] ∧ Tab H t prs ∧ tabB prs = true ∧ Cell H c i j ∧ i < prs.length ∧ j < w0 prs ∧ rowsOk (setR (prs.map (·.2)) i j x) = true ∧ NewTab H Q (setR (prs.map (·.2)) i j x)
theorem sc_changed : FnScope ["table", "cell", "x", "changed"] ["table", "cell", "x"] (defScope dChanged) := ⟨rfl, rfl, rfl, by decide +kernel, rfl, by decide +kernel, by decide +kernel⟩
theorem ok_changed (D : DefAt K mg "changed_table" dChanged ["table", "cell", "x"]) (G1 : FnAt P w K mg base 5 "need_cell" ["table", "thing"] spNeedCell) (G2 : FnAt P w K mg base 2 "need_number" ["thing"] spNeedNumber) (G3 : FnAt P w K mg base 2 "table_with" ["table", "cell", "x"] spWith) (G4 : FnAt P w K mg base 5 "is_table" ["thing"] spIsTable) :
    FnAt P w K mg base 6 "changed_table" ["table", "cell", "x"] spChanged := by
  refine FnAt.of D sc_changed (fun vs H Q E h => ?_) (fun f cdv A outer s H vs Q E hr h => ?_)
  · obtain ⟨t, c, prs, i, j, x, rfl, _⟩ := h
    rfl
  · obtain ⟨t, c, prs, i, j, x, rfl, hT, hg, hc, hi, hj, ok, q⟩ := h
    have nd := sc_changed.nd
    obtain ⟨g, g1, g2, g3, g4⟩ := good_of hg
    have hli : (rowAt prs i).length = w0 prs := by
      obtain ⟨p, hp, _, e⟩ := rowAt_mem hi
      rw [e]
      exact g.len p hp
    refine ⟨_, pss_cons (ps_expr (pe_f G1 hr (pa_cons (pv 0) (pa_cons (pv 1) pa_nil)))) (pss_cons (ps_expr (pe_f G2 (hr.mono (by decide)) (pa_cons (pv 2) pa_nil)))
      (pss_cons (ps_set (i := 3) nd rfl (Or.inl rfl) (pe_f G3 (hr.mono (by decide)) (pa_cons (pv 0) (pa_cons (pv 1) (pa_cons (pv 2) pa_nil)))))
      (pss_cons (ps_if (pt_not (pt_val (pe_f G4 hr (pa_cons (pv 3) pa_nil)))) pss_never pss_nil) (pss_one (ps_ret (pv 3)))))), ?_⟩
    refine ⟨_, rfl, _, rfl, t, c, prs, i, j, rfl, hT, hg, hc, hi, hj, fun H1 s1 => ⟨_, rfl, x, rfl, ?_⟩⟩
    refine ⟨_, rfl, _, rfl, _, rfl, t, c, prs, i, j, x, rfl, hT.same s1, good_bounds hg, s1 _ _ hc, hi, by omega, fun t' prs' H2 ht' hq hnd s2 hT2 hrows => ?_⟩
    refine ⟨_, rfl, t', prs', rfl, hT2, sm_rows (rows := []) (good_bounds hg) hrows, fun H3 s3 => ⟨_, rfl, ?_⟩⟩
    rw [rowsOk_of hrows, ok]
    exact iteF ⟨_, rfl, q t' prs' H3 (s1.free ht') (fun p hp => ⟨s1.free (hq p hp).1, (hq p hp).2⟩) hnd (s1.trans (s2.trans s3)) (hT2.same s3) hrows⟩
end
structure KpC (K : PySem.W.Frag) (C : Addr) : Prop where
  cls : Cls K C
  nr : NoAttr K C "rows"
  nc : NoAttr K C "changes"
abbrev Ch := List (Addr × Addr × Nat × Nat × Int)
structure Keep (H : Hp) (C a dx t l : Addr) (prs : Prs) (cs : Ch) : Prop where
  ob : H a = some (.ins C dx [("rows", .ref t), ("changes", .ref l)])
  T : Tab H t prs
  ok : tabB prs = true
  L : H l = some (.lst (cs.map fun c => V.ref c.1))
  ch : ∀ c ∈ cs, H c.1 = some (.tup [.ref c.2.1, .int c.2.2.2.2]) ∧ Cell H c.2.1 c.2.2.1 c.2.2.2.1 ∧ c.2.2.1 < prs.length ∧ c.2.2.2.1 < w0 prs
theorem Keep.same {H H' : Hp} {C a dx t l : Addr} {prs : Prs} {cs : Ch} (h : Keep H C a dx t l prs cs) (s : Same H H') : Keep H' C a dx t l prs cs :=
  ⟨s _ _ h.ob, h.T.same s, h.ok, s _ _ h.L, fun c hc => let ⟨h1, h2, h3⟩ := h.ch c hc; ⟨s _ _ h1, s _ _ h2, h3⟩⟩
section
variable {P : Program} {w : World} {K : PySem.W.Frag} {mg : Str → Option Value} {base : Heap} {C : Addr}
theorem sc_kInit : FnScope ["self", "table"] ["self", "table"] (defScope (methOf dKeeper 0)) := ⟨rfl, rfl, rfl, by decide +kernel, rfl, by decide +kernel, by decide +kernel⟩
def spInit (C : Addr) : Sp := fun vs H Q _ => ∃ (a dx t0 : Addr) (prs : Prs), vs = [.ref a, .ref t0] ∧ H a = some (.ins C dx []) ∧ Tab H t0 prs ∧ tabB prs = true ∧
  ∀ t l prs' H', But a H H' → H t = none → H l = none → (∀ p ∈ prs', H p.1 = none) → (prs'.map (·.1)).Nodup → prs'.map (·.2) = prs.map (·.2) → Keep H' C a dx t l prs' [] → Q .non H'
set_option maxHeartbeats 16000000 in
theorem ok_kInit (kc : KpC K C) (D : MethDef K C "__init__" "Keeper.__init__" (methOf dKeeper 0) ["self", "table"]) (G1 : FnAt P w K mg base 6 "need_table" ["thing"] spNeedTable) (G2 : FnAt P w K mg base 1 "copy_of" ["table"] spCopyN) : MtAt P w K mg base 7 C "__init__" ["self", "table"] (spInit C) := by
  refine MtAt.of D sc_kInit (fun vs H Q E h => ?_) (fun f cdv A outer s H vs Q E hr h => ?_)
  · obtain ⟨a, dx, t0, prs, rfl, _⟩ := h
    rfl
  · obtain ⟨a, dx, t0, prs, rfl, ea, hT, hg, q⟩ := h
    have nd := sc_kInit.nd
    refine ⟨_, pss_cons (ps_expr (pe_f G1 hr (pa_cons (pv 1) pa_nil))) (pss_cons (ps_fld (pv 0) (pe_f G2 (hr.mono (by decide)) (pa_cons (pv 1) pa_nil)) rfl) (pss_one (ps_fld (pv 0) (pe_lst pa_nil) rfl))), ?_⟩
    refine ⟨_, rfl, t0, prs, rfl, hT, good_bounds hg, hg, fun H1 s1 => ?_⟩
    have hT1 := hT.same s1
    refine ⟨_, rfl, t0, prs, rfl, hT1, good_bounds hg, fun t prs' H2 ht hq hnd s2 hT2 hrows => ?_⟩
    have ea2 := s2 _ _ (s1 _ _ ea)
    refine ⟨_, rfl, a, C, dx, [], rfl, ea2, kc.cls, kc.nr, by decide, ?_⟩
    have na : ∀ {x : Addr}, H1 x = none → x ≠ a := fun hx z => by
      rw [z] at hx
      have := s1 _ _ ea
      rw [hx] at this
      cases this
    have nat := na ht
    have nq : ∀ p ∈ prs', p.1 ≠ a := fun p hp => na (hq p hp).1
    have k3 : ∀ b o, b ≠ a → H2 b = some o → (upd H2 a (.ins C dx (putF "rows" (.ref t) []))) b = some o := fun b o n e => by rw [upd_ne n]; exact e
    have e3 : (upd H2 a (.ins C dx (putF "rows" (.ref t) []))) a = some (.ins C dx [("rows", .ref t)]) := upd_same
    have T3 : Tab (upd H2 a (.ins C dx (putF "rows" (.ref t) []))) t prs' := ⟨k3 _ _ nat hT2.l, fun p hp => k3 _ _ (nq p hp) (hT2.r p hp)⟩
    generalize upd H2 a (.ins C dx (putF "rows" (.ref t) [])) = H3 at k3 e3 T3 ⊢
    refine ⟨len0, fun l hl => ⟨_, rfl, a, C, dx, _, rfl, (Same.new hl) _ _ e3, kc.cls, kc.nc, (by show 1 < 1000; decide), ?_⟩⟩
    have nla : l ≠ a := fun z => by rw [z, e3] at hl; cases hl
    have k4 : ∀ b o, b ≠ a → H3 b = some o → (upd (upd H3 l (.lst [])) a (.ins C dx (putF "changes" (.ref l) [("rows", .ref t)]))) b = some o := fun b o n e => by
      rw [upd_ne n]
      exact (Same.new hl) _ _ e
    refine q t l prs' _ (fun b o n e => k4 b o n (k3 b o n (s2 _ _ (s1 _ _ e)))) (s1.free ht) ?_ (fun p hp => s1.free (hq p hp).1) hnd hrows ⟨upd_same, ⟨k4 _ _ nat T3.l, fun p hp => k4 _ _ (nq p hp) (T3.r p hp)⟩, ?_, ?_, fun c hc => nomatch hc⟩
    · cases e : H l with
      | none => rfl
      | some o =>
        have := k3 l o nla (s2 _ _ (s1 _ _ e))
        rw [hl] at this
        cases this
    · rw [tabB_rows hrows]
      exact hg
    · rw [upd_ne nla]
      exact upd_same
theorem sc_kTable : FnScope ["self"] ["self"] (defScope (methOf dKeeper 3)) := ⟨rfl, rfl, rfl, by decide +kernel, rfl, by decide +kernel, by decide +kernel⟩
def spKTable (C : Addr) : Sp := fun vs H Q _ => ∃ (a dx t l : Addr) (prs : Prs) (cs : Ch), vs = [.ref a] ∧ Keep H C a dx t l prs cs ∧ NewTab H Q (prs.map (·.2))
theorem ok_kTable (kc : KpC K C) (D : MethDef K C "table" "Keeper.table" (methOf dKeeper 3) ["self"]) (G2 : FnAt P w K mg base 1 "copy_of" ["table"] spCopyN) : MtAt P w K mg base 2 C "table" ["self"] (spKTable C) := by
  refine MtAt.of D sc_kTable (fun vs H Q E h => ?_) (fun f cdv A outer s H vs Q E hr h => ?_)
  · obtain ⟨a, dx, t, l, prs, cs, rfl, _⟩ := h
    rfl
  · obtain ⟨a, dx, t, l, prs, cs, rfl, hk, q⟩ := h
    refine ⟨_, pss_one (ps_ret (pe_f G2 hr (pa_cons (pe_fld (pv 0) rfl) pa_nil))), ?_⟩
    exact ⟨_, rfl, a, C, dx, _, _, rfl, hk.ob, kc.cls, kc.nr, rfl, t, prs, rfl, hk.T, good_bounds hk.ok, q⟩
theorem sc_kChange : FnScope ["self", "cell", "x", "rows", "before"] ["self", "cell", "x"] (defScope (methOf dKeeper 1)) := ⟨rfl, rfl, rfl, by decide +kernel, rfl, by decide +kernel, by decide +kernel⟩
def spKChange (C : Addr) : Sp := fun vs H Q _ => ∃ (a dx t l c : Addr) (prs : Prs) (cs : Ch) (i j : Nat) (x : Int), vs = [.ref a, .ref c, .int x] ∧ Keep H C a dx t l prs cs ∧ Cell H c i j ∧ i < prs.length ∧ j < w0 prs ∧ cs.length < 1000 ∧ rowsOk (setR (prs.map (·.2)) i j x) = true ∧
  ∀ t' prs' u r H', H t' = none → (∀ p ∈ prs', H p.1 = none ∧ p.1 ≠ t') → (prs'.map (·.1)).Nodup → H u = none → H r = none → (∀ b o, b ≠ a → b ≠ l → H b = some o → H' b = some o) → prs'.map (·.2) = setR (prs.map (·.2)) i j x → H' r = some (.tup [.int ((rowAt prs i).getD j 0), .int x]) → r ≠ a → r ≠ l →
    Keep H' C a dx t' l prs' (cs ++ [(u, c, i, j, (rowAt prs i).getD j 0)]) → Q (.ref r) H'
theorem w0_set {prs prs' : Prs} {i j : Nat} {x : Int} (h : prs'.map (·.2) = setR (prs.map (·.2)) i j x) : prs'.length = prs.length ∧ w0 prs' = w0 prs := by
  have hl : prs'.length = prs.length := by
    have := congrArg List.length h
    unfold setR at this
    rw [List.length_set] at this
    simpa using this
  refine ⟨hl, ?_⟩
  have := congrArg (fun l : List (List Int) => (l.head?.map List.length).getD 0) h
  simp only [List.head?_map, Option.map_map] at this
  have e : w0 prs' = ((setR (prs.map (·.2)) i j x).head?.map List.length).getD 0 := this
  rw [e]
  unfold setR
  cases prs with
  | nil => rfl
  | cons p r =>
    cases i with
    | zero => simp [w0]
    | succ i => simp [w0]
set_option maxHeartbeats 16000000 in
theorem ok_kChange (kc : KpC K C) (D : MethDef K C "change" "Keeper.change" (methOf dKeeper 1) ["self", "cell", "x"]) (G1 : FnAt P w K mg base 6 "changed_table" ["table", "cell", "x"] spChanged) (G2 : FnAt P w K mg base 7 "number_at" ["table", "cell"] spNumberAt) : MtAt P w K mg base 8 C "change" ["self", "cell", "x"] (spKChange C) := by
  refine MtAt.of D sc_kChange (fun vs H Q E h => ?_) (fun f cdv A outer s H vs Q E hr h => ?_)
  · obtain ⟨a, dx, t, l, c, prs, cs, i, j, x, rfl, _⟩ := h
    rfl
  · obtain ⟨a, dx, t, l, c, prs, cs, i, j, x, rfl, hk, hc, hi, hj, hcl, ok, q⟩ := h
    have nd := sc_kChange.nd
    refine ⟨_, pss_cons (ps_set (i := 3) nd rfl (Or.inl rfl) (pe_f G1 (hr.mono (by decide)) (pa_cons (pe_fld (pv 0) rfl) (pa_cons (pv 1) (pa_cons (pv 2) pa_nil)))))
      (pss_cons (ps_set (i := 4) nd rfl (Or.inl rfl) (pe_f G2 hr (pa_cons (pe_fld (pv 0) rfl) (pa_cons (pv 1) pa_nil))))
      (pss_cons (ps_fld (pv 0) (pv 3) rfl)
      (pss_cons (ps_expr (pe_bm PySem.F.plainAttrs_list PySem.F.slot_list_append PySem.F.type_list_append mt_append (pe_fld (pv 0) rfl) (pa_cons (pe_tup (pa_cons (pv 1) (pa_cons (pv 4) pa_nil))) pa_nil)))
      (pss_one (ps_ret (pe_tup (pa_cons (pv 4) (pa_cons (pv 2) pa_nil)))))))), ?_⟩
    refine ⟨_, rfl, a, C, dx, _, _, rfl, hk.ob, kc.cls, kc.nr, rfl, _, rfl, _, rfl, t, c, prs, i, j, x, rfl, hk.T, hk.ok, hc, hi, hj, ok, fun t' prs' H1 ht' hq hnd s1 hT1 hrows => ?_⟩
    have hk1 := hk.same s1
    have hc1 : Cell H1 c i j := s1 _ _ hc
    refine ⟨_, rfl, a, C, dx, _, _, rfl, hk1.ob, kc.cls, kc.nr, rfl, _, rfl, t, c, prs, i, j, rfl, hk1.T, hk1.ok, hc1, hi, hj, fun H2 s2 => ?_⟩
    have hk2 := hk1.same s2
    have hc2 : Cell H2 c i j := s2 _ _ hc1
    have hT2 := hT1.same s2
    have nla : l ≠ a := fun z => by
      have h1 := hk.L
      have h2 := hk.ob
      rw [z, h2] at h1
      cases h1
    have nn : ∀ {y : Addr}, H y = none → y ≠ a ∧ y ≠ l := fun hy => ⟨(fun z => by rw [z, hk.ob] at hy; cases hy), (fun z => by rw [z, hk.L] at hy; cases hy)⟩
    refine ⟨_, rfl, _, rfl, a, C, dx, _, rfl, hk2.ob, kc.cls, kc.nr, (by show 2 < 1000; decide), ?_⟩
    have e3 : (upd H2 a (.ins C dx (putF "rows" (.ref t') [("rows", .ref t), ("changes", .ref l)]))) a = some (.ins C dx [("rows", .ref t'), ("changes", .ref l)]) := upd_same
    have k3 : ∀ b o, b ≠ a → H2 b = some o → (upd H2 a (.ins C dx (putF "rows" (.ref t') [("rows", .ref t), ("changes", .ref l)]))) b = some o := fun b o n e => by rw [upd_ne n]; exact e
    generalize upd H2 a (.ins C dx (putF "rows" (.ref t') [("rows", .ref t), ("changes", .ref l)])) = H3 at e3 k3 ⊢
    have L3 := k3 _ _ nla hk2.L
    refine ⟨_, rfl, a, C, dx, _, _, rfl, e3, kc.cls, kc.nc, rfl, .inl ⟨rfl, _, SqL.of L3⟩, _, rfl, _, rfl, len2, fun u hu => ?_⟩
    have nu : u ≠ a ∧ u ≠ l := ⟨(fun z => by rw [z, e3] at hu; cases hu), (fun z => by rw [z, L3] at hu; cases hu)⟩
    refine ⟨l, _, _, rfl, rfl, (Same.new hu) _ _ L3, (by rw [List.length_map]; exact small1000 (by omega)), ?_⟩
    have k5 : ∀ b o, b ≠ l → H3 b = some o → (upd (upd H3 u (.tup [.ref c, .int ((rowAt prs i).getD j 0)])) l (.lst ((cs.map fun c => V.ref c.1) ++ [.ref u]))) b = some o := fun b o n e => by
      rw [upd_ne n]
      exact (Same.new hu) _ _ e
    have eu : (upd (upd H3 u (.tup [.ref c, .int ((rowAt prs i).getD j 0)])) l (.lst ((cs.map fun c => V.ref c.1) ++ [.ref u]))) u = some (.tup [.ref c, .int ((rowAt prs i).getD j 0)]) := by
      rw [upd_ne nu.2]
      exact upd_same
    have el : (upd (upd H3 u (.tup [.ref c, .int ((rowAt prs i).getD j 0)])) l (.lst ((cs.map fun c => V.ref c.1) ++ [.ref u]))) l = some (.lst ((cs ++ [(u, c, i, j, (rowAt prs i).getD j 0)]).map fun c => V.ref c.1)) := by
      rw [upd_same, List.map_append]
      rfl
    generalize upd (upd H3 u (.tup [.ref c, .int ((rowAt prs i).getD j 0)])) l (.lst ((cs.map fun c => V.ref c.1) ++ [.ref u])) = H5 at k5 eu el ⊢
    have up : ∀ b o, b ≠ a → b ≠ l → H2 b = some o → H5 b = some o := fun b o n1 n2 e => k5 b o n2 (k3 b o n1 e)
    have hu0 : H u = none := by
      cases e : H u with
      | none => rfl
      | some o =>
        have := k3 u o nu.1 (s2 _ _ (s1 _ _ e))
        rw [hu] at this
        cases this
    refine ⟨_, rfl, _, rfl, len2, fun r hr' => ?_⟩
    have nr : r ≠ a ∧ r ≠ l := ⟨(fun z => by rw [z, k5 _ _ (Ne.symm nla) e3] at hr'; cases hr'), (fun z => by rw [z, el] at hr'; cases hr')⟩
    have hr0 : H r = none := by
      cases e : H r with
      | none => rfl
      | some o =>
        have := up r o nr.1 nr.2 (s2 _ _ (s1 _ _ e))
        rw [hr'] at this
        cases this
    have s6 := Same.new (o := .tup [.int ((rowAt prs i).getD j 0), .int x]) hr'
    obtain ⟨wl, ww⟩ := w0_set hrows
    refine q t' prs' u r _ ht' hq hnd hu0 hr0 (fun b o n1 n2 e => s6 _ _ (up b o n1 n2 (s2 _ _ (s1 _ _ e)))) hrows upd_same nr.1 nr.2 ⟨s6 _ _ (k5 _ _ (Ne.symm nla) e3), ⟨s6 _ _ (up _ _ (nn ht').1 (nn ht').2 hT2.l), fun p hp => s6 _ _ (up _ _ (nn (hq p hp).1).1 (nn (hq p hp).1).2 (hT2.r p hp))⟩, ?_, s6 _ _ el, fun y hy => ?_⟩
    · rw [rowsOk_of hrows]
      exact ok
    · have cel : ∀ {y : Addr} {i' j' : Nat}, Cell H2 y i' j' → Cell H5 y i' j' := fun {y i' j'} hy => up _ _ (fun z => by
          have h1 := hk2.ob
          rw [← z] at h1
          have h2 : H2 y = _ := hy
          rw [h2] at h1
          cases h1) (fun z => by
          have h1 := hk2.L
          rw [← z] at h1
          have h2 : H2 y = _ := hy
          rw [h2] at h1
          cases h1) hy
      rcases List.mem_append.mp hy with z | z
      · obtain ⟨z1, z2, z3, z4⟩ := hk2.ch y z
        refine ⟨s6 _ _ (up _ _ (fun e => ?_) (fun e => ?_) z1), s6 _ _ (cel z2), by omega, by omega⟩
        · have h1 := hk2.ob
          rw [← e, z1] at h1
          cases h1
        · have h1 := hk2.L
          rw [← e, z1] at h1
          cases h1
      · have : y = (u, c, i, j, (rowAt prs i).getD j 0) := by simpa using z
        subst this
        exact ⟨s6 _ _ eu, s6 _ _ (cel hc2), by show i < _; omega, by show j < _; omega⟩
end
def CellI (H : Hp) (c : Addr) (a b : Int) : Prop := H c = some (.tup [.int a, .int b])
def inT (r p : Nat) (a b : Int) : Bool := decide (0 ≤ a ∧ a < (r : Int)) && decide (0 ≤ b ∧ b < (p : Int))
section
variable {P : Program} {w : World} {K : PySem.W.Frag} {mg : Str → Option Value} {base : Heap}
def spAllWholeI : Sp := fun vs H Q _ => ∃ (c : Addr) (a b : Int), vs = [.ref c] ∧ CellI H c a b ∧ ∀ H', Same H H' → Q (.bl true) H'
theorem ok_allWholeI (T : Blt mg) (D : DefAt K mg "all_whole" dAllWhole ["things"]) (G1 : FnAt P w K mg base 1 "is_whole" ["thing"] spIsWhole) : FnAt P w K mg base 2 "all_whole" ["things"] spAllWholeI := by
  refine FnAt.of D sc_allWhole (fun vs H Q E h => ?_) (fun f cdv A outer s H vs Q E hr h => ?_)
  · obtain ⟨c, i, j, rfl, _⟩ := h
    rfl
  · obtain ⟨c, i, j, rfl, hC, q⟩ := h
    have nd1 : (["thing"] : List Str).Nodup := by decide +kernel
    refine ⟨_, pss_one (ps_ret (pe_b (call_all rfl) T.all boot_all (pa_cons (pe_comp ["thing"] [none] (defScope dAllWhole) ["things"] rfl (pi_tup (pv 0)) (by decide +kernel)
      (fun cl C s2 H2 ex => pg_c 0 nd1) (fun cl C s2 H2 ex => pifs_nil) (fun cl C s2 H2 ex => pe_f G1 hr (pa_cons (pv 0) pa_nil))) pa_nil))), ?_⟩
    refine ⟨_, rfl, c, rfl, ⟨_, SqT.of hC⟩, comp_tup V.int (ms := [i, j]) (fun _ => .bl true) (SqT.of hC) (by show 2 ≤ sizeLine; decide) (fun n _ H' Q' sm q' => ?_) fun L H' hL sm hLl => ?_⟩
    · exact ⟨_, rfl, n, rfl, q' _ (Same.refl _)⟩
    · exact ⟨L, [true, true], rfl, SqL.of hLl, q H' sm⟩
def spCellSzI : Sp := fun vs H Q _ => ∃ (c : Addr) (r p : Nat) (a b : Int), vs = [.int (r : Nat), .int (p : Nat), .ref c] ∧ CellI H c a b ∧ ∀ H', Same H H' → Q (.bl (inT r p a b)) H'
theorem ok_cellSzI (T : Blt mg) (htup : mg "tuple" = none) (D : DefAt K mg "is_cell_of_size" dCellSz ["rows", "places", "thing"]) (G : FnAt P w K mg base 2 "all_whole" ["things"] spAllWholeI) : FnAt P w K mg base 3 "is_cell_of_size" ["rows", "places", "thing"] spCellSzI := by
  refine FnAt.of D sc_cellSz (fun vs H Q E h => ?_) (fun f cdv A outer s H vs Q E hr h => ?_)
  · obtain ⟨c, r, p, i, j, rfl, _⟩ := h
    rfl
  · obtain ⟨c, r, p, a, b, rfl, hC, q⟩ := h
    refine ⟨_, pss_cons (ps_if (PW.pt (pw_or (pt_not (pt_val (pe_b call_isinst T.isinst boot_isinstance (pa_cons (pv 2) (pa_cons (pe_ty htup boot_tuple) pa_nil))))) (pw_or (pt_cmpR op_ne (pe_b call_len_seq T.len boot_len (pa_cons (pv 2) pa_nil)) pe_int (nomark _)) (pw_or1 (pt_not (pt_val (pe_f G hr (pa_cons (pv 2) pa_nil)))))))) (pss_one (ps_ret pe_bl)) pss_nil)
      (pss_one (ps_ret (pe_and (pe_chain o_le o_lt pe_int (pe_ix ix_tup (pv 2) pe_int (fun _ _ => rfl)) (pv 0))
        (pe_one (pe_chain o_le o_lt pe_int (pe_ix ix_tup (pv 2) pe_int (fun _ _ => rfl)) (pv 1)))))), ?_⟩
    refine ⟨_, rfl, _, _, _, _, rfl, .tup hC, kit_tt _, _, rfl, iteF ⟨_, rfl, c, _, rfl, .inr (SqT.of hC), rfl, _, rfl, ?_⟩⟩
    refine iteF ⟨_, rfl, c, a, b, rfl, hC, fun H1 s1 => ⟨_, rfl, iteF ?_⟩⟩
    have hC1 : CellI H1 c a b := s1 _ _ hC
    have q1 := q H1 s1
    unfold inT at q1
    refine ⟨_, rfl, c, _, 0, .int a, rfl, rfl, SqT.of hC1, rfl, _, _, rfl, rfl, _, rfl, ?_⟩
    by_cases h1 : (0 : Int) ≤ a
    · rw [decide_eq_true h1]
      refine iteT ⟨_, rfl, _, _, rfl, rfl, _, rfl, ?_⟩
      by_cases h2 : a < (r : Int)
      · rw [decide_eq_true h2]
        refine iteT ⟨_, rfl, c, _, 1, .int b, rfl, rfl, SqT.of hC1, rfl, _, _, rfl, rfl, _, rfl, ?_⟩
        rw [decide_eq_true (show 0 ≤ a ∧ a < (r : Int) from ⟨h1, h2⟩), Bool.true_and] at q1
        by_cases h3 : (0 : Int) ≤ b
        · rw [decide_eq_true h3]
          refine iteT ⟨_, rfl, _, _, rfl, rfl, ?_⟩
          have : decide (0 ≤ b ∧ b < (p : Int)) = decide (b < (p : Int)) := decide_eq_decide.mpr ⟨fun z => z.2, fun z => ⟨h3, z⟩⟩
          rw [this] at q1
          exact q1
        · rw [decide_eq_false h3]
          refine iteF ?_
          rw [decide_eq_false (show ¬(0 ≤ b ∧ b < (p : Int)) from fun z => h3 z.1)] at q1
          exact q1
      · rw [decide_eq_false h2]
        refine iteF ?_
        rw [decide_eq_false (show ¬(0 ≤ a ∧ a < (r : Int)) from fun z => h2 z.2), Bool.false_and] at q1
        exact q1
    · rw [decide_eq_false h1]
      refine iteF ⟨_, rfl, iteF ?_⟩
      rw [decide_eq_false (show ¬(0 ≤ a ∧ a < (r : Int)) from fun z => h1 z.1), Bool.false_and] at q1
      exact q1
def spIsCellI : Sp := fun vs H Q _ => ∃ (t c : Addr) (prs : Prs) (a b : Int), vs = [.ref t, .ref c] ∧ Tab H t prs ∧ tabB prs = true ∧ CellI H c a b ∧ ∀ H', Same H H' → Q (.bl (inT prs.length (w0 prs) a b)) H'
theorem ok_isCellI (T : Blt mg) (D : DefAt K mg "is_cell" dIsCell ["table", "thing"]) (G : FnAt P w K mg base 3 "is_cell_of_size" ["rows", "places", "thing"] spCellSzI) : FnAt P w K mg base 4 "is_cell" ["table", "thing"] spIsCellI := by
  refine FnAt.of D sc_isCell (fun vs H Q E h => ?_) (fun f cdv A outer s H vs Q E hr h => ?_)
  · obtain ⟨t, c, prs, i, j, rfl, _⟩ := h
    rfl
  · obtain ⟨t, c, prs, i, j, rfl, hT, hg, hC, q⟩ := h
    obtain ⟨g, g1, g2, g3, g4⟩ := good_of hg
    obtain ⟨p0, hp0, hm0, hx0⟩ := head_at (prs := prs) g1
    refine ⟨_, pss_one (ps_ret (pe_f G hr (pa_cons (pe_b call_len_seq T.len boot_len (pa_cons (pv 0) pa_nil)) (pa_cons (pe_b call_len_seq T.len boot_len (pa_cons (pe_ix ix_list (pv 0) pe_int (fun _ _ => rfl)) pa_nil)) (pa_cons (pv 1) pa_nil))))), ?_⟩
    exact ⟨_, rfl, t, _, rfl, .inl hT.sq, _, rfl, t, _, 0, .ref p0.1, rfl, rfl, hT.sq, atI_nat (j := 0) (by rw [List.getElem?_map, hx0]; rfl), p0.1, _, rfl, .inl (hT.r p0 hm0).sq, _, rfl, c, prs.length, w0 prs, i, j, by rw [List.length_map, List.length_map, g.len p0 hm0], hC, q⟩
abbrev CsI := List (Addr × Int × Int)
def numI (prs : Prs) (c : Addr × Int × Int) : Int := (rowAt prs c.2.1.toNat).getD c.2.2.toNat 0
def spBeside : Sp := fun vs H Q _ => ∃ (t b : Addr) (prs : Prs) (cs : CsI), vs = [.ref t, .ref b] ∧ Tab H t prs ∧ tabB prs = true ∧ H b = some (.lst (cs.map fun c => V.ref c.1)) ∧ cs.length ≤ 1000 ∧ (∀ c ∈ cs, CellI H c.1 c.2.1 c.2.2) ∧
  ∀ L H', H L = none → Same H H' → H' L = some (.lst (((cs.filter fun c => inT prs.length (w0 prs) c.2.1 c.2.2).map (numI prs)).map V.int)) → Q (.ref L) H'
theorem sc_beside : FnScope ["table", "beside"] ["table", "beside"] (defScope dBeside) := ⟨rfl, rfl, rfl, by decide +kernel, rfl, by decide +kernel, by decide +kernel⟩
theorem ok_beside (D : DefAt K mg "numbers_beside" dBeside ["table", "beside"]) (G1 : FnAt P w K mg base 4 "is_cell" ["table", "thing"] spIsCellI) (G2 : FnAt P w K mg base 7 "number_at" ["table", "cell"] spNumberAt) : FnAt P w K mg base 8 "numbers_beside" ["table", "beside"] spBeside := by
  refine FnAt.of D sc_beside (fun vs H Q E h => ?_) (fun f cdv A outer s H vs Q E hr h => ?_)
  · obtain ⟨t, b, prs, cs, rfl, _⟩ := h
    rfl
  · obtain ⟨t, b, prs, cs, rfl, hT, hg, hb, hl, hc, q⟩ := h
    have nd1 : (["cell", "table"] : List Str).Nodup := by decide +kernel
    refine ⟨_, pss_one (ps_ret (pe_comp ["cell", "table"] [none, some 0] (defScope dBeside) ["table", "beside"] rfl (pi_list (pv 1)) (by decide +kernel)
      (fun cl C s2 H2 ex => pg_c 0 nd1) (fun cl C s2 H2 ex => pifs_one (pt_val (pe_f G1 (hr.mono (by decide)) (pa_cons (pv 1) (pa_cons (pv 0) pa_nil))))) (fun cl C s2 H2 ex => pe_f G2 hr (pa_cons (pv 1) (pa_cons (pv 0) pa_nil))))), ?_⟩
    refine ⟨_, rfl, b, rfl, ⟨_, SqL.of hb⟩, comp_of (fun c : Addr × Int × Int => V.ref c.1) (fun c => inT prs.length (w0 prs) c.2.1 c.2.2) (fun c => .int (numI prs c)) (SqL.of hb) (Nat.le_of_lt (small1000 hl)) (fun c hcm H' Q' sm q' => ?_) (fun c hcm hin H' Q' sm q' => ?_) fun L H' hL sm hLl => q L H' hL sm (by rw [List.map_map]; exact hLl)⟩
    · exact ⟨_, rfl, _, rfl, t, c.1, prs, c.2.1, c.2.2, rfl, hT.same sm, hg, sm _ _ (hc c hcm), fun H2 s2 => ⟨_, rfl, q' H2 s2⟩⟩
    · unfold inT at hin
      rw [Bool.and_eq_true, decide_eq_true_eq, decide_eq_true_eq] at hin
      obtain ⟨⟨h1, h2⟩, h3, h4⟩ := hin
      have e1 : ((c.2.1.toNat : Nat) : Int) = c.2.1 := Int.toNat_of_nonneg h1
      have e2 : ((c.2.2.toNat : Nat) : Int) = c.2.2 := Int.toNat_of_nonneg h3
      refine ⟨_, rfl, _, rfl, t, c.1, prs, c.2.1.toNat, c.2.2.toNat, rfl, hT.same sm, hg, ?_, by omega, by omega, q'⟩
      unfold Cell
      rw [e1, e2]
      exact sm _ _ (hc c hcm)
end
def cellR (rows : List (List Int)) (i j : Nat) : Int := (rows.getD i []).getD j 0
def wR (rows : List (List Int)) : Nat := (rows.getD 0 []).length
def aheadL (rows : List (List Int)) (i j : Nat) : List Int := (if 0 < i then [cellR rows (i - 1) j] else []) ++ (if 0 < j then [cellR rows i (j - 1)] else [])
def behindL (rows : List (List Int)) (i j : Nat) : List Int := (if i + 1 < rows.length then [cellR rows (i + 1) j] else []) ++ (if j + 1 < wR rows then [cellR rows i (j + 1)] else [])
def oV : Option Int → V
  | none => .non
  | some n => .int n
theorem max_is {ns : List Int} {M : Int} (h1 : M ∈ ns) (h2 : ∀ a ∈ ns, a ≤ M) : ns.max? = some M := by
  rw [List.max?_eq_some_iff]
  exact ⟨h1, h2⟩
theorem min_is {ns : List Int} {M : Int} (h1 : M ∈ ns) (h2 : ∀ a ∈ ns, M ≤ a) : ns.min? = some M := by
  rw [List.min?_eq_some_iff]
  exact ⟨h1, h2⟩
theorem rowAt_rows (prs : Prs) (i : Nat) : rowAt prs i = (prs.map (·.2)).getD i [] := by
  unfold rowAt
  rw [List.getD_eq_getElem?_getD, List.getElem?_map]
theorem cellR_at (prs : Prs) (i j : Nat) : cellR (prs.map (·.2)) i j = (rowAt prs i).getD j 0 := by
  unfold cellR
  rw [rowAt_rows]
theorem wR_w0 (prs : Prs) : wR (prs.map (·.2)) = w0 prs := by
  cases prs <;> rfl
theorem filt2 {prs : Prs} (a b : Addr) (x1 y1 x2 y2 : Int) : (([(a, x1, y1), (b, x2, y2)] : CsI).filter fun c => inT prs.length (w0 prs) c.2.1 c.2.2).map (numI prs) =
    (if inT prs.length (w0 prs) x1 y1 = true then [(rowAt prs x1.toNat).getD y1.toNat 0] else []) ++ (if inT prs.length (w0 prs) x2 y2 = true then [(rowAt prs x2.toNat).getD y2.toNat 0] else []) := by
  rw [List.filter_cons, List.filter_cons, List.filter_nil]
  cases inT prs.length (w0 prs) x1 y1 <;> cases inT prs.length (w0 prs) x2 y2 <;> rfl
theorem ahead_is {prs : Prs} (a b : Addr) {i j : Nat} (hi : i < prs.length) (hj : j < w0 prs) :
    (([(a, (i : Int) - 1, (j : Int)), (b, (i : Int), (j : Int) - 1)] : CsI).filter fun c => inT prs.length (w0 prs) c.2.1 c.2.2).map (numI prs) = aheadL (prs.map (·.2)) i j := by
  rw [filt2]
  unfold aheadL
  rw [cellR_at, cellR_at]
  have e1 : inT prs.length (w0 prs) ((i : Int) - 1) (j : Int) = decide (0 < i) := by
    unfold inT
    rw [← Bool.decide_and]
    exact decide_eq_decide.mpr (by omega)
  have e2 : inT prs.length (w0 prs) (i : Int) ((j : Int) - 1) = decide (0 < j) := by
    unfold inT
    rw [← Bool.decide_and]
    exact decide_eq_decide.mpr (by omega)
  rw [e1, e2]
  simp only [decide_eq_true_eq]
  rw [show ((i : Int) - 1).toNat = i - 1 by omega, show ((j : Int) - 1).toNat = j - 1 by omega, Int.toNat_natCast, Int.toNat_natCast]
theorem behind_is {prs : Prs} (a b : Addr) {i j : Nat} (hi : i < prs.length) (hj : j < w0 prs) :
    (([(a, (i : Int) + 1, (j : Int)), (b, (i : Int), (j : Int) + 1)] : CsI).filter fun c => inT prs.length (w0 prs) c.2.1 c.2.2).map (numI prs) = behindL (prs.map (·.2)) i j := by
  rw [filt2]
  unfold behindL
  rw [cellR_at, cellR_at, wR_w0, List.length_map]
  have e1 : inT prs.length (w0 prs) ((i : Int) + 1) (j : Int) = decide (i + 1 < prs.length) := by
    unfold inT
    rw [← Bool.decide_and]
    exact decide_eq_decide.mpr (by omega)
  have e2 : inT prs.length (w0 prs) (i : Int) ((j : Int) + 1) = decide (j + 1 < w0 prs) := by
    unfold inT
    rw [← Bool.decide_and]
    exact decide_eq_decide.mpr (by omega)
  rw [e1, e2]
  simp only [decide_eq_true_eq]
  rw [show ((i : Int) + 1).toNat = i + 1 by omega, show ((j : Int) + 1).toNat = j + 1 by omega, Int.toNat_natCast, Int.toNat_natCast]
section
variable {P : Program} {w : World} {K : PySem.W.Frag} {mg : Str → Option Value} {base : Heap} {C : Addr}
def SpanTo (H : Hp) (Q : VK) (rows : List (List Int)) (i j : Nat) : Prop := ∀ r H', H r = none → Same H H' → H' r = some (.tup [oV (aheadL rows i j).max?, oV (behindL rows i j).min?]) → Q (.ref r) H'
def spSpan : Sp := fun vs H Q _ => ∃ (t c : Addr) (prs : Prs) (i j : Nat), vs = [.ref t, .ref c] ∧ Tab H t prs ∧ tabB prs = true ∧ Cell H c i j ∧ i < prs.length ∧ j < w0 prs ∧ SpanTo H Q (prs.map (·.2)) i j
theorem sc_span : FnScope ["table", "cell", "row", "place", "ahead", "behind"] ["table", "cell"] (defScope dSpan) := ⟨rfl, rfl, rfl, by decide +kernel, rfl, by decide +kernel, by decide +kernel⟩
set_option maxHeartbeats 16000000 in
theorem ok_span (T : Blt mg) (hmin : mg "min" = none) (D : DefAt K mg "span_of" dSpan ["table", "cell"]) (G1 : FnAt P w K mg base 5 "need_cell" ["table", "thing"] spNeedCell) (G2 : FnAt P w K mg base 8 "numbers_beside" ["table", "beside"] spBeside) : FnAt P w K mg base 9 "span_of" ["table", "cell"] spSpan := by
  refine FnAt.of D sc_span (fun vs H Q E h => ?_) (fun f cdv A outer s H vs Q E hr h => ?_)
  · obtain ⟨t, c, prs, i, j, rfl, _⟩ := h
    rfl
  · obtain ⟨t, c, prs, i, j, rfl, hT, hg, hC, hi, hj, q⟩ := h
    have nd := sc_span.nd
    refine ⟨_, pss_cons (ps_expr (pe_f G1 (hr.mono (by decide)) (pa_cons (pv 0) (pa_cons (pv 1) pa_nil))))
      (pss_cons (ps_set (i := 2) nd rfl (Or.inl rfl) (pe_ix ix_tup (pv 1) pe_int (fun _ _ => rfl)))
      (pss_cons (ps_set (i := 3) nd rfl (Or.inl rfl) (pe_ix ix_tup (pv 1) pe_int (fun _ _ => rfl)))
      (pss_cons (ps_set (i := 4) nd rfl (Or.inl rfl) (pe_f G2 hr (pa_cons (pv 0) (pa_cons (pe_lst (pa_cons (pe_tup (pa_cons (pe_op o_sub (pv 2) pe_int) (pa_cons (pv 3) pa_nil))) (pa_cons (pe_tup (pa_cons (pv 2) (pa_cons (pe_op o_sub (pv 3) pe_int) pa_nil))) pa_nil))) pa_nil))))
      (pss_cons (ps_set (i := 5) nd rfl (Or.inl rfl) (pe_f G2 hr (pa_cons (pv 0) (pa_cons (pe_lst (pa_cons (pe_tup (pa_cons (pe_op o_add (pv 2) pe_int) (pa_cons (pv 3) pa_nil))) (pa_cons (pe_tup (pa_cons (pv 2) (pa_cons (pe_op o_add (pv 3) pe_int) pa_nil))) pa_nil))) pa_nil))))
      (pss_one (ps_ret (pe_tup (pa_cons (pe_maxD rfl rfl T.max (pv 4) pe_non) (pa_cons (pe_minD rfl rfl hmin (pv 5) pe_non) pa_nil))))))))), ?_⟩
    refine ⟨_, rfl, _, rfl, t, c, prs, i, j, rfl, hT, hg, hC, hi, hj, fun H1 s1 => ?_⟩
    have hC1 : Cell H1 c i j := s1 _ _ hC
    have hT1 := hT.same s1
    refine ⟨_, rfl, c, _, 0, .int (i : Nat), rfl, rfl, SqT.of hC1, rfl, _, rfl, c, _, 1, .int (j : Nat), rfl, rfl, SqT.of hC1, rfl, ?_⟩
    refine ⟨_, rfl, _, rfl, _, _, rfl, rfl, _, rfl, len2, fun u1 hu1 => ⟨_, rfl, _, rfl, _, _, rfl, rfl, len2, fun u2 hu2 => ⟨len2, fun l hl => ?_⟩⟩⟩
    have m1 := Same.new (o := .tup [.int ((i : Int) - 1), .int (j : Nat)]) hu1
    have m2 := Same.new (o := .tup [.int (i : Nat), .int ((j : Int) - 1)]) hu2
    have m3 := Same.new (o := .lst [.ref u1, .ref u2]) hl
    refine ⟨t, l, prs, [(u1, (i : Int) - 1, (j : Int)), (u2, (i : Int), (j : Int) - 1)], rfl, ((hT1.same m1).same m2).same m3, hg, upd_same, (by show 2 ≤ 1000; decide), fun c hc => ?_, fun L H2 hL s2 eL => ?_⟩
    · rcases List.mem_cons.mp hc with z | hc
      · rw [z]
        exact m3 _ _ (m2 _ _ upd_same)
      · rcases List.mem_cons.mp hc with z | hc
        · rw [z]
          exact m3 _ _ upd_same
        · cases hc
    rw [ahead_is u1 u2 hi hj] at eL
    have s12 : Same H1 H2 := ((m1.trans m2).trans m3).trans s2
    generalize hH : upd (upd (upd H1 u1 _) u2 _) l _ = Hx at s2 hL
    clear hH m3 m2 m1
    have hT2 := hT1.same s12
    refine ⟨_, rfl, _, rfl, _, _, rfl, rfl, _, rfl, len2, fun u3 hu3 => ⟨_, rfl, _, rfl, _, _, rfl, rfl, len2, fun u4 hu4 => ⟨len2, fun l2 hl2 => ?_⟩⟩⟩
    have m1 := Same.new (o := .tup [.int ((i : Int) + 1), .int (j : Nat)]) hu3
    have m2 := Same.new (o := .tup [.int (i : Nat), .int ((j : Int) + 1)]) hu4
    have m3 := Same.new (o := .lst [.ref u3, .ref u4]) hl2
    refine ⟨t, l2, prs, [(u3, (i : Int) + 1, (j : Int)), (u4, (i : Int), (j : Int) + 1)], rfl, ((hT2.same m1).same m2).same m3, hg, upd_same, (by show 2 ≤ 1000; decide), fun c hc => ?_, fun L2 H3 hL2 s3 eL2 => ?_⟩
    · rcases List.mem_cons.mp hc with z | hc
      · rw [z]
        exact m3 _ _ (m2 _ _ upd_same)
      · rcases List.mem_cons.mp hc with z | hc
        · rw [z]
          exact m3 _ _ upd_same
        · cases hc
    rw [behind_is u3 u4 hi hj] at eL2
    have s23 : Same H2 H3 := ((m1.trans m2).trans m3).trans s3
    have s13 := s12.trans s23
    have eL3 := s23 _ _ eL
    have fin : ∀ r, H3 r = none → Q (.ref r) (upd H3 r (.tup [oV (aheadL (prs.map (·.2)) i j).max?, oV (behindL (prs.map (·.2)) i j).min?])) := fun r hr => q r _ ((s1.trans s13).free hr) ((s1.trans s13).trans (Same.new hr)) upd_same
    have key : ∀ v1, v1 = oV (aheadL (prs.map (·.2)) i j).max? → rDef K (fun a M => M ≤ a) [.ref L2] [.non] H3 (fun v2 H4 => [v1, v2].length ≤ sizeLine ∧ ∀ r, H4 r = none → Q (.ref r) (upd H4 r (.tup [v1, v2]))) := by
      intro v1 e1
      subst e1
      refine ⟨L2, _, .non, rfl, rfl, SqL.of eL2, fun z => ⟨len2, fun r hr => ?_⟩, fun _ M h1 h2 => ⟨len2, fun r hr => ?_⟩⟩
      · have := fin r hr
        rw [z] at this
        exact this
      · have := fin r hr
        rw [min_is h1 h2] at this
        exact this
    refine ⟨_, rfl, L, _, .non, rfl, rfl, SqL.of eL3, fun z => ⟨_, rfl, ?_⟩, fun _ M h1 h2 => ⟨_, rfl, ?_⟩⟩
    · exact key .non (by rw [z]; rfl)
    · exact key (.int M) (by rw [max_is h1 h2]; rfl)
theorem sc_kSpan : FnScope ["self", "cell"] ["self", "cell"] (defScope (methOf dKeeper 6)) := ⟨rfl, rfl, rfl, by decide +kernel, rfl, by decide +kernel, by decide +kernel⟩
def spKSpan (C : Addr) : Sp := fun vs H Q _ => ∃ (a dx t l c : Addr) (prs : Prs) (cs : Ch) (i j : Nat), vs = [.ref a, .ref c] ∧ Keep H C a dx t l prs cs ∧ Cell H c i j ∧ i < prs.length ∧ j < w0 prs ∧ SpanTo H Q (prs.map (·.2)) i j
theorem ok_kSpan (kc : KpC K C) (D : MethDef K C "span" "Keeper.span" (methOf dKeeper 6) ["self", "cell"]) (G : FnAt P w K mg base 9 "span_of" ["table", "cell"] spSpan) : MtAt P w K mg base 10 C "span" ["self", "cell"] (spKSpan C) := by
  refine MtAt.of D sc_kSpan (fun vs H Q E h => ?_) (fun f cdv A outer s H vs Q E hr h => ?_)
  · obtain ⟨a, dx, t, l, c, prs, cs, i, j, rfl, _⟩ := h
    rfl
  · obtain ⟨a, dx, t, l, c, prs, cs, i, j, rfl, hk, hc, hi, hj, q⟩ := h
    refine ⟨_, pss_one (ps_ret (pe_f G hr (pa_cons (pe_fld (pv 0) rfl) (pa_cons (pv 1) pa_nil)))), ?_⟩
    exact ⟨_, rfl, a, C, dx, _, _, rfl, hk.ob, kc.cls, kc.nr, rfl, _, rfl, t, c, prs, i, j, rfl, hk.T, hk.ok, hc, hi, hj, q⟩
end
section
variable {P : Program} {w : World} {K : PySem.W.Frag} {mg : Str → Option Value} {base : Heap}
end
def prs0 (rows : List (List Int)) : Prs := rows.map fun r => ((0 : Addr), r)
theorem prs0_rows (rows : List (List Int)) : (prs0 rows).map (·.2) = rows := by
  unfold prs0
  rw [List.map_map]
  exact List.map_id _
theorem iteDf {c A B : Prop} [Decidable c] (hc : ¬ c) (h : B) : if decide c = true then A else B := by
  rw [decide_eq_false hc]
  exact iteF h
theorem iteDt {c A B : Prop} [Decidable c] (hc : c) (h : A) : if decide c = true then A else B := by
  rw [decide_eq_true hc]
  exact iteT h
section
variable {P : Program} {w : World} {K : PySem.W.Frag} {mg : Str → Option Value} {base : Heap} {C : Addr}
theorem sc_kUndo : FnScope ["self", "last", "before"] ["self"] (defScope (methOf dKeeper 2)) := ⟨rfl, rfl, rfl, by decide +kernel, rfl, by decide +kernel, by decide +kernel⟩
def spKUndo (C : Addr) : Sp := fun vs H Q _ => ∃ (a dx t l u c : Addr) (prs : Prs) (cs : Ch) (i j : Nat) (x : Int), vs = [.ref a] ∧ Keep H C a dx t l prs (cs ++ [(u, c, i, j, x)]) ∧ cs.length < 1000 ∧ rowsOk (setR (prs.map (·.2)) i j x) = true ∧
  ∀ t' prs' r H', H t' = none → (∀ p ∈ prs', H p.1 = none ∧ p.1 ≠ t') → (prs'.map (·.1)).Nodup → H r = none → (∀ b o, b ≠ a → b ≠ l → H b = some o → H' b = some o) → prs'.map (·.2) = setR (prs.map (·.2)) i j x → H' r = some (.tup [.int ((rowAt prs i).getD j 0), .int x]) → r ≠ a → r ≠ l →
    Keep H' C a dx t' l prs' cs → Q (.ref r) H'
set_option maxHeartbeats 16000000 in
theorem ok_kUndo (T : Blt mg) (kc : KpC K C) (D : MethDef K C "undo" "Keeper.undo" (methOf dKeeper 2) ["self"]) (G1 : FnAt P w K mg base 2 "table_with" ["table", "cell", "x"] spWith) (G2 : FnAt P w K mg base 7 "number_at" ["table", "cell"] spNumberAt) : MtAt P w K mg base 8 C "undo" ["self"] (spKUndo C) := by
  refine MtAt.of D sc_kUndo (fun vs H Q E h => ?_) (fun f cdv A outer s H vs Q E hr h => ?_)
  · obtain ⟨a, dx, t, l, u, c, prs, cs, i, j, x, rfl, _⟩ := h
    rfl
  · obtain ⟨a, dx, t, l, u, c, prs, cs, i, j, x, rfl, hk, hcl, ok, q⟩ := h
    have nd := sc_kUndo.nd
    obtain ⟨hu, hc, hi, hj⟩ := hk.ch (u, c, i, j, x) (List.mem_append_right _ (.head _))
    have hi : i < prs.length := hi
    have hj : j < w0 prs := hj
    have hu : H u = some (.tup [.ref c, .int x]) := hu
    have hc : Cell H c i j := hc
    obtain ⟨g, g1, g2, g3, g4⟩ := good_of hk.ok
    have hli : (rowAt prs i).length = w0 prs := by
      obtain ⟨p, hp, _, e⟩ := rowAt_mem hi
      rw [e]
      exact g.len p hp
    refine ⟨_, pss_cons (ps_if (pt_cmpR op_eq (pe_b call_len_seq T.len boot_len (pa_cons (pe_fld (pv 0) rfl) pa_nil)) pe_int (nomark _)) pss_never pss_nil)
      (pss_cons (ps_set (i := 1) nd rfl (Or.inl rfl) (pe_bm0 PySem.F.plainAttrs_list PySem.F.slot_list_pop PySem.F.type_list_pop mt_pop (pe_fld (pv 0) rfl)))
      (pss_cons (ps_set (i := 2) nd rfl (Or.inl rfl) (pe_f G2 hr (pa_cons (pe_fld (pv 0) rfl) (pa_cons (pe_ix ix_tup (pv 1) pe_int (fun _ _ => rfl)) pa_nil))))
      (pss_cons (ps_fld (pv 0) (pe_f G1 (hr.mono (by decide)) (pa_cons (pe_fld (pv 0) rfl) (pa_cons (pe_ix ix_tup (pv 1) pe_int (fun _ _ => rfl)) (pa_cons (pe_ix ix_tup (pv 1) pe_int (fun _ _ => rfl)) pa_nil)))) rfl)
      (pss_one (ps_ret (pe_tup (pa_cons (pv 2) (pa_cons (pe_ix ix_tup (pv 1) pe_int (fun _ _ => rfl)) pa_nil)))))))), ?_⟩
    refine ⟨_, rfl, a, C, dx, _, _, rfl, hk.ob, kc.cls, kc.nc, rfl, l, _, rfl, .inl (SqL.of hk.L), rfl, _, rfl, ?_⟩
    have hz : ¬ (V.int (((cs ++ [(u, c, i, j, x)]).map fun c => V.ref c.1).length : Nat) = V.int 0) := by
      intro z
      injection z with z
      simp at z
      omega
    refine iteDf hz ?_
    refine ⟨_, rfl, a, C, dx, _, _, rfl, hk.ob, kc.cls, kc.nc, rfl, .inl ⟨rfl, _, SqL.of hk.L⟩, l, _, .ref u, rfl, rfl, hk.L, by simp, ?_⟩
    have hmu : V.ref u ∈ (cs ++ [(u, c, i, j, x)]).map fun c => V.ref c.1 := List.mem_map.mpr ⟨_, List.mem_append_right _ (.head _), rfl⟩
    have nla : a ≠ l := fun z => by
      have h1 := hk.L
      rw [← z, hk.ob] at h1
      cases h1
    have nul : u ≠ l := fun z => by
      have h1 := hk.L
      rw [← z, hu] at h1
      cases h1
    have ntl : t ≠ l := fun z => by
      have h1 := hk.T.l
      rw [z, hk.L] at h1
      injection h1 with h1
      injection h1 with h1
      rw [h1] at hmu
      obtain ⟨p, hp, e⟩ := List.mem_map.mp hmu
      injection e with e
      have h2 : H p.1 = _ := hk.T.r p hp
      rw [e, hu] at h2
      cases h2
    have npl : ∀ p ∈ prs, p.1 ≠ l := fun p hp z => by
      have h1 : H p.1 = _ := hk.T.r p hp
      rw [z, hk.L] at h1
      injection h1 with h1
      injection h1 with h1
      rw [h1] at hmu
      obtain ⟨n, _, e⟩ := List.mem_map.mp hmu
      cases e
    have ncl : ∀ {y : Addr} {i' j' : Nat}, Cell H y i' j' → y ≠ l := fun {y i' j'} h z => by
      have h1 : H y = _ := h
      rw [z, hk.L] at h1
      cases h1
    have nca : ∀ {y : Addr} {i' j' : Nat}, Cell H y i' j' → y ≠ a := fun {y i' j'} h z => by
      have h1 : H y = _ := h
      rw [z, hk.ob] at h1
      cases h1
    have eL : (upd H l (.lst ((cs ++ [(u, c, i, j, x)]).map fun c => V.ref c.1).dropLast)) l = some (.lst (cs.map fun c => V.ref c.1)) := by
      rw [upd_same, List.map_append]
      simp
    have k1 : ∀ b o, b ≠ l → H b = some o → (upd H l (.lst ((cs ++ [(u, c, i, j, x)]).map fun c => V.ref c.1).dropLast)) b = some o := fun b o n e => by rw [upd_ne n]; exact e
    generalize upd H l (.lst ((cs ++ [(u, c, i, j, x)]).map fun c => V.ref c.1).dropLast) = H1 at eL k1 ⊢
    have hT1 : Tab H1 t prs := ⟨k1 _ _ ntl hk.T.l, fun p hp => k1 _ _ (npl p hp) (hk.T.r p hp)⟩
    have ob1 := k1 _ _ nla hk.ob
    have hu1 := k1 _ _ nul hu
    have hc1 : Cell H1 c i j := k1 _ _ (ncl hc) hc
    refine ⟨_, rfl, a, C, dx, _, _, rfl, ob1, kc.cls, kc.nr, rfl, _, rfl, u, _, 0, .ref c, rfl, rfl, SqT.of hu1, rfl, t, c, prs, i, j, rfl, hT1, hk.ok, hc1, hi, hj, fun H2 s2 => ?_⟩
    refine ⟨_, rfl, a, C, dx, _, _, rfl, s2 _ _ ob1, kc.cls, kc.nr, rfl, _, rfl, u, _, 0, .ref c, rfl, rfl, SqT.of (s2 _ _ hu1), rfl, _, rfl, u, _, 1, .int x, rfl, rfl, SqT.of (s2 _ _ hu1), rfl, t, c, prs, i, j, x, rfl, hT1.same s2, good_bounds hk.ok, s2 _ _ hc1, hi, by omega, fun t' prs' H3 ht' hq hnd s3 hT3 hrows => ?_⟩
    have s13 := s2.trans s3
    refine ⟨_, rfl, a, C, dx, _, rfl, s13 _ _ ob1, kc.cls, kc.nr, (by show 2 < 1000; decide), ?_⟩
    have k4 : ∀ b o, b ≠ a → H3 b = some o → (upd H3 a (.ins C dx (putF "rows" (.ref t') [("rows", .ref t), ("changes", .ref l)]))) b = some o := fun b o n e => by rw [upd_ne n]; exact e
    have e4 : (upd H3 a (.ins C dx (putF "rows" (.ref t') [("rows", .ref t), ("changes", .ref l)]))) a = some (.ins C dx [("rows", .ref t'), ("changes", .ref l)]) := upd_same
    generalize upd H3 a (.ins C dx (putF "rows" (.ref t') [("rows", .ref t), ("changes", .ref l)])) = H4 at k4 e4 ⊢
    have nua : u ≠ a := fun z => by
      rw [z, hk.ob] at hu
      cases hu
    have hu4 := k4 _ _ nua (s13 _ _ hu1)
    have up : ∀ b o, b ≠ a → b ≠ l → H b = some o → H4 b = some o := fun b o n1 n2 e => k4 b o n1 (s13 _ _ (k1 b o n2 e))
    have fr : ∀ {y : Addr}, H1 y = none → H y = none ∧ y ≠ a ∧ y ≠ l := fun {y} hy => by
      have n1 : y ≠ l := fun z => by rw [z, eL] at hy; cases hy
      refine ⟨?_, (fun z => by rw [z, ob1] at hy; cases hy), n1⟩
      cases e : H y with
      | none => rfl
      | some o =>
        rw [k1 y o n1 e] at hy
        cases hy
    refine ⟨_, rfl, _, rfl, u, _, 1, .int x, rfl, rfl, SqT.of hu4, rfl, len2, fun r hr' => ?_⟩
    have nra : r ≠ a := fun z => by rw [z, e4] at hr'; cases hr'
    have L4 := k4 _ _ nla.symm (s13 _ _ eL)
    have nrl : r ≠ l := fun z => by rw [z, L4] at hr'; cases hr'
    have hr0 : H r = none := by
      cases e : H r with
      | none => rfl
      | some o =>
        rw [up r o nra nrl e] at hr'
        cases hr'
    have s5 := Same.new (o := .tup [.int ((rowAt prs i).getD j 0), .int x]) hr'
    obtain ⟨wl, ww⟩ := w0_set hrows
    have ft := fr (s2.free ht')
    refine q t' prs' r _ ft.1 (fun p hp => ⟨(fr (s2.free (hq p hp).1)).1, (hq p hp).2⟩) hnd hr0 (fun b o n1 n2 e => s5 _ _ (up b o n1 n2 e)) hrows upd_same nra nrl ⟨s5 _ _ e4, ⟨s5 _ _ (k4 _ _ ft.2.1 hT3.l), fun p hp => s5 _ _ (k4 _ _ (fr (s2.free (hq p hp).1)).2.1 (hT3.r p hp))⟩, ?_, s5 _ _ L4, fun y hy => ?_⟩
    · rw [rowsOk_of hrows]
      exact ok
    · obtain ⟨z1, z2, z3, z4⟩ := hk.ch y (List.mem_append_left _ hy)
      refine ⟨s5 _ _ (up _ _ (fun e => ?_) (fun e => ?_) z1), s5 _ _ (up _ _ (nca z2) (ncl z2) z2), by omega, by omega⟩
      · have h1 := hk.ob
        rw [← e, z1] at h1
        cases h1
      · have h1 := hk.L
        rw [← e, z1] at h1
        cases h1
end
end Seek
namespace L2
open PySem PySem.Spec PyProof.Rows
def tNew (C : Addr) (sp : Sp) (t : TA) : TE := fun σ H Q => t σ H fun vs H1 => ∀ x dx, H1 x = none → H1 dx = none → dx ≠ x → sp (.ref x :: vs) (upd (upd H1 dx (.own x)) x (.ins C dx [])) (fun v H2 => v = .non ∧ Q (.ref x) H2) E0
theorem pe_new {X : Cx} {k : Nat} {C : Addr} {ps : List Str} {sp : Sp} {e : Expr} {es : List Expr} {x : Str} {p pos : Pos} {t : TA} (F : MtAt X.prog X.w X.K X.mg X.base k C "__init__" ps sp) (hmk : PySem.W.makesIn X.K C = true) (hkp : PySem.W.keepIn X.K (.ref C) = true) (hr : Room (k + 1) X.A) (hg : Gl X x) (hm : X.mg x = some (.ref C))
    (ha : PA X (e :: es) t) (hdb : (x == ("__debug__" : Str)) = false := by decide) (he : starEach (e :: es) X.env = (false, eval e X.env) :: starEach es X.env := by rfl) (hpl : (backTo pos (starEach es X.env)).any (·.1) = false := by rfl) :
    PE X (.Call (.Name x p) (e :: es) [] pos) (tNew C sp t) := by
  obtain ⟨f, fd, F, hmt, hb⟩ := F
  have q := pe_make (p := p) (pos := pos) ⟨hmk, hmt.at_, hmt.fn, hkp⟩ F hr hg hm hb .nil (pass0 (X := X)) ha hdb he hpl
  intro pins s σ H Q I h
  refine q pins s σ H Q I ?_
  unfold tMake
  simp only [List.append_nil]
  exact h
theorem methDef_mk {K : PySem.W.Frag} {C f : Addr} {m qual : Str} {st : Stmt} {ps : List Str} {od an : Option Addr} {sl : Array (Option Value)} {oc kV dc pm cd ct : Value}
    (a : PySem.W.findIn K (.ref C) m = some (some (.ref f))) (i : PySem.W.isFn K (.ref f) = true) (l : K.lookup f = some ⟨oc, od, .func (PySem.W.fnOf m qual (defArgs st) (defBody st) (defScope st) .none kV dc pm an cd ct), sl⟩) (c : PySem.W.codeIn K cd qual = true) (k : PySem.W.keepIn K (.ref f) = true)
    (b : ∀ (kV doc pm : Value) (an : Option Addr) (cdv ct : Value) (us : List Value), us.length = ps.length → bindArgs (PySem.W.fnOf m qual (defArgs st) (defBody st) (defScope st) .none kV doc pm an cdv ct) ⟨us, []⟩ = pure (ps.zip us)) : MethDef K C m qual st ps := by
  have F := fun_mk (st := st) l c k
  exact ⟨f, _, F, ⟨a, i, k⟩, F.binds b⟩
end L2
namespace Seek
open PySem L2 PyProof.Rows
structure KpM (K : PySem.W.Frag) (mg : Str → Option Value) (C : Addr) : Prop where
  c : KpC K C
  gl : mg "Keeper" = some (.ref C)
  mks : PySem.W.makesIn K C = true
  kp : PySem.W.keepIn K (.ref C) = true
theorem kpm_mk {K : PySem.W.Frag} {h : Heap} {mg : Str → Option Value} {C : Addr} (X : K.In h) (G : h.Ns mainGlobals mg) (aC : PySem.W.nsIn K mainGlobals "Keeper" = some (some (.ref C)))
    (pg : PySem.W.plainGet K C Str.empty = true) (hd : PySem.W.hasDictIn K C = true) (po : PySem.W.plainOver K C = true) (sa : PySem.W.findIn K (.ref C) "__setattr__" = some (some (.builtin "object.__setattr__"))) (mk : PySem.W.makesIn K C = true) (kc : PySem.W.keepIn K (.ref C) = true)
    (nr : PySem.W.findIn K (.ref C) "rows" = some none) (nc : PySem.W.findIn K (.ref C) "changes" = some none) : KpM K mg C := ⟨⟨⟨pg, hd, po, sa⟩, nr, nc⟩, PySem.W.mg_of X G aC, mk, kc⟩
structure Rok (rows : List (List Int)) : Prop where
  n1 : 1 ≤ rows.length
  n6 : rows.length ≤ 6
  w1 : 1 ≤ wR rows
  w6 : wR rows ≤ 6
  len : ∀ i, i < rows.length → (rows.getD i []).length = wR rows
  row : ∀ i j, i < rows.length → j + 1 < wR rows → cellR rows i j ≤ cellR rows i (j + 1)
  down : ∀ i j, i + 1 < rows.length → j < wR rows → cellR rows i j ≤ cellR rows (i + 1) j
theorem prs_at (rows : List (List Int)) (i : Nat) : rowAt (prs0 rows) i = rows.getD i [] := by rw [rowAt_rows, prs0_rows]
theorem w0_prs0 (rows : List (List Int)) : w0 (prs0 rows) = wR rows := by rw [← wR_w0, prs0_rows]
theorem rok_of {rows : List (List Int)} (h : rowsOk rows = true) : Rok rows := by
  obtain ⟨g, g1, g2, g3, g4⟩ := good_of (prs := prs0 rows) h
  have hl : (prs0 rows).length = rows.length := List.length_map ..
  rw [w0_prs0] at g g3 g4
  rw [hl] at g1 g2
  have hlen : ∀ i, i < rows.length → (rows.getD i []).length = wR rows := fun i hi => by
    obtain ⟨p, hp, _, e⟩ := rowAt_mem (prs := prs0 rows) (i := i) (by omega)
    rw [← prs_at, e]
    exact g.len p hp
  refine ⟨g1, g2, g3, g4, hlen, fun i j hi hj => ?_, fun i j hi hj => ?_⟩
  · obtain ⟨p, hp, _, e⟩ := rowAt_mem (prs := prs0 rows) (i := i) (by omega)
    have := g.row p hp j (by rw [g.len p hp]; omega)
    unfold cellR
    rw [← prs_at, e]
    exact this
  · have := g.down i (by omega) j hj
    unfold cellR
    rw [← prs_at, ← prs_at]
    exact this
theorem rok_ok {rows : List (List Int)} (h : Rok rows) : rowsOk rows = true := by
  have hl : (prs0 rows).length = rows.length := List.length_map ..
  have hm : ∀ p ∈ prs0 rows, ∃ i, i < rows.length ∧ p.2 = rows.getD i [] := fun p hp => by
    obtain ⟨r, hr, rfl⟩ := List.mem_map.mp hp
    obtain ⟨i, hi, e⟩ := List.getElem_of_mem hr
    exact ⟨i, hi, by rw [List.getD_eq_getElem?_getD, List.getElem?_eq_getElem hi, e]; rfl⟩
  refine tabB_of (wide := wR rows) (prs := prs0 rows) ⟨fun p hp => ?_, fun p hp j hj => ?_, fun i hi j hj => ?_⟩ (by rw [hl]; exact h.n1) (by rw [hl]; exact h.n6) h.w1 h.w6
  · obtain ⟨i, hi, e⟩ := hm p hp
    rw [e]
    exact h.len i hi
  · obtain ⟨i, hi, e⟩ := hm p hp
    rw [e] at hj ⊢
    rw [h.len i hi] at hj
    exact h.row i j hi (by omega)
  · rw [prs_at, prs_at]
    exact h.down i j (by omega) hj
theorem setR_len (rows : List (List Int)) (i j : Nat) (x : Int) : (setR rows i j x).length = rows.length := by
  unfold setR
  rw [List.length_set]
theorem setR_row {rows : List (List Int)} {i : Nat} (j : Nat) (x : Int) (hi : i < rows.length) (k : Nat) : (setR rows i j x).getD k [] = if k = i then (rows.getD i []).set j x else rows.getD k [] := by
  unfold setR
  rw [List.getD_eq_getElem?_getD, List.getElem?_set]
  by_cases h : k = i
  · rw [if_pos h, if_pos h.symm, if_pos hi]
    rfl
  · rw [if_neg h, if_neg (Ne.symm h), List.getD_eq_getElem?_getD]
theorem setR_rlen {rows : List (List Int)} {i : Nat} (j : Nat) (x : Int) (hi : i < rows.length) (k : Nat) : ((setR rows i j x).getD k []).length = (rows.getD k []).length := by
  rw [setR_row j x hi]
  split
  · next h => rw [List.length_set, h]
  · rfl
theorem setR_wR {rows : List (List Int)} {i : Nat} (j : Nat) (x : Int) (hi : i < rows.length) : wR (setR rows i j x) = wR rows := setR_rlen j x hi 0
theorem cellR_set {rows : List (List Int)} {i j : Nat} (x : Int) (hi : i < rows.length) (hj : j < (rows.getD i []).length) (k m : Nat) : cellR (setR rows i j x) k m = if k = i ∧ m = j then x else cellR rows k m := by
  unfold cellR
  rw [setR_row j x hi]
  by_cases h : k = i
  · rw [if_pos h, List.getD_eq_getElem?_getD, List.getElem?_set]
    by_cases h2 : m = j
    · rw [if_pos h2.symm, if_pos hj, if_pos ⟨h, h2⟩]
      rfl
    · rw [if_neg (Ne.symm h2), if_neg (fun z => h2 z.2), h, ← List.getD_eq_getElem?_getD]
  · rw [if_neg h, if_neg (fun z => h z.1)]
theorem fits {rows : List (List Int)} {i j : Nat} {x : Int} (h : Rok rows) (hi : i < rows.length) (hj : j < wR rows) (lo : ∀ a ∈ aheadL rows i j, a ≤ x) (hi' : ∀ b ∈ behindL rows i j, x ≤ b) : Rok (setR rows i j x) := by
  have hjl : j < (rows.getD i []).length := by rw [h.len i hi]; exact hj
  have ew := setR_wR j x hi
  have el := setR_len rows i j x
  refine ⟨by rw [el]; exact h.n1, by rw [el]; exact h.n6, by rw [ew]; exact h.w1, by rw [ew]; exact h.w6, fun k hk => ?_, fun k m hk hm => ?_, fun k m hk hm => ?_⟩
  · rw [setR_rlen j x hi, ew]
    exact h.len k (by omega)
  · rw [cellR_set x hi hjl, cellR_set x hi hjl]
    rw [el] at hk
    rw [ew] at hm
    split
    · next z =>
      rw [if_neg (fun y => by omega)]
      obtain ⟨rfl, rfl⟩ := z
      refine hi' _ ?_
      unfold behindL
      rw [if_pos (show m + 1 < wR rows from hm)]
      exact List.mem_append_right _ (.head _)
    · split
      · next z =>
        obtain ⟨rfl, rfl⟩ := z
        refine lo _ ?_
        unfold aheadL
        rw [if_pos (show 0 < m + 1 from Nat.succ_pos _)]
        exact List.mem_append_right _ (.head _)
      · exact h.row k m hk hm
  · rw [cellR_set x hi hjl, cellR_set x hi hjl]
    rw [el] at hk
    rw [ew] at hm
    split
    · next z =>
      rw [if_neg (fun y => by omega)]
      obtain ⟨rfl, rfl⟩ := z
      refine hi' _ ?_
      unfold behindL
      rw [if_pos (show k + 1 < rows.length from hk)]
      exact List.mem_append_left _ (.head _)
    · split
      · next z =>
        obtain ⟨rfl, rfl⟩ := z
        refine lo _ ?_
        unfold aheadL
        rw [if_pos (show 0 < k + 1 from Nat.succ_pos _)]
        exact List.mem_append_left _ (.head _)
      · exact h.down k m hk hm
theorem set_back (r : List Int) (j : Nat) (x : Int) : (r.set j x).set j (r.getD j 0) = r := by
  rw [List.set_set]
  refine List.ext_getElem? fun k => ?_
  rw [List.getElem?_set]
  split
  · next h =>
    subst h
    split
    · next h2 => rw [List.getD_eq_getElem?_getD, List.getElem?_eq_getElem h2]; rfl
    · next h2 => rw [List.getElem?_eq_none (by omega)]
  · rfl
theorem setR_back {rows : List (List Int)} {i : Nat} (j : Nat) (x : Int) (hi : i < rows.length) : setR (setR rows i j x) i j (cellR rows i j) = rows := by
  show (setR rows i j x).set i (((setR rows i j x).getD i []).set j (cellR rows i j)) = rows
  rw [setR_row j x hi, if_pos rfl]
  unfold setR
  rw [List.set_set]
  have : ((rows.getD i []).set j x).set j (cellR rows i j) = rows.getD i [] := set_back _ j x
  rw [this]
  refine List.ext_getElem? fun k => ?_
  rw [List.getElem?_set]
  split
  · next h =>
    subst h
    simp [hi]
  · rfl
theorem setR_same {rows : List (List Int)} {i : Nat} (j : Nat) (hi : i < rows.length) : setR rows i j (cellR rows i j) = rows := by
  have := setR_back j (cellR rows i j) hi
  have e : setR (setR rows i j (cellR rows i j)) i j (cellR rows i j) = setR rows i j (cellR rows i j) := by
    show (setR rows i j (cellR rows i j)).set i (((setR rows i j (cellR rows i j)).getD i []).set j (cellR rows i j)) = _
    rw [setR_row j _ hi, if_pos rfl, List.set_set]
    unfold setR
    rw [List.set_set]
  rw [← e]
  exact this
theorem ahead_le {rows : List (List Int)} {i j : Nat} (h : Rok rows) (hi : i < rows.length) (hj : j < wR rows) {a : Int} (ha : a ∈ aheadL rows i j) : a ≤ cellR rows i j := by
  unfold aheadL at ha
  rcases List.mem_append.mp ha with z | z
  · split at z
    · next h0 =>
      have : a = cellR rows (i - 1) j := by simpa using z
      rw [this]
      have := h.down (i - 1) j (by omega) hj
      rw [show i - 1 + 1 = i by omega] at this
      exact this
    · cases z
  · split at z
    · next h0 =>
      have : a = cellR rows i (j - 1) := by simpa using z
      rw [this]
      have := h.row i (j - 1) hi (by omega)
      rw [show j - 1 + 1 = j by omega] at this
      exact this
    · cases z
theorem behind_ge {rows : List (List Int)} {i j : Nat} (h : Rok rows) (hi : i < rows.length) (hj : j < wR rows) {b : Int} (hb : b ∈ behindL rows i j) : cellR rows i j ≤ b := by
  unfold behindL at hb
  rcases List.mem_append.mp hb with z | z
  · split at z
    · next h0 =>
      have : b = cellR rows (i + 1) j := by simpa using z
      rw [this]
      exact h.down i j h0 hj
    · cases z
  · split at z
    · next h0 =>
      have : b = cellR rows i (j + 1) := by simpa using z
      rw [this]
      exact h.row i j hi h0
    · cases z
def Betw (lo hi : Option Int) (x : Int) : Prop := (∀ m, lo = some m → m ≤ x) ∧ ∀ m, hi = some m → x ≤ m
theorem betw_fits {rows : List (List Int)} {i j : Nat} {x : Int} (h : Rok rows) (hi : i < rows.length) (hj : j < wR rows) (b : Betw (aheadL rows i j).max? (behindL rows i j).min? x) : Rok (setR rows i j x) := by
  refine fits h hi hj (fun a ha => ?_) fun c hc => ?_
  · cases e : (aheadL rows i j).max? with
    | none => rw [List.max?_eq_none_iff] at e; rw [e] at ha; cases ha
    | some m => exact Int.le_trans ((List.max?_eq_some_iff.mp e).2 a ha) (b.1 m e)
  · cases e : (behindL rows i j).min? with
    | none => rw [List.min?_eq_none_iff] at e; rw [e] at hc; cases hc
    | some m => exact Int.le_trans (b.2 m e) ((List.min?_eq_some_iff.mp e).2 c hc)
theorem ends_le {rows : List (List Int)} {i j : Nat} {m n : Int} (h : Rok rows) (hi : i < rows.length) (hj : j < wR rows) (e1 : (aheadL rows i j).max? = some m) (e2 : (behindL rows i j).min? = some n) : m ≤ n :=
  Int.le_trans (ahead_le h hi hj (List.max?_eq_some_iff.mp e1).1) (behind_ge h hi hj (List.min?_eq_some_iff.mp e2).1)
theorem rev_max {ms ns : List Int} (h : ms.Perm ns) (s : ms.Pairwise (· ≤ ·)) : atI ((ms.map V.int).reverse ++ [.non]) 0 = some (oV ns.max?) := by
  cases hr : ms.reverse with
  | nil =>
    have e : ms = [] := List.reverse_eq_nil_iff.mp hr
    subst e
    rw [List.nil_perm.mp h]
    rfl
  | cons m r =>
    have e : ms = r.reverse ++ [m] := by
      have := congrArg List.reverse hr
      rw [List.reverse_reverse, List.reverse_cons] at this
      exact this
    have hm : ns.max? = some m := by
      refine max_is (h.mem_iff.mp (by rw [e]; simp)) fun a ha => ?_
      have ha := h.mem_iff.mpr ha
      rw [e] at ha s
      rcases List.mem_append.mp ha with z | z
      · exact (List.pairwise_append.mp s).2.2 a z m (.head _)
      · rw [List.mem_singleton.mp z]
        exact Int.le_refl _
    rw [← List.map_reverse, hr, hm]
    exact atI_nat (j := 0) rfl
theorem fst_min {ms ns : List Int} (h : ms.Perm ns) (s : ms.Pairwise (· ≤ ·)) : atI (ms.map V.int ++ [.non]) 0 = some (oV ns.min?) := by
  cases ms with
  | nil =>
    rw [List.nil_perm.mp h]
    rfl
  | cons m r =>
    have hm : ns.min? = some m := by
      refine min_is (h.mem_iff.mp (.head _)) fun a ha => ?_
      rcases List.mem_cons.mp (h.mem_iff.mpr ha) with z | z
      · rw [z]
        exact Int.le_refl _
      · exact (List.pairwise_cons.mp s).1 a z
    rw [hm]
    exact atI_nat (j := 0) rfl
theorem max_swap (xs ys : List Int) : (xs ++ ys).max? = (ys ++ xs).max? := by
  cases e : (xs ++ ys).max? with
  | none =>
    rw [List.max?_eq_none_iff] at e
    obtain ⟨rfl, rfl⟩ := List.append_eq_nil_iff.mp e
    rfl
  | some m =>
    obtain ⟨h1, h2⟩ := List.max?_eq_some_iff.mp e
    exact (max_is (by rw [List.mem_append] at h1 ⊢; exact h1.symm) fun a ha => h2 a (by rw [List.mem_append] at ha ⊢; exact ha.symm)).symm
theorem min_swap (xs ys : List Int) : (xs ++ ys).min? = (ys ++ xs).min? := by
  cases e : (xs ++ ys).min? with
  | none =>
    rw [List.min?_eq_none_iff] at e
    obtain ⟨rfl, rfl⟩ := List.append_eq_nil_iff.mp e
    rfl
  | some m =>
    obtain ⟨h1, h2⟩ := List.min?_eq_some_iff.mp e
    exact (min_is (by rw [List.mem_append] at h1 ⊢; exact h1.symm) fun a ha => h2 a (by rw [List.mem_append] at ha ⊢; exact ha.symm)).symm
theorem if_both {c : Bool} {t : TS} {D : Ends} {σ0 : L2.St} {H0 : Hp} (C : (L2.St → Hp → Prop) → Prop) (h : C D.nx) (hA : C D.nx → c = true → t D σ0 H0) (hB : C D.nx → ¬ c = true → D.nx σ0 H0) : if c = true then t D σ0 H0 else tNext D σ0 H0 := by
  by_cases hc : c = true
  · rw [if_pos hc]
    exact hA h hc
  · rw [if_neg hc]
    exact hB h hc
section
variable {P : Program} {w : World} {K : PySem.W.Frag} {mg : Str → Option Value} {base : Heap} {C : Addr}
theorem sc_copyN : FnScope ["table"] ["table"] (defScope dCopy) := ⟨rfl, rfl, rfl, by decide +kernel, rfl, by decide +kernel, by decide +kernel⟩
theorem ok_copyN (T : Blt mg) (D : DefAt K mg "_law_copy" dCopy ["table"]) : FnAt P w K mg base 1 "_law_copy" ["table"] spCopyN := by
  refine FnAt.of D sc_copyN (fun vs H Q E h => ?_) (fun f cdv A outer s H vs Q E hr h => ?_)
  · obtain ⟨t, prs, rfl, _⟩ := h
    rfl
  · obtain ⟨t, prs, rfl, hT, hs, q⟩ := h
    have nd1 : (["row"] : List Str).Nodup := by decide +kernel
    refine ⟨_, pss_one (ps_ret (pe_comp ["row"] [none] (defScope dCopy) ["table"] rfl (pi_list (pv 0)) (by decide +kernel)
      (fun cl C s2 H2 ex => pg_c 0 nd1) (fun cl C s2 H2 ex => pifs_nil) (fun cl C s2 H2 ex => pe_t (listK K) T.list boot_list (pa_cons (pv 0) pa_nil)))), ?_⟩
    refine ⟨_, rfl, t, rfl, ⟨_, hT.sq⟩, comp_objsL (fun p : Addr × List Int => V.ref p.1) (fun p => .lst (p.2.map V.int)) hT.sq hs.1 (fun p hp H' Q' sm q' => ⟨_, rfl, p.1, _, rfl, .inl ((hT.same sm).r p hp).sq, fun l hl => q' l _ hl (Same.new hl) upd_same⟩) fun M qs H2 hM hqm hnd hq s2 eM => ?_⟩
    refine q M (qs.map fun x => (x.1, x.2.2)) H2 hM (fun p hp => ?_) ?_ s2 ⟨?_, fun p hp => ?_⟩ ?_
    · obtain ⟨x, hx, rfl⟩ := List.mem_map.mp hp
      exact (hq x hx).2
    · rw [List.map_map]
      exact hnd
    · rw [eM, List.map_map]
      rfl
    · obtain ⟨x, hx, rfl⟩ := List.mem_map.mp hp
      exact (hq x hx).1
    · rw [List.map_map, ← hqm, List.map_map]
      rfl
theorem sc_lSpan : FnScope ["table", "cell", "row", "place", "low", "high"] ["table", "cell"] (defScope dLSpan) := ⟨rfl, rfl, rfl, by decide +kernel, rfl, by decide +kernel, by decide +kernel⟩
set_option maxHeartbeats 16000000 in
theorem ok_lSpan (T : Blt mg) (hso : mg "sorted" = none) (D : DefAt K mg "_law_span" dLSpan ["table", "cell"]) : FnAt P w K mg base 1 "_law_span" ["table", "cell"] spSpan := by
  refine FnAt.of D sc_lSpan (fun vs H Q E h => ?_) (fun f cdv A outer s H vs Q E hr h => ?_)
  · obtain ⟨t, c, prs, i, j, rfl, _⟩ := h
    rfl
  · obtain ⟨t, c, prs, i, j, rfl, hT, hg, hC, hi, hj, q⟩ := h
    have nd := sc_lSpan.nd
    obtain ⟨g, g1, g2, g3, g4⟩ := good_of hg
    have hrow : ∀ k, k < prs.length → ∃ p ∈ prs, prs[k]? = some p ∧ rowAt prs k = p.2 ∧ p.2.length = w0 prs := fun k hk => by
      obtain ⟨p, hp, h2, e⟩ := rowAt_mem hk
      exact ⟨p, hp, h2, e, g.len p hp⟩
    refine ⟨_, pss_cons (ps_asg (pv 1) (pg_tup rfl (pgs_cons (pg_name (i := 2) nd rfl (Or.inl rfl)) (pgs_cons (pg_name (i := 3) nd rfl (Or.inl rfl)) pgs_nil))))
      (pss_cons (ps_set (i := 4) nd rfl (Or.inl rfl) (pe_lst pa_nil))
      (pss_cons (ps_set (i := 5) nd rfl (Or.inl rfl) (pe_lst pa_nil))
      (pss_cons (ps_if (pt_cmpR o_gt (pv 3) pe_int (nomark _)) (pss_one (ps_expr (pe_bm PySem.F.plainAttrs_list PySem.F.slot_list_append PySem.F.type_list_append mt_append (pv 4) (pa_cons (pe_ix ix_list (pe_ix ix_list (pv 0) (pv 2) (fun _ _ => rfl)) (pe_op o_sub (pv 3) pe_int) (fun _ _ => rfl)) pa_nil)))) pss_nil)
      (pss_cons (ps_if (pt_cmpR o_gt (pv 2) pe_int (nomark _)) (pss_one (ps_expr (pe_bm PySem.F.plainAttrs_list PySem.F.slot_list_append PySem.F.type_list_append mt_append (pv 4) (pa_cons (pe_ix ix_list (pe_ix ix_list (pv 0) (pe_op o_sub (pv 2) pe_int) (fun _ _ => rfl)) (pv 3) (fun _ _ => rfl)) pa_nil)))) pss_nil)
      (pss_cons (ps_if (pt_cmpR o_lt (pe_op o_add (pv 3) pe_int) (pe_b call_len_seq T.len boot_len (pa_cons (pe_ix ix_list (pv 0) pe_int (fun _ _ => rfl)) pa_nil)) (nomark _)) (pss_one (ps_expr (pe_bm PySem.F.plainAttrs_list PySem.F.slot_list_append PySem.F.type_list_append mt_append (pv 5) (pa_cons (pe_ix ix_list (pe_ix ix_list (pv 0) (pv 2) (fun _ _ => rfl)) (pe_op o_add (pv 3) pe_int) (fun _ _ => rfl)) pa_nil)))) pss_nil)
      (pss_cons (ps_if (pt_cmpR o_lt (pe_op o_add (pv 2) pe_int) (pe_b call_len_seq T.len boot_len (pa_cons (pv 0) pa_nil)) (nomark _)) (pss_one (ps_expr (pe_bm PySem.F.plainAttrs_list PySem.F.slot_list_append PySem.F.type_list_append mt_append (pv 5) (pa_cons (pe_ix ix_list (pe_ix ix_list (pv 0) (pe_op o_add (pv 2) pe_int) (fun _ _ => rfl)) (pv 3) (fun _ _ => rfl)) pa_nil)))) pss_nil)
      (pss_one (ps_ret (pe_tup (pa_cons (pe_ix ix_list (pe_op op_cat (pe_rev (pe_b call_sortedI hso boot_sorted (pa_cons (pv 4) pa_nil)) (po_some (pe_un o_neg pe_int))) (pe_lst (pa_cons pe_non pa_nil))) pe_int (fun _ _ => rfl)) (pa_cons (pe_ix ix_list (pe_op op_cat (pe_b call_sortedI hso boot_sorted (pa_cons (pv 5) pa_nil)) (pe_lst (pa_cons pe_non pa_nil))) pe_int (fun _ _ => rfl)) pa_nil))))))))))), ?_⟩
    refine ⟨_, rfl, c, _, rfl, SqT.of hC, rfl, _, _, rfl, _, _, rfl, rfl, ?_⟩
    refine ⟨len0, fun L1 hL1 => ?_⟩
    have s1 : Same H (upd H L1 (.lst [])) := Same.new hL1
    have r1 : Row (upd H L1 (.lst [])) L1 [] := Row.new
    generalize upd H L1 (.lst []) = H1 at s1 r1 ⊢
    refine ⟨len0, fun L2 hL2 => ?_⟩
    have n12 : L1 ≠ L2 := ne_of_none r1 hL2
    have s2 : Same H1 (upd H1 L2 (.lst [])) := Same.new hL2
    have r2 : Row (upd H1 L2 (.lst [])) L2 [] := Row.new
    generalize upd H1 L2 (.lst []) = H2 at s2 r2 ⊢
    have r1 : Row H2 L1 [] := s2 _ _ r1
    have hL2' : H L2 = none := s1.free hL2
    have s02 := s1.trans s2
    clear s1 s2 hL2
    have hcell : ∀ {H' : Hp} {k m : Nat} {vi vj : Int}, Same H H' → vi = (k : Nat) → vj = (m : Nat) → k < prs.length → m < w0 prs → ∃ p ∈ prs, atI (prs.map fun p => V.ref p.1) vi = some (.ref p.1) ∧ SqL K H' p.1 (p.2.map V.int) ∧ atI (p.2.map V.int) vj = some (.int (cellR (prs.map (·.2)) k m)) := fun {H' k m vi vj} sm ei ej hk hm => by
      obtain ⟨p, hp, h2, e, hl⟩ := hrow k hk
      subst ei ej
      refine ⟨p, hp, atI_nat (by rw [List.getElem?_map, h2]; rfl), ((hT.same sm).r p hp).sq, ?_⟩
      rw [cellR_at, e]
      exact at_row (by omega)
    have pushed : ∀ {H' : Hp} {L L' : Addr} {ns ms : List Int} {x : Int}, L ≠ L' → H L = none → Same H H' → Row H' L ns → Row H' L' ms → Same H (upd H' L (.lst (ns.map V.int ++ [.int x]))) ∧ Row (upd H' L (.lst (ns.map V.int ++ [.int x]))) L (ns ++ [x]) ∧ Row (upd H' L (.lst (ns.map V.int ++ [.int x]))) L' ms := fun {H' L L' ns ms x} n hL sm r r' => ⟨sm.upd hL, Row.push, by
      unfold Row
      rw [upd_ne n.symm]
      exact r'⟩
    refine ⟨_, rfl, _, _, rfl, rfl, _, rfl, ?_⟩
    refine if_both (fun N => ∀ H3, Same H H3 → Row H3 L1 (if 0 < j then [cellR (prs.map (·.2)) i (j - 1)] else []) → Row H3 L2 [] → N [some (.ref t), some (.ref c), some (.int (i : Nat)), some (.int (j : Nat)), some (.ref L1), some (.ref L2)] H3) (fun H3 s3 ra3 rb3 => ?_) (fun key hc => ?_) (fun key hc => ?_)
    · clear r1 r2 s02
      have la3 : (if 0 < j then [cellR (prs.map (·.2)) i (j - 1)] else []).length ≤ 1 := by split <;> simp
      generalize hA1 : (if 0 < j then [cellR (prs.map (·.2)) i (j - 1)] else []) = A1 at ra3 la3
      refine ⟨_, rfl, _, _, rfl, rfl, _, rfl, ?_⟩
      refine if_both (fun N => ∀ H4, Same H H4 → Row H4 L1 (A1 ++ if 0 < i then [cellR (prs.map (·.2)) (i - 1) j] else []) → Row H4 L2 [] → N [some (.ref t), some (.ref c), some (.int (i : Nat)), some (.int (j : Nat)), some (.ref L1), some (.ref L2)] H4) (fun H4 s4 ra4 rb4 => ?_) (fun key hc => ?_) (fun key hc => ?_)
      · clear ra3 rb3 s3
        have la4 : (A1 ++ if 0 < i then [cellR (prs.map (·.2)) (i - 1) j] else []).length ≤ 2 := by
          rw [List.length_append]
          split <;> simp <;> omega
        have ea : (A1 ++ if 0 < i then [cellR (prs.map (·.2)) (i - 1) j] else []).max? = (aheadL (prs.map (·.2)) i j).max? := by
          rw [max_swap, ← hA1]
          rfl
        generalize (A1 ++ if 0 < i then [cellR (prs.map (·.2)) (i - 1) j] else []) = A2 at ra4 la4 ea
        clear hA1 la3
        obtain ⟨p0, hp0, hm0, hx0⟩ := head_at (prs := prs) (by omega)
        refine ⟨_, rfl, _, _, rfl, rfl, _, rfl, t, _, 0, .ref p0.1, rfl, rfl, (hT.same s4).sq, atI_nat (j := 0) (by rw [List.getElem?_map, hx0]; rfl), p0.1, _, rfl, .inl ((hT.same s4).r p0 hm0).sq, _, _, rfl, rfl, _, rfl, ?_⟩
        rw [List.length_map, g.len p0 hm0]
        refine if_both (fun N => ∀ H5, Same H H5 → Row H5 L1 A2 → Row H5 L2 (if j + 1 < w0 prs then [cellR (prs.map (·.2)) i (j + 1)] else []) → N [some (.ref t), some (.ref c), some (.int (i : Nat)), some (.int (j : Nat)), some (.ref L1), some (.ref L2)] H5) (fun H5 s5 ra5 rb5 => ?_) (fun key hc => ?_) (fun key hc => ?_)
        · clear ra4 rb4 s4
          have lb5 : (if j + 1 < w0 prs then [cellR (prs.map (·.2)) i (j + 1)] else []).length ≤ 1 := by split <;> simp
          generalize hB1 : (if j + 1 < w0 prs then [cellR (prs.map (·.2)) i (j + 1)] else []) = B1 at rb5 lb5
          refine ⟨_, rfl, _, _, rfl, rfl, _, rfl, t, _, rfl, .inl (hT.same s5).sq, _, _, rfl, rfl, _, rfl, ?_⟩
          rw [List.length_map]
          refine if_both (fun N => ∀ H6, Same H H6 → Row H6 L1 A2 → Row H6 L2 (B1 ++ if i + 1 < prs.length then [cellR (prs.map (·.2)) (i + 1) j] else []) → N [some (.ref t), some (.ref c), some (.int (i : Nat)), some (.int (j : Nat)), some (.ref L1), some (.ref L2)] H6) (fun H6 s6 ra6 rb6 => ?_) (fun key hc => ?_) (fun key hc => ?_)
          · clear ra5 rb5 s5
            have lb6 : (B1 ++ if i + 1 < prs.length then [cellR (prs.map (·.2)) (i + 1) j] else []).length ≤ 2 := by
              rw [List.length_append]
              split <;> simp <;> omega
            have eb : (B1 ++ if i + 1 < prs.length then [cellR (prs.map (·.2)) (i + 1) j] else []).min? = (behindL (prs.map (·.2)) i j).min? := by
              rw [min_swap, ← hB1]
              unfold behindL
              rw [wR_w0, List.length_map]
            generalize (B1 ++ if i + 1 < prs.length then [cellR (prs.map (·.2)) (i + 1) j] else []) = B2 at rb6 lb6 eb
            refine ⟨_, rfl, L1, A2, rfl, ra6.sq, by omega, fun D1 ms1 hD1 pm1 sd1 => ?_⟩
            have m1 : Same H6 (upd H6 D1 (.lst (ms1.map V.int))) := Same.new hD1
            refine ⟨_, rfl, _, rfl, D1, _, rfl, rfl, upd_same, fun D2 hD2 => ?_⟩
            have m2 : Same H6 (upd (upd H6 D1 (.lst (ms1.map V.int))) D2 (.lst (ms1.map V.int).reverse)) := m1.trans (Same.new hD2)
            have e2 : (upd (upd H6 D1 (.lst (ms1.map V.int))) D2 (.lst (ms1.map V.int).reverse)) D2 = some (.lst (ms1.map V.int).reverse) := upd_same
            generalize upd (upd H6 D1 (.lst (ms1.map V.int))) D2 (.lst (ms1.map V.int).reverse) = H7 at m2 e2 ⊢
            refine ⟨len1, fun D3 hD3 => ⟨D2, D3, _, _, rfl, rfl, (Same.new hD3) _ _ e2, upd_same, ?_, fun D4 hD4 => ?_⟩⟩
            · rw [List.length_reverse, List.length_map, pm1.length_eq, sizeLine_eq]
              simp
              omega
            have m4 : Same H6 (upd (upd H7 D3 (.lst [.non])) D4 (.lst ((ms1.map V.int).reverse ++ [.non]))) := (m2.trans (Same.new hD3)).trans (Same.new hD4)
            have e4 : (upd (upd H7 D3 (.lst [.non])) D4 (.lst ((ms1.map V.int).reverse ++ [.non]))) D4 = some (.lst ((ms1.map V.int).reverse ++ [.non])) := upd_same
            generalize upd (upd H7 D3 (.lst [.non])) D4 (.lst ((ms1.map V.int).reverse ++ [.non])) = H8 at m4 e4 ⊢
            refine ⟨D4, _, 0, _, rfl, rfl, SqL.of e4, rev_max pm1 sd1, ?_⟩
            have rb8 : Row H8 L2 B2 := m4 _ _ rb6
            refine ⟨_, rfl, L2, B2, rfl, rb8.sq, by omega, fun D5 ms2 hD5 pm2 sd2 => ?_⟩
            have m5 : Same H8 (upd H8 D5 (.lst (ms2.map V.int))) := Same.new hD5
            have e5 : (upd H8 D5 (.lst (ms2.map V.int))) D5 = some (.lst (ms2.map V.int)) := upd_same
            generalize upd H8 D5 (.lst (ms2.map V.int)) = H9 at m5 e5 ⊢
            refine ⟨len1, fun D6 hD6 => ⟨D5, D6, _, _, rfl, rfl, (Same.new hD6) _ _ e5, upd_same, ?_, fun D7 hD7 => ?_⟩⟩
            · rw [List.length_map, pm2.length_eq, sizeLine_eq]
              simp
              omega
            have m7 : Same H8 (upd (upd H9 D6 (.lst [.non])) D7 (.lst (ms2.map V.int ++ [.non]))) := (m5.trans (Same.new hD6)).trans (Same.new hD7)
            have e7 : (upd (upd H9 D6 (.lst [.non])) D7 (.lst (ms2.map V.int ++ [.non]))) D7 = some (.lst (ms2.map V.int ++ [.non])) := upd_same
            generalize upd (upd H9 D6 (.lst [.non])) D7 (.lst (ms2.map V.int ++ [.non])) = H10 at m7 e7 ⊢
            refine ⟨D7, _, 0, _, rfl, rfl, SqL.of e7, fst_min pm2 sd2, len2, fun r hr' => ?_⟩
            have s10 := s6.trans (m4.trans m7)
            rw [ea, eb]
            exact q r _ (s10.free hr') (s10.trans (Same.new hr')) upd_same
          · have hc : i + 1 < prs.length := by have := of_decide_eq_true hc; omega
            obtain ⟨p, hp, a1, a2, a3⟩ := hcell (k := i + 1) (m := j) (vi := (i : Int) + 1) (vj := (j : Int)) s5 (by omega) rfl hc hj
            obtain ⟨b1, b2, b3⟩ := pushed (x := cellR (prs.map (·.2)) (i + 1) j) n12.symm hL2' s5 rb5 ra5
            refine ⟨_, rfl, .inl ⟨rfl, _, rb5.sq⟩, _, rfl, _, rfl, _, _, rfl, rfl, t, _, _, _, rfl, rfl, (hT.same s5).sq, a1, _, rfl, p.1, _, _, _, rfl, rfl, a2, a3, L2, _, _, rfl, rfl, rb5, ?_, ?_⟩
            · rw [List.length_map]
              exact small1000 (by omega)
            · refine key _ b1 b3 ?_
              rw [if_pos hc]
              exact b2
          · refine key H5 s5 ra5 ?_
            rw [if_neg (fun z => hc (decide_eq_true (by omega))), List.append_nil]
            exact rb5
        · have hc : j + 1 < w0 prs := by have := of_decide_eq_true hc; omega
          obtain ⟨p, hp, a1, a2, a3⟩ := hcell (k := i) (m := j + 1) (vi := (i : Int)) (vj := (j : Int) + 1) s4 rfl (by omega) hi hc
          obtain ⟨b1, b2, b3⟩ := pushed (x := cellR (prs.map (·.2)) i (j + 1)) n12.symm hL2' s4 rb4 ra4
          refine ⟨_, rfl, .inl ⟨rfl, _, rb4.sq⟩, _, rfl, _, rfl, t, _, _, _, rfl, rfl, (hT.same s4).sq, a1, _, rfl, _, _, rfl, rfl, p.1, _, _, _, rfl, rfl, a2, a3, L2, _, _, rfl, rfl, rb4, (by decide), ?_⟩
          refine key _ b1 b3 ?_
          rw [if_pos hc]
          exact b2
        · refine key H4 s4 ra4 ?_
          rw [if_neg (fun z => hc (decide_eq_true (by omega)))]
          exact rb4
      · have hc : 0 < i := by have := of_decide_eq_true hc; omega
        obtain ⟨p, hp, a1, a2, a3⟩ := hcell (k := i - 1) (m := j) (vi := (i : Int) - 1) (vj := (j : Int)) s3 (by omega) rfl (by omega) hj
        obtain ⟨b1, b2, b3⟩ := pushed (x := cellR (prs.map (·.2)) (i - 1) j) n12 hL1 s3 ra3 rb3
        refine ⟨_, rfl, .inl ⟨rfl, _, ra3.sq⟩, _, rfl, _, rfl, _, _, rfl, rfl, t, _, _, _, rfl, rfl, (hT.same s3).sq, a1, _, rfl, p.1, _, _, _, rfl, rfl, a2, a3, L1, _, _, rfl, rfl, ra3, ?_, ?_⟩
        · rw [List.length_map]
          exact small1000 (by omega)
        · refine key _ b1 ?_ b3
          rw [if_pos hc]
          exact b2
      · refine key H3 s3 ?_ rb3
        rw [if_neg (fun z => hc (decide_eq_true (by omega))), List.append_nil]
        exact ra3
    · have hc : 0 < j := by have := of_decide_eq_true hc; omega
      obtain ⟨p, hp, a1, a2, a3⟩ := hcell (k := i) (m := j - 1) (vi := (i : Int)) (vj := (j : Int) - 1) s02 rfl (by omega) hi (by omega)
      obtain ⟨b1, b2, b3⟩ := pushed (x := cellR (prs.map (·.2)) i (j - 1)) n12 hL1 s02 r1 r2
      refine ⟨_, rfl, .inl ⟨rfl, _, r1.sq⟩, _, rfl, _, rfl, t, _, _, _, rfl, rfl, (hT.same s02).sq, a1, _, rfl, _, _, rfl, rfl, p.1, _, _, _, rfl, rfl, a2, a3, L1, _, _, rfl, rfl, r1, (by decide), ?_⟩
      refine key _ b1 ?_ b3
      rw [if_pos hc]
      exact b2
    · refine key H2 s02 ?_ r2
      rw [if_neg (fun z => hc (decide_eq_true (by omega)))]
      exact r1
end
theorem Keep.rok {H : Hp} {C a dx t l : Addr} {prs : Prs} {cs : Ch} (h : Keep H C a dx t l prs cs) : Rok (prs.map (·.2)) := rok_of (by rw [← rowsOk_of rfl]; exact h.ok)
section
variable {P : Program} {w : World} {K : PySem.W.Frag} {mg : Str → Option Value} {base : Heap} {C : Addr}
theorem new_keep {H1 : Hp} {t0 a dx : Addr} {prs : Prs} {W : VK} (ha : H1 a = none) (hdx : H1 dx = none) (nd : dx ≠ a) (hT : Tab H1 t0 prs) (hg : tabB prs = true)
    (q : ∀ t l prs' H2, Same H1 H2 → H1 t = none → H1 l = none → a ≠ l → a ≠ t → (∀ p ∈ prs', H1 p.1 = none) → (prs'.map (·.1)).Nodup → prs'.map (·.2) = prs.map (·.2) → Keep H2 C a dx t l prs' [] → W .non H2) :
    spInit C [.ref a, .ref t0] (upd (upd H1 dx (.own a)) a (.ins C dx [])) W E0 := by
  have s1 : Same H1 (upd (upd H1 dx (.own a)) a (.ins C dx [])) := (Same.new hdx).trans (Same.new (by rw [upd_ne (Ne.symm nd)]; exact ha))
  have ex : (upd (upd H1 dx (.own a)) a (.ins C dx [])) a = some (.ins C dx []) := upd_same
  generalize upd (upd H1 dx (.own a)) a (.ins C dx []) = H2 at s1 ex
  refine ⟨a, dx, t0, prs, rfl, ex, hT.same s1, hg, fun t l prs' H' b ht hl hp hnd hrows hk => q t l prs' H' (fun c o e => b c o (fun z => by rw [z, ha] at e; cases e) (s1 _ _ e)) (s1.free ht) (s1.free hl) (ne_of_none ex hl) (ne_of_none ex ht) (fun p h => s1.free (hp p h)) hnd hrows hk⟩
end
section
variable {P : Program} {w : World} {K : PySem.W.Frag} {mg : Str → Option Value} {base : Heap}
def spIsWholeA : Sp := fun vs H Q _ => ∃ (x : V) (d : PyData), vs = [x] ∧ RdS [] H x d ∧ Q (.bl (isIntD d)) H
theorem ok_isWholeA (T : Blt mg) (D : DefAt K mg "is_whole" dIsWhole ["thing"]) : FnAt P w K mg base 1 "is_whole" ["thing"] spIsWholeA := by
  refine FnAt.of D sc_isWhole (fun vs H Q E h => ?_) (fun f cdv A outer s H vs Q E hr h => ?_)
  · obtain ⟨x, d, rfl, _⟩ := h
    rfl
  · obtain ⟨x, d, rfl, rd, q⟩ := h
    refine ⟨_, pss_one (ps_ret (pe_and (pe_b call_isinst T.isinst boot_isinstance (pa_cons (pv 0) (pa_cons (pe_ty T.int boot_int) pa_nil)))
      (pe_one (pe_not (pe_b call_isinst T.isinst boot_isinstance (pa_cons (pv 0) (pa_cons (pe_ty T.bool boot_bool) pa_nil))))))), ?_⟩
    refine ⟨_, rfl, _, _, _, _, rfl, rd.ty, kit_int _ d, _, rfl, ?_⟩
    cases d with
    | int i => exact iteT ⟨_, rfl, _, _, _, _, rfl, rd.ty, kit_bool _ _, _, rfl, q⟩
    | bool b => exact iteT ⟨_, rfl, _, _, _, _, rfl, rd.ty, kit_bool _ _, _, rfl, q⟩
    | _ => exact iteF q
end
section
variable {W : Nat} {rows : List (List Int)} {r p : Nat}
end
def ButS (S : List Addr) (H H' : Hp) : Prop := ∀ b o, b ∉ S → H b = some o → H' b = some o
theorem ButS.refl (S : List Addr) (H : Hp) : ButS S H H := fun _ _ _ e => e
theorem ButS.trans {S : List Addr} {H H1 H2 : Hp} (a : ButS S H H1) (b : ButS S H1 H2) : ButS S H H2 := fun c o n e => b c o n (a c o n e)
theorem Same.butS {S : List Addr} {H H' : Hp} (a : Same H H') : ButS S H H' := fun c o _ e => a c o e
structure Ab where
  S : List Addr
  J : Hp → Prop
  same : ∀ {H H' : Hp}, J H → Same H H' → J H'
  fresh : ∀ {H : Hp} {a : Addr}, J H → H a = none → a ∉ S
abbrev Ty := V → Hp → Prop
def Th (B : Ab) (c k : Nat) : Ty := fun x H => ∃ d, RdS B.S H x d ∧ Sz c k d
def Li (B : Ab) (lo hi c k : Nat) : Ty := fun v H => ∃ (a : Addr) (xs : List V), v = .ref a ∧ H a = some (.lst xs) ∧ a ∉ B.S ∧ lo ≤ xs.length ∧ xs.length ≤ hi ∧ ∀ y ∈ xs, Th B c k y H
abbrev TyB := Ab → Ty
abbrev EnB := Ab → L2.St → Hp → Prop
def Stb (A : TyB) : Prop := ∀ B v H H', A B v H → ButS B.S H H' → A B v H'
def StbE (Γ : EnB) : Prop := ∀ B σ H H', Γ B σ H → ButS B.S H H' → Γ B σ H'
def tA (Γ : EnB) (A : TyB) : TE := fun σ H Q => ∃ B : Ab, Γ B σ H ∧ B.J H ∧ ∀ v H', ButS B.S H H' → B.J H' → A B v H' → Q v H'
structure AE (X : Cx) (Γ : EnB) (e : Expr) (A : TyB) : Prop where
  pe : PE X e (tA Γ A)
section
variable {X : Cx} {Γ : EnB} {e e1 e2 : Expr} {es : List Expr} {A A' : TyB} {pos : Pos} {n : Nat}
theorem pe_imp {t t' : TE} (h : PE X e t) (i : ∀ σ H Q, t' σ H Q → t σ H Q) : PE X e t' := fun pins s σ H Q I q => h pins s σ H Q I (i σ H Q q)
theorem pa_imp {t t' : TA} (h : PA X es t) (i : ∀ σ H Q, t' σ H Q → t σ H Q) : PA X es t' := fun p pins s σ H Q I q => h p pins s σ H Q I (i σ H Q q)
theorem ae_sub (h : AE X Γ e A) (s : ∀ B v H, A B v H → A' B v H) : AE X Γ e A' := ⟨pe_imp h.pe fun _ _ _ ⟨B, g, j, q⟩ => ⟨B, g, j, fun v H' b j' a => q v H' b j' (s _ v H' a)⟩⟩
theorem ae_c {v : V} (h : PE X e (tC v)) (a : ∀ B H, A B v H) : AE X Γ e A := ⟨pe_imp h fun σ H Q ⟨B, hg, j, q⟩ => q v H (ButS.refl _ _) j (a _ H)⟩
end
section
variable {X : Cx} {Γ : EnB} {es : List Expr} {A : TyB} {n : Nat} {e1 e2 e3 e4 : Expr}
mutual
def litOf : Nat → Expr → Option PyData
  | 0, _ => none
  | n + 1, e => match e with
    | .Constant .none _ _ => some .none
    | .Constant (.bool b) _ _ => some (.bool b)
    | .Constant (.int i) _ _ => some (.int i)
    | .Constant (.str x) _ _ => some (.str x)
    | .List es _ => (litAll n es).map .list
    | .Tuple es _ _ => (litAll n es).map .tuple
    | .Dict [] [] _ => some (.dict [])
    | _ => none
def litAll : Nat → List Expr → Option (List PyData)
  | 0, _ => none
  | _ + 1, [] => some []
  | n + 1, e :: es => match litOf n e, litAll n es with
    | some d, some ds => some (d :: ds)
    | _, _ => none
end
abbrev tRd (d : PyData) : TyB := fun B v H => RdS B.S H v d
theorem st_rd {d : PyData} : Stb (tRd d) := fun B v H H' r b => r.move (fun c o n e => b c o n e) fun _ n => n
theorem lit_star {n : Nat} {e : Expr} {d : PyData} {env : Env} (h : litOf n e = some d) : starEach (e :: es) env = (false, eval e env) :: starEach es env := by
  cases n with
  | zero => simp [litOf] at h
  | succ n => cases e <;> first | rfl | (simp [litOf] at h)
theorem litAll_len : ∀ (n : Nat) {es : List Expr} {ds : List PyData}, litAll n es = some ds → ds.length ≤ n
  | 0, es, ds, h => by simp [litAll] at h
  | n + 1, [], ds, h => by
    simp only [litAll, Option.some.injEq] at h
    subst h
    exact Nat.zero_le _
  | n + 1, e :: es, ds, h => by
    unfold litAll at h
    split at h
    · rename_i d0 ds0 he hes
      cases h
      have := litAll_len n hes
      simp only [List.length_cons]
      omega
    · cases h
mutual
theorem lit_ok (sg : StbE Γ) : ∀ (n : Nat) {e : Expr} {d : PyData}, n ≤ 1000 → litOf n e = some d → AE X Γ e (tRd d)
  | 0, e, d, _, h => by simp [litOf] at h
  | n + 1, e, d, hn, h => by
    unfold litOf at h
    split at h
    · cases h; exact ae_c pe_non fun _ _ => .non
    · cases h; exact ae_c pe_bl fun _ _ => .bl _
    · cases h; exact ae_c pe_int fun _ _ => .int _
    · cases h; exact ae_c pe_str fun _ _ => .str _
    · rename_i es p
      cases hl : litAll n es with
      | none => rw [hl] at h; cases h
      | some ds =>
        rw [hl] at h
        simp only [Option.map_some, Option.some.injEq] at h
        subst h
        exact ⟨pe_imp (pe_lst (lit_all sg n (by omega) hl)) fun σ H Q ⟨B, hg, j, q⟩ => ⟨B, hg, j, fun vs H1 b1 j1 r1 => ⟨sl6 (by have := litAll_len n hl; have := r1.length; omega), fun p hp => q _ _ (b1.trans (Same.butS (Same.new hp))) (B.same j1 (Same.new hp)) (.lst upd_same (B.fresh j1 hp) (r1.same (Same.new hp)))⟩⟩⟩
    · rename_i es x p
      cases hl : litAll n es with
      | none => rw [hl] at h; cases h
      | some ds =>
        rw [hl] at h
        simp only [Option.map_some, Option.some.injEq] at h
        subst h
        exact ⟨pe_imp (pe_tup (lit_all sg n (by omega) hl)) fun σ H Q ⟨B, hg, j, q⟩ => ⟨B, hg, j, fun vs H1 b1 j1 r1 => ⟨sl6 (by have := litAll_len n hl; have := r1.length; omega), fun p hp => q _ _ (b1.trans (Same.butS (Same.new hp))) (B.same j1 (Same.new hp)) (.tup upd_same (B.fresh j1 hp) (r1.same (Same.new hp)))⟩⟩⟩
    · cases h
      exact ⟨pe_imp pe_dict0 fun σ H Q ⟨B, hg, j, q⟩ p hp => q _ _ (Same.butS (Same.new hp)) (B.same j (Same.new hp)) (.dct upd_same (B.fresh j hp))⟩
    · cases h
theorem lit_all (sg : StbE Γ) : ∀ (n : Nat) {es : List Expr} {ds : List PyData}, n ≤ 1000 → litAll n es = some ds → PA X es (fun σ H Q => ∃ B : Ab, Γ B σ H ∧ B.J H ∧ ∀ vs H', ButS B.S H H' → B.J H' → RdSs B.S H' vs ds → Q vs H')
  | 0, es, ds, _, h => by simp [litAll] at h
  | n + 1, [], ds, _, h => by
    simp only [litAll, Option.some.injEq] at h
    subst h
    exact pa_imp pa_nil fun σ H Q ⟨B, hg, j, q⟩ => q [] H (ButS.refl _ _) j .nil
  | n + 1, e :: es, ds, hn, h => by
    unfold litAll at h
    split at h
    · rename_i d0 ds0 he hes
      cases h
      exact pa_imp (pa_cons (lit_ok sg n (by omega) he).pe (lit_all sg n (by omega) hes) (lit_star he)) fun σ H Q ⟨B, hg, j, q⟩ => ⟨B, hg, j, fun v H1 b1 j1 a1 => ⟨B, sg _ _ _ _ hg b1, j1, fun vs H2 b2 j2 r2 => q (v :: vs) H2 (b1.trans b2) j2 (.cons (st_rd _ _ _ _ a1 b2) r2)⟩⟩
    · cases h
end
end
mutual
theorem rds_avoid {S : List Addr} {H : Hp} {a : Addr} (ha : H a = none) : ∀ {x : V} {d : PyData}, RdS S H x d → RdS (a :: S) H x d
  | _, _, .non => .non
  | _, _, .bl b => .bl b
  | _, _, .int i => .int i
  | _, _, .str x => .str x
  | _, _, .lst e n r => .lst e (by simp only [List.mem_cons, not_or]; exact ⟨ne_of_none e ha, n⟩) (rdss_avoid ha r)
  | _, _, .tup e n r => .tup e (by simp only [List.mem_cons, not_or]; exact ⟨ne_of_none e ha, n⟩) (rdss_avoid ha r)
  | _, _, .dct e n => .dct e (by simp only [List.mem_cons, not_or]; exact ⟨ne_of_none e ha, n⟩)
theorem rdss_avoid {S : List Addr} {H : Hp} {a : Addr} (ha : H a = none) : ∀ {xs : List V} {ds : List PyData}, RdSs S H xs ds → RdSs (a :: S) H xs ds
  | _, _, .nil => .nil
  | _, _, .cons h t => .cons (rds_avoid ha h) (rdss_avoid ha t)
end
abbrev tD (φ : PyData → Prop) : TyB := fun B v H => ∃ d, RdS B.S H v d ∧ φ d
section
variable {X : Cx} {Γ : EnB} {e e1 e2 : Expr} {es : List Expr} {φ φ' : PyData → Prop} {ψ : List PyData → Prop} {pos : Pos} {n : Nat}
theorem ad_lit (d : PyData) (sg : StbE Γ) (h : litOf 40 e = some d) (hz : φ d) : AE X Γ e (tD φ) := ae_sub (lit_ok sg 40 (by decide) h) fun B v H r => ⟨d, r, hz⟩
end
section
variable {X : Cx} {Γ : EnB} {e e1 e2 : Expr} {es : List Expr} {φ φ' : PyData → Prop} {pos : Pos} {n : Nat} {d d1 d2 : PyData} {ds es' : List PyData}
end
section
variable {X : Cx} {Γ : EnB} {st D : Addr} {l : List (Nat × PyData)} {e : Expr} {es : List Expr} {pos : Pos} {d : PyData} {ds : List PyData} {i : Nat}
end
theorem ps_w1 {X : Cx} {s : Stmt} {α : Type} {C : α → Prop} {t : α → TS} (h : ∀ a, C a → PS X s (t a)) : PS X s (fun E σ H => ∃ a, C a ∧ t a E σ H) := fun pins s' σ H D I ⟨a, c, q⟩ => h a c pins s' σ H D I q
section
variable {B : Ab} {σ : L2.St} {H H' : Hp} {i k : Nat} {φ φ' : PyData → Prop} {d : PyData} {v : V} {x : Option V}
end
abbrev Cs := List (Addr × Nat × Nat)
def cellV (c : Addr × Nat × Nat) : V := .ref c.1
def CellAt (H : Hp) (c : Addr × Nat × Nat) : Prop := H c.1 = some (.tup [.int (c.2.1 : Nat), .int (c.2.2 : Nat)])
section
variable {P : Program} {w : World} {K : PySem.W.Frag} {mg : Str → Option Value} {base : Heap}
end
structure Err (K : PySem.W.Frag) (S : Addr) (cs : List Addr) (i : Nat) (C : Addr) : Prop where
  k : ExcK K C
  sk : PySem.W.mroIn K C (.ref S) = some true
  kv : PySem.W.kitOne K (.ref C) (.type "ValueError") = some true
  ks : ∀ j D, cs[j]? = some D → PySem.W.kitOne K (.ref C) (.ref D) = some (decide (j = i))
section
variable {P : Program} {w : World} {K : PySem.W.Frag} {mg : Str → Option Value} {base : Heap} {c c0 c1 c2 : Addr}
def spNeedNX (c : Addr) : Sp := fun vs H Q E => ∃ (x : V) (d : PyData), vs = [x] ∧ RdS [] H x d ∧ (isIntD d = true → Q .non H) ∧ (isIntD d = false → E (.ref c) none H)
theorem ok_needNX (hk : ExcK K c) (hm : mg "NoNumber" = some (.ref c)) (D : DefAt K mg "need_number" dNeedNumber ["thing"]) (G : FnAt P w K mg base 1 "is_whole" ["thing"] spIsWholeA) : FnAtX P w K mg base 2 "need_number" ["thing"] (spNeedNX c) := by
  refine FnAtX.of D sc_needNumber (fun vs H Q E h => ?_) (fun f cdv A outer s H vs Q E hr h => ?_)
  · obtain ⟨x, d, rfl, _⟩ := h
    rfl
  · obtain ⟨x, d, rfl, rd, hq, he⟩ := h
    refine ⟨_, pss_one (ps_if (pt_not (pt_val (pe_f G hr (pa_cons (pv 0) pa_nil)))) (pss_one (ps_raise throws_def hk pe_str hm)) pss_nil), ?_⟩
    refine ⟨_, rfl, x, d, rfl, rd, _, rfl, ?_⟩
    cases e : isIntD d with
    | false => exact iteT (he e)
    | true => exact iteF (hq e)
end
def cellD (r p : Nat) : PyData → Bool
  | .tuple [.int a, .int b] => (decide (0 ≤ a) && decide (a < (r : Int))) && (decide (0 ≤ b) && decide (b < (p : Int)))
  | _ => false
theorem cellD_yes {r p : Nat} {i j : Int} (h : (0 ≤ i ∧ i < r) ∧ 0 ≤ j ∧ j < p) : cellD r p (.tuple [.int i, .int j]) = true := by
  obtain ⟨⟨h1, h2⟩, h3, h4⟩ := h
  simp [cellD, h1, h2, h3, h4]
theorem cellD_no {r p : Nat} {i j : Int} (h : ¬ ((0 ≤ i ∧ i < r) ∧ 0 ≤ j ∧ j < p)) : cellD r p (.tuple [.int i, .int j]) = false := by
  cases e : cellD r p (.tuple [.int i, .int j]) with
  | false => rfl
  | true =>
    simp only [cellD, Bool.and_eq_true, decide_eq_true_eq] at e
    exact absurd e h
section
variable {P : Program} {w : World} {K : PySem.W.Frag} {mg : Str → Option Value} {base : Heap} {c c0 c1 c2 : Addr}
def spAllWholeTA : Sp := fun vs H Q _ => ∃ (a : Addr) (xs : List V) (ds : List PyData), vs = [.ref a] ∧ H a = some (.tup xs) ∧ RdSs [] H xs ds ∧ ds.length ≤ 1000 ∧ ∀ H', Same H H' → Q (.bl (ds.all isIntD)) H'
theorem ok_allWholeTA (T : Blt mg) (D : DefAt K mg "all_whole" dAllWhole ["things"]) (G1 : FnAt P w K mg base 1 "is_whole" ["thing"] spIsWholeA) : FnAt P w K mg base 2 "all_whole" ["things"] spAllWholeTA := by
  refine FnAt.of D sc_allWhole (fun vs H Q E h => ?_) (fun f cdv A outer s H vs Q E hr h => ?_)
  · obtain ⟨a, xs, ds, rfl, _⟩ := h
    rfl
  · obtain ⟨a, xs, ds, rfl, hl, rs, hn, q⟩ := h
    obtain ⟨ms, e1, e2, hm⟩ := rs.pairs
    subst e1 e2
    rw [List.length_map] at hn
    have nd1 : (["thing"] : List Str).Nodup := by decide +kernel
    refine ⟨_, pss_one (ps_ret (pe_b (call_all rfl) T.all boot_all (pa_cons (pe_comp ["thing"] [none] (defScope dAllWhole) ["things"] rfl (pi_tup (pv 0)) (by decide +kernel)
      (fun cl C s2 H2 ex => pg_c 0 nd1) (fun cl C s2 H2 ex => pifs_nil) (fun cl C s2 H2 ex => pe_f G1 hr (pa_cons (pv 0) pa_nil))) pa_nil))), ?_⟩
    refine ⟨_, rfl, a, rfl, ⟨_, SqT.of hl⟩, comp_tup (fun m : V × PyData => m.1) (fun m => .bl (isIntD m.2)) (SqT.of hl) (sl6 hn) (fun m hx H' Q' sm q' => ?_) fun D H' hD sm hDl => ?_⟩
    · exact ⟨_, rfl, m.1, m.2, rfl, (hm m hx).same sm, q' _ (Same.refl _)⟩
    · refine ⟨D, ms.map fun m => isIntD m.2, rfl, SqL.of (by rw [hDl, map_bl]), ?_⟩
      have q1 := q H' sm
      rw [List.all_map] at q1 ⊢
      exact q1
def spCellSzA : Sp := fun vs H Q _ => ∃ (x : V) (d : PyData) (r p : Nat), vs = [.int (r : Nat), .int (p : Nat), x] ∧ RdS [] H x d ∧ Sz 1000000 60 d ∧ ∀ H', Same H H' → Q (.bl (cellD r p d)) H'
theorem ok_cellSzA (T : Blt mg) (htup : mg "tuple" = none) (D : DefAt K mg "is_cell_of_size" dCellSz ["rows", "places", "thing"]) (G : FnAt P w K mg base 2 "all_whole" ["things"] spAllWholeTA) : FnAt P w K mg base 3 "is_cell_of_size" ["rows", "places", "thing"] spCellSzA := by
  refine FnAt.of D sc_cellSz (fun vs H Q E h => ?_) (fun f cdv A outer s H vs Q E hr h => ?_)
  · obtain ⟨x, d, r, p, rfl, _⟩ := h
    rfl
  · obtain ⟨x, d, r, p, rfl, rd, sz, q⟩ := h
    refine ⟨_, pss_cons (ps_if (PW.pt (pw_or (pt_not (pt_val (pe_b call_isinst T.isinst boot_isinstance (pa_cons (pv 2) (pa_cons (pe_ty htup boot_tuple) pa_nil))))) (pw_or (pt_cmpR op_ne (pe_b call_len_seq T.len boot_len (pa_cons (pv 2) pa_nil)) pe_int (nomark _)) (pw_or1 (pt_not (pt_val (pe_f G hr (pa_cons (pv 2) pa_nil)))))))) (pss_one (ps_ret pe_bl)) pss_nil)
      (pss_one (ps_ret (pe_and (pe_chain o_le o_lt pe_int (pe_ix ix_tup (pv 2) pe_int (fun _ _ => rfl)) (pv 0))
        (pe_one (pe_chain o_le o_lt pe_int (pe_ix ix_tup (pv 2) pe_int (fun _ _ => rfl)) (pv 1)))))), ?_⟩
    refine ⟨_, rfl, _, _, _, _, rfl, rd.ty, kit_tuple _ d, _, rfl, ?_⟩
    cases rd with
    | @tup a xs ds e n ra =>
      have hlen := ra.length
      refine iteF ⟨_, rfl, a, _, rfl, .inr (SqT.of e), rfl, _, rfl, ?_⟩
      by_cases h2 : ds.length = 2
      · rw [hlen, h2]
        refine iteF ⟨_, rfl, a, xs, ds, rfl, e, ra, by omega, fun H1 s1 => ⟨_, rfl, ?_⟩⟩
        match ds, h2, ra, q with
        | [d1, d2], _, .cons (x := x1) r1 (.cons (x := x2) r2 .nil), q =>
          cases e1 : ([d1, d2].all isIntD) with
          | false =>
            have ec : cellD r p (.tuple [d1, d2]) = false := by
              cases d1 <;> cases d2 <;> first | rfl | (simp [isIntD] at e1)
            have q1 := q H1 s1
            rw [ec] at q1
            exact iteT q1
          | true =>
            have e1' : isIntD d1 = true ∧ isIntD d2 = true := by simpa using e1
            cases r1 with
            | int i =>
              cases r2 with
              | int j =>
                refine iteF ?_
                have hC1 : H1 a = some (.tup [.int i, .int j]) := s1 _ _ e
                refine ⟨_, rfl, a, _, 0, .int i, rfl, rfl, SqT.of hC1, rfl, _, _, rfl, rfl, _, rfl, ?_⟩
                refine ite2 (fun k1 => ?_) (fun k1 => ⟨_, rfl, iteF ?_⟩)
                · refine ⟨_, rfl, _, _, rfl, rfl, _, rfl, ?_⟩
                  refine ite2 (fun k2 => ?_) (fun k2 => ?_)
                  · refine ⟨_, rfl, a, _, 1, .int j, rfl, rfl, SqT.of hC1, rfl, _, _, rfl, rfl, _, rfl, ?_⟩
                    refine ite2 (fun k3 => ?_) (fun k3 => ?_)
                    · refine ⟨_, rfl, _, _, rfl, rfl, ?_⟩
                      have k1 := of_decide_eq_true k1
                      have k2 := of_decide_eq_true k2
                      have k3 := of_decide_eq_true k3
                      have q1 := q H1 s1
                      by_cases k4 : j < (p : Nat)
                      · rw [decide_eq_true k4]
                        rw [cellD_yes ⟨⟨k1, k2⟩, k3, k4⟩] at q1
                        exact q1
                      · rw [decide_eq_false k4]
                        rw [cellD_no fun z => k4 z.2.2] at q1
                        exact q1
                    · have q1 := q H1 s1
                      rw [cellD_no fun z => k3 (decide_eq_true z.2.1)] at q1
                      exact q1
                  · have q1 := q H1 s1
                    rw [cellD_no fun z => k2 (decide_eq_true z.1.2)] at q1
                    exact q1
                · have q1 := q H1 s1
                  rw [cellD_no fun z => k1 (decide_eq_true z.1.1)] at q1
                  exact q1
              | _ => exact absurd e1'.2 (by simp [isIntD])
            | _ => exact absurd e1'.1 (by simp [isIntD])
      · have ed : (!decide (V.int (xs.length : Nat) = V.int 2)) = true := by
          rw [decide_eq_false (by intro z; injection z with z; omega)]
          rfl
        rw [ed]
        have ec : cellD r p (.tuple ds) = false := by
          unfold cellD
          split
          · next z =>
            injection z with z
            subst z
            exact absurd rfl h2
          · rfl
        have q1 := q H (Same.refl _)
        rw [ec] at q1
        exact iteT q1
    | _ => exact iteT (q H (Same.refl _))
def spIsCellA : Sp := fun vs H Q _ => ∃ (t : Addr) (prs : Prs) (x : V) (d : PyData), vs = [.ref t, x] ∧ Tab H t prs ∧ tabB prs = true ∧ RdS [] H x d ∧ Sz 1000000 60 d ∧ ∀ H', Same H H' → Q (.bl (cellD prs.length (w0 prs) d)) H'
theorem ok_isCellA (T : Blt mg) (D : DefAt K mg "is_cell" dIsCell ["table", "thing"]) (G : FnAt P w K mg base 3 "is_cell_of_size" ["rows", "places", "thing"] spCellSzA) : FnAt P w K mg base 4 "is_cell" ["table", "thing"] spIsCellA := by
  refine FnAt.of D sc_isCell (fun vs H Q E h => ?_) (fun f cdv A outer s H vs Q E hr h => ?_)
  · obtain ⟨t, prs, x, d, rfl, _⟩ := h
    rfl
  · obtain ⟨t, prs, x, d, rfl, hT, hg, rd, sz, q⟩ := h
    obtain ⟨g, g1, g2, g3, g4⟩ := good_of hg
    obtain ⟨p0, hp0, hm0, hx0⟩ := head_at (prs := prs) g1
    refine ⟨_, pss_one (ps_ret (pe_f G hr (pa_cons (pe_b call_len_seq T.len boot_len (pa_cons (pv 0) pa_nil)) (pa_cons (pe_b call_len_seq T.len boot_len (pa_cons (pe_ix ix_list (pv 0) pe_int (fun _ _ => rfl)) pa_nil)) (pa_cons (pv 1) pa_nil))))), ?_⟩
    exact ⟨_, rfl, t, _, rfl, .inl hT.sq, _, rfl, t, _, 0, .ref p0.1, rfl, rfl, hT.sq, atI_nat (j := 0) (by rw [List.getElem?_map, hx0]; rfl), p0.1, _, rfl, .inl (hT.r p0 hm0).sq, _, rfl, x, d, prs.length, w0 prs, by rw [List.length_map, List.length_map, g.len p0 hm0], rd, sz, q⟩
def spNeedCX (c : Addr) : Sp := fun vs H Q E => ∃ (t : Addr) (prs : Prs) (x : V) (d : PyData), vs = [.ref t, x] ∧ Tab H t prs ∧ tabB prs = true ∧ RdS [] H x d ∧ Sz 1000000 60 d ∧ cellD prs.length (w0 prs) d = false ∧ ∀ H', Same H H' → E (.ref c) none H'
theorem ok_needCX (hk : ExcK K c) (hm : mg "NoCell" = some (.ref c)) (D : DefAt K mg "need_cell" dNeedCell ["table", "thing"]) (G : FnAt P w K mg base 4 "is_cell" ["table", "thing"] spIsCellA) : FnAtX P w K mg base 5 "need_cell" ["table", "thing"] (spNeedCX c) := by
  refine FnAtX.of D sc_needCell (fun vs H Q E h => ?_) (fun f cdv A outer s H vs Q E hr h => ?_)
  · obtain ⟨t, prs, x, d, rfl, _⟩ := h
    rfl
  · obtain ⟨t, prs, x, d, rfl, hT, hg, rd, sz, hc, q⟩ := h
    refine ⟨_, pss_one (ps_if (pt_not (pt_val (pe_f G hr (pa_cons (pv 0) (pa_cons (pv 1) pa_nil))))) (pss_one (ps_raise throws_def hk pe_str hm)) pss_nil), ?_⟩
    refine ⟨_, rfl, _, rfl, t, prs, x, d, rfl, hT, hg, rd, sz, fun H1 s1 => ⟨_, rfl, ?_⟩⟩
    rw [hc]
    exact iteT (q H1 s1)
end
end Seek
namespace L2
open PySem PySem.Spec PyProof.Rows
theorem boot_ValueError : bootBuiltins "ValueError" = some (.type "ValueError") := by kernel_rfl
section
variable {X : Cx}
theorem call_isinstE (K : PySem.W.Frag) (hK : X.K = K := by rfl) : CallR X (.builtin "isinstance") (fun xs H Q => ∃ e C D b, xs = [.ref e, .ref D] ∧ H e = some (excO e C) ∧ ExcK K C ∧ PySem.W.kitOne K (.ref C) (.ref D) = some b ∧ Q (.bl b) H) := by
  subst hK
  intro pins s σ H xs us Q I rv h
  obtain ⟨e, C, D, b, rfl, he, kC, hk, q⟩ := h
  obtain ⟨u, v, rfl, r1, r2⟩ := rv.two
  obtain rfl : u = .ref e := r1
  obtain rfl : v = .ref D := r2
  exact PySem.W.kia_one (kitx_exc kC) I.kIn (excO_at I he) hk (fun z => nomatch z) fun tk => ⟨.bl b, H, I.tok tk, rfl, q⟩
theorem call_isinstET (K : PySem.W.Frag) (hK : X.K = K := by rfl) : CallR X (.builtin "isinstance") (fun xs H Q => ∃ e C T b, xs = [.ref e, .ty T] ∧ H e = some (excO e C) ∧ ExcK K C ∧ PySem.W.kitOne K (.ref C) (.type T) = some b ∧ Q (.bl b) H) := by
  subst hK
  intro pins s σ H xs us Q I rv h
  obtain ⟨e, C, T, b, rfl, he, kC, hk, q⟩ := h
  obtain ⟨u, v, rfl, r1, r2⟩ := rv.two
  obtain rfl : u = .ref e := r1
  obtain rfl : v = .type T := r2
  exact PySem.W.kia_one (kitx_exc kC) I.kIn (excO_at I he) hk (fun z => nomatch z) fun tk => ⟨.bl b, H, I.tok tk, rfl, q⟩
end
theorem compZ_if {K : PySem.W.Frag} {a c : Addr} {xs zs : List V} {σ0 : St} {H1 : Hp} {tc : TT} {te : TE} {Q : VK} (p : Nat → Bool) (f : Nat → V) (hq : SqL K H1 a xs) (hq2 : SqL K H1 c zs) (hlen : xs.length = zs.length) (hn : xs.length ≤ 1000)
    (hc : ∀ i x z, xs[i]? = some x → zs[i]? = some z → ∀ H' (Q' : Bool → Hp → Prop), Same H1 H' → Q' (p i) H' → tc ((σ0.set 0 (some x)).set 1 (some z)) H' Q')
    (he : ∀ i x z, xs[i]? = some x → zs[i]? = some z → ∀ H' (Q' : VK), Same H1 H' → Q' (f i) H' → te ((σ0.set 0 (some x)).set 1 (some z)) H' Q')
    (fin : ∀ D H', H1 D = none → Same H1 H' → H' D = some (.lst (((List.range xs.length).filter p).map f)) → Q (.ref D) H') :
    CompRun (Itz K a c) (gTup K 2 (gCons (gName 0) (gCons (gName 1) gNil))) tc te σ0 H1 Q := by
  intro D hD
  refine ⟨fun i m ys σ' H' => m = xs.length - i ∧ i ≤ xs.length ∧ (∀ u v, (σ'.set 0 u).set 1 v = (σ0.set 0 u).set 1 v) ∧ Same H1 H' ∧ H' D = some (.lst ys) ∧ ys = ((List.range i).filter p).map f, ⟨xs.length, by simp, Nat.zero_le _, fun _ _ => rfl, Same.new hD, upd_same, by simp⟩, ?_⟩
  rintro i m ys σ' H' ⟨rfl, hi, es, sm, hDl, hys⟩
  refine ⟨hDl, ?_⟩
  have q := sm.seq hq
  have q2 := sm.seq hq2
  by_cases hlt : i < xs.length
  · refine .inr ⟨⟨_, _, xs[i], zs[i]'(by omega), q, q2, by simp [hlt], by simp⟩, fun x H2 y => ?_⟩
    obtain ⟨T, z, z2, rfl, hT, rfl, y, y2⟩ := y
    have y := y _ q
    have y2 := y2 _ q2
    have smT : Same H' (upd H' T (.tup [z, z2])) := Same.new hT
    refine ⟨T, _, rfl, SqT.of upd_same, rfl, _, _, rfl, _, _, rfl, rfl, ?_⟩
    rw [es]
    refine hc i _ _ y y2 _ _ (sm.trans smT) ?_
    cases hp : p i with
    | true =>
      refine iteT (he i _ _ y y2 _ _ (sm.trans smT) ⟨smT _ _ hDl, ?_, xs.length - (i + 1), by omega, rfl, hlt, fun _ _ => set2, (sm.trans smT).upd hD, upd_same, ?_⟩)
      · rw [hys, List.length_map]
        have := List.length_filter_le p (List.range i)
        rw [List.length_range] at this
        exact small1000 (by omega)
      · rw [List.range_succ, List.filter_append, List.map_append, ← hys]
        simp [hp]
    | false =>
      refine iteF ⟨xs.length - (i + 1), by omega, rfl, hlt, fun _ _ => set2, sm.trans smT, smT _ _ hDl, ?_⟩
      rw [List.range_succ, List.filter_append, List.map_append, ← hys]
      simp [hp]
  · have e : i = xs.length := by omega
    subst e
    exact .inl ⟨⟨_, _, q, q2, .inl (Nat.le_refl _)⟩, fin D H' hD sm (by rw [hDl, hys])⟩
end L2
namespace Seek
open PySem L2 PyProof.Rows
structure Nms (mg : Str → Option Value) (S : Addr) (cs : List Addr) : Prop where
  len : cs.length = 12
  seek : mg "SeekError" = some (.ref S)
  n0 : mg "NoTable" = some (.ref (cs.getD 0 0))
  n1 : mg "NoCell" = some (.ref (cs.getD 1 0))
  n2 : mg "NoNumber" = some (.ref (cs.getD 2 0))
  n3 : mg "NoSize" = some (.ref (cs.getD 3 0))
  n4 : mg "NoStair" = some (.ref (cs.getD 4 0))
  n5 : mg "NoLook" = some (.ref (cs.getD 5 0))
  n6 : mg "NoPlace" = some (.ref (cs.getD 6 0))
  n7 : mg "NoFit" = some (.ref (cs.getD 7 0))
  n8 : mg "NoChange" = some (.ref (cs.getD 8 0))
  n9 : mg "NoText" = some (.ref (cs.getD 9 0))
  n10 : mg "NoName" = some (.ref (cs.getD 10 0))
  n11 : mg "NoRow" = some (.ref (cs.getD 11 0))
theorem Err.kit {K : PySem.W.Frag} {S : Addr} {cs : List Addr} {i : Nat} {C : Addr} (h : Err K S cs i C) (hl : cs.length = 12) (j : Nat) (hj : j < 12) : PySem.W.kitOne K (.ref C) (.ref (cs.getD j 0)) = some (decide (j = i)) :=
  h.ks j _ (by rw [List.getD_eq_getElem?_getD, List.getElem?_eq_getElem (by omega)]; rfl)
def abT : Ab := ⟨[], fun _ => True, fun _ _ => trivial, fun _ _ => by simp⟩
def wdL : List Str := ["table", "cell", "number", "size", "stair", "look", "place", "fit", "change", "text", "name", "row"]
theorem rdss_strs {S : List Addr} {H : Hp} : ∀ {xs : List V} {ws : List Str}, RdSs S H xs (ws.map PyData.str) → xs = ws.map V.str
  | _, [], .nil => rfl
  | _, _ :: _, .cons r t => by
    cases r
    rw [List.map_cons, rdss_strs t]
theorem eqv_str1 (a b : Str) : PyData.eqv (.list [.str a]) (.list [.str b]) = decide (a = b) := by
  by_cases h : a = b <;> simp [PyData.eqv, PyData.eqvAll, h]
section
variable {P : Program} {w : World} {K : PySem.W.Frag} {mg : Str → Option Value} {base : Heap} {S : Addr} {cs : List Addr}
def spKind (K : PySem.W.Frag) (S : Addr) (cs : List Addr) : Sp := fun vs H Q _ => ∃ (e C : Addr) (i : Nat) (wd : Str), vs = [.ref e, .str wd] ∧ H e = some (excO e C) ∧ Err K S cs i C ∧ i < 12 ∧ SeqAt.shaped (.list [.str wd]) = true ∧ ∀ H', Same H H' → Q (.bl (decide (wdL.getD i "" = wd))) H'
abbrev kdN : List Str := ["e", "due", "kinds", "words", "found"]
theorem sc_kind : FnScope kdN ["e", "due"] (defScope dKind) := ⟨rfl, rfl, rfl, by decide +kernel, rfl, by decide +kernel, by decide +kernel⟩
def kb (i m : Nat) : List Bool := (List.range m).map fun c => decide (c = i)
theorem kb_at {i m j : Nat} (h : j < m) : ((kb i m).map V.bl)[j]? = some (.bl (decide (j = i))) := by
  unfold kb
  rw [List.map_map, List.getElem?_map, List.getElem?_range h]
  rfl
theorem wd_one {i : Nat} (h : i < 12) : ((List.range 12).filter fun j => decide (j = i)).map (fun j => V.str (wdL.getD j "")) = [V.str (wdL.getD i "")] := by
  have : (List.range 12).filter (fun j => decide (j = i)) = [i] := by
    have : ∀ i : Fin 12, (List.range 12).filter (fun j => decide (j = i.1)) = [i.1] := by decide
    exact this ⟨i, h⟩
  rw [this]
  rfl
theorem sh_wd {i : Nat} (h : i < 12) : SeqAt.shaped (.list [.str (wdL.getD i "")]) = true := by
  have : ∀ i : Fin 12, SeqAt.shaped (.list [.str (wdL.getD i.1 "")]) = true := by decide +kernel
  exact this ⟨i, h⟩
set_option maxHeartbeats 16000000 in
theorem ok_kind (T : Blt mg) (hzip : mg "zip" = none) (hve : mg "ValueError" = none) (N : Nms mg S cs) (Df : DefAt K mg "_law_kind" dKind ["e", "due"]) : FnAt P w K mg base 1 "_law_kind" ["e", "due"] (spKind K S cs) := by
  refine FnAt.of Df sc_kind (fun vs H Q E h => ?_) (fun f cdv A outer s H vs Q E hr h => ?_)
  · obtain ⟨e, C, i, wd, rfl, _⟩ := h
    rfl
  · obtain ⟨e, C, i, wd, rfl, he, er, hi, hw, q⟩ := h
    have nd := sc_kind.nd
    have nd1 : (["word", "kind"] : List Str).Nodup := by decide +kernel
    let X : Cx := (cxOf CX0 P w K mg base kdN "_law_kind" (defScope dKind) f cdv A outer s H E).nox
    have A0 : PS X ((defBody dKind).getD 0 (.Pass ⟨0, 0, 0, 0⟩)) _ := ps_set (i := 2) nd rfl (Or.inl rfl) (pe_lst (pa_cons (pe_b (call_isinstE K) T.isinst boot_isinstance (pa_cons (pv 0) (pa_cons (pe_glob (v := .ref _) rfl N.n0 rfl) pa_nil))) (pa_cons (pe_b (call_isinstE K) T.isinst boot_isinstance (pa_cons (pv 0) (pa_cons (pe_glob (v := .ref _) rfl N.n1 rfl) pa_nil))) (pa_cons (pe_b (call_isinstE K) T.isinst boot_isinstance (pa_cons (pv 0) (pa_cons (pe_glob (v := .ref _) rfl N.n2 rfl) pa_nil))) (pa_cons (pe_b (call_isinstE K) T.isinst boot_isinstance (pa_cons (pv 0) (pa_cons (pe_glob (v := .ref _) rfl N.n3 rfl) pa_nil))) pa_nil)))))
    have A1 : PS X ((defBody dKind).getD 1 (.Pass ⟨0, 0, 0, 0⟩)) _ := ps_set (i := 2) nd rfl (Or.inl rfl) (pe_op op_cat (pv 2) (pe_lst (pa_cons (pe_b (call_isinstE K) T.isinst boot_isinstance (pa_cons (pv 0) (pa_cons (pe_glob (v := .ref _) rfl N.n4 rfl) pa_nil))) (pa_cons (pe_b (call_isinstE K) T.isinst boot_isinstance (pa_cons (pv 0) (pa_cons (pe_glob (v := .ref _) rfl N.n5 rfl) pa_nil))) (pa_cons (pe_b (call_isinstE K) T.isinst boot_isinstance (pa_cons (pv 0) (pa_cons (pe_glob (v := .ref _) rfl N.n6 rfl) pa_nil))) (pa_cons (pe_b (call_isinstE K) T.isinst boot_isinstance (pa_cons (pv 0) (pa_cons (pe_glob (v := .ref _) rfl N.n7 rfl) pa_nil))) pa_nil))))))
    have A2 : PS X ((defBody dKind).getD 2 (.Pass ⟨0, 0, 0, 0⟩)) _ := ps_set (i := 2) nd rfl (Or.inl rfl) (pe_op op_cat (pv 2) (pe_lst (pa_cons (pe_b (call_isinstE K) T.isinst boot_isinstance (pa_cons (pv 0) (pa_cons (pe_glob (v := .ref _) rfl N.n8 rfl) pa_nil))) (pa_cons (pe_b (call_isinstE K) T.isinst boot_isinstance (pa_cons (pv 0) (pa_cons (pe_glob (v := .ref _) rfl N.n9 rfl) pa_nil))) (pa_cons (pe_b (call_isinstE K) T.isinst boot_isinstance (pa_cons (pv 0) (pa_cons (pe_glob (v := .ref _) rfl N.n10 rfl) pa_nil))) (pa_cons (pe_b (call_isinstE K) T.isinst boot_isinstance (pa_cons (pv 0) (pa_cons (pe_glob (v := .ref _) rfl N.n11 rfl) pa_nil))) pa_nil))))))
    have L3 := fun (es : List Expr) (p1 p2 p3 : Pos) => ps_w1 (X := X) (C := fun d => litOf 40 (.List es p1) = some d) fun d h => ps_set (X := X) (pos := p2) (pos' := p3) (i := 3) nd rfl (Or.inl rfl) (ad_lit (φ := (· = d)) (Γ := fun B _ _ => B = abT) d (fun _ _ _ _ h _ => h) h rfl).pe
    have A3 : PS X ((defBody dKind).getD 3 (.Pass ⟨0, 0, 0, 0⟩)) _ := L3 _ _ _ _
    have A4 : PS X ((defBody dKind).getD 4 (.Pass ⟨0, 0, 0, 0⟩)) _ := ps_setC ["word", "kind"] [none, none] (defScope dKind) kdN (i := 4) nd rfl (Or.inl rfl) rfl (pi_zip rfl hzip (pa_cons (pv 3) (pa_cons (pv 2) pa_nil))) (by decide +kernel) (fun cl C s2 H2 ex => pg_cz K rfl nd1) (fun cl C s2 H2 ex => pifs_one (pt_val (pv 1))) (fun cl C s2 H2 ex => pv 0)
    have A5 : PS X ((defBody dKind).getD 5 (.Pass ⟨0, 0, 0, 0⟩)) _ := ps_ret (pe_and (pe_b (call_isinstET K) T.isinst boot_isinstance (pa_cons (pv 0) (pa_cons (pe_ty hve boot_ValueError) pa_nil))) (pe_one (pe_cmpR (op_eqD hr.units) (pv 4) (pe_lst (pa_cons (pv 1) pa_nil)) (nomark _))))
    obtain ⟨B0, e0⟩ : ∃ S, S = (defBody dKind).getD 0 (.Pass ⟨0, 0, 0, 0⟩) := ⟨_, rfl⟩
    rw [← e0] at A0
    obtain ⟨B1, e1⟩ : ∃ S, S = (defBody dKind).getD 1 (.Pass ⟨0, 0, 0, 0⟩) := ⟨_, rfl⟩
    rw [← e1] at A1
    obtain ⟨B2, e2⟩ : ∃ S, S = (defBody dKind).getD 2 (.Pass ⟨0, 0, 0, 0⟩) := ⟨_, rfl⟩
    rw [← e2] at A2
    obtain ⟨B3, e3⟩ : ∃ S, S = (defBody dKind).getD 3 (.Pass ⟨0, 0, 0, 0⟩) := ⟨_, rfl⟩
    rw [← e3] at A3
    obtain ⟨B4, e4⟩ : ∃ S, S = (defBody dKind).getD 4 (.Pass ⟨0, 0, 0, 0⟩) := ⟨_, rfl⟩
    rw [← e4] at A4
    obtain ⟨B5, e5⟩ : ∃ S, S = (defBody dKind).getD 5 (.Pass ⟨0, 0, 0, 0⟩) := ⟨_, rfl⟩
    rw [← e5] at A5
    have hbd : defBody dKind = [B0, B1, B2, B3, B4, B5] := by
      rw [e0, e1, e2, e3, e4, e5]
      kernel_rfl
    rw [hbd]
    clear hbd e0 e1 e2 e3 e4 e5 L3
    have kk := er.kit N.len
    refine ⟨_, pss_cons A0 (pss_cons A1 (pss_cons A2 (pss_cons A3 (pss_cons A4 (pss_one A5))))), ?_⟩
    refine ⟨_, rfl, e, C, _, _, rfl, he, er.k, kk 0 (by decide), _, rfl, e, C, _, _, rfl, he, er.k, kk 1 (by decide), _, rfl, e, C, _, _, rfl, he, er.k, kk 2 (by decide), _, rfl, e, C, _, _, rfl, he, er.k, kk 3 (by decide), len4, fun l1 h1 => ?_⟩
    have s1 := Same.new (o := .lst [.bl (decide (0 = i)), .bl (decide (1 = i)), .bl (decide (2 = i)), .bl (decide (3 = i))]) h1
    have e1 : (upd H l1 (.lst [.bl (decide (0 = i)), .bl (decide (1 = i)), .bl (decide (2 = i)), .bl (decide (3 = i))])) l1 = some (.lst ((kb i 4).map V.bl)) := upd_same
    generalize upd H l1 (.lst [.bl (decide (0 = i)), .bl (decide (1 = i)), .bl (decide (2 = i)), .bl (decide (3 = i))]) = H1 at s1 e1 ⊢
    have he1 := s1 _ _ he
    refine ⟨_, rfl, _, rfl, e, C, _, _, rfl, he1, er.k, kk 4 (by decide), _, rfl, e, C, _, _, rfl, he1, er.k, kk 5 (by decide), _, rfl, e, C, _, _, rfl, he1, er.k, kk 6 (by decide), _, rfl, e, C, _, _, rfl, he1, er.k, kk 7 (by decide), len4, fun l2 h2 => ⟨l1, l2, _, _, rfl, rfl, Same.new h2 _ _ e1, upd_same, (show 8 ≤ sizeLine by decide), fun l3 h3 => ?_⟩⟩
    have s3 := s1.trans ((Same.new (o := .lst [.bl (decide (4 = i)), .bl (decide (5 = i)), .bl (decide (6 = i)), .bl (decide (7 = i))]) h2).trans (Same.new (o := .lst ((kb i 4).map V.bl ++ [.bl (decide (4 = i)), .bl (decide (5 = i)), .bl (decide (6 = i)), .bl (decide (7 = i))])) h3))
    have e3 : (upd (upd H1 l2 (.lst [.bl (decide (4 = i)), .bl (decide (5 = i)), .bl (decide (6 = i)), .bl (decide (7 = i))])) l3 (.lst ((kb i 4).map V.bl ++ [.bl (decide (4 = i)), .bl (decide (5 = i)), .bl (decide (6 = i)), .bl (decide (7 = i))]))) l3 = some (.lst ((kb i 8).map V.bl)) := upd_same
    generalize upd (upd H1 l2 (.lst [.bl (decide (4 = i)), .bl (decide (5 = i)), .bl (decide (6 = i)), .bl (decide (7 = i))])) l3 (.lst ((kb i 4).map V.bl ++ [.bl (decide (4 = i)), .bl (decide (5 = i)), .bl (decide (6 = i)), .bl (decide (7 = i))])) = H3 at s3 e3 ⊢
    have he3 := s3 _ _ he
    refine ⟨_, rfl, _, rfl, e, C, _, _, rfl, he3, er.k, kk 8 (by decide), _, rfl, e, C, _, _, rfl, he3, er.k, kk 9 (by decide), _, rfl, e, C, _, _, rfl, he3, er.k, kk 10 (by decide), _, rfl, e, C, _, _, rfl, he3, er.k, kk 11 (by decide), len4, fun l4 h4 => ⟨l3, l4, _, _, rfl, rfl, Same.new h4 _ _ e3, upd_same, (show 12 ≤ sizeLine by decide), fun l5 h5 => ?_⟩⟩
    have s5 := s3.trans ((Same.new (o := .lst [.bl (decide (8 = i)), .bl (decide (9 = i)), .bl (decide (10 = i)), .bl (decide (11 = i))]) h4).trans (Same.new (o := .lst ((kb i 8).map V.bl ++ [.bl (decide (8 = i)), .bl (decide (9 = i)), .bl (decide (10 = i)), .bl (decide (11 = i))])) h5))
    have e5 : (upd (upd H3 l4 (.lst [.bl (decide (8 = i)), .bl (decide (9 = i)), .bl (decide (10 = i)), .bl (decide (11 = i))])) l5 (.lst ((kb i 8).map V.bl ++ [.bl (decide (8 = i)), .bl (decide (9 = i)), .bl (decide (10 = i)), .bl (decide (11 = i))]))) l5 = some (.lst ((kb i 12).map V.bl)) := upd_same
    generalize upd (upd H3 l4 (.lst [.bl (decide (8 = i)), .bl (decide (9 = i)), .bl (decide (10 = i)), .bl (decide (11 = i))])) l5 (.lst ((kb i 8).map V.bl ++ [.bl (decide (8 = i)), .bl (decide (9 = i)), .bl (decide (10 = i)), .bl (decide (11 = i))])) = H5 at s5 e5 ⊢
    refine ⟨.list (wdL.map PyData.str), by kernel_rfl, abT, rfl, trivial, fun v6 H6 b6 _ ⟨d6, r6, e6⟩ => ?_⟩
    subst e6
    have s6 : Same H H6 := fun b o e => b6 b o (by simp [abT]) (s5 _ _ e)
    have e56 : H6 l5 = some (.lst ((kb i 12).map V.bl)) := b6 _ _ (by simp [abT]) e5
    cases r6 with
    | @lst a6 xs6 _ ea6 na6 ra6 =>
      have hx6 := rdss_strs ra6
      subst hx6
      refine ⟨_, rfl, _, rfl, a6, l5, rfl, ⟨_, SqL.of ea6⟩, ⟨_, SqL.of e56⟩, compZ_if (fun j => decide (j = i)) (fun j => V.str (wdL.getD j "")) (SqL.of ea6) (SqL.of e56) rfl (show 12 ≤ 1000 by decide) (fun j x z hx hz H' Q' sm q' => ?_) (fun j x z hx hz H' Q' sm q' => ?_) fun D7 H7 hD7 s7 eD7 => ?_⟩
      · have hj : j < 12 := by
          have := (List.getElem?_eq_some_iff.mp hx).1
          rw [List.length_map] at this
          exact this
        rw [kb_at hj] at hz
        rw [← Option.some.inj hz]
        exact ⟨_, rfl, _, rfl, q'⟩
      · have hj : j < 12 := by
          have := (List.getElem?_eq_some_iff.mp hx).1
          rw [List.length_map] at this
          exact this
        refine ⟨x, rfl, ?_⟩
        rw [List.getElem?_map] at hx
        obtain ⟨w', h1', h2'⟩ := Option.map_eq_some_iff.mp hx
        have : wdL.getD j "" = w' := by rw [List.getD_eq_getElem?_getD, h1']; rfl
        rw [← h2', ← this]
        exact q'
      · rw [show (wdL.map V.str).length = 12 from rfl, wd_one hi] at eD7
        have he7 := s7 _ _ (s6 _ _ he)
        refine ⟨_, rfl, e, C, _, _, rfl, he7, er.k, er.kv, _, rfl, iteT ⟨_, rfl, _, rfl, len1, fun l8 h8 => ?_⟩⟩
        have s8 := Same.new (o := .lst [.str wd]) h8
        refine ⟨_, _, .lst (SqL.of (s8 _ _ eD7)) (.cons (.str _) .nil), .lst (SqL.of upd_same) (.cons (.str wd) .nil), sh_wd hi, hw, ?_⟩
        rw [show (if false = true then !PyData.eqv (.list [.str (wdL.getD i "")]) (.list [.str wd]) else PyData.eqv (.list [.str (wdL.getD i "")]) (.list [.str wd])) = _ from eqv_str1 _ _]
        exact q _ ((s6.trans s7).trans s8)
end
section
variable {P : Program} {w : World} {K : PySem.W.Frag} {mg : Str → Option Value} {base : Heap} {C c1 c2 c7 c8 : Addr}
def ChX (c1 c2 c7 : Addr) (H : Hp) (E : Addr → Hp → Prop) (prs : Prs) (y z : V) : Prop :=
  (∃ d, RdS [] H y d ∧ Sz 1000000 60 d ∧ cellD prs.length (w0 prs) d = false ∧ ∀ H', Same H H' → E c1 H') ∨
  (∃ c i j d, y = .ref c ∧ Cell H c i j ∧ i < prs.length ∧ j < w0 prs ∧ RdS [] H z d ∧ isIntD d = false ∧ ∀ H', Same H H' → E c2 H') ∨
  (∃ c i j x, y = .ref c ∧ Cell H c i j ∧ i < prs.length ∧ j < w0 prs ∧ z = .int x ∧ rowsOk (setR (prs.map (·.2)) i j x) = false ∧ ∀ H', Same H H' → E c7 H')
def spChangedX (c1 c2 c7 : Addr) : Sp := fun vs H _ E => ∃ (t : Addr) (prs : Prs) (y z : V), vs = [.ref t, y, z] ∧ Tab H t prs ∧ tabB prs = true ∧ ChX c1 c2 c7 H (fun c H' => E (.ref c) none H') prs y z
set_option maxHeartbeats 16000000 in
theorem ok_changedX (hk : ExcK K c7) (hm : mg "NoFit" = some (.ref c7)) (D : DefAt K mg "changed_table" dChanged ["table", "cell", "x"]) (G1 : FnAt P w K mg base 5 "need_cell" ["table", "thing"] spNeedCell) (G1X : FnAtX P w K mg base 5 "need_cell" ["table", "thing"] (spNeedCX c1))
    (G2 : FnAt P w K mg base 2 "need_number" ["thing"] spNeedNumber) (G2X : FnAtX P w K mg base 2 "need_number" ["thing"] (spNeedNX c2)) (G3 : FnAt P w K mg base 2 "table_with" ["table", "cell", "x"] spWith) (G4 : FnAt P w K mg base 5 "is_table" ["thing"] spIsTable) :
    FnAtX P w K mg base 6 "changed_table" ["table", "cell", "x"] (spChangedX c1 c2 c7) := by
  refine FnAtX.of D sc_changed (fun vs H Q E h => ?_) (fun f cdv A outer s H vs Q E hr h => ?_)
  · obtain ⟨t, prs, y, z, rfl, _⟩ := h
    rfl
  · obtain ⟨t, prs, y, z, rfl, hT, hg, h⟩ := h
    have nd := sc_changed.nd
    rcases h with ⟨d, rd, sz, hc, he⟩ | ⟨c, i, j, d, rfl, hc, hi, hj, rd, hn, he⟩ | ⟨c, i, j, x, rfl, hc, hi, hj, rfl, ok, he⟩
    · refine ⟨_, pss_cons (ps_expr (pe_fx G1X hr flies_def (pa_cons (pv 0) (pa_cons (pv 1) pa_nil)))) pss_never, ?_⟩
      exact ⟨_, rfl, _, rfl, t, prs, y, d, rfl, hT, hg, rd, sz, hc, he⟩
    · refine ⟨_, pss_cons (ps_expr (pe_f G1 hr (pa_cons (pv 0) (pa_cons (pv 1) pa_nil)))) (pss_cons (ps_expr (pe_fx G2X (hr.mono (by decide)) flies_def (pa_cons (pv 2) pa_nil))) pss_never), ?_⟩
      exact ⟨_, rfl, _, rfl, t, c, prs, i, j, rfl, hT, hg, hc, hi, hj, fun H1 s1 => ⟨_, rfl, z, d, rfl, rd.same s1, (fun e => by rw [hn] at e; cases e), fun _ => he H1 s1⟩⟩
    · obtain ⟨g, g1, g2, g3, g4⟩ := good_of hg
      have hli : (rowAt prs i).length = w0 prs := by
        obtain ⟨p, hp, _, e⟩ := rowAt_mem hi
        rw [e]
        exact g.len p hp
      refine ⟨_, pss_cons (ps_expr (pe_f G1 hr (pa_cons (pv 0) (pa_cons (pv 1) pa_nil)))) (pss_cons (ps_expr (pe_f G2 (hr.mono (by decide)) (pa_cons (pv 2) pa_nil)))
        (pss_cons (ps_set (i := 3) nd rfl (Or.inl rfl) (pe_f G3 (hr.mono (by decide)) (pa_cons (pv 0) (pa_cons (pv 1) (pa_cons (pv 2) pa_nil)))))
        (pss_cons (ps_if (pt_not (pt_val (pe_f G4 hr (pa_cons (pv 3) pa_nil)))) (pss_one (ps_raise throws_def hk pe_str hm)) pss_nil) pss_never))), ?_⟩
      refine ⟨_, rfl, _, rfl, t, c, prs, i, j, rfl, hT, hg, hc, hi, hj, fun H1 s1 => ⟨_, rfl, x, rfl, ?_⟩⟩
      refine ⟨_, rfl, _, rfl, _, rfl, t, c, prs, i, j, x, rfl, hT.same s1, good_bounds hg, s1 _ _ hc, hi, by omega, fun t' prs' H2 ht' hq hnd s2 hT2 hrows => ?_⟩
      refine ⟨_, rfl, t', prs', rfl, hT2, sm_rows (rows := []) (good_bounds hg) hrows, fun H3 s3 => ⟨_, rfl, ?_⟩⟩
      rw [rowsOk_of hrows, ok]
      exact iteT (he H3 (s1.trans (s2.trans s3)))
def spKChX (C c1 c2 c7 : Addr) : Sp := fun vs H _ E => ∃ (a dx t l : Addr) (prs : Prs) (cs : Ch) (y z : V), vs = [.ref a, y, z] ∧ Keep H C a dx t l prs cs ∧ ChX c1 c2 c7 H (fun c H' => E (.ref c) none H') prs y z
theorem ok_kChX (kc : KpC K C) (D : MethDef K C "change" "Keeper.change" (methOf dKeeper 1) ["self", "cell", "x"]) (G1 : FnAtX P w K mg base 6 "changed_table" ["table", "cell", "x"] (spChangedX c1 c2 c7)) : MtAtX P w K mg base 8 C "change" ["self", "cell", "x"] (spKChX C c1 c2 c7) := by
  refine MtAtX.of D sc_kChange (fun vs H Q E h => ?_) (fun f cdv A outer s H vs Q E hr h => ?_)
  · obtain ⟨a, dx, t, l, prs, cs, y, z, rfl, _⟩ := h
    rfl
  · obtain ⟨a, dx, t, l, prs, cs, y, z, rfl, hk, h⟩ := h
    have nd := sc_kChange.nd
    refine ⟨_, pss_cons (ps_set (i := 3) nd rfl (Or.inl rfl) (pe_fx G1 (hr.mono (by decide)) flies_def (pa_cons (pe_fld (pv 0) rfl) (pa_cons (pv 1) (pa_cons (pv 2) pa_nil))))) pss_never, ?_⟩
    exact ⟨_, rfl, a, C, dx, _, _, rfl, hk.ob, kc.cls, kc.nr, rfl, _, rfl, _, rfl, t, prs, y, z, rfl, hk.T, hk.ok, h⟩
end
def numStr (n : Int) : Str := Str.ofString (toString n)
def dg (m : Nat) : List Nat := (Nat.toDigits 10 m).map Char.toNat
theorem dg_digits (m : Nat) : ∀ c ∈ dg m, 48 ≤ c ∧ c ≤ 57 := fun c hc => by
  obtain ⟨ch, hch, e⟩ := List.mem_map.mp hc
  have r := digit_range (Nat.isDigit_of_mem_toDigits (by decide) (by decide) hch)
  rw [← e]
  exact r
theorem dg_ne (m : Nat) : dg m ≠ [] := fun e => by
  have h := toDigits_len_ge 10 m
  rw [List.map_eq_nil_iff.mp e] at h
  exact absurd h (by decide)
theorem dg_zero : dg 0 = [48] := by decide
theorem dg_head (m : Nat) : 0 < m → ∃ c r, dg m = c :: r ∧ c ≠ 48 := by
  induction m using Nat.strongRecOn with
  | _ m ih =>
    intro h0
    by_cases h : m < 10
    · refine ⟨(Nat.digitChar m).toNat, [], ?_, ?_⟩
      · unfold dg
        rw [Nat.toDigits_of_lt_base h]
        rfl
      · have : ∀ k : Nat, k < 10 → 0 < k → (Nat.digitChar k).toNat ≠ 48 := by decide
        exact this m h h0
    · have hm : m % 10 < 10 := Nat.mod_lt m (by decide)
      have t : Nat.toDigits 10 (m / 10) ++ Nat.toDigits 10 (m % 10) = Nat.toDigits 10 (10 * (m / 10) + m % 10) := Nat.toDigits_append_toDigits (by decide) (by omega) hm
      rw [Nat.div_add_mod] at t
      obtain ⟨c, r, e, hc⟩ := ih (m / 10) (by omega) (by omega)
      refine ⟨c, r ++ (Nat.toDigits 10 (m % 10)).map Char.toNat, ?_, hc⟩
      unfold dg at e ⊢
      rw [← t, List.map_append, e]
      rfl
theorem numStr_nat (m : Nat) : (numStr (m : Int)).cps.toList = dg m := PySem.W.KIN.signs_num m
theorem numStr_neg (m : Nat) : (numStr (Int.negSucc m)).cps.toList = 45 :: dg (m + 1) := by
  unfold numStr
  rw [signs_ofString]
  show ("-" ++ Nat.repr (m + 1)).toList.map Char.toNat = _
  rw [String.toList_append, List.map_append, Nat.toList_repr]
  rfl
theorem str_len (x : Str) : x.cps.toList.length = x.length := Array.length_toList
theorem dg_len {m k : Nat} (h : m < 10 ^ k) (hk : 1 ≤ k) : (dg m).length ≤ k := by
  rw [← numStr_nat, str_len]
  exact toString_length_le (Int.natCast_nonneg _) hk (by exact_mod_cast h)
theorem num_len {n : Int} {k : Nat} (h : n.natAbs < 10 ^ k) (hk : 1 ≤ k) : (numStr n).length ≤ k + 1 := by
  rw [← str_len]
  cases n with
  | ofNat m =>
    rw [show Int.ofNat m = (m : Int) from rfl, numStr_nat]
    exact Nat.le_succ_of_le (dg_len h hk)
  | negSucc m =>
    rw [numStr_neg, List.length_cons]
    exact Nat.succ_le_succ (dg_len h hk)
theorem num_read {n : Int} (hl : (numStr n).length ≤ 4300) : intText? (numStr n) = some n := by
  cases n with
  | ofNat m =>
    have e := PySem.intText_digits (x := numStr (m : Int)) (by rw [numStr_nat]; exact dg_digits m) (by rw [numStr_nat]; exact dg_ne m) hl
    rw [numStr_nat] at e
    exact e.trans (by rw [show PySem.NumText.digitsVal (dg m) = m from PySem.W.KIN.val_back m]; rfl)
  | negSucc m =>
    have e := PySem.intText_neg (x := numStr (Int.negSucc m)) (numStr_neg m) (dg_digits _) (dg_ne _) hl
    exact e.trans (by rw [show PySem.NumText.digitsVal (dg (m + 1)) = m + 1 from PySem.W.KIN.val_back (m + 1)]; rfl)
theorem num_free {n : Int} {c : Nat} (hc : c < 45) : c ∉ (numStr n).cps.toList := fun h => by
  cases n with
  | ofNat m =>
    rw [show Int.ofNat m = (m : Int) from rfl, numStr_nat] at h
    have := dg_digits m c h
    omega
  | negSucc m =>
    rw [numStr_neg] at h
    rcases List.mem_cons.mp h with z | z
    · omega
    · have := dg_digits _ c z
      omega
theorem join_list (c : Nat) (w : Str) : ∀ r : List Str, (Str.join ⟨#[c]⟩ (w :: r)).cps.toList = w.cps.toList ++ (match r with | [] => [] | x :: y => c :: (Str.join ⟨#[c]⟩ (x :: y)).cps.toList)
  | [] => by simp [Str.join]
  | x :: y => by
    rw [join_cons_cons]
    show ((w.cps ++ #[c]) ++ (Str.join ⟨#[c]⟩ (x :: y)).cps).toList = _
    simp
theorem free_cut {c : Nat} : ∀ {a b a' b' : List Nat}, c ∉ a → c ∉ a' → a ++ c :: b = a' ++ c :: b' → a = a' ∧ b = b'
  | [], b, [], b', _, _, e => by simpa using e
  | [], b, x :: a', b', _, h, e => by
    injection e with e1 e2
    exact absurd (by rw [e1]; exact .head _) h
  | x :: a, b, [], b', h, _, e => by
    injection e with e1 e2
    exact absurd (by rw [← e1]; exact .head _) h
  | x :: a, b, y :: a', b', h, h', e => by
    injection e with e1 e2
    obtain ⟨z1, z2⟩ := free_cut (fun z => h (.tail _ z)) (fun z => h' (.tail _ z)) e2
    exact ⟨by rw [e1, z1], z2⟩
theorem str_ext {a b : Str} (h : a.cps.toList = b.cps.toList) : a = b := Str.ext' (Array.toList_inj.mp h)
theorem join_inj (c : Nat) : ∀ (ps ws : List Str), ps ≠ [] → ws ≠ [] → (∀ p ∈ ps, c ∉ p.cps.toList) → (∀ p ∈ ws, c ∉ p.cps.toList) → (Str.join ⟨#[c]⟩ ps).cps.toList = (Str.join ⟨#[c]⟩ ws).cps.toList → ps = ws
  | [], _, h, _, _, _, _ => absurd rfl h
  | _, [], _, h, _, _, _ => absurd rfl h
  | [p], [w], _, _, _, _, e => by
    rw [show p = w from str_ext e]
  | [p], w :: x :: r, _, _, hp, _, e => by
    rw [join_list, join_list] at e
    exfalso
    simp only [List.append_nil] at e
    exact hp p (.head _) (by rw [e]; simp)
  | p :: x :: r, [w], _, _, _, hw, e => by
    rw [join_list, join_list] at e
    exfalso
    simp only [List.append_nil] at e
    exact hw w (.head _) (by rw [← e]; simp)
  | p :: x :: r, w :: y :: t, _, _, hp, hw, e => by
    rw [join_list, join_list] at e
    obtain ⟨z1, z2⟩ := free_cut (hp p (.head _)) (hw w (.head _)) e
    rw [show p = w from str_ext z1, join_inj c (x :: r) (y :: t) (by simp) (by simp) (fun q hq => hp q (.tail _ hq)) (fun q hq => hw q (.tail _ hq)) z2]
theorem split_ne (z y : Str) : Txt.split z y ≠ [] := by
  unfold Txt.split
  split
  · simp
  · split
    · simp
    · rw [StrLaws.partsBetween_eq]
      obtain ⟨p, r, e⟩ := StrLaws.partsFrom_ne z y.length 0 (Builtin.Str.occurrences z y 0 z.length (z.length + 1))
      rw [e]
      simp
theorem split_join {c : Nat} {ws : List Str} (h : ws ≠ []) (hf : ∀ w ∈ ws, c ∉ w.cps.toList) : Txt.split (Txt.join ⟨#[c]⟩ ws) ⟨#[c]⟩ = ws := by
  refine join_inj c _ _ (split_ne _ _) h (StrLaws.split_free _ c) hf ?_
  rw [StrLaws.join_split]
  show (Builtin.Str.glued _ _).cps.toList = _
  rw [StrLaws.glued_eq_join]
theorem comp_str {z : Str} {σ0 : L2.St} {H1 : Hp} {te : TE} {Q : VK} (f : Nat → V) (hn : z.length ≤ 1000) (he : ∀ c ∈ z.cps.toList, ∀ (H' : Hp) (Q' : VK), Same H1 H' → (∀ H'', Same H' H'' → Q' (f c) H'') → te (σ0.set 0 (some (.str ⟨#[c]⟩))) H' Q')
    (fin : ∀ D H', H1 D = none → Same H1 H' → H' D = some (.lst (z.cps.toList.map f)) → Q (.ref D) H') : CompRun (Its z) (gName 0) tTrue te σ0 H1 Q := by
  intro D hD
  refine comp_by (n := z.cps.size) (fun i ys H' => Same H1 H' ∧ H' D = some (.lst ys) ∧ ys = (z.cps.toList.take i).map f) ⟨Same.new hD, upd_same, by simp⟩ (fun i ys H' _ q => q.2.1) (fun i ys H' hi _ => hi) (fun ys H' _ => Nat.le_refl _) ?_ ?_
  · rintro i ys H' x H2 hi ⟨s1, eD, rfl⟩ ⟨rfl, c, hc, rfl⟩
    unfold tTrue
    refine iteT ?_
    have hl : i < z.cps.toList.length := by simpa using hi
    have hc' : z.cps.toList[i]? = some c := by rw [Array.getElem?_toList]; exact hc
    have hm : c ∈ z.cps.toList := List.mem_of_getElem? hc'
    refine he c hm _ _ s1 fun H'' s2 => ⟨s2 _ _ eD, ?_, (s1.trans s2).upd hD, upd_same, ?_⟩
    · rw [List.length_map, List.length_take]
      have : z.cps.toList.length = z.length := str_len z
      exact small1000 (by omega)
    · rw [List.take_add_one, hc', List.map_append]
      rfl
  · rintro ys H' ⟨s1, eD, rfl⟩
    rw [show z.cps.size = z.cps.toList.length by simp, List.take_length] at eD
    exact fin D H' hD s1 eD
theorem comp_tab {K : PySem.W.Frag} {a : Addr} {α : Type} {ms : List α} {σ0 : L2.St} {H1 : Hp} {te : TE} {Q : VK} (u : α → V) (f : α → List Int) (hq : SqL K H1 a (ms.map u)) (hn : ms.length ≤ 1000)
    (he : ∀ m ∈ ms, ∀ (H' : Hp) (Q' : VK), Same H1 H' → (∀ p H'', H' p = none → Same H' H'' → Row H'' p (f m) → Q' (.ref p) H'') → te (σ0.set 0 (some (u m))) H' Q')
    (fin : ∀ t prs H', H1 t = none → (∀ p ∈ prs, H1 p.1 = none ∧ p.1 ≠ t) → (prs.map (·.1)).Nodup → Same H1 H' → Tab H' t prs → prs.map (·.2) = ms.map f → Q (.ref t) H') : CompRun (Itl K a) (gName 0) tTrue te σ0 H1 Q := by
  intro D hD
  refine comp_by (n := ms.length) (fun i ys H' => ∃ qs : Prs, Same H1 H' ∧ H' D = some (.lst ys) ∧ ys = (qs.map fun p => V.ref p.1) ∧ qs.length = i ∧ qs.map (·.2) = (ms.take i).map f ∧ (∀ p ∈ qs, Row H' p.1 p.2 ∧ H1 p.1 = none ∧ p.1 ≠ D) ∧ (qs.map (·.1)).Nodup)
    ⟨[], Same.new hD, upd_same, rfl, rfl, by simp, fun p hp => (nomatch hp), .nil⟩ (fun i ys H' _ ⟨_, _, h, _⟩ => h) (fun i ys H' hi ⟨_, sm, _⟩ => ⟨_, u ms[i], sm.seq hq, by simp [hi]⟩) (fun ys H' ⟨_, sm, _⟩ => ⟨_, sm.seq hq, by simp⟩) ?_ (fun ys H' h => ?_)
  · rintro i ys H' x H2 hi ⟨qs, sm, hDl, rfl, hql, hqm, hq', hnd⟩ ⟨rfl, hy⟩
    have hx := hy _ (sm.seq hq)
    rw [List.getElem?_map, List.getElem?_eq_getElem hi] at hx
    have hx : u ms[i] = x := Option.some.inj hx
    subst hx
    unfold tTrue
    refine iteT ?_
    refine he ms[i] (List.getElem_mem hi) _ _ sm fun l H'' hl s2 hR => ?_
    have nlD : D ≠ l := ne_of_none hDl hl
    refine ⟨s2 _ _ hDl, ?_, qs ++ [(l, f ms[i])], (sm.trans s2).upd hD, upd_same, ?_, ?_, ?_, ?_, ?_⟩
    · rw [List.length_map, hql]
      exact small1000 (by omega)
    · rw [List.map_append]
      rfl
    · rw [List.length_append, List.length_singleton, hql]
    · rw [List.map_append, hqm, List.take_add_one, List.getElem?_eq_getElem hi, List.map_append]
      rfl
    · intro p hp
      rcases List.mem_append.mp hp with z | z
      · obtain ⟨z1, z2, z3⟩ := hq' p z
        refine ⟨?_, z2, z3⟩
        unfold Row
        rw [upd_ne z3]
        exact s2 _ _ z1
      · rw [List.mem_singleton.mp z]
        refine ⟨?_, sm.free hl, Ne.symm nlD⟩
        unfold Row
        rw [upd_ne (Ne.symm nlD)]
        exact hR
    · rw [List.map_append, List.nodup_append]
      refine ⟨hnd, by simp, fun a ha b hb z => ?_⟩
      obtain ⟨p, hp, rfl⟩ := List.mem_map.mp ha
      rw [List.map_singleton, List.mem_singleton] at hb
      have e : p.1 = l := z.trans hb
      have hR := (hq' p hp).1
      unfold Row at hR
      rw [e, hl] at hR
      cases hR
  · obtain ⟨qs, sm, hDl, rfl, hql, hqm, hq', hnd⟩ := h
    rw [List.take_length] at hqm
    exact fin D qs H' hD (fun p hp => (hq' p hp).2) hnd sm ⟨hDl, fun p hp => (hq' p hp).1⟩ hqm
abbrev figS : Str := "0123456789"
theorem fig_in {c : Nat} (h : 48 ≤ c ∧ c ≤ 57) : (!(Builtin.Str.occurrences figS ⟨#[c]⟩ 0 figS.length 1).isEmpty) = true := by
  rw [StrLaws.found_one, decide_eq_true_eq]
  have e : figS.cps.toList = [48, 49, 50, 51, 52, 53, 54, 55, 56, 57] := by decide +kernel
  rw [e]
  simp only [List.mem_cons, List.not_mem_nil, or_false]
  omega
theorem vstr_ne {x y : Str} (h : x.cps.toList ≠ y.cps.toList) : ¬ (V.str x = V.str y) := fun z => by
  injection z with z
  exact h (by rw [z])
theorem e_l : (Str.ofString "").cps.toList = [] := by decide +kernel
theorem z_l : (Str.ofString "0").cps.toList = [48] := by decide +kernel
theorem m_l : (Str.ofString "-").cps.toList = [45] := by decide +kernel
theorem mz_l : (Str.ofString "-0").cps.toList = [45, 48] := by decide +kernel
theorem starts_m (x : Str) : Txt.startswith x "-" = decide (x.cps.toList.head? = some 45) := by
  have h : Txt.startswith x "-" = (decide (0 + (Str.ofString "-").length ≤ x.length) && Builtin.Str.subAt x "-" 0) := rfl
  rw [h, StrLaws.subAt_eq, m_l, ← str_len x, ← str_len (Str.ofString "-"), m_l]
  cases e : x.cps.toList with
  | nil => simp
  | cons c r =>
    simp only [List.drop_zero, List.length_cons, List.length_nil, List.head?_cons, Option.some.injEq]
    by_cases hc : c = 45
    · subst hc; simp
    · rw [decide_eq_false hc]
      simp [hc]
section
variable {P : Program} {w : World} {K : PySem.W.Frag} {mg : Str → Option Value} {base : Heap} {c : Addr}
def spWC : Sp := fun vs H Q _ => ∃ (x : Str) (m : Nat), vs = [.str x] ∧ x.cps.toList = dg m ∧ x.length ≤ 1000 ∧ ∀ H', Same H H' → Q (.bl true) H'
theorem sc_wc : FnScope ["word"] ["word"] (defScope dWCount) := ⟨rfl, rfl, rfl, by decide +kernel, rfl, by decide +kernel, by decide +kernel⟩
set_option maxHeartbeats 4000000 in
theorem ok_wCount (T : Blt mg) (hf : ∃ t, mg "FIGURES" = some (.str figS t)) (D : DefAt K mg "writes_count" dWCount ["word"]) : FnAt P w K mg base 1 "writes_count" ["word"] spWC := by
  refine FnAt.of D sc_wc (fun vs H Q E h => ?_) (fun f cdv A outer s H vs Q E hr h => ?_)
  · obtain ⟨x, m, rfl, _⟩ := h
    rfl
  · obtain ⟨x, m, rfl, hx, hl, q⟩ := h
    obtain ⟨tf, hf⟩ := hf
    have nd1 : (["sign"] : List Str).Nodup := by decide +kernel
    refine ⟨_, pss_cons (ps_if (PW.pt (pw_or (pt_cmpR op_eq (pv 0) pe_str (nomark _)) (pw_or1 (pt_not (pt_val (pe_b (call_all rfl) T.all boot_all (pa_cons (pe_comp ["sign"] [none] (defScope dWCount) ["word"] rfl (pi_str (pv 0)) (by decide +kernel)
        (fun cl C s2 H2 ex => pg_c 0 nd1) (fun cl C s2 H2 ex => pifs_nil) (fun cl C s2 H2 ex => pe_cmpR op_in_str (pv 0) (pe_glob (v := .str figS) rfl hf ⟨_, rfl⟩) rfl)) pa_nil))))))) (pss_one (ps_ret pe_bl)) pss_nil)
      (pss_one (ps_ret (pe_or (pe_cmpR op_eq (pv 0) pe_str (nomark _)) (pe_one (pe_cmpR op_ne (pe_ix ix_str (pv 0) pe_int (fun _ _ => rfl)) pe_str (nomark _)))))), ?_⟩
    refine ⟨_, rfl, rfl, _, rfl, iteDf (vstr_ne (by rw [hx, e_l]; exact dg_ne m)) ⟨_, rfl, x, rfl, comp_str (fun _ => V.bl true) hl (fun c hc H' Q' sm q' => ⟨_, rfl, _, _, rfl, rfl, ?_⟩) fun D H1 hD s1 hDl => ?_⟩⟩
    · rw [hx] at hc
      rw [fig_in (dg_digits m c hc)]
      exact q' _ (Same.refl _)
    · refine ⟨D, x.cps.toList.map fun _ => true, rfl, SqL.of (by rw [hDl, List.map_map]; rfl), ⟨_, rfl, ?_⟩⟩
      rw [show (x.cps.toList.map fun _ => true).all id = true by rw [List.all_map]; simp]
      refine iteF ⟨_, rfl, rfl, _, rfl, ?_⟩
      by_cases h0 : V.str x = V.str "0"
      · rw [decide_eq_true h0]
        exact iteT (q H1 s1)
      · rw [decide_eq_false h0]
        have hm : 0 < m := Nat.pos_of_ne_zero fun z => h0 (by rw [show x = "0" from str_ext (by rw [hx, z, dg_zero, z_l])])
        obtain ⟨c, r, ed, hc⟩ := dg_head m hm
        refine iteF ⟨_, rfl, x, ((0 : Nat) : Int), c, rfl, rfl, sl6 hl, atI_nat (j := 0) (by rw [hx, ed]; rfl), rfl, ?_⟩
        rw [decide_eq_false (vstr_ne (by rw [z_l]; intro z; exact hc (by simpa using z)))]
        exact q H1 s1
def spWN : Sp := fun vs H Q _ => ∃ n : Int, vs = [.str (numStr n)] ∧ (numStr n).length ≤ 1000 ∧ ∀ H', Same H H' → Q (.bl true) H'
theorem sc_wn : FnScope ["word"] ["word"] (defScope dWNumber) := ⟨rfl, rfl, rfl, by decide +kernel, rfl, by decide +kernel, by decide +kernel⟩
theorem ok_wNumber (D : DefAt K mg "writes_number" dWNumber ["word"]) (G : FnAt P w K mg base 1 "writes_count" ["word"] spWC) : FnAt P w K mg base 2 "writes_number" ["word"] spWN := by
  refine FnAt.of D sc_wn (fun vs H Q E h => ?_) (fun f cdv A outer s H vs Q E hr h => ?_)
  · obtain ⟨n, rfl, _⟩ := h
    rfl
  · obtain ⟨n, rfl, hl, q⟩ := h
    refine ⟨_, pss_cons (ps_if (pt_val (pe_bm F.plainAttrs_str F.slot_str_startswith F.type_str_startswith mt_starts (pv 0) (pa_cons pe_str pa_nil))) (pss_one (ps_ret (pe_and (pe_cmpR op_ne (pv 0) pe_str (nomark _)) (pe_one (pe_f G hr (pa_cons (pe_slice sl_str (pv 0) (po_some pe_int) po_none) pa_nil)))))) pss_nil)
      (pss_one (ps_ret (pe_f G hr (pa_cons (pv 0) pa_nil)))), ?_⟩
    refine ⟨_, rfl, rfl, _, _, rfl, rfl, _, rfl, ?_⟩
    rw [starts_m]
    cases n with
    | ofNat m =>
      have e : (numStr (Int.ofNat m)).cps.toList = dg m := numStr_nat m
      rw [e, decide_eq_false (fun z => by
        cases ed : dg m with
        | nil => exact dg_ne m ed
        | cons c r =>
          rw [ed] at z
          have := dg_digits m c (by rw [ed]; exact .head _)
          simp at z
          omega)]
      exact iteF ⟨_, rfl, _, m, rfl, e, hl, q⟩
    | negSucc m =>
      have e := numStr_neg m
      have hs : Txt.slice (numStr (Int.negSucc m)) (some 1) none = ⟨(dg (m + 1)).toArray⟩ := by
        have h := StrLaws.sliceText_from (x := numStr (Int.negSucc m)) (i := 1) ⟨by decide, by rw [e, List.length_cons]; omega⟩
        rw [show Txt.slice (numStr (Int.negSucc m)) (some 1) none = StrLaws.sliceText (numStr (Int.negSucc m)) (some 1) none from rfl, h, e, List.length_cons]
        have : (((dg (m + 1)).length + 1 : Nat) - 1 : Int).toNat = (dg (m + 1)).length := by omega
        rw [this, show (1 : Int).toNat = 1 from rfl, List.drop_succ_cons, List.drop_zero, List.take_length]
      have hn0 : ¬ (V.str (numStr (Int.negSucc m)) = V.str "-0") := vstr_ne (by
        rw [e, mz_l]
        intro z
        injection z with _ z
        obtain ⟨c, r, ed, hc⟩ := dg_head (m + 1) (Nat.succ_pos m)
        rw [ed] at z
        injection z with z _
        exact hc z)
      rw [e]
      refine iteT ⟨_, rfl, rfl, _, rfl, ?_⟩
      rw [decide_eq_false hn0]
      refine iteT ⟨_, rfl, _, rfl, _, rfl, sl6 hl, _, m + 1, rfl, ?_, ?_, q⟩
      · show (Txt.slice (numStr (Int.negSucc m)) (some 1) none).cps.toList = _
        rw [hs]
      · show (Txt.slice (numStr (Int.negSucc m)) (some 1) none).length ≤ 1000
        rw [hs, ← str_len]
        have := str_len (numStr (Int.negSucc m))
        rw [e, List.length_cons] at this
        show (dg (m + 1)).length ≤ 1000
        omega
end
theorem boot_str9 : bootBuiltins "str" = some (.type "str") := by kernel_rfl
theorem sp_eq : (Str.ofString " ") = ⟨#[32]⟩ := by decide +kernel
theorem nl_eq : (Str.ofString "\n") = ⟨#[10]⟩ := by decide +kernel
def rowS (r : List Int) : Str := Txt.join " " (r.map numStr)
def tabS (rows : List (List Int)) : Str := Txt.join "\n" (rows.map rowS)
theorem join_free {c d : Nat} (hcd : d ≠ c) : ∀ {ws : List Str}, (∀ w ∈ ws, d ∉ w.cps.toList) → d ∉ (Str.join ⟨#[c]⟩ ws).cps.toList
  | [], _ => by
    show d ∉ Str.empty.cps.toList
    simp [Str.empty]
  | [w], h => h w (.head _)
  | w :: x :: r, h => by
    rw [join_list]
    intro z
    rcases List.mem_append.mp z with z | z
    · exact h w (.head _) z
    · rcases List.mem_cons.mp z with z | z
      · exact hcd z
      · exact join_free hcd (fun y hy => h y (.tail _ hy)) z
theorem txt_join (c : Nat) (ws : List Str) : Txt.join ⟨#[c]⟩ ws = Str.join ⟨#[c]⟩ ws := StrLaws.glued_eq_join _ _
theorem join_len {c B : Nat} {ws : List Str} (h : ∀ w ∈ ws, w.length ≤ B) : (Txt.join ⟨#[c]⟩ ws).length ≤ ws.length * (B + 1) := by
  rw [txt_join]
  have h1 := StrLaws.join_length_le ⟨#[c]⟩ ws
  have h2 := StrLaws.sumLen_le (B := B) ws h
  have h3 : (⟨#[c]⟩ : Str).length = 1 := rfl
  rw [h3] at h1
  rw [Nat.mul_add]
  omega
theorem join_ok {c B : Nat} {ws : List Str} (h : ∀ w ∈ ws, w.length ≤ B) (hz : ws.length * (B + 1) ≤ 1000000) : JoinOk ⟨#[c]⟩ ws = true := by
  unfold JoinOk
  rw [Bool.not_eq_true']
  refine StrLaws.joinFits h ?_
  have h3 : (⟨#[c]⟩ : Str).length = 1 := rfl
  rw [h3]
  rw [Nat.mul_add] at hz
  omega
theorem rowS_len {r : List Int} {B : Nat} (h : ∀ n ∈ r, (numStr n).length ≤ B) : (rowS r).length ≤ r.length * (B + 1) := by
  unfold rowS
  rw [sp_eq]
  have := join_len (c := 32) (ws := r.map numStr) (B := B) (fun w hw => by
    obtain ⟨n, hn, rfl⟩ := List.mem_map.mp hw
    exact h n hn)
  rw [List.length_map] at this
  exact this
theorem rowS_split {r : List Int} (h : r ≠ []) : Txt.split (rowS r) " " = r.map numStr := by
  unfold rowS
  rw [sp_eq]
  exact split_join (by simpa using h) fun w hw => by
    obtain ⟨n, hn, rfl⟩ := List.mem_map.mp hw
    exact num_free (by decide)
theorem rowS_free (r : List Int) : 10 ∉ (rowS r).cps.toList := by
  unfold rowS
  rw [sp_eq, txt_join]
  exact join_free (by decide) fun w hw => by
    obtain ⟨n, hn, rfl⟩ := List.mem_map.mp hw
    exact num_free (by decide)
theorem tabS_split {rows : List (List Int)} (h : rows ≠ []) : Txt.split (tabS rows) "\n" = rows.map rowS := by
  unfold tabS
  rw [nl_eq]
  exact split_join (by simpa using h) fun w hw => by
    obtain ⟨r, hr, rfl⟩ := List.mem_map.mp hw
    exact rowS_free r
theorem tabS_len {rows : List (List Int)} {B M : Nat} (h : ∀ r ∈ rows, (rowS r).length ≤ B) (hM : rows.length * (B + 1) ≤ M) : (tabS rows).length ≤ M := by
  unfold tabS
  rw [nl_eq]
  have := join_len (c := 10) (ws := rows.map rowS) (B := B) (fun w hw => by
    obtain ⟨r, hr, rfl⟩ := List.mem_map.mp hw
    exact h r hr)
  rw [List.length_map] at this
  omega
section
variable {P : Program} {w : World} {K : PySem.W.Frag} {mg : Str → Option Value} {base : Heap} {c : Addr}
def spRR : Sp := fun vs H Q _ => ∃ ns : List Int, vs = [.str (rowS ns)] ∧ ns ≠ [] ∧ ns.length ≤ 6 ∧ (∀ n ∈ ns, (numStr n).length ≤ 100) ∧ ∀ p H', H p = none → Same H H' → Row H' p ns → Q (.ref p) H'
theorem sc_rr : FnScope ["line", "words"] ["line"] (defScope dReadRow) := ⟨rfl, rfl, rfl, by decide +kernel, rfl, by decide +kernel, by decide +kernel⟩
set_option maxHeartbeats 4000000 in
theorem ok_readRow (T : Blt mg) (D : DefAt K mg "read_row" dReadRow ["line"]) (G : FnAt P w K mg base 2 "writes_number" ["word"] spWN) : FnAt P w K mg base 3 "read_row" ["line"] spRR := by
  refine FnAt.of D sc_rr (fun vs H Q E h => ?_) (fun f cdv A outer s H vs Q E hr h => ?_)
  · obtain ⟨ns, rfl, _⟩ := h
    rfl
  · obtain ⟨ns, rfl, hne, h6, hl, q⟩ := h
    have nd := sc_rr.nd
    have nd1 : (["word"] : List Str).Nodup := by decide +kernel
    refine ⟨_, pss_cons (ps_set (i := 1) nd rfl (Or.inl rfl) (pe_bm F.plainAttrs_str F.slot_str_split F.type_str_split mt_split (pv 0) (pa_cons pe_str pa_nil)))
      (pss_cons (ps_if (pt_not (pt_val (pe_b (call_all rfl) T.all boot_all (pa_cons (pe_comp ["word"] [none] (defScope dReadRow) ["line", "words"] rfl (pi_list (pv 1)) (by decide +kernel)
        (fun cl C s2 H2 ex => pg_c 0 nd1) (fun cl C s2 H2 ex => pifs_nil) (fun cl C s2 H2 ex => pe_f G hr (pa_cons (pv 0) pa_nil))) pa_nil)))) pss_never pss_nil)
      (pss_one (ps_ret (pe_comp ["word"] [none] (defScope dReadRow) ["line", "words"] rfl (pi_list (pv 1)) (by decide +kernel)
        (fun cl C s2 H2 ex => pg_c 0 nd1) (fun cl C s2 H2 ex => pifs_nil) (fun cl C s2 H2 ex => pe_t call_intT T.int boot_int (pa_cons (pv 0) pa_nil)))))), ?_⟩
    have hrl := rowS_len hl
    refine ⟨_, rfl, rfl, _, _, rfl, rfl, by decide +kernel, by omega, fun p hp => ?_⟩
    rw [rowS_split hne]
    have s1 := Same.new (o := .lst ((ns.map numStr).map V.str)) hp
    have e1 : (upd H p (.lst ((ns.map numStr).map V.str))) p = some (.lst ((ns.map numStr).map V.str)) := upd_same
    generalize upd H p (.lst ((ns.map numStr).map V.str)) = H1 at s1 e1 ⊢
    rw [List.map_map] at e1
    refine ⟨_, rfl, p, rfl, ⟨_, SqL.of e1⟩, comp_map (ms := ns) (V.str ∘ numStr) (fun _ => V.bl true) (SqL.of e1) (sl6 (by omega)) (fun n hn H' Q' sm q' => ⟨_, rfl, n, rfl, by have := hl n hn; omega, fun H'' s'' => q' H'' s''⟩) fun D2 H2 hD2 s2 eD2 => ?_⟩
    refine ⟨D2, ns.map fun _ => true, rfl, SqL.of (by rw [eD2, List.map_map]; rfl), ⟨_, rfl, ?_⟩⟩
    rw [show (ns.map fun _ => true).all id = true by rw [List.all_map]; simp]
    refine iteF ⟨_, rfl, p, rfl, ⟨_, SqL.of (s2 _ _ e1)⟩, comp_map (ms := ns) (V.str ∘ numStr) V.int (SqL.of (s2 _ _ e1)) (sl6 (by omega)) (fun n hn H' Q' sm q' => ⟨_, rfl, numStr n, n, rfl, num_read (by have := hl n hn; omega), by have := hl n hn; omega, q' _ (Same.refl _)⟩) fun D3 H3 hD3 s3 eD3 => ?_⟩
    exact q D3 H3 ((s1.trans s2).free hD3) (s1.trans (s2.trans s3)) eD3
def spRT : Sp := fun vs H Q _ => ∃ rows : List (List Int), vs = [.str (tabS rows)] ∧ rowsOk rows = true ∧ (∀ r ∈ rows, ∀ n ∈ r, (numStr n).length ≤ 100) ∧ NewTab H Q rows
theorem sc_rt : FnScope ["text", "table"] ["text"] (defScope dReadTable) := ⟨rfl, rfl, rfl, by decide +kernel, rfl, by decide +kernel, by decide +kernel⟩
set_option maxHeartbeats 4000000 in
theorem ok_readTable (T : Blt mg) (hstr : mg "str" = none) (D : DefAt K mg "read_table" dReadTable ["text"]) (G : FnAt P w K mg base 3 "read_row" ["line"] spRR) (G4 : FnAt P w K mg base 5 "is_table" ["thing"] spIsTable) : FnAt P w K mg base 6 "read_table" ["text"] spRT := by
  refine FnAt.of D sc_rt (fun vs H Q E h => ?_) (fun f cdv A outer s H vs Q E hr h => ?_)
  · obtain ⟨rows, rfl, _⟩ := h
    rfl
  · obtain ⟨rows, rfl, hok, hl, q⟩ := h
    have nd := sc_rt.nd
    have nd1 : (["line"] : List Str).Nodup := by decide +kernel
    have hg : tabB (prs0 rows) = true := by rw [rowsOk_of rfl, prs0_rows]; exact hok
    obtain ⟨g, g1, g2, g3, g4⟩ := good_of hg
    have len0 : (prs0 rows).length = rows.length := by unfold prs0; rw [List.length_map]
    rw [len0] at g1 g2
    have rl : ∀ r ∈ rows, r ≠ [] ∧ r.length ≤ 6 := fun r hr => by
      have := g.len (0, r) (List.mem_map.mpr ⟨r, hr, rfl⟩)
      have this : r.length = w0 (prs0 rows) := this
      exact ⟨fun z => by rw [z] at this; simp at this; omega, by omega⟩
    have hr3 : Room 3 _ := hr.mono (show 3 ≤ 5 by decide)
    refine ⟨_, pss_cons (ps_if (pt_not (pt_val (pe_b call_isinst T.isinst boot_isinstance (pa_cons (pv 0) (pa_cons (pe_ty hstr boot_str9) pa_nil))))) pss_never pss_nil)
      (pss_cons (ps_setC (i := 1) ["line"] [none] (defScope dReadTable) ["text", "table"] nd rfl (Or.inl rfl) rfl (pi_list (pe_bm F.plainAttrs_str F.slot_str_split F.type_str_split mt_split (pv 0) (pa_cons pe_str pa_nil))) (by decide +kernel)
        (fun cl C s2 H2 ex => pg_c 0 nd1) (fun cl C s2 H2 ex => pifs_nil) (fun cl C s2 H2 ex => pe_f G hr3 (pa_cons (pv 0) pa_nil)))
      (pss_cons (ps_if (pt_not (pt_val (pe_f G4 hr (pa_cons (pv 1) pa_nil)))) pss_never pss_nil) (pss_one (ps_ret (pv 1))))), ?_⟩
    have hB : ∀ r ∈ rows, (rowS r).length ≤ 606 := fun r hr => Nat.le_trans (rowS_len (hl r hr)) (Nat.mul_le_mul_right 101 (rl r hr).2)
    have hT := tabS_len (M := 4000) hB (by have := Nat.mul_le_mul_right 607 g2; omega)
    refine ⟨_, rfl, _, "str", _, true, rfl, .str _, by kernel_rfl, _, rfl, iteF ⟨_, rfl, rfl, _, _, rfl, rfl, by decide +kernel, by omega, fun p hp => ?_⟩⟩
    have hne : rows ≠ [] := fun z => by rw [z] at g1; simp at g1
    rw [tabS_split hne]
    have s1 := Same.new (o := .lst ((rows.map rowS).map V.str)) hp
    have e1 : (upd H p (.lst ((rows.map rowS).map V.str))) p = some (.lst ((rows.map rowS).map V.str)) := upd_same
    generalize upd H p (.lst ((rows.map rowS).map V.str)) = H1 at s1 e1 ⊢
    rw [List.map_map] at e1
    refine ⟨p, rfl, ⟨_, SqL.of e1⟩, comp_tab (ms := rows) (V.str ∘ rowS) id (SqL.of e1) (by omega) (fun r hr H' Q' sm q' => ⟨_, rfl, r, rfl, (rl r hr).1, (rl r hr).2, hl r hr, fun p' H'' hp' s'' hR => q' p' H'' hp' s'' hR⟩) fun t prs H2 ht hp2 hnd s2 hT2 hrows => ?_⟩
    rw [List.map_id] at hrows
    have hg2 : tabB prs = true := by rw [rowsOk_of rfl, hrows]; exact hok
    refine ⟨_, rfl, t, prs, rfl, hT2, good_bounds hg2, fun H3 s3 => ⟨_, rfl, ?_⟩⟩
    rw [hg2]
    exact iteF ⟨_, rfl, q t prs H3 (s1.free ht) (fun p' hp' => ⟨s1.free (hp2 p' hp').1, (hp2 p' hp').2⟩) hnd ((s1.trans s2).trans s3) (hT2.same s3) hrows⟩
end
theorem tab_set {H : Hp} {t : Addr} {qs : Prs} {i : Nat} (j : Nat) (x : Int) (hT : Tab H t qs) (hnd : (qs.map (·.1)).Nodup) (hne : ∀ p ∈ qs, p.1 ≠ t) (hi : i < qs.length) :
    Tab (upd H qs[i].1 (.lst ((qs[i].2.map V.int).set j (.int x)))) t (qs.set i (qs[i].1, qs[i].2.set j x)) ∧ (qs.set i (qs[i].1, qs[i].2.set j x)).map (·.2) = setR (qs.map (·.2)) i j x ∧ ∀ p ∈ qs.set i (qs[i].1, qs[i].2.set j x), ∃ q ∈ qs, p.1 = q.1 := by
  have hqi : qs[i]? = some qs[i] := List.getElem?_eq_getElem hi
  have mqi : qs[i] ∈ qs := List.getElem_mem hi
  rw [← List.map_set]
  have key : ∀ b o, b ≠ qs[i].1 → H b = some o → (upd H qs[i].1 (.lst ((qs[i].2.set j x).map V.int))) b = some o := fun b o n e => by rw [upd_ne n]; exact e
  refine ⟨⟨?_, fun p hp => ?_⟩, ?_, fun p hp => ?_⟩
  · have : (qs.set i (qs[i].1, qs[i].2.set j x)).map (fun p => V.ref p.1) = qs.map fun p => V.ref p.1 := by
      rw [List.map_set]
      refine List.ext_getElem? fun k => ?_
      rw [List.getElem?_set]
      split
      · next h =>
        subst h
        rw [List.length_map, if_pos hi, List.getElem?_map, hqi]
        rfl
      · rfl
    rw [this]
    exact key _ _ (fun z => hne _ mqi z.symm) hT.l
  · obtain ⟨k, hk⟩ := List.mem_iff_getElem?.mp hp
    rw [List.getElem?_set] at hk
    by_cases h : i = k
    · rw [if_pos h, if_pos hi] at hk
      rw [← Option.some.inj hk]
      exact upd_same
    · rw [if_neg h] at hk
      have hkl := (List.getElem?_eq_some_iff.mp hk).1
      refine key _ _ (fun e => h ?_) (hT.r p (List.mem_of_getElem? hk))
      exact ((List.getElem?_inj (l := qs.map (·.1)) (by rw [List.length_map]; exact hkl) hnd).mp (by rw [List.getElem?_map, List.getElem?_map, hk, hqi]; simp [e])).symm
  · rw [List.map_set]
    unfold setR
    rw [show (qs.map (·.2)).getD i [] = qs[i].2 by
      rw [List.getD_eq_getElem?_getD, List.getElem?_map, hqi]
      rfl]
  · rcases List.mem_or_eq_of_mem_set hp with z | z
    · exact ⟨p, z, rfl⟩
    · rw [z]
      exact ⟨qs[i], mqi, rfl⟩
theorem hu65 {k : Nat} {A : Around} (h : Room (k + 1) A) : A.units + 65 < cLine := by have := h.un; omega
end Seek
namespace L2
open PySem PySem.Spec PyProof.Rows
end L2
namespace Seek
open PySem L2 PyProof.Rows
structure KM (S : List Addr) (H : Hp) (C a dx l t : Addr) (prs : Prs) (chs : Ch) : Prop where
  k : Keep H C a dx t l prs chs
  live : ∀ b ∈ S, H b ≠ none
  na : a ∉ S
  nl : l ∉ S
  nt : t ∉ S
  np : ∀ p ∈ prs, p.1 ∉ S
  nc : ∀ c ∈ chs, c.1 ∉ S ∧ c.2.1 ∉ S
section
variable {S : List Addr} {H H' : Hp} {C a dx l t : Addr} {prs : Prs} {chs : Ch}
theorem KM.but (h : KM S H C a dx l t prs chs) (b : ButS S H H') (lv : ∀ b ∈ S, H' b ≠ none) : KM S H' C a dx l t prs chs :=
  ⟨⟨b _ _ h.na h.k.ob, ⟨b _ _ h.nt h.k.T.l, fun p hp => b _ _ (h.np p hp) (h.k.T.r p hp)⟩, h.k.ok, b _ _ h.nl h.k.L, fun c hc => let ⟨z1, z2, z3⟩ := h.k.ch c hc; ⟨b _ _ (h.nc c hc).1 z1, b _ _ (h.nc c hc).2 z2, z3⟩⟩, lv, h.na, h.nl, h.nt, h.np, h.nc⟩
theorem KM.same (h : KM S H C a dx l t prs chs) (s : Same H H') : KM S H' C a dx l t prs chs := h.but (Same.butS s) fun b hb z => h.live b hb (s.free z)
theorem KM.off (h : KM S H C a dx l t prs chs) {y : Addr} (hy : H y = none) : y ∉ S := fun z => h.live y z hy
theorem KM.next (h : KM S H C a dx l t prs chs) {t' : Addr} {prs' : Prs} {chs' : Ch} (ht : H t' = none) (hp : ∀ p ∈ prs', H p.1 = none) (fr : ∀ b o, b ≠ a → b ≠ l → H b = some o → H' b = some o) (hc : ∀ c ∈ chs', c.1 ∉ S ∧ c.2.1 ∉ S) (k : Keep H' C a dx t' l prs' chs') : KM S H' C a dx l t' prs' chs' := by
  refine ⟨k, fun b hb => ?_, h.na, h.nl, h.off ht, fun p hq => h.off (hp p hq), hc⟩
  cases eb : H b with
  | none => exact absurd eb (h.live b hb)
  | some o =>
    rw [fr b o (fun z => h.na (by rw [← z]; exact hb)) (fun z => h.nl (by rw [← z]; exact hb)) eb]
    exact fun z => nomatch z
end
section
variable {P : Program} {w : World} {K : PySem.W.Frag} {mg : Str → Option Value} {base : Heap} {C S c1 c2 c7 : Addr} {cs : List Addr}
def spRef (C : Addr) : Sp := fun vs H Q _ => ∃ (a dx t l c : Addr) (prs : Prs) (chs : Ch) (i j : Nat) (x : Int), vs = [.ref a, .ref c, .int x] ∧ Keep H C a dx t l prs chs ∧ Cell H c i j ∧ i < prs.length ∧ j < w0 prs ∧ rowsOk (setR (prs.map (·.2)) i j x) = false ∧ ∀ H', Same H H' → Q (.bl true) H'
theorem sc_ref : FnScope ["keeper", "cell", "x", "caught", "e"] ["keeper", "cell", "x"] (defScope dRefused) := ⟨rfl, rfl, rfl, by decide +kernel, rfl, by decide +kernel, by decide +kernel⟩
theorem ok_ref (N : Nms mg S cs) (kS : ExcK K S) (E7 : Err K S cs 7 c7) (kc : KpC K C) (Df : DefAt K mg "_law_refused" dRefused ["keeper", "cell", "x"]) (M2X : MtAtX P w K mg base 8 C "change" ["self", "cell", "x"] (spKChX C c1 c2 c7))
    (G3 : FnAt P w K mg base 1 "_law_kind" ["e", "due"] (spKind K S cs)) : FnAt P w K mg base 9 "_law_refused" ["keeper", "cell", "x"] (spRef C) := by
  refine FnAt.of Df sc_ref (fun vs H Q E h => ?_) (fun f cdv A outer s H vs Q E hr h => ?_)
  · obtain ⟨a, dx, t, l, c, prs, chs, i, j, x, rfl, _⟩ := h
    rfl
  · obtain ⟨a, dx, t, l, c, prs, chs, i, j, x, rfl, hk, hc, hi, hj, ok, q⟩ := h
    have nd := sc_ref.nd
    have hr1 : Room 1 _ := hr.mono (show 1 ≤ 8 by decide)
    refine ⟨_, pss_cons (ps_set (i := 3) nd rfl (Or.inl rfl) pe_non) (pss_cons (ps_try (i := 4) rfl rfl nd kS N.seek (fun pn W R hR => pss_one (ps_expr (pe_mx M2X kc.cls hr hR (pv 0) (pa_cons (pv 1) (pa_cons (pv 2) pa_nil)))))
      (fun v => pss_one (ps_set (i := 3) nd rfl (Or.inl rfl) (pv 4)))) (pss_one (ps_ret (pe_and (pe_cmpR op_notN (pv 3) pe_non (nomark _)) (pe_one (pe_f G3 hr1 (pa_cons (pv 3) (pa_cons pe_str pa_nil)))))))), ?_⟩
    refine ⟨_, rfl, a, dx, _, rfl, hk.ob, rfl, _, rfl, _, rfl, a, dx, t, l, prs, chs, _, _, rfl, hk, .inr (.inr ⟨c, i, j, x, rfl, hc, hi, hj, rfl, ok, fun H1 s1 => ⟨c7, rfl, E7.k, E7.sk, fun e he => ?_⟩⟩)⟩
    have s3 := s1.trans (Same.new (o := excO e c7) he)
    have e3 : (upd H1 e (excO e c7)) e = some (excO e c7) := upd_same
    generalize upd H1 e (excO e c7) = H3 at s3 e3 ⊢
    exact ⟨_, rfl, _, rfl, rfl, _, rfl, iteT ⟨_, rfl, e, c7, 7, "fit", rfl, e3, E7, by decide, by decide +kernel, fun H4 s4 => q H4 (s3.trans s4)⟩⟩
def GoesB (H : Hp) (Q : VK) (C a dx l : Addr) (rows : List (List Int)) (chs : Ch) : Prop := ∀ t' prs' H', H t' = none → (∀ p ∈ prs', H p.1 = none) → (∀ b o, b ≠ a → b ≠ l → H b = some o → H' b = some o) → prs'.map (·.2) = rows → Keep H' C a dx t' l prs' chs → Q (.bl true) H'
def spGood (C : Addr) : Sp := fun vs H Q _ => ∃ (a dx t l c T : Addr) (prs qs : Prs) (chs : Ch) (i j : Nat) (x : Int), vs = [.ref a, .ref T, .ref c, .int x] ∧ Keep H C a dx t l prs chs ∧ chs.length < 900 ∧ Tab H T qs ∧ T ≠ a ∧ T ≠ l ∧ (∀ p ∈ qs, p.1 ≠ a ∧ p.1 ≠ l) ∧ prs.map (·.2) = qs.map (·.2) ∧ Cell H c i j ∧ c ≠ a ∧ c ≠ l ∧ i < prs.length ∧ j < w0 prs ∧ rowsOk (setR (prs.map (·.2)) i j x) = true ∧ GoesB H Q C a dx l (prs.map (·.2)) chs
theorem sc_good : FnScope ["keeper", "table", "cell", "x", "here", "later"] ["keeper", "table", "cell", "x"] (defScope dGood) := ⟨rfl, rfl, rfl, by decide +kernel, rfl, by decide +kernel, by decide +kernel⟩
theorem eqv_two (x y : Int) : PyData.eqv (.tuple [.int x, .int y]) (.tuple [.int x, .int y]) = true := by simp [PyData.eqv, PyData.eqvAll]
theorem rd_two {K : PySem.W.Frag} {H : Hp} {p : Addr} {x y : Int} (h : H p = some (.tup [.int x, .int y])) : RdD K H (.ref p) (.tuple [.int x, .int y]) := .tup (SqT.of h) (.cons (.int x) (.cons (.int y) .nil))
set_option maxHeartbeats 8000000 in
theorem ok_good (kc : KpC K C) (Df : DefAt K mg "_law_good" dGood ["keeper", "table", "cell", "x"]) (M1 : MtAt P w K mg base 2 C "table" ["self"] (spKTable C)) (M2 : MtAt P w K mg base 8 C "change" ["self", "cell", "x"] (spKChange C)) (M3 : MtAt P w K mg base 8 C "undo" ["self"] (spKUndo C)) (G : FnAt P w K mg base 1 "_law_copy" ["table"] spCopyN) :
    FnAt P w K mg base 9 "_law_good" ["keeper", "table", "cell", "x"] (spGood C) := by
  refine FnAt.of Df sc_good (fun vs H Q E h => ?_) (fun f cdv A outer s H vs Q E hr h => ?_)
  · obtain ⟨a, dx, t, l, c, T, prs, qs, chs, i, j, x, rfl, _⟩ := h
    rfl
  · obtain ⟨a, dx, t, l, c, T, prs, qs, chs, i, j, x, rfl, hk, hcl, hT, nTa, nTl, npq, hrows, hc, nca, ncl, hi, hj, ok, q⟩ := h
    have nd := sc_good.nd
    have hr1 : Room 1 _ := hr.mono (show 1 ≤ 8 by decide)
    have hr2 : Room 2 _ := hr.mono (show 2 ≤ 8 by decide)
    have hqn : qs.length = prs.length := by
      have := congrArg List.length hrows
      simpa using this.symm
    have hg : tabB qs = true := by rw [rowsOk_of hrows.symm, ← rowsOk_of rfl]; exact hk.ok
    obtain ⟨g, g1, g2, g3, g4⟩ := good_of hg
    have hqw : w0 qs = w0 prs := by rw [← wR_w0, ← hrows, wR_w0]
    obtain ⟨p, hp1, hp2, hp3⟩ := rowAt_mem (prs := qs) (i := i) (by omega)
    have hrok := hk.rok
    have hi' : i < (prs.map (·.2)).length := by rw [List.length_map]; exact hi
    have hj' : j < wR (prs.map (·.2)) := by rw [wR_w0]; exact hj
    refine ⟨_, pss_cons (ps_set (i := 4) nd rfl (Or.inl rfl) (pe_ix ix_list (pe_ix ix_list (pv 1) (pe_ix ix_tup (pv 2) pe_int (fun _ _ => rfl)) (fun _ _ => rfl)) (pe_ix ix_tup (pv 2) pe_int (fun _ _ => rfl)) (fun _ _ => rfl)))
      (pss_cons (ps_if (pt_cmpR (op_neD hr.units) (pe_m M2 kc.cls hr (pv 0) (pa_cons (pv 2) (pa_cons (pv 3) pa_nil))) (pe_tup (pa_cons (pv 4) (pa_cons (pv 3) pa_nil))) (nomark _)) (pss_one (ps_ret pe_bl)) pss_nil)
      (pss_cons (ps_set (i := 5) nd rfl (Or.inl rfl) (pe_f G hr1 (pa_cons (pv 1) pa_nil)))
      (pss_cons (ps_asg (pv 3) (pg_sub (pe_ix ix_list (pv 5) (pe_ix ix_tup (pv 2) pe_int (fun _ _ => rfl)) (fun _ _ => rfl)) (pe_ix ix_tup (pv 2) pe_int (fun _ _ => rfl)) set_list))
      (pss_one (ps_ret (pe_and (pe_cmpR (op_eqD hr.units) (pe_m0 M1 kc.cls hr2 (pv 0)) (pv 5) (nomark _)) (pe_and (pe_cmpR (op_eqD hr.units) (pe_m0 M3 kc.cls hr (pv 0)) (pe_tup (pa_cons (pv 3) (pa_cons (pv 4) pa_nil))) (nomark _)) (pe_one (pe_cmpR (op_eqD hr.units) (pe_m0 M1 kc.cls hr2 (pv 0)) (pv 1) (nomark _)))))))))), ?_⟩
    have eh : (rowAt prs i).getD j 0 = p.2.getD j 0 := by rw [← cellR_at, hrows, cellR_at, hp3]
    refine ⟨_, rfl, _, rfl, c, _, 0, .int (i : Nat), rfl, rfl, SqT.of hc, rfl, T, _, _, .ref p.1, rfl, rfl, hT.sq, atI_nat (by rw [List.getElem?_map, hp2]; rfl), _, rfl, c, _, 1, .int (j : Nat), rfl, rfl, SqT.of hc, rfl, p.1, _, _, .int (p.2.getD j 0), rfl, rfl, (hT.r p hp1).sq, at_row (by rw [g.len p hp1]; omega), ?_⟩
    refine ⟨_, rfl, a, dx, _, rfl, hk.ob, rfl, _, rfl, _, rfl, a, dx, t, l, c, prs, chs, i, j, x, rfl, hk, hc, hi, hj, by omega, ok, fun t1 prs1 u r H1 ht1 hq1 hnd1 hu hr1' fr hrows1 er nra nrl hk1 => ⟨_, rfl, _, rfl, len2, fun v hv => ?_⟩⟩
    have s12 := Same.new (o := .tup [.int (p.2.getD j 0), .int x]) hv
    have ev : (upd H1 v (.tup [.int (p.2.getD j 0), .int x])) v = some (.tup [.int (p.2.getD j 0), .int x]) := upd_same
    generalize upd H1 v (.tup [.int (p.2.getD j 0), .int x]) = H2 at s12 ev ⊢
    rw [eh] at er hk1
    refine ⟨_, _, rd_two (s12 _ _ er), rd_two ev, rfl, rfl, _, rfl, ?_⟩
    rw [eqv_two]
    refine iteF ?_
    have hT1 : Tab H1 T qs := ⟨fr _ _ nTa nTl hT.l, fun p hp => fr _ _ (npq p hp).1 (npq p hp).2 (hT.r p hp)⟩
    have hc1 : Cell H1 c i j := fr _ _ nca ncl hc
    have hT2 := hT1.same s12
    have hk2 := hk1.same s12
    refine ⟨_, rfl, T, qs, rfl, hT2, good_bounds hg, fun Tl ql H3 hTl hql hndl s23 hTT hrl => ?_⟩
    have hc3 : Cell H3 c i j := s23 _ _ (s12 _ _ hc1)
    have hll : ql.length = qs.length := by
      have := congrArg List.length hrl
      simpa using this
    have hil : i < ql.length := by omega
    have ml : ql[i] ∈ ql := List.getElem_mem hil
    have hRl := hTT.r ql[i] ml
    have wl : ql[i].2.length = w0 prs := by
      obtain ⟨g', _⟩ := good_of (prs := ql) (by rw [tabB_rows hrl]; exact hg)
      rw [g'.len _ ml, ← hqw, ← wR_w0, ← wR_w0, hrl]
    refine ⟨_, rfl, _, rfl, _, rfl, c, _, 0, .int (i : Nat), rfl, rfl, SqT.of hc3, rfl, Tl, _, _, .ref ql[i].1, rfl, rfl, hTT.sq, atI_nat (by rw [List.getElem?_map, List.getElem?_eq_getElem hil]; rfl), _, rfl, c, _, 1, .int (j : Nat), rfl, rfl, SqT.of hc3, rfl, ql[i].1, _, _, j, rfl, rfl, hRl, ?_, ?_⟩
    · rw [List.length_map, wl]
      unfold ixN
      rw [if_pos (by omega), if_pos (by omega), Int.toNat_natCast]
    obtain ⟨hT4, hr4, _⟩ := tab_set j x hTT hndl (fun p hp => (hql p hp).2) hil
    have s24 : Same H2 (upd H3 ql[i].1 (.lst ((ql[i].2.map V.int).set j (.int x)))) := fun y o e => by
      rw [upd_ne (fun z => by rw [z, (hql _ ml).1] at e; cases e)]
      exact s23 _ _ e
    generalize upd H3 ql[i].1 (.lst ((ql[i].2.map V.int).set j (.int x))) = H4 at s24 hT4 ⊢
    rw [hrl, ← hrows] at hr4
    have hk4 := hk2.same s24
    have s14 := s12.trans s24
    refine ⟨_, rfl, a, dx, _, rfl, hk4.ob, rfl, a, dx, t1, l, prs1, _, rfl, hk4, fun t5 q5 H5 ht5 hq5 hnd5 s45 hT5 hr5 => ⟨_, rfl, _, _, hT5.rd, (hT4.same s45).rd, shaped_tab _, shaped_tab _, _, rfl, ?_⟩⟩
    rw [hr5, hrows1, hr4, eqv_tab]
    have hk5 := hk4.same s45
    have s15 := s14.trans s45
    have back : setR (prs1.map (·.2)) i j (p.2.getD j 0) = prs.map (·.2) := by
      rw [hrows1, ← eh, ← cellR_at]
      exact setR_back j x hi'
    refine iteT ⟨_, rfl, a, dx, _, rfl, hk5.ob, rfl, a, dx, t1, l, u, c, prs1, chs, i, j, p.2.getD j 0, rfl, hk5, by omega, by rw [back]; exact rok_ok hrok, fun t6 prs6 r6 H6 ht6 hq6 hnd6 hr6 fr6 hrows6 er6 nra6 nrl6 hk6 => ⟨_, rfl, _, rfl, len2, fun v6 hv6 => ?_⟩⟩
    have s67 := Same.new (o := .tup [.int x, .int (p.2.getD j 0)]) hv6
    have ev6 : (upd H6 v6 (.tup [.int x, .int (p.2.getD j 0)])) v6 = some (.tup [.int x, .int (p.2.getD j 0)]) := upd_same
    generalize upd H6 v6 (.tup [.int x, .int (p.2.getD j 0)]) = H7 at s67 ev6 ⊢
    have ex : (rowAt prs1 i).getD j 0 = x := by
      rw [← cellR_at, hrows1, cellR_set x hi' (by rw [hrok.len i hi']; exact hj'), if_pos ⟨rfl, rfl⟩]
    rw [ex] at er6
    refine ⟨_, _, rd_two (s67 _ _ er6), rd_two ev6, rfl, rfl, _, rfl, ?_⟩
    rw [eqv_two]
    have hk7 := hk6.same s67
    have hT7 : Tab H7 T qs := by
      have h5 := hT1.same s15
      exact ⟨s67 _ _ (fr6 _ _ nTa nTl h5.l), fun p hp => s67 _ _ (fr6 _ _ (npq p hp).1 (npq p hp).2 (h5.r p hp))⟩
    refine iteT ⟨_, rfl, a, dx, _, rfl, hk7.ob, rfl, a, dx, t6, l, prs6, chs, rfl, hk7, fun t8 q8 H8 ht8 hq8 hnd8 s78 hT8 hr8 => ⟨_, rfl, _, _, hT8.rd, (hT7.same s78).rd, shaped_tab _, shaped_tab _, ?_⟩⟩
    rw [hr8, hrows6, back, hrows]
    show Q (.bl (PyData.eqv (dTab (qs.map (·.2))) (dTab (qs.map (·.2))))) H8
    rw [eqv_tab]
    have fr5 : ∀ b o, b ≠ a → b ≠ l → H b = some o → H5 b = some o := fun b o n1 n2 e => s15 _ _ (fr b o n1 n2 e)
    have nb : ∀ {y : Addr}, H5 y = none → H y = none := fun {y} hy => by
      cases e : H y with
      | none => rfl
      | some o =>
        exfalso
        by_cases h1 : y = a
        · rw [h1, hk5.ob] at hy; cases hy
        · by_cases h2 : y = l
          · rw [h2, hk5.L] at hy; cases hy
          · rw [fr5 y o h1 h2 e] at hy; cases hy
    exact q t6 prs6 H8 (nb ht6) (fun p hp => nb (hq6 p hp).1) (fun b o n1 n2 e => s78 _ _ (s67 _ _ (fr6 b o n1 n2 (fr5 b o n1 n2 e)))) (by rw [hrows6, back]) (hk7.same s78)
end
def oD : Option Int → PyData
  | none => .none
  | some n => .int n
def spanD (rows : List (List Int)) (i j : Nat) : PyData := .tuple [oD (aheadL rows i j).max?, oD (behindL rows i j).min?]
theorem oV_rd {K : PySem.W.Frag} {H : Hp} (o : Option Int) : RdD K H (oV o) (oD o) := by
  cases o with
  | none => exact .non
  | some n => exact .int n
theorem lay_oD (o : Option Int) : (oD o).canLay0 = true ∧ (oD o).depth = 0 := by
  cases o with
  | none => exact ⟨rfl, rfl⟩
  | some n => exact ⟨rfl, rfl⟩
theorem lay_span (rows : List (List Int)) (i j : Nat) : (spanD rows i j).canLay0 = true ∧ (spanD rows i j).depth ≤ 1 := by
  obtain ⟨a1, a2⟩ := lay_oD (aheadL rows i j).max?
  obtain ⟨b1, b2⟩ := lay_oD (behindL rows i j).min?
  unfold spanD
  simp only [PyData.canLayAll0, PyData.canLay0, PyData.depthAll, PyData.depth, a1, b1, a2, b2, Bool.and_self, true_and]
  decide
theorem eqv_oD (o : Option Int) : PyData.eqv (oD o) (oD o) = true := by
  cases o with
  | none => rfl
  | some n => simp [oD, PyData.eqv]
theorem eqv_span (rows : List (List Int)) (i j : Nat) : PyData.eqv (spanD rows i j) (spanD rows i j) = true := by
  unfold spanD
  simp [PyData.eqv, PyData.eqvAll, eqv_oD]
theorem shaped_span (rows : List (List Int)) (i j : Nat) : SeqAt.shaped (spanD rows i j) = true := by
  obtain ⟨h1, h2⟩ := lay_span rows i j
  show (PyData.canLay0 (spanD rows i j) && decide (PyData.depth (spanD rows i j) ≤ 64)) = true
  rw [Bool.and_eq_true]
  exact ⟨h1, decide_eq_true (by omega)⟩
theorem ahead_set {rows : List (List Int)} {i j : Nat} (x : Int) (h : Rok rows) (hi : i < rows.length) (hj : j < wR rows) : aheadL (setR rows i j x) i j = aheadL rows i j := by
  have hjl : j < (rows.getD i []).length := by rw [h.len i hi]; exact hj
  unfold aheadL
  rw [cellR_set x hi hjl, cellR_set x hi hjl]
  by_cases h1 : 0 < i <;> by_cases h2 : 0 < j <;> simp [h1, h2] <;> omega
theorem behind_set {rows : List (List Int)} {i j : Nat} (x : Int) (h : Rok rows) (hi : i < rows.length) (hj : j < wR rows) : behindL (setR rows i j x) i j = behindL rows i j := by
  have hjl : j < (rows.getD i []).length := by rw [h.len i hi]; exact hj
  unfold behindL
  rw [cellR_set x hi hjl, cellR_set x hi hjl, setR_len, setR_wR j x hi]
  by_cases h1 : i + 1 < rows.length <;> by_cases h2 : j + 1 < wR rows <;> simp [h1, h2]
theorem fits_betw {rows : List (List Int)} {i j : Nat} {x : Int} (h : Rok rows) (hi : i < rows.length) (hj : j < wR rows) (g : Rok (setR rows i j x)) : Betw (aheadL rows i j).max? (behindL rows i j).min? x := by
  have hjl : j < (rows.getD i []).length := by rw [h.len i hi]; exact hj
  have ex : cellR (setR rows i j x) i j = x := by rw [cellR_set x hi hjl, if_pos ⟨rfl, rfl⟩]
  have hi' : i < (setR rows i j x).length := by rw [setR_len]; exact hi
  have hj' : j < wR (setR rows i j x) := by rw [setR_wR j x hi]; exact hj
  refine ⟨fun m hm => ?_, fun m hm => ?_⟩
  · have := ahead_le g hi' hj' (by rw [ahead_set x h hi hj]; exact (List.max?_eq_some_iff.mp hm).1)
    rw [ex] at this
    exact this
  · have := behind_ge g hi' hj' (by rw [behind_set x h hi hj]; exact (List.min?_eq_some_iff.mp hm).1)
    rw [ex] at this
    exact this
theorem no_fit {rows : List (List Int)} {i j : Nat} {x : Int} (h : Rok rows) (hi : i < rows.length) (hj : j < wR rows) (b : ¬ Betw (aheadL rows i j).max? (behindL rows i j).min? x) : rowsOk (setR rows i j x) = false := by
  cases e : rowsOk (setR rows i j x) with
  | false => rfl
  | true => exact absurd (fits_betw h hi hj (rok_of e)) b
end Seek
namespace L2
open PySem PySem.Spec PyProof.Rows
theorem call_isinstK {X : Cx} (K : PySem.W.Frag) (hK : X.K = K := by rfl) : CallR X (.builtin "isinstance") (fun xs H Q => ∃ x T t b, xs = [x, V.ty T] ∧ TyOf K H x t ∧ PySem.W.kitOne K t (Value.type T) = some b ∧ Q (V.bl b) H) := by subst hK; exact call_isinst
theorem tail_both {t u : TS} {D : Ends} {σ0 : St} {H0 : Hp} (C : (St → Hp → Prop) → Prop) (h : C (u D)) (hA : C (u D) → t { D with nx := u D } σ0 H0) : tSeq t u D σ0 H0 := hA h
end L2
namespace Seek
open PySem L2 PyProof.Rows
structure CR (S : List Addr) (H0 : Hp) (C st a dx l : Addr) (chs : Ch) (rows : List (List Int)) (H : Hp) (t : Addr) (prs : Prs) : Prop where
  k : KM S H C a dx l t prs chs
  r : prs.map (·.2) = rows
  b : ButS [a, l, st] H0 H
  s : StK H st
  hs : st ∈ S
theorem CR.same {S : List Addr} {H0 : Hp} {C st a dx l t : Addr} {chs : Ch} {rows : List (List Int)} {H H' : Hp} {prs : Prs} (h : CR S H0 C st a dx l chs rows H t prs) (s : Same H H') : CR S H0 C st a dx l chs rows H' t prs := ⟨h.k.same s, h.r, h.b.trans (Same.butS s), h.s.same s, h.hs⟩
theorem stk_live {H : Hp} {st : Addr} (s : StK H st) : ∀ b ∈ [st], H b ≠ none := fun b hb => by
  rw [List.mem_singleton.mp hb]
  obtain ⟨_, _, _, e⟩ := s
  rw [e]
  exact fun z => nomatch z
theorem KM.st {S : List Addr} {C a dx l t st : Addr} {chs : Ch} {H H' : Hp} {prs : Prs} (h : KM S H C a dx l t prs chs) (hs : st ∈ S) (b : But st H H') (s : StK H' st) : KM S H' C a dx l t prs chs :=
  h.but (fun y o n e => b y o (fun z => n (by rw [z]; exact hs)) e) fun y hy z => by
    by_cases e : y = st
    · exact stk_live s y (by rw [e]; exact .head _) z
    · cases ey : H y with
      | none => exact h.live y hy ey
      | some o => rw [b y o e ey] at z; cases z
theorem CR.st {S : List Addr} {H0 : Hp} {C st a dx l t : Addr} {chs : Ch} {rows : List (List Int)} {H H' : Hp} {prs : Prs} (h : CR S H0 C st a dx l chs rows H t prs) (b : But st H H') (s : StK H' st) : CR S H0 C st a dx l chs rows H' t prs :=
  ⟨h.k.st h.hs b s, h.r, h.b.trans fun y o n e => b y o (fun z => n (by rw [z]; simp)) e, s, h.hs⟩
structure TC (H0 : Hp) (st a l T c : Addr) (qs : Prs) (i j : Nat) : Prop where
  tb : Tab H0 T qs
  nT : T ∉ [a, l, st]
  nq : ∀ p ∈ qs, p.1 ∉ [a, l, st]
  ce : Cell H0 c i j
  nc : c ∉ [a, l, st]
theorem TC.tab {H0 H : Hp} {st a l T c : Addr} {qs : Prs} {i j : Nat} (h : TC H0 st a l T c qs i j) (b : ButS [a, l, st] H0 H) : Tab H T qs := ⟨b _ _ h.nT h.tb.l, fun p hp => b _ _ (h.nq p hp) (h.tb.r p hp)⟩
theorem oV_rds {S : List Addr} {H : Hp} (o : Option Int) : RdS S H (oV o) (oD o) := by
  cases o with
  | none => exact .non
  | some n => exact .int n
section
variable {P : Program} {w : World} {K : PySem.W.Frag} {mg : Str → Option Value} {base : Heap} {C : Addr}
theorem good_at {S : List Addr} {H0 H : Hp} {st a dx l t T c : Addr} {prs qs : Prs} {chs : Ch} {rows : List (List Int)} {i j : Nat} {x : Int} {Q : VK} {E : XK} (h : CR S H0 C st a dx l chs rows H t prs) (tc : TC H0 st a l T c qs i j) (hr : qs.map (·.2) = rows) (hcl : chs.length < 900) (hi : i < rows.length) (hj : j < wR rows) (ok : rowsOk (setR rows i j x) = true)
    (q : ∀ H' t' prs', CR S H0 C st a dx l chs rows H' t' prs' → Q (.bl true) H') : spGood C [.ref a, .ref T, .ref c, .int x] H Q E := by
  have nm : ∀ {y : Addr}, y ∉ [a, l, st] → y ≠ a ∧ y ≠ l := fun n => ⟨fun z => n (by rw [z]; simp), fun z => n (by rw [z]; simp)⟩
  have e := h.r
  refine ⟨a, dx, t, l, c, T, prs, qs, chs, i, j, x, rfl, h.k.k, hcl, tc.tab h.b, (nm tc.nT).1, (nm tc.nT).2, fun p hp => nm (tc.nq p hp), h.r.trans hr.symm, h.b _ _ tc.nc tc.ce, (nm tc.nc).1, (nm tc.nc).2, ?_, ?_, by rw [e]; exact ok, fun t' prs' H' ht hp fr hr' hk => ?_⟩
  · rw [← e, List.length_map] at hi; exact hi
  · rw [← e, wR_w0] at hj; exact hj
  · have k' := h.k.next ht hp fr h.k.nc hk
    refine q H' t' prs' ⟨k', hr'.trans e, h.b.trans fun y o n e => fr y o (nm n).1 (nm n).2 e, ?_, h.hs⟩
    obtain ⟨g1, g2, g3, est⟩ := h.s
    exact ⟨g1, g2, g3, fr _ _ (fun z => h.k.na (by rw [← z]; exact h.hs)) (fun z => h.k.nl (by rw [← z]; exact h.hs)) est⟩
theorem ref_at {S : List Addr} {H0 H : Hp} {st a dx l t T c : Addr} {prs qs : Prs} {chs : Ch} {rows : List (List Int)} {i j : Nat} {x : Int} {Q : VK} {E : XK} (h : CR S H0 C st a dx l chs rows H t prs) (tc : TC H0 st a l T c qs i j) (hi : i < rows.length) (hj : j < wR rows) (ok : rowsOk (setR rows i j x) = false)
    (q : ∀ H', CR S H0 C st a dx l chs rows H' t prs → Q (.bl true) H') : spRef C [.ref a, .ref c, .int x] H Q E := by
  have e := h.r
  refine ⟨a, dx, t, l, c, prs, chs, i, j, x, rfl, h.k.k, h.b _ _ tc.nc tc.ce, ?_, ?_, by rw [e]; exact ok, fun H' s => q H' (h.same s)⟩
  · rw [← e, List.length_map] at hi; exact hi
  · rw [← e, wR_w0] at hj; exact hj
def spCellR (C : Addr) : Sp := fun vs H Q _ => ∃ (st a dx t l c T : Addr) (prs qs : Prs) (chs : Ch) (rows : List (List Int)) (i j : Nat) (S : List Addr), vs = [.ref st, .ref a, .ref T, .ref c] ∧ CR S H C st a dx l chs rows H t prs ∧ TC H st a l T c qs i j ∧ qs.map (·.2) = rows ∧ chs.length < 900 ∧ i < rows.length ∧ j < wR rows ∧ ∀ H' t' prs', CR S H C st a dx l chs rows H' t' prs' → Q (.bl true) H'
abbrev crN : List Str := ["store", "keeper", "table", "cell", "low", "high", "again", "found", "far", "here"]
theorem sc_cellR : FnScope crN ["store", "keeper", "table", "cell"] (defScope dCellR) := ⟨rfl, rfl, rfl, by decide +kernel, rfl, by decide +kernel, by decide +kernel⟩
set_option maxHeartbeats 8000000 in
theorem ok_cellR (T0 : Blt mg) (htup : mg "tuple" = none) (kc : KpC K C) (Df : DefAt K mg "_law_cell_right" dCellR ["store", "keeper", "table", "cell"]) (M2 : MtAt P w K mg base 10 C "span" ["self", "cell"] (spKSpan C)) (G5 : FnAt P w K mg base 1 "_law_span" ["table", "cell"] spSpan) (G6 : FnAt P w K mg base 2 "_law_far" ["store", "figures"] spFar)
    (G7 : FnAt P w K mg base 9 "_law_good" ["keeper", "table", "cell", "x"] (spGood C)) (G8 : FnAt P w K mg base 9 "_law_refused" ["keeper", "cell", "x"] (spRef C)) : FnAt P w K mg base 11 "_law_cell_right" ["store", "keeper", "table", "cell"] (spCellR C) := by
  refine FnAt.of Df sc_cellR (fun vs H Q E h => ?_) (fun f cdv A outer s H vs Q E hr h => ?_)
  · obtain ⟨st, a, dx, t, l, c, T, prs, qs, chs, rows, i, j, S, rfl, _⟩ := h
    rfl
  · obtain ⟨st, a, dx, t, l, c, T, prs, qs, chs, rows, i, j, S, rfl, h0, tc, hqr, hcl, hi, hj, q⟩ := h
    have nd := sc_cellR.nd
    have nd1 : (["one"] : List Str).Nodup := by decide +kernel
    have hr1 : Room 1 _ := hr.mono (show 1 ≤ 10 by decide)
    have hr2 : Room 2 _ := hr.mono (show 2 ≤ 10 by decide)
    have hr9 : Room 9 _ := hr.mono (show 9 ≤ 10 by decide)
    have hu : _ := hu65 hr
    refine ⟨_, pss_cons (ps_asg (pe_f G5 hr1 (pa_cons (pv 2) (pa_cons (pv 3) pa_nil))) (pg_tup rfl (pgs_cons (pg_name (i := 4) nd rfl (Or.inl rfl)) (pgs_cons (pg_name (i := 5) nd rfl (Or.inl rfl)) pgs_nil))))
      (pss_cons (ps_for PassesOwn.never rfl (pi_range1 rfl T0.rng (pa_cons pe_int pa_nil)) (pg_name (i := 6) nd rfl (Or.inl rfl))
        (pss_cons (ps_set (i := 7) nd rfl (Or.inl rfl) (pe_m M2 kc.cls hr (pv 1) (pa_cons (pv 3) pa_nil)))
        (pss_one (ps_if (PW.pt (pw_or (pt_not (pt_val (pe_b call_isinst T0.isinst boot_isinstance (pa_cons (pv 7) (pa_cons (pe_ty htup boot_tuple) pa_nil))))) (pw_or (pt_cmpR (op_neD hr.units) (pv 7) (pe_tup (pa_cons (pv 4) (pa_cons (pv 5) pa_nil))) (nomark _)) (pw_or1 (pt_cmpR (op_inD hu) pe_bl (pe_comp ["one"] [none] (defScope dCellR) crN rfl (pi_tup (pv 7)) (by decide +kernel)
          (fun cl C s2 H2 ex => pg_c 0 nd1) (fun cl C s2 H2 ex => pifs_nil) (fun cl C s2 H2 ex => pe_b (call_isinstK K) T0.isinst boot_isinstance (pa_cons (pv 0) (pa_cons (pe_ty T0.bool boot_bool) pa_nil)))) rfl))))) (pss_one (ps_ret pe_bl)) pss_nil))))
      (pss_cons (ps_set (i := 8) nd rfl (Or.inl rfl) (pe_op o_add pe_int (pe_f G6 hr2 (pa_cons (pv 0) (pa_cons pe_int pa_nil)))))
      (pss_cons (ps_set (i := 9) nd rfl (Or.inl rfl) (pe_ix ix_list (pe_ix ix_list (pv 2) (pe_ix ix_tup (pv 3) pe_int (fun _ _ => rfl)) (fun _ _ => rfl)) (pe_ix ix_tup (pv 3) pe_int (fun _ _ => rfl)) (fun _ _ => rfl)))
      (pss_cons (ps_if (pt_cmpR op_isN (pv 4) pe_non (nomark _)) (pss_one (ps_if (pt_not (pt_val (pe_f G7 hr9 (pa_cons (pv 1) (pa_cons (pv 2) (pa_cons (pv 3) (pa_cons (pe_op o_sub (pv 9) (pv 8)) pa_nil))))))) (pss_one (ps_ret pe_bl)) pss_nil))
        (pss_cons (ps_if (PW.pt (pw_or (pt_not (pt_val (pe_f G7 hr9 (pa_cons (pv 1) (pa_cons (pv 2) (pa_cons (pv 3) (pa_cons (pv 4) pa_nil))))))) (pw_or1 (pt_not (pt_val (pe_f G8 hr9 (pa_cons (pv 1) (pa_cons (pv 3) (pa_cons (pe_op o_sub (pv 4) pe_int) pa_nil))))))))) (pss_one (ps_ret pe_bl)) pss_nil)
        (pss_one (ps_if (pt_not (pt_val (pe_f G8 hr9 (pa_cons (pv 1) (pa_cons (pv 3) (pa_cons (pe_op o_sub (pv 4) (pv 8)) pa_nil)))))) (pss_one (ps_ret pe_bl)) pss_nil))))
      (pss_cons (ps_if (pt_cmpR op_isN (pv 5) pe_non (nomark _)) (pss_one (ps_ret (pe_f G7 hr9 (pa_cons (pv 1) (pa_cons (pv 2) (pa_cons (pv 3) (pa_cons (pe_op o_add (pv 9) (pv 8)) pa_nil))))))) pss_nil)
      (pss_cons (ps_if (PW.pt (pw_or (pt_not (pt_val (pe_f G7 hr9 (pa_cons (pv 1) (pa_cons (pv 2) (pa_cons (pv 3) (pa_cons (pv 5) pa_nil))))))) (pw_or1 (pt_not (pt_val (pe_f G8 hr9 (pa_cons (pv 1) (pa_cons (pv 3) (pa_cons (pe_op o_add (pv 5) pe_int) pa_nil))))))))) (pss_one (ps_ret pe_bl)) pss_nil)
      (pss_one (ps_ret (pe_f G8 hr9 (pa_cons (pv 1) (pa_cons (pv 3) (pa_cons (pe_op o_add (pv 5) (pv 8)) pa_nil)))))))))))), ?_⟩
    have hqn : qs.length = rows.length := by
      have := congrArg List.length hqr
      simpa using this
    have hqw : w0 qs = wR rows := by rw [← wR_w0, hqr]
    have hpn : prs.length = rows.length := by
      have := congrArg List.length h0.r
      simpa using this
    have hpw : w0 prs = wR rows := by rw [← wR_w0, h0.r]
    have hrok : Rok rows := by rw [← h0.r]; exact h0.k.k.rok
    have hg : tabB qs = true := by rw [rowsOk_of hqr]; exact rok_ok hrok
    obtain ⟨g, _⟩ := good_of hg
    have hb := fits_betw hrok hi hj (x := cellR rows i j) (by rw [setR_same _ hi]; exact hrok)
    have fit : ∀ {x : Int}, Betw (aheadL rows i j).max? (behindL rows i j).min? x → rowsOk (setR rows i j x) = true := fun b => rok_ok (betw_fits hrok hi hj b)
    have nof : ∀ {x : Int}, ¬ Betw (aheadL rows i j).max? (behindL rows i j).min? x → rowsOk (setR rows i j x) = false := fun b => no_fit hrok hi hj b
    have ends : ∀ {m n : Int}, (aheadL rows i j).max? = some m → (behindL rows i j).min? = some n → m ≤ n := fun e1 e2 => ends_le hrok hi hj e1 e2
    refine ⟨_, rfl, _, rfl, T, c, qs, i, j, rfl, tc.tb, hg, tc.ce, by omega, by omega, fun r H1 hr1' s1 er => ?_⟩
    rw [hqr] at er
    refine ⟨r, _, rfl, SqT.of er, rfl, _, _, rfl, _, _, rfl, rfl, ?_⟩
    have h1 := h0.same s1
    refine ⟨2, rfl, by decide, by decide, for_range (fun k σ Hk => ∃ o6 o7 : Option V, σ = [some (.ref st), some (.ref a), some (.ref T), some (.ref c), some (oV (aheadL rows i j).max?), some (oV (behindL rows i j).min?), o6, o7, none, none] ∧ Same H1 Hk) ⟨none, none, rfl, Same.refl _⟩ ?_ ?_⟩
    · rintro k σ Hk hk ⟨o6, o7, rfl, sk⟩
      have hk1 := h1.same sk
      refine ⟨_, rfl, a, dx, _, rfl, hk1.k.k.ob, rfl, _, rfl, a, dx, t, l, c, prs, chs, i, j, rfl, hk1.k.k, hk1.b _ _ tc.nc tc.ce, by omega, by omega, fun u H2 hu2 s2 eu => ?_⟩
      rw [h0.r] at eu
      refine ⟨_, rfl, _, _, _, _, rfl, .tup eu, (by kernel_rfl : PySem.W.kitOne K (.type "tuple") (.type "tuple") = some true), _, rfl, iteF ⟨_, rfl, _, rfl, _, rfl, len2, fun v hv => ?_⟩⟩
      have s3 := Same.new (o := .tup [oV (aheadL rows i j).max?, oV (behindL rows i j).min?]) hv
      refine ⟨spanD rows i j, spanD rows i j, .tup (SqT.of (s3 _ _ eu)) (.cons (oV_rd _) (.cons (oV_rd _) .nil)), .tup (SqT.of upd_same) (.cons (oV_rd _) (.cons (oV_rd _) .nil)), shaped_span _ _ _, shaped_span _ _ _, _, rfl, ?_⟩
      rw [eqv_span]
      generalize upd H2 v (.tup [oV (aheadL rows i j).max?, oV (behindL rows i j).min?]) = H3 at s3 ⊢
      refine iteF ⟨_, rfl, u, rfl, ⟨_, SqT.of (s3 _ _ eu)⟩, comp_tup (ms := [(aheadL rows i j).max?, (behindL rows i j).min?]) oV (fun _ => V.bl false) (SqT.of (s3 _ _ eu)) len2 (fun o ho H' Q' sm q' => ?_) fun D H4 hD s4 hDl => ?_⟩
      · refine ⟨_, rfl, _, _, _, false, rfl, (oV_rds (S := []) o).ty, ?_, q' _ (Same.refl _)⟩
        cases o <;> kernel_rfl
      · refine ⟨.bool true, [.bool false, .bool false], .bl true, .lst (SqL.of hDl) (.cons (.bl false) (.cons (.bl false) .nil)), rfl, rfl, _, rfl, ?_⟩
        rw [show (([.bool false, .bool false] : List PyData).any fun d => PyData.eqv d (.bool true)) = false by simp [PyData.eqv]]
        exact iteF ⟨_, _, rfl, sk.trans (s2.trans (s3.trans s4))⟩
    rintro σ H2 ⟨o6, o7, rfl, s2⟩
    have h2 := h1.same s2
    refine ⟨_, rfl, st, 24, rfl, by decide, by decide, h2.s, fun d H3 d0 d1 b3 S3 => ⟨1, d, rfl, rfl, ?_⟩⟩
    have hfar : 1 ≤ 1 + d := by omega
    generalize 1 + d = far at hfar ⊢
    have h3 := h2.st b3 S3
    obtain ⟨p, hp1, hp2, hp3⟩ := rowAt_mem (prs := qs) (i := i) (by omega)
    have hT3 := tc.tab h3.b
    have hc3 := h3.b _ _ tc.nc tc.ce
    refine ⟨_, rfl, _, rfl, c, _, 0, .int (i : Nat), rfl, rfl, SqT.of hc3, rfl, T, _, _, .ref p.1, rfl, rfl, hT3.sq, atI_nat (by rw [List.getElem?_map, hp2]; rfl), _, rfl, c, _, 1, .int (j : Nat), rfl, rfl, SqT.of hc3, rfl, p.1, _, _, .int (p.2.getD j 0), rfl, rfl, (hT3.r p hp1).sq, at_row (by rw [g.len p hp1]; omega), ?_⟩
    have eh : p.2.getD j 0 = cellR rows i j := by rw [← hqr, cellR_at, hp3]
    rw [eh]
    generalize cellR rows i j = here at hb ⊢
    clear er hT3 hc3 h1 h2 eh
    obtain ⟨lo, elo⟩ : ∃ lo, (aheadL rows i j).max? = lo := ⟨_, rfl⟩
    obtain ⟨hi', ehi⟩ : ∃ hi, (behindL rows i j).min? = hi := ⟨_, rfl⟩
    rw [elo, ehi] at hb
    simp only [elo, ehi] at fit nof ends ⊢
    refine tail_both (fun N => ∀ H4 t4 prs4, CR S H C st a dx l chs rows H4 t4 prs4 → N [some (.ref st), some (.ref a), some (.ref T), some (.ref c), some (oV lo), some (oV hi'), o6, o7, some (.int far), some (.int here)] H4) (fun H4 t4 prs4 h4 => ?_) (fun key => ?_)
    case refine_2 =>
      refine ⟨_, rfl, rfl, _, rfl, ?_⟩
      cases lo with
      | none =>
        exact iteDt rfl ⟨_, rfl, _, rfl, _, rfl, _, rfl, _, rfl, _, _, rfl, rfl, good_at (E := E0) (x := here - far) h3 tc hqr hcl hi hj (fit ⟨fun _ z => (nomatch z), fun n e => by have := hb.2 n e; omega⟩) fun H' t' prs' h' => ⟨_, rfl, iteF (key H' t' prs' h')⟩⟩
      | some m =>
        refine iteDf (fun z => nomatch z) ⟨_, rfl, _, rfl, _, rfl, _, rfl, good_at (E := E0) (x := m) h3 tc hqr hcl hi hj (fit ⟨fun n e => by cases e; exact Int.le_refl _, fun n e => ends rfl e⟩) fun H' t' prs' h' => ⟨_, rfl, iteF ⟨_, rfl, _, rfl, _, rfl, m, 1, rfl, rfl, ?_⟩⟩⟩
        dsimp only [tNil]
        refine ref_at (E := E0) (x := m - 1) h' tc hi hj (nof fun z => by have := z.1 m rfl; omega) fun H5 h5 => ⟨_, rfl, iteF ⟨_, rfl, _, rfl, _, rfl, _, rfl, m, far, rfl, rfl, ?_⟩⟩
        dsimp only [tNil]
        exact ref_at (E := E0) (x := m - far) h5 tc hi hj (nof fun z => by have := z.1 m rfl; omega) fun H6 h6 => ⟨_, rfl, iteF (key H6 t' prs' h6)⟩
    refine ⟨_, rfl, rfl, _, rfl, ?_⟩
    cases hi' with
    | none => exact iteDt rfl ⟨_, rfl, _, rfl, _, rfl, _, rfl, _, rfl, _, _, rfl, rfl, good_at (E := E0) (x := here + far) h4 tc hqr hcl hi hj (fit ⟨fun n e => by have := hb.1 n e; omega, fun _ z => (nomatch z)⟩) fun H' t' prs' h' => q H' t' prs' h'⟩
    | some m =>
      refine iteDf (fun z => nomatch z) ⟨_, rfl, _, rfl, _, rfl, _, rfl, good_at (E := E0) (x := m) h4 tc hqr hcl hi hj (fit ⟨fun n e => ends e rfl, fun n e => by cases e; exact Int.le_refl _⟩) fun H' t' prs' h' => ⟨_, rfl, iteF ⟨_, rfl, _, rfl, _, rfl, m, 1, rfl, rfl, ?_⟩⟩⟩
      dsimp only [tNil]
      refine ref_at (E := E0) (x := m + 1) h' tc hi hj (nof fun z => by have := z.2 m rfl; omega) fun H5 h5 => ⟨_, rfl, iteF ⟨_, rfl, _, rfl, _, rfl, _, rfl, m, far, rfl, rfl, ?_⟩⟩
      dsimp only [tNil]
      exact ref_at (E := E0) (x := m + far) h5 tc hi hj (nof fun z => by have := z.2 m rfl; omega) fun H6 h6 => q H6 t' prs' h6
end
def scl (r : List Int) : List Int := (r.take 4).map fun n => n * 10 ^ 12
def sub4 (rows : List (List Int)) : List (List Int) := (rows.take 4).map scl
theorem getD_scl (r : List Int) {j : Nat} (hj : j < 4) : (scl r).getD j 0 = r.getD j 0 * 10 ^ 12 := by
  unfold scl
  rw [List.getD_eq_getElem?_getD, List.getD_eq_getElem?_getD, List.getElem?_map, List.getElem?_take_of_lt hj]
  cases r[j]? with
  | none => rfl
  | some n => rfl
theorem getD_sub (rows : List (List Int)) {i : Nat} (hi : i < 4) : (sub4 rows).getD i [] = scl (rows.getD i []) := by
  unfold sub4
  rw [List.getD_eq_getElem?_getD, List.getD_eq_getElem?_getD, List.getElem?_map, List.getElem?_take_of_lt hi]
  cases rows[i]? with
  | none => rfl
  | some n => rfl
theorem sub_rok {rows : List (List Int)} (h : Rok rows) : Rok (sub4 rows) := by
  have hl : (sub4 rows).length = min 4 rows.length := by unfold sub4; rw [List.length_map, List.length_take]
  have hw : wR (sub4 rows) = min 4 (wR rows) := by
    unfold wR
    rw [getD_sub rows (by decide)]
    unfold scl
    rw [List.length_map, List.length_take]
  have hc : ∀ i j, i < 4 → j < 4 → cellR (sub4 rows) i j = cellR rows i j * 10 ^ 12 := fun i j hi hj => by
    unfold cellR
    rw [getD_sub rows hi, getD_scl _ hj]
  have n1 := h.n1
  have n6 := h.n6
  have w1 := h.w1
  have w6 := h.w6
  refine ⟨by omega, by omega, by omega, by omega, fun i hi => ?_, fun i j hi hj => ?_, fun i j hi hj => ?_⟩
  · rw [getD_sub rows (by omega)]
    unfold scl
    rw [List.length_map, List.length_take, h.len i (by omega), hw]
  · rw [hc i j (by omega) (by omega), hc i (j + 1) (by omega) (by omega)]
    have := h.row i j (by omega) (by omega)
    omega
  · rw [hc i j (by omega) (by omega), hc (i + 1) j (by omega) (by omega)]
    have := h.down i j (by omega) (by omega)
    omega
theorem cut4 (xs : List V) : cutV xs none (some 4) = xs.take 4 := by
  unfold cutV
  rw [HT.sIx_none, show (some (4 : Int)) = some (((4 : Nat) : Int)) from rfl, HT.sIx_nat]
  rw [List.drop_zero, Nat.sub_zero]
  by_cases h : 4 ≤ xs.length
  · rw [Nat.min_eq_left h]
  · rw [Nat.min_eq_right (by omega), List.take_length, List.take_of_length_le (by omega)]
theorem scl_len {rows : List (List Int)} (hb : ∀ r ∈ rows, ∀ n ∈ r, n.natAbs < 10 ^ 38) : ∀ r ∈ sub4 rows, ∀ n ∈ r, (numStr n).length ≤ 100 := fun r hr n hn => by
  unfold sub4 at hr
  obtain ⟨r0, hr0, rfl⟩ := List.mem_map.mp hr
  unfold scl at hn
  obtain ⟨m, hm, rfl⟩ := List.mem_map.mp hn
  have h1 := hb r0 (List.mem_of_mem_take hr0) m (List.mem_of_mem_take hm)
  have h2 : (m * 10 ^ 12).natAbs < 10 ^ 50 := by
    rw [Int.natAbs_mul]
    have : ((10 : Int) ^ 12).natAbs = 10 ^ 12 := by decide
    rw [this, show (10 : Nat) ^ 50 = 10 ^ 38 * 10 ^ 12 by decide]
    exact Nat.mul_lt_mul_of_pos_right h1 (by decide)
  exact Nat.le_trans (num_len h2 (by decide)) (by decide)
theorem atI_end9 {α : Type} (xs : List α) (v : α) : atI (xs ++ [v]) (-1) = some v := atI_last (by simp)
theorem log_ok {n : Int} (h : n.natAbs < 10 ^ 50) : n.natAbs.log2 < 1920 := by
  by_cases h0 : n.natAbs = 0
  · rw [h0]; decide
  · rw [Nat.log2_lt h0]
    have h1 : (10 : Nat) ^ 50 ≤ 2 ^ 200 := by decide
    have h2 : (2 : Nat) ^ 200 ≤ 2 ^ 1920 := Nat.pow_le_pow_right (by decide) (by decide)
    exact Nat.lt_of_lt_of_le h (Nat.le_trans h1 h2)
theorem scl_abs {r : List Int} (hb : ∀ n ∈ r, n.natAbs < 10 ^ 38) : ∀ n ∈ scl r, n.natAbs < 10 ^ 50 := fun n hn => by
  unfold scl at hn
  obtain ⟨m, hm, rfl⟩ := List.mem_map.mp hn
  have h1 := hb m (List.mem_of_mem_take hm)
  rw [Int.natAbs_mul]
  have : ((10 : Int) ^ 12).natAbs = 10 ^ 12 := by decide
  rw [this, show (10 : Nat) ^ 50 = 10 ^ 38 * 10 ^ 12 by decide]
  exact Nat.mul_lt_mul_of_pos_right h1 (by decide)
theorem TC.move {H0 H : Hp} {st a l T c : Addr} {qs : Prs} {i j : Nat} (h : TC H0 st a l T c qs i j) (b : ButS [a, l, st] H0 H) : TC H st a l T c qs i j := ⟨h.tab b, h.nT, h.nq, b _ _ h.nc h.ce, h.nc⟩
theorem last_ex {α : Type} {l : List α} (h : l ≠ []) : ∃ l' x, l = l' ++ [x] := ⟨l.dropLast, l.getLast h, (List.dropLast_concat_getLast h).symm⟩
section
variable {P : Program} {w : World} {K : PySem.W.Frag} {mg : Str → Option Value} {base : Heap} {C : Addr}
def spGreat : Sp := fun vs H Q _ => ∃ st : Addr, vs = [.ref st] ∧ StK H st ∧ ∀ H', But st H H' → StK H' st → Q (.bl true) H'
abbrev grN : List Str := ["store", "great", "lines", "row", "keeper", "turn", "cell", "low", "high", "end"]
theorem sc_greatR : FnScope grN ["store"] (defScope dGreatR) := ⟨rfl, rfl, rfl, by decide +kernel, rfl, by decide +kernel, by decide +kernel⟩
structure GT (H : Hp) (st Gr Li : Addr) (gs : Prs) : Prop where
  g : H Gr = some (.lst (gs.map fun p => V.ref p.1))
  r : ∀ p ∈ gs, Row H p.1 p.2
  l : H Li = some (.lst ((gs.map (·.2)).map (V.str ∘ rowS)))
  n1 : Gr ≠ st
  n2 : Li ≠ st
  n3 : Gr ≠ Li
  np : ∀ p ∈ gs, p.1 ≠ st ∧ p.1 ≠ Gr ∧ p.1 ≠ Li
theorem GT.same {H H' : Hp} {st Gr Li : Addr} {gs : Prs} (h : GT H st Gr Li gs) (s : Same H H') : GT H' st Gr Li gs := ⟨s _ _ h.g, fun p hp => s _ _ (h.r p hp), s _ _ h.l, h.n1, h.n2, h.n3, h.np⟩
theorem GT.but {H H' : Hp} {st Gr Li : Addr} {gs : Prs} (h : GT H st Gr Li gs) (b : But st H H') : GT H' st Gr Li gs := ⟨b _ _ h.n1 h.g, fun p hp => b _ _ (h.np p hp).1 (h.r p hp), b _ _ h.n2 h.l, h.n1, h.n2, h.n3, h.np⟩
set_option maxHeartbeats 16000000 in
theorem ok_greatR (T0 : Blt mg) (hstr : mg "str" = none) (zK : KpM K mg C) (Df : DefAt K mg "_law_great_right" dGreatR ["store"]) (G0 : FnAt P w K mg base 1 "_law_take" ["store", "many"] spTakeK) (G3 : FnAt P w K mg base 3 "_law_table" ["store"] spTableK) (GR : FnAt P w K mg base 6 "read_table" ["text"] spRT) (G5 : FnAt P w K mg base 1 "_law_span" ["table", "cell"] spSpan)
    (G7 : FnAt P w K mg base 9 "_law_good" ["keeper", "table", "cell", "x"] (spGood C)) (G8 : FnAt P w K mg base 9 "_law_refused" ["keeper", "cell", "x"] (spRef C)) (M0 : MtAt P w K mg base 7 C "__init__" ["self", "table"] (spInit C)) (M1 : MtAt P w K mg base 2 C "table" ["self"] (spKTable C)) (M2 : MtAt P w K mg base 10 C "span" ["self", "cell"] (spKSpan C)) :
    FnAt P w K mg base 11 "_law_great_right" ["store"] spGreat := by
  refine FnAt.of Df sc_greatR (fun vs H Q E h => ?_) (fun f cdv A outer s H vs Q E hr h => ?_)
  · obtain ⟨st, rfl, _⟩ := h
    rfl
  · obtain ⟨st, rfl, hst, q⟩ := h
    have nd := sc_greatR.nd
    have nd1 : (["number"] : List Str).Nodup := by decide +kernel
    have kc := zK.c
    have hr1 : Room 1 _ := hr.mono (show 1 ≤ 10 by decide)
    have hr2 : Room 2 _ := hr.mono (show 2 ≤ 10 by decide)
    have hr3 : Room 3 _ := hr.mono (show 3 ≤ 10 by decide)
    have hr6 : Room 6 _ := hr.mono (show 6 ≤ 10 by decide)
    have hr8 : Room 8 _ := hr.mono (show 8 ≤ 10 by decide)
    have hr9 : Room 9 _ := hr.mono (show 9 ≤ 10 by decide)
    refine ⟨_, pss_cons (ps_set (i := 1) nd rfl (Or.inl rfl) (pe_lst pa_nil)) (pss_cons (ps_set (i := 2) nd rfl (Or.inl rfl) (pe_lst pa_nil))
      (pss_cons (ps_for PassesOwn.never rfl (pi_list (pe_slice sl_list (pe_f G3 hr3 (pa_cons (pv 0) pa_nil)) po_none (po_some pe_int))) (pg_name (i := 3) nd rfl (Or.inl rfl))
        (pss_cons (ps_expr (pe_bm PySem.F.plainAttrs_list PySem.F.slot_list_append PySem.F.type_list_append mt_append (pv 1) (pa_cons (pe_comp ["number"] [none] (defScope dGreatR) grN rfl (pi_list (pe_slice sl_list (pv 3) po_none (po_some pe_int))) (by decide +kernel)
          (fun cl C s2 H2 ex => pg_c 0 nd1) (fun cl C s2 H2 ex => pifs_nil) (fun cl C s2 H2 ex => pe_op o_mul (pv 0) (pe_op o_pow pe_int pe_int))) pa_nil)))
        (pss_one (ps_expr (pe_bm PySem.F.plainAttrs_list PySem.F.slot_list_append PySem.F.type_list_append mt_append (pv 2) (pa_cons (pe_bm F.plainAttrs_str F.slot_str_join F.type_str_join mt_join pe_str (pa_cons (pe_comp ["number"] [none] (defScope dGreatR) grN rfl (pi_list (pe_ix ix_list (pv 1) (pe_un o_neg pe_int) (fun _ _ => rfl))) (by decide +kernel)
          (fun cl C s2 H2 ex => pg_c 0 nd1) (fun cl C s2 H2 ex => pifs_nil) (fun cl C s2 H2 ex => pe_t call_strI hstr boot_str9 (pa_cons (pv 0) pa_nil))) pa_nil)) pa_nil))))))
      (pss_cons (ps_set (i := 4) nd rfl (Or.inl rfl) (pe_new M0 zK.mks zK.kp hr8 rfl zK.gl (pa_cons (pe_f GR hr6 (pa_cons (pe_bm F.plainAttrs_str F.slot_str_join F.type_str_join mt_join pe_str (pa_cons (pv 2) pa_nil)) pa_nil)) pa_nil)))
      (pss_cons (ps_for PassesOwn.never rfl (pi_range1 rfl T0.rng (pa_cons pe_int pa_nil)) (pg_name (i := 5) nd rfl (Or.inl rfl))
        (pss_cons (ps_set (i := 6) nd rfl (Or.inl rfl) (pe_tup (pa_cons (pe_f G0 hr1 (pa_cons (pv 0) (pa_cons (pe_b call_len_seq T0.len boot_len (pa_cons (pv 1) pa_nil)) pa_nil)))
          (pa_cons (pe_f G0 hr1 (pa_cons (pv 0) (pa_cons (pe_b call_len_seq T0.len boot_len (pa_cons (pe_ix ix_list (pv 1) pe_int (fun _ _ => rfl)) pa_nil)) pa_nil))) pa_nil))))
        (pss_cons (ps_asg (pe_f G5 hr1 (pa_cons (pv 1) (pa_cons (pv 6) pa_nil))) (pg_tup rfl (pgs_cons (pg_name (i := 7) nd rfl (Or.inl rfl)) (pgs_cons (pg_name (i := 8) nd rfl (Or.inl rfl)) pgs_nil))))
        (pss_cons (ps_if (pt_cmpR (op_neD hr.units) (pe_m M2 kc.cls hr (pv 4) (pa_cons (pv 6) pa_nil)) (pe_tup (pa_cons (pv 7) (pa_cons (pv 8) pa_nil))) (nomark _)) (pss_one (ps_ret pe_bl)) pss_nil)
        (pss_cons (ps_for PassesOwn.never rfl (pi_tup (pe_tup (pa_cons (pv 7) (pa_cons (pv 8) pa_nil)))) (pg_name (i := 9) nd rfl (Or.inl rfl))
          (pss_one (ps_if (PW.pt (pw_and (pt_cmpR op_notN (pv 9) pe_non (nomark _)) (pw_and1 (pt_not (pt_val (pe_f G7 hr9 (pa_cons (pv 4) (pa_cons (pv 1) (pa_cons (pv 6) (pa_cons (pv 9) pa_nil)))))))))) (pss_one (ps_ret pe_bl)) pss_nil)))
        (pss_cons (ps_if (PW.pt (pw_and (pt_cmpR op_notN (pv 7) pe_non (nomark _)) (pw_and (pt_cmpR o_lt (pe_ix ix_list (pe_ix ix_list (pv 1) pe_int (fun _ _ => rfl)) pe_int (fun _ _ => rfl)) (pv 7) (nomark _)) (pw_and1 (pt_not (pt_val (pe_f G8 hr9 (pa_cons (pv 4) (pa_cons (pv 6) (pa_cons (pe_ix ix_list (pe_ix ix_list (pv 1) pe_int (fun _ _ => rfl)) pe_int (fun _ _ => rfl)) pa_nil)))))))))) (pss_one (ps_ret pe_bl)) pss_nil)
        (pss_one (ps_if (PW.pt (pw_and (pt_cmpR op_notN (pv 8) pe_non (nomark _)) (pw_and (pt_cmpR o_gt (pe_ix ix_list (pe_ix ix_list (pv 1) (pe_un o_neg pe_int) (fun _ _ => rfl)) (pe_un o_neg pe_int) (fun _ _ => rfl)) (pv 8) (nomark _)) (pw_and1 (pt_not (pt_val (pe_f G8 hr9 (pa_cons (pv 4) (pa_cons (pv 6) (pa_cons (pe_ix ix_list (pe_ix ix_list (pv 1) (pe_un o_neg pe_int) (fun _ _ => rfl)) (pe_un o_neg pe_int) (fun _ _ => rfl)) pa_nil)))))))))) (pss_one (ps_ret pe_bl)) pss_nil))))))))
      (pss_one (ps_ret (pe_cmpR (op_eqD hr.units) (pe_m0 M1 kc.cls hr2 (pv 4)) (pv 1) (nomark _)))))))), ?_⟩
    refine ⟨Nat.zero_le _, fun Gr hGr => ⟨Nat.zero_le _, fun Li hLi => ?_⟩⟩
    have nGs : Gr ≠ st := (hst.ne hGr).symm
    have s1 := Same.new (o := .lst []) hGr
    have e1 : (upd H Gr (.lst [])) Gr = some (.lst []) := upd_same
    generalize upd H Gr (.lst []) = H1 at s1 e1 hLi ⊢
    have nLs : Li ≠ st := ((hst.same s1).ne hLi).symm
    have nGL : Gr ≠ Li := ne_of_none e1 hLi
    have s2 := Same.new (o := .lst []) hLi
    have e2 : (upd H1 Li (.lst [])) Li = some (.lst []) := upd_same
    generalize upd H1 Li (.lst []) = H2 at s2 e2 ⊢
    have s02 := s1.trans s2
    have gt2 : GT H2 st Gr Li [] := ⟨s2 _ _ e1, fun p hp => (nomatch hp), e2, nGs, nLs, nGL, fun p hp => nomatch hp⟩
    refine ⟨_, rfl, st, rfl, hst.same s02, fun tb prs H3 ht hfr hnd B3 S3 hT3 hg hbn => ⟨4, rfl, tb, _, rfl, hT3.sq, fun pc hpc => ?_⟩⟩
    rw [cut4, ← List.map_take]
    obtain ⟨g, g1, g2, g3, g4⟩ := good_of hg
    have gt3 := gt2.but B3
    have s4 := Same.new (o := .lst ((prs.take 4).map fun p => V.ref p.1)) hpc
    have e4 : (upd H3 pc (.lst ((prs.take 4).map fun p => V.ref p.1))) pc = some (.lst ((prs.take 4).map fun p => V.ref p.1)) := upd_same
    generalize upd H3 pc (.lst ((prs.take 4).map fun p => V.ref p.1)) = H4 at s4 e4 ⊢
    have gt4 := gt3.same s4
    have hT4 := hT3.same s4
    have nE : ∀ {y : Addr}, H2 y = none → y ≠ Gr ∧ y ≠ Li := fun hy => ⟨fun z => (by rw [z, gt2.g] at hy; cases hy), fun z => (by rw [z, e2] at hy; cases hy)⟩
    have npc : pc ≠ Gr ∧ pc ≠ Li := ⟨fun z => (by rw [z, gt3.g] at hpc; cases hpc), fun z => (by rw [z, gt3.l] at hpc; cases hpc)⟩
    have hrok : Rok (prs.map (·.2)) := rok_of (by rw [← rowsOk_of rfl]; exact hg)
    have b04 : ∀ b o, b ≠ Gr → b ≠ Li → b ≠ st → H b = some o → H4 b = some o := fun b o _ _ n3 e => s4 _ _ (B3 _ _ n3 (s02 _ _ e))
    refine ⟨pc, rfl, ⟨_, SqL.of e4⟩, for_list (xs := (prs.take 4).map fun p => V.ref p.1) (fun k σ Hk => ∃ (o3 : Option V) (gs : Prs), σ = [some (.ref st), some (.ref Gr), some (.ref Li), o3, none, none, none, none, none, none] ∧ GT Hk st Gr Li gs ∧ gs.map (·.2) = ((prs.take 4).take k).map (fun p => scl p.2) ∧ StK Hk st ∧ ∀ b o, b ≠ Gr → b ≠ Li → H4 b = some o → Hk b = some o)
      ⟨none, [], rfl, gt4, by simp, S3.same s4, fun _ _ _ _ e => e⟩ (fun k σ Hk _ ⟨_, _, _, _, _, _, fr⟩ => SqL.of (fr _ _ npc.1 npc.2 e4)) ?_ ?_⟩
    · rintro k x σ Hk hx ⟨o3, gs, rfl, gt, hgs, Sk, fr⟩
      rw [List.getElem?_map] at hx
      obtain ⟨pk, hpk, rfl⟩ := Option.map_eq_some_iff.mp hx
      have hk4 := (List.getElem?_eq_some_iff.mp hpk).1
      have mk : pk ∈ prs := List.mem_of_mem_take (List.mem_of_getElem? hpk)
      have hRk : Row Hk pk.1 pk.2 := fr _ _ (nE (hfr pk mk)).1 (nE (hfr pk mk)).2 (hT4.r pk mk)
      have hl6 : pk.2.length ≤ 6 := by rw [g.len pk mk]; omega
      have hgl : gs.length = k := by
        have := congrArg List.length hgs
        rw [List.length_map, List.length_map, List.length_take] at this
        omega
      have hk6 : k < 6 := by
        rw [List.length_take] at hk4
        omega
      refine ⟨_, rfl, .inl ⟨rfl, _, SqL.of gt.g⟩, _, rfl, 4, rfl, pk.1, _, rfl, hRk.sq, fun p1 hp1 => ?_⟩
      rw [cut4, ← List.map_take]
      have s5 := Same.new (o := .lst ((pk.2.take 4).map V.int)) hp1
      have e5 : (upd Hk p1 (.lst ((pk.2.take 4).map V.int))) p1 = some (.lst ((pk.2.take 4).map V.int)) := upd_same
      generalize upd Hk p1 (.lst ((pk.2.take 4).map V.int)) = H5 at s5 e5 ⊢
      refine ⟨p1, rfl, ⟨_, SqL.of e5⟩, comp_map (ms := pk.2.take 4) V.int (fun n => V.int (n * 10 ^ 12)) (SqL.of e5) (sl6 (by rw [List.length_take]; omega)) (fun n hn H' Q' sm q' => ⟨_, rfl, _, _, rfl, rfl, ⟨by decide, by decide, by decide⟩, _, _, rfl, rfl, .inr ⟨by decide, by decide⟩, q' _ (Same.refl _)⟩) fun D1 H6 hD1 s6 eD1 => ⟨Gr, _, _, rfl, rfl, (s5.trans s6) _ _ gt.g, ?_, ?_⟩⟩
      · rw [List.length_map, hgl]; exact small1000 (by omega)
      have eD1 : H6 D1 = some (.lst ((scl pk.2).map V.int)) := by
        unfold scl
        rw [List.map_map]
        exact eD1
      have s56 := s5.trans s6
      have gt6 := gt.same s56
      have nD : D1 ≠ st ∧ D1 ≠ Gr ∧ D1 ≠ Li := ⟨fun z => ((Sk.same s5).ne hD1) z.symm, fun z => (by rw [z, s5 _ _ gt.g] at hD1; cases hD1), fun z => (by rw [z, s5 _ _ gt.l] at hD1; cases hD1)⟩
      have eG7 : (upd H6 Gr (.lst ((gs.map fun p => V.ref p.1) ++ [.ref D1]))) Gr = some (.lst ((gs.map fun p => V.ref p.1) ++ [.ref D1])) := upd_same
      have b7 : ∀ b o, b ≠ Gr → H6 b = some o → (upd H6 Gr (.lst ((gs.map fun p => V.ref p.1) ++ [.ref D1]))) b = some o := fun b o n e => by rw [upd_ne n]; exact e
      generalize upd H6 Gr (.lst ((gs.map fun p => V.ref p.1) ++ [.ref D1])) = H7 at eG7 b7 ⊢
      have eD7 := b7 _ _ nD.2.1 eD1
      have eL7 := b7 _ _ (Ne.symm gt.n3) gt6.l
      have hsl : (scl pk.2).length ≤ 4 := by unfold scl; rw [List.length_map, List.length_take]; omega
      have habs := scl_abs (r := pk.2) (hbn pk mk)
      refine ⟨_, rfl, .inl ⟨rfl, _, SqL.of eL7⟩, rfl, _, rfl, _, rfl, Gr, _, -1, .ref D1, rfl, rfl, SqL.of eG7, atI_end9 _ _, D1, rfl, ⟨_, SqL.of eD7⟩, comp_map (ms := scl pk.2) V.int (fun n => V.str (numStr n)) (SqL.of eD7) (sl6 (by omega)) (fun n hn H' Q' sm q' => ⟨_, rfl, n, rfl, log_ok (habs n hn), q' _ (Same.refl _)⟩) fun D2 H8 hD2 s8 eD2 => ?_⟩
      have eD2 : H8 D2 = some (.lst (((scl pk.2).map numStr).map V.str)) := by rw [List.map_map]; exact eD2
      refine ⟨_, D2, (scl pk.2).map numStr, rfl, rfl, eD2, ?_, Li, _, _, rfl, rfl, s8 _ _ eL7, ?_, ?_⟩
      · rw [sp_eq]
        refine join_ok (B := 100) (fun w' hw' => ?_) (by rw [List.length_map]; omega)
        obtain ⟨n, hn, rfl⟩ := List.mem_map.mp hw'
        exact Nat.le_trans (num_len (habs n hn) (by decide)) (by decide)
      · rw [List.length_map, List.length_map, hgl]; exact small1000 (by omega)
      have eL9 : (upd H8 Li (.lst ((gs.map (·.2)).map (V.str ∘ rowS) ++ [.str (rowS (scl pk.2))]))) Li = some (.lst ((gs.map (·.2)).map (V.str ∘ rowS) ++ [.str (rowS (scl pk.2))])) := upd_same
      have b9 : ∀ b o, b ≠ Li → H8 b = some o → (upd H8 Li (.lst ((gs.map (·.2)).map (V.str ∘ rowS) ++ [.str (rowS (scl pk.2))]))) b = some o := fun b o n e => by rw [upd_ne n]; exact e
      show ∃ (o3 : Option V) (gs' : Prs), _ ∧ GT (upd H8 Li (.lst ((gs.map (·.2)).map (V.str ∘ rowS) ++ [.str (rowS (scl pk.2))]))) st Gr Li gs' ∧ _ ∧ StK (upd H8 Li (.lst ((gs.map (·.2)).map (V.str ∘ rowS) ++ [.str (rowS (scl pk.2))]))) st ∧ ∀ b o, b ≠ Gr → b ≠ Li → H4 b = some o → (upd H8 Li (.lst ((gs.map (·.2)).map (V.str ∘ rowS) ++ [.str (rowS (scl pk.2))]))) b = some o
      generalize upd H8 Li (.lst ((gs.map (·.2)).map (V.str ∘ rowS) ++ [.str (rowS (scl pk.2))])) = H9 at eL9 b9 ⊢
      have up : ∀ b o, b ≠ Gr → b ≠ Li → Hk b = some o → H9 b = some o := fun b o n1 n2 e => b9 _ _ n2 (s8 _ _ (b7 _ _ n1 (s56 _ _ e)))
      refine ⟨some (.ref pk.1), gs ++ [(D1, scl pk.2)], rfl, ⟨?_, fun p hp => ?_, ?_, nGs, nLs, nGL, fun p hp => ?_⟩, ?_, ?_, fun b o n1 n2 e => up b o n1 n2 (fr b o n1 n2 e)⟩
      · rw [List.map_append]
        exact b9 _ _ nGL (s8 _ _ eG7)
      · rcases List.mem_append.mp hp with z | z
        · exact up _ _ (gt.np p z).2.1 (gt.np p z).2.2 (gt.r p z)
        · rw [List.mem_singleton.mp z]
          exact b9 _ _ nD.2.2 (s8 _ _ eD7)
      · rw [eL9, List.map_append, List.map_append]
        rfl
      · rcases List.mem_append.mp hp with z | z
        · exact gt.np p z
        · rw [List.mem_singleton.mp z]
          exact nD
      · rw [List.map_append, hgs]
        generalize prs.take 4 = p4 at hpk ⊢
        rw [List.take_add_one, hpk, List.map_append]
        rfl
      · obtain ⟨y1, y2, y3, est⟩ := Sk
        exact ⟨y1, y2, y3, up _ _ (Ne.symm nGs) (Ne.symm nLs) est⟩
    rintro σ Hk ⟨o3, gs, rfl, gt, hgs, Sk, fr⟩
    have hrs : gs.map (·.2) = sub4 (prs.map (·.2)) := by
      rw [hgs, List.length_map, List.take_length]
      unfold sub4
      rw [← List.map_take, List.map_map]
      rfl
    have hok := sub_rok hrok
    rw [← hrs] at hok
    have hlen := scl_len (rows := prs.map (·.2)) (fun r hr n hn => by
      obtain ⟨p, hp, rfl⟩ := List.mem_map.mp hr
      exact hbn p hp n hn)
    rw [← hrs] at hlen
    have bk : ∀ b o, b ≠ Gr → b ≠ Li → b ≠ st → H b = some o → Hk b = some o := fun b o n1 n2 n3 e => fr b o n1 n2 (b04 b o n1 n2 n3 e)
    clear gt2 gt3 gt4 hT3 hT4 fr hgs hrs hbn nE npc e4 s4 b04 hpc
    have hTk : Tab Hk Gr gs := ⟨gt.g, gt.r⟩
    have hgk : tabB gs = true := by rw [rowsOk_of rfl]; exact rok_ok hok
    have hl6 : gs.length ≤ 6 := by have := hok.n6; rw [List.length_map] at this; exact this
    have eLi : Hk Li = some (.lst (((gs.map (·.2)).map rowS).map V.str)) := by rw [gt.l]; simp only [List.map_map]; rfl
    refine ⟨rfl, _, rfl, _, Li, (gs.map (·.2)).map rowS, rfl, rfl, eLi, ?_, gs.map (·.2), rfl, rok_ok hok, hlen, fun tc qc H5 htc hqc hndc s5 hTc hrc => ?_⟩
    · rw [nl_eq]
      refine join_ok (B := 606) (fun w' hw' => ?_) (by rw [List.length_map, List.length_map]; have := Nat.mul_le_mul_right 607 hl6; omega)
      obtain ⟨r, hr', rfl⟩ := List.mem_map.mp hw'
      have h1 := rowS_len (hlen r hr')
      have h2 : r.length ≤ 6 := by
        obtain ⟨p, hp, rfl⟩ := List.mem_map.mp hr'
        obtain ⟨g', _, _, _, w6⟩ := good_of hgk
        rw [g'.len p hp]; exact w6
      exact Nat.le_trans h1 (Nat.mul_le_mul_right 101 h2)
    intro a dx ha hdx nda
    refine new_keep ha hdx nda hTc (by rw [tabB_rows hrc]; exact hgk) fun t1 l qs1 H6 s6 ht1 hl hal hat hp1 hnd1 hr1' hk1 => ⟨rfl, ?_⟩
    have S5 := Sk.same s5
    have off : ∀ {y : Addr}, H5 y = none → y ∉ [st] := fun hy z => S5.ne hy (List.mem_singleton.mp z).symm
    have h6 : CR [st] H6 C st a dx l [] (gs.map (·.2)) H6 t1 qs1 := ⟨⟨hk1, stk_live (S5.same s6), off ha, off hl, off ht1, fun p hp => off (hp1 p hp), fun c hc => nomatch hc⟩, hr1'.trans hrc, ButS.refl _ _, S5.same s6, .head _⟩
    have nF : ∀ {y : Addr} {o : HO}, y ≠ st → H5 y = some o → y ∉ [a, l, st] := fun {y o} ny e z => by
      simp only [List.mem_cons, List.not_mem_nil, or_false] at z
      rcases z with z | z | z
      · rw [z, ha] at e; cases e
      · rw [z, hl] at e; cases e
      · exact ny z
    have hT5 := hTk.same s5
    have hT6 := hT5.same s6
    have nG := nF nGs hT5.l
    have ng : ∀ p ∈ gs, p.1 ∉ [a, l, st] := fun p hp => nF (gt.np p hp).1 (hT5.r p hp)
    have tF : ∀ {H' : Hp}, ButS [a, l, st] H6 H' → Tab H' Gr gs := fun b => ⟨b _ _ nG hT6.l, fun p hp => b _ _ (ng p hp) (hT6.r p hp)⟩
    have bst : ∀ {H' H'' : Hp}, But st H' H'' → ButS [a, l, st] H' H'' := fun b y o n e => b y o (fun z => n (by rw [z]; simp)) e
    have fin : ∀ {H' : Hp}, ButS [a, l, st] H6 H' → But st H H' := fun {H'} b y o n e => by
      have n1 : y ≠ Gr := fun z => by rw [z, hGr] at e; cases e
      have n2 : y ≠ Li := fun z => by rw [z, s1.free hLi] at e; cases e
      have e5 := s5 _ _ (bk y o n1 n2 n e)
      exact b y o (nF n e5) (s6 _ _ e5)
    obtain ⟨g0, k1, k2, k3, k4⟩ := good_of hgk
    obtain ⟨p0, hp0, hm0, hx0⟩ := head_at (prs := gs) k1
    clear gt hTk hTc hk1 hT5 eLi bk
    refine ⟨4, rfl, by decide, by decide, for_range (fun k σ Hk => ∃ (o5 o6 o7 o8 o9 : Option V) (t : Addr) (ps : Prs), σ = [some (.ref st), some (.ref Gr), some (.ref Li), o3, some (.ref a), o5, o6, o7, o8, o9] ∧ CR [st] H6 C st a dx l [] (gs.map (·.2)) Hk t ps) ⟨none, none, none, none, none, t1, qs1, rfl, h6⟩ ?_ ?_⟩
    case refine_2 =>
      rintro σ H7 ⟨o5, o6, o7, o8, o9, t, ps, rfl, h7⟩
      refine ⟨_, rfl, a, dx, _, rfl, h7.k.k.ob, rfl, a, dx, t, l, ps, [], rfl, h7.k.k, fun T8 q8 H8 hT8 hq8 hnd8 s8 hTT8 hr8 => ⟨_, rfl, _, _, hTT8.rd, (tF (h7.b.trans (Same.butS s8))).rd, shaped_tab _, shaped_tab _, ?_⟩⟩
      rw [hr8, h7.r]
      show Q (.bl (PyData.eqv (dTab (gs.map (·.2))) (dTab (gs.map (·.2))))) H8
      rw [eqv_tab]
      exact q H8 (fin (h7.b.trans (Same.butS s8))) (h7.s.same s8)
    obtain ⟨gi, pl, eg⟩ := last_ex (l := gs) (fun z => by rw [z] at k1; simp at k1)
    have mpl : pl ∈ gs := by rw [eg]; simp
    have at1 : atI (gs.map fun p => V.ref p.1) (-1) = some (.ref pl.1) := by rw [eg, List.map_append]; exact atI_end9 _ _
    obtain ⟨ri, zl, er0⟩ := last_ex (l := pl.2) (fun z => by have := g0.len pl mpl; rw [z] at this; simp at this; omega)
    have at2 : atI (pl.2.map V.int) (-1) = some (.int zl) := by rw [er0, List.map_append]; exact atI_end9 _ _
    clear eg er0
    have at0 : atI (gs.map fun p => V.ref p.1) ((0 : Nat) : Int) = some (.ref p0.1) := atI_nat (by rw [List.getElem?_map, hx0]; rfl)
    have at00 : atI (p0.2.map V.int) ((0 : Nat) : Int) = some (.int (p0.2.getD 0 0)) := at_row (by rw [g0.len p0 hm0]; omega)
    rintro k σ H7 hk ⟨o5, o6, o7, o8, o9, t, ps, rfl, h7⟩
    have hT7 := tF h7.b
    refine ⟨_, rfl, _, rfl, Gr, _, rfl, .inl hT7.sq, st, _, rfl, ?_, ?_, h7.s, fun d1 H8 d10 d11 b8 st8 => ?_⟩
    · rw [List.length_map]; omega
    · rw [List.length_map]; omega
    rw [List.length_map] at d11
    have h8 := h7.st b8 st8
    have hT8 := tF h8.b
    refine ⟨_, rfl, _, rfl, Gr, _, ((0 : Nat) : Int), .ref p0.1, rfl, rfl, hT8.sq, at0, p0.1, _, rfl, .inl (hT8.r p0 hm0).sq, st, _, rfl, ?_, ?_, st8, fun d2 H9 d20 d21 b9 st9 => ?_⟩
    · rw [List.length_map, g0.len p0 hm0]; omega
    · rw [List.length_map, g0.len p0 hm0]; omega
    rw [List.length_map, g0.len p0 hm0] at d21
    refine ⟨len2, fun c hc => ?_⟩
    obtain ⟨ci, rfl⟩ : ∃ i : Nat, d1 = (i : Int) := ⟨d1.toNat, (Int.toNat_of_nonneg d10).symm⟩
    obtain ⟨cj, rfl⟩ : ∃ j : Nat, d2 = (j : Int) := ⟨d2.toNat, (Int.toNat_of_nonneg d20).symm⟩
    have h9 := h8.st b9 st9
    have ncF : c ∉ [a, l, st] := fun z => by
      simp only [List.mem_cons, List.not_mem_nil, or_false] at z
      rcases z with z | z | z
      · rw [z, h9.k.k.ob] at hc; cases hc
      · rw [z, h9.k.k.L] at hc; cases hc
      · exact h9.k.off hc (by rw [z]; exact .head _)
    have s10 := Same.new (o := .tup [.int (ci : Nat), .int (cj : Nat)]) hc
    have hc10 : Cell (upd H9 c (.tup [.int (ci : Nat), .int (cj : Nat)])) c ci cj := upd_same
    generalize upd H9 c (.tup [.int (ci : Nat), .int (cj : Nat)]) = H10 at s10 hc10 ⊢
    have h10 := h9.same s10
    have tc : TC H10 st a l Gr c gs ci cj := ⟨tF h10.b, nG, ng, hc10, ncF⟩
    have r10 : CR [st] H10 C st a dx l [] (gs.map (·.2)) H10 t ps := ⟨h10.k, h10.r, ButS.refl _ _, h10.s, .head _⟩
    have hci : ci < (gs.map (·.2)).length := by rw [List.length_map]; omega
    have hcj : cj < wR (gs.map (·.2)) := by rw [wR_w0]; omega
    have hpn : ps.length = gs.length := by
      have := congrArg List.length h7.r
      simpa using this
    have hpw : w0 ps = w0 gs := by rw [← wR_w0, h7.r, wR_w0]
    clear h7 h8 h9 hT7 hT8 b8 b9 st8 st9 hc
    refine ⟨_, rfl, _, rfl, Gr, c, gs, ci, cj, rfl, tc.tb, hgk, tc.ce, by omega, by omega, fun r H11 hr11 s11 er => ?_⟩
    refine ⟨r, _, rfl, SqT.of er, rfl, _, _, rfl, _, _, rfl, rfl, ?_⟩
    have h11 := r10.same s11
    refine ⟨_, rfl, a, dx, _, rfl, h11.k.k.ob, rfl, _, rfl, a, dx, t, l, c, ps, [], ci, cj, rfl, h11.k.k, h11.b _ _ tc.nc tc.ce, by omega, by omega, fun u H12 hu12 s12 eu => ⟨_, rfl, _, rfl, len2, fun v hv => ?_⟩⟩
    rw [h10.r] at eu
    have s13 := Same.new (o := .tup [oV (aheadL (gs.map (·.2)) ci cj).max?, oV (behindL (gs.map (·.2)) ci cj).min?]) hv
    refine ⟨spanD (gs.map (·.2)) ci cj, spanD (gs.map (·.2)) ci cj, .tup (SqT.of (s13 _ _ eu)) (.cons (oV_rd _) (.cons (oV_rd _) .nil)), .tup (SqT.of upd_same) (.cons (oV_rd _) (.cons (oV_rd _) .nil)), shaped_span _ _ _, shaped_span _ _ _, _, rfl, ?_⟩
    rw [eqv_span]
    generalize upd H12 v (.tup [oV (aheadL (gs.map (·.2)) ci cj).max?, oV (behindL (gs.map (·.2)) ci cj).min?]) = H13 at s13 ⊢
    have h13 := (h11.same s12).same s13
    have fit : ∀ {x : Int}, Betw (aheadL (gs.map (·.2)) ci cj).max? (behindL (gs.map (·.2)) ci cj).min? x → rowsOk (setR (gs.map (·.2)) ci cj x) = true := fun b => rok_ok (betw_fits hok hci hcj b)
    have nof : ∀ {x : Int}, ¬ Betw (aheadL (gs.map (·.2)) ci cj).max? (behindL (gs.map (·.2)) ci cj).min? x → rowsOk (setR (gs.map (·.2)) ci cj x) = false := fun b => no_fit hok hci hcj b
    have ends : ∀ {m n : Int}, (aheadL (gs.map (·.2)) ci cj).max? = some m → (behindL (gs.map (·.2)) ci cj).min? = some n → m ≤ n := fun e1 e2 => ends_le hok hci hcj e1 e2
    obtain ⟨lo, elo⟩ : ∃ lo, (aheadL (gs.map (·.2)) ci cj).max? = lo := ⟨_, rfl⟩
    obtain ⟨hi, ehi⟩ : ∃ hi, (behindL (gs.map (·.2)) ci cj).min? = hi := ⟨_, rfl⟩
    simp only [elo, ehi] at fit nof ends ⊢
    clear er eu h11 s11 s12 s13
    refine iteF ⟨_, rfl, _, rfl, len2, fun tp htp => ?_⟩
    have s14 := Same.new (o := .tup [oV lo, oV hi]) htp
    have e14 : (upd H13 tp (.tup [oV lo, oV hi])) tp = some (.tup [oV lo, oV hi]) := upd_same
    have ntp : tp ∉ [a, l, st] := fun z => by
      simp only [List.mem_cons, List.not_mem_nil, or_false] at z
      rcases z with z | z | z
      · rw [z, h13.k.k.ob] at htp; cases htp
      · rw [z, h13.k.k.L] at htp; cases htp
      · exact h13.k.off htp (by rw [z]; exact .head _)
    generalize upd H13 tp (.tup [oV lo, oV hi]) = H14 at s14 e14 ⊢
    have h14 := h13.same s14
    have tc14 := tc.move h14.b
    have r14 : CR [st] H14 C st a dx l [] (gs.map (·.2)) H14 t ps := ⟨h14.k, h14.r, ButS.refl _ _, h14.s, .head _⟩
    have up : ∀ {H' : Hp} {t' : Addr} {ps' : Prs}, CR [st] H14 C st a dx l [] (gs.map (·.2)) H' t' ps' → CR [st] H6 C st a dx l [] (gs.map (·.2)) H' t' ps' := fun h => ⟨h.k, h.r, h10.b.trans (h14.b.trans h.b), h.s, h.hs⟩
    have c0 : ([] : Ch).length < 900 := by decide
    refine ⟨tp, rfl, ⟨_, SqT.of e14⟩, for_tup (xs := [oV lo, oV hi]) (fun k' σ Hk => ∃ (o9 : Option V) (t' : Addr) (ps' : Prs), σ = [some (.ref st), some (.ref Gr), some (.ref Li), o3, some (.ref a), some (.int (0 + (k : Nat))), some (.ref c), some (oV lo), some (oV hi), o9] ∧ CR [st] H14 C st a dx l [] (gs.map (·.2)) Hk t' ps') ⟨_, t, ps, rfl, r14⟩ (fun k' σ Hk _ ⟨_, _, _, _, h⟩ => SqT.of (h.b _ _ ntp e14)) ?_ ?_⟩
    · rintro k' x σ Hk hx ⟨o9, t', ps', rfl, hh⟩
      have hx2 : ∃ o : Option Int, x = oV o ∧ ∀ m, o = some m → rowsOk (setR (gs.map (·.2)) ci cj m) = true := by
        match k', hx with
        | 0, hx => exact ⟨lo, (Option.some.inj hx).symm, fun m e => fit ⟨fun n e' => by rw [e] at e'; cases e'; exact Int.le_refl _, fun n e' => ends e e'⟩⟩
        | 1, hx => exact ⟨hi, (Option.some.inj hx).symm, fun m e => fit ⟨fun n e' => ends e' e, fun n e' => by rw [e] at e'; cases e'; exact Int.le_refl _⟩⟩
        | n + 2, hx => simp at hx
      obtain ⟨o, rfl, hf⟩ := hx2
      refine ⟨_, rfl, rfl, _, rfl, ?_⟩
      cases o with
      | none => exact iteF (iteF ⟨_, t', ps', rfl, hh⟩)
      | some m => exact iteT ⟨_, rfl, _, rfl, _, rfl, _, rfl, good_at (E := E0) (x := m) hh tc14 rfl c0 hci hcj (hf m rfl) fun H' t2 ps2 h2 => ⟨_, rfl, iteF ⟨_, t2, ps2, rfl, h2⟩⟩⟩
    rintro σ H15 ⟨o9, t15, ps15, rfl, h15⟩
    dsimp only
    refine tail_both (fun N => ∀ H' t' ps', CR [st] H14 C st a dx l [] (gs.map (·.2)) H' t' ps' → N [some (.ref st), some (.ref Gr), some (.ref Li), o3, some (.ref a), some (.int (0 + (k : Nat))), some (.ref c), some (oV lo), some (oV hi), o9] H') (fun H16 t16 ps16 h16 => ?_) (fun key => ?_)
    case refine_2 =>
      refine ⟨_, rfl, rfl, _, rfl, ?_⟩
      cases lo with
      | none => exact iteF (iteF (key H15 t15 ps15 h15))
      | some m =>
        have hT15 := tF (up h15).b
        refine iteT ⟨_, rfl, Gr, _, ((0 : Nat) : Int), .ref p0.1, rfl, rfl, hT15.sq, at0, p0.1, _, ((0 : Nat) : Int), .int (p0.2.getD 0 0), rfl, rfl, (hT15.r p0 hm0).sq, at00, _, rfl, p0.2.getD 0 0, m, rfl, rfl, _, rfl, ite2 (fun hlt => ⟨_, rfl, _, rfl, _, rfl, Gr, _, ((0 : Nat) : Int), .ref p0.1, rfl, rfl, hT15.sq, at0, p0.1, _, ((0 : Nat) : Int), .int (p0.2.getD 0 0), rfl, rfl, (hT15.r p0 hm0).sq, at00, ?_⟩) (fun _ => iteF (key H15 t15 ps15 h15))⟩
        dsimp only [tNil]
        have hlt := of_decide_eq_true hlt
        exact ref_at (E := E0) (x := p0.2.getD 0 0) h15 tc14 hci hcj (nof fun z => by have := z.1 m rfl; omega) fun H' h' => ⟨_, rfl, iteF (key H' t15 ps15 h')⟩
    refine ⟨_, rfl, rfl, _, rfl, ?_⟩
    cases hi with
    | none => exact iteF (iteF ⟨_, _, _, _, _, t16, ps16, rfl, up h16⟩)
    | some m =>
      have hT16 := tF (up h16).b
      refine iteT ⟨_, rfl, _, rfl, Gr, _, -1, .ref pl.1, rfl, rfl, hT16.sq, at1, _, rfl, pl.1, _, -1, .int zl, rfl, rfl, (hT16.r pl mpl).sq, at2, _, rfl, zl, m, rfl, rfl, _, rfl, ite2 (fun hlt => ⟨_, rfl, _, rfl, _, rfl, _, rfl, Gr, _, -1, .ref pl.1, rfl, rfl, hT16.sq, at1, _, rfl, pl.1, _, -1, .int zl, rfl, rfl, (hT16.r pl mpl).sq, at2, ?_⟩) (fun _ => iteF ⟨_, _, _, _, _, t16, ps16, rfl, up h16⟩)⟩
      dsimp only [tNil]
      have hlt := of_decide_eq_true hlt
      exact ref_at (E := E0) (x := zl) h16 tc14 hci hcj (nof fun z => by have := z.2 m rfl; omega) fun H' h' => ⟨_, rfl, iteF ⟨_, _, _, _, _, t16, ps16, rfl, up h'⟩⟩
end
theorem erase_map {α β : Type} (f : α → β) : ∀ (l : List α) (i : Nat), (l.map f).eraseIdx i = (l.eraseIdx i).map f
  | [], _ => rfl
  | _ :: _, 0 => rfl
  | x :: r, i + 1 => by
    show f x :: (r.map f).eraseIdx i = f x :: (r.eraseIdx i).map f
    rw [erase_map f r i]
theorem gname_in {i : Nat} {v : V} {σ : L2.St} {H : Hp} {F : L2.St → Hp → Prop} (h : F (σ.set i (some v)) H) : gName i v σ H F := h
theorem KM.less {S S' : List Addr} {H : Hp} {C a dx l t : Addr} {prs : Prs} {chs : Ch} (h : KM S H C a dx l t prs chs) (hS : ∀ y ∈ S', y ∈ S) : KM S' H C a dx l t prs chs :=
  ⟨h.k, fun b hb => h.live b (hS b hb), fun z => h.na (hS _ z), fun z => h.nl (hS _ z), fun z => h.nt (hS _ z), fun p hp z => h.np p hp (hS _ z), fun c hc => ⟨fun z => (h.nc c hc).1 (hS _ z), fun z => (h.nc c hc).2 (hS _ z)⟩⟩
theorem KM.add {S : List Addr} {H : Hp} {C a dx l t : Addr} {prs : Prs} {chs : Ch} (h : KM S H C a dx l t prs chs) {D : Addr} (hD : H D = none) {o : HO} : KM (D :: S) (upd H D o) C a dx l t prs chs := by
  have ne : ∀ {y : Addr} {o : HO}, H y = some o → y ≠ D := fun e z => by rw [z, hD] at e; cases e
  have o' : ∀ {y : Addr} {o : HO}, y ∉ S → H y = some o → y ∉ D :: S := fun n e z => by
    rcases List.mem_cons.mp z with z | z
    · exact ne e z
    · exact n z
  have s := Same.new (o := o) hD
  refine ⟨h.k.same s, fun b hb => ?_, o' h.na h.k.ob, o' h.nl h.k.L, o' h.nt h.k.T.l, fun p hp => o' (h.np p hp) (h.k.T.r p hp), fun c hc => ⟨o' (h.nc c hc).1 (h.k.ch c hc).1, o' (h.nc c hc).2 (h.k.ch c hc).2.1⟩⟩
  rcases List.mem_cons.mp hb with rfl | hb
  · rw [upd_same]; exact fun z => nomatch z
  · exact fun z => h.live b hb (s.free z)
theorem fst_set {qs : Prs} {i : Nat} (hi : i < qs.length) (r : List Int) : (qs.set i (qs[i].1, r)).map (·.1) = qs.map (·.1) := by
  rw [List.map_set]
  refine List.ext_getElem? fun k => ?_
  rw [List.getElem?_set]
  split
  · next h =>
    subst h
    rw [List.length_map, if_pos hi, List.getElem?_map, List.getElem?_eq_getElem hi]
    rfl
  · rfl
section
variable {P : Program} {w : World} {K : PySem.W.Frag} {mg : Str → Option Value} {base : Heap} {C : Addr}
def spLaw (K : PySem.W.Frag) : Sp := fun vs H Q _ => ∃ (a : Addr) (ns : List Int), vs = [.ref a] ∧ SqL K H a (ns.map V.int) ∧ ns.length ≤ 63 ∧ ∀ H', Q (.bl true) H'
abbrev l31N : List Str := ["script", "at", "store", "table", "keeper", "turn", "cell", "low", "high", "cells", "row"]
theorem sc_law31 : FnScope l31N ["script"] (defScope dLaw) := ⟨rfl, rfl, rfl, by decide +kernel, rfl, by decide +kernel, by decide +kernel⟩
set_option maxHeartbeats 32000000 in
theorem ok_law (T : Blt mg) (hmin : mg "min" = none) (zK : KpM K mg C) {f : Addr} {fd : FuncData} (F : Fun K "law" "law" dLaw f fd) (G1 : FnAt P w K mg base 1 "_law_cell" ["script", "k"] (spLCell K)) (G2 : FnAt P w K mg base 1 "_law_store" ["cell"] spStore) (G0 : FnAt P w K mg base 1 "_law_take" ["store", "many"] spTakeK) (G3 : FnAt P w K mg base 3 "_law_table" ["store"] spTableK)
    (G4 : FnAt P w K mg base 1 "_law_copy" ["table"] spCopyN) (G5 : FnAt P w K mg base 1 "_law_span" ["table", "cell"] spSpan) (G6 : FnAt P w K mg base 11 "_law_great_right" ["store"] spGreat) (G7 : FnAt P w K mg base 11 "_law_cell_right" ["store", "keeper", "table", "cell"] (spCellR C))
    (M0 : MtAt P w K mg base 7 C "__init__" ["self", "table"] (spInit C)) (M5 : MtAt P w K mg base 8 C "change" ["self", "cell", "x"] (spKChange C)) : FnOk P w K mg base CX0 12 f fd ["script"] (spLaw K) := by
  refine F.ok sc_law31 (fun vs H Q E h => ?_) (fun cdv A outer s H vs Q E hr h => ?_)
  · obtain ⟨a, ns, rfl, _⟩ := h
    rfl
  · obtain ⟨a0, ns, rfl, hS, hlen, q⟩ := h
    have nd := sc_law31.nd
    have nd1 : (["place", "row"] : List Str).Nodup := by decide +kernel
    have kc := zK.c
    have hr1 : Room 1 _ := hr.mono (show 1 ≤ 11 by decide)
    have hr3 : Room 3 _ := hr.mono (show 3 ≤ 11 by decide)
    have hr8 : Room 8 _ := hr.mono (show 8 ≤ 11 by decide)
    refine ⟨_, pss_cons (ps_for PassesOwn.never rfl (pi_range1 rfl T.rng (pa_cons (pe_b (call_min2 rfl) hmin boot_min (pa_cons (pe_b (call_max2 rfl) T.max boot_max (pa_cons (pe_b call_len_seq T.len boot_len (pa_cons (pv 0) pa_nil)) (pa_cons pe_int pa_nil))) (pa_cons pe_int pa_nil))) pa_nil)) (pg_name (i := 1) nd rfl (Or.inl rfl))
        (pss_cons (ps_set (i := 2) nd rfl (Or.inl rfl) (pe_f G2 hr1 (pa_cons (pe_f G1 hr1 (pa_cons (pv 0) (pa_cons (pv 1) pa_nil))) pa_nil)))
        (pss_cons (ps_if (PW.pt (pw_and (pt_cmpR op_eq (pv 1) pe_int (nomark _)) (pw_and (pt_cmpR op_eq (pe_f G0 hr1 (pa_cons (pv 2) (pa_cons pe_int pa_nil))) pe_int (nomark _)) (pw_and1 (pt_not (pt_val (pe_f G6 hr (pa_cons (pv 2) pa_nil)))))))) (pss_one (ps_ret pe_bl)) pss_nil)
        (pss_cons (ps_set (i := 3) nd rfl (Or.inl rfl) (pe_f G3 hr3 (pa_cons (pv 2) pa_nil)))
        (pss_cons (ps_set (i := 4) nd rfl (Or.inl rfl) (pe_new M0 zK.mks zK.kp hr8 rfl zK.gl (pa_cons (pe_f G4 hr1 (pa_cons (pv 3) pa_nil)) pa_nil)))
        (pss_cons (ps_for PassesOwn.never rfl (pi_range1 rfl T.rng (pa_cons (pe_f G0 hr1 (pa_cons (pv 2) (pa_cons pe_int pa_nil))) pa_nil)) (pg_name (i := 5) nd rfl (Or.inl rfl))
          (pss_cons (ps_set (i := 6) nd rfl (Or.inl rfl) (pe_tup (pa_cons (pe_f G0 hr1 (pa_cons (pv 2) (pa_cons (pe_b call_len_seq T.len boot_len (pa_cons (pv 3) pa_nil)) pa_nil)))
            (pa_cons (pe_f G0 hr1 (pa_cons (pv 2) (pa_cons (pe_b call_len_seq T.len boot_len (pa_cons (pe_ix ix_list (pv 3) pe_int (fun _ _ => rfl)) pa_nil)) pa_nil))) pa_nil))))
          (pss_cons (ps_asg (pe_f G5 hr1 (pa_cons (pv 3) (pa_cons (pv 6) pa_nil))) (pg_tup rfl (pgs_cons (pg_name (i := 7) nd rfl (Or.inl rfl)) (pgs_cons (pg_name (i := 8) nd rfl (Or.inl rfl)) pgs_nil))))
          (pss_one (ps_if (pt_cmpR op_notN (pv 7) pe_non (nomark _)) (pss_cons (ps_expr (pe_m M5 kc.cls hr8 (pv 4) (pa_cons (pv 6) (pa_cons (pv 7) pa_nil))))
            (pss_one (ps_asg (pv 7) (pg_sub (pe_ix ix_list (pv 3) (pe_ix ix_tup (pv 6) pe_int (fun _ _ => rfl)) (fun _ _ => rfl)) (pe_ix ix_tup (pv 6) pe_int (fun _ _ => rfl)) set_list)))) pss_nil)))))
        (pss_cons (ps_set (i := 9) nd rfl (Or.inl rfl) (pe_lst pa_nil))
        (pss_cons (ps_for PassesOwn.never rfl (pi_range1 rfl T.rng (pa_cons (pe_b call_len_seq T.len boot_len (pa_cons (pv 3) pa_nil)) pa_nil)) (pg_name (i := 10) nd rfl (Or.inr rfl))
          (pss_one (ps_expr (pe_bm PySem.F.plainAttrs_list PySem.F.slot_list_extend PySem.F.type_list_extend mt_extend (pv 9) (pa_cons (pe_comp ["place", "row"] [none, some 10] (defScope dLaw) l31N rfl (pi_range1 rfl T.rng (pa_cons (pe_b call_len_seq T.len boot_len (pa_cons (pe_ix ix_list (pv 3) pe_int (fun _ _ => rfl)) pa_nil)) pa_nil)) (by decide +kernel)
            (fun cl C s2 H2 ex => pg_c 0 nd1) (fun cl C s2 H2 ex => pifs_nil) (fun cl C s2 H2 ex => pe_tup (pa_cons (pv 1) (pa_cons (pv 0) pa_nil)))) pa_nil)))))
        (pss_one (ps_for PassesOwn.never rfl (pi_range1 rfl T.rng (pa_cons (pe_b (call_min2 rfl) hmin boot_min (pa_cons (pe_b call_len_seq T.len boot_len (pa_cons (pv 9) pa_nil)) (pa_cons pe_int pa_nil))) pa_nil)) (pg_name (i := 5) nd rfl (Or.inl rfl))
          (pss_one (ps_if (pt_not (pt_val (pe_f G7 hr (pa_cons (pv 2) (pa_cons (pv 4) (pa_cons (pv 3) (pa_cons (pe_bm PySem.F.plainAttrs_list PySem.F.slot_list_pop PySem.F.type_list_pop mt_popAt (pv 9) (pa_cons (pe_f G0 hr1 (pa_cons (pv 2) (pa_cons (pe_b call_len_seq T.len boot_len (pa_cons (pv 9) pa_nil)) pa_nil))) pa_nil)) pa_nil))))))) (pss_one (ps_ret pe_bl)) pss_nil))))))))))))
      (pss_one (ps_ret pe_bl)), ?_⟩
    refine ⟨_, rfl, a0, _, rfl, .inl hS, _, _, rfl, _, _, rfl, ?_⟩
    rw [List.length_map]
    have hb : ∀ y : Int, y = (if (8 : Int) < (if (3 : Int) > (ns.length : Int) then 3 else (ns.length : Int)) then 8 else (if (3 : Int) > (ns.length : Int) then 3 else (ns.length : Int))) → 0 ≤ y ∧ y ≤ 8 := fun y hy => by
      subst hy
      split
      · omega
      · split at * <;> omega
    have hb := hb _ rfl
    generalize (if (8 : Int) < (if (3 : Int) > (ns.length : Int) then 3 else (ns.length : Int)) then 8 else (if (3 : Int) > (ns.length : Int) then 3 else (ns.length : Int))) = many at hb ⊢
    refine ⟨many, rfl, by omega, by omega, for_range (fun i σ H2 => ∃ o1 o2 o3 o4 o5 o6 o7 o8 o9 o10 : Option V, σ = [some (.ref a0), o1, o2, o3, o4, o5, o6, o7, o8, o9, o10] ∧ Same H H2) ⟨none, none, none, none, none, none, none, none, none, none, rfl, Same.refl _⟩ ?_ (fun σ H2 _ => q _)⟩
    rintro i σ H2 hi ⟨o1, o2, o3, o4, o5, o6, o7, o8, o9, o10, rfl, sm⟩
    refine ⟨_, rfl, _, rfl, a0, ns, i, by rw [Int.zero_add], sm.seq hS, by omega, fun c => ⟨c, rfl, fun st H3 hst s3 S3 => ?_⟩⟩
    have hst0 : H st = none := sm.free hst
    have sm3 := sm.trans s3
    refine gname_in ?_
    dsimp only
    refine tail_both (fun N => ∀ H4, But st H3 H4 → StK H4 st → N [some (.ref a0), some (.int (0 + (i : Nat))), some (.ref st), o3, o4, o5, o6, o7, o8, o9, o10] H4) (fun H4 b4 S4 => ?_) (fun key => ?_)
    case refine_2 =>
      refine ⟨_, rfl, rfl, _, rfl, ?_⟩
      by_cases h1 : V.int (0 + (i : Nat)) = V.int 0
      · refine iteDt h1 ⟨_, rfl, st, 3, rfl, by decide, by decide, S3, fun d Hd d0 d1 bd Sd => ⟨rfl, _, rfl, ?_⟩⟩
        by_cases h2 : V.int d = V.int 0
        · exact iteDt h2 ⟨_, rfl, st, rfl, Sd, fun H' b' S' => ⟨_, rfl, iteF (key H' (bd.trans b') S')⟩⟩
        · exact iteDf h2 (iteF (key Hd bd Sd))
      · exact iteDf h1 (iteF (key H3 (But.refl _ _) S3))
    have sm4 := Same.but' sm3 hst0 b4
    refine ⟨_, rfl, st, rfl, S4, fun tb prs H5 ht hfr hnd B5 S5 hT5 hg hbn => ?_⟩
    have sm5 := Same.but' sm4 hst0 B5
    have nt : tb ≠ st := (S4.ne ht).symm
    have np : ∀ p ∈ prs, p.1 ≠ st := fun p hp => (S4.ne (hfr p hp)).symm
    refine ⟨_, rfl, tb, prs, rfl, hT5, good_bounds hg, fun tc qc H6 htc hqc hndc s6 hTc hrc => ?_⟩
    intro a dx ha hdx nda
    refine new_keep ha hdx nda hTc (by rw [tabB_rows hrc]; exact hg) fun t1 l qs1 H7 s7 ht1 hl hal hat hp1 hnd1 hr1' hk1 => ⟨rfl, ?_⟩
    have hT6 := hT5.same s6
    have hT7 := hT6.same s7
    have S6 := S5.same s6
    have S7 := S6.same s7
    have sm6 := sm5.trans s6
    have sm7 := sm6.trans s7
    have hrows1 : qs1.map (·.2) = prs.map (·.2) := hr1'.trans hrc
    have off : ∀ {y : Addr}, H6 y = none → y ∉ st :: prs.map (·.1) := fun hy z => by
      rcases List.mem_cons.mp z with z | z
      · exact S6.ne hy z.symm
      · obtain ⟨p, hp, e⟩ := List.mem_map.mp z
        have := hT6.r p hp
        unfold Row at this
        rw [e, hy] at this
        cases this
    have hM7 : KM (st :: prs.map (·.1)) H7 C a dx l t1 qs1 [] := ⟨hk1, fun b hb => (by
      rcases List.mem_cons.mp hb with z | z
      · rw [z]
        obtain ⟨_, _, _, e⟩ := S7
        rw [e]
        exact fun z => nomatch z
      · obtain ⟨p, hp, e⟩ := List.mem_map.mp z
        have := hT7.r p hp
        unfold Row at this
        rw [← e, this]
        exact fun z => nomatch z), off ha, off hl, off ht1, fun p hp => off (hp1 p hp), fun c hc => nomatch hc⟩
    have nta : tb ≠ a := fun z => by have := hT6.l; rw [z, ha] at this; cases this
    have ntl : tb ≠ l := fun z => by have := hT6.l; rw [z, hl] at this; cases this
    have ha0 : H a = none := sm6.free ha
    have hl0 : H l = none := sm6.free hl
    have hp0 : ∀ p ∈ prs, H p.1 = none := fun p hp => sm4.free (hfr p hp)
    have ntr : ∀ p ∈ prs, p.1 ≠ tb := fun p hp z => by
      have h1 := hT6.r p hp
      unfold Row at h1
      rw [z, hT6.l] at h1
      have h1 := HO.lst.inj (Option.some.inj h1)
      obtain ⟨g, g1, g2, g3, g4⟩ := good_of hg
      have hl := congrArg List.length h1
      match prs, p.2, h1, g1 with
      | x :: _, y :: _, h1, _ => simp at h1
      | x :: _, [], h1, _ => simp at h1
      | [], _, _, g1 => simp at g1
    clear hT5 sm3 sm4 sm5 sm6 S3 S4 S5 S6 B5 b4 s3 hTc hk1 hqc htc off hbn
    refine ⟨_, rfl, st, 4, rfl, by decide, by decide, S7, fun d H8 d0 d1 b8 S8 => ?_⟩
    obtain ⟨m, rfl⟩ : ∃ m : Nat, d = (m : Int) := ⟨d.toNat, by omega⟩
    refine ⟨(m : Int), rfl, by omega, by omega, for_range (fun k σ Hk => ∃ (o5 o6 o7 o8 : Option V) (t2 : Addr) (ps qs : Prs) (ch : Ch), σ = [some (.ref a0), some (.int (0 + (i : Nat))), some (.ref st), some (.ref tb), some (.ref a), o5, o6, o7, o8, o9, o10] ∧ KM (st :: prs.map (·.1)) Hk C a dx l t2 ps ch ∧ ch.length ≤ k ∧ Tab Hk tb qs ∧ qs.map (·.1) = prs.map (·.1) ∧ qs.map (·.2) = ps.map (·.2) ∧ StK Hk st ∧ Same H Hk)
      ⟨_, _, _, _, t1, qs1, prs, [], rfl, hM7.st (.head _) b8 S8, Nat.zero_le _, hT7.but nt np b8, rfl, hrows1.symm, S8, Same.but' sm7 hst0 b8⟩ ?_ ?_⟩
    · clear hM7 b8 S8 hT7 S7 sm7
      rintro k σ Hk hk ⟨o5, o6, o7, o8, t2, ps, qs, ch, rfl, hM, hch, hTk, hq1, hq2, Sk, smk⟩
      have hgq : tabB qs = true := by rw [rowsOk_of hq2, ← rowsOk_of rfl]; exact hM.k.ok
      obtain ⟨g, g1, g2, g3, g4⟩ := good_of hgq
      obtain ⟨p0, _, hm0, hx0⟩ := head_at (prs := qs) g1
      have mS : ∀ p ∈ qs, p.1 ∈ prs.map (·.1) := fun p hp => by rw [← hq1]; exact List.mem_map.mpr ⟨p, hp, rfl⟩
      have nq : ∀ p ∈ qs, p.1 ≠ st := fun p hp => by
        obtain ⟨p', hp', e⟩ := List.mem_map.mp (mS p hp)
        rw [← e]; exact np p' hp'
      refine ⟨_, rfl, _, rfl, tb, _, rfl, .inl hTk.sq, st, _, rfl, ?_, ?_, Sk, fun d1 H10 d10 d11 b10 st10 => ?_⟩
      · rw [List.length_map]; omega
      · rw [List.length_map]; omega
      rw [List.length_map] at d11
      have hT10 := hTk.but nt nq b10
      refine ⟨_, rfl, _, rfl, tb, _, 0, .ref p0.1, rfl, rfl, hT10.sq, atI_nat (j := 0) (by rw [List.getElem?_map, hx0]; rfl), p0.1, _, rfl, .inl (hT10.r p0 hm0).sq, st, _, rfl, ?_, ?_, st10, fun d2 H11 d20 d21 b11 st11 => ?_⟩
      · rw [List.length_map, g.len p0 hm0]; omega
      · rw [List.length_map, g.len p0 hm0]; omega
      rw [List.length_map, g.len p0 hm0] at d21
      refine ⟨len2, fun c hc => ?_⟩
      obtain ⟨ci, rfl⟩ : ∃ i : Nat, d1 = (i : Int) := ⟨d1.toNat, (Int.toNat_of_nonneg d10).symm⟩
      obtain ⟨cj, rfl⟩ : ∃ j : Nat, d2 = (j : Int) := ⟨d2.toNat, (Int.toNat_of_nonneg d20).symm⟩
      have hpn : ps.length = qs.length := by
        have := congrArg List.length hq2
        simpa using this.symm
      have hpw : w0 ps = w0 qs := by rw [← wR_w0, ← hq2, wR_w0]
      have hM11 := hM.st (.head _) (b10.trans b11) st11
      have hcS := hM11.off hc
      have s12 := Same.new (o := .tup [.int (ci : Nat), .int (cj : Nat)]) hc
      have hc12 : Cell (upd H11 c (.tup [.int (ci : Nat), .int (cj : Nat)])) c ci cj := upd_same
      generalize upd H11 c (.tup [.int (ci : Nat), .int (cj : Nat)]) = H12 at s12 hc12 ⊢
      have hM12 := hM11.same s12
      have hT12 := (hT10.but nt nq b11).same s12
      have S12 := st11.same s12
      have sm12 := (Same.but' (Same.but' smk hst0 b10) hst0 b11).trans s12
      clear hM hM11 hTk hT10 b10 b11 st10 st11 smk Sk
      refine ⟨_, rfl, _, rfl, tb, c, qs, ci, cj, rfl, hT12, hgq, hc12, by omega, by omega, fun r H13 hr13 s13 er => ?_⟩
      refine ⟨r, _, rfl, SqT.of er, rfl, _, _, rfl, _, _, rfl, rfl, ?_⟩
      have hM13 := hM12.same s13
      have hT13 := hT12.same s13
      have hc13 : Cell H13 c ci cj := s13 _ _ hc12
      have sm13 := sm12.trans s13
      have hrok := hM13.k.rok
      have hci : ci < (ps.map (·.2)).length := by rw [List.length_map]; omega
      have hcj : cj < wR (ps.map (·.2)) := by rw [wR_w0]; omega
      rw [hq2]
      refine ⟨_, rfl, rfl, _, rfl, ?_⟩
      cases elo : (aheadL (ps.map (·.2)) ci cj).max? with
      | none => exact iteF ⟨_, _, _, _, t2, ps, qs, ch, rfl, hM13, by omega, hT13, hq1, hq2, S12.same s13, sm13⟩
      | some x =>
        have ok : rowsOk (setR (ps.map (·.2)) ci cj x) = true := rok_ok (betw_fits hrok hci hcj ⟨fun n e => by rw [elo] at e; cases e; exact Int.le_refl _, fun n e => ends_le hrok hci hcj elo e⟩)
        refine iteT ⟨_, rfl, a, dx, _, rfl, hM13.k.ob, rfl, _, rfl, _, rfl, a, dx, t2, l, c, ps, ch, ci, cj, x, rfl, hM13.k, hc13, by omega, by omega, by omega, ok, fun t3 ps3 u r2 H14 ht3 hq3 hnd3 hu hrn fr hrows er2 nra nrl hk14 => ?_⟩
        have hM14 := hM13.next (chs' := ch ++ [(u, c, ci, cj, (rowAt ps ci).getD cj 0)]) ht3 (fun p hp => (hq3 p hp).1) fr (fun y hy => by
          rcases List.mem_append.mp hy with z | z
          · exact hM13.nc y z
          · rw [List.mem_singleton.mp z]
            exact ⟨hM13.off hu, hcS⟩) hk14
        have nqa : ∀ p ∈ qs, p.1 ≠ a ∧ p.1 ≠ l := fun p hp => ⟨fun z => hM13.na (by rw [← z]; exact .tail _ (mS p hp)), fun z => hM13.nl (by rw [← z]; exact .tail _ (mS p hp))⟩
        have hT14 : Tab H14 tb qs := ⟨fr _ _ nta ntl hT13.l, fun p hp => fr _ _ (nqa p hp).1 (nqa p hp).2 (hT13.r p hp)⟩
        have hc14 : Cell H14 c ci cj := fr _ _ (fun z => by
          have h1 : H13 c = _ := hc13
          rw [z, hM13.k.ob] at h1
          cases h1) (fun z => by
          have h1 : H13 c = _ := hc13
          rw [z, hM13.k.L] at h1
          cases h1) hc13
        have hil : ci < qs.length := by omega
        have ml : qs[ci] ∈ qs := List.getElem_mem hil
        refine ⟨_, rfl, _, rfl, _, rfl, c, _, 0, .int (ci : Nat), rfl, rfl, SqT.of hc14, rfl, tb, _, _, .ref qs[ci].1, rfl, rfl, hT14.sq, atI_nat (by rw [List.getElem?_map, List.getElem?_eq_getElem hil]; rfl), _, rfl, c, _, 1, .int (cj : Nat), rfl, rfl, SqT.of hc14, rfl, qs[ci].1, _, _, cj, rfl, rfl, hT14.r _ ml, ?_, ?_⟩
        · rw [List.length_map, g.len _ ml]
          unfold ixN
          rw [if_pos (by omega), if_pos (by omega), Int.toNat_natCast]
        have hnq : (qs.map (·.1)).Nodup := by rw [hq1]; exact hnd
        obtain ⟨hT15, hr15, _⟩ := tab_set cj x hT14 hnq (fun p hp z => by
          obtain ⟨p', hp', e⟩ := List.mem_map.mp (mS p hp)
          exact ntr p' hp' (e.trans z)) hil
        have mem15 : qs[ci].1 ∈ st :: prs.map (·.1) := .tail _ (mS _ ml)
        have b15 : ButS (st :: prs.map (·.1)) H14 (upd H14 qs[ci].1 (.lst ((qs[ci].2.map V.int).set cj (.int x)))) := fun y o n e => by
          rw [upd_ne (fun z => n (by rw [z]; exact mem15))]
          exact e
        have l15 : ∀ b ∈ st :: prs.map (·.1), (upd H14 qs[ci].1 (.lst ((qs[ci].2.map V.int).set cj (.int x)))) b ≠ none := fun b hb => by
          by_cases e : b = qs[ci].1
          · rw [e, upd_same]; exact fun z => nomatch z
          · rw [upd_ne e]; exact hM14.live b hb
        have S15 : StK (upd H14 qs[ci].1 (.lst ((qs[ci].2.map V.int).set cj (.int x)))) st := by
          obtain ⟨y1, y2, y3, est⟩ := S12.same s13
          exact ⟨y1, y2, y3, by
            rw [upd_ne (Ne.symm (nq _ ml))]
            exact fr _ _ (fun z => hM13.na (by rw [← z]; exact .head _)) (fun z => hM13.nl (by rw [← z]; exact .head _)) est⟩
        have sm15 : Same H (upd H14 qs[ci].1 (.lst ((qs[ci].2.map V.int).set cj (.int x)))) := fun y o e => by
          rw [upd_ne (fun z => by
            obtain ⟨p', hp', e'⟩ := List.mem_map.mp (mS _ ml)
            rw [z, ← e', hp0 p' hp'] at e
            cases e)]
          exact fr _ _ (fun z => by rw [z, ha0] at e; cases e) (fun z => by rw [z, hl0] at e; cases e) (sm13 _ _ e)
        exact ⟨_, _, _, _, t3, ps3, _, _, rfl, hM14.but b15 l15, by rw [List.length_append]; exact Nat.succ_le_succ hch, hT15, (fst_set hil _).trans hq1, hr15.trans (by rw [hq2, hrows]), S15, sm15⟩
    · clear hM7 b8 S8 hT7 S7 sm7
      rintro σ H9 ⟨o5, o6, o7, o8, t2, ps, qs, ch, rfl, hM, hch, hTk, hq1, hq2, Sk, smk⟩
      have hch : ch.length < 900 := by omega
      have hgq : tabB qs = true := by rw [rowsOk_of hq2, ← rowsOk_of rfl]; exact hM.k.ok
      obtain ⟨g, g1, g2, g3, g4⟩ := good_of hgq
      obtain ⟨p0, _, hm0, hx0⟩ := head_at (prs := qs) g1
      have mS : ∀ p ∈ qs, p.1 ∈ prs.map (·.1) := fun p hp => by rw [← hq1]; exact List.mem_map.mpr ⟨p, hp, rfl⟩
      have nqS : ∀ p ∈ qs, p.1 ∉ [a, l, st] := fun p hp z => by
        have mp := mS p hp
        simp only [List.mem_cons, List.not_mem_nil, or_false] at z
        rcases z with z | z | z
        · exact hM.na (by rw [← z]; exact .tail _ mp)
        · exact hM.nl (by rw [← z]; exact .tail _ mp)
        · obtain ⟨p', hp', e⟩ := List.mem_map.mp mp
          exact np p' hp' (e.trans z)
      have ntS : tb ∉ [a, l, st] := fun z => by
        simp only [List.mem_cons, List.not_mem_nil, or_false] at z
        rcases z with z | z | z
        · exact nta z
        · exact ntl z
        · exact nt z
      have hM1 : KM [st] H9 C a dx l t2 ps ch := hM.less fun y hy => by rw [List.mem_singleton.mp hy]; exact .head _
      refine ⟨Nat.zero_le _, fun Ce hCe => ?_⟩
      have hM2 := hM1.add (o := .lst []) hCe
      have s10 := Same.new (o := .lst []) hCe
      have eC : (upd H9 Ce (.lst [])) Ce = some (.lst []) := upd_same
      have nCs : Ce ≠ st := (Sk.ne hCe).symm
      have nCa : Ce ≠ a := fun z => by rw [z, hM.k.ob] at hCe; cases hCe
      have nCl : Ce ≠ l := fun z => by rw [z, hM.k.L] at hCe; cases hCe
      have nCt : Ce ≠ tb := fun z => by rw [z, hTk.l] at hCe; cases hCe
      have nCq : ∀ p ∈ qs, Ce ≠ p.1 := fun p hp z => by
        have := hTk.r p hp
        unfold Row at this
        rw [← z, hCe] at this
        cases this
      generalize upd H9 Ce (.lst []) = H10 at hM2 s10 eC ⊢
      have hT10 := hTk.same s10
      have S10 := Sk.same s10
      have sm10 := smk.trans s10
      have hCe0 : H Ce = none := smk.free hCe
      clear hM hM1 hTk Sk smk hCe
      refine ⟨_, rfl, tb, _, rfl, .inl hT10.sq, _, rfl, by omega, by rw [List.length_map]; omega, ?_⟩
      rw [List.length_map, Int.toNat_natCast]
      refine for_range (fun k σ Hk => ∃ (o10 : Option V) (cs : Cs), σ = [some (.ref a0), some (.int (0 + (i : Nat))), some (.ref st), some (.ref tb), some (.ref a), o5, o6, o7, o8, some (.ref Ce), o10] ∧ Hk Ce = some (.lst (cs.map cellV)) ∧ cs.length = k * w0 qs ∧ (∀ c ∈ cs, CellAt Hk c ∧ c.2.1 < qs.length ∧ c.2.2 < w0 qs ∧ H10 c.1 = none ∧ c.1 ≠ Ce) ∧ ∀ b o, b ≠ Ce → H10 b = some o → Hk b = some o)
        ⟨_, [], rfl, eC, by simp, fun c hc => (nomatch hc), fun _ _ _ e => e⟩ ?_ ?_
      · rintro k σ Hk hk ⟨o10, cs, rfl, eCk, hcl, hcs, fr⟩
        have hTk : Tab Hk tb qs := ⟨fr _ _ (Ne.symm nCt) hT10.l, fun p hp => fr _ _ (Ne.symm (nCq p hp)) (hT10.r p hp)⟩
        have hkw : k * w0 qs ≤ 36 := Nat.le_trans (Nat.mul_le_mul (show k ≤ 6 by omega) g4) (by decide)
        refine ⟨_, rfl, .inl ⟨rfl, _, SqL.of eCk⟩, _, rfl, tb, _, 0, .ref p0.1, rfl, rfl, hTk.sq, atI_nat (j := 0) (by rw [List.getElem?_map, hx0]; rfl), p0.1, _, rfl, .inl (hTk.r p0 hm0).sq, _, rfl, by omega, by rw [List.length_map, g.len p0 hm0]; omega, comp_objsR (fun j => .tup [.int (0 + (k : Nat)), .int (0 + (j : Nat))]) (by rw [List.length_map, g.len p0 hm0]; omega) (fun j hj H' Q' sm' q' => ⟨_, rfl, _, rfl, len2, fun p hp => q' p _ hp (Same.new hp) upd_same⟩) fun D ds H' hD hmap hnd' hall sm' eD => ?_⟩
        rw [List.length_map, g.len p0 hm0, Int.toNat_natCast] at hmap
        have hdl : ds.length = w0 qs := by
          have := congrArg List.length hmap
          simpa using this
        refine ⟨Ce, D, _, _, rfl, rfl, sm' _ _ eCk, eD, by rw [List.length_map, List.length_map]; exact sl6 (by omega), ?_⟩
        have nDC : D ≠ Ce := fun z => by rw [z, eCk] at hD; cases hD
        have eC2 : (upd H' Ce (.lst (cs.map cellV ++ ds.map fun q => V.ref q.1))) Ce = some (.lst (cs.map cellV ++ ds.map fun q => V.ref q.1)) := upd_same
        have b2 : ∀ b o, b ≠ Ce → H' b = some o → (upd H' Ce (.lst (cs.map cellV ++ ds.map fun q => V.ref q.1))) b = some o := fun b o n e => by rw [upd_ne n]; exact e
        show ∃ (o10 : Option V) (cs' : Cs), _ ∧ (upd H' Ce (.lst (cs.map cellV ++ ds.map fun q => V.ref q.1))) Ce = some (.lst (cs'.map cellV)) ∧ _ ∧ (∀ c ∈ cs', CellAt (upd H' Ce (.lst (cs.map cellV ++ ds.map fun q => V.ref q.1))) c ∧ c.2.1 < qs.length ∧ c.2.2 < w0 qs ∧ H10 c.1 = none ∧ c.1 ≠ Ce) ∧ ∀ b o, b ≠ Ce → H10 b = some o → (upd H' Ce (.lst (cs.map cellV ++ ds.map fun q => V.ref q.1))) b = some o
        generalize upd H' Ce (.lst (cs.map cellV ++ ds.map fun q => V.ref q.1)) = H'' at eC2 b2 ⊢
        refine ⟨_, cs ++ ds.map fun q => (q.1, k, q.2), rfl, ?_, ?_, fun c hc => ?_, fun b o n e => b2 _ _ n (sm' _ _ (fr b o n e))⟩
        · rw [eC2, List.map_append, List.map_map]
          rfl
        · rw [List.length_append, List.length_map, hcl, hdl, Nat.succ_mul]
        · rcases List.mem_append.mp hc with z | z
          · obtain ⟨z1, z2, z3, z4, z5⟩ := hcs c z
            exact ⟨b2 _ _ z5 (sm' _ _ z1), z2, z3, z4, z5⟩
          · obtain ⟨q', hq', rfl⟩ := List.mem_map.mp z
            obtain ⟨w1, w2, w3⟩ := hall q' hq'
            have hq2' : q'.2 < w0 qs := by
              have : q'.2 ∈ ds.map (·.2) := List.mem_map.mpr ⟨q', hq', rfl⟩
              rw [hmap] at this
              exact List.mem_range.mp this
            have nq' : q'.1 ≠ Ce := fun z => by rw [z, eCk] at w2; cases w2
            refine ⟨?_, hk, hq2', ?_, nq'⟩
            · unfold CellAt
              rw [Int.zero_add, Int.zero_add] at w1
              exact b2 _ _ nq' w1
            · cases e : H10 q'.1 with
              | none => rfl
              | some o => rw [fr _ _ nq' e] at w2; cases w2
      rintro σ H11 ⟨o10', cs, rfl, eC11, hcl, hcs, fr⟩
      have hM11 : KM [Ce, st] H11 C a dx l t2 ps ch := hM2.but (fun y o n e => fr y o (fun z => n (by rw [z]; exact .head _)) e) fun b hb => by
        by_cases e : b = Ce
        · rw [e, eC11]; exact fun z => nomatch z
        · cases eb : H10 b with
          | none => exact absurd eb (hM2.live b hb)
          | some o => rw [fr b o e eb]; exact fun z => nomatch z
      have hT11 : Tab H11 tb qs := ⟨fr _ _ (Ne.symm nCt) hT10.l, fun p hp => fr _ _ (Ne.symm (nCq p hp)) (hT10.r p hp)⟩
      have S11 : StK H11 st := by
        obtain ⟨y1, y2, y3, e⟩ := S10
        exact ⟨y1, y2, y3, fr _ _ (Ne.symm nCs) e⟩
      have sm11 : Same H H11 := fun y o e => fr _ _ (fun z => by rw [z, hCe0] at e; cases e) (sm10 _ _ e)
      have hcs11 : ∀ c ∈ cs, CellAt H11 c ∧ c.2.1 < qs.length ∧ c.2.2 < w0 qs ∧ c.1 ∉ [a, l, st] ∧ c.1 ≠ Ce := fun c hc => by
        obtain ⟨z1, z2, z3, z4, z5⟩ := hcs c hc
        refine ⟨z1, z2, z3, fun z => ?_, z5⟩
        simp only [List.mem_cons, List.not_mem_nil, or_false] at z
        rcases z with z | z | z
        · rw [z, hM2.k.ob] at z4; cases z4
        · rw [z, hM2.k.L] at z4; cases z4
        · exact S10.ne z4 z.symm
      have hcl36 : cs.length ≤ 36 := by rw [hcl]; exact Nat.le_trans (Nat.mul_le_mul g2 g4) (by decide)
      clear hM2 hT10 S10 sm10 hcs fr hcl eC
      refine ⟨_, rfl, Ce, _, rfl, .inl (SqL.of eC11), _, _, rfl, ?_⟩
      rw [List.length_map]
      have hbn : ∀ y : Int, y = (if (12 : Int) < (cs.length : Int) then 12 else (cs.length : Int)) → 0 ≤ y ∧ y ≤ cs.length := fun y hy => by
        subst hy
        split <;> omega
      have hbn := hbn _ rfl
      generalize (if (12 : Int) < (cs.length : Int) then 12 else (cs.length : Int)) = n at hbn ⊢
      refine ⟨n, rfl, by omega, by omega, for_range (fun k σ Hk => ∃ (o5 : Option V) (t' : Addr) (ps' : Prs) (cs' : Cs), σ = [some (.ref a0), some (.int (0 + (i : Nat))), some (.ref st), some (.ref tb), some (.ref a), o5, o6, o7, o8, some (.ref Ce), o10'] ∧ KM [Ce, st] Hk C a dx l t' ps' ch ∧ ps'.map (·.2) = qs.map (·.2) ∧ Hk Ce = some (.lst (cs'.map cellV)) ∧ cs'.length + k = cs.length ∧ (∀ c ∈ cs', CellAt Hk c ∧ c.2.1 < qs.length ∧ c.2.2 < w0 qs ∧ c.1 ∉ [a, l, st] ∧ c.1 ≠ Ce) ∧ Tab Hk tb qs ∧ StK Hk st ∧ Same H Hk)
        ⟨_, t2, ps, cs, rfl, hM11, hq2.symm, eC11, rfl, hcs11, hT11, S11, sm11⟩ ?_ ?_⟩
      case refine_2 =>
        rintro σ Hk ⟨o5', t', ps', cs', rfl, _, _, _, _, _, _, _, smk⟩
        exact ⟨_, _, _, _, _, _, _, _, _, _, rfl, smk⟩
      rintro k σ Hk hk ⟨o5', t', ps', cs', rfl, hMk, hrk, eCk, hlk, hck, hTk, Sk, smk⟩
      refine ⟨_, rfl, _, rfl, _, rfl, _, rfl, .inl ⟨rfl, _, SqL.of eCk⟩, _, rfl, _, rfl, Ce, _, rfl, .inl (SqL.of eCk), st, _, rfl, ?_, ?_, Sk, fun d H12 d0 d1 b12 S12 => ?_⟩
      · rw [List.length_map]; omega
      · rw [List.length_map]; omega
      rw [List.length_map] at d1
      obtain ⟨dn, rfl⟩ : ∃ i : Nat, d = (i : Int) := ⟨d.toNat, (Int.toNat_of_nonneg d0).symm⟩
      have hdn : dn < cs'.length := by omega
      have mc : cs'[dn] ∈ cs' := List.getElem_mem hdn
      have eC12 : H12 Ce = some (.lst (cs'.map cellV)) := b12 _ _ nCs eCk
      refine ⟨Ce, _, (dn : Int), dn, cellV cs'[dn], rfl, rfl, eC12, by omega, by omega, ?_, by rw [List.getElem?_map, List.getElem?_eq_getElem hdn]; rfl, ?_⟩
      · rw [StrLaws.seqIndex_nonneg (by omega) (by rw [List.length_map]; omega), Int.toNat_natCast]
      have eE : (cs'.map cellV).eraseIdx dn = (cs'.eraseIdx dn).map cellV := erase_map _ _ _
      rw [eE]
      have hM12 := hMk.st (st := st) (by simp) b12 S12
      have eC13 : (upd H12 Ce (.lst ((cs'.eraseIdx dn).map cellV))) Ce = some (.lst ((cs'.eraseIdx dn).map cellV)) := upd_same
      have b13 : ∀ b o, b ≠ Ce → H12 b = some o → (upd H12 Ce (.lst ((cs'.eraseIdx dn).map cellV))) b = some o := fun b o n e => by rw [upd_ne n]; exact e
      generalize upd H12 Ce (.lst ((cs'.eraseIdx dn).map cellV)) = H13 at eC13 b13 ⊢
      have hM13 : KM [Ce, st] H13 C a dx l t' ps' ch := hM12.but (fun y o n e => b13 y o (fun z => n (by rw [z]; exact .head _)) e) fun b hb => by
        by_cases e : b = Ce
        · rw [e, eC13]; exact fun z => nomatch z
        · cases eb : H12 b with
          | none => exact absurd eb (hM12.live b hb)
          | some o => rw [b13 b o e eb]; exact fun z => nomatch z
      have S13 : StK H13 st := by
        obtain ⟨y1, y2, y3, e⟩ := S12
        exact ⟨y1, y2, y3, b13 _ _ (Ne.symm nCs) e⟩
      have nqs : ∀ p ∈ qs, p.1 ≠ st := fun p hp z => nqS p hp (by rw [z]; simp)
      have hT12 := hTk.but nt nqs b12
      have hT13 : Tab H13 tb qs := ⟨b13 _ _ (Ne.symm nCt) hT12.l, fun p hp => b13 _ _ (Ne.symm (nCq p hp)) (hT12.r p hp)⟩
      have up : ∀ b o, b ≠ Ce → b ≠ st → Hk b = some o → H13 b = some o := fun b o n1 n2 e => b13 _ _ n1 (b12 _ _ n2 e)
      have sm13 : Same H H13 := fun y o e => up _ _ (fun z => by rw [z, hCe0] at e; cases e) (fun z => by rw [z, hst0] at e; cases e) (smk _ _ e)
      obtain ⟨y1, y2, y3, y4, y5⟩ := hck _ mc
      have y6 : ∀ {c : Addr × Nat × Nat}, c.1 ∉ [a, l, st] → c.1 ≠ st := fun h z => h (by rw [z]; simp)
      have tcc : TC H13 st a l tb cs'[dn].1 qs cs'[dn].2.1 cs'[dn].2.2 := ⟨hT13, ntS, nqS, up _ _ y5 (y6 y4) y1, y4⟩
      have cr : CR [Ce, st] H13 C st a dx l ch (qs.map (·.2)) H13 t' ps' := ⟨hM13, hrk, ButS.refl _ _, S13, by simp⟩
      refine ⟨st, a, dx, t', l, cs'[dn].1, tb, ps', qs, ch, qs.map (·.2), cs'[dn].2.1, cs'[dn].2.2, [Ce, st], rfl, cr, tcc, rfl, hch, by rw [List.length_map]; exact y2, by rw [wR_w0]; exact y3, fun H14 t4 ps4 h4 => ⟨_, rfl, iteF ?_⟩⟩
      have nCF : Ce ∉ [a, l, st] := fun z => by
        simp only [List.mem_cons, List.not_mem_nil, or_false] at z
        rcases z with z | z | z
        · exact nCa z
        · exact nCl z
        · exact nCs z
      refine ⟨_, t4, ps4, cs'.eraseIdx dn, rfl, h4.k, h4.r, h4.b _ _ nCF eC13, ?_, fun c hc => ?_, tcc.tab h4.b, h4.s, fun y o e => h4.b _ _ (fun z => ?_) (sm13 _ _ e)⟩
      · rw [List.length_eraseIdx_of_lt hdn]; omega
      · obtain ⟨z1, z2, z3, z4, z5⟩ := hck c (List.mem_of_mem_eraseIdx hc)
        exact ⟨h4.b _ _ z4 (up _ _ z5 (y6 z4) z1), z2, z3, z4, z5⟩
      · simp only [List.mem_cons, List.not_mem_nil, or_false] at z
        rcases z with z | z | z
        · rw [z, ha0] at e; cases e
        · rw [z, hl0] at e; cases e
        · rw [z, hst0] at e; cases e
end
theorem defAt_mk {K : PySem.W.Frag} {h : Heap} {mg : Str → Option Value} {x : Str} {st : Stmt} {ps : List Str} {f : Addr} (X : K.In h) (G : h.Ns mainGlobals mg) {od an : Option Addr} {sl : Array (Option Value)} {oc kV dc pm cd ct : Value}
    (a : PySem.W.nsIn K mainGlobals x = some (some (.ref f))) (l : K.lookup f = some ⟨oc, od, .func (PySem.W.fnOf x x (defArgs st) (defBody st) (defScope st) .none kV dc pm an cd ct), sl⟩) (c : PySem.W.codeIn K cd x = true) (k : PySem.W.keepIn K (.ref f) = true)
    (b : ∀ (kV doc pm : Value) (an : Option Addr) (cdv ct : Value) (us : List Value), us.length = ps.length → bindArgs (PySem.W.fnOf x x (defArgs st) (defBody st) (defScope st) .none kV doc pm an cdv ct) ⟨us, []⟩ = pure (ps.zip us)) : DefAt K mg x st ps := by
  have F := fun_mk (st := st) l c k
  exact ⟨f, _, F, PySem.W.mg_of X G a, F.binds b⟩
theorem blt_mk {K : PySem.W.Frag} {h : Heap} {mg : Str → Option Value} {t1 t2 : Tok} (X : K.In h) (G : h.Ns mainGlobals mg) (e1 : PySem.W.nsIn K mainGlobals "len" = some none) (e2 : PySem.W.nsIn K mainGlobals "all" = some none) (e3 : PySem.W.nsIn K mainGlobals "isinstance" = some none)
    (e4 : PySem.W.nsIn K mainGlobals "range" = some none) (e5 : PySem.W.nsIn K mainGlobals "int" = some none) (e6 : PySem.W.nsIn K mainGlobals "bool" = some none) (e7 : PySem.W.nsIn K mainGlobals "list" = some none) (e8 : PySem.W.nsIn K mainGlobals "enumerate" = some none)
    (e9 : PySem.W.nsIn K mainGlobals "abs" = some none) (e10 : PySem.W.nsIn K mainGlobals "max" = some none) (e11 : PySem.W.nsIn K mainGlobals "MOST_ROWS" = some (some (.int 6 t1))) (e12 : PySem.W.nsIn K mainGlobals "MOST_PLACES" = some (some (.int 6 t2))) : Blt mg :=
  ⟨PySem.W.mg_none_of X G e1, PySem.W.mg_none_of X G e2, PySem.W.mg_none_of X G e3, PySem.W.mg_none_of X G e4, PySem.W.mg_none_of X G e5, PySem.W.mg_none_of X G e6, PySem.W.mg_none_of X G e7, PySem.W.mg_none_of X G e8, PySem.W.mg_none_of X G e9, PySem.W.mg_none_of X G e10,
    ⟨_, PySem.W.mg_of X G e11⟩, ⟨_, PySem.W.mg_of X G e12⟩⟩
theorem walk {l : PySem.W.OpenLaw} {q : Program} {loose : List Str} {XP : (Str → Option Value) → Heap → Prop} {YP : World → Heap → Prop} {d : DefRec} {K : Params → PySem.W.Frag} (hn : l.most = some 63) (hdf : d.params.defaults = [])
    (hY : ∀ (w : World) (h : Heap), YP w h → (K w.params).In h)
    (F : ∀ (w : World) (mg : Str → Option Value) (fa : Addr) (h : Heap), (K w.params).In h → h.Ns mainGlobals mg → mg d.name = some (.ref fa) →
      ∃ fd : FuncData, (∀ (s : Shared) (u : Value), BindsTo s fd ⟨[u], []⟩ [("script", u)]) ∧ ∀ base : Heap, (K w.params).In base → base.Ns mainGlobals mg → FnOk l.prog w (K w.params) mg base CX0 20 fa fd ["script"] (spLaw (K w.params))) :
    PySem.W.WalkO q loose XP YP l.row.toRowW d [] (fun f vs => PySem.call f vs) :=
  L2.walk_of (n := 63) (k := 20) (x := "script") (CX := fun _ => CX0) (sp := fun w => spLaw (K w.params)) hn (by decide) hdf ⟨rfl, by decide, by decide, rfl⟩ hY F (fun _ _ a ns hl _ hS => ⟨a, ns, rfl, hS, hl, fun _ => rfl⟩) fun _ _ _ _ _ z => z
theorem nms_mk {K : PySem.W.Frag} {h : Heap} {mg : Str → Option Value} {S a0 a1 a2 a3 a4 a5 a6 a7 a8 a9 a10 a11 : Addr} (X : K.In h) (G : h.Ns mainGlobals mg) (e : PySem.W.nsIn K mainGlobals "SeekError" = some (some (.ref S))) (e0 : PySem.W.nsIn K mainGlobals "NoTable" = some (some (.ref a0))) (e1 : PySem.W.nsIn K mainGlobals "NoCell" = some (some (.ref a1)))
    (e2 : PySem.W.nsIn K mainGlobals "NoNumber" = some (some (.ref a2))) (e3 : PySem.W.nsIn K mainGlobals "NoSize" = some (some (.ref a3))) (e4 : PySem.W.nsIn K mainGlobals "NoStair" = some (some (.ref a4))) (e5 : PySem.W.nsIn K mainGlobals "NoLook" = some (some (.ref a5)))
    (e6 : PySem.W.nsIn K mainGlobals "NoPlace" = some (some (.ref a6))) (e7 : PySem.W.nsIn K mainGlobals "NoFit" = some (some (.ref a7))) (e8 : PySem.W.nsIn K mainGlobals "NoChange" = some (some (.ref a8))) (e9 : PySem.W.nsIn K mainGlobals "NoText" = some (some (.ref a9)))
    (e10 : PySem.W.nsIn K mainGlobals "NoName" = some (some (.ref a10))) (e11 : PySem.W.nsIn K mainGlobals "NoRow" = some (some (.ref a11))) : Nms mg S [a0, a1, a2, a3, a4, a5, a6, a7, a8, a9, a10, a11] :=
  ⟨rfl, PySem.W.mg_of X G e, PySem.W.mg_of X G e0, PySem.W.mg_of X G e1, PySem.W.mg_of X G e2, PySem.W.mg_of X G e3, PySem.W.mg_of X G e4, PySem.W.mg_of X G e5, PySem.W.mg_of X G e6, PySem.W.mg_of X G e7, PySem.W.mg_of X G e8, PySem.W.mg_of X G e9, PySem.W.mg_of X G e10, PySem.W.mg_of X G e11⟩
theorem err_mk {K : PySem.W.Frag} {S C a0 a1 a2 a3 a4 a5 a6 a7 a8 a9 a10 a11 : Addr} {i : Nat} (k : ExcK K C) (sk : PySem.W.mroIn K C (.ref S) = some true) (kv : PySem.W.kitOne K (.ref C) (.type "ValueError") = some true)
    (k0 : PySem.W.kitOne K (.ref C) (.ref a0) = some (decide (0 = i))) (k1 : PySem.W.kitOne K (.ref C) (.ref a1) = some (decide (1 = i))) (k2 : PySem.W.kitOne K (.ref C) (.ref a2) = some (decide (2 = i))) (k3 : PySem.W.kitOne K (.ref C) (.ref a3) = some (decide (3 = i)))
    (k4 : PySem.W.kitOne K (.ref C) (.ref a4) = some (decide (4 = i))) (k5 : PySem.W.kitOne K (.ref C) (.ref a5) = some (decide (5 = i))) (k6 : PySem.W.kitOne K (.ref C) (.ref a6) = some (decide (6 = i))) (k7 : PySem.W.kitOne K (.ref C) (.ref a7) = some (decide (7 = i)))
    (k8 : PySem.W.kitOne K (.ref C) (.ref a8) = some (decide (8 = i))) (k9 : PySem.W.kitOne K (.ref C) (.ref a9) = some (decide (9 = i))) (k10 : PySem.W.kitOne K (.ref C) (.ref a10) = some (decide (10 = i))) (k11 : PySem.W.kitOne K (.ref C) (.ref a11) = some (decide (11 = i))) :
    Err K S [a0, a1, a2, a3, a4, a5, a6, a7, a8, a9, a10, a11] i C :=
  ⟨k, sk, kv, fun j D h => match j, h with
    | 0, h => by cases h; exact k0
    | 1, h => by cases h; exact k1
    | 2, h => by cases h; exact k2
    | 3, h => by cases h; exact k3
    | 4, h => by cases h; exact k4
    | 5, h => by cases h; exact k5
    | 6, h => by cases h; exact k6
    | 7, h => by cases h; exact k7
    | 8, h => by cases h; exact k8
    | 9, h => by cases h; exact k9
    | 10, h => by cases h; exact k10
    | 11, h => by cases h; exact k11
    | n + 12, h => by simp at h⟩
theorem all_mk {l : PySem.W.OpenLaw} {w : World} {K : PySem.W.Frag} {mg : Str → Option Value} {fa C S a0 a1 a2 a3 a4 a5 a6 a7 a8 a9 a10 a11 : Addr} (hfa : mg "law" = some (.ref fa)) (T : Blt mg) (h_min : mg "min" = none) (h_tuple : mg "tuple" = none) (h_sorted : mg "sorted" = none) (h_zip : mg "zip" = none) (h_str : mg "str" = none) (h_ValueError : mg "ValueError" = none) (h_fig : ∃ t, mg "FIGURES" = some (.str figS t)) (N : Nms mg S [a0, a1, a2, a3, a4, a5, a6, a7, a8, a9, a10, a11]) (kS : ExcK K S) (E1 : Err K S [a0, a1, a2, a3, a4, a5, a6, a7, a8, a9, a10, a11] 1 a1) (E2 : Err K S [a0, a1, a2, a3, a4, a5, a6, a7, a8, a9, a10, a11] 2 a2) (E7 : Err K S [a0, a1, a2, a3, a4, a5, a6, a7, a8, a9, a10, a11] 7 a7) (zK : KpM K mg C)
    (m_init : MethDef K C "__init__" "Keeper.__init__" (methOf dKeeper 0) ["self", "table"])
    (m_change : MethDef K C "change" "Keeper.change" (methOf dKeeper 1) ["self", "cell", "x"])
    (m_undo : MethDef K C "undo" "Keeper.undo" (methOf dKeeper 2) ["self"])
    (m_table : MethDef K C "table" "Keeper.table" (methOf dKeeper 3) ["self"])
    (m_span : MethDef K C "span" "Keeper.span" (methOf dKeeper 6) ["self", "cell"])
    (d_is_whole : DefAt K mg "is_whole" dIsWhole ["thing"])
    (d_all_whole : DefAt K mg "all_whole" dAllWhole ["things"])
    (d_never_falls : DefAt K mg "never_falls" dNeverFalls ["numbers"])
    (d_is_row : DefAt K mg "is_row" dIsRow ["thing"])
    (d_has_table_shape : DefAt K mg "has_table_shape" dShape ["thing"])
    (d_numbers_at_place : DefAt K mg "numbers_at_place" dAtPlace ["table", "place"])
    (d_is_sorted_both_ways : DefAt K mg "is_sorted_both_ways" dSorted ["table"])
    (d_is_table : DefAt K mg "is_table" dIsTable ["thing"])
    (d_need_table : DefAt K mg "need_table" dNeedTable ["thing"])
    (d_need_number : DefAt K mg "need_number" dNeedNumber ["thing"])
    (d_is_cell_of_size : DefAt K mg "is_cell_of_size" dCellSz ["rows", "places", "thing"])
    (d_is_cell : DefAt K mg "is_cell" dIsCell ["table", "thing"])
    (d_need_cell : DefAt K mg "need_cell" dNeedCell ["table", "thing"])
    (d_number_at : DefAt K mg "number_at" dNumberAt ["table", "cell"])
    (d_copy_of : DefAt K mg "copy_of" dCopyOf ["table"])
    (d_table_with : DefAt K mg "table_with" dWith ["table", "cell", "x"])
    (d_changed_table : DefAt K mg "changed_table" dChanged ["table", "cell", "x"])
    (d_numbers_beside : DefAt K mg "numbers_beside" dBeside ["table", "beside"])
    (d_span_of : DefAt K mg "span_of" dSpan ["table", "cell"])
    (d_writes_count : DefAt K mg "writes_count" dWCount ["word"])
    (d_writes_number : DefAt K mg "writes_number" dWNumber ["word"])
    (d_read_row : DefAt K mg "read_row" dReadRow ["line"])
    (d_read_table : DefAt K mg "read_table" dReadTable ["text"])
    (d__law_cell : DefAt K mg "_law_cell" dLCell ["script", "k"])
    (d__law_store : DefAt K mg "_law_store" dStore ["cell"])
    (d__law_take : DefAt K mg "_law_take" dTake ["store", "many"])
    (d__law_far : DefAt K mg "_law_far" dFar ["store", "figures"])
    (d__law_table : DefAt K mg "_law_table" dTable ["store"])
    (d__law_copy : DefAt K mg "_law_copy" dCopy ["table"])
    (d__law_kind : DefAt K mg "_law_kind" dKind ["e", "due"])
    (d__law_span : DefAt K mg "_law_span" dLSpan ["table", "cell"])
    (d__law_refused : DefAt K mg "_law_refused" dRefused ["keeper", "cell", "x"])
    (d__law_good : DefAt K mg "_law_good" dGood ["keeper", "table", "cell", "x"])
    (d__law_cell_right : DefAt K mg "_law_cell_right" dCellR ["store", "keeper", "table", "cell"])
    (d__law_great_right : DefAt K mg "_law_great_right" dGreatR ["store"])
    (d_law : DefAt K mg "law" dLaw ["script"])
    : ∃ fd : FuncData, (∀ (s : Shared) (v : Value), BindsTo s fd ⟨[v], []⟩ [("script", v)]) ∧ ∀ base : Heap, K.In base → base.Ns mainGlobals mg → FnOk l.prog w K mg base CX0 20 fa fd ["script"] (spLaw K) := by
  obtain ⟨f, fd, F, hm, hb⟩ := d_law
  have e := hfa.symm.trans hm
  cases e
  refine ⟨fd, ?_, fun base _ _ => ?_⟩
  · obtain ⟨oc, od, kV, doc, pm, an, cdv, ct, osl, rfl, lk, hcd⟩ := F.ex
    exact fun s v => .of_eq rfl
  · have g_is_whole := ok_isWholeA (P := l.prog) (w := w) (base := base) T d_is_whole
    have g_is_wholeI := ok_isWhole (P := l.prog) (w := w) (base := base) T d_is_whole
    have g_all_whole := ok_allWholeTA T d_all_whole g_is_whole
    have g_all_wholeI := ok_allWhole T d_all_whole g_is_wholeI
    have g_all_wholeTI := ok_allWholeT T d_all_whole g_is_wholeI
    have g_all_wholeII := ok_allWholeI T d_all_whole g_is_wholeI
    have g_never_falls := ok_nf (P := l.prog) (w := w) (base := base) T d_never_falls
    have g_is_row := ok_isRow T d_is_row g_all_wholeI
    have g_has_table_shape := ok_shape T d_has_table_shape g_is_row
    have g_numbers_at_place := ok_atPlace (P := l.prog) (w := w) (base := base) d_numbers_at_place
    have g_is_sorted_both_ways := ok_sorted T d_is_sorted_both_ways g_never_falls g_numbers_at_place
    have g_is_table := ok_isTable d_is_table g_has_table_shape g_is_sorted_both_ways
    have g_need_table := ok_needTable d_need_table g_is_table
    have g_need_number := ok_needNumber d_need_number g_is_wholeI
    have g_need_numberX := ok_needNX E2.k N.n2 d_need_number g_is_whole
    have g_is_cell_of_size := ok_cellSz T h_tuple d_is_cell_of_size g_all_wholeTI
    have g_cellSzI := ok_cellSzI T h_tuple d_is_cell_of_size g_all_wholeII
    have g_cellSzA := ok_cellSzA T h_tuple d_is_cell_of_size g_all_whole
    have g_is_cell := ok_isCell T d_is_cell g_is_cell_of_size
    have g_is_cellI := ok_isCellI T d_is_cell g_cellSzI
    have g_is_cellA := ok_isCellA T d_is_cell g_cellSzA
    have g_need_cell := ok_needCell d_need_cell g_is_cell
    have g_need_cellX := ok_needCX E1.k N.n1 d_need_cell g_is_cellA
    have g_number_at := ok_numberAt d_number_at g_need_table g_need_cell
    have g_copy_of := ok_copyOf (P := l.prog) (w := w) (base := base) T d_copy_of
    have g_table_with := ok_with d_table_with g_copy_of
    have g_changed_table := ok_changed d_changed_table g_need_cell g_need_number g_table_with g_is_table
    have g_changedX := ok_changedX E7.k N.n7 d_changed_table g_need_cell g_need_cellX g_need_number g_need_numberX g_table_with g_is_table
    have g_numbers_beside := ok_beside d_numbers_beside g_is_cellI g_number_at
    have g_span_of := ok_span T h_min d_span_of g_need_cell g_numbers_beside
    have g_kInit := ok_kInit zK.c m_init g_need_table g_copy_of
    have g_kTable := ok_kTable zK.c m_table g_copy_of
    have g_kChange := ok_kChange zK.c m_change g_changed_table g_number_at
    have g_kChX := ok_kChX zK.c m_change g_changedX
    have g_kUndo := ok_kUndo T zK.c m_undo g_table_with g_number_at
    have g_kSpan := ok_kSpan zK.c m_span g_span_of
    have g_writes_count := ok_wCount (P := l.prog) (w := w) (base := base) T h_fig d_writes_count
    have g_writes_number := ok_wNumber d_writes_number g_writes_count
    have g_read_row := ok_readRow T d_read_row g_writes_number
    have g_read_table := ok_readTable T h_str d_read_table g_read_row g_is_table
    have g__law_cell := ok_lcell (P := l.prog) (w := w) (base := base) T d__law_cell
    have g__law_store := ok_store (P := l.prog) (w := w) (base := base) d__law_store
    have g__law_take := ok_takeK (P := l.prog) (w := w) (base := base) d__law_take
    have g__law_far := ok_far T d__law_far g__law_take
    have g__law_table := ok_tableK T d__law_table g__law_take g__law_far
    have g__law_copy := ok_copyN (P := l.prog) (w := w) (base := base) T d__law_copy
    have g__law_kind := ok_kind (P := l.prog) (w := w) (base := base) T h_zip h_ValueError N d__law_kind
    have g__law_span := ok_lSpan (P := l.prog) (w := w) (base := base) T h_sorted d__law_span
    have g__law_refused := ok_ref N kS E7 zK.c d__law_refused g_kChX g__law_kind
    have g__law_good := ok_good zK.c d__law_good g_kTable g_kChange g_kUndo g__law_copy
    have g__law_cell_right := ok_cellR T h_tuple zK.c d__law_cell_right g_kSpan g__law_span g__law_far g__law_good g__law_refused
    have g__law_great_right := ok_greatR T h_str zK d__law_great_right g__law_take g__law_table g_read_table g__law_span g__law_good g__law_refused g_kInit g_kTable g_kSpan
    exact FnOk.mono (ok_law T h_min zK F g__law_cell g__law_store g__law_take g__law_table g__law_copy g__law_span g__law_great_right g__law_cell_right g_kInit g_kChange) (by decide)
theorem figS_is : figS = ⟨#[48, 49, 50, 51, 52, 53, 54, 55, 56, 57]⟩ := by
  have e : figS.cps.toList = [48, 49, 50, 51, 52, 53, 54, 55, 56, 57] := by decide +kernel
  have e2 : figS.cps = #[48, 49, 50, 51, 52, 53, 54, 55, 56, 57] := Array.ext' e
  generalize figS = f at *
  cases f; simp only at e2; rw [e2]
theorem fig_mk {K : PySem.W.Frag} {h : Heap} {mg : Str → Option Value} {t} (X : K.In h) (G : h.Ns mainGlobals mg) (e : PySem.W.nsIn K mainGlobals "FIGURES" = some (some (.str ⟨#[48, 49, 50, 51, 52, 53, 54, 55, 56, 57]⟩ t))) : ∃ t, mg "FIGURES" = some (.str figS t) :=
  ⟨t, by rw [figS_is]; exact PySem.W.mg_of X G e⟩
end Seek
def PySem.W.Fast.tw10910698815774230514 : Unit := ()
def PySem.W.Fast.tw11379357217767451135 : Unit := ()
def PySem.W.Fast.tw11881262381927899366 : Unit := ()
def PySem.W.Fast.tw11968524789491054947 : Unit := ()
def PySem.W.Fast.tw12030912699270094052 : Unit := ()
def PySem.W.Fast.tw12042268889744708420 : Unit := ()
def PySem.W.Fast.tw12098019029448277968 : Unit := ()
def PySem.W.Fast.tw12163473200756095517 : Unit := ()
def PySem.W.Fast.tw12249983824102322261 : Unit := ()
def PySem.W.Fast.tw12843957909938171277 : Unit := ()
def PySem.W.Fast.tw13015449036856186654 : Unit := ()
def PySem.W.Fast.tw13733413420080901000 : Unit := ()
def PySem.W.Fast.tw1374471271333322038 : Unit := ()
def PySem.W.Fast.tw14471454780964027656 : Unit := ()
def PySem.W.Fast.tw15171996424845466529 : Unit := ()
def PySem.W.Fast.tw16051425112295433561 : Unit := ()
def PySem.W.Fast.tw16203632554312665958 : Unit := ()
def PySem.W.Fast.tw16458693306323789482 : Unit := ()
def PySem.W.Fast.tw16593818184185832095 : Unit := ()
def PySem.W.Fast.tw17960917446821904395 : Unit := ()
def PySem.W.Fast.tw18313092660896132442 : Unit := ()
def PySem.W.Fast.tw2020242814891552684 : Unit := ()
def PySem.W.Fast.tw2157474845523466132 : Unit := ()
def PySem.W.Fast.tw2627530784042605988 : Unit := ()
def PySem.W.Fast.tw2929431868643378368 : Unit := ()
def PySem.W.Fast.tw3088263671073056084 : Unit := ()
def PySem.W.Fast.tw3741341447726988076 : Unit := ()
def PySem.W.Fast.tw3908070724320149559 : Unit := ()
def PySem.W.Fast.tw4235169272537530947 : Unit := ()
def PySem.W.Fast.tw4355414300253256472 : Unit := ()
def PySem.W.Fast.tw509323265988778436 : Unit := ()
def PySem.W.Fast.tw6039568642851456937 : Unit := ()
def PySem.W.Fast.tw6066520698205473725 : Unit := ()
def PySem.W.Fast.tw6314066714036921504 : Unit := ()
def PySem.W.Fast.tw688214678936694377 : Unit := ()
def PySem.W.Fast.tw7241677951550415388 : Unit := ()
def PySem.W.Fast.tw8148746565852435895 : Unit := ()
def PySem.W.Fast.tw880290058091039426 : Unit := ()
def PySem.W.Fast.tw9362859011053416020 : Unit := ()
def PySem.W.Fast.tw9394433629320934541 : Unit := ()
def PySem.W.Fast.tw9460694880056028085 : Unit := ()
open PySem PySem.W PyProof.Rows
set_option maxRecDepth 100000 in
set_option maxHeartbeats 0 in
theorem PySem.Challenge.cw_stairseek_k31_spans_and_changes_holds : PySem.Challenge.rw_stairseek_k31_spans_and_changes.Holds := by
  w_on; o_law; k_head; (case hw => w_witness2)
  k_fill
  refine Seek.walk (l := PySem.Challenge.rw_stairseek_k31_spans_and_changes) rfl rfl (fun w h Y => PySem.W.kIn_of Y) ?F
  case F =>
    intro w mg fa h KX G hmg
    refine' Seek.all_mk hmg ?T ?x_min ?x_tuple ?x_sorted ?x_zip ?x_str ?x_ValueError ?x_fig ?zN ?zS ?zE1 ?zE2 ?zE7 ?zK ?m_init ?m_change ?m_undo ?m_table ?m_span ?d_is_whole ?d_all_whole ?d_never_falls ?d_is_row ?d_has_table_shape ?d_numbers_at_place ?d_is_sorted_both_ways ?d_is_table ?d_need_table ?d_need_number ?d_is_cell_of_size ?d_is_cell ?d_need_cell ?d_number_at ?d_copy_of ?d_table_with ?d_changed_table ?d_numbers_beside ?d_span_of ?d_writes_count ?d_writes_number ?d_read_row ?d_read_table ?d__law_cell ?d__law_store ?d__law_take ?d__law_far ?d__law_table ?d__law_copy ?d__law_kind ?d__law_span ?d__law_refused ?d__law_good ?d__law_cell_right ?d__law_great_right ?d_law
    case T =>
      refine' Seek.blt_mk KX G ?e1 ?e2 ?e3 ?e4 ?e5 ?e6 ?e7 ?e8 ?e9 ?e10 ?e11 ?e12
      (case e1 => k_is); (case e2 => k_is); (case e3 => k_is); (case e4 => k_is); (case e5 => k_is); (case e6 => k_is); (case e7 => k_is); (case e8 => k_is); (case e9 => k_is); (case e10 => k_is); (case e11 => k_is); (case e12 => k_is)
    case x_min =>
      refine' PySem.W.mg_none_of KX G ?e
      (case e => k_is)
    case x_tuple =>
      refine' PySem.W.mg_none_of KX G ?e
      (case e => k_is)
    case x_sorted =>
      refine' PySem.W.mg_none_of KX G ?e
      (case e => k_is)
    case x_zip =>
      refine' PySem.W.mg_none_of KX G ?e
      (case e => k_is)
    case x_str =>
      refine' PySem.W.mg_none_of KX G ?e
      (case e => k_is)
    case x_ValueError =>
      refine' PySem.W.mg_none_of KX G ?e
      (case e => k_is)
    case x_fig =>
      refine' Seek.fig_mk KX G ?e
      (case e => k_is)
    case zN =>
      refine' Seek.nms_mk KX G ?e ?e0 ?e1 ?e2 ?e3 ?e4 ?e5 ?e6 ?e7 ?e8 ?e9 ?e10 ?e11
      (case e => k_is); (case e0 => k_is); (case e1 => k_is); (case e2 => k_is); (case e3 => k_is); (case e4 => k_is); (case e5 => k_is); (case e6 => k_is); (case e7 => k_is); (case e8 => k_is); (case e9 => k_is); (case e10 => k_is); (case e11 => k_is)
    case zS =>
      refine' L2.ExcK.mk ?exc ?ga ?gt ?cl ?ob ?bx
      (case exc => k_exc); (case ga => k_is); (case gt => k_is); (case cl => k_is); (case ob => k_is); (case bx => k_is)
    case zE1 =>
      refine' Seek.err_mk (L2.ExcK.mk ?exc ?ga ?gt ?cl ?ob ?bx) ?sk ?kv ?k0 ?k1 ?k2 ?k3 ?k4 ?k5 ?k6 ?k7 ?k8 ?k9 ?k10 ?k11
      (case exc => k_exc); (case ga => k_is); (case gt => k_is); (case cl => k_is); (case ob => k_is); (case bx => k_is)
      (case sk => k_is); (case kv => kit_is); (case k0 => kit_is); (case k1 => kit_is); (case k2 => kit_is); (case k3 => kit_is); (case k4 => kit_is); (case k5 => kit_is); (case k6 => kit_is); (case k7 => kit_is); (case k8 => kit_is); (case k9 => kit_is); (case k10 => kit_is); (case k11 => kit_is)
    case zE2 =>
      refine' Seek.err_mk (L2.ExcK.mk ?exc ?ga ?gt ?cl ?ob ?bx) ?sk ?kv ?k0 ?k1 ?k2 ?k3 ?k4 ?k5 ?k6 ?k7 ?k8 ?k9 ?k10 ?k11
      (case exc => k_exc); (case ga => k_is); (case gt => k_is); (case cl => k_is); (case ob => k_is); (case bx => k_is)
      (case sk => k_is); (case kv => kit_is); (case k0 => kit_is); (case k1 => kit_is); (case k2 => kit_is); (case k3 => kit_is); (case k4 => kit_is); (case k5 => kit_is); (case k6 => kit_is); (case k7 => kit_is); (case k8 => kit_is); (case k9 => kit_is); (case k10 => kit_is); (case k11 => kit_is)
    case zE7 =>
      refine' Seek.err_mk (L2.ExcK.mk ?exc ?ga ?gt ?cl ?ob ?bx) ?sk ?kv ?k0 ?k1 ?k2 ?k3 ?k4 ?k5 ?k6 ?k7 ?k8 ?k9 ?k10 ?k11
      (case exc => k_exc); (case ga => k_is); (case gt => k_is); (case cl => k_is); (case ob => k_is); (case bx => k_is)
      (case sk => k_is); (case kv => kit_is); (case k0 => kit_is); (case k1 => kit_is); (case k2 => kit_is); (case k3 => kit_is); (case k4 => kit_is); (case k5 => kit_is); (case k6 => kit_is); (case k7 => kit_is); (case k8 => kit_is); (case k9 => kit_is); (case k10 => kit_is); (case k11 => kit_is)
    case zK =>
      refine' Seek.kpm_mk KX G ?aC ?pg ?hd ?po ?sa ?mk ?kc ?nr ?nc
      (case aC => k_is); (case pg => k_is); (case hd => k_is); (case po => k_is); (case sa => k_is); (case mk => k_is); (case kc => k_is); (case nr => k_is); (case nc => k_is)
    case m_init =>
      refine' L2.methDef_mk ?a ?i ?l ?c ?k ?b
      (case a => k_is); (case i => k_is); (case l => k_is); (case c => k_is); (case k => k_is)
      case b => exact fun _ _ _ _ _ _ us hl => match us, hl with | [_, _], _ => rfl
    case m_change =>
      refine' L2.methDef_mk ?a ?i ?l ?c ?k ?b
      (case a => k_is); (case i => k_is); (case l => k_is); (case c => k_is); (case k => k_is)
      case b => exact fun _ _ _ _ _ _ us hl => match us, hl with | [_, _, _], _ => rfl
    case m_undo =>
      refine' L2.methDef_mk ?a ?i ?l ?c ?k ?b
      (case a => k_is); (case i => k_is); (case l => k_is); (case c => k_is); (case k => k_is)
      case b => exact fun _ _ _ _ _ _ us hl => match us, hl with | [_], _ => rfl
    case m_table =>
      refine' L2.methDef_mk ?a ?i ?l ?c ?k ?b
      (case a => k_is); (case i => k_is); (case l => k_is); (case c => k_is); (case k => k_is)
      case b => exact fun _ _ _ _ _ _ us hl => match us, hl with | [_], _ => rfl
    case m_span =>
      refine' L2.methDef_mk ?a ?i ?l ?c ?k ?b
      (case a => k_is); (case i => k_is); (case l => k_is); (case c => k_is); (case k => k_is)
      case b => exact fun _ _ _ _ _ _ us hl => match us, hl with | [_, _], _ => rfl
    case d_is_whole =>
      refine' Seek.defAt_mk KX G ?a ?l ?c ?k ?b
      (case a => k_is); (case l => k_is); (case c => k_is); (case k => k_is)
      case b => exact fun _ _ _ _ _ _ us hl => match us, hl with | [_], _ => rfl
    case d_all_whole =>
      refine' Seek.defAt_mk KX G ?a ?l ?c ?k ?b
      (case a => k_is); (case l => k_is); (case c => k_is); (case k => k_is)
      case b => exact fun _ _ _ _ _ _ us hl => match us, hl with | [_], _ => rfl
    case d_never_falls =>
      refine' Seek.defAt_mk KX G ?a ?l ?c ?k ?b
      (case a => k_is); (case l => k_is); (case c => k_is); (case k => k_is)
      case b => exact fun _ _ _ _ _ _ us hl => match us, hl with | [_], _ => rfl
    case d_is_row =>
      refine' Seek.defAt_mk KX G ?a ?l ?c ?k ?b
      (case a => k_is); (case l => k_is); (case c => k_is); (case k => k_is)
      case b => exact fun _ _ _ _ _ _ us hl => match us, hl with | [_], _ => rfl
    case d_has_table_shape =>
      refine' Seek.defAt_mk KX G ?a ?l ?c ?k ?b
      (case a => k_is); (case l => k_is); (case c => k_is); (case k => k_is)
      case b => exact fun _ _ _ _ _ _ us hl => match us, hl with | [_], _ => rfl
    case d_numbers_at_place =>
      refine' Seek.defAt_mk KX G ?a ?l ?c ?k ?b
      (case a => k_is); (case l => k_is); (case c => k_is); (case k => k_is)
      case b => exact fun _ _ _ _ _ _ us hl => match us, hl with | [_, _], _ => rfl
    case d_is_sorted_both_ways =>
      refine' Seek.defAt_mk KX G ?a ?l ?c ?k ?b
      (case a => k_is); (case l => k_is); (case c => k_is); (case k => k_is)
      case b => exact fun _ _ _ _ _ _ us hl => match us, hl with | [_], _ => rfl
    case d_is_table =>
      refine' Seek.defAt_mk KX G ?a ?l ?c ?k ?b
      (case a => k_is); (case l => k_is); (case c => k_is); (case k => k_is)
      case b => exact fun _ _ _ _ _ _ us hl => match us, hl with | [_], _ => rfl
    case d_need_table =>
      refine' Seek.defAt_mk KX G ?a ?l ?c ?k ?b
      (case a => k_is); (case l => k_is); (case c => k_is); (case k => k_is)
      case b => exact fun _ _ _ _ _ _ us hl => match us, hl with | [_], _ => rfl
    case d_need_number =>
      refine' Seek.defAt_mk KX G ?a ?l ?c ?k ?b
      (case a => k_is); (case l => k_is); (case c => k_is); (case k => k_is)
      case b => exact fun _ _ _ _ _ _ us hl => match us, hl with | [_], _ => rfl
    case d_is_cell_of_size =>
      refine' Seek.defAt_mk KX G ?a ?l ?c ?k ?b
      (case a => k_is); (case l => k_is); (case c => k_is); (case k => k_is)
      case b => exact fun _ _ _ _ _ _ us hl => match us, hl with | [_, _, _], _ => rfl
    case d_is_cell =>
      refine' Seek.defAt_mk KX G ?a ?l ?c ?k ?b
      (case a => k_is); (case l => k_is); (case c => k_is); (case k => k_is)
      case b => exact fun _ _ _ _ _ _ us hl => match us, hl with | [_, _], _ => rfl
    case d_need_cell =>
      refine' Seek.defAt_mk KX G ?a ?l ?c ?k ?b
      (case a => k_is); (case l => k_is); (case c => k_is); (case k => k_is)
      case b => exact fun _ _ _ _ _ _ us hl => match us, hl with | [_, _], _ => rfl
    case d_number_at =>
      refine' Seek.defAt_mk KX G ?a ?l ?c ?k ?b
      (case a => k_is); (case l => k_is); (case c => k_is); (case k => k_is)
      case b => exact fun _ _ _ _ _ _ us hl => match us, hl with | [_, _], _ => rfl
    case d_copy_of =>
      refine' Seek.defAt_mk KX G ?a ?l ?c ?k ?b
      (case a => k_is); (case l => k_is); (case c => k_is); (case k => k_is)
      case b => exact fun _ _ _ _ _ _ us hl => match us, hl with | [_], _ => rfl
    case d_table_with =>
      refine' Seek.defAt_mk KX G ?a ?l ?c ?k ?b
      (case a => k_is); (case l => k_is); (case c => k_is); (case k => k_is)
      case b => exact fun _ _ _ _ _ _ us hl => match us, hl with | [_, _, _], _ => rfl
    case d_changed_table =>
      refine' Seek.defAt_mk KX G ?a ?l ?c ?k ?b
      (case a => k_is); (case l => k_is); (case c => k_is); (case k => k_is)
      case b => exact fun _ _ _ _ _ _ us hl => match us, hl with | [_, _, _], _ => rfl
    case d_numbers_beside =>
      refine' Seek.defAt_mk KX G ?a ?l ?c ?k ?b
      (case a => k_is); (case l => k_is); (case c => k_is); (case k => k_is)
      case b => exact fun _ _ _ _ _ _ us hl => match us, hl with | [_, _], _ => rfl
    case d_span_of =>
      refine' Seek.defAt_mk KX G ?a ?l ?c ?k ?b
      (case a => k_is); (case l => k_is); (case c => k_is); (case k => k_is)
      case b => exact fun _ _ _ _ _ _ us hl => match us, hl with | [_, _], _ => rfl
    case d_writes_count =>
      refine' Seek.defAt_mk KX G ?a ?l ?c ?k ?b
      (case a => k_is); (case l => k_is); (case c => k_is); (case k => k_is)
      case b => exact fun _ _ _ _ _ _ us hl => match us, hl with | [_], _ => rfl
    case d_writes_number =>
      refine' Seek.defAt_mk KX G ?a ?l ?c ?k ?b
      (case a => k_is); (case l => k_is); (case c => k_is); (case k => k_is)
      case b => exact fun _ _ _ _ _ _ us hl => match us, hl with | [_], _ => rfl
    case d_read_row =>
      refine' Seek.defAt_mk KX G ?a ?l ?c ?k ?b
      (case a => k_is); (case l => k_is); (case c => k_is); (case k => k_is)
      case b => exact fun _ _ _ _ _ _ us hl => match us, hl with | [_], _ => rfl
    case d_read_table =>
      refine' Seek.defAt_mk KX G ?a ?l ?c ?k ?b
      (case a => k_is); (case l => k_is); (case c => k_is); (case k => k_is)
      case b => exact fun _ _ _ _ _ _ us hl => match us, hl with | [_], _ => rfl
    case d__law_cell =>
      refine' Seek.defAt_mk KX G ?a ?l ?c ?k ?b
      (case a => k_is); (case l => k_is); (case c => k_is); (case k => k_is)
      case b => exact fun _ _ _ _ _ _ us hl => match us, hl with | [_, _], _ => rfl
    case d__law_store =>
      refine' Seek.defAt_mk KX G ?a ?l ?c ?k ?b
      (case a => k_is); (case l => k_is); (case c => k_is); (case k => k_is)
      case b => exact fun _ _ _ _ _ _ us hl => match us, hl with | [_], _ => rfl
    case d__law_take =>
      refine' Seek.defAt_mk KX G ?a ?l ?c ?k ?b
      (case a => k_is); (case l => k_is); (case c => k_is); (case k => k_is)
      case b => exact fun _ _ _ _ _ _ us hl => match us, hl with | [_, _], _ => rfl
    case d__law_far =>
      refine' Seek.defAt_mk KX G ?a ?l ?c ?k ?b
      (case a => k_is); (case l => k_is); (case c => k_is); (case k => k_is)
      case b => exact fun _ _ _ _ _ _ us hl => match us, hl with | [_, _], _ => rfl
    case d__law_table =>
      refine' Seek.defAt_mk KX G ?a ?l ?c ?k ?b
      (case a => k_is); (case l => k_is); (case c => k_is); (case k => k_is)
      case b => exact fun _ _ _ _ _ _ us hl => match us, hl with | [_], _ => rfl
    case d__law_copy =>
      refine' Seek.defAt_mk KX G ?a ?l ?c ?k ?b
      (case a => k_is); (case l => k_is); (case c => k_is); (case k => k_is)
      case b => exact fun _ _ _ _ _ _ us hl => match us, hl with | [_], _ => rfl
    case d__law_kind =>
      refine' Seek.defAt_mk KX G ?a ?l ?c ?k ?b
      (case a => k_is); (case l => k_is); (case c => k_is); (case k => k_is)
      case b => exact fun _ _ _ _ _ _ us hl => match us, hl with | [_, _], _ => rfl
    case d__law_span =>
      refine' Seek.defAt_mk KX G ?a ?l ?c ?k ?b
      (case a => k_is); (case l => k_is); (case c => k_is); (case k => k_is)
      case b => exact fun _ _ _ _ _ _ us hl => match us, hl with | [_, _], _ => rfl
    case d__law_refused =>
      refine' Seek.defAt_mk KX G ?a ?l ?c ?k ?b
      (case a => k_is); (case l => k_is); (case c => k_is); (case k => k_is)
      case b => exact fun _ _ _ _ _ _ us hl => match us, hl with | [_, _, _], _ => rfl
    case d__law_good =>
      refine' Seek.defAt_mk KX G ?a ?l ?c ?k ?b
      (case a => k_is); (case l => k_is); (case c => k_is); (case k => k_is)
      case b => exact fun _ _ _ _ _ _ us hl => match us, hl with | [_, _, _, _], _ => rfl
    case d__law_cell_right =>
      refine' Seek.defAt_mk KX G ?a ?l ?c ?k ?b
      (case a => k_is); (case l => k_is); (case c => k_is); (case k => k_is)
      case b => exact fun _ _ _ _ _ _ us hl => match us, hl with | [_, _, _, _], _ => rfl
    case d__law_great_right =>
      refine' Seek.defAt_mk KX G ?a ?l ?c ?k ?b
      (case a => k_is); (case l => k_is); (case c => k_is); (case k => k_is)
      case b => exact fun _ _ _ _ _ _ us hl => match us, hl with | [_], _ => rfl
    case d_law =>
      refine' Seek.defAt_mk KX G ?a ?l ?c ?k ?b
      (case a => k_is); (case l => k_is); (case c => k_is); (case k => k_is)
      case b => exact fun _ _ _ _ _ _ us hl => match us, hl with | [_], _ => rfl

