import PyProof.Rows.All
import Wide.All
import OpenK.AllK
import Wide.FinOn
import Lean
import PyProof.EqAt
import PyProof.EqKinds
import PyProof.TupleCall
import PySem.Challenge.RW_stairseek_k35_texts_that_write_no_table
set_option Elab.async false
set_option linter.all false
set_option maxRecDepth 100000
namespace L2
open PySem PySem.Spec PyProof.Rows
abbrev Key := Sum Int Str
def keyIs : Key → Value → Bool
  | .inl k, v => Value.isInt k v
  | .inr x, v => Value.isStrOf x v
def keyH (w : World) : Key → Int
  | .inl k => hashInt k
  | .inr x => hashStr w x
theorem keyIs_shape : ∀ {k : Key} {v : Value}, keyIs k v = true → (∃ i t, k = Sum.inl i ∧ v = Value.int i t) ∨ (∃ x t, k = Sum.inr x ∧ v = Value.str x t)
  | .inl i, v, h => by
    obtain ⟨t, e⟩ := Value.isInt_shape (k := i) (v := v) h
    exact .inl ⟨i, t, rfl, e⟩
  | .inr x, v, h => by
    obtain ⟨t, e⟩ := Value.isStrOf_shape (x := x) (v := v) h
    exact .inr ⟨x, t, rfl, e⟩
theorem key_ll (a b : Int) : decide ((Sum.inl a : Key) = Sum.inl b) = (a == b) := by
  by_cases e : a = b
  · subst e; simp
  · have h : ¬ (Sum.inl a : Key) = Sum.inl b := fun q => e (Sum.inl.inj q)
    rw [decide_eq_false h]
    exact (beq_eq_false_iff_ne.mpr e).symm
theorem key_rr (a b : Str) : decide ((Sum.inr a : Key) = Sum.inr b) = decide (a = b) := by
  by_cases e : a = b
  · subst e; simp
  · have h : ¬ (Sum.inr a : Key) = Sum.inr b := fun q => e (Sum.inr.inj q)
    rw [decide_eq_false h, decide_eq_false e]
theorem key_lr (a : Int) (b : Str) : decide ((Sum.inl a : Key) = Sum.inr b) = false := decide_eq_false (fun q => nomatch q)
theorem key_rl (a : Str) (b : Int) : decide ((Sum.inr a : Key) = Sum.inl b) = false := decide_eq_false (fun q => nomatch q)
def mixKind (prog : Program) (w : World) : PySem.KeyKind prog w Key where
  is := keyIs
  hash := keyH w
  inj := fun v a b ha hb => by
    rcases keyIs_shape ha with ⟨i, t, rfl, rfl⟩ | ⟨x, t, rfl, rfl⟩
    · rcases keyIs_shape hb with ⟨j, u, rfl, e⟩ | ⟨y, u, rfl, e⟩
      · injection e with e1 _; rw [e1]
      · exact nomatch e
    · rcases keyIs_shape hb with ⟨j, u, rfl, e⟩ | ⟨y, u, rfl, e⟩
      · exact nomatch e
      · injection e with e1 _; rw [e1]
  byValue := fun k v h => by
    rcases keyIs_shape h with ⟨i, t, rfl, rfl⟩ | ⟨x, t, rfl, rfl⟩ <;> rfl
  pyHash := fun hv h => by
    rcases keyIs_shape hv with ⟨i, t, rfl, rfl⟩ | ⟨x, t, rfl, rfl⟩
    · exact wpAny_pyHash_int h
    · exact wpAny_pyHash_str h
  eqBool := fun hu hv h => by
    rcases keyIs_shape hu with ⟨i, t, rfl, rfl⟩ | ⟨x, t, rfl, rfl⟩
    · rcases keyIs_shape hv with ⟨j, u, rfl, rfl⟩ | ⟨y, u, rfl, rfl⟩
      · rw [key_ll] at h; exact wpAny_eqBool_int h
      · rw [key_lr] at h; exact SeqAt.EqAt.int_str i t y u _ _ _ _ h
    · rcases keyIs_shape hv with ⟨j, u, rfl, rfl⟩ | ⟨y, u, rfl, rfl⟩
      · rw [key_rl] at h; exact SeqAt.EqAt.str_int x t j u _ _ _ _ h
      · rw [key_rr] at h; exact wpAny_eqBool_str h
  «strs» := fun k x t v h => by
    rcases keyIs_shape h with ⟨i, u, rfl, e⟩ | ⟨y, u, rfl, e⟩
    · exact nomatch e
    · injection e with e1 _
      subst e1
      cases v <;> rfl
open PySem PySem.Spec PyProof.Rows
inductive V where
  | non | bl (b : Bool) | int (i : Int) | str (x : Str) | byt (b : Array UInt8) | flt (b : UInt64) | ref (a : Addr) | ty (n : String)
  deriving DecidableEq
def RelV : V → Value → Prop
  | .non, u => u = Value.none
  | .bl b, u => u = Value.bool b
  | .int i, u => ∃ t, u = Value.int i t
  | .str x, u => ∃ t, u = Value.str x t
  | .byt b, u => ∃ t, u = Value.bytes b t
  | .flt b, u => ∃ t, u = Value.float b t
  | .ref a, u => u = Value.ref a
  | .ty n, u => u = Value.type n
abbrev Vals : List V → List Value → Prop := Paired RelV
theorem Vals.length {xs : List V} {us : List Value} (r : Vals xs us) : xs.length = us.length := Paired.length r
theorem Vals.get : ∀ {xs : List V} {us : List Value} {i : Nat} {x : V}, Vals xs us → xs[i]? = some x → ∃ u, us[i]? = some u ∧ RelV x u
  | _, _, _, _, .nil, e => by simp at e
  | _, _, 0, _, .cons r _, e => by simp at e; subst e; exact ⟨_, rfl, r⟩
  | _, _, i + 1, x, .cons _ t, e => by
    obtain ⟨u, h1, h2⟩ := Vals.get (i := i) (x := x) t (by simpa using e)
    exact ⟨u, by simpa using h1, h2⟩
theorem Vals.set {x : V} {u : Value} (r : RelV x u) : ∀ {xs : List V} {us : List Value} (i : Nat), Vals xs us → Vals (xs.set i x) (us.set i u)
  | _, _, _, .nil => .nil
  | _, _, 0, .cons _ t => .cons r t
  | _, _, i + 1, .cons q t => .cons q (Vals.set r i t)
theorem Vals.append : ∀ {xs ys : List V} {us ws : List Value}, Vals xs us → Vals ys ws → Vals (xs ++ ys) (us ++ ws)
  | _, _, _, _, .nil, s => s
  | _, _, _, _, .cons r t, s => .cons r (Vals.append t s)
theorem Vals.take : ∀ {xs : List V} {us : List Value} (n : Nat), Vals xs us → Vals (xs.take n) (us.take n)
  | _, _, 0, _ => .nil
  | _, _, _ + 1, .nil => .nil
  | _, _, n + 1, .cons r t => .cons r (Vals.take n t)
theorem Vals.drop : ∀ {xs : List V} {us : List Value} (n : Nat), Vals xs us → Vals (xs.drop n) (us.drop n)
  | _, _, 0, r => r
  | _, _, _ + 1, .nil => .nil
  | _, _, n + 1, .cons _ t => Vals.drop n t
def RelO : Option V → Option Value → Prop
  | some v, some u => RelV v u
  | none, none => True
  | _, _ => False
def KV {κ : Type} : List (κ × V) → List (κ × Value) → Prop := Paired fun (p : κ × V) (q : κ × Value) => p.1 = q.1 ∧ RelV p.2 q.2
def kV : Key → V
  | .inl i => .int i
  | .inr x => .str x
inductive HO where
  | lst (xs : List V)
  | tup (xs : List V)
  | dK (kvs : List (Key × V)) | dT (kvs : List (List Key × V))
  | set (S : Int → Bool) (n : Nat)
  | ins (C dx : Addr) (fs : List (Str × V))
  | own (x : Addr)
  | xd (fs : List (Str × V))
  | met (f x : Addr)
  | rng (lo hi : Int)
  | frz (o : Obj) (u : HO)
  | tbl (ps : Array Value)
  | ext (φ : Heap → Prop)
abbrev Hp := Addr → Option HO
def upd (H : Hp) (a : Addr) (o : HO) : Hp := fun b => if b = a then some o else H b
theorem upd_same {H : Hp} {a : Addr} {o : HO} : upd H a o a = some o := by unfold upd; rw [if_pos rfl]
theorem upd_ne {H : Hp} {a b : Addr} {o : HO} (h : b ≠ a) : upd H a o b = H b := by unfold upd; rw [if_neg h]
theorem ne_of_none {H : Hp} {a b : Addr} {o : HO} (h : H a = some o) (h' : H b = none) : a ≠ b := by
  intro e; subst e; rw [h] at h'; cases h'
section
variable (P : Program) (w : World)
def ObjOk (H : Hp) (h : Heap) (a : Addr) : HO → Prop
  | .lst xs => xs.length ≤ sizeLine ∧ ∃ (its : List Value) (n : Nat), Vals xs its ∧ h.get? a = some { cls := .type "list", data := .seq its.toArray n }
  | .tup xs => xs.length ≤ sizeLine ∧ ∃ its : List Value, Vals xs its ∧ IsTup h a its.toArray
  | .dK kvs => kvs.length ≤ sizeLine ∧ (a == sysModules) = false ∧ ∃ vs, KV kvs vs ∧ h.DictOf (mixKind P w) a vs
  | .dT kvs => kvs.length ≤ sizeLine ∧ (a == sysModules) = false ∧ ∃ xs : List (List Key × Addr × Value),
      Paired (fun (p : List Key × V) (q : List Key × Addr × Value) => p.1 = q.1 ∧ H q.2.1 = some (.tup (p.1.map kV)) ∧ RelV p.2 q.2.2) kvs xs ∧
      ∃ o es ep, h.get? a = some o ∧ o.ExactDict ∧ o.data = .dict es ep ∧ es.toList = xs.map (entryOfKey (tupleKind (mixKind P w))) ∧ (xs.map (·.1)).Nodup
  | .set S n => h.SetOf (intKind P w) a S n
  | .ins C dx fs => H dx = some (.own a) ∧ fs.length ≤ 1000 ∧ dx ≠ a ∧ h.get? a = some (PySem.W.instObj C dx) ∧
      ∃ mA, h.Ns1 dx mA ∧ (∀ f, RelO (fs.lookup f) (mA f)) ∧ PySem.Within mA (fs.map (·.1))
  | .own _ => ∃ o, h.get? a = some o
  | .xd fs => ∃ mA, h.Ns1 a mA ∧ ∀ f, RelO (fs.lookup f) (mA f)
  | .rng lo hi => ∃ t u v, h.get? a = some { cls := .type "range", data := .fields #[.int lo t, .int hi u, .int 1 v] }
  | .frz o u => h.get? a = some o ∧ ObjOk H h a u
  | .tbl ps => h.get? a = some { cls := .none, data := .fields ps }
  | .met f x => h.get? a = some (PySem.W.methodObj (.ref f) (.ref x))
  | .ext φ => φ h ∧ (∃ o, h.get? a = some o) ∧ ∀ h1 h2 : Heap, φ h1 → (∀ o, h1.get? a = some o → h2.get? a = some o) → φ h2
def HOk (H : Hp) (h : Heap) : Prop := ∀ a o, H a = some o → ObjOk P w H h a o
end
section
variable {P : Program} {w : World} {H H' : Hp} {h h' : Heap} {a : Addr} {o : HO}
theorem ObjOk.lt (x : ObjOk P w H h a o) : a < h.objs.size := by
  cases o with
  | lst xs => obtain ⟨_, _, _, _, e⟩ := x; exact Heap.lt_size e
  | tup xs => obtain ⟨_, _, _, p⟩ := x; exact p.lt
  | dK kvs => obtain ⟨_, _, _, _, o, _, _, e, _⟩ := x; exact Heap.lt_size e
  | dT kvs => obtain ⟨_, _, _, _, o, _, _, e, _⟩ := x; exact Heap.lt_size e
  | set S n => obtain ⟨o, _, _, _, e, _⟩ := x; exact Heap.lt_size e
  | ins C dx fs => obtain ⟨_, _, _, e, _⟩ := x; exact Heap.lt_size e
  | own y => obtain ⟨_, e⟩ := x; exact Heap.lt_size e
  | xd fs => obtain ⟨_, ⟨_, _, _, e, _⟩, _⟩ := x; exact Heap.lt_size e
  | rng lo hi => obtain ⟨_, _, _, e⟩ := x; exact Heap.lt_size e
  | frz ob u => obtain ⟨e, _⟩ := x; exact Heap.lt_size e
  | tbl ps => exact Heap.lt_size (show h.get? a = some _ from x)
  | met f y => exact Heap.lt_size (show h.get? a = some _ from x)
  | ext φ => obtain ⟨_, ⟨_, e⟩, _⟩ := x; exact Heap.lt_size e
theorem Paired.mapP {α β : Type} {F G : α → β → Prop} : ∀ {l₁ : List α} {l₂ : List β}, Paired F l₁ l₂ → (∀ a b, F a b → G a b) → Paired G l₁ l₂
  | _, _, .nil, _ => .nil
  | _, _, .cons r t, f => .cons (f _ _ r) (Paired.mapP t f)
theorem ObjOk.stay (x : ObjOk P w H h a o) (k : ∀ b u, (b = a ∨ H b = some (.own a)) → h.get? b = some u → h'.get? b = some u)
    (ho : ∀ b, H b = some (.own a) → H' b = some (.own a)) (ht : ∀ b xs, H b = some (.tup xs) → H' b = some (.tup xs)) : ObjOk P w H' h' a o := by
  induction o with
  | lst xs => obtain ⟨z, its, n, r, e⟩ := x; exact ⟨z, its, n, r, k _ _ (.inl rfl) e⟩
  | tup xs => obtain ⟨z, its, r, ob, e, c⟩ := x; exact ⟨z, its, r, ob, k _ _ (.inl rfl) e, c⟩
  | dK kvs => obtain ⟨z, y, vs, r, ob, es, ep, e, c⟩ := x; exact ⟨z, y, vs, r, ob, es, ep, k _ _ (.inl rfl) e, c⟩
  | dT kvs =>
    obtain ⟨z, y, xs, r, ob, es, ep, e, c⟩ := x
    exact ⟨z, y, xs, Paired.mapP r fun p q z => ⟨z.1, ht _ _ z.2.1, z.2.2⟩, ob, es, ep, k _ _ (.inl rfl) e, c⟩
  | set S n => obtain ⟨ob, es, ep, t, e, c⟩ := x; exact ⟨ob, es, ep, t, k _ _ (.inl rfl) e, c⟩
  | ins C dx fs =>
    obtain ⟨d, z, ne, e, mA, ⟨od, es, ep, e2, c⟩, r⟩ := x
    exact ⟨ho _ d, z, ne, k _ _ (.inl rfl) e, mA, ⟨od, es, ep, k _ _ (.inr d) e2, c⟩, r⟩
  | own y => obtain ⟨ob, e⟩ := x; exact ⟨ob, k _ _ (.inl rfl) e⟩
  | xd fs => obtain ⟨mA, ⟨od, es, ep, e, c⟩, r⟩ := x; exact ⟨mA, ⟨od, es, ep, k _ _ (.inl rfl) e, c⟩, r⟩
  | rng lo hi => obtain ⟨t, u, v, e⟩ := x; exact ⟨t, u, v, k _ _ (.inl rfl) e⟩
  | frz ob u ih => obtain ⟨e, q⟩ := x; exact ⟨k _ _ (.inl rfl) e, ih q⟩
  | tbl ps =>
    have e : h.get? a = some { cls := .none, data := .fields ps } := x
    show h'.get? a = some { cls := .none, data := .fields ps }
    exact k a _ (.inl rfl) e
  | met f y =>
    have e : h.get? a = some (PySem.W.methodObj (.ref f) (.ref y)) := x
    show h'.get? a = some (PySem.W.methodObj (.ref f) (.ref y))
    exact k a _ (.inl rfl) e
  | ext φ => obtain ⟨p, ⟨o, e⟩, st⟩ := x; exact ⟨st _ _ p fun o q => k _ _ (.inl rfl) q, ⟨o, k _ _ (.inl rfl) e⟩, st⟩
theorem HOk.lt (x : HOk P w H h) (e : H a = some o) : a < h.objs.size := (x a o e).lt
theorem HOk.fresh (x : HOk P w H h) (e : h.objs.size ≤ a) : H a = none := by
  cases q : H a with
  | none => rfl
  | some u => exact absurd (Nat.lt_of_lt_of_le (x.lt q) e) (Nat.lt_irrefl _)
theorem HOk.kept (x : HOk P w H h) (k : ∀ b u, h.get? b = some u → h'.get? b = some u) : HOk P w H h' := fun a o e =>
  (x a o e).stay (fun b u _ q => k b u q) (fun _ q => q) fun _ _ q => q
theorem HOk.laid (x : HOk P w H h) (k : ∀ b u, h.get? b = some u → h'.get? b = some u) (hp : h.objs.size ≤ a) (new : ObjOk P w (upd H a o) h' a o) : HOk P w (upd H a o) h' := fun b u e => by
  have hn := x.fresh hp
  by_cases hb : b = a
  · subst hb; rw [upd_same] at e; cases e; exact new
  · rw [upd_ne hb] at e
    exact (x b u e).stay (fun c v _ q => k c v q) (fun c q => by rw [upd_ne (ne_of_none q hn)]; exact q) fun c xs q => by rw [upd_ne (ne_of_none q hn)]; exact q
end
def Rd (H : Hp) (a : Addr) (u : HO) : Prop := H a = some u ∨ ∃ o, H a = some (.frz o u)
theorem Rd.ok {P : Program} {w : World} {H : Hp} {h : Heap} {a : Addr} {u : HO} (r : Rd H a u) (x : HOk P w H h) : ObjOk P w H h a u := by
  rcases r with r | ⟨o, r⟩
  · exact x a u r
  · obtain ⟨_, q⟩ := x a _ r
    exact q
def Mut : Option HO → Prop
  | some (.lst _) => True
  | some (.dK _) => True
  | some (.dT _) => True
  | some (.set _ _) => True
  | some (.ins _ _ _) => True
  | some (.ext _) => True
  | _ => False
section
variable {P : Program} {w : World} {H : Hp} {h h' : Heap} {x e : Addr} {o' : HO}
theorem HOk.write (ok : HOk P w H h) (mu : Mut (H x)) (he : e = x ∨ H e = some (.own x)) (k : ∀ b u, b ≠ e → h.get? b = some u → h'.get? b = some u) (heo : ∃ u, h'.get? e = some u)
    (new : ObjOk P w (upd H x o') h' x o') : HOk P w (upd H x o') h' := fun b u q => by
  have nown : ∀ c y, H c = some (.own y) → c ≠ x := fun c y r z => by subst z; rw [r] at mu; exact mu
  have ntup : ∀ c xs, H c = some (.tup xs) → c ≠ x := fun c xs r z => by subst z; rw [r] at mu; exact mu
  by_cases hb : b = x
  · subst hb; rw [upd_same] at q; cases q; exact new
  · rw [upd_ne hb] at q
    by_cases hbe : b = e
    · have q' : H b = some (.own x) := by
        rcases he with z | z
        · exact absurd (hbe.trans z) hb
        · rw [hbe]; exact z
      rw [q] at q'; cases q'
      obtain ⟨v, hv⟩ := heo
      exact ⟨v, by rw [hbe]; exact hv⟩
    · refine (ok b u q).stay (fun c v hc r => k c v ?_ r) (fun c r => by rw [upd_ne (nown c b r)]; exact r) fun c xs r => by rw [upd_ne (ntup c xs r)]; exact r
      rcases hc with rfl | hc
      · exact hbe
      · rintro rfl
        rcases he with z | z
        · exact nown c b hc z
        · rw [hc] at z; cases z; exact hb rfl
end
structure Un (fs ex : List Addr) (H H' : Hp) (h h' : Heap) : Prop where
  keep : ∀ b o, h.get? b = some o → H b = none → b ∉ fs → b ∉ ex → h'.get? b = some o
  slot : ∀ b o, h.get? b = some o → H b = none → b ∈ fs → b ∉ ex → ∃ sl, h'.get? b = some { o with slots := sl }
  free : ∀ b o, h.get? b = some o → H b = none → b ∉ ex → H' b = none
  there : ∀ b o, h.get? b = some o → b ∉ ex → ∃ o', h'.get? b = some o'
  tups : ∀ b xs, H b = some (.tup xs) → H' b = some (.tup xs)
  frzs : ∀ b o u, H b = some (.frz o u) → H' b = some (.frz o u)
  tbls : ∀ b ps, H b = some (.tbl ps) → ∃ more, H' b = some (.tbl (ps ++ more))
section
variable {fs fs' ex ex' : List Addr} {H H1 H2 : Hp} {h h1 h2 h' : Heap} {a x e : Addr} {o : HO}
theorem Un.any (u : Un fs ex H H1 h h1) {b : Addr} {ob : Obj} (q : h.get? b = some ob) (n : H b = none) (hx : b ∉ ex) : ∃ sl, h1.get? b = some { ob with slots := sl } := by
  by_cases hb : b ∈ fs
  · exact u.slot b ob q n hb hx
  · exact ⟨ob.slots, u.keep b ob q n hb hx⟩
theorem Un.kept (k : ∀ b u, h.get? b = some u → h'.get? b = some u) : Un fs ex H H h h' :=
  ⟨fun b ob q _ _ _ => k b ob q, fun b ob q _ _ _ => ⟨ob.slots, k b ob q⟩, fun _ _ _ n _ => n, fun b ob q _ => ⟨ob, k b ob q⟩, fun _ _ q => q, fun _ _ _ q => q, fun _ ps q => ⟨#[], by rw [q]; simp⟩⟩
theorem Un.refl : Un fs ex H H h h := Un.kept fun _ _ q => q
theorem Un.laid (k : ∀ b u, h.get? b = some u → h'.get? b = some u) (hp : h.objs.size ≤ a) (hn : H a = none) : Un fs ex H (upd H a o) h h' where
  keep := fun b u q _ _ _ => k b u q
  slot := fun b u q _ _ _ => ⟨u.slots, k b u q⟩
  free := fun b u q n _ => by rw [upd_ne (Nat.ne_of_lt (Nat.lt_of_lt_of_le (Heap.lt_size q) hp))]; exact n
  there := fun b u q _ => ⟨u, k b u q⟩
  tups := fun b xs q => by rw [upd_ne (ne_of_none q hn)]; exact q
  frzs := fun b u xs q => by rw [upd_ne (ne_of_none q hn)]; exact q
  tbls := fun b ps q => ⟨#[], by rw [upd_ne (ne_of_none q hn), q]; simp⟩
theorem Un.write (mu : Mut (H x)) (he : e = x ∨ H e = some (.own x)) (k : ∀ b u, b ≠ e → h.get? b = some u → h'.get? b = some u) (heo : ∃ u, h'.get? e = some u) : Un fs ex H (upd H x o) h h' := by
  have hx : ∀ b, H b = none → b ≠ x := fun b n z => by subst z; rw [n] at mu; exact mu
  have hb : ∀ b, H b = none → b ≠ e := fun b n z => by
    subst z
    rcases he with r | r
    · exact hx b n r
    · rw [n] at r; cases r
  have hm : ∀ b u, H b = some u → ¬ Mut (some u) → b ≠ x := fun b u q nm z => by subst z; rw [q] at mu; exact nm mu
  refine ⟨fun b u q n _ _ => k b u (hb b n) q, fun b u q n _ _ => ⟨u.slots, k b u (hb b n) q⟩, fun b u q n _ => by rw [upd_ne (hx b n)]; exact n, fun b u q _ => ?_,
    fun b xs q => by rw [upd_ne (hm b _ q fun z => z)]; exact q, fun b u xs q => by rw [upd_ne (hm b _ q fun z => z)]; exact q, fun b ps q => ⟨#[], by rw [upd_ne (hm b _ q fun z => z), q]; simp⟩⟩
  by_cases hbe : b = e
  · subst hbe; exact heo
  · exact ⟨u, k b u hbe q⟩
theorem Un.mono (u : Un fs ex H H1 h h1) (hs : ∀ b ∈ fs, b ∈ fs') (hx : ∀ b ∈ ex, b ∈ ex') : Un fs' ex' H H1 h h1 :=
  ⟨fun b ob q n hb he => u.keep b ob q n (fun z => hb (hs b z)) fun z => he (hx b z), fun _ _ q n _ he => u.any q n fun z => he (hx _ z), fun b ob q n he => u.free b ob q n fun z => he (hx b z), fun b ob q he => u.there b ob q fun z => he (hx b z), u.tups, u.frzs, u.tbls⟩
end
def trk (h : Heap) (H : Hp) : List Addr := (List.range h.objs.size).filter fun a => (H a).isSome
def hidT (h : Heap) (H : Hp) : Heap := PySem.W.hideAll h (trk h H)
theorem hidT_size (h : Heap) (H : Hp) : (hidT h H).objs.size = h.objs.size := PySem.W.hideAll_size _ _
theorem hidT_get {h : Heap} {H : Hp} {b : Addr} {o : Obj} (e : h.get? b = some o) (n : H b = none) : (hidT h H).get? b = some o :=
  PySem.W.hideAll_get _ e fun hm => by
    have q : (H b).isSome = true := (List.mem_filter.mp hm).2
    rw [n] at q; simp at q
theorem of_hidT {h : Heap} {H : Hp} {b : Addr} {o : Obj} (e : (hidT h H).get? b = some o) : h.get? b = some o ∧ H b = none := by
  have e' : h.get? b = some o := PySem.W.of_hideAll (trk h H) e
  refine ⟨e', ?_⟩
  cases q : H b with
  | none => rfl
  | some x =>
    have hm : b ∈ trk h H := List.mem_filter.mpr ⟨List.mem_range.mpr (Heap.lt_size e'), by simp [q]⟩
    have z : (hidT h H).get? b = none := PySem.W.hideAll_none (trk h H) hm
    rw [z] at e; cases e
def allNews (g h : Heap) (L : Addr) : List (Addr × Obj) := (List.range h.objs.size).filterMap fun a => if a = L ∨ (g.get? a).isSome = true then none else (h.get? a).map fun o => (a, o)
def rest (g h : Heap) (L d : Addr) : List (Addr × Obj) := (allNews g h L).filter fun p => decide (p.1 ≠ d)
open PySem PySem.Spec PyProof.Rows
structure Mod (K : PySem.W.Frag) (mg : Str → Option Value) (base : Heap) : Prop where
  kin : K.In base
  glob : base.Ns mainGlobals mg
  blt : ∃ mb, base.Ns builtinsNs mb ∧ ∀ x : Str, x ≠ "__name__" → mb x = bootBuiltins x
  nolimit : base.NoLimit
structure Cx where
  prog : Program
  w : World
  K : PySem.W.Frag
  mg : Str → Option Value
  base : Heap
  A : Around
  N : List Str
  s₀ : Shared
  H₀ : Hp
  env : Env
  outer : List Env
  stack : List Env
  ex : List Addr
  fn : Str → Bool
  calm : Bool
  pn : List (Addr × Obj)
  xe : Value → Shared → Prop
def frs (l : List Env) : List Addr := l.filterMap (·.frame)
abbrev Cx.fs (X : Cx) : List Addr := frs X.outer
def Vis (sc : Scope) (x : Str) : Prop := sc.names.lookup x = some .local ∨ sc.names.lookup x = some .cell ∨ sc.names.lookup x = some .free
def Loc (sc : Scope) (x : Str) : Prop := sc.names.lookup x = some .local ∨ sc.names.lookup x = some .cell
def Look (env : Env) (h : Heap) (m : Str → Option Value) (x : Str) (u : Value) : Prop :=
  (env.kindOf x = some .local ∧ m x = some u) ∨ ((env.kindOf x = some .cell ∨ env.kindOf x = some .free) ∧ ∃ c, env.cells.lookup x = some c ∧ h.IsCell c (some u))
structure Cx.Ok (X : Cx) : Prop where
  mod : Mod X.K X.mg X.base
  kind : X.env.scope.kind = .function
  glob : X.env.globals = mainGlobals
  blt : X.env.builtins = builtinsNs
  above : X.s₀.heap.objs.size ≤ X.env.locals
  inj : ∀ x y c, X.env.cells.lookup x = some c → X.env.cells.lookup y = some c → x = y
  has : ∀ x, (X.env.kindOf x = some .cell ∨ X.env.kindOf x = some .free) → ∃ c, X.env.cells.lookup x = some c
  cab : ∀ x c, X.fn x = true → X.env.cells.lookup x = some c → X.s₀.heap.objs.size ≤ c
  hd : X.calm = true → X.A.handled = none
  frames : X.A.frames = some X.stack
  stk : X.stack = X.outer ∨ (X.stack = X.env :: X.outer ∧ X.env.frame = some X.env.locals)
  exf : ∀ b ∈ X.ex, b ≠ X.env.locals ∧ ∀ x c, X.env.cells.lookup x = some c → c ≠ b
  bs : ∀ b o, X.base.get? b = some o → X.s₀.heap.get? b = some o ∧ X.H₀ b = none
  bsz : X.base.objs.size ≤ X.s₀.heap.objs.size
  noex : ∀ b o, X.base.get? b = some o → b ∉ X.ex
  exfs : ∀ b ∈ X.ex, b ∉ X.fs
  funs : X.s₀.heap.FunFrames X.base X.outer
  frf : ∀ b ∈ X.fs, X.H₀ b = none
structure Inv (X : Cx) (pins : List (Addr × Obj)) (σ : List (Option V)) (H : Hp) (s : Shared) : Prop where
  ok : X.Ok
  os : s.os = X.s₀.os
  bare : AllBare s.gens
  base : Un X.fs X.ex X.H₀ H X.s₀.heap s.heap
  loc : ∃ m, s.heap.Ns X.env.locals m ∧ ∀ (i : Nat) (x : Str) (v : V), X.N[i]? = some x → σ[i]? = some (some v) → Vis X.env.scope x → ∃ u, RelV v u ∧ Look X.env s.heap m x u
  cell : ∀ x c, X.env.cells.lookup x = some c → ∃ v, s.heap.IsCell c v
  free : H X.env.locals = none
  freeC : ∀ x c, X.env.cells.lookup x = some c → H c = none
  pin : ∀ p ∈ X.pn ++ pins, s.heap.get? p.1 = some p.2 ∧ H p.1 = none ∧ p.1 ≠ X.env.locals ∧ p.1 ∉ X.fs ∧ ∀ v, p.2.data ≠ .cell v
  hok : HOk X.prog X.w H s.heap
  len : σ.length = X.N.length
section
variable {X : Cx} {pins : List (Addr × Obj)} {σ : List (Option V)} {H H' : Hp} {s : Shared} {h' : Heap}
theorem Cx.Ok.nofr (ok : X.Ok) {b : Addr} {o : Obj} (e : X.base.get? b = some o) : b ∉ X.fs := fun hb => by
  have := (ok.funs.mem hb).1
  rw [e] at this; cases this
theorem Inv.bs (I : Inv X pins σ H s) : ∀ b o, X.base.get? b = some o → s.heap.get? b = some o ∧ H b = none := fun b o e =>
  ⟨I.base.keep b o (I.ok.bs b o e).1 (I.ok.bs b o e).2 (I.ok.nofr e) (I.ok.noex b o e), I.base.free b o (I.ok.bs b o e).1 (I.ok.bs b o e).2 (I.ok.noex b o e)⟩
theorem Inv.bk (I : Inv X pins σ H s) : ∀ b o, X.base.get? b = some o → s.heap.get? b = some o := fun b o e => (I.bs b o e).1
theorem Inv.mod (I : Inv X pins σ H s) : Mod X.K X.mg X.base := I.ok.mod
theorem Inv.kIn (I : Inv X pins σ H s) : X.K.In s.heap := I.ok.mod.kin.keeps I.bk
theorem Inv.fr (I : Inv X pins σ H s) : ∃ m, Fr X.base X.env.locals s.heap m :=
  let ⟨m, hn, _⟩ := I.loc
  ⟨m, hn, I.bk, Nat.le_trans I.ok.bsz I.ok.above⟩
theorem Inv.lt (I : Inv X pins σ H s) : X.env.locals < s.heap.objs.size := let ⟨_, hn, _⟩ := I.loc; hn.lt
theorem Inv.sz (I : Inv X pins σ H s) : X.s₀.heap.objs.size ≤ s.heap.objs.size := Nat.le_trans I.ok.above (Nat.le_of_lt I.lt)
theorem Inv.nofs (I : Inv X pins σ H s) {a : Addr} (h : s.heap.objs.size ≤ a) : a ∉ X.fs := fun hb => by
  obtain ⟨_, o, ho, _⟩ := I.ok.funs.mem hb
  exact absurd (Nat.lt_of_lt_of_le (Heap.lt_size ho) (Nat.le_trans I.sz h)) (Nat.lt_irrefl _)
theorem Inv.cne (I : Inv X pins σ H s) : ∀ x c, X.env.cells.lookup x = some c → c ≠ X.env.locals := fun x c e z => by
  obtain ⟨v, o, ho, hd⟩ := I.cell x c e
  obtain ⟨m, ⟨o', es, ep, ho', hd', _⟩, _⟩ := I.loc
  rw [z, ho'] at ho; cases ho; rw [hd'] at hd; cases hd
theorem Inv.funs (I : Inv X pins σ H s) : s.heap.FunFrames X.base X.outer := by
  have all : ∀ (l : List Env), (∀ b ∈ frs l, b ∈ X.fs) → X.s₀.heap.FunFrames X.base l → s.heap.FunFrames X.base l := by
    intro l
    induction l with
    | nil => intro _ _; trivial
    | cons env r ih =>
      intro hs hl
      obtain ⟨hk, ⟨L, o, hf, hn, ho, hd⟩, hr⟩ := hl
      have hL : L ∈ X.fs := hs L (by unfold frs; rw [List.filterMap_cons, hf]; exact List.mem_cons_self)
      obtain ⟨sl, e⟩ := I.base.slot L o ho (I.ok.frf L hL) hL fun z => I.ok.exfs L z hL
      exact ⟨hk, ⟨L, _, hf, hn, e, hd⟩, ih (fun b hb => hs b (by unfold frs; rw [List.filterMap_cons, hf]; exact List.mem_cons_of_mem _ hb)) hr⟩
  exact all X.outer (fun _ hb => hb) I.ok.funs
theorem Inv.stack (I : Inv X pins σ H s) : s.heap.FunFrames X.base X.stack := by
  rcases I.ok.stk with e | ⟨e, hf⟩
  · rw [e]; exact I.funs
  · rw [e]
    obtain ⟨m, hn, _⟩ := I.loc
    refine .cons (by rw [I.ok.kind]; decide) hf hn ?_ I.funs
    exact Heap.get?_none_of_le (Nat.le_trans I.ok.bsz I.ok.above)
theorem Inv.stkSub (I : Inv X pins σ H s) : ∀ b ∈ frs X.stack, b ∈ X.env.locals :: X.fs := fun b hb => by
  rcases I.ok.stk with e | ⟨e, hf⟩
  · rw [e] at hb; exact List.mem_cons_of_mem _ hb
  · rw [e] at hb
    unfold frs at hb
    rw [List.filterMap_cons, hf] at hb
    exact hb
theorem Inv.stkFree (I : Inv X pins σ H s) : ∀ b ∈ frs X.stack, H b = none := fun b hb => by
  rcases List.mem_cons.mp (I.stkSub b hb) with e | hb
  · rw [e]; exact I.free
  · obtain ⟨_, o, ho, _⟩ := I.ok.funs.mem hb
    exact I.base.free b o ho (I.ok.frf b hb) fun z => I.ok.exfs b z hb
theorem Inv.step {g' : Array GenState} {t' : Nat} {d' : Drawn} {ch : List Addr} (I : Inv X pins σ H s)
    (hch : ∀ b ∈ ch, (b ∈ X.ex ∨ X.s₀.heap.objs.size ≤ b) ∧ b ≠ X.env.locals ∧ (∀ x c, X.env.cells.lookup x = some c → c ≠ b) ∧ ∀ p ∈ X.pn ++ pins, p.1 ≠ b)
    (keep : ∀ b o, b ≠ X.env.locals → b ∉ X.fs → b ∉ ch → s.heap.get? b = some o → H b = none → h'.get? b = some o)
    (slot : ∀ b o, b ≠ X.env.locals → b ∈ X.fs → b ∉ ch → s.heap.get? b = some o → H b = none → ∃ sl, h'.get? b = some { o with slots := sl }) (free : ∀ b o, b ∉ ch → s.heap.get? b = some o → H b = none → H' b = none)
    (there : ∀ b o, b ∉ ch → s.heap.get? b = some o → ∃ o', h'.get? b = some o')
    (tups : ∀ b xs, H b = some (.tup xs) → H' b = some (.tup xs)) (frzs : ∀ b o u, H b = some (.frz o u) → H' b = some (.frz o u)) (tbls : ∀ b ps, H b = some (.tbl ps) → ∃ more, H' b = some (.tbl (ps ++ more)))
    (ns : ∀ m, s.heap.Ns X.env.locals m → h'.Ns X.env.locals m) (hok : HOk X.prog X.w H' h') (hg : AllBare g') :
    Inv X pins σ H' { s with heap := h', gens := g', drawn := d', toks := t' } := by
  have neL : ∀ b o, X.s₀.heap.get? b = some o → b ≠ X.env.locals := fun b o e => Nat.ne_of_lt (Nat.lt_of_lt_of_le (Heap.lt_size e) I.ok.above)
  have neC : ∀ b o, X.s₀.heap.get? b = some o → b ∉ X.ex → b ∉ ch := fun b o e hx hb => by
    rcases (hch b hb).1 with z | z
    · exact hx z
    · exact absurd (Nat.lt_of_lt_of_le (Heap.lt_size e) z) (Nat.lt_irrefl _)
  have cellK : ∀ x c, X.env.cells.lookup x = some c → ∀ v, s.heap.IsCell c v → h'.IsCell c v := fun x c e v ⟨o, ho, hd⟩ => by
    have nch : c ∉ ch := fun z => (hch c z).2.2.1 x c e rfl
    by_cases hc : c ∈ X.fs
    · obtain ⟨sl, q⟩ := slot c o (I.cne x c e) hc nch ho (I.freeC x c e)
      exact ⟨_, q, hd⟩
    · exact ⟨o, keep c o (I.cne x c e) hc nch ho (I.freeC x c e), hd⟩
  refine ⟨I.ok, I.os, hg, ⟨fun b o e n hb hx => ?_, fun b o e n hb hx => ?_, fun b o e n hx => ?_, fun b o e hx => ?_, fun b xs e => tups b xs (I.base.tups b xs e), fun b o xs e => frzs b o xs (I.base.frzs b o xs e), fun b ps e => ?_⟩, ?_, fun x c e => ?_, ?_, fun x c e => ?_, fun p hp => ?_, hok, I.len⟩
  · exact keep b o (neL b o e) hb (neC b o e hx) (I.base.keep b o e n hb hx) (I.base.free b o e n hx)
  · obtain ⟨sl, e1⟩ := I.base.slot b o e n hb hx
    obtain ⟨sl', e2⟩ := slot b _ (neL b o e) hb (neC b o e hx) e1 (I.base.free b o e n hx)
    exact ⟨sl', e2⟩
  · obtain ⟨o', e1⟩ := I.base.there b o e hx
    exact free b o' (neC b o e hx) e1 (I.base.free b o e n hx)
  · obtain ⟨o', e1⟩ := I.base.there b o e hx
    exact there b o' (neC b o e hx) e1
  · obtain ⟨m1, e1⟩ := I.base.tbls b ps e
    obtain ⟨m2, e2⟩ := tbls b _ e1
    exact ⟨m1 ++ m2, by rw [e2, Array.append_assoc]⟩
  · obtain ⟨m, hn, hl⟩ := I.loc
    refine ⟨m, ns m hn, fun i x v e1 e2 e3 => ?_⟩
    obtain ⟨u, r, l⟩ := hl i x v e1 e2 e3
    refine ⟨u, r, ?_⟩
    rcases l with l | ⟨k, c, e, z⟩
    · exact .inl l
    · exact .inr ⟨k, c, e, cellK x c e _ z⟩
  · obtain ⟨v, z⟩ := I.cell x c e
    exact ⟨v, cellK x c e v z⟩
  · obtain ⟨m, ⟨o, _, _, ho, _⟩, _⟩ := I.loc
    exact free _ o (fun z => (hch _ z).2.1 rfl) ho I.free
  · obtain ⟨v, o, ho, hd⟩ := I.cell x c e
    exact free c o (fun z => (hch c z).2.2.1 x c e rfl) ho (I.freeC x c e)
  · obtain ⟨e, n, ne, nf, d⟩ := I.pin p hp
    have nch : p.1 ∉ ch := fun z => (hch p.1 z).2.2.2 p hp rfl
    exact ⟨keep p.1 p.2 ne nf nch e n, free p.1 p.2 nch e n, ne, nf, d⟩
theorem Inv.un {t' : Nat} (I : Inv X pins σ H s) (u : Un X.fs [] H H' s.heap h') (hok : HOk X.prog X.w H' h') : Inv X pins σ H' { s with heap := h', toks := t' } := by
  obtain ⟨m, ⟨o, es, ep, ho, r⟩, _⟩ := id I.loc
  obtain ⟨sl, hL⟩ := u.any ho I.free (by simp)
  exact I.step (g' := s.gens) (d' := s.drawn) (ch := []) (fun _ z => nomatch z) (fun b o _ hb _ e n => u.keep b o e n hb (by simp)) (fun b o _ hb _ e n => u.slot b o e n hb (by simp)) (fun b o _ e n => u.free b o e n (by simp)) (fun b o _ e => u.there b o e (by simp)) u.tups u.frzs u.tbls (fun m' hm => by
    obtain ⟨o', es', ep', ho', r'⟩ := hm
    rw [ho] at ho'; cases ho'
    exact ⟨_, es', ep', hL, r'⟩) hok I.bare
theorem Inv.call {g' : Array GenState} {t' : Nat} {d' : Drawn} {ch : List Addr} (I : Inv X pins σ H s) (u : Un (frs X.stack) ch H H' s.heap h') (hok : HOk X.prog X.w H' h') (hg : AllBare g')
    (hch : ∀ b ∈ ch, (b ∈ X.ex ∨ X.s₀.heap.objs.size ≤ b) ∧ b ≠ X.env.locals ∧ (∀ x c, X.env.cells.lookup x = some c → c ≠ b) ∧ ∀ p ∈ X.pn ++ pins, p.1 ≠ b) :
    Inv X pins σ H' { s with heap := h', gens := g', drawn := d', toks := t' } := by
  obtain ⟨m, ⟨o, es, ep, ho, r⟩, _⟩ := id I.loc
  obtain ⟨sl, hL⟩ := u.any ho I.free fun z => (hch _ z).2.1 rfl
  exact I.step (ch := ch) hch (fun b o hL hb hc e n => u.keep b o e n (fun z => (List.mem_cons.mp (I.stkSub b z)).elim hL hb) hc) (fun b o _ _ hc e n => u.any e n hc) (fun b o hc e n => u.free b o e n hc) (fun b o hc e => u.there b o e hc) u.tups u.frzs u.tbls (fun m' hm => by
    obtain ⟨o', es', ep', ho', r'⟩ := hm
    rw [ho] at ho'; cases ho'
    exact ⟨_, es', ep', hL, r'⟩) hok hg
theorem Inv.turned {t' : Nat} {it : Addr} (I : Inv X pins σ H s) (k : ∀ b o, b ≠ it → s.heap.get? b = some o → h'.get? b = some o) (hn : H it = none) (hL : it ≠ X.env.locals)
    (h1 : it ∈ X.ex ∨ X.s₀.heap.objs.size ≤ it) (h2 : ∀ x c, X.env.cells.lookup x = some c → c ≠ it) (h3 : ∀ p ∈ X.pn ++ pins, p.1 ≠ it) : Inv X pins σ H { s with heap := h', toks := t' } := by
  have nit : ∀ b u, H b = some u → b ≠ it := fun b u e z => by rw [z, hn] at e; cases e
  refine I.step (g' := s.gens) (d' := s.drawn) (ch := [it]) (fun b hb => ?_) (fun b o _ _ hc e _ => k b o (fun z => hc (by simp [z])) e) (fun b o _ _ hc e _ => ⟨o.slots, k b o (fun z => hc (by simp [z])) e⟩) (fun _ _ _ _ n => n)
    (fun b o hc e => ⟨o, k b o (fun z => hc (by simp [z])) e⟩) (fun _ _ e => e) (fun _ _ _ e => e) (fun b ps e => ⟨#[], by rw [e]; simp⟩) (fun m hm => ?_) (fun b u e => ?_) I.bare
  · have e : b = it := by simpa using hb
    subst e
    exact ⟨h1, hL, h2, h3⟩
  · obtain ⟨o, es, ep, ho, r⟩ := hm
    exact ⟨o, es, ep, k _ o (Ne.symm hL) ho, r⟩
  · refine (I.hok b u e).stay (fun c v hc q => k c v ?_ q) (fun _ q => q) fun _ _ q => q
    rcases hc with z | z
    · rw [z]; exact nit b u e
    · exact nit c _ z
theorem Inv.tok (I : Inv X pins σ H s) (t : Nat) : Inv X pins σ H { s with toks := t } := I.un (h' := s.heap) (t' := t) Un.refl I.hok
theorem Inv.kept {t' : Nat} (I : Inv X pins σ H s) (k : ∀ b u, s.heap.get? b = some u → h'.get? b = some u) : Inv X pins σ H { s with heap := h', toks := t' } := I.un (Un.kept k) (I.hok.kept k)
theorem Inv.laid {a : Addr} {o : HO} {t' : Nat} (I : Inv X pins σ H s) (k : ∀ b u, s.heap.get? b = some u → h'.get? b = some u) (hp : s.heap.objs.size ≤ a) (new : ObjOk X.prog X.w (upd H a o) h' a o) :
    Inv X pins σ (upd H a o) { s with heap := h', toks := t' } := I.un (Un.laid k hp (I.hok.fresh hp)) (I.hok.laid k hp new)
theorem Inv.write {x e : Addr} {o : HO} {t' : Nat} (I : Inv X pins σ H s) (mu : Mut (H x)) (he : e = x ∨ H e = some (.own x)) (k : ∀ b u, b ≠ e → s.heap.get? b = some u → h'.get? b = some u) (heo : ∃ u, h'.get? e = some u)
    (new : ObjOk X.prog X.w (upd H x o) h' x o) : Inv X pins σ (upd H x o) { s with heap := h', toks := t' } := I.un (Un.write mu he k heo) (I.hok.write mu he k heo new)
theorem Inv.pins_of {pins' : List (Addr × Obj)} (I : Inv X pins σ H s) (h : ∀ p ∈ pins', s.heap.get? p.1 = some p.2 ∧ H p.1 = none ∧ p.1 ≠ X.env.locals ∧ p.1 ∉ X.fs ∧ ∀ v, p.2.data ≠ .cell v) : Inv X pins' σ H s :=
  ⟨I.ok, I.os, I.bare, I.base, I.loc, I.cell, I.free, I.freeC, fun p hp => (List.mem_append.mp hp).elim (fun z => I.pin p (List.mem_append_left _ z)) (h p), I.hok, I.len⟩
theorem nodup_ix {N : List Str} (hN : N.Nodup) {i j : Nat} {x : Str} (a : N[i]? = some x) (b : N[j]? = some x) : i = j := by
  obtain ⟨h1, e1⟩ := List.getElem?_eq_some_iff.mp a
  obtain ⟨h2, e2⟩ := List.getElem?_eq_some_iff.mp b
  exact (List.getElem_inj hN).mp (e1.trans e2.symm)
theorem store_ok2 {M : Model} {A : Around} {E : Value → Shared → Prop} {i : Nat} {x : Str} {v : V} {u : Value} {Q : Unit → Shared → Prop} (I : Inv X pins σ H s) (hN : X.N.Nodup) (hi : X.N[i]? = some x) (hx : Loc X.env.scope x) (r : RelV v u)
    (h : ∀ s', Inv X pins (σ.set i (some v)) H s' → (∃ a, Heap.SameBut a s.heap s'.heap ∧ (a = X.env.locals ∨ X.env.cells.lookup x = some a)) → Q () s') (hf : X.fn x = true ∨ X.env.scope.names.lookup x = some .local := by first | exact .inl rfl | exact .inr rfl | assumption) : wpAny M A (storeName X.env x u) Q E s := by
  obtain ⟨m, hn, hl⟩ := id I.loc
  have hcls : (X.env.scope.kind == .class || (X.env.scope.kind == .module && X.env.locals != X.env.globals)) = false := by rw [I.ok.kind]; rfl
  have hiσ : i < σ.length := by rw [I.len]; exact (List.getElem?_eq_some_iff.mp hi).1
  have cne := I.cne
  have tracked : ∀ {a : Addr} {h' : Heap}, (∃ o, s.heap.get? a = some o ∧ H a = none) → Heap.SameBut a s.heap h' → HOk X.prog X.w H h' := fun {a h'} ha hs b ob e => by
    obtain ⟨_, _, hfree⟩ := ha
    refine (I.hok b ob e).stay (fun c w' hc q => (hs.2 c ?_).trans q) (fun _ q => q) fun _ _ q => q
    rintro rfl
    rcases hc with rfl | hc
    · rw [hfree] at e; cases e
    · rw [hfree] at hc; cases hc
  rcases hx with hk | hk
  · refine wpAny_storeName_local hk hn (fun h' hn' hs => ?_) hcls
    obtain ⟨oL, _, _, hoL, _⟩ := id hn
    refine h _ ⟨I.ok, I.os, I.bare, ⟨fun b o e n hb hx => ?_, fun b o e n hb hx => ?_, I.base.free, fun b o e hx => ?_, I.base.tups, I.base.frzs, I.base.tbls⟩, ⟨_, hn', fun j y v' e1 e2 e3 => ?_⟩, fun y c e => ?_, I.free, I.freeC, fun p hp => ?_, tracked ⟨oL, hoL, I.free⟩ hs, by simpa using I.len⟩ ⟨_, hs, .inl rfl⟩
    · exact (hs.2 b (Nat.ne_of_lt (Nat.lt_of_lt_of_le (Heap.lt_size e) I.ok.above))).trans (I.base.keep b o e n hb hx)
    · obtain ⟨sl, e1⟩ := I.base.slot b o e n hb hx
      exact ⟨sl, (hs.2 b (Nat.ne_of_lt (Nat.lt_of_lt_of_le (Heap.lt_size e) I.ok.above))).trans e1⟩
    · obtain ⟨o', e1⟩ := I.base.there b o e hx
      exact ⟨o', (hs.2 b (Nat.ne_of_lt (Nat.lt_of_lt_of_le (Heap.lt_size e) I.ok.above))).trans e1⟩
    · by_cases hj : j = i
      · subst hj
        rw [hi] at e1; cases e1
        rw [List.getElem?_set_self hiσ] at e2
        cases e2
        exact ⟨u, r, .inl ⟨hk, by simp⟩⟩
      · rw [List.getElem?_set_ne (Ne.symm hj)] at e2
        obtain ⟨u', r', q⟩ := hl j y v' e1 e2 e3
        refine ⟨u', r', ?_⟩
        rcases q with ⟨k, e⟩ | ⟨k, c, e, z⟩
        · refine .inl ⟨k, ?_⟩
          have : y ≠ x := fun e => hj (nodup_ix hN e1 (e ▸ hi))
          simp [this, e]
        · exact .inr ⟨k, c, e, z.sameBut hs (cne y c e)⟩
    · obtain ⟨w', z⟩ := I.cell y c e
      exact ⟨w', z.sameBut hs (cne y c e)⟩
    · obtain ⟨e, n, ne, nf, d⟩ := I.pin p hp
      exact ⟨(hs.2 p.1 ne).trans e, n, ne, nf, d⟩
  · have hfn : X.fn x = true := by
      rcases hf with z | z
      · exact z
      · rw [z] at hk; cases hk
    obtain ⟨c, hc⟩ := I.ok.has x (.inl hk)
    obtain ⟨w', z⟩ := I.cell x c hc
    refine wpAny_storeName_cell I.ok.kind hk hc z (fun h' hc' hs => ?_)
    obtain ⟨oc, hoc, hocd⟩ := id z
    refine h { s with heap := h' } ⟨I.ok, I.os, I.bare, ⟨fun b o e n hb hx => ?_, fun b o e n hb hx => ?_, I.base.free, fun b o e hx => ?_, I.base.tups, I.base.frzs, I.base.tbls⟩, ⟨m, hn.sameBut hs (Ne.symm (cne x c hc)), fun j y v' e1 e2 e3 => ?_⟩, fun y c' e => ?_, I.free, I.freeC, fun p hp => ?_, tracked ⟨oc, hoc, I.freeC x c hc⟩ hs, by simpa using I.len⟩ ⟨c, hs, .inr hc⟩
    · exact (hs.2 b (Nat.ne_of_lt (Nat.lt_of_lt_of_le (Heap.lt_size e) (I.ok.cab x c hfn hc)))).trans (I.base.keep b o e n hb hx)
    · obtain ⟨sl, e1⟩ := I.base.slot b o e n hb hx
      exact ⟨sl, (hs.2 b (Nat.ne_of_lt (Nat.lt_of_lt_of_le (Heap.lt_size e) (I.ok.cab x c hfn hc)))).trans e1⟩
    · obtain ⟨o', e1⟩ := I.base.there b o e hx
      exact ⟨o', (hs.2 b (Nat.ne_of_lt (Nat.lt_of_lt_of_le (Heap.lt_size e) (I.ok.cab x c hfn hc)))).trans e1⟩
    · by_cases hj : j = i
      · subst hj
        rw [hi] at e1; cases e1
        rw [List.getElem?_set_self hiσ] at e2
        cases e2
        exact ⟨u, r, .inr ⟨.inl hk, c, hc, hc'⟩⟩
      · rw [List.getElem?_set_ne (Ne.symm hj)] at e2
        obtain ⟨u', r', q⟩ := hl j y v' e1 e2 e3
        refine ⟨u', r', ?_⟩
        rcases q with q | ⟨k, c', e, z'⟩
        · exact .inl q
        · refine .inr ⟨k, c', e, z'.sameBut hs ?_⟩
          rintro rfl
          exact hj (nodup_ix hN e1 (I.ok.inj _ _ _ e hc ▸ hi))
    · by_cases hcc : c' = c
      · subst hcc; exact ⟨_, hc'⟩
      · obtain ⟨w2, z2⟩ := I.cell y c' e
        exact ⟨w2, z2.sameBut hs hcc⟩
    · obtain ⟨e, n, ne, nf, d⟩ := I.pin p hp
      refine ⟨(hs.2 p.1 ?_).trans e, n, ne, nf, d⟩
      intro q
      rw [q, hoc] at e
      have q' : oc = p.2 := Option.some.inj e
      exact d w' (by rw [← q']; exact hocd)
theorem store_ok {M : Model} {A : Around} {E : Value → Shared → Prop} {i : Nat} {x : Str} {v : V} {u : Value} {Q : Unit → Shared → Prop} (I : Inv X pins σ H s) (hN : X.N.Nodup) (hi : X.N[i]? = some x) (hx : Loc X.env.scope x) (r : RelV v u)
    (h : ∀ s', Inv X pins (σ.set i (some v)) H s' → Q () s') (hf : X.fn x = true ∨ X.env.scope.names.lookup x = some .local := by first | exact .inl rfl | exact .inr rfl | assumption) : wpAny M A (storeName X.env x u) Q E s :=
  store_ok2 I hN hi hx r (fun s' I' _ => h s' I') hf
theorem Inv.call' {s' : Shared} {ch : List Addr} (I : Inv X pins σ H s) (ho : s'.os = s.os) (u : Un (frs X.stack) ch H H' s.heap s'.heap) (hok : HOk X.prog X.w H' s'.heap) (hg : AllBare s'.gens)
    (hch : ∀ b ∈ ch, (b ∈ X.ex ∨ X.s₀.heap.objs.size ≤ b) ∧ b ≠ X.env.locals ∧ (∀ x c, X.env.cells.lookup x = some c → c ≠ b) ∧ ∀ p ∈ X.pn ++ pins, p.1 ≠ b) : Inv X pins σ H' s' := by
  obtain ⟨h', g', d', t', o'⟩ := s'
  have e : o' = s.os := ho
  subst e
  exact I.call (g' := g') (t' := t') (d' := d') u hok hg hch
end
abbrev XK := Value → Option Addr → Hp → Prop
abbrev St := List (Option V)
abbrev VK := V → Hp → Prop
abbrev TE := St → Hp → VK → Prop
abbrev TT := St → Hp → (Bool → Hp → Prop) → Prop
abbrev TA := St → Hp → (List V → Hp → Prop) → Prop
structure Ends where
  nx : St → Hp → Prop
  rt : VK
  bk : St → Hp → Prop := fun _ _ => False
  ct : St → Hp → Prop := fun _ _ => False
abbrev TS := Ends → St → Hp → Prop
def EP (X : Cx) (pins : List (Addr × Obj)) (σ : St) (Q : VK) (u : Value) (s' : Shared) : Prop := ∃ v H', Inv X pins σ H' s' ∧ RelV v u ∧ Q v H'
def TP (X : Cx) (pins : List (Addr × Obj)) (σ : St) (Q : Bool → Hp → Prop) (b : Bool) (s' : Shared) : Prop := ∃ H', Inv X pins σ H' s' ∧ Q b H'
def AP (X : Cx) (pins : List (Addr × Obj)) (σ : St) (Q : List V → Hp → Prop) (us : List Value) (s' : Shared) : Prop := ∃ vs H', Inv X pins σ H' s' ∧ Vals vs us ∧ Q vs H'
def SP (X : Cx) (pins : List (Addr × Obj)) (D : Ends) (f : Flow) (s' : Shared) : Prop :=
  match f with
  | .next => ∃ σ' H', Inv X pins σ' H' s' ∧ D.nx σ' H'
  | .brk => ∃ σ' H', Inv X pins σ' H' s' ∧ D.bk σ' H'
  | .cont => ∃ σ' H', Inv X pins σ' H' s' ∧ D.ct σ' H'
  | .ret u => ∃ v σ' H', Inv X pins σ' H' s' ∧ RelV v u ∧ D.rt v H'
def PE (X : Cx) (e : Expr) (t : TE) : Prop :=
  ∀ (pins : List (Addr × Obj)) (s : Shared) (σ : St) (H : Hp) (Q : VK), Inv X pins σ H s → t σ H Q → wpAny (model X.prog X.w) X.A (eval e X.env) (EP X pins σ Q) X.xe s
def PT (X : Cx) (e : Expr) (t : TT) : Prop :=
  ∀ (pins : List (Addr × Obj)) (s : Shared) (σ : St) (H : Hp) (Q : Bool → Hp → Prop), Inv X pins σ H s → t σ H Q → wpAny (model X.prog X.w) X.A (isTrue e X.env (eval e X.env)) (TP X pins σ Q) X.xe s
def PW (X : Cx) (e : Expr) (t : TT) : Prop :=
  ∀ (whole : Sem Value) (pins : List (Addr × Obj)) (s : Shared) (σ : St) (H : Hp) (Q : Bool → Hp → Prop), Inv X pins σ H s → t σ H Q → wpAny (model X.prog X.w) X.A (isTrue e X.env whole) (TP X pins σ Q) X.xe s
theorem PW.pt {X : Cx} {e : Expr} {t : TT} (h : PW X e t) : PT X e t := h _
def PA (X : Cx) (es : List Expr) (t : TA) : Prop :=
  ∀ (pos : Pos) (pins : List (Addr × Obj)) (s : Shared) (σ : St) (H : Hp) (Q : List V → Hp → Prop), Inv X pins σ H s → t σ H Q → wpAny (model X.prog X.w) X.A (spliced (backTo pos (starEach es X.env))) (AP X pins σ Q) X.xe s
def PS (X : Cx) (st : Stmt) (t : TS) : Prop :=
  ∀ (pins : List (Addr × Obj)) (s : Shared) (σ : St) (H : Hp) (D : Ends), Inv X pins σ H s → t D σ H → wpAny (model X.prog X.w) X.A (exec st X.env) (SP X pins D) X.xe s
def PSs (X : Cx) (st : List Stmt) (t : TS) : Prop :=
  ∀ (pins : List (Addr × Obj)) (s : Shared) (σ : St) (H : Hp) (D : Ends), Inv X pins σ H s → t D σ H → wpAny (model X.prog X.w) X.A (execs st X.env) (SP X pins D) X.xe s
theorem thn {α : Type} {t : Sem α} {Q Q' : α → Shared → Prop} {M : Model} {A : Around} {E : Value → Shared → Prop} {s : Shared} (h : wpAny M A t Q E s) (hQ : ∀ a s, Q a s → Q' a s) : wpAny M A t Q' E s := wpAny_mono h hQ fun _ _ x => x
open PySem PySem.Spec PyProof.Rows
section
variable {X : Cx}
def tVar (i : Nat) : TE := fun σ H Q => ∃ v, σ[i]? = some (some v) ∧ Q v H
def tC (v : V) : TE := fun _ H Q => Q v H
theorem pe_var {i : Nat} {x : Str} {pos : Pos} (hN : X.N[i]? = some x) (hv : Vis X.env.scope x) (hd : (x == ("__debug__" : Str)) = false := by decide) (hcd : (x == ("__classdict__" : Str)) = false := by decide) : PE X (.Name x pos) (tVar i) := by
  intro pins s σ H Q I h
  obtain ⟨v, e, h⟩ := h
  obtain ⟨m, hn, hl⟩ := I.loc
  obtain ⟨u, r, l⟩ := hl i x v hN e hv
  have fin : EP X pins σ Q u s := ⟨v, H, I, r, h⟩
  rcases l with ⟨hk, hm⟩ | ⟨hk, c, hc, hcell⟩
  · exact wpAny_Name (wpAny_loadName_local I.ok.kind hk hn hm fin) hd
  · rcases hk with hk | hk
    · exact wpAny_Name (wpAny_loadName_cell I.ok.kind hk hc hcell fin) hd
    · exact wpAny_Name (wpAny_loadName_free I.ok.kind hk hc hcell fin hcd) hd
theorem pe_int {i j pos} : PE X (.Constant (.int i) j pos) (tC (.int i)) := fun _ _ _ H _ I h => wpAny_Constant_int ⟨.int i, H, I.tok _, ⟨_, rfl⟩, h⟩
theorem pe_bl {b j pos} : PE X (.Constant (.bool b) j pos) (tC (.bl b)) := fun _ _ _ H _ I h => Constant_bool ⟨.bl b, H, I, rfl, h⟩
theorem pe_non {j pos} : PE X (.Constant .none j pos) (tC .non) := fun _ _ _ H _ I h => Constant_none ⟨.non, H, I, rfl, h⟩
theorem pe_str {x j pos} : PE X (.Constant (.str x) j pos) (tC (.str x)) := fun _ _ _ H _ I h => Calls.Constant_str ⟨.str x, H, I.tok _, ⟨_, rfl⟩, h⟩
def Gl (X : Cx) (x : Str) : Prop := X.env.kindOf x = some .globalImplicit
theorem ld_glob {E : Value → Shared → Prop} {pins : List (Addr × Obj)} {s : Shared} {σ : St} {H : Hp} {x : Str} {u : Value} {pos : Pos} {Q : Value → Shared → Prop} (I : Inv X pins σ H s) (hg : Gl X x) (hm : X.mg x = some u) (h : Q u s)
    (hd : (x == ("__debug__" : Str)) = false := by decide) : wpAny (model X.prog X.w) X.A (eval (.Name x pos) X.env) Q E s :=
  Calls.Name_function_global I.ok.kind hg (Calls.loadGlobal_global (by rw [I.ok.glob]; exact I.mod.glob.keeps I.bk) hm h) hd
theorem ld_blt {E : Value → Shared → Prop} {pins : List (Addr × Obj)} {s : Shared} {σ : St} {H : Hp} {x : Str} {u : Value} {pos : Pos} {Q : Value → Shared → Prop} (I : Inv X pins σ H s) (hg : Gl X x) (hm : X.mg x = none) (hv : bootBuiltins x = some u) (h : Q u s)
    (hn : x ≠ "__name__" := by decide) (hd : (x == ("__debug__" : Str)) = false := by decide) : wpAny (model X.prog X.w) X.A (eval (.Name x pos) X.env) Q E s := by
  obtain ⟨mb, h1, h2⟩ := I.mod.blt
  exact Calls.Name_function_global I.ok.kind hg (Calls.loadGlobal_builtin (by rw [I.ok.glob]; exact I.mod.glob.keeps I.bk) hm (by rw [I.ok.blt]; exact h1.keeps I.bk) ((h2 x hn).trans hv) h) hd
theorem pe_glob {x : Str} {v : V} {u : Value} {pos : Pos} (hg : Gl X x) (hm : X.mg x = some u) (r : RelV v u) (hd : (x == ("__debug__" : Str)) = false := by decide) : PE X (.Name x pos) (tC v) :=
  fun _ _ _ H _ I h => ld_glob I hg hm ⟨v, H, I, r, h⟩ hd
theorem pe_bltn {x : Str} {v : V} {u : Value} {pos : Pos} (hg : Gl X x) (hm : X.mg x = none) (hv : bootBuiltins x = some u) (r : RelV v u) (hn : x ≠ "__name__" := by decide) (hd : (x == ("__debug__" : Str)) = false := by decide) : PE X (.Name x pos) (tC v) :=
  fun _ _ _ H _ I h => ld_blt I hg hm hv ⟨v, H, I, r, h⟩ hn hd
variable {a b : Expr} {ta tb : TE} {pos : Pos}
def tB (t : TE) : TT := fun σ H Q => t σ H fun x H1 => ∃ c, x = .bl c ∧ Q c H1
theorem pt_val {e : Expr} {t : TE} (h : PE X e t) (he : ∀ whole, isTrue e X.env whole = (do let v ← whole; standAt e.pos; holding [v] (truthy v)) := by intro _; rfl) : PT X e (tB t) := by
  intro pins s σ H Q I hw
  refine isTrue_plain (thn (h pins s σ H _ I hw) fun v s1 ⟨x, H1, I1, r1, q1⟩ => ?_) (he _)
  obtain ⟨d, rfl, q⟩ := q1
  cases r1
  exact wpAny_truthy_bool ⟨H1, I1, q⟩
variable {tA tB' : TT} {rest : List Expr}
def tAnd (t u : TT) : TT := fun σ H Q => t σ H fun c H1 => if c = true then u σ H1 Q else Q false H1
def tOr (t u : TT) : TT := fun σ H Q => t σ H fun c H1 => if c = true then Q true H1 else u σ H1 Q
def tNot (t : TT) : TT := fun σ H Q => t σ H fun c H1 => Q (!c) H1
theorem pw_and1 (ha : PT X a tA) : PW X (.BoolOp .And [a] pos) tA := by
  intro wh pins s σ H Q I h
  refine isTrue_and (thn (ha pins s σ H Q I h) fun c s1 e => ?_)
  cases c with
  | true => exact isTrue_and_nil e
  | false => exact e
theorem pw_or1 (ha : PT X a tA) : PW X (.BoolOp .Or [a] pos) tA := by
  intro wh pins s σ H Q I h
  refine isTrue_or (thn (ha pins s σ H Q I h) fun c s1 e => ?_)
  cases c with
  | false => exact isTrue_or_nil e
  | true => exact e
theorem pw_and (ha : PT X a tA) (hb : PW X (.BoolOp .And (b :: rest) pos) tB') : PW X (.BoolOp .And (a :: b :: rest) pos) (tAnd tA tB') := by
  intro wh pins s σ H Q I h
  refine isTrue_and (thn (ha pins s σ H _ I h) fun c s1 ⟨H1, I1, q1⟩ => ?_)
  cases c with
  | true => exact hb wh pins s1 σ H1 Q I1 q1
  | false => exact ⟨H1, I1, q1⟩
theorem pw_or (ha : PT X a tA) (hb : PW X (.BoolOp .Or (b :: rest) pos) tB') : PW X (.BoolOp .Or (a :: b :: rest) pos) (tOr tA tB') := by
  intro wh pins s σ H Q I h
  refine isTrue_or (thn (ha pins s σ H _ I h) fun c s1 ⟨H1, I1, q1⟩ => ?_)
  cases c with
  | true => exact ⟨H1, I1, q1⟩
  | false => exact hb wh pins s1 σ H1 Q I1 q1
theorem pt_not (ha : PT X a tA) : PT X (.UnaryOp .Not a pos) (tNot tA) := by
  intro pins s σ H Q I h
  exact isTrue_not (ha pins s σ H (fun c H1 => Q (!c) H1) I h)
def tAndV (ta tb : TE) : TE := fun σ H Q => ta σ H fun x H1 => ∃ c, x = .bl c ∧ if c = true then tb σ H1 Q else Q (.bl false) H1
def tOrV (ta tb : TE) : TE := fun σ H Q => ta σ H fun x H1 => ∃ c, x = .bl c ∧ if c = true then Q (.bl true) H1 else tb σ H1 Q
def tNotV (ta : TE) : TE := fun σ H Q => ta σ H fun x H1 => ∃ c, x = .bl c ∧ Q (.bl (!c)) H1
theorem pe_one {op} {t : TE} (h : PE X a t) : PE X (.BoolOp op [a] pos) t := fun pins s σ H Q I hw => BoolOp_one (h pins s σ H Q I hw)
theorem pe_and (ha : PE X a ta) (hb : PE X (.BoolOp .And (b :: rest) pos) tb) : PE X (.BoolOp .And (a :: b :: rest) pos) (tAndV ta tb) := by
  intro pins s σ H Q I h
  refine BoolOp_and (thn (ha pins s σ H _ I h) fun v s1 ⟨x, H1, I1, r1, q1⟩ => ?_)
  obtain ⟨c, rfl, q1⟩ := q1
  cases r1
  refine wpAny_truthy_bool ?_
  cases c with
  | true => exact hb pins s1 σ H1 Q I1 q1
  | false => exact ⟨.bl false, H1, I1, rfl, q1⟩
theorem pe_or (ha : PE X a ta) (hb : PE X (.BoolOp .Or (b :: rest) pos) tb) : PE X (.BoolOp .Or (a :: b :: rest) pos) (tOrV ta tb) := by
  intro pins s σ H Q I h
  refine BoolOp_or (thn (ha pins s σ H _ I h) fun v s1 ⟨x, H1, I1, r1, q1⟩ => ?_)
  obtain ⟨c, rfl, q1⟩ := q1
  cases r1
  refine wpAny_truthy_bool ?_
  cases c with
  | false => exact hb pins s1 σ H1 Q I1 q1
  | true => exact ⟨.bl true, H1, I1, rfl, q1⟩
theorem pe_not (ha : PE X a ta) : PE X (.UnaryOp .Not a pos) (tNotV ta) := by
  intro pins s σ H Q I h
  refine UnaryOp_ (thn (ha pins s σ H _ I h) fun v s1 ⟨x, H1, I1, r1, q1⟩ => ?_)
  obtain ⟨c, rfl, q1⟩ := q1
  cases r1
  exact not_of (wpAny_truthy_bool ⟨.bl (!c), H1, I1, rfl, q1⟩)
end
open PySem PySem.Spec PyProof.Rows
def SqL (K : PySem.W.Frag) (H : Hp) (a : Addr) (xs : List V) : Prop :=
  Rd H a (.lst xs) ∨
    ∃ (o : Obj) (its : Array Value) (n : Nat), K.lookup a = some o ∧ o.cls = .type "list" ∧ o.dict = none ∧ o.data = .seq its n ∧ its.size ≤ sizeLine ∧ Vals xs its.toList
def SqT (K : PySem.W.Frag) (H : Hp) (a : Addr) (xs : List V) : Prop :=
  Rd H a (.tup xs) ∨
    ∃ (o : Obj) (its : Array Value) (n : Nat), K.lookup a = some o ∧ o.cls = .type "tuple" ∧ o.data = .seq its n ∧ its.size ≤ sizeLine ∧ Vals xs its.toList
def absV : Value → Option V
  | .none => some .non
  | .bool b => some (.bl b)
  | .int i _ => some (.int i)
  | .str x _ => some (.str x)
  | .bytes b _ => some (.byt b)
  | .float b _ => some (.flt b)
  | .ref a => some (.ref a)
  | .type n => some (.ty n)
  | _ => none
theorem RelV.abs {x : V} {u : Value} (r : RelV x u) : absV u = some x := by
  cases x with
  | non => cases r; rfl
  | bl _ => cases r; rfl
  | int _ => obtain ⟨t, rfl⟩ := r; rfl
  | str _ => obtain ⟨t, rfl⟩ := r; rfl
  | byt _ => obtain ⟨t, rfl⟩ := r; rfl
  | flt _ => obtain ⟨t, rfl⟩ := r; rfl
  | ref _ => cases r; rfl
  | ty _ => cases r; rfl
theorem RelV.inj {x y : V} {u : Value} (r : RelV x u) (q : RelV y u) : x = y := Option.some.inj (r.abs.symm.trans q.abs)
theorem Vals.inj : ∀ {xs ys : List V} {us : List Value}, Vals xs us → Vals ys us → xs = ys
  | _, _, _, .nil, .nil => rfl
  | _, _, _, .cons r t, .cons r' t' => by rw [r.inj r', Vals.inj t t']
section
variable {X : Cx} {pins : List (Addr × Obj)} {σ : St} {H : Hp} {s : Shared} {a : Addr} {xs ys : List V}
theorem SqL.of {K : PySem.W.Frag} (h : H a = some (.lst xs)) : SqL K H a xs := .inl (.inl h)
theorem SqT.of {K : PySem.W.Frag} (h : H a = some (.tup xs)) : SqT K H a xs := .inl (.inl h)
theorem Inv.list (I : Inv X pins σ H s) (h : SqL X.K H a xs) : ∃ its : List Value, Vals xs its ∧ PlainL s.heap a its.toArray ∧ xs.length ≤ sizeLine := by
  rcases h with h | ⟨o, its, n, hk, hc, hd, hs, hz, r⟩
  · obtain ⟨z, its, n, r, e⟩ := h.ok I.hok
    exact ⟨its, r, ⟨_, n, e, rfl, rfl, rfl⟩, z⟩
  · refine ⟨its.toList, r, ⟨o, n, I.kIn a o hk, hc, hd, by simpa using hs⟩, ?_⟩
    have e := r.length
    simp only [Array.length_toList] at e
    omega
theorem Inv.tuple (I : Inv X pins σ H s) (h : SqT X.K H a xs) : ∃ its : List Value, Vals xs its ∧ IsTup s.heap a its.toArray ∧ xs.length ≤ sizeLine := by
  rcases h with h | ⟨o, its, n, hk, hc, hs, hz, r⟩
  · obtain ⟨z, its, r, p⟩ := h.ok I.hok
    exact ⟨its, r, p, z⟩
  · refine ⟨its.toList, r, ⟨o, I.kIn a o hk, hc, n, by simpa using hs⟩, ?_⟩
    have e := r.length
    simp only [Array.length_toList] at e
    omega
theorem Inv.list_inj (I : Inv X pins σ H s) (h : SqL X.K H a xs) (h' : SqL X.K H a ys) : xs = ys := by
  obtain ⟨its, r, ⟨o, n, e, _, _, d⟩, _⟩ := I.list h
  obtain ⟨its', r', ⟨o', n', e', _, _, d'⟩, _⟩ := I.list h'
  rw [e] at e'; cases e'
  rw [d] at d'
  injection d' with d1 _
  have : its = its' := by simpa using congrArg Array.toList d1
  subst this
  exact r.inj r'
end
abbrev Cx.wish (X : Cx) (E : Value → Shared → Prop) : Cx := { X with xe := E }
abbrev Cx.nox (X : Cx) : Cx := X.wish fun _ _ => False
theorem Cx.Ok.wish {X : Cx} (ok : X.Ok) (E : Value → Shared → Prop) : (X.wish E).Ok :=
  ⟨ok.mod, ok.kind, ok.glob, ok.blt, ok.above, ok.inj, ok.has, ok.cab, ok.hd, ok.frames, ok.stk, ok.exf, ok.bs, ok.bsz, ok.noex, ok.exfs, ok.funs, ok.frf⟩
theorem Cx.Ok.unwish {X : Cx} {E : Value → Shared → Prop} (ok : (X.wish E).Ok) : X.Ok :=
  ⟨ok.mod, ok.kind, ok.glob, ok.blt, ok.above, ok.inj, ok.has, ok.cab, ok.hd, ok.frames, ok.stk, ok.exf, ok.bs, ok.bsz, ok.noex, ok.exfs, ok.funs, ok.frf⟩
section
variable {X : Cx} {pins : List (Addr × Obj)} {σ : St} {H : Hp} {s : Shared} {E : Value → Shared → Prop}
theorem Inv.wish (I : Inv X pins σ H s) (E : Value → Shared → Prop) : Inv (X.wish E) pins σ H s := ⟨I.ok.wish E, I.os, I.bare, I.base, I.loc, I.cell, I.free, I.freeC, I.pin, I.hok, I.len⟩
theorem Inv.unwish (I : Inv (X.wish E) pins σ H s) : Inv X pins σ H s := ⟨I.ok.unwish, I.os, I.bare, I.base, I.loc, I.cell, I.free, I.freeC, I.pin, I.hok, I.len⟩
theorem SP.unwish {D : Ends} {f : Flow} {s' : Shared} (h : SP (X.wish E) pins D f s') : SP X pins D f s' := by
  cases f with
  | next => obtain ⟨σ', H', I, q⟩ := h; exact ⟨σ', H', I.unwish, q⟩
  | brk => obtain ⟨σ', H', I, q⟩ := h; exact ⟨σ', H', I.unwish, q⟩
  | cont => obtain ⟨σ', H', I, q⟩ := h; exact ⟨σ', H', I.unwish, q⟩
  | ret u => obtain ⟨v, σ', H', I, r, q⟩ := h; exact ⟨v, σ', H', I.unwish, r, q⟩
theorem PSs.nox {st : List Stmt} {t : TS} (h : PSs X.nox st t) : PSs X st t := fun pins s σ H D I hw =>
  wpAny_mono (h pins s σ H D (I.wish _) hw) (fun _ _ q => q.unwish) fun _ _ z => False.elim z
end
section
variable {X : Cx} {st : Stmt} {rest : List Stmt} {t u : TS} {e : Expr} {te : TE} {pos : Pos}
def tNext : TS := fun D σ H => D.nx σ H
def tSeq (t u : TS) : TS := fun D σ H => t { D with nx := u D } σ H
theorem pss_nil : PSs X [] tNext := fun _ _ σ H _ I h => wpAny_execs_nil ⟨σ, H, I, h⟩
theorem pss_cons (h1 : PS X st t) (h2 : PSs X rest u) : PSs X (st :: rest) (tSeq t u) := by
  intro pins s σ H D I h
  refine wpAny_execs_cons (thn (h1 pins s σ H { D with nx := u D } I h) fun f s1 q => ?_)
  cases f with
  | next =>
    obtain ⟨σ', H', I', q⟩ := q
    exact h2 pins s1 σ' H' D I' q
  | ret v => exact q
  | brk => exact q
  | cont => exact q
theorem pss_one (h1 : PS X st t) : PSs X [st] t := by
  intro pins s σ H D I h
  refine wpAny_execs_cons (thn (h1 pins s σ H D I h) fun f s1 q => ?_)
  cases f with
  | next => exact wpAny_execs_nil q
  | ret v => exact q
  | brk => exact q
  | cont => exact q
theorem Inv.quiet {pins : List (Addr × Obj)} {σ : St} {H : Hp} {s : Shared} (I : Inv X pins σ H s) : interactive X.env = false := by simp [interactive, I.ok.kind]
def tDrop (te : TE) : TS := fun D σ H => te σ H fun _ H1 => D.nx σ H1
theorem ps_expr (he : PE X e te) (hs : swapsWith e none pos.line X.env = pure false := by rfl) : PS X (.Expr e pos) (tDrop te) := by
  intro pins s σ H D I h
  exact wpAny_Expr_any (thn (he pins s σ H _ I h) fun v s1 ⟨x, H1, I1, r1, q1⟩ => ⟨σ, H1, I1, q1⟩) I.quiet hs
def tRet (te : TE) : TS := fun D σ H => te σ H D.rt
theorem ps_ret (he : PE X e te) : PS X (.Return (some e) pos) (tRet te) := by
  intro pins s σ H D I h
  exact wpAny_Return_some (thn (he pins s σ H _ I h) fun v s1 ⟨x, H1, I1, r1, q1⟩ => ⟨x, σ, H1, I1, r1, q1⟩)
def tIfS (c : TT) (t u : TS) : TS := fun D σ H => c σ H fun b H1 => if b = true then t D σ H1 else u D σ H1
theorem ps_if {c : Expr} {a b : List Stmt} {tc : TT} (hc : PT X c tc) (ha : PSs X a t) (hb : PSs X b u) : PS X (.If c a b pos) (tIfS tc t u) := by
  intro pins s σ H D I h
  refine wpAny_If (thn (hc pins s σ H _ I h) fun d s1 ⟨H1, I1, q1⟩ => ?_)
  cases d with
  | true => exact ha pins s1 σ H1 D I1 q1
  | false => exact hb pins s1 σ H1 D I1 q1
def tNever : TS := fun _ _ _ => False
theorem pss_never {sts : List Stmt} : PSs X sts tNever := fun _ _ _ _ _ _ h => h.elim
end
abbrev TG := V → St → Hp → (St → Hp → Prop) → Prop
def PG (X : Cx) (target : Expr) (t : TG) : Prop :=
  ∀ (pins : List (Addr × Obj)) (s : Shared) (σ : St) (H : Hp) (v : V) (u : Value) (Q : St → Hp → Prop), Inv X pins σ H s → RelV v u → t v σ H Q →
    wpAny (model X.prog X.w) X.A (assign target X.env u) (fun _ s' => ∃ σ' H', Inv X pins σ' H' s' ∧ Q σ' H') X.xe s
abbrev TSet := V → V → V → Hp → (Hp → Prop) → Prop
def PSet (X : Cx) (t : TSet) : Prop :=
  ∀ (pins : List (Addr × Obj)) (s : Shared) (σ : St) (H : Hp) (o i v : V) (ov iv u : Value) (Q : Hp → Prop), Inv X pins σ H s → RelV o ov → RelV i iv → RelV v u → t o i v H Q →
    wpAny (model X.prog X.w) X.A (setItem ov iv u) (fun _ s' => ∃ H', Inv X pins σ H' s' ∧ Q H') X.xe s
section
variable {X : Cx} {pos : Pos}
def gName (i : Nat) : TG := fun v σ H Q => Q (σ.set i (some v)) H
theorem pg_name {i : Nat} {x : Str} (hN : X.N.Nodup) (hi : X.N[i]? = some x) (hx : Loc X.env.scope x) (hf : X.fn x = true ∨ X.env.scope.names.lookup x = some .local := by first | exact .inl rfl | exact .inr rfl | assumption) : PG X (.Name x pos) (gName i) := by
  intro pins s σ H v u Q I r h
  exact wpAny_assign_Name (store_ok I hN hi hx r (fun s' I' => ⟨_, H, I', h⟩) hf)
def gSub (to ti : TE) (t : TSet) : TG := fun v σ H Q => to σ H fun o H1 => ti σ H1 fun i H2 => t o i v H2 fun H3 => Q σ H3
theorem pg_sub {o i : Expr} {to ti : TE} {t : TSet} (ho : PE X o to) (hi : PE X i ti) (hs : PSet X t)
    (ha : ∀ v, assign (.Subscript o i pos) X.env v = (do
      let ov ← holding [v] (eval o X.env)
      let iv ← holding [v, ov] (eval i X.env)
      standAt pos
      holding [v, ov, iv] (setItem ov iv v)
      release [v, ov, iv] []) := by intro _; rfl) : PG X (.Subscript o i pos) (gSub to ti t) := by
  intro pins s σ H v u Q I r h
  rw [ha]
  refine wpAny_bind (wpAny_holding (thn (ho pins s σ H _ I h) fun ov s1 ⟨x, H1, I1, r1, q1⟩ => ?_))
  refine wpAny_bind (wpAny_holding (thn (hi pins s1 σ H1 _ I1 q1) fun iv s2 ⟨y, H2, I2, r2, q2⟩ => ?_))
  refine wpAny_bind (wpAny_standAt (wpAny_bind (wpAny_holding (thn (hs pins s2 σ H2 x y v ov iv u _ I2 r1 r2 r q2) fun _ s3 ⟨H3, I3, q3⟩ => ?_))))
  exact wpAny_release ⟨σ, H3, I3, q3⟩
def tAsg (te : TE) (g : TG) : TS := fun D σ H => te σ H fun x H1 => g x σ H1 D.nx
theorem ps_asg {tg e : Expr} {te : TE} {g : TG} (he : PE X e te) (hg : PG X tg g) (hs : swapsWithSole [tg] e pos.line X.env = pure false := by rfl) (hw : swappedStores [tg] e X.env = pure none := by rfl)
    (h1 : (assignEach [tg] X.env).map (·.2) = [assign tg X.env] := by rfl) : PS X (.Assign [tg] e pos) (tAsg te g) := by
  intro pins s σ H D I h
  refine wpAny_Assign_stores (thn (he pins s σ H _ I h) fun v s1 ⟨x, H1, I1, r1, q1⟩ => ?_) hs hw
  rw [h1]
  exact thn (hg pins s1 σ H1 x v _ I1 r1 q1) fun _ s2 q => q
theorem ps_set {i : Nat} {x : Str} {e : Expr} {te : TE} {pos' : Pos} (hN : X.N.Nodup) (hi : X.N[i]? = some x) (hx : Loc X.env.scope x) (he : PE X e te) (hs : swapsWith e (some (.Name x pos')) pos.line X.env = pure false := by rfl) (hf : X.fn x = true ∨ X.env.scope.names.lookup x = some .local := by first | exact .inl rfl | exact .inr rfl | assumption) :
    PS X (.Assign [.Name x pos'] e pos) (tAsg te (gName i)) := by
  intro pins s σ H D I h
  refine wpAny_Assign_Name (thn (he pins s σ H _ I h) fun v s1 ⟨y, H1, I1, r1, q1⟩ => ?_) hs
  exact store_ok I1 hN hi hx r1 (fun s2 I2 => ⟨_, H1, I2, q1⟩) hf
def tPar (i j : Nat) (ta : TA) : TS := fun D σ H => ta σ H fun vs H1 => ∃ v w, vs = [v, w] ∧ D.nx ((σ.set i (some v)).set j (some w)) H1
theorem ps_par {i j : Nat} {x y : Str} {a b : Expr} {ta : TA} {px py pt : Pos} {kt k2 pt2} (hc : X.calm = true) (hN : X.N.Nodup) (hi : X.N[i]? = some x) (hj : X.N[j]? = some y) (hij : i ≠ j)
    (hx : X.env.scope.names.lookup x = some .local) (hy : X.env.scope.names.lookup y = some .local) (ha : PA X [a, b] ta)
    (hw : swappedStores [.Tuple [.Name x px, .Name y py] kt pt] (.Tuple [a, b] k2 pt2) X.env = pure (some [x, y]))
    (hs : swapsWithSole [.Tuple [.Name x px, .Name y py] kt pt] (.Tuple [a, b] k2 pt2) pos.line X.env = pure false := by rfl) :
    PS X (.Assign [.Tuple [.Name x px, .Name y py] kt pt] (.Tuple [a, b] k2 pt2) pos) (tPar i j ta) := by
  intro pins s σ H D I h
  rw [exec_Assign_arm]
  refine wpAny_bind (wpAny_standAt ?_)
  rw [hs]
  refine wpAny_bind (wpAny_pure ?_)
  rw [if_neg (by decide)]
  refine wpAny_bind (Tuple_ (thn (ha _ pins s σ H _ I h) fun us s1 ⟨vs, H1, I1, r1, q1⟩ => ?_))
  obtain ⟨v, w, e1, q1⟩ := q1
  subst e1
  obtain ⟨u1, u2, rfl, rv, rw'⟩ : ∃ u1 u2, us = [u1, u2] ∧ RelV v u1 ∧ RelV w u2 := by
    cases r1 with
    | cons p q =>
      cases q with
      | cons p' q' =>
        cases q'
        exact ⟨_, _, rfl, p, p'⟩
  refine wpAny_newObj_type ?_ (by show 2 ≤ sizeLine; decide)
  have I2 : Inv X pins σ H1 { s1 with heap := s1.heap.push { cls := .type "tuple", data := .seq [u1, u2].toArray } } := I1.kept (t' := s1.toks) fun b o e => Heap.get?_push_of_some _ e
  rw [hw]
  refine wpAny_bind (wpAny_pure ?_)
  show wpAny (model X.prog X.w) X.A (do rule "assign.swapped-stores"; let items ← unpackItems (.ref s1.heap.objs.size) 2 none; assignInOrder [fun v => bindName X.env y v, fun v => bindName X.env x v] items.reverse; pure Flow.next) _ _ _
  refine wpAny_bind (wpAny_rule (wpAny_bind (unpackItems_tuple (items := #[u1, u2]) (I.ok.hd hc) (IsTup.new s1.heap _) fun h' hx' => ?_)))
  have I3 := I2.kept (h' := h') (t' := s1.toks) fun b o e => hx' b o (Nat.ne_of_lt (Heap.lt_size e)) e
  show wpAny _ _ (assignInOrder [fun v => bindName X.env y v, fun v => bindName X.env x v] [u2, u1] >>= fun _ => pure Flow.next) _ _ _
  refine wpAny_bind (assignInOrder_cons (wpAny_bindName (store_ok I3 hN hj (.inl hy) rw' (fun s2 I4 => ?_) (.inr hy))))
  refine assignInOrder_cons (wpAny_bindName (store_ok I4 hN hi (.inl hx) rv (fun s3 I5 => assignInOrder_nil (wpAny_pure ?_)) (.inr hx)))
  rw [List.set_comm _ _ (Ne.symm hij)] at I5
  exact ⟨_, H1, I5, q1⟩
end
structure It where
  go : Nat → Hp → Prop
  yld : Nat → Hp → V → Hp → Prop
  stop : Nat → Hp → Prop
def FpOk (X : Cx) (pins : List (Addr × Obj)) (H : Hp) (b : Addr) : Prop :=
  H b = none ∧ b ≠ X.env.locals ∧ b ∉ X.fs ∧ (b ∈ X.ex ∨ X.s₀.heap.objs.size ≤ b) ∧ (∀ x c, X.env.cells.lookup x = some c → c ≠ b) ∧ ∀ p ∈ X.pn ++ pins, p.1 ≠ b
theorem Inv.fpOk {X : Cx} {pins : List (Addr × Obj)} {σ : St} {H H' : Hp} {s : Shared} {b : Addr} (I : Inv X pins σ H s) (hb : s.heap.objs.size ≤ b) (hn : H' b = none) : FpOk X pins H' b := by
  refine ⟨hn, Nat.ne_of_gt (Nat.lt_of_lt_of_le I.lt hb), I.nofs hb, .inr (Nat.le_trans I.sz hb), fun x c e z => ?_, fun p hp z => ?_⟩
  · obtain ⟨v, q⟩ := I.cell x c e
    exact absurd (Nat.lt_of_lt_of_le q.lt (by rw [z]; exact hb)) (Nat.lt_irrefl _)
  · exact absurd (Nat.lt_of_lt_of_le (Heap.lt_size (I.pin p hp).1) (by rw [z]; exact hb)) (Nat.lt_irrefl _)
structure Turn (P : Program) (w : World) (K : PySem.W.Frag) (tg : Expr) (J : It) (fp : List Addr) (it : Addr) (tn : Nat → Heap → Prop) : Prop where
  mem : it ∈ fp
  obj : ∀ i h, tn i h → ∀ b ∈ fp, ∃ o, h.get? b = some o ∧ ∀ v, o.data ≠ .cell v
  keep : ∀ i h h', tn i h → (∀ b ∈ fp, ∀ o, h.get? b = some o → h'.get? b = some o) → tn i h'
  item : ∀ (X : Cx), X.prog = P → X.w = w → X.K = K → X.calm = true → ∀ (i : Nat) (pins : List (Addr × Obj)) (s : Shared) (σ : St) (H : Hp) (E : Value → Shared → Prop), Inv X pins σ H s → (∀ b ∈ fp, FpOk X pins H b) → tn i s.heap → J.go i H →
    wpAny (model P w) X.A (pyNext (.ref it)) (fun r s1 => ∃ u, r = some u ∧
      wpAny (model P w) X.A (letOwnedTupleGo tg (.ref it) u) (fun _ s2 => ∃ x H', Inv X pins σ H' s2 ∧ RelV x u ∧ J.yld i H x H' ∧ tn (i + 1) s2.heap ∧ ∀ b ∈ fp, H' b = none) E s1) E s
  done : ∀ (X : Cx), X.prog = P → X.w = w → X.K = K → X.calm = true → ∀ (i : Nat) (pins : List (Addr × Obj)) (s : Shared) (σ : St) (H : Hp) (E : Value → Shared → Prop), Inv X pins σ H s → (∀ b ∈ fp, FpOk X pins H b) → tn i s.heap → J.stop i H →
    wpAny (model P w) X.A (pyNext (.ref it)) (fun r s1 => r = none ∧ Inv X pins σ H s1) E s
  self : ∀ (A : Around) (i : Nat) (s : Shared) (Q : Value → Shared → Prop) (E : Value → Shared → Prop), tn i s.heap → Q (.ref it) s → wpAny (model P w) A (pyIter (.ref it)) Q E s
abbrev TI := St → Hp → (It → Hp → Prop) → Prop
def PIE (X : Cx) (pins : List (Addr × Obj)) (σ : St) (tg : Expr) (R : It → Hp → Prop) (itv : Value) (s2 : Shared) : Prop :=
  ∃ (it : Addr) (fp : List Addr) (tn : Nat → Heap → Prop) (J : It) (H' : Hp), itv = .ref it ∧ Inv X pins σ H' s2 ∧ Turn X.prog X.w X.K tg J fp it tn ∧ tn 0 s2.heap ∧ (∀ b ∈ fp, FpOk X pins H' b) ∧ R J H'
def PI (X : Cx) (tg iter : Expr) (wi : TI) : Prop :=
  ∀ (pins : List (Addr × Obj)) (s : Shared) (σ : St) (H : Hp) (R : It → Hp → Prop), Inv X pins σ H s → wi σ H R →
    wpAny (model X.prog X.w) X.A (eval iter X.env) (fun v s1 => wpAny (model X.prog X.w) X.A (pyIter v) (PIE X pins σ tg R) X.xe s1) X.xe s
theorem go_of {M : Model} {A : Around} {E : Value → Shared → Prop} {s : Shared} {tg : Expr} {it : Addr} {u : Value} {o : Obj} {n : String} {vs : Array Value} {Q : Unit → Shared → Prop} (ho : s.heap.get? it = some o) (hc : o.cls = .type n) (hd : o.data = .fields vs)
    (hn : ["enumerate", "zip", "dict_itemiterator", "dict_reverseitemiterator", "odict_iterator", "itertools.zip_longest", "itertools.pairwise"].contains n = false) (hQ : Q () s) : wpAny M A (letOwnedTupleGo tg (.ref it) u) Q E s := by
  unfold letOwnedTupleGo
  cases tg <;> first
    | exact wpAny_pure hQ
    | (cases u <;> first
        | exact wpAny_pure hQ
        | (refine wpAny_bind (wpAny_load ho ?_)
           rw [hc, hd]
           show wpAny M A (if (["enumerate", "zip", "dict_itemiterator", "dict_reverseitemiterator", "odict_iterator", "itertools.zip_longest", "itertools.pairwise"].contains n && vs[0]? == some (rawInt _)) = true then _ else _) Q E s
           rw [if_neg (by intro h; rw [hn, Bool.false_and] at h; cases h)]
           exact wpAny_pure hQ))
def Itl (K : PySem.W.Frag) (a : Addr) : It :=
  ⟨fun i H => ∃ xs x, SqL K H a xs ∧ xs[i]? = some x, fun i H x H' => H' = H ∧ ∀ xs, SqL K H a xs → xs[i]? = some x, fun i H => ∃ xs, SqL K H a xs ∧ xs.length ≤ i⟩
def Itr (lo : Int) (n : Nat) : It := ⟨fun i _ => i < n, fun i H x H' => H' = H ∧ x = .int (lo + i), fun i _ => n ≤ i⟩
theorem turn_list {P : Program} {w : World} {K : PySem.W.Frag} {tg : Expr} (a it : Addr) : Turn P w K tg (Itl K a) [it] it (fun i h => h.IsListIter it a i) where
  mem := by simp
  obj := fun i h st b hb => by
    have e : b = it := by simpa using hb
    subst e
    obtain ⟨o, e, c, d⟩ := st
    exact ⟨o, e, fun v z => by rw [d] at z; cases z⟩
  keep := fun i h h' st k => st.at fun o e => k it (by simp) o e
  item := by
    intro X hP hw hK hc i pins s σ H E I hf st hg
    subst hP hw hK
    obtain ⟨xs, x, hq, hx⟩ := hg
    obtain ⟨its, rv, p, hz⟩ := I.list hq
    obtain ⟨u, hu, ru⟩ := rv.get hx
    obtain ⟨f0, f1, f2, f3, f4, f5⟩ := hf it (by simp)
    refine wpAny_pyNext_list_item st p.isList (x := u) (by simpa using hu) fun h' st' sb => ?_
    have I1 : Inv X pins σ H { s with heap := h' } := I.turned (t' := s.toks) (fun b o hb e => (sb.2 b hb).trans e) f0 f1 f3 f4 f5
    obtain ⟨o, e, c, d⟩ := id st'
    exact ⟨u, rfl, go_of (s := { s with heap := h' }) e c d (by decide) ⟨x, H, I1, ru, ⟨rfl, fun ys hy => by rw [I.list_inj hy hq]; exact hx⟩, st', fun b hb => (hf b hb).1⟩⟩
  done := by
    intro X hP hw hK hc i pins s σ H E I hf st hg
    subst hP hw hK
    obtain ⟨xs, hq, hx⟩ := hg
    obtain ⟨its, rv, p, hz⟩ := I.list hq
    obtain ⟨f0, f1, f2, f3, f4, f5⟩ := hf it (by simp)
    have hl := rv.length
    exact wpAny_pyNext_list_end (I.ok.hd hc) st p.isList (by simp; omega) fun h' eb => ⟨rfl, I.turned (t' := s.toks) (fun b o hb e => eb b o hb e) f0 f1 f3 f4 f5⟩
  self := fun _ _ _ _ _ st h => wpAny_pyIter_listiter st h
theorem turn_range {P : Program} {w : World} {K : PySem.W.Frag} {tg : Expr} (it : Addr) (lo : Int) (n : Nat) : Turn P w K tg (Itr lo n) [it] it (fun i h => IsRangeIter h it (lo + (i : Nat) * 1) ((n : Int) - (i : Nat)) 1) where
  mem := by simp
  obj := fun i h st b hb => by
    have e : b = it := by simpa using hb
    subst e
    exact ⟨_, st, fun v z => by
      have z' : Data.fields _ = Data.cell v := z
      cases z'⟩
  keep := fun i h h' st k => k it (by simp) _ st
  item := by
    intro X hP hw hK hc i pins s σ H E I hf st hg
    subst hP hw hK
    obtain ⟨f0, f1, f2, f3, f4, f5⟩ := hf it (by simp)
    have W := Walks.range (prog := X.prog) (w := X.w) (I.ok.hd hc) it lo 1 n
    refine W.item i s _ _ hg st fun v h' tk hv st' kk => ?_
    obtain ⟨t, rfl⟩ := hv
    have I1 : Inv X pins σ H { s with heap := h', toks := tk } := I.turned (fun b o hb e => kk b o (by simpa using hb) e) f0 f1 f3 f4 f5
    refine ⟨_, rfl, go_of (s := { s with heap := h', toks := tk }) (n := "range_iterator") st' rfl rfl (by decide) ⟨.int (lo + i), H, I1, ⟨t, ?_⟩, ⟨rfl, rfl⟩, st', fun b hb => (hf b hb).1⟩⟩
    rw [Int.mul_one]
  done := by
    intro X hP hw hK hc i pins s σ H E I hf st hg
    subst hP hw hK
    obtain ⟨f0, f1, f2, f3, f4, f5⟩ := hf it (by simp)
    exact wpAny_pyNext_range_end (I.ok.hd hc) st (by have : n ≤ i := hg; omega) fun h' eb => ⟨rfl, I.turned (t' := s.toks) (fun b o hb e => eb b o hb e) f0 f1 f3 f4 f5⟩
  self := fun _ _ _ _ _ st h => wpAny_pyIter_rangeiter st h
open PySem PySem.Spec PyProof.Rows
section
variable {X : Cx} {tg : Expr}
def iList (K : PySem.W.Frag) (tl : TE) : TI := fun σ H R => tl σ H fun x H1 => ∃ a, x = .ref a ∧ (∃ xs, SqL K H1 a xs) ∧ R (Itl K a) H1
theorem pi_list {l : Expr} {tl : TE} (hl : PE X l tl) : PI X tg l (iList X.K tl) := by
  intro pins s σ H R I h
  refine thn (hl pins s σ H _ I h) fun v s1 ⟨x, H1, I1, r1, q1⟩ => ?_
  obtain ⟨a, e, ⟨xs, hq⟩, q⟩ := q1
  subst e
  cases r1
  obtain ⟨its, rv, p, hz⟩ := I1.list hq
  refine wpAny_pyIter_list p.isList ?_
  refine ⟨s1.heap.objs.size, [s1.heap.objs.size], _, _, H1, rfl, I1.kept (t' := s1.toks) fun b o e => Heap.get?_push_of_some _ e, turn_list a _, ⟨_, Heap.get?_push_size _ rfl, rfl, rfl⟩, fun b hb => ?_, q⟩
  have e : b = s1.heap.objs.size := by simpa using hb
  subst e
  exact I1.fpOk (Nat.le_refl _) (I1.hok.fresh (Nat.le_refl _))
theorem range_it {pins : List (Addr × Obj)} {σ : St} {H : Hp} {s : Shared} {R : It → Hp → Prop} {E : Value → Shared → Prop} {lo hi : Int} {t u v : Tok} {tk : Nat} (I : Inv X pins σ H s) (h1 : -(2 ^ 62) ≤ lo) (h2 : lo < 2 ^ 62) (h3 : -(2 ^ 62) ≤ hi) (h4 : hi < 2 ^ 62)
    (q : R (Itr lo (hi - lo).toNat) H) : wpAny (model X.prog X.w) X.A (pyIter (.ref s.heap.objs.size)) (PIE X pins σ tg R) E { s with heap := s.heap.push { cls := .type "range", data := .fields #[.int lo t, .int hi u, .int 1 v] }, toks := tk } := by
  refine wpAny_pyIter_range (IsRange.new ..) (small_one h1 h2 h3 h4) ?_
  have I1 : Inv X pins σ H { s with heap := s.heap.push { cls := .type "range", data := .fields #[.int lo t, .int hi u, .int 1 v] }, toks := tk } := I.kept fun b o e => Heap.get?_push_of_some _ e
  refine ⟨(s.heap.push { cls := .type "range", data := .fields #[.int lo t, .int hi u, .int 1 v] }).objs.size, [(s.heap.push { cls := .type "range", data := .fields #[.int lo t, .int hi u, .int 1 v] }).objs.size], _, _, H, rfl,
    I1.kept (t' := tk) fun b o e => Heap.get?_push_of_some _ e, turn_range _ lo (hi - lo).toNat, ?_, fun b hb => ?_, q⟩
  · have e1 : lo + ((0 : Nat) : Int) * 1 = lo := by simp
    have e2 : (((hi - lo).toNat : Nat) : Int) - ((0 : Nat) : Int) = Builtin.Range.rangeSize lo hi 1 := by rw [rangeSize_one]; split <;> omega
    show IsRangeIter _ _ (lo + ((0 : Nat) : Int) * 1) ((((hi - lo).toNat : Nat) : Int) - ((0 : Nat) : Int)) 1
    rw [e1, e2]
    exact Heap.get?_push_size _ rfl
  · have e : b = (s.heap.push { cls := .type "range", data := .fields #[.int lo t, .int hi u, .int 1 v] }).objs.size := by simpa using hb
    subst e
    exact I1.fpOk (Nat.le_refl _) (I1.hok.fresh (Nat.le_refl _))
def iRng1 (ta : TA) : TI := fun σ H R => ta σ H fun vs H1 => ∃ j : Int, vs = [.int j] ∧ -(2 ^ 62) ≤ j ∧ j < 2 ^ 62 ∧ R (Itr 0 j.toNat) H1
def iRng2 (ta : TA) : TI := fun σ H R => ta σ H fun vs H1 => ∃ i j : Int, vs = [.int i, .int j] ∧ (-(2 ^ 62) ≤ i ∧ i < 2 ^ 62 ∧ -(2 ^ 62) ≤ j ∧ j < 2 ^ 62) ∧ R (Itr i (j - i).toNat) H1
theorem pi_range1 {a : Expr} {ta : TA} {p pos : Pos} (hg : Gl X "range") (hm : X.mg "range" = none) (ha : PA X [a] ta) (hs : starEach [a] X.env = [(false, eval a X.env)] := by rfl) : PI X tg (.Call (.Name "range" p) [a] [] pos) (iRng1 ta) := by
  intro pins s σ H R I h
  refine Call_ (ld_blt I hg hm boot_range (PyProof.Rows.callWith_type1 (thn (ha pos pins s σ H _ I h) fun us s1 ⟨vs, H1, I1, r1, q1⟩ => ?_) hs rfl))
  obtain ⟨j, e, q1, q2, q⟩ := q1
  subst e
  cases r1 with
  | cons r rr =>
    cases rr
    obtain ⟨t, rfl⟩ := r
    exact call_range_1 (range_it I1 (by omega) (by omega) q1 q2 (by simpa using q))
theorem pi_range2 {a b : Expr} {ta : TA} {p pos : Pos} (hg : Gl X "range") (hm : X.mg "range" = none) (ha : PA X [a, b] ta) (hs : starEach [a, b] X.env = [(false, eval a X.env), (false, eval b X.env)] := by rfl) (hs2 : starEach [b] X.env = [(false, eval b X.env)] := by rfl) :
    PI X tg (.Call (.Name "range" p) [a, b] [] pos) (iRng2 ta) := by
  intro pins s σ H R I h
  refine Call_ (ld_blt I hg hm boot_range (PyProof.Rows.callWith_type1 (thn (ha pos pins s σ H _ I h) fun us s1 ⟨vs, H1, I1, r1, q1⟩ => ?_) (by rw [hs, hs2]) (by rw [hs2]; rfl)))
  obtain ⟨i, j, e, ⟨q1, q2, q3, q4⟩, q⟩ := q1
  subst e
  cases r1 with
  | cons r rr =>
    cases rr with
    | cons r' rr =>
      cases rr
      obtain ⟨t, rfl⟩ := r
      obtain ⟨t', rfl⟩ := r'
      exact call_range_2 (range_it I1 q1 q2 q3 q4 q)
def tFor (wi : TI) (g : TG) (tb : TS) : TS := fun D σ H => wi σ H fun J H1 => ∃ W : Nat → Nat → St → Hp → Prop, (∃ m, W 0 m σ H1) ∧ ∀ i m σ H, W i m σ H →
  (J.stop i H ∧ D.nx σ H) ∨ (J.go i H ∧ ∃ N : St → Hp → Prop, (∀ σ' H', N σ' H' → ∃ m', m' < m ∧ W (i + 1) m' σ' H') ∧ ∀ x H', J.yld i H x H' → g x σ H' fun σ2 H2 => tb { D with nx := N, ct := N, bk := D.nx } σ2 H2)
def pinsAt (fp : List Addr) (h : Heap) : List (Addr × Obj) := fp.filterMap fun b => (h.get? b).map fun o => (b, o)
theorem mem_pinsAt {fp : List Addr} {h : Heap} {b : Addr} {o : Obj} (hb : b ∈ fp) (e : h.get? b = some o) : (b, o) ∈ pinsAt fp h := List.mem_filterMap.mpr ⟨b, hb, by rw [e]; rfl⟩
theorem of_pinsAt {fp : List Addr} {h : Heap} {p : Addr × Obj} (hp : p ∈ pinsAt fp h) : p.1 ∈ fp ∧ h.get? p.1 = some p.2 := by
  obtain ⟨b, hb, e⟩ := List.mem_filterMap.mp hp
  cases q : h.get? b with
  | none => rw [q] at e; cases e
  | some o =>
    rw [q] at e
    have e' : (b, o) = p := Option.some.inj e
    subst e'
    exact ⟨hb, q⟩
theorem Inv.pinned {pins : List (Addr × Obj)} {σ : St} {H : Hp} {s : Shared} {fp : List Addr} (I : Inv X pins σ H s) (hf : ∀ b ∈ fp, FpOk X pins H b) (ho : ∀ b ∈ fp, ∃ o, s.heap.get? b = some o ∧ ∀ v, o.data ≠ .cell v) : Inv X (pins ++ pinsAt fp s.heap) σ H s :=
  I.pins_of fun p hp => (List.mem_append.mp hp).elim (fun z => I.pin p (List.mem_append_right _ z)) fun z => by
    obtain ⟨hb, e⟩ := of_pinsAt z
    obtain ⟨f0, f1, f2, _⟩ := hf p.1 hb
    obtain ⟨o, e', d⟩ := ho p.1 hb
    rw [e] at e'; cases e'
    exact ⟨e, f0, f1, f2, d⟩
theorem Inv.unpinned {pins pl : List (Addr × Obj)} {σ : St} {H : Hp} {s : Shared} (I : Inv X (pins ++ pl) σ H s) : Inv X pins σ H s := I.pins_of fun p hp => I.pin p (List.mem_append_right _ (List.mem_append_left _ hp))
theorem ps_for {iter : Expr} {body : List Stmt} {wi : TI} {g : TG} {tb : TS} {pos : Pos} (hp : PassesOwn (model X.prog X.w) X.A X.env X.xe) (hc : X.calm = true) (hi : PI X tg iter wi) (hg : PG X tg g) (hb : PSs X body tb)
    (hs : ∀ x, foldedSetIterable iter X.env x = pure x := by intro _; rfl) : PS X (.For tg iter body [] pos) (tFor wi g tb) := by
  intro pins s σ H D I h
  refine wpAny_For (thn (hi pins s σ H _ I h) fun v s1 h1 => thn h1 fun itv s2 h2 => ?_) hs
  obtain ⟨it, fp, tn, J, H2, e, I2, T, st2, f2, W, ⟨m0, w0⟩, turn⟩ := h2
  subst e
  have stat : ∀ {H' : Hp}, (∀ b ∈ fp, H' b = none) → ∀ b ∈ fp, FpOk X pins H' b := fun hn b hb => ⟨hn b hb, (f2 b hb).2⟩
  refine codeAny_forLoop_any (fun n s' => ∃ i σ' H', Inv X pins σ' H' s' ∧ tn i s'.heap ∧ (∀ b ∈ fp, H' b = none) ∧ W i n σ' H') ?_ m0 ⟨0, σ, H2, I2, st2, fun b hb => (f2 b hb).1, w0⟩
  rintro n s3 ⟨i, σ3, H3, I3, st3, fr3, w3⟩
  rcases turn i n σ3 H3 w3 with ⟨stop, qn⟩ | ⟨go, N, hN, step⟩
  · refine wpAny_passesOwn hp (thn (T.done X rfl rfl rfl hc i pins s3 σ3 H3 X.xe I3 (stat fr3) st3 stop) fun r s4 ⟨hr, I4⟩ => ?_)
    subst hr
    exact wpAny_execs_nil ⟨σ3, H3, I4, qn⟩
  · refine wpAny_passesOwn hp (thn (T.item X rfl rfl rfl hc i pins s3 σ3 H3 X.xe I3 (stat fr3) st3 go) fun r s4 ⟨u, hr, h4⟩ => ?_)
    subst hr
    refine wpAny_passesOwn hp (thn h4 fun _ s5 ⟨x, H5, I5, r5, y5, st5, fr5⟩ => ?_)
    have I5' := I5.pinned (stat fr5) (T.obj _ _ st5)
    refine wpAny_passesOwn hp (thn (hg _ s5 σ3 H5 x u _ I5' r5 (step x H5 y5)) fun _ s6 ⟨σ6, H6, I6, q6⟩ => ?_)
    refine wpAny_passesOwn hp (thn (hb _ s6 σ6 H6 _ I6 q6) fun f s7 q7 => ?_)
    have again : ∀ {σ7 : St} {H7 : Hp}, Inv X (pins ++ pinsAt fp s5.heap) σ7 H7 s7 → N σ7 H7 → ∃ m, m < n ∧ ∃ i σ' H', Inv X pins σ' H' s7 ∧ tn i s7.heap ∧ (∀ b ∈ fp, H' b = none) ∧ W i m σ' H' := fun {σ7 H7} I7 n7 => by
      obtain ⟨m', hm, w7⟩ := hN σ7 H7 n7
      refine ⟨m', hm, i + 1, σ7, H7, I7.unpinned, T.keep _ _ _ st5 fun b hb o e => (I7.pin (b, o) (List.mem_append_right _ (List.mem_append_right _ (mem_pinsAt hb e)))).1, fun b hb => ?_, w7⟩
      obtain ⟨o, e, d⟩ := T.obj _ _ st5 b hb
      exact (I7.pin (b, o) (List.mem_append_right _ (List.mem_append_right _ (mem_pinsAt hb e)))).2.1
    cases f with
    | next => obtain ⟨σ7, H7, I7, n7⟩ := q7; exact again I7 n7
    | cont => obtain ⟨σ7, H7, I7, n7⟩ := q7; exact again I7 n7
    | brk => obtain ⟨σ7, H7, I7, q7⟩ := q7; exact ⟨σ7, H7, I7.unpinned, q7⟩
    | ret v => obtain ⟨x7, σ7, H7, I7, r7, q7⟩ := q7; exact ⟨x7, σ7, H7, I7.unpinned, r7, q7⟩
end
theorem for_list {K : PySem.W.Frag} {a : Addr} {xs : List V} {g : TG} {tb : TS} {D : Ends} {σ : St} {H : Hp} (Pv : Nat → St → Hp → Prop) (h0 : Pv 0 σ H) (hl : ∀ i σ H, i ≤ xs.length → Pv i σ H → SqL K H a xs)
    (hs : ∀ i x σ H, xs[i]? = some x → Pv i σ H → g x σ H fun σ2 H2 => tb { D with nx := Pv (i + 1), ct := Pv (i + 1), bk := D.nx } σ2 H2) (hd : ∀ σ H, Pv xs.length σ H → D.nx σ H) :
    ∃ W : Nat → Nat → St → Hp → Prop, (∃ m, W 0 m σ H) ∧ ∀ i m σ H, W i m σ H →
      ((Itl K a).stop i H ∧ D.nx σ H) ∨ ((Itl K a).go i H ∧ ∃ N : St → Hp → Prop, (∀ σ' H', N σ' H' → ∃ m', m' < m ∧ W (i + 1) m' σ' H') ∧ ∀ x H', (Itl K a).yld i H x H' → g x σ H' fun σ2 H2 => tb { D with nx := N, ct := N, bk := D.nx } σ2 H2) := by
  refine ⟨fun i m σ H => m = xs.length - i ∧ i ≤ xs.length ∧ Pv i σ H, ⟨xs.length, by simp, Nat.zero_le _, h0⟩, ?_⟩
  rintro i m σ H ⟨rfl, hi, p⟩
  have q := hl i σ H hi p
  by_cases hlt : i < xs.length
  · refine .inr ⟨⟨xs, xs[i], q, by simp [hlt]⟩, Pv (i + 1), fun σ' H' p' => ⟨xs.length - (i + 1), by omega, rfl, hlt, p'⟩, fun x H' y => ?_⟩
    obtain ⟨e, y⟩ := y
    subst e
    exact hs i x σ _ (y xs q) p
  · have e : i = xs.length := by omega
    subst e
    exact .inl ⟨⟨xs, q, Nat.le_refl _⟩, hd σ H p⟩
theorem for_range {lo : Int} {n : Nat} {g : TG} {tb : TS} {D : Ends} {σ : St} {H : Hp} (Pv : Nat → St → Hp → Prop) (h0 : Pv 0 σ H)
    (hs : ∀ i σ H, i < n → Pv i σ H → g (.int (lo + i)) σ H fun σ2 H2 => tb { D with nx := Pv (i + 1), ct := Pv (i + 1), bk := D.nx } σ2 H2) (hd : ∀ σ H, Pv n σ H → D.nx σ H) :
    ∃ W : Nat → Nat → St → Hp → Prop, (∃ m, W 0 m σ H) ∧ ∀ i m σ H, W i m σ H →
      ((Itr lo n).stop i H ∧ D.nx σ H) ∨ ((Itr lo n).go i H ∧ ∃ N : St → Hp → Prop, (∀ σ' H', N σ' H' → ∃ m', m' < m ∧ W (i + 1) m' σ' H') ∧ ∀ x H', (Itr lo n).yld i H x H' → g x σ H' fun σ2 H2 => tb { D with nx := N, ct := N, bk := D.nx } σ2 H2) := by
  refine ⟨fun i m σ H => m = n - i ∧ i ≤ n ∧ Pv i σ H, ⟨n, by simp, Nat.zero_le _, h0⟩, ?_⟩
  rintro i m σ H ⟨rfl, hi, p⟩
  by_cases hlt : i < n
  · refine .inr ⟨hlt, Pv (i + 1), fun σ' H' p' => ⟨n - (i + 1), by omega, rfl, hlt, p'⟩, fun x H' y => ?_⟩
    obtain ⟨e, y⟩ := y
    subst e y
    exact hs i σ _ hlt p
  · have e : i = n := by omega
    subst e
    exact .inl ⟨Nat.le_refl _, hd σ H p⟩
open PySem PySem.Spec PyProof.Rows
abbrev R2 := V → V → Hp → VK → Prop
def OpR (X : Cx) (f : Value → Value → Sem Value) (r : R2) : Prop :=
  ∀ (pins : List (Addr × Obj)) (s : Shared) (σ : St) (H : Hp) (x y : V) (v u : Value) (Q : VK), Inv X pins σ H s → RelV x v → RelV y u → r x y H Q →
    wpAny (model X.prog X.w) X.A (f v u) (EP X pins σ Q) X.xe s
def UnR (X : Cx) (f : Value → Sem Value) (r : V → Hp → VK → Prop) : Prop :=
  ∀ (pins : List (Addr × Obj)) (s : Shared) (σ : St) (H : Hp) (x : V) (v : Value) (Q : VK), Inv X pins σ H s → RelV x v → r x H Q →
    wpAny (model X.prog X.w) X.A (f v) (EP X pins σ Q) X.xe s
def CallR (X : Cx) (f : Value) (r : List V → Hp → VK → Prop) : Prop :=
  ∀ (pins : List (Addr × Obj)) (s : Shared) (σ : St) (H : Hp) (xs : List V) (us : List Value) (Q : VK), Inv X pins σ H s → Vals xs us → r xs H Q →
    wpAny (model X.prog X.w) X.A (call f us) (EP X pins σ Q) X.xe s
def tOp (r : R2) (ta tb : TE) : TE := fun σ H Q => ta σ H fun x H1 => tb σ H1 fun y H2 => r x y H2 Q
def tUn (r : V → Hp → VK → Prop) (ta : TE) : TE := fun σ H Q => ta σ H fun x H1 => r x H1 Q
def rI (C : Int → Int → Prop) (g : Int → Int → V) : R2 := fun x y H Q => ∃ i j, x = .int i ∧ y = .int j ∧ C i j ∧ Q (g i j) H
def rI0 (g : Int → Int → V) : R2 := fun x y H Q => ∃ i j, x = .int i ∧ y = .int j ∧ Q (g i j) H
def rU (g : Int → V) : V → Hp → VK → Prop := fun x H Q => ∃ i, x = .int i ∧ Q (g i) H
section
variable {X : Cx} {a b c : Expr} {ta tb tc : TE} {pos : Pos}
theorem binT (ha : PE X a ta) (hb : PE X b tb) {pins : List (Addr × Obj)} {s : Shared} {σ : St} {H : Hp} {R : V → V → Hp → Prop} (I : Inv X pins σ H s)
    (h : ta σ H fun x H1 => tb σ H1 fun y H2 => R x y H2) {Q : Value → Shared → Prop} {f : Value → Value → Sem Value}
    (hf : ∀ v u s2 x y H2, Inv X pins σ H2 s2 → RelV x v → RelV y u → R x y H2 → wpAny (model X.prog X.w) X.A (f v u) Q X.xe s2) :
    wpAny (model X.prog X.w) X.A (eval a X.env) (fun v s₁ => wpAny (model X.prog X.w) X.A (eval b X.env) (fun u s₂ => wpAny (model X.prog X.w) X.A (f v u) Q X.xe s₂) X.xe s₁) X.xe s := by
  refine thn (ha pins s σ H _ I h) fun v s1 ⟨x, H1, I1, r1, q1⟩ => ?_
  refine thn (hb pins s1 σ H1 _ I1 q1) fun u s2 ⟨y, H2, I2, r2, q2⟩ => ?_
  exact hf v u s2 x y H2 I2 r1 r2 q2
theorem pe_op {op : Operator} {r : R2} (ho : OpR X (binaryOp op) r) (ha : PE X a ta) (hb : PE X b tb) : PE X (.BinOp a op b pos) (tOp r ta tb) := by
  intro pins s σ H Q I h
  exact wpAny_BinOp (binT ha hb I h fun v u s2 x y H2 I2 rx ry q => ho pins s2 σ H2 x y v u Q I2 rx ry q)
theorem pe_un {op : UnaryOp} {r : V → Hp → VK → Prop} (ho : UnR X (unaryOp op) r) (ha : PE X a ta) : PE X (.UnaryOp op a pos) (tUn r ta) := by
  intro pins s σ H Q I h
  exact UnaryOp_ (thn (ha pins s σ H _ I h) fun v s1 ⟨x, H1, I1, r1, q1⟩ => ho pins s1 σ H1 x v Q I1 r1 q1)
theorem opI {f : Value → Value → Sem Value} {C : Int → Int → Prop} {g : Int → Int → Int}
    (rule : ∀ (i j : Int) (t u : Tok) (s : Shared) (Q : Value → Shared → Prop) (E : Value → Shared → Prop), C i j → Q (.int (g i j) s.toks) { s with toks := s.toks + 1 } → wpAny (model X.prog X.w) X.A (f (.int i t) (.int j u)) Q E s) :
    OpR X f (rI C fun i j => .int (g i j)) := by
  intro pins s σ H x y v u Q I rx ry h
  obtain ⟨i, j, rfl, rfl, hc, q⟩ := h
  obtain ⟨t, rfl⟩ := rx
  obtain ⟨t', rfl⟩ := ry
  exact rule i j t t' s _ _ hc ⟨.int (g i j), H, I.tok _, ⟨_, rfl⟩, q⟩
theorem opI0 {f : Value → Value → Sem Value} {g : Int → Int → Int}
    (rule : ∀ (i j : Int) (t u : Tok) (s : Shared) (Q : Value → Shared → Prop) (E : Value → Shared → Prop), Q (.int (g i j) s.toks) { s with toks := s.toks + 1 } → wpAny (model X.prog X.w) X.A (f (.int i t) (.int j u)) Q E s) :
    OpR X f (rI0 fun i j => .int (g i j)) := by
  intro pins s σ H x y v u Q I rx ry h
  obtain ⟨i, j, rfl, rfl, q⟩ := h
  obtain ⟨t, rfl⟩ := rx
  obtain ⟨t', rfl⟩ := ry
  exact rule i j t t' s _ _ ⟨.int (g i j), H, I.tok _, ⟨_, rfl⟩, q⟩
theorem opB0 {f : Value → Value → Sem Value} {g : Int → Int → Bool}
    (rule : ∀ (i j : Int) (t u : Tok) (s : Shared) (Q : Value → Shared → Prop) (E : Value → Shared → Prop), Q (.bool (g i j)) s → wpAny (model X.prog X.w) X.A (f (.int i t) (.int j u)) Q E s) :
    OpR X f (rI0 fun i j => .bl (g i j)) := by
  intro pins s σ H x y v u Q I rx ry h
  obtain ⟨i, j, rfl, rfl, q⟩ := h
  obtain ⟨t, rfl⟩ := rx
  obtain ⟨t', rfl⟩ := ry
  exact rule i j t t' s _ _ ⟨.bl (g i j), H, I, rfl, q⟩
def CDiv (i j : Int) : Prop := 0 < j ∧ j < 1073741824
def CPow (i j : Int) : Prop := 0 ≤ j ∧ j ≤ 1000000 ∧ i.natAbs < 2 ^ 64
def CMul (i j : Int) : Prop := (-(2 ^ 64) < i ∧ i < 2 ^ 64) ∨ (-(2 ^ 64) < j ∧ j < 2 ^ 64)
theorem CMul.ok {i j : Int} (h : CMul i j) : IntMulOk i j := by
  rcases h with ⟨h1, h2⟩ | ⟨h1, h2⟩
  · exact .of_left (intBits_le_64 h1 h2)
  · exact .of_right (intBits_le_64 h1 h2)
theorem op_add : OpR X (binaryOp .Add) (rI0 fun i j => .int (i + j)) := opI0 fun _ _ _ _ _ _ _ q => add_int q
theorem op_sub : OpR X (binaryOp .Sub) (rI0 fun i j => .int (i - j)) := opI0 fun _ _ _ _ _ _ _ q => sub_int q
theorem op_mul : OpR X (binaryOp .Mult) (rI CMul fun i j => .int (i * j)) := opI fun _ _ _ _ _ _ _ hc q => mul_int q hc.ok
theorem op_fdiv : OpR X (binaryOp .FloorDiv) (rI CDiv fun i j => .int (i / j)) := opI fun i j _ _ _ _ _ hc q => by
  have h1 : (0 : Int) < j := hc.1
  have h2 : j < 1073741824 := hc.2
  exact floordiv_int (by omega) (by rw [Int.fdiv_eq_ediv_of_nonneg i (by omega)]; exact q) (.inl (PyProof.noPylong_small (by omega)))
theorem op_mod : OpR X (binaryOp .Mod) (rI (fun _ j => 0 < j) fun i j => .int (i % j)) := opI fun i j _ _ _ _ _ hc q => by
  have h1 : (0 : Int) < j := hc
  exact mod_int' (by omega) (by rw [Int.fmod_eq_emod_of_nonneg i (by omega)]; exact q)
theorem op_pow : OpR X (binaryOp .Pow) (rI CPow fun i j => .int (i ^ j.toNat)) := opI fun _ _ _ _ _ _ _ hc q => pow_int_small hc.1 hc.2.1 hc.2.2 q
theorem unI {f : Value → Sem Value} {g : Int → Int}
    (rule : ∀ (i : Int) (t : Tok) (s : Shared) (Q : Value → Shared → Prop) (E : Value → Shared → Prop), Q (.int (g i) s.toks) { s with toks := s.toks + 1 } → wpAny (model X.prog X.w) X.A (f (.int i t)) Q E s) :
    UnR X f (rU fun i => .int (g i)) := by
  intro pins s σ H x v Q I rx h
  obtain ⟨i, rfl, q⟩ := h
  obtain ⟨t, rfl⟩ := rx
  exact rule i t s _ _ ⟨.int (g i), H, I.tok _, ⟨_, rfl⟩, q⟩
theorem un_neg : UnR X (unaryOp .USub) (rU fun i => .int (-i)) := unI fun _ _ _ _ _ q => neg_int q
end
def scal : V → V → Bool
  | .non, .non => true | .non, .int _ => true | .int _, .non => true | .non, .bl _ => true | .bl _, .non => true | .non, .str _ => true | .str _, .non => true
  | .int _, .int _ => true | .bl _, .bl _ => true | .str _, .str _ => true | .byt _, .byt _ => true
  | .int _, .str _ => true | .str _, .int _ => true | .bl _, .str _ => true | .str _, .bl _ => true
  | _, _ => false
def rEq : R2 := fun x y H Q => scal x y = true ∧ Q (.bl (decide (x = y))) H
def rNe : R2 := fun x y H Q => scal x y = true ∧ Q (.bl (!decide (x = y))) H
theorem dec_int {i j : Int} : decide (V.int i = V.int j) = (i == j) := by
  rw [Bool.eq_iff_iff]
  simp
theorem dec_bl {i j : Bool} : decide (V.bl i = V.bl j) = (i == j) := by
  rw [Bool.eq_iff_iff]
  simp
theorem dec_str {i j : Str} : decide (V.str i = V.str j) = (i == j) := by
  rw [Bool.eq_iff_iff]
  simp
theorem dec_byt {i j : Array UInt8} : decide (V.byt i = V.byt j) = (i.toList == j.toList) := by
  rw [Bool.eq_iff_iff]
  cases i
  cases j
  simp
section
variable {X : Cx} {a b c : Expr} {ta tb tc : TE} {pos : Pos}
theorem fin_bl {pins : List (Addr × Obj)} {σ : St} {H : Hp} {s : Shared} {Q : VK} {k k' : Bool} (I : Inv X pins σ H s) (q : Q (.bl k) H) (e : k = k') : EP X pins σ Q (.bool k') s := by
  subst e
  exact ⟨.bl k, H, I, rfl, q⟩
theorem op_eq : OpR X (compareOp .Eq) rEq := by
  intro pins s σ H x y v u Q I rx ry h
  obtain ⟨hs, q⟩ := h
  cases x with
  | non =>
    cases rx
    cases y with
    | non => cases ry; exact PySem.EqNone.eq_none_none (fin_bl I q (by simp))
    | bl j => cases ry; exact PySem.EqNone.eq_none_bool (fin_bl I q (by simp))
    | int j => obtain ⟨t', rfl⟩ := ry; exact PySem.EqNone.eq_none_int (fin_bl I q (by simp))
    | str j => obtain ⟨t', rfl⟩ := ry; exact PySem.EqNone.eq_none_str (fin_bl I q (by simp))
    | _ => exact absurd (show false = true from hs) Bool.false_ne_true
  | bl i =>
    cases rx
    cases y with
    | non => cases ry; exact PySem.EqNone.eq_bool_none (fin_bl I q (by simp))
    | bl j => cases ry; exact eq_bool (fin_bl I q dec_bl)
    | str j => obtain ⟨t', rfl⟩ := ry; exact PySem.EqMixed.eq_bool_str (fin_bl I q (by simp))
    | _ => exact absurd (show false = true from hs) Bool.false_ne_true
  | int i =>
    obtain ⟨t, rfl⟩ := rx
    cases y with
    | non => cases ry; exact PySem.EqNone.eq_int_none (fin_bl I q (by simp))
    | int j => obtain ⟨t', rfl⟩ := ry; exact eq_int (fin_bl I q dec_int)
    | str j => obtain ⟨t', rfl⟩ := ry; exact PySem.EqMixed.eq_int_str (fin_bl I q (by simp))
    | _ => exact absurd (show false = true from hs) Bool.false_ne_true
  | str i =>
    obtain ⟨t, rfl⟩ := rx
    cases y with
    | non => cases ry; exact PySem.EqNone.eq_str_none (fin_bl I q (by simp))
    | bl j => cases ry; exact PySem.EqMixed.eq_str_bool (fin_bl I q (by simp))
    | int j => obtain ⟨t', rfl⟩ := ry; exact PySem.EqMixed.eq_str_int (fin_bl I q (by simp))
    | str j => obtain ⟨t', rfl⟩ := ry; exact eq_str (fin_bl I q dec_str)
    | _ => exact absurd (show false = true from hs) Bool.false_ne_true
  | byt i =>
    obtain ⟨t, rfl⟩ := rx
    cases y with
    | byt j => obtain ⟨t', rfl⟩ := ry; exact PySem.W.eq_bytes (fin_bl I q dec_byt)
    | _ => exact absurd (show false = true from hs) Bool.false_ne_true
  | _ => cases y <;> exact absurd (show false = true from hs) Bool.false_ne_true
theorem op_ne : OpR X (compareOp .NotEq) rNe := by
  intro pins s σ H x y v u Q I rx ry h
  obtain ⟨hs, q⟩ := h
  cases x with
  | non =>
    cases rx
    cases y with
    | non => cases ry; exact PySem.EqNone.ne_none_none (fin_bl I q (by simp))
    | bl j => cases ry; exact PySem.EqNone.ne_none_bool (fin_bl I q (by simp))
    | int j => obtain ⟨t', rfl⟩ := ry; exact PySem.EqNone.ne_none_int (fin_bl I q (by simp))
    | str j => obtain ⟨t', rfl⟩ := ry; exact PySem.EqNone.ne_none_str (fin_bl I q (by simp))
    | _ => exact absurd (show false = true from hs) Bool.false_ne_true
  | bl i =>
    cases rx
    cases y with
    | non => cases ry; exact PySem.EqNone.ne_bool_none (fin_bl I q (by simp))
    | bl j => cases ry; exact ne_bool (fin_bl I q (congrArg not dec_bl))
    | str j => obtain ⟨t', rfl⟩ := ry; exact PySem.EqMixed.ne_bool_str (fin_bl I q (by simp))
    | _ => exact absurd (show false = true from hs) Bool.false_ne_true
  | int i =>
    obtain ⟨t, rfl⟩ := rx
    cases y with
    | non => cases ry; exact PySem.EqNone.ne_int_none (fin_bl I q (by simp))
    | int j => obtain ⟨t', rfl⟩ := ry; exact ne_int (fin_bl I q (congrArg not dec_int))
    | str j => obtain ⟨t', rfl⟩ := ry; exact PySem.EqMixed.ne_int_str (fin_bl I q (by simp))
    | _ => exact absurd (show false = true from hs) Bool.false_ne_true
  | str i =>
    obtain ⟨t, rfl⟩ := rx
    cases y with
    | non => cases ry; exact PySem.EqNone.ne_str_none (fin_bl I q (by simp))
    | bl j => cases ry; exact PySem.EqMixed.ne_str_bool (fin_bl I q (by simp))
    | int j => obtain ⟨t', rfl⟩ := ry; exact PySem.EqMixed.ne_str_int (fin_bl I q (by simp))
    | str j => obtain ⟨t', rfl⟩ := ry; exact ne_str (fin_bl I q (congrArg not dec_str))
    | _ => exact absurd (show false = true from hs) Bool.false_ne_true
  | byt i =>
    obtain ⟨t, rfl⟩ := rx
    cases y with
    | byt j => obtain ⟨t', rfl⟩ := ry; exact PySem.W.ne_bytes (fin_bl I q (congrArg not dec_byt))
    | _ => exact absurd (show false = true from hs) Bool.false_ne_true
  | _ => cases y <;> exact absurd (show false = true from hs) Bool.false_ne_true
theorem op_lt : OpR X (compareOp .Lt) (rI0 fun i j => .bl (decide (i < j))) := opB0 fun _ _ _ _ _ _ _ q => lt_int q
theorem op_le : OpR X (compareOp .LtE) (rI0 fun i j => .bl (decide (i ≤ j))) := opB0 fun _ _ _ _ _ _ _ q => le_int q
theorem op_gt : OpR X (compareOp .Gt) (rI0 fun i j => .bl (decide (j < i))) := opB0 fun _ _ _ _ _ _ _ q => gt_int q
theorem op_in_str : OpR X (compareOp .In) (fun x y H Q => ∃ i j, x = .str i ∧ y = .str j ∧ Q (.bl (!(Builtin.Str.occurrences j i 0 j.length 1).isEmpty)) H) := by
  intro pins s σ H x y v u Q I rx ry h
  obtain ⟨i, j, rfl, rfl, q⟩ := h
  obtain ⟨t, rfl⟩ := rx
  obtain ⟨t', rfl⟩ := ry
  exact in_str (fin_bl I q rfl)
theorem nomark (b : Expr) {op : CmpOp} (h : op ≠ .In := by decide) (h2 : op ≠ .NotIn := by decide) : behindInMarks op b = false := by
  have e1 : (op == CmpOp.In) = false := by cases op <;> first | rfl | exact absurd rfl h
  have e2 : (op == CmpOp.NotIn) = false := by cases op <;> first | rfl | exact absurd rfl h2
  cases b <;> simp [behindInMarks, e1, e2]
theorem pe_cmpR {op : CmpOp} {r : R2} (ho : OpR X (compareOp op) r) (ha : PE X a ta) (hb : PE X b tb) (hm : behindInMarks op b = false) : PE X (.Compare a [op] [b] pos) (tOp r ta tb) := by
  intro pins s σ H Q I h
  exact wpAny_Compare1 (binT ha hb I h fun v u s2 x y H2 I2 rx ry q => ho pins s2 σ H2 x y v u Q I2 rx ry q) hm
def tTest (t : TE) : TT := fun σ H Q => t σ H fun x H' => ∃ k, x = .bl k ∧ Q k H'
theorem pt_cmpR {op : CmpOp} {r : R2} (ho : OpR X (compareOp op) r) (ha : PE X a ta) (hb : PE X b tb) (hm : behindInMarks op b = false) : PT X (.Compare a [op] [b] pos) (tTest (tOp r ta tb)) := by
  intro pins s σ H Q I h
  refine wpAny_isTrue_Compare1 (thn (ha pins s σ H _ I h) fun v s1 ⟨x, H1, I1, r1, q1⟩ => thn (hb pins s1 σ H1 _ I1 q1) fun u s2 ⟨y, H2, I2, r2, q2⟩ =>
    thn (ho pins s2 σ H2 x y v u _ I2 r1 r2 q2) fun c s3 ⟨z, H3, I3, r3, k, e, q3⟩ => ?_) hm
  subst e
  cases r3
  exact wpAny_truthy_bool ⟨H3, I3, q3⟩
def tChain (r r' : R2) (ta tb tc : TE) : TE := fun σ H Q => ta σ H fun x H1 => tb σ H1 fun y H2 => r x y H2 fun z H3 => ∃ k, z = .bl k ∧
  (if k = true then tc σ H3 fun w' H4 => r' y w' H4 Q else Q (.bl false) H3)
theorem pe_chain {op op' : CmpOp} {r r' : R2} (ho : OpR X (compareOp op) r) (ho' : OpR X (compareOp op') r') (ha : PE X a ta) (hb : PE X b tb) (hc : PE X c tc)
    (hm : lastMarks [op, op'] [b, c] = false := by with_unfolding_all rfl) : PE X (.Compare a [op, op'] [b, c] pos) (tChain r r' ta tb tc) := by
  intro pins s σ H Q I h
  refine Compare_chain (thn (ha pins s σ H _ I h) fun v s1 ⟨x, H1, I1, r1, q1⟩ => chain_link (thn (hb pins s1 σ H1 _ I1 q1) fun u s2 ⟨y, H2, I2, r2, q2⟩ =>
    thn (ho pins s2 σ H2 x y v u _ I2 r1 r2 q2) fun d s3 ⟨z, H3, I3, r3, k, e, q3⟩ => ?_)) hm
  subst e
  cases r3
  refine wpAny_truthy_bool ?_
  cases k with
  | false => exact ite_ff ⟨.bl false, H3, I3, rfl, q3⟩
  | true => exact ite_tt (chain_last (thn (hc pins s3 σ H3 _ I3 q3) fun w' s4 ⟨z', H4, I4, r4, q4⟩ => ho' pins s4 σ H4 y z' u w' Q I4 r2 r4 q4))
theorem pt_chain {op op' : CmpOp} {r r' : R2} (ho : OpR X (compareOp op) r) (ho' : OpR X (compareOp op') r') (ha : PE X a ta) (hb : PE X b tb) (hc : PE X c tc)
    (hm : lastMarks [op, op'] [b, c] = false := by with_unfolding_all rfl) : PT X (.Compare a [op, op'] [b, c] pos) (tTest (tChain r r' ta tb tc)) := by
  intro pins s σ H Q I h
  refine isTrue_chain (thn (ha pins s σ H _ I h) fun v s1 ⟨x, H1, I1, r1, q1⟩ => test_link (thn (hb pins s1 σ H1 _ I1 q1) fun u s2 ⟨y, H2, I2, r2, q2⟩ =>
    thn (ho pins s2 σ H2 x y v u _ I2 r1 r2 q2) fun d s3 ⟨z, H3, I3, r3, k, e, q3⟩ => ?_)) hm
  subst e
  cases r3
  refine wpAny_truthy_bool ?_
  cases k with
  | false =>
    obtain ⟨k', e', q'⟩ := q3
    cases e'
    exact ite_ff ⟨H3, I3, q'⟩
  | true =>
    refine ite_tt (test_last (thn (hc pins s3 σ H3 _ I3 q3) fun w' s4 ⟨z', H4, I4, r4, q4⟩ => thn (ho' pins s4 σ H4 y z' u w' _ I4 r2 r4 q4) fun d' s5 ⟨z2, H5, I5, r5, k2, e2, q5⟩ => ?_))
    subst e2
    cases r5
    exact wpAny_truthy_bool ⟨H5, I5, q5⟩
theorem line63 : (sizeLine : Nat) < 2 ^ 63 := by rw [sizeLine_eq]; decide
theorem op_add_str : OpR X (binaryOp .Add) (fun x y H Q => ∃ i j, x = .str i ∧ y = .str j ∧ i.length + j.length ≤ sizeLine ∧ Q (.str (i ++ j)) H) := by
  intro pins s σ H x y v u Q I rx ry h
  obtain ⟨i, j, rfl, rfl, hz, q⟩ := h
  obtain ⟨t, rfl⟩ := rx
  obtain ⟨t', rfl⟩ := ry
  exact add_str (fun t' tk => ⟨.str (i ++ j), H, I.tok _, ⟨_, rfl⟩, q⟩) hz
theorem vals1 {x : V} {us : List Value} (r : Vals [x] us) : ∃ u, us = [u] ∧ RelV x u := by
  cases r with
  | cons r1 r2 => cases r2; exact ⟨_, rfl, r1⟩
theorem vals2 {x y : V} {us : List Value} (r : Vals [x, y] us) : ∃ u w', us = [u, w'] ∧ RelV x u ∧ RelV y w' := by
  cases r with
  | cons r1 r2 =>
    cases r2 with
    | cons r3 r4 => cases r4; exact ⟨_, _, rfl, r1, r3⟩
theorem call_abs : CallR X (.builtin "abs") (fun xs H Q => ∃ i, xs = [.int i] ∧ Q (.int (if i < 0 then -i else i)) H) := by
  intro pins s σ H xs us Q I r h
  obtain ⟨i, rfl, q⟩ := h
  obtain ⟨u, rfl, t, rfl⟩ := vals1 r
  exact call_abs_int fun u tk => ⟨.int (if i < 0 then -i else i), H, I.tok _, ⟨_, rfl⟩, q⟩
theorem call_max2 (hc : X.calm = true) : CallR X (.builtin "max") (fun xs H Q => ∃ i j, xs = [.int i, .int j] ∧ Q (.int (if j > i then j else i)) H) := by
  intro pins s σ H xs us Q I r h
  obtain ⟨i, j, rfl, q⟩ := h
  obtain ⟨u, w', rfl, ⟨t, rfl⟩, ⟨t', rfl⟩⟩ := vals2 r
  refine max_two_ints (I.ok.hd hc) fun h' tk k => ⟨_, H, I.kept k, ?_, q⟩
  by_cases hj : j > i
  · rw [if_pos hj, if_pos hj]; exact ⟨_, rfl⟩
  · rw [if_neg hj, if_neg hj]; exact ⟨_, rfl⟩
theorem call_min2 (hc : X.calm = true) : CallR X (.builtin "min") (fun xs H Q => ∃ i j, xs = [.int i, .int j] ∧ Q (.int (if j < i then j else i)) H) := by
  intro pins s σ H xs us Q I r h
  obtain ⟨i, j, rfl, q⟩ := h
  obtain ⟨u, w', rfl, ⟨t, rfl⟩, ⟨t', rfl⟩⟩ := vals2 r
  refine min_two_ints (I.ok.hd hc) fun h' tk k => ⟨_, H, I.kept k, ?_, q⟩
  by_cases hj : j < i
  · rw [if_pos hj, if_pos hj]; exact ⟨_, rfl⟩
  · rw [if_neg hj, if_neg hj]; exact ⟨_, rfl⟩
theorem call_int1 : CallR X (.type "int") (fun xs H Q => (∃ i, xs = [.int i] ∧ Q (.int i) H) ∨ ∃ k, xs = [.bl k] ∧ Q (.int (if k then 1 else 0)) H) := by
  intro pins s σ H xs us Q I r h
  rcases h with ⟨i, rfl, q⟩ | ⟨k, rfl, q⟩
  · obtain ⟨u, rfl, t, rfl⟩ := vals1 r
    exact call_int_int ⟨.int i, H, I, ⟨_, rfl⟩, q⟩
  · obtain ⟨u, rfl, r1⟩ := vals1 r
    cases r1
    exact call_int_bool ⟨.int (if k then 1 else 0), H, I.tok _, ⟨_, rfl⟩, q⟩
end
open PySem PySem.Spec PyProof.Rows
structure ObjM (h : Heap) (x dx C : Addr) (mA : Str → Option Value) : Prop where
  obj : h.get? x = some (PySem.W.instObj C dx)
  ns : h.Ns1 dx mA
  ne : dx ≠ x
theorem lookIn_ns {h : Heap} {dx : Addr} {mA : Str → Option Value} (n : h.Ns1 dx mA) : ∃ od, h.get? dx = some od ∧ ∀ name, PySem.W.lookIn name od = some (mA name) := by
  obtain ⟨o, es, ep, ho, hd, hk, _, hm⟩ := n
  refine ⟨o, ho, fun name => ?_⟩
  have e := hm name
  unfold nsFind findBy at e
  rw [← Array.find?_toList] at e
  unfold PySem.W.lookIn
  rw [hd]
  dsimp only
  split
  · rename_i y q
    rw [q] at e
    exact congrArg some e
  · rename_i q
    rw [q] at e
    have a : es.toList.any (·.refKey) = false := by
      rw [List.any_eq_false]
      intro y hy
      obtain ⟨z, t, hkey⟩ := hk y (Array.mem_toList_iff.mp hy)
      simp [DictEntry.refKey, hkey]
    have a' : ¬ es.toList.any (·.refKey) = true := by rw [a]; exact Bool.false_ne_true
    rw [if_neg a']
    exact congrArg some e
theorem ObjM.look {h : Heap} {x dx C : Addr} {mA : Str → Option Value} (I : ObjM h x dx C mA) : ∃ od, PySem.W.InstAt h x (PySem.W.instObj C dx) C (some od) ∧ ∀ name, PySem.W.lookIn name od = some (mA name) :=
  let ⟨od, ho, hl⟩ := lookIn_ns I.ns
  ⟨od, ⟨I.obj, rfl, rfl, ho⟩, hl⟩
section
variable {prog : Program} {w : World} {A : Around} {E : Value → Shared → Prop} {s : Shared} {K : PySem.W.Frag} {x dx C f : Addr} {mA : Str → Option Value} {name : Str} {v : Value}
end
section
variable {P : Program} {w : World} {H H' : Hp} {h h' : Heap} {a C dx : Addr} {fs fs' : List (Str × V)}
theorem ins_get (hok : HOk P w H h) (e : H a = some (.ins C dx fs)) : ∃ mA, ObjM h a dx C mA ∧ (∀ f, RelO (fs.lookup f) (mA f)) ∧ PySem.Within mA (fs.map (·.1)) ∧ fs.length ≤ 1000 ∧ H dx = some (.own a) := by
  obtain ⟨d, z, ne, ob, mA, n, r, q⟩ := (show ObjOk P w H h a (.ins C dx fs) from hok a _ e)
  exact ⟨mA, ⟨ob, n, ne⟩, r, q, z, d⟩
end
structure Cls (K : PySem.W.Frag) (C : Addr) : Prop where
  pg : PySem.W.plainGet K C Str.empty = true
  hd : PySem.W.hasDictIn K C = true
  po : PySem.W.plainOver K C = true
  sa : PySem.W.findIn K (.ref C) "__setattr__" = some (some (.builtin "object.__setattr__"))
theorem Cls.get {K : PySem.W.Frag} {C : Addr} (c : Cls K C) (f : Str) : PySem.W.plainGet K C f = true := c.pg
section
variable {X : Cx} {pins : List (Addr × Obj)} {σ : St} {H : Hp} {s : Shared} {a C dx : Addr} {fs : List (Str × V)} {f : Str} {v : V} {A : Around} {E : Value → Shared → Prop}
end
section
variable {X : Cx} {o e value : Expr} {f : Str} {pos pos' tpos : Pos} {ta tv : TE}
end
section
variable {X : Cx} {pins : List (Addr × Obj)} {σ : St} {H : Hp} {s : Shared} {A : Around} {E : Value → Shared → Prop} {Q : Value → Shared → Prop} {c : Value} {b : Bool}
inductive TyOf (K : PySem.W.Frag) (H : Hp) : V → Value → Prop where
  | non : TyOf K H .non (.type "NoneType")
  | bl (x : Bool) : TyOf K H (.bl x) (.type "bool")
  | int (i : Int) : TyOf K H (.int i) (.type "int")
  | str (x : Str) : TyOf K H (.str x) (.type "str")
  | flt (x : UInt64) : TyOf K H (.flt x) (.type "float")
  | lst {a : Addr} {xs : List V} (e : H a = some (.lst xs)) : TyOf K H (.ref a) (.type "list")
  | frz {a : Addr} {o : Obj} {xs : List V} (e : H a = some (.frz o (.lst xs))) : TyOf K H (.ref a) (.type "list")
  | tup {a : Addr} {xs : List V} (e : H a = some (.tup xs)) : TyOf K H (.ref a) (.type "tuple")
  | dK {a : Addr} {kvs : List (Key × V)} (e : H a = some (.dK kvs)) : TyOf K H (.ref a) (.type "dict")
  | dT {a : Addr} {kvs : List (List Key × V)} (e : H a = some (.dT kvs)) : TyOf K H (.ref a) (.type "dict")
  | ins {a C dx : Addr} {fs : List (Str × V)} (e : H a = some (.ins C dx fs)) (cl : Cls K C) (ha : PySem.W.findIn K (.ref C) "__class__" = some (some (.builtin "object.__class__")))
      (hn : PySem.W.specialIn K (.builtin "object.__class__") "__get__" = some (some (.builtin "getset_descriptor.__get__"))) (htk : PySem.W.takesIn K (.builtin "object.__class__") = some true)
      (hm : PySem.W.mroIn K C (.type "object") = some true) : TyOf K H (.ref a) (.ref C)
theorem isinst_ok {x : V} {u t : Value} (I : Inv X pins σ H s) (rx : RelV x u) (ty : TyOf X.K H x t) (e : PySem.W.kitOne X.K t c = some b) (h : ∀ tk, Q (.bool b) { s with toks := tk }) :
    wpAny (model X.prog X.w) A (call (.builtin "isinstance") [u, c]) Q E s := by
  cases ty with
  | non => cases (show u = Value.none from rx); exact PySem.W.kia_one PySem.W.kitx_none I.kIn True.intro e (fun z => nomatch z) h
  | bl y => cases (show u = Value.bool y from rx); exact PySem.W.kia_one PySem.W.kitx_bool I.kIn True.intro e (fun z => nomatch z) h
  | int i => obtain ⟨t, q⟩ := (show ∃ t, u = Value.int i t from rx); cases q; exact PySem.W.kia_one PySem.W.kitx_int I.kIn True.intro e (fun z => nomatch z) h
  | str y => obtain ⟨t, q⟩ := (show ∃ t, u = Value.str y t from rx); cases q; exact PySem.W.kia_one PySem.W.kitx_str I.kIn True.intro e (fun z => nomatch z) h
  | flt y => obtain ⟨t, q⟩ := (show ∃ t, u = Value.float y t from rx); cases q; exact PySem.W.kia_one PySem.W.kitx_float I.kIn True.intro e (fun z => nomatch z) h
  | @lst a xs ea =>
    cases (show u = Value.ref a from rx)
    obtain ⟨_, _, n, _, h1⟩ := (show ObjOk X.prog X.w H s.heap a (.lst xs) from I.hok a _ ea)
    exact PySem.W.kia_one PySem.W.kitx_list I.kIn ⟨_, h1, rfl⟩ e (fun z => nomatch z) h
  | @frz a ob xs ea =>
    cases (show u = Value.ref a from rx)
    obtain ⟨_, _, _, n, _, h1⟩ := (show ObjOk X.prog X.w H s.heap a (.frz ob (.lst xs)) from I.hok a _ ea)
    exact PySem.W.kia_one PySem.W.kitx_list I.kIn ⟨_, h1, rfl⟩ e (fun z => nomatch z) h
  | @tup a xs ea =>
    cases (show u = Value.ref a from rx)
    obtain ⟨_, _, _, p⟩ := (show ObjOk X.prog X.w H s.heap a (.tup xs) from I.hok a _ ea)
    obtain ⟨o, h1, h2, _⟩ := p
    exact PySem.W.kia_one PySem.W.kitx_tuple I.kIn ⟨o, h1, h2⟩ e (fun z => nomatch z) h
  | @dK a kvs ea =>
    cases (show u = Value.ref a from rx)
    obtain ⟨_, _, vs, _, p⟩ := (show ObjOk X.prog X.w H s.heap a (.dK kvs) from I.hok a _ ea)
    obtain ⟨o, es, ep, h1, h2, _⟩ := p
    exact PySem.W.kia_one PySem.W.kitx_dict I.kIn ⟨o, h1, h2.1⟩ e (fun z => nomatch z) h
  | @dT a kvs ea =>
    cases (show u = Value.ref a from rx)
    obtain ⟨_, _, xs, _, o, es, ep, h1, h2, _⟩ := (show ObjOk X.prog X.w H s.heap a (.dT kvs) from I.hok a _ ea)
    exact PySem.W.kia_one PySem.W.kitx_dict I.kIn ⟨o, h1, h2.1⟩ e (fun z => nomatch z) h
  | @ins a C dx fs ea cl ha hn htk hm =>
    cases (show u = Value.ref a from rx)
    obtain ⟨mA, O, _⟩ := ins_get I.hok ea
    obtain ⟨od, J, _⟩ := O.look
    exact PySem.W.kia_one (PySem.W.kitx_own (cl.get _) cl.hd ha hn htk hm) I.kIn J e (fun z => nomatch z) h
end
open PySem PySem.Spec PyProof.Rows
structure Room (k : Nat) (A : Around) : Prop where
  hd : A.handled = none
  dp : A.depth + 3 * k + 5 < recursionLimit
  un : A.units + 16 * k + 200 < cLine
  gd : A.guards = some []
theorem Room.mono {j k : Nat} {A : Around} (r : Room k A) (h : j ≤ k) : Room j A := ⟨r.hd, by have := r.dp; omega, by have := r.un; omega, r.gd⟩
theorem Room.deeper {k : Nat} {A : Around} (r : Room (k + 1) A) (env : Env) : Room k (A.deeper env) :=
  ⟨r.hd, by have := r.dp; show A.depth + 1 + 3 * k + 5 < _; omega, by have := r.un; show A.units + 3 + 16 * k + 200 < _; omega, r.gd⟩
theorem Room.depth {k : Nat} {A : Around} (r : Room k A) : A.depth < recursionLimit := by have := r.dp; omega
theorem Room.units {k : Nat} {A : Around} (r : Room k A) : A.units + 64 < cLine := by have := r.un; omega
def tNil : TA := fun _ H Q => Q [] H
def tCons (ta : TE) (tr : TA) : TA := fun σ H Q => ta σ H fun x H1 => tr σ H1 fun xs H2 => Q (x :: xs) H2
section
variable {X : Cx} {e : Expr} {es : List Expr} {te : TE} {t : TA} {pos : Pos}
theorem pa_nil : PA X [] tNil := fun _ _ _ _ H Q I h => Calls.spliced_nil ⟨[], H, I, .nil, h⟩
theorem pa_cons (ha : PE X e te) (hr : PA X es t) (hs : starEach (e :: es) X.env = (false, eval e X.env) :: starEach es X.env := by rfl) : PA X (e :: es) (tCons te t) := by
  intro pos pins s σ H Q I h
  rw [hs]
  show wpAny _ _ (spliced ((false, eval e X.env) :: backTo pos (starEach es X.env))) _ _ s
  refine Calls.spliced_cons (thn (ha pins s σ H _ I h) fun u s1 ⟨x, H1, I1, r1, q1⟩ => ?_)
  exact thn (hr pos pins s1 σ H1 _ I1 q1) fun us s2 ⟨xs, H2, I2, r2, q2⟩ => ⟨x :: xs, H2, I2, .cons r1 r2, q2⟩
def tTup (t : TA) : TE := fun σ H Q => t σ H fun xs H1 => xs.length ≤ sizeLine ∧ ∀ p, H1 p = none → Q (.ref p) (upd H1 p (.tup xs))
def tLst (t : TA) : TE := fun σ H Q => t σ H fun xs H1 => xs.length ≤ sizeLine ∧ ∀ p, H1 p = none → Q (.ref p) (upd H1 p (.lst xs))
theorem pe_tup {x1} (h : PA X es t) : PE X (.Tuple es x1 pos) (tTup t) := by
  intro pins s σ H Q I hq
  refine wpAny_Tuple_spliced (thn (h pos pins s σ H _ I hq) fun us s1 ⟨xs, H1, I1, r, z, q⟩ => ⟨by rw [← r.length]; exact z, ?_⟩)
  have hf : H1 s1.heap.objs.size = none := I1.hok.fresh (Nat.le_refl _)
  refine ⟨.ref s1.heap.objs.size, upd H1 s1.heap.objs.size (.tup xs), I1.laid (t' := s1.toks) (fun b u e => Heap.get?_push_of_some _ e) (Nat.le_refl _) ?_, rfl, q _ hf⟩
  exact ⟨z, us, r, ⟨_, Heap.get?_push_size _ rfl, rfl, _, rfl⟩⟩
theorem pe_lst (h : PA X es t) : PE X (.List es pos) (tLst t) := by
  intro pins s σ H Q I hq
  refine wpAny_List_spliced (thn (h pos pins s σ H _ I hq) fun us s1 ⟨xs, H1, I1, r, z, q⟩ => ⟨by rw [← r.length]; exact z, ?_⟩)
  have hf : H1 s1.heap.objs.size = none := I1.hok.fresh (Nat.le_refl _)
  refine ⟨.ref s1.heap.objs.size, upd H1 s1.heap.objs.size (.lst xs), I1.laid (t' := s1.toks) (fun b u e => Heap.get?_push_of_some _ e) (Nat.le_refl _) ?_, rfl, q _ hf⟩
  exact ⟨z, us, 0, r, Heap.get?_push_size _ rfl⟩
end
abbrev Sp := List V → Hp → VK → XK → Prop
abbrev CXT := List Env → Hp → Shared → XK → Value → Shared → Prop
structure Env0 (P : Program) (w : World) (K : PySem.W.Frag) (mg : Str → Option Value) (base : Heap) (A : Around) (outer : List Env) (s : Shared) (H : Hp) : Prop where
  frames : A.frames = some outer
  mod : Mod K mg base
  bs : ∀ b o, base.get? b = some o → s.heap.get? b = some o ∧ H b = none
  bsz : base.objs.size ≤ s.heap.objs.size
  funs : s.heap.FunFrames base outer
  frf : ∀ b ∈ frs outer, H b = none
  hok : HOk P w H s.heap
  bare : AllBare s.gens
def CE (outer : List Env) (P : Program) (w : World) (H : Hp) (s : Shared) (Q : VK) (u : Value) (s' : Shared) : Prop :=
  ∃ v H', s'.os = s.os ∧ AllBare s'.gens ∧ Un (frs outer) [] H H' s.heap s'.heap ∧ HOk P w H' s'.heap ∧ RelV v u ∧ Q v H'
def CR (CX : CXT) (outer : List Env) (P : Program) (w : World) (H : Hp) (s : Shared) (Q : VK) (E : XK) (r : Result) (s' : Shared) : Prop :=
  match r with
  | .ok (.ret u) => CE outer P w H s Q u s'
  | .ok _ => False
  | .error e => CX outer H s E e s'
structure FnOk (P : Program) (w : World) (K : PySem.W.Frag) (mg : Str → Option Value) (base : Heap) (CX : CXT) (k : Nat) (f : Addr) (fd : FuncData) (ps : List Str) (sp : Sp) : Prop where
  len : ∀ vs H Q E, sp vs H Q E → vs.length = ps.length
  run : ∀ (A : Around) (outer : List Env) (s : Shared) (H : Hp) (args : Args) (us : List Value) (vs : List V) (Q : VK) (E : XK), Room k A → Env0 P w K mg base A outer s H → BindsTo s fd args (ps.zip us) → Vals vs us → sp vs H Q E →
    codeAny (model P w) A (.call (.ref f) args) (CR CX outer P w H s Q E) s
theorem FnOk.mono {P : Program} {w : World} {K : PySem.W.Frag} {mg : Str → Option Value} {base : Heap} {CX : CXT} {j k : Nat} {f : Addr} {fd : FuncData} {ps : List Str} {sp : Sp} (F : FnOk P w K mg base CX j f fd ps sp) (h : j ≤ k) :
    FnOk P w K mg base CX k f fd ps sp := ⟨F.len, fun A outer s H args us vs Q E hr => F.run A outer s H args us vs Q E (hr.mono h)⟩
section
variable {X : Cx} {pins : List (Addr × Obj)} {σ : St} {H : Hp} {s s' : Shared}
theorem Inv.env0 (I : Inv X pins σ H s) : Env0 X.prog X.w X.K X.mg X.base X.A X.stack s H :=
  ⟨I.ok.frames, I.ok.mod, I.bs, Nat.le_trans I.ok.bsz I.sz, I.stack, I.stkFree, I.hok, I.bare⟩
theorem Inv.after {Q : VK} {u : Value} (I : Inv X pins σ H s) (h : CE X.stack X.prog X.w H s Q u s') : EP X pins σ Q u s' := by
  obtain ⟨v, H', os, bare, un, hok, r, q⟩ := h
  obtain ⟨hh, g, d, t, os'⟩ := s'
  obtain rfl : os' = s.os := os
  exact ⟨v, H', I.call (h' := hh) (g' := g) (d' := d) (t' := t) (ch := []) un hok bare (fun b z => absurd z (by simp)), r, q⟩
end
def tCall (sp : Sp) (dvs : List V) (E : XK) (t : TA) : TE := fun σ H Q => t σ H fun vs H1 => sp (vs ++ dvs) H1 Q E
def Binds (K : PySem.W.Frag) (fd : FuncData) (ps : List Str) (ds : List Value) : Prop :=
  ∀ (s : Shared) (us : List Value), K.In s.heap → (us ++ ds).length = ps.length → BindsTo s fd ⟨us, []⟩ (ps.zip (us ++ ds))
theorem Binds.all {K : PySem.W.Frag} {fd : FuncData} {ps : List Str} (h : ∀ us : List Value, us.length = ps.length → bindArgs fd ⟨us, []⟩ = pure (ps.zip us)) : Binds K fd ps [] := fun s us _ hl => by
  rw [List.append_nil] at hl ⊢
  exact .of_eq (h us hl)
def Passes (CX : CXT) (X : Cx) (E : XK) : Prop := ∀ (pins : List (Addr × Obj)) (σ : St) (H : Hp) (s : Shared) (e : Value) (s' : Shared), Inv X pins σ H s → CX X.stack H s E e s' → X.xe e s'
section
variable {X : Cx} {CX : CXT} {k : Nat} {f C : Addr} {fd : FuncData} {ps : List Str} {sp : Sp} {dvs : List V} {ds : List Value} {E : XK} {x m : Str} {p pos apos : Pos} {e o : Expr} {es : List Expr} {ta : TE} {t : TA}
theorem run_fn {pins : List (Addr × Obj)} {σ : St} {H : Hp} {s : Shared} {Q : VK} {us : List Value} {vs : List V} (F : FnOk X.prog X.w X.K X.mg X.base CX k f fd ps sp) (hr : Room k X.A) (hb : Binds X.K fd ps ds) (hd : Vals dvs ds) (hx : Passes CX X E)
    (I : Inv X pins σ H s) (r : Vals vs us) (h : sp (vs ++ dvs) H Q E) : wpAny (model X.prog X.w) X.A (call (.ref f) us) (EP X pins σ Q) X.xe s := by
  have r2 : Vals (vs ++ dvs) (us ++ ds) := r.append hd
  have hl : (us ++ ds).length = ps.length := by rw [← r2.length]; exact F.len _ _ _ _ h
  refine wpAny_call (codeAny_mono (F.run X.A X.stack s H ⟨us, []⟩ (us ++ ds) (vs ++ dvs) Q E hr I.env0 (hb s us I.kIn hl) r2 h) fun r s' hq => ?_)
  cases r with
  | error e => exact hx pins σ H s e s' I hq
  | ok fl =>
    cases fl with
    | ret u => exact I.after hq
    | next => exact False.elim hq
    | brk => exact False.elim hq
    | cont => exact False.elim hq
theorem pe_call (F : FnOk X.prog X.w X.K X.mg X.base CX k f fd ps sp) (hr : Room k X.A) (hg : Gl X x) (hm : X.mg x = some (.ref f)) (hk : PySem.W.keepIn X.K (.ref f) = true) (hb : Binds X.K fd ps ds) (hd : Vals dvs ds) (hx : Passes CX X E)
    (ha : PA X (e :: es) t) (hdb : (x == ("__debug__" : Str)) = false := by decide) (he : starEach (e :: es) X.env = (false, eval e X.env) :: starEach es X.env := by rfl) (hpl : (backTo pos (starEach es X.env)).any (·.1) = false := by rfl) :
    PE X (.Call (.Name x p) (e :: es) [] pos) (tCall sp dvs E t) := by
  intro pins s σ H Q I h
  refine wpAny_Call_Name_kw (ld_glob I hg hm ?_ hdb)
  refine PySem.W.callWith_K (h₀ := X.base) I.ok.mod.kin hk (thn (ha pos pins s σ H _ I h) fun us s1 ⟨vs, H1, I1, r, q⟩ => ⟨I1.kIn, ?_⟩) he hpl
  exact run_fn F hr hb hd hx I1 r q
end
section
variable {X : Cx} {CX : CXT} {k : Nat} {f C : Addr} {fd : FuncData} {ps ks : List Str} {sp : Sp} {E : XK} {x m : Str} {p pos apos kpos : Pos} {e o : Expr} {es : List Expr} {kws : List Keyword} {te ta : TE} {t tk : TA} {nm : Option Str}
variable {g : List Value → List Value → List Value} {gV : List V → List V → List V}
end
structure FnScope (N P : List Str) (sc : Scope) : Prop where
  kind : sc.kind = .function
  co : sc.isCoroutine = false
  gen : sc.isGenerator = false
  nd : N.Nodup
  pre : N.take P.length = P
  par : ∀ x ∈ P, sc.names.lookup x = some .local ∨ sc.names.lookup x = some .cell
  nofree : ∀ y ∈ sc.names, y.2 ≠ .free
theorem bindL_out {kindOf : Str → Option NameKind} {x : Str} : ∀ {binds : List (Str × Value)} {m : Str → Option Value}, (∀ v, (x, v) ∉ binds) → bindL kindOf binds m x = m x
  | [], _, _ => rfl
  | (n, v) :: r, m, h => by
    unfold bindL
    rw [bindL_out fun w hw => h w (List.mem_cons_of_mem _ hw)]
    split
    · have : x ≠ n := by rintro rfl; exact h v List.mem_cons_self
      simp [this]
    · rfl
theorem bindC_out {kindOf : Str → Option NameKind} {x : Str} : ∀ {binds : List (Str × Value)} {m : Str → Option Value}, (∀ v, (x, v) ∉ binds) → bindC kindOf binds m x = m x
  | [], _, _ => rfl
  | (n, v) :: r, m, h => by
    unfold bindC
    rw [bindC_out fun w hw => h w (List.mem_cons_of_mem _ hw)]
    split
    · rfl
    · have : x ≠ n := by rintro rfl; exact h v List.mem_cons_self
      simp [this]
theorem bindL_get {kindOf : Str → Option NameKind} {x : Str} {v : Value} : ∀ {P : List Str} {vs : List Value} {i : Nat} {m : Str → Option Value}, P.Nodup → P[i]? = some x → vs[i]? = some v → kindOf x = some .local →
    bindL kindOf (P.zip vs) m x = some v
  | [], _, _, _, _, h, _, _ => by simp at h
  | _ :: _, [], _, _, _, _, h, _ => by simp at h
  | p :: P, w :: vs, 0, m, nd, h1, h2, hk => by
    simp at h1 h2; subst h1; subst h2
    show bindL kindOf ((p, w) :: P.zip vs) m p = _
    unfold bindL
    rw [bindL_out fun v hv => (List.nodup_cons.mp nd).1 (List.of_mem_zip hv).1, if_pos hk]
    simp
  | p :: P, w :: vs, i + 1, m, nd, h1, h2, hk => by
    show bindL kindOf ((p, w) :: P.zip vs) m x = _
    unfold bindL
    exact bindL_get (i := i) (List.nodup_cons.mp nd).2 (by simpa using h1) (by simpa using h2) hk
theorem bindC_get {kindOf : Str → Option NameKind} {x : Str} {v : Value} : ∀ {P : List Str} {vs : List Value} {i : Nat} {m : Str → Option Value}, P.Nodup → P[i]? = some x → vs[i]? = some v → kindOf x ≠ some .local →
    bindC kindOf (P.zip vs) m x = some v
  | [], _, _, _, _, h, _, _ => by simp at h
  | _ :: _, [], _, _, _, _, h, _ => by simp at h
  | p :: P, w :: vs, 0, m, nd, h1, h2, hk => by
    simp at h1 h2; subst h1; subst h2
    show bindC kindOf ((p, w) :: P.zip vs) m p = _
    unfold bindC
    rw [bindC_out fun v hv => (List.nodup_cons.mp nd).1 (List.of_mem_zip hv).1, if_neg hk]
    simp
  | p :: P, w :: vs, i + 1, m, nd, h1, h2, hk => by
    show bindC kindOf ((p, w) :: P.zip vs) m x = _
    unfold bindC
    exact bindC_get (i := i) (List.nodup_cons.mp nd).2 (by simpa using h1) (by simpa using h2) hk
def start (N : List Str) (vs : List V) : St := vs.map some ++ List.replicate (N.length - vs.length) none
def cxOf (CX : CXT) (P : Program) (w : World) (K : PySem.W.Frag) (mg : Str → Option Value) (base : Heap) (N : List Str) (qual : Str) (scope : Scope) (f : Addr) (cd : Value) (A : Around) (outer : List Env) (s : Shared) (H : Hp) (E : XK) : Cx where
  prog := P
  w := w
  K := K
  mg := mg
  base := base
  A := A.deeper (envOfC qual scope s.heap.objs.size f cd)
  N := N
  s₀ := s
  H₀ := H
  env := envOfC qual scope s.heap.objs.size f cd
  outer := outer
  stack := envOfC qual scope s.heap.objs.size f cd :: outer
  ex := []
  calm := true
  fn := fun _ => true
  pn := []
  xe := fun e s' => wpAny (model P w) (A.deeper (envOfC qual scope s.heap.objs.size f cd)) (leaving (envOfC qual scope s.heap.objs.size f cd) e) (fun _ s'' => CX outer H s E e s'') (fun e' s'' => CX outer H s E e' s'') s'
theorem cell_has {sc : Scope} {n : Nat} {x : Str} (h : sc.names.lookup x = some .cell) : ∃ c, (cellsFrom n sc.names []).lookup x = some c := by
  have q := PySem.W.cellsFrom_some sc.names n [] (.inl h)
  exact Option.isSome_iff_exists.mp q
theorem inv_start {CX : CXT} {P : Program} {w : World} {K : PySem.W.Frag} {mg : Str → Option Value} {base : Heap} {N ps : List Str} {qual : Str} {scope : Scope} {f : Addr} {cd : Value} {A : Around} {outer : List Env} {s s1 : Shared} {H : Hp} {E : XK} {us : List Value} {vs : List V}
    (S : FnScope N ps scope) (hd : A.handled = none) (e0 : Env0 P w K mg base A outer s H) (hl : vs.length = ps.length) (r : Vals vs us)
    (x : InCallC s s.heap.objs.size (bindL (envOfC qual scope s.heap.objs.size f cd).kindOf (ps.zip us) fun _ => none) (cellsFrom (s.heap.objs.size + 1) scope.names []) (bindC (envOfC qual scope s.heap.objs.size f cd).kindOf (ps.zip us) fun _ => none) s1) :
    Inv (cxOf CX P w K mg base N qual scope f cd A outer s H E) [] (start N vs) H s1 := by
  have hpl : ps.length ≤ N.length := by have := congrArg List.length S.pre; rw [List.length_take] at this; omega
  obtain ⟨h1, tk, rfl, hk⟩ := x.done
  have noA : ∀ b : Addr, b ∉ (cxOf CX P w K mg base N qual scope f cd A outer s H E).ex := fun b z => absurd (show b ∈ ([] : List Addr) from z) (by simp)
  refine ⟨⟨e0.mod, S.kind, rfl, rfl, Nat.le_refl _, fun y z c h1 h2 => ?_, fun y hy => ?_, fun y c _ h => ?_, fun _ => hd, Around.frames_deeper e0.frames, .inr ⟨rfl, rfl⟩, fun b z => absurd z (noA b), e0.bs, e0.bsz, fun b _ _ => noA b, fun b z => absurd z (noA b), e0.funs, e0.frf⟩,
    rfl, e0.bare, Un.kept hk, ⟨_, x.toInCall.ns, fun i y v h1 h2 h3 => ?_⟩, fun y c h => ⟨_, x.cell y c h⟩, e0.hok.fresh (Nat.le_refl _), fun y c h => ?_, fun p hp => absurd (show p ∈ ([] : List (Addr × Obj)) from hp) (by simp), e0.hok.kept hk, ?_⟩
  · exact name_of_addr x.apart (PySem.mem_of_lookup h1) (PySem.mem_of_lookup h2)
  · have hy : scope.names.lookup y = some .cell ∨ scope.names.lookup y = some .free := hy
    rcases hy with hy | hy
    · exact cell_has hy
    · exact absurd rfl (S.nofree _ (PySem.mem_of_lookup hy))
  · exact Nat.le_of_lt (x.above y c (PySem.mem_of_lookup h))
  · have hi : i < vs.length := by
      unfold start at h2
      by_cases hi : i < vs.length
      · exact hi
      · rw [List.getElem?_append_right (by simpa using hi)] at h2
        rw [List.getElem?_replicate] at h2
        split at h2 <;> cases h2
    have ha : vs[i]? = some v := by
      unfold start at h2
      rw [List.getElem?_append_left (by simpa using hi), List.getElem?_map] at h2
      cases e : vs[i]? with
      | none => rw [e] at h2; cases h2
      | some a => rw [e] at h2; cases h2; rfl
    obtain ⟨u, hu, rv⟩ := r.get ha
    have hp : ps[i]? = some y := by
      rw [← S.pre, List.getElem?_take_of_lt (by omega)]; exact h1
    have ndP : ps.Nodup := by rw [← S.pre]; exact S.nd.sublist (List.take_sublist _ _)
    refine ⟨u, rv, ?_⟩
    rcases S.par y (List.mem_of_getElem? hp) with k | k
    · exact .inl ⟨k, bindL_get ndP hp hu k⟩
    · obtain ⟨c, e⟩ := cell_has (n := s.heap.objs.size + 1) k
      refine .inr ⟨.inl k, c, e, ?_⟩
      have q := x.cell y c e
      rw [bindC_get ndP hp hu (by show scope.names.lookup y ≠ _; rw [k]; decide)] at q
      exact q
  · exact e0.hok.fresh (Nat.le_of_lt (x.above y c (PySem.mem_of_lookup h)))
  · unfold start
    show _ = N.length
    rw [List.length_append, List.length_map, List.length_replicate]
    omega
theorem fn_of {CX : CXT} {P : Program} {w : World} {K : PySem.W.Frag} {mg : Str → Option Value} {base : Heap} {k : Nat} {f : Addr} {name qual : Str} {params : Arguments} {body : List Stmt} {scope : Scope} {dV kV doc pm cdv ct oc : Value} {an od : Option Addr}
    {osl : Array (Option Value)} {N ps : List Str} {sp : Sp} (lk : K.lookup f = some ⟨oc, od, .func (PySem.W.fnOf name qual params body scope dV kV doc pm an cdv ct), osl⟩) (hcd : PySem.W.codeIn K cdv qual = true) (S : FnScope N ps scope)
    (len : ∀ vs H Q E, sp vs H Q E → vs.length = ps.length)
    (hbody : ∀ (A : Around) (outer : List Env) (s : Shared) (H : Hp) (vs : List V) (Q : VK) (E : XK), Room k (A.deeper (envOfC qual scope s.heap.objs.size f cdv)) → sp vs H Q E →
      ∃ t, PSs (cxOf CX P w K mg base N qual scope f cdv A outer s H E) body t ∧ t { nx := fun _ H' => Q .non H', rt := Q } (start N vs) H) :
    FnOk P w K mg base CX (k + 1) f (PySem.W.fnOf name qual params body scope dV kV doc pm an cdv ct) ps sp := by
  refine ⟨len, fun A outer s H args us vs Q E hr e0 hb r hsp => ?_⟩
  have hl := len _ _ _ _ hsp
  have KX : K.In s.heap := e0.mod.kin.keeps fun b o e => (e0.bs b o e).1
  have lim : s.heap.NoLimit := e0.mod.nolimit.keeps fun b o e => (e0.bs b o e).1
  have hkind : ∀ y ∈ ps.zip us, scope.names.lookup y.1 = some .local ∨ (scope.names.lookup y.1 = some .cell ∧ ((cellsFrom (s.heap.objs.size + 1) scope.names []).lookup y.1).isSome = true) := fun ⟨n, v⟩ hy => by
    rcases S.par n (List.of_mem_zip hy).1 with q | q
    · exact .inl q
    · exact .inr ⟨q, PySem.W.cellsFrom_some _ _ _ (.inl q)⟩
  refine codeAny_call_function hr.depth (KX _ _ lk) rfl S.co S.gen rfl (PySem.W.codeRec_of KX hcd) (hb _ _ _ _ ?_)
  refine wpAny_newFunctionEnv_cells S.kind hkind fun env he s1 x => ?_
  subst he
  refine ⟨lim.keeps x.toInCall.keep, codeAny_func ?_⟩
  obtain ⟨t, ht, hq⟩ := hbody A outer s H vs Q E (hr.deeper _) hsp
  have I : Inv (cxOf CX P w K mg base N qual scope f cdv A outer s H E) [] (start N vs) H s1 := inv_start S hr.hd e0 hl r x
  refine wpAny_mono (ht [] s1 (start N vs) H _ I hq) (fun fl s' hs => ?_) fun e s' hs => hs
  have fin : ∀ {σ' : St} {H' : Hp} {v : V} {u : Value}, Inv (cxOf CX P w K mg base N qual scope f cdv A outer s H E) [] σ' H' s' → RelV v u → Q v H' → CE outer P w H s Q u s' :=
    fun {σ' H' v u} J rv q => ⟨v, H', J.os, J.bare, J.base, J.hok, rv, q⟩
  cases fl with
  | ret u =>
    obtain ⟨v, σ', H', J, rv, q⟩ := hs
    exact fin J rv q
  | next =>
    obtain ⟨σ', H', J, q⟩ := hs
    exact fin (v := V.non) (u := Value.none) J rfl q
  | brk =>
    obtain ⟨_, _, _, q⟩ := hs
    exact False.elim q
  | cont =>
    obtain ⟨_, _, _, q⟩ := hs
    exact False.elim q
open PySem PySem.Spec PyProof.Rows
section
variable {X : Cx} {x : Str} {p pos : Pos} {e : Expr} {es : List Expr} {t : TA} {id T : String} {r : List V → Hp → VK → Prop}
def tCB (r : List V → Hp → VK → Prop) (t : TA) : TE := fun σ H Q => t σ H fun vs H1 => r vs H1 Q
theorem pe_callB (hc : CallR X (.builtin id) r) (hg : Gl X x) (hm : X.mg x = none) (hv : bootBuiltins x = some (.builtin id)) (ha : PA X (e :: es) t) (hn : x ≠ "__name__" := by decide) (hdb : (x == ("__debug__" : Str)) = false := by decide)
    (he : starEach (e :: es) X.env = (false, eval e X.env) :: starEach es X.env := by rfl) (hpl : (backTo pos (starEach es X.env)).any (·.1) = false := by rfl) : PE X (.Call (.Name x p) (e :: es) [] pos) (tCB r t) := by
  intro pins s σ H Q I h
  refine wpAny_Call_Name_kw (ld_blt I hg hm hv ?_ hn hdb)
  exact PyProof.Rows.callWith_builtin1 (thn (ha pos pins s σ H _ I h) fun us s1 ⟨vs, H1, I1, r1, q1⟩ => hc pins s1 σ H1 vs us Q I1 r1 q1) he hpl
theorem pe_callTy (hc : CallR X (.type T) r) (hg : Gl X x) (hm : X.mg x = none) (hv : bootBuiltins x = some (.type T)) (ha : PA X (e :: es) t) (hn : x ≠ "__name__" := by decide) (hdb : (x == ("__debug__" : Str)) = false := by decide)
    (he : starEach (e :: es) X.env = (false, eval e X.env) :: starEach es X.env := by rfl) (hpl : (backTo pos (starEach es X.env)).any (·.1) = false := by rfl) : PE X (.Call (.Name x p) (e :: es) [] pos) (tCB r t) := by
  intro pins s σ H Q I h
  refine wpAny_Call_Name_kw (ld_blt I hg hm hv ?_ hn hdb)
  exact PyProof.Rows.callWith_type1 (thn (ha pos pins s σ H _ I h) fun us s1 ⟨vs, H1, I1, r1, q1⟩ => hc pins s1 σ H1 vs us Q I1 r1 q1) he hpl
end
end L2
namespace HT
open PySem PyProof.Rows
section
open PySem.SeqAt
open PySem.AutoSeq1 (wpAny_loadPart')
open PySem.MeetsSeq PySem.MeetsSeq2 PySem.MeetsSeq3
end
section
variable {prog : Program} {w : World} {A : Around} {E : Value → Shared → Prop} {s : Shared}
def sIx (n d : Nat) : Option Int → Nat
  | none => d
  | some v => if v < 0 then (v + (n : Int)).toNat else min v.toNat n
theorem sIx_none (n d : Nat) : sIx n d none = d := rfl
theorem sIx_nat (n d k : Nat) : sIx n d (some (k : Int)) = min k n := by
  show (if (k : Int) < 0 then ((k : Int) + (n : Int)).toNat else min (k : Int).toNat n) = min k n
  rw [if_neg (by omega), Int.toNat_natCast]
end
end HT
namespace L2
open PySem PySem.Spec PyProof.Rows
abbrev TO := St → Hp → (Option Int → Hp → Prop) → Prop
def PO (X : Cx) (e : Option Expr) (t : TO) : Prop :=
  ∀ (pins : List (Addr × Obj)) (s : Shared) (σ : St) (H : Hp) (Q : Option Int → Hp → Prop), Inv X pins σ H s → t σ H Q →
    wpAny (model X.prog X.w) X.A (evalPart e X.env) (fun u s' => ∃ o H', Inv X pins σ H' s' ∧ IsPart u o ∧ Q o H') X.xe s
def tNoPart : TO := fun _ H Q => Q none H
def tPart (t : TE) : TO := fun σ H Q => t σ H fun x H1 => ∃ i, x = .int i ∧ Q (some i) H1
section
variable {X : Cx} {e : Expr} {te : TE} {lo hi : Option Expr} {tl th : TO} {pos p2 : Pos}
theorem po_none : PO X none tNoPart := by
  intro pins s σ H Q I h
  rw [evalPart_none]
  exact wpAny_pure ⟨none, H, I, .none, h⟩
theorem po_some (h : PE X e te) : PO X (some e) (tPart te) := by
  intro pins s σ H Q I hw
  rw [evalPart_some]
  refine thn (h pins s σ H _ I hw) fun u s1 ⟨x, H1, I1, r1, q1⟩ => ?_
  obtain ⟨i, rfl, q⟩ := q1
  obtain ⟨t, rfl⟩ := r1
  exact ⟨some i, H1, I1, .int i t, q⟩
def SlR (X : Cx) (r : V → Option Int → Option Int → Hp → VK → Prop) : Prop :=
  ∀ (pins : List (Addr × Obj)) (s : Shared) (σ : St) (H : Hp) (x : V) (v vl vu : Value) (lo hi : Option Int) (sl : Addr) (Q : VK), Inv X pins σ H s → RelV x v → s.heap.IsSliceOf sl vl vu .none → IsPart vl lo → IsPart vu hi → r x lo hi H Q →
    ∃ T id, typeLookup (.type T) "__getitem__" = pure (some (.builtin id)) ∧ s.TypeIs v T ∧ wpAny (model X.prog X.w) X.A (getItem v (.ref sl)) (EP X pins σ Q) X.xe s
def tSl (r : V → Option Int → Option Int → Hp → VK → Prop) (te : TE) (tl th : TO) : TE := fun σ H Q => te σ H fun x H1 => tl σ H1 fun l H2 => th σ H2 fun u H3 => r x l u H3 Q
theorem pe_slice {r : V → Option Int → Option Int → Hp → VK → Prop} (hr : SlR X r) (he : PE X e te) (hl : PO X lo tl) (hu : PO X hi th) : PE X (.Subscript e (.Slice lo hi none p2) pos) (tSl r te tl th) := by
  intro pins s σ H Q I h
  refine Subscript_ (thn (he pins s σ H _ I h) fun v s1 ⟨x, H1, I1, r1, q1⟩ => ?_)
  refine wpAny_Slice (thn (hl pins s1 σ H1 _ I1 q1) fun vl s2 ⟨l, H2, I2, pl, q2⟩ => thn (hu pins s2 σ H2 _ I2 q2) fun vu s3 ⟨u, H3, I3, pu, q3⟩ => ?_)
  rw [evalPart_none]
  refine wpAny_pure ?_
  have I4 : Inv X pins σ H3 { s3 with heap := s3.heap.push { cls := .type "slice", data := .fields #[vl, vu, .none] } } := I3.kept (t' := s3.toks) fun b ob q => Heap.get?_push_of_some _ q
  obtain ⟨T, id, hT, ht, hg⟩ := hr pins { s3 with heap := s3.heap.push { cls := .type "slice", data := .fields #[vl, vu, .none] } } σ H3 x v vl vu l u s3.heap.objs.size Q I4 r1 (Heap.IsSliceOf.new ..) pl pu q3
  show wpAny (model X.prog X.w) X.A (subscriptTail e (.Slice lo hi none p2) v (.ref s3.heap.objs.size)) (EP X pins σ Q) X.xe { s3 with heap := s3.heap.push { cls := .type "slice", data := .fields #[vl, vu, .none] } }
  exact tail_any (ops := [.ref s3.heap.objs.size, v]) ht hT hg (by with_unfolding_all rfl)
def cutV (xs : List V) (lo hi : Option Int) : List V := (xs.drop (HT.sIx xs.length 0 lo)).take (HT.sIx xs.length xs.length hi - HT.sIx xs.length 0 lo)
theorem cutV_length (xs : List V) (lo hi : Option Int) : (cutV xs lo hi).length ≤ xs.length := by
  unfold cutV
  rw [List.length_take, List.length_drop]
  omega
end
open PySem PySem.Spec PyProof.Rows
def ixN (n : Nat) (i : Int) : Option Nat := if 0 ≤ i then (if i < n then some i.toNat else none) else if -(n : Int) ≤ i then some (i + n).toNat else none
def atI {α : Type} (xs : List α) (i : Int) : Option α := (ixN xs.length i).bind fun j => xs[j]?
theorem ixN_seq {n : Nat} {i : Int} {j : Nat} (h : ixN n i = some j) : seqIndex? i n = some j ∧ j < n ∧ -(n : Int) ≤ i ∧ i < n := by
  unfold ixN at h
  by_cases h0 : 0 ≤ i
  · rw [if_pos h0] at h
    by_cases h1 : i < n
    · rw [if_pos h1] at h
      have e : i.toNat = j := Option.some.inj h
      exact ⟨by rw [seqIndex_of h0 h1, e], by omega, by omega, h1⟩
    · rw [if_neg h1] at h; cases h
  · rw [if_neg h0] at h
    by_cases h1 : -(n : Int) ≤ i
    · rw [if_pos h1] at h
      have e : (i + n).toNat = j := Option.some.inj h
      exact ⟨by rw [seqIndex_neg (by omega) h1, e], by omega, h1, by omega⟩
    · rw [if_neg h1] at h; cases h
theorem atI_get {α : Type} {xs : List α} {i : Int} {v : α} (h : atI xs i = some v) : ∃ j, seqIndex? i xs.length = some j ∧ xs[j]? = some v ∧ j < xs.length ∧ -(xs.length : Int) ≤ i ∧ i < xs.length := by
  unfold atI at h
  cases e : ixN xs.length i with
  | none => rw [e] at h; cases h
  | some j =>
    rw [e] at h
    obtain ⟨h1, h2, h3, h4⟩ := ixN_seq e
    exact ⟨j, h1, h, h2, h3, h4⟩
theorem atI_nat {α : Type} {xs : List α} {j : Nat} {v : α} (h : xs[j]? = some v) : atI xs (j : Int) = some v := by
  have hj : j < xs.length := (List.getElem?_eq_some_iff.mp h).1
  have e : ixN xs.length (j : Int) = some j := by
    unfold ixN
    rw [if_pos (by omega), if_pos (by omega)]; simp
  unfold atI; rw [e]; exact h
def PlainIx (b : Expr) : Prop := ∀ o i, subscripted b false o i = operate [o, i] (getItem o i)
def IxR (X : Cx) (r : R2) : Prop :=
  ∀ (value slice : Expr) (pins : List (Addr × Obj)) (s : Shared) (σ : St) (H : Hp) (x y : V) (v u : Value) (Q : VK), Inv X pins σ H s → RelV x v → RelV y u → r x y H Q →
    subscripted slice false v u = operate [v, u] (getItem v u) → wpAny (model X.prog X.w) X.A (subscriptTail value slice v u) (EP X pins σ Q) X.xe s
def MtR (X : Cx) (id : String) (r : V → List V → Hp → VK → Prop) : Prop :=
  ∀ (pins : List (Addr × Obj)) (s : Shared) (σ : St) (H : Hp) (x : V) (xs : List V) (v : Value) (us : List Value) (Q : VK), Inv X pins σ H s → RelV x v → Vals xs us → r x xs H Q →
    wpAny (model X.prog X.w) X.A (call (.builtin id) (v :: us)) (EP X pins σ Q) X.xe s
section
variable {X : Cx} {a b : Expr} {ta tb : TE} {pos : Pos}
theorem pe_ix {r : R2} (hr : IxR X r) (ha : PE X a ta) (hb : PE X b tb) (hs : PlainIx b) : PE X (.Subscript a b pos) (tOp r ta tb) := by
  intro pins s σ H Q I h
  exact Subscript_ (binT ha hb I h fun v u s2 x y H2 I2 rx ry q => hr a b pins s2 σ H2 x y v u Q I2 rx ry q (hs _ _))
def rIxL (K : PySem.W.Frag) : R2 := fun x y H Q => ∃ p xs i v, x = .ref p ∧ y = .int i ∧ SqL K H p xs ∧ atI xs i = some v ∧ Q v H
def rIxS : R2 := fun x y H Q => ∃ z i c, x = .str z ∧ y = .int i ∧ z.length ≤ sizeLine ∧ atI z.cps.toList i = some c ∧ Q (.str ⟨#[c]⟩) H
theorem ix_list : IxR X (rIxL X.K) := by
  intro value slice pins s σ H x y v u Q I rx ry h hs
  obtain ⟨p, xs, i, z, rfl, rfl, hq, he, q⟩ := h
  cases rx
  obtain ⟨t, rfl⟩ := ry
  obtain ⟨its, r, pl, hz⟩ := I.list hq
  obtain ⟨j, h1, h2, h3, h4, h5⟩ := atI_get he
  obtain ⟨w, ew, rw'⟩ := r.get h2
  have hl := r.length
  have hn := line63
  have fin : EP X pins σ Q w s := ⟨z, H, I, rw', q⟩
  by_cases h0 : 0 ≤ i
  · have hj : i.toNat = j := by
      rw [seqIndex_of h0 h5] at h1
      exact Option.some.inj h1
    exact item_listR pl.isList h0 (by omega) (by rw [hj]; simpa using ew) fin hs
  · have hj : (i + (its.toArray.size : Int)).toNat = j := by
      rw [seqIndex_neg (by omega) h4] at h1
      rw [List.size_toArray, ← hl]
      exact Option.some.inj h1
    exact subscriptTail_builtinR (x := w) pl.isList.typeIs slot_list_getitem.lookup
      (wpAny_getItem_list_neg (Q := fun r s' => r = w ∧ EP X pins σ Q r s') pl.isList (by omega) (by rw [List.size_toArray] <;> omega) (by omega) (by rw [hj]; simpa using ew) ⟨rfl, fin⟩) hs
theorem ix_str : IxR X rIxS := by
  intro value slice pins s σ H x y v u Q I rx ry h hs
  obtain ⟨z, i, c, rfl, rfl, hz, he, q⟩ := h
  obtain ⟨t, rfl⟩ := rx
  obtain ⟨t', rfl⟩ := ry
  obtain ⟨j, h1, h2, h3, h4, h5⟩ := atI_get he
  have hl : z.cps.toList.length = z.length := by simp [Str.length]
  rw [hl] at h1 h4 h5
  have hn := line63
  exact tail_any (typeIs_str s z t) slot_str_getitem.lookup (getItem_str (c := c) (by
    have e1 : decide (i < -(2 ^ 63 : Int)) = false := decide_eq_false (by omega)
    have e2 : decide (i ≥ 2 ^ 63) = false := decide_eq_false (by omega)
    rw [e1, e2, Bool.or_false]) (by rw [h1]; simpa using h2) ⟨.str ⟨#[c]⟩, H, I.tok _, ⟨_, rfl⟩, q⟩) hs
theorem mapSeq_set (its : List Value) (n j : Nat) (u : Value) : Obj.mapSeq (·.setIfInBounds j u) { cls := .type "list", data := .seq its.toArray n } = { cls := .type "list", data := .seq (its.set j u).toArray n } := by
  simp [Obj.mapSeq]
theorem Inv.lst {pins : List (Addr × Obj)} {σ : St} {H : Hp} {s : Shared} {p : Addr} {xs : List V} (I : Inv X pins σ H s) (h : H p = some (.lst xs)) :
    ∃ (its : List Value) (n : Nat), Vals xs its ∧ s.heap.get? p = some { cls := .type "list", data := .seq its.toArray n } ∧ xs.length ≤ sizeLine := by
  obtain ⟨z, its, n, r, e⟩ := I.hok p _ h
  exact ⟨its, n, r, e, z⟩
theorem Inv.lstUpd {pins : List (Addr × Obj)} {σ : St} {H : Hp} {s : Shared} {p : Addr} {xs ys : List V} {its its' : List Value} {n n' : Nat} {f : Obj → Obj} (I : Inv X pins σ H s) (h : H p = some (.lst xs))
    (ho : s.heap.get? p = some { cls := .type "list", data := .seq its.toArray n }) (hf : f { cls := .type "list", data := .seq its.toArray n } = { cls := .type "list", data := .seq its'.toArray n' }) (r : Vals ys its') (hz : ys.length ≤ sizeLine) (t : Nat) :
    Inv X pins σ (upd H p (.lst ys)) { s with heap := s.heap.update p f, toks := t } := by
  have e : (s.heap.update p f).get? p = some { cls := .type "list", data := .seq its'.toArray n' } := by
    rw [Heap.get?_update_self f ho (by rw [hf] <;> rfl), hf]
  refine I.write (x := p) (e := p) (by rw [h]; trivial) (.inl rfl) (fun b u hb q => (Heap.get?_update_other _ _ (Ne.symm hb)).trans q) ⟨_, e⟩ ?_
  exact ⟨hz, its', n', r, e⟩
def rSetL : V → V → V → Hp → (Hp → Prop) → Prop := fun o i v H Q => ∃ p xs k j, o = .ref p ∧ i = .int k ∧ H p = some (.lst xs) ∧ ixN xs.length k = some j ∧ Q (upd H p (.lst (xs.set j v)))
theorem set_list : PSet X rSetL := by
  intro pins s σ H o i v ov iv u Q I ro ri rv h
  obtain ⟨p, xs, k, j, rfl, rfl, hp, hj, q⟩ := h
  cases ro
  obtain ⟨t, rfl⟩ := ri
  obtain ⟨its, n, r, ho, hz⟩ := I.lst hp
  obtain ⟨h1, h2, h3, h4⟩ := ixN_seq hj
  have hl := r.length
  have hn := line63
  have I' : Inv X pins σ (upd H p (.lst (xs.set j v))) { s with heap := s.heap.update p (Obj.mapSeq (·.setIfInBounds j u)) } :=
    I.lstUpd hp ho (mapSeq_set its n j u) (r.set rv j) (by rw [List.length_set]; exact hz) s.toks
  by_cases h0 : 0 ≤ k
  · have hk : k.toNat = j := by
      rw [seqIndex_of h0 h4] at h1
      exact Option.some.inj h1
    exact PySem.W.ki_setAt ho h0 (by omega) (by rw [List.size_toArray, ← hl]; exact h4) (by rw [hk]; exact ⟨_, I', q⟩)
  · have hk : (k + (its.toArray.size : Int)).toNat = j := by
      rw [seqIndex_neg (by omega) h3] at h1
      rw [List.size_toArray, ← hl]
      exact Option.some.inj h1
    exact PySem.W.ki_setBack ho (by omega) (by rw [List.size_toArray, ← hl]; exact h3) (by omega) (by rw [hk]; exact ⟨_, I', q⟩)
theorem slice_bounds (lo hi : Option Int) (n : Nat) : (sliceBounds lo hi none n).1 = ((HT.sIx n 0 lo : Nat) : Int) ∧ (sliceBounds lo hi none n).2.1 = ((HT.sIx n n hi : Nat) : Int) ∧ (sliceBounds lo hi none n).2.2 = 1 := by
  refine ⟨?_, ?_, rfl⟩
  · cases lo with
    | none => simp [sliceBounds, HT.sIx]
    | some i =>
      simp only [sliceBounds, HT.sIx, Option.getD_none, show (1 : Int) > 0 by decide, if_true]
      by_cases h : i < 0
      · simp only [h, if_true] <;> omega
      · simp only [h, if_false] <;> omega
  · cases hi with
    | none => simp [sliceBounds, HT.sIx]
    | some i =>
      simp only [sliceBounds, HT.sIx, Option.getD_none, show (1 : Int) > 0 by decide, if_true]
      by_cases h : i < 0
      · simp only [h, if_true] <;> omega
      · simp only [h, if_false] <;> omega
theorem slicePick_cut (its : List Value) (lo hi : Option Int) : slicePick its.toArray lo hi none = ((its.drop (HT.sIx its.length 0 lo)).take (HT.sIx its.length its.length hi - HT.sIx its.length 0 lo)).toArray := by
  obtain ⟨h1, h2, h3⟩ := slice_bounds lo hi its.toArray.size
  unfold slicePick
  rw [h1, h2, h3]
  simp only [sliceRange_one, pick_run, List.size_toArray] <;> rfl
def rSlL (K : PySem.W.Frag) : V → Option Int → Option Int → Hp → VK → Prop := fun x lo hi H Q => ∃ a xs, x = .ref a ∧ SqL K H a xs ∧ ∀ p, H p = none → Q (.ref p) (upd H p (.lst (cutV xs lo hi)))
theorem sl_list : SlR X (rSlL X.K) := by
  intro pins s σ H x v vl vu lo hi sl Q I rx hs pl pu h
  obtain ⟨a, xs, rfl, hx, q⟩ := h
  cases rx
  obtain ⟨its, r, ht, hz⟩ := I.list hx
  have hlen := r.length
  refine ⟨"list", _, slot_list_getitem.lookup, ht.isList.typeIs, ?_⟩
  refine wpAny_getItem_list_slice ht.isList hs pl pu .none (by simp) ?_ (by rw [List.size_toArray] <;> omega)
  rw [slicePick_cut, ← hlen]
  refine ⟨.ref s.heap.objs.size, _, I.laid (t' := s.toks) (o := .lst (cutV xs lo hi)) (fun b ob q => Heap.get?_push_of_some _ q) (Nat.le_refl _) ?_, rfl, q _ (I.hok.fresh (Nat.le_refl _))⟩
  exact ⟨Nat.le_trans (cutV_length xs lo hi) hz, _, 0, (r.drop (HT.sIx xs.length 0 lo)).take (HT.sIx xs.length xs.length hi - HT.sIx xs.length 0 lo), Heap.get?_push_size _ rfl⟩
def flatV : V → Bool
  | .non => true
  | .bl _ => true
  | .int _ => true
  | .str _ => true
  | _ => false
def eqV : V → V → Bool
  | .non, .non => true
  | .bl a, .bl b => a == b
  | .bl a, .int b => (if a then 1 else 0) == b
  | .int a, .bl b => a == (if b then 1 else 0)
  | .int a, .int b => a == b
  | .str a, .str b => a == b
  | _, _ => false
theorem eqAt_V {A : Around} {s : Shared} {y x : V} {u v : Value} (ry : RelV y u) (rx : RelV x v) (fy : flatV y = true) (fx : flatV x = true) : SeqAt.EqAt A s u v (eqV y x) := by
  cases y with
  | non =>
    cases ry
    cases x with
    | non => cases rx; exact SeqAt.EqAt.same _
    | bl b => cases rx; exact SeqAt.EqAt.none_bool b
    | int b => obtain ⟨t, rfl⟩ := rx; exact SeqAt.EqAt.none_int b t
    | str b => obtain ⟨t, rfl⟩ := rx; exact SeqAt.EqAt.none_str b t
    | _ => exact absurd (show false = true from fx) Bool.false_ne_true
  | bl a =>
    cases ry
    cases x with
    | non => cases rx; exact SeqAt.EqAt.bool_none a
    | bl b => cases rx; exact SeqAt.EqAt.bool_bool a b
    | int b => obtain ⟨t, rfl⟩ := rx; exact SeqAt.EqAt.bool_int a b t
    | str b => obtain ⟨t, rfl⟩ := rx; exact SeqAt.EqAt.bool_str a b t
    | _ => exact absurd (show false = true from fx) Bool.false_ne_true
  | int a =>
    obtain ⟨t', rfl⟩ := ry
    cases x with
    | non => cases rx; exact SeqAt.EqAt.int_none a t'
    | bl b => cases rx; exact SeqAt.EqAt.int_bool a t' b
    | int b => obtain ⟨t, rfl⟩ := rx; exact SeqAt.EqAt.int_int a t' b t
    | str b => obtain ⟨t, rfl⟩ := rx; exact SeqAt.EqAt.int_str a t' b t
    | _ => exact absurd (show false = true from fx) Bool.false_ne_true
  | str a =>
    obtain ⟨t', rfl⟩ := ry
    cases x with
    | non => cases rx; exact SeqAt.EqAt.str_none a t'
    | bl b => cases rx; exact SeqAt.EqAt.str_bool a t' b
    | int b => obtain ⟨t, rfl⟩ := rx; exact SeqAt.EqAt.str_int a t' b t
    | str b => obtain ⟨t, rfl⟩ := rx; exact SeqAt.EqAt.str_str a t' b t
    | _ => exact absurd (show false = true from fx) Bool.false_ne_true
  | _ => exact absurd (show false = true from fy) Bool.false_ne_true
def eqU (x : V) (u : Value) : Bool := match u with
  | .none => eqV .non x
  | .bool b => eqV (.bl b) x
  | .int i _ => eqV (.int i) x
  | .str z _ => eqV (.str z) x
  | _ => false
theorem eqU_of {x y : V} {u : Value} (r : RelV y u) (f : flatV y = true) : eqU x u = eqV y x := by
  cases y with
  | non => cases r; rfl
  | bl b => cases r; rfl
  | int i => obtain ⟨t, rfl⟩ := r; rfl
  | str z => obtain ⟨t, rfl⟩ := r; rfl
  | _ => exact absurd (show false = true from f) Bool.false_ne_true
theorem any_eqU {x : V} : ∀ {xs : List V} {us : List Value}, Vals xs us → xs.all flatV = true → us.any (eqU x) = xs.any fun y => eqV y x
  | _, _, .nil, _ => rfl
  | y :: xs, u :: us, .cons r t, f => by
    rw [List.all_cons, Bool.and_eq_true] at f
    rw [List.any_cons, List.any_cons, eqU_of r f.1, any_eqU t f.2]
theorem mem_eqAt {A : Around} {s : Shared} {x : V} {v : Value} (rx : RelV x v) (fx : flatV x = true) : ∀ {xs : List V} {us : List Value}, Vals xs us → xs.all flatV = true → ∀ u ∈ us, SeqAt.EqAt A s u v (eqU x u)
  | _, _, .nil, _ => fun u hu => by cases hu
  | y :: xs, u :: us, .cons r t, f => fun u' hu => by
    rw [List.all_cons, Bool.and_eq_true] at f
    rcases List.mem_cons.mp hu with rfl | hu
    · rw [eqU_of r f.1]; exact eqAt_V r rx f.1 fx
    · exact mem_eqAt rx fx t f.2 u' hu
def inV (x : V) (xs : List V) : Bool := xs.any fun y => eqV y x
def rIn (K : PySem.W.Frag) (neg : Bool) : R2 := fun x y H Q => ∃ p xs, y = .ref p ∧ (SqL K H p xs ∨ SqT K H p xs) ∧ flatV x = true ∧ xs.all flatV = true ∧ Q (.bl (if neg then !inV x xs else inV x xs)) H
theorem op_in_seq : OpR X (compareOp .In) (rIn X.K false) := by
  intro pins s σ H x y v u Q I rx ry h
  obtain ⟨p, xs, rfl, hq, fx, fs, q⟩ := h
  cases ry
  rcases hq with hq | hq
  · obtain ⟨its, r, pl, hz⟩ := I.list hq
    refine SeqAt.in_listAt (eqU x) pl.isList (fun w hw => mem_eqAt rx fx r fs w (by simpa using hw)) ⟨.bl _, H, I, rfl, ?_⟩
    rw [show its.toArray.any (eqU x) = its.any (eqU x) by simp, any_eqU r fs]
    exact q
  · obtain ⟨its, r, pl, hz⟩ := I.tuple hq
    refine SeqAt.in_tupleAt (eqU x) pl (fun w hw => mem_eqAt rx fx r fs w (by simpa using hw)) ⟨.bl _, H, I, rfl, ?_⟩
    rw [show its.toArray.any (eqU x) = its.any (eqU x) by simp, any_eqU r fs]
    exact q
theorem call_len_seq : CallR X (.builtin "len") (fun xs H Q => ∃ p ys, xs = [.ref p] ∧ (SqL X.K H p ys ∨ SqT X.K H p ys) ∧ Q (.int ys.length) H) := by
  intro pins s σ H xs us Q I r h
  obtain ⟨p, ys, rfl, hq, q⟩ := h
  obtain ⟨u, rfl, rx⟩ := vals1 r
  cases rx
  have hn := line63
  rcases hq with hq | hq
  · obtain ⟨its, r', pl, hz⟩ := I.list hq
    have hlen := r'.length
    exact Calls.call_len_list pl.isList (by simp only [List.size_toArray] <;> omega) ⟨.int ys.length, H, I.tok _, ⟨s.toks + 1, by rw [List.size_toArray, hlen]⟩, q⟩
  · obtain ⟨its, r', pl, hz⟩ := I.tuple hq
    have hlen := r'.length
    exact len_tuple pl (by simp only [List.size_toArray] <;> omega) ⟨.int ys.length, H, I.tok _, ⟨s.toks + 1, by rw [List.size_toArray, hlen]⟩, q⟩
theorem call_len_str : CallR X (.builtin "len") (fun xs H Q => ∃ z, xs = [.str z] ∧ z.length ≤ sizeLine ∧ Q (.int z.length) H) := by
  intro pins s σ H xs us Q I r h
  obtain ⟨z, rfl, hz, q⟩ := h
  obtain ⟨u, rfl, t, rfl⟩ := vals1 r
  have hn := line63
  exact len_str (by omega) ⟨.int z.length, H, I.tok _, ⟨_, rfl⟩, q⟩
theorem call_tuple_of : CallR X (.type "tuple") (fun xs H Q => ∃ p ys, xs = [.ref p] ∧ ((SqL X.K H p ys ∧ ∀ l, H l = none → Q (.ref l) (upd H l (.tup ys))) ∨ (SqT X.K H p ys ∧ Q (.ref p) H))) := by
  intro pins s σ H xs us Q I r h
  obtain ⟨p, ys, rfl, h⟩ := h
  obtain ⟨u, rfl, rx⟩ := vals1 r
  cases rx
  rcases h with ⟨hq, q⟩ | ⟨hq, q⟩
  · obtain ⟨its, r', pl, hz⟩ := I.list hq
    have hlen := r'.length
    refine call_tuple_list pl.isList (fun h' kp => ?_) (by simp only [List.size_toArray] <;> omega)
    have I1 : Inv X pins σ H { s with heap := h' } := I.kept (t' := s.toks) kp
    have I2 : Inv X pins σ (upd H h'.objs.size (.tup ys)) { s with heap := h'.push { cls := .type "tuple", data := .seq its.toArray } } :=
      I1.laid (t' := s.toks) (fun b o e => Heap.get?_push_of_some _ e) (Nat.le_refl _) (show ObjOk X.prog X.w _ _ _ (.tup ys) from ⟨hz, its, r', IsTup.new _ _⟩)
    exact ⟨.ref h'.objs.size, _, I2, rfl, q _ (I1.hok.fresh (Nat.le_refl _))⟩
  · obtain ⟨its, r', pl, hz⟩ := I.tuple hq
    exact call_tuple_same pl ⟨.ref p, H, I, rfl, q⟩
def tyV (K : PySem.W.Frag) (T : String) (x : V) (H : Hp) : Prop := match x with
  | .str _ => T = "str"
  | .int _ => T = "int"
  | .ref p => (T = "list" ∧ ∃ xs, SqL K H p xs) ∨ (T = "tuple" ∧ ∃ o, K.lookup p = some o ∧ o.cls = .type "tuple" ∧ o.dict = none) ∨
      (T = "dict" ∧ ((∃ kvs, H p = some (.dK kvs)) ∨ ∃ kvs, H p = some (.dT kvs))) ∨ (T = "set" ∧ ∃ S n, H p = some (.set S n))
  | _ => False
theorem tyV_is {pins : List (Addr × Obj)} {σ : St} {H : Hp} {s : Shared} {T : String} {x : V} {v : Value} (I : Inv X pins σ H s) (r : RelV x v) (ty : tyV X.K T x H) :
    s.TypeIs v T ∧ ∀ a, v = .ref a → ∃ ob, s.heap.get? a = some ob ∧ ob.dict = none := by
  cases x with
  | str z =>
    obtain ⟨t, rfl⟩ := r
    cases (show T = "str" from ty)
    exact ⟨typeIs_str s z t, fun _ e => nomatch e⟩
  | int i =>
    obtain ⟨t, rfl⟩ := r
    cases (show T = "int" from ty)
    exact ⟨typeIs_int s i t, fun _ e => nomatch e⟩
  | ref p =>
    cases r
    rcases ty with ⟨rfl, xs, hq⟩ | ⟨rfl, o, hk, hc, hd⟩ | ⟨rfl, hk⟩ | ⟨rfl, S, n, hk⟩
    · obtain ⟨its, _, pl, _⟩ := I.list hq
      refine ⟨pl.isList.typeIs, fun a e => ?_⟩
      cases e
      obtain ⟨o, n, e, c, hd, _⟩ := pl
      exact ⟨o, e, hd⟩
    · refine ⟨⟨o, I.kIn p o hk, hc⟩, fun a e => ?_⟩
      cases e
      exact ⟨o, I.kIn _ o hk, hd⟩
    · have z : ∃ o, s.heap.get? p = some o ∧ o.ExactDict := by
        rcases hk with ⟨kvs, hk⟩ | ⟨kvs, hk⟩
        · obtain ⟨_, _, _, _, o, _, _, e, ex, _⟩ := I.hok p _ hk
          exact ⟨o, e, ex⟩
        · obtain ⟨_, _, _, _, o, _, _, e, ex, _⟩ := I.hok p _ hk
          exact ⟨o, e, ex⟩
      obtain ⟨o, e, ex⟩ := z
      refine ⟨⟨o, e, ex.1⟩, fun a e2 => ?_⟩
      cases e2
      exact ⟨o, e, ex.2.1⟩
    · obtain ⟨o, _, _, _, e, ex, _⟩ := I.hok p _ hk
      refine ⟨⟨o, e, ex.1⟩, fun a e2 => ?_⟩
      cases e2
      exact ⟨o, e, ex.2.1⟩
  | _ => exact False.elim ty
def tBM (K : PySem.W.Frag) (T : String) (r : V → List V → Hp → VK → Prop) (to : TE) (t : TA) : TE := fun σ H Q => to σ H fun x H1 => tyV K T x H1 ∧ t σ H1 fun xs H2 => r x xs H2 Q
variable {o e : Expr} {es : List Expr} {to : TE} {t : TA} {name : Str} {apos cpos : Pos} {T id : String} {r : V → List V → Hp → VK → Prop}
theorem pe_bm (pa : PlainAttrs T) (slot : Slot T name id) (hty : typeOf (.builtin id) = pure (.type "method_descriptor")) (hm : MtR X id r) (ho : PE X o to) (ha : PA X (e :: es) t)
    (hbase : attributeBase o name X.env (eval o X.env) = eval o X.env := by rfl)
    (hfew : ((backTo cpos (starEach (e :: es) X.env)).all (fun x => !x.1) && (backToKw cpos (keywordEach [] X.env)).all (fun x => x.1.isSome)
      && decide ((e :: es).length + ([] : List Keyword).length + (if ([] : List Keyword).isEmpty then 0 else 1) < 30)) = true := by rfl)
    (hline : (apos.endLine == cpos.line) = true := by rfl) (hs : starEach (e :: es) X.env = (false, eval e X.env) :: starEach es X.env := by rfl) (hplain : (backTo cpos (starEach es X.env)).any (·.1) = false := by rfl) :
    PE X (.Call (.Attribute o name apos) (e :: es) [] cpos) (tBM X.K T r to t) := by
  intro pins s σ H Q I h
  refine wpAny_Call_method_late hbase hfew hline rfl (thn (ho pins s σ H _ I h) fun v s1 ⟨x, H1, I1, r1, ty, q1⟩ => ?_)
  obtain ⟨h1, h2⟩ := tyV_is I1 r1 ty
  refine ⟨T, id, pa, slot, hty, h1, h2, ?_⟩
  have hA := ha cpos pins s1 σ H1 _ I1 q1
  rw [hs] at hA ⊢
  refine Calls.callWith_builtin (by show (false || (backTo cpos (starEach es X.env)).any (·.1)) = false; rw [hplain] <;> rfl) (Calls.evalArgs_plain ?_)
  exact thn hA fun us s2 ⟨vs, H2, I2, r2, q2⟩ => hm pins s2 σ H2 x vs v us Q I2 r1 r2 q2
end
open PySem PySem.Spec PyProof.Rows
def MtM (X : Cx) (id : String) (r : V → List V → Hp → VK → Prop) : Prop :=
  ∀ (pins : List (Addr × Obj)) (s : Shared) (σ : St) (H : Hp) (x : V) (xs : List V) (v : Value) (us : List Value) (Q : VK), Inv X pins σ H s → RelV x v → Vals xs us → r x xs H Q →
    wpAny (model X.prog X.w) X.A (call (.builtin id) (v :: us)) (EP X pins σ Q) X.xe s
theorem Vals.one : ∀ {x : V} {us : List Value}, Vals [x] us → ∃ u, us = [u] ∧ RelV x u
  | _, _, .cons r .nil => ⟨_, rfl, r⟩
theorem Vals.two : ∀ {x y : V} {us : List Value}, Vals [x, y] us → ∃ u v, us = [u, v] ∧ RelV x u ∧ RelV y v
  | _, _, _, .cons r (.cons q .nil) => ⟨_, _, rfl, r, q⟩
theorem Vals.rep {xs : List V} {us : List Value} (h : Vals xs us) : ∀ k : Nat, Vals (List.replicate k xs).flatten (List.replicate k us).flatten
  | 0 => .nil
  | k + 1 => by
    rw [List.replicate_succ, List.replicate_succ, List.flatten_cons, List.flatten_cons]
    exact Vals.append h (Vals.rep h k)
theorem foldl_rep (its : List Value) : ∀ (k : Nat) (acc : List Value),
    List.foldl (fun x1 x2 => x1 ++ x2) acc.toArray (List.replicate k its.toArray) = (acc ++ (List.replicate k its).flatten).toArray
  | 0, acc => by simp
  | k + 1, acc => by
    have e : acc.toArray ++ its.toArray = (acc ++ its).toArray := by simp
    have e2 : (acc ++ its) ++ (List.replicate k its).flatten = acc ++ (List.replicate (k + 1) its).flatten := by
      rw [List.replicate_succ, List.flatten_cons, List.append_assoc]
    rw [← e2, ← foldl_rep its k (acc ++ its), ← e, List.replicate_succ, List.foldl_cons]
section
variable {X : Cx} {pins : List (Addr × Obj)} {σ : St} {H : Hp} {s : Shared} {l b : Addr} {xs ys zs : List V}
theorem Inv.lset {its its' : List Value} {n : Nat} {f : Array Value → Array Value} {t' : Nat} (I : Inv X pins σ H s) (hH : H l = some (.lst xs))
    (e : s.heap.get? l = some { cls := .type "list", data := .seq its.toArray n }) (hf : f its.toArray = its'.toArray) (hv : Vals ys its') (hz : ys.length ≤ sizeLine) :
    Inv X pins σ (upd H l (.lst ys)) { s with heap := s.heap.update l (Obj.mapSeq f), toks := t' } := by
  have q := PySem.IsL.update e f
  rw [hf] at q
  refine I.write (x := l) (e := l) (by rw [hH]; exact trivial) (.inl rfl) (fun b' u hb hu => (Heap.get?_update_other s.heap (Obj.mapSeq f) (Ne.symm hb)).trans hu) ⟨_, q⟩ ?_
  exact ⟨hz, its', _, hv, q⟩
theorem Inv.lnew {its : List Value} {t' : Nat} (I : Inv X pins σ H s) (hv : Vals ys its) (hz : ys.length ≤ sizeLine) :
    Inv X pins σ (upd H s.heap.objs.size (.lst ys)) { s with heap := s.heap.push { cls := .type "list", data := .seq its.toArray }, toks := t' } :=
  I.laid (fun _ _ q => Heap.get?_push_of_some _ q) (Nat.le_refl _) ⟨hz, its, 0, hv, Heap.get?_push_size _ rfl⟩
theorem Inv.fresh (I : Inv X pins σ H s) : H s.heap.objs.size = none := I.hok.fresh (Nat.le_refl _)
theorem Inv.lstM (I : Inv X pins σ H s) (hH : H l = some (.lst xs)) : xs.length ≤ sizeLine ∧ ∃ (its : List Value) (n : Nat), Vals xs its ∧ xs.length = its.length ∧ s.heap.get? l = some { cls := .type "list", data := .seq its.toArray n } := by
  obtain ⟨z, its, n, r, e⟩ := I.hok l _ hH
  exact ⟨z, its, n, r, r.length, e⟩
theorem notLongL {n : Nat} (h : n ≤ sizeLine) : Builtin.List.listTooLong n = false := by
  unfold Builtin.List.listTooLong
  exact decide_eq_false (by omega)
end
section
variable {X : Cx}
def rAppend : V → List V → Hp → VK → Prop := fun x vs H Q => ∃ l xs y, x = .ref l ∧ vs = [y] ∧ H l = some (.lst xs) ∧ xs.length < sizeLine ∧ Q .non (upd H l (.lst (xs ++ [y])))
theorem mt_append : MtM X "list.append" rAppend := by
  intro pins s σ H x vs v us Q I rx rv h
  obtain ⟨l, xs, y, rfl, rfl, hH, hz, q⟩ := h
  cases rx
  obtain ⟨u, rfl, ru⟩ := rv.one
  obtain ⟨z, its, n, r, hl, e⟩ := I.lstM hH
  refine call_meets F.slot_list_append ⟨_, e, rfl⟩ F.entry_list_append (F.args_list_append_2 _ _) (PySem.list_append l its.toArray n u (by rw [List.size_toArray]; omega)) ⟨e, ?_⟩
  refine ⟨.non, _, I.lset (its' := its ++ [u]) hH e (by simp) (r.append (.cons ru .nil)) ?_, rfl, q⟩
  rw [List.length_append, List.length_singleton]
  omega
def rCat : R2 := fun x y H Q => ∃ l b xs zs, x = .ref l ∧ y = .ref b ∧ H l = some (.lst xs) ∧ H b = some (.lst zs) ∧ xs.length + zs.length ≤ sizeLine ∧ ∀ p, H p = none → Q (.ref p) (upd H p (.lst (xs ++ zs)))
theorem op_cat : OpR X (binaryOp .Add) rCat := by
  intro pins s σ H x y v u Q I rx ry h
  obtain ⟨l, b, xs, zs, rfl, rfl, hH, hB, hz, q⟩ := h
  cases rx
  cases ry
  obtain ⟨z, its, n, r, hl, e⟩ := I.lstM hH
  obtain ⟨z2, its2, n2, r2, hl2, e2⟩ := I.lstM hB
  refine PySem.P.add_list e e2 ?_ (by rw [List.size_toArray, List.size_toArray]; omega)
  have ea : its.toArray ++ its2.toArray = (its ++ its2).toArray := by simp
  rw [ea]
  exact ⟨.ref _, _, I.lnew (t' := s.toks) (r.append r2) (by rw [List.length_append]; omega), rfl, q _ I.fresh⟩
def rRep : R2 := fun x y H Q => ∃ l k xs, x = .ref l ∧ y = .int k ∧ H l = some (.lst xs) ∧ -(2 ^ 63) ≤ k ∧ k < 2 ^ 63 ∧ xs.length * k.toNat ≤ sizeLine ∧
  ∀ p, H p = none → Q (.ref p) (upd H p (.lst (List.replicate k.toNat xs).flatten))
theorem len_rep {α : Type} (xs : List α) (k : Nat) : (List.replicate k xs).flatten.length = k * xs.length := by
  induction k with
  | zero => simp
  | succ k ih => rw [List.replicate_succ, List.flatten_cons, List.length_append, ih, Nat.succ_mul, Nat.add_comm]
theorem op_rep : OpR X (binaryOp .Mult) rRep := by
  intro pins s σ H x y v u Q I rx ry h
  obtain ⟨l, k, xs, rfl, rfl, hH, h1, h2, hz, q⟩ := h
  cases rx
  obtain ⟨t, rfl⟩ := ry
  obtain ⟨z, its, n, r, hl, e⟩ := I.lstM hH
  have hlen : its.toArray.size * k.toNat ≤ sizeLine := by rw [List.size_toArray, ← hl]; exact hz
  have hcap : ¬ its.toArray.size * k.toNat > (2 ^ 63 - 1) / 8 := by
    have : (sizeLine : Nat) ≤ (2 ^ 63 - 1) / 8 := by decide
    omega
  have hfit : ¬ (!Builtin.List.listFitsIndex k) = true := by
    rw [fitsIndex_both h1 h2]
    exact Bool.false_ne_true
  have hlong : ¬ Builtin.List.listTooLong (its.toArray.size * k.toNat) = true := by
    rw [notLongL hlen]
    exact Bool.false_ne_true
  have hnew : List.foldl (fun x1 x2 => x1 ++ x2) #[] (List.replicate (if its.toArray.isEmpty = true then 0 else k.toNat) its.toArray) = (List.replicate k.toNat its).flatten.toArray := by
    have f0 : ∀ m : Nat, List.foldl (fun x1 x2 => x1 ++ x2) #[] (List.replicate m its.toArray) = (List.replicate m its).flatten.toArray := fun m => by
      have := foldl_rep its m []
      rw [List.nil_append] at this
      exact this
    rw [f0]
    cases its with
    | nil => simp
    | cons a r' => rw [if_neg (by simp)]
  refine wpAny_binaryOp_repeat_ref (T := "list") (U := "int") (by decide) ⟨_, e, rfl⟩ (fun s' => typeIs_int s' k t) noFill_list_mul F.fills_int_mul F.slot_int_rmul repeat_list F.slot_int_index.lookup
    (call_meets F.slot_int_rmul (typeIs_int s k t) F.entry_int_rmul (F.args_int_rmul_2 _ _) (int___rmul___int_list k t l its.toArray n)
      ⟨e, rfl, ⟨_, e, rfl⟩, call_meets F.slot_list_mul ⟨_, e, rfl⟩ F.entry_list_mul (F.args_list_mul_2 _ _) (AutoListH.list___mul___list_int_3 l its.toArray n k t hfit hcap hlong) ⟨e, ?_⟩⟩)
  rw [hnew]
  exact ⟨.ref _, _, I.lnew (t' := s.toks) (r.rep k.toNat) (by rw [len_rep, Nat.mul_comm]; exact hz), rfl, q _ I.fresh⟩
end
section
variable {prog : Program} {w : World} {A : Around} {E : Value → Shared → Prop} {s : Shared}
end
section
variable {X : Cx}
end
end L2
namespace Att
open PySem PySem.W PySem.Calls PyProof.Rows
theorem ints_of_wellAll {P : Params} {h : Heap} : ∀ (ns : List Int) (vs : List Value), WellAll P h vs (ns.map WData.int) → IntsAre vs ns := by
  intro ns
  induction ns with
  | nil =>
    intro vs w
    rw [List.map_nil] at w
    cases w
    exact .nil
  | cons n ns ih =>
    intro vs w
    rw [List.map_cons] at w
    cases w with
    | cons a b =>
      cases a
      exact .cons _ _ (ih _ b)
theorem script_of {l : OpenLaw} {n : Nat} (hn : l.most = some n) {P : Params} {h : Heap} {args : List WData} {vals : List Value}
    (hpre : l.row.toRowW.claim.pre args = true) (hwl : WellAll P h vals args) :
    ∃ a vs ns, vals = [Value.ref a] ∧ args = [WData.list (ns.map WData.int)] ∧ h.get? a = some { cls := .type "list", data := .seq vs.toArray } ∧ IntsAre vs ns ∧ ns.length ≤ n := by
  have hsh : WShape.hasAll [] args [.list .int] = true := (pre_splitW hpre).1
  have hc : l.pre.holds [] { args := args } = true := (pre_splitW hpre).2
  obtain ⟨d, r, rfl, h1, h2⟩ := hasAllW_cons hsh
  obtain rfl := hasAllW_nil h2
  obtain ⟨xs, rfl, h3⟩ := hasW_list h1
  obtain ⟨ns, rfl⟩ := items_int h3
  have hlen : ns.length ≤ n := by
    unfold OpenLaw.pre at hc
    have h4 : (WTm.not (.lt (.lit (.int (n : Int))) (.len (.arg 0)))).holds [] { args := [.list (ns.map .int)] } = true := by
      have h4 := (holds_andW hc).1
      rw [hn] at h4
      exact h4
    have h5 := condW_of h4 (w_not (w_lt w_lit (w_len_list (w_arg rfl))))
    rw [List.length_map] at h5
    refine Nat.le_of_not_lt fun q => ?_
    have q' : (n : Int) < ((ns.length : Nat) : Int) := by omega
    first
      | (rw [decide_eq_true q'] at h5; exact absurd h5 (by decide))
      | (simp at h5; omega)
  cases hwl with
  | cons w1 w2 =>
    cases w2
    cases w1 with
    | list ho hall => exact ⟨_, _, ns, rfl, rfl, ho, ints_of_wellAll ns _ hall, hlen⟩
theorem post_true (l : OpenLaw) (args : List WData) : l.row.toRowW.claim.post args (.bool true) args = true :=
  postW_of (r := l.row.toRowW) (X := (true == true))
    (show WShape.has [] (.bool true) .bool = true by first | rfl | decide | simp [WShape.has, WShape.arms, WShape.armsAll])
    (show (WTm.eq .res (.lit (.bool true))).value [] { args := args, res := some (.bool true), after := args } = some (.bool (true == true)) from w_eq_bool (w_res rfl) w_lit) rfl
theorem attach_call {l : OpenLaw} {n : Nat} {q : Program} {loose : List Str} {XP : (Str → Option Value) → Heap → Prop} {YP : World → Heap → Prop} {d : DefRec}
    (hn : l.most = some n) (hdf : d.params.defaults = [])
    (call : ∀ (w : World) (s₀ s₁ : Shared) (mg mb : Str → Option Value) (fa : Addr) (o : Obj) (pm cd doc : Value) (a : Addr) (vs : List Value) (ns : List Int),
      Ground q loose [] XP w s₀ mg mb s₁.heap → YP w s₁.heap →
      s₁.heap.get? fa = some o → o.data = .func (docDef d.name d.params d.body d.scope pm cd doc) → s₁.heap.CodeRec cd d.name → mg d.name = some (.ref fa) →
      s₁.heap.get? a = some { cls := .type "list", data := .seq vs.toArray } → IntsAre vs ns → ns.length ≤ n → s₁.gens = #[] →
      codeAny (model l.prog w) callerA (.call (.ref fa) ⟨[.ref a], []⟩) (fun r s' => r = .ok (.ret (.bool true)) ∧ OldK s₁.heap s'.heap ∧ s'.os = s₁.os ∧ AllBare s'.gens) s₁) :
    WalkO q loose XP YP l.row.toRowW d [] (fun f vs => PySem.call f vs) := by
  intro w s₀ s₁ mg mb G Y fa o pm cd doc dV kV ho hd hcd hD hmg hg args vals as hpre hlay hrd hwl hlo
  obtain rfl : dV = .none := Dflts.none hD hdf
  obtain rfl : kV = .none := Dflts.noKw hD
  obtain ⟨a, vs, ns, rfl, rfl, hobj, hints, hlen⟩ := script_of hn hpre hwl
  refine enter_call (codeAny_mono (call w s₀ s₁ mg mb fa o pm cd doc a vs ns G Y ho (fd_plain hd) hcd hmg hobj hints hlen hg) fun r s' hq => ?_)
  obtain ⟨rfl, h2, h3, h4⟩ := hq
  exact ⟨.inl ⟨.bool true, .bool true, [], rfl, fun _ => rfl, .bool true, post_true l _, fun _ => ⟨List.Pairwise.nil, fun _ hm => (nomatch hm)⟩⟩, h2, h3, h4⟩
section
variable {prog : Program} {w : World} {A : Around} {E : Value → Shared → Prop} {s : Shared} {K : Frag}
end
end Att
namespace L2
open PySem PySem.Spec PyProof.Rows
theorem vals_ints : ∀ {vs : List Value} {ns : List Int}, IntsAre vs ns → Vals (ns.map V.int) vs
  | _, _, .nil => .nil
  | _, _, .cons n t h => .cons ⟨t, rfl⟩ (vals_ints h)
def Only (H : Hp) : Prop := ∀ b, H b = none ∨ ∃ o xs, H b = some (.frz o (.lst xs))
theorem law_call {P : Program} {w : World} {K : PySem.W.Frag} {mg mb : Str → Option Value} {CX : CXT} {k : Nat} {fa a : Addr} {fd : FuncData} {x : Str} {sp : Sp} {s₁ : Shared} {vs : List Value} {ns : List Int}
    (KX : K.In s₁.heap) (hns : s₁.heap.Ns mainGlobals mg) (hb : s₁.heap.Ns builtinsNs mb) (hbb : ∀ x : Str, x ≠ "__name__" → mb x = bootBuiltins x) (hlim : s₁.heap.NoLimit) (hg : s₁.gens = #[])
    (ha : s₁.heap.get? a = some { cls := .type "list", data := .seq vs.toArray }) (hi : IntsAre vs ns) (hl : ns.length ≤ sizeLine) (hr : Room k callerA)
    (F : ∀ base : Heap, K.In base → base.Ns mainGlobals mg → FnOk P w K mg base CX k fa fd [x] sp) (hbind : ∀ (s : Shared) (u : Value), BindsTo s fd ⟨[u], []⟩ [(x, u)])
    (hsp : ∀ H : Hp, Only H → SqL K H a (ns.map V.int) → sp [.ref a] H (fun v _ => v = .bl true) fun _ _ _ => False)
    (hCX : ∀ H e s', CX [] H s₁ (fun _ _ _ => False) e s' → False) :
    codeAny (model P w) callerA (.call (.ref fa) ⟨[.ref a], []⟩) (fun r s' => r = .ok (.ret (.bool true)) ∧ OldK s₁.heap s'.heap ∧ s'.os = s₁.os ∧ AllBare s'.gens) s₁ := by
  have rv := vals_ints hi
  have lenV := hi.length
  have core : ∀ H : Hp, Only H → SqL K H a (ns.map V.int) → HOk P w H s₁.heap → (∀ b, H b ≠ none → b = a) → (H a ≠ none → K.lookup a = none) →
      codeAny (model P w) callerA (.call (.ref fa) ⟨[.ref a], []⟩) (fun r s' => r = .ok (.ret (.bool true)) ∧ OldK s₁.heap s'.heap ∧ s'.os = s₁.os ∧ AllBare s'.gens) s₁ := by
    intro H hO hS hok hA hK
    have base_of : ∀ {b : Addr} {o : Obj}, s₁.heap.get? b = some o → H b = none → (hidT s₁.heap H).get? b = some o := fun e n => hidT_get e n
    have noA : ∀ {b : Addr} {o : Obj} {es : Array DictEntry} {ep : Nat}, s₁.heap.get? b = some o → o.data = .dict es ep → H b = none := fun {b o es ep} e d => by
      cases q : H b with
      | none => rfl
      | some u =>
        have e' : b = a := hA b (by rw [q]; simp)
        subst e'
        rw [ha] at e; cases e
        have d' : Data.seq vs.toArray _ = Data.dict es ep := d
        cases d'
    have nsK : ∀ {b : Addr} {m : Str → Option Value}, s₁.heap.Ns b m → (hidT s₁.heap H).Ns b m := fun {b m} ⟨o, es, ep, e, d, r⟩ => ⟨o, es, ep, base_of e (noA e d), d, r⟩
    have hKb : K.In (hidT s₁.heap H) := fun b o e => base_of (KX b o e) (by
      cases q : H b with
      | none => rfl
      | some u =>
        have e' : b = a := hA b (by rw [q]; simp)
        subst e'
        rw [hK (by rw [q]; simp)] at e; cases e)
    have hM : Mod K mg (hidT s₁.heap H) := ⟨hKb, nsK hns, ⟨mb, nsK hb, hbb⟩, let ⟨mc, h1, h2⟩ := hlim; ⟨mc, nsK h1, h2⟩⟩
    have e0 : Env0 P w K mg (hidT s₁.heap H) callerA [] s₁ H := ⟨rfl, hM, fun b o e => of_hidT e, Nat.le_of_eq (hidT_size _ _), trivial, fun b hb => absurd (show b ∈ ([] : List Addr) from hb) (by simp), hok, .of_eq hg⟩
    refine codeAny_mono ((F _ hKb (nsK hns)).run callerA [] s₁ H ⟨[.ref a], []⟩ [.ref a] [.ref a] _ _ hr e0 (hbind s₁ (.ref a)) (.cons rfl .nil) (hsp H hO hS)) fun r s' h => ?_
    cases r with
    | error e => exact (hCX H e s' h).elim
    | ok fl =>
      cases fl with
      | next => exact False.elim h
      | brk => exact False.elim h
      | cont => exact False.elim h
      | ret u =>
        obtain ⟨v, H', os, bare, un, hok', r', q⟩ := h
        have q' : v = .bl true := q
        subst q'
        obtain rfl : u = Value.bool true := r'
        refine ⟨rfl, OldK.of_keep fun b o e => ?_, os, bare⟩
        cases q : H b with
        | none => exact un.keep b o e q (by intro z; exact absurd (show b ∈ ([] : List Addr) from z) (by simp)) (by simp)
        | some u =>
          rcases hO b with z | ⟨ob, xs, z⟩
          · rw [q] at z; cases z
          · have z2 := un.frzs b ob _ z
            obtain ⟨e1, _⟩ := hok b _ z
            obtain ⟨e2, _⟩ := hok' b _ z2
            rw [e] at e1; cases e1
            exact e2
  cases hk : K.lookup a with
  | some o =>
    have e := KX a o hk
    rw [ha] at e
    cases e
    refine core (fun _ => none) (fun _ => .inl rfl) (.inr ⟨_, vs.toArray, _, hk, rfl, rfl, rfl, by rw [List.size_toArray, lenV]; exact hl, by simpa using rv⟩) (fun b u z => by have z' : (none : Option HO) = some u := z; cases z') (fun b z => absurd rfl z) fun z => absurd rfl z
  | none =>
    refine core (fun b => if b = a then some (.frz { cls := .type "list", data := .seq vs.toArray } (.lst (ns.map V.int))) else none) (fun b => ?_) (.inl (.inr ⟨{ cls := .type "list", data := .seq vs.toArray }, if_pos rfl⟩)) (fun b u z => ?_) (fun b z => ?_) fun _ => hk
    · by_cases hb : b = a
      · exact .inr ⟨_, _, if_pos hb⟩
      · exact .inl (if_neg hb)
    · by_cases hb : b = a
      · have z' := (if_pos hb).symm.trans z
        cases z'
        subst hb
        exact ⟨ha, by rw [List.length_map]; exact hl, vs, _, rv, ha⟩
      · have z' := (if_neg hb).symm.trans z
        cases z'
    · by_cases hb : b = a
      · exact hb
      · exact absurd (if_neg hb) z
open PySem PySem.Spec PyProof.Rows
theorem walk_of {l : PySem.W.OpenLaw} {n k : Nat} {q : Program} {loose : List Str} {XP : (Str → Option Value) → Heap → Prop} {YP : World → Heap → Prop} {d : DefRec} {K : Params → PySem.W.Frag} {CX : World → CXT} {sp : World → Sp} {x : Str}
    (hn : l.most = some n) (hn2 : n ≤ sizeLine) (hdf : d.params.defaults = []) (hr : Room k callerA)
    (hY : ∀ (w : World) (h : Heap), YP w h → (K w.params).In h)
    (F : ∀ (w : World) (mg : Str → Option Value) (fa : Addr) (h : Heap), (K w.params).In h → h.Ns mainGlobals mg → mg d.name = some (.ref fa) →
      ∃ fd : FuncData, (∀ (s : Shared) (u : Value), BindsTo s fd ⟨[u], []⟩ [(x, u)]) ∧
        ∀ base : Heap, (K w.params).In base → base.Ns mainGlobals mg → FnOk l.prog w (K w.params) mg base (CX w) k fa fd [x] (sp w))
    (hsp : ∀ (w : World) (H : Hp) (a : Addr) (ns : List Int), ns.length ≤ n → Only H → SqL (K w.params) H a (ns.map V.int) → sp w [.ref a] H (fun v _ => v = .bl true) fun _ _ _ => False)
    (hCX : ∀ (w : World) (H : Hp) (s : Shared) (e : Value) (s' : Shared), CX w [] H s (fun _ _ _ => False) e s' → False) :
    PySem.W.WalkO q loose XP YP l.row.toRowW d [] (fun f vs => PySem.call f vs) := by
  refine Att.attach_call hn hdf fun w s₀ s₁ mg mb fa o pm cd doc a vs ns G Y ho hd hcd hmg hobj hints hlen hg => ?_
  have KX := hY w _ Y
  obtain ⟨fd, hb, hF⟩ := F w mg fa _ KX G.T.g hmg
  exact law_call KX G.T.g G.T.b G.T.builtins G.T.nolimit hg hobj hints (Nat.le_trans hlen hn2) hr hF hb (fun H hO hS => hsp w H a ns hlen hO hS) fun H e s' => hCX w H s₁ e s'
open PySem PySem.Spec PyProof.Rows
def defArgs (s : Stmt) : Arguments := match s with
  | .FunctionDef _ a _ _ _ _ _ _ _ _ => a
  | _ => { posonlyargs := [], args := [], vararg := none, kwonlyargs := [], kw_defaults := [], kwarg := none, defaults := [] }
def defBody (s : Stmt) : List Stmt := match s with
  | .FunctionDef _ _ b _ _ _ _ _ _ _ => b
  | _ => []
def defScope (s : Stmt) : Scope := match s with
  | .FunctionDef _ _ _ _ _ _ sc _ _ _ => sc
  | _ => { kind := .function, names := [], isGenerator := false, isCoroutine := false }
abbrev CX0 : CXT := fun _ _ _ _ _ _ => False
abbrev E0 : XK := fun _ _ _ => False
theorem pass0 {X : Cx} : Passes CX0 X E0 := fun _ _ _ _ _ _ _ h => h.elim
structure Fun (K : PySem.W.Frag) (x qual : Str) (st : Stmt) (f : Addr) (fd : FuncData) : Prop where
  ex : ∃ (oc : Value) (od : Option Addr) (kV doc pm : Value) (an : Option Addr) (cdv ct : Value) (osl : Array (Option Value)),
    fd = PySem.W.fnOf x qual (defArgs st) (defBody st) (defScope st) .none kV doc pm an cdv ct ∧ K.lookup f = some ⟨oc, od, .func fd, osl⟩ ∧ PySem.W.codeIn K cdv qual = true
  kp : PySem.W.keepIn K (.ref f) = true
section
variable {P : Program} {w : World} {K : PySem.W.Frag} {mg : Str → Option Value} {base : Heap}
theorem Fun.ok {x qual : Str} {st : Stmt} {f : Addr} {fd : FuncData} {N ps : List Str} {k : Nat} {sp : Sp} (F : Fun K x qual st f fd) (S : FnScope N ps (defScope st)) (len : ∀ vs H Q E, sp vs H Q E → vs.length = ps.length)
    (hbody : ∀ (cdv : Value) (A : Around) (outer : List Env) (s : Shared) (H : Hp) (vs : List V) (Q : VK) (E : XK), Room k (A.deeper (envOfC qual (defScope st) s.heap.objs.size f cdv)) → sp vs H Q E →
      ∃ t, PSs (cxOf CX0 P w K mg base N qual (defScope st) f cdv A outer s H E).nox (defBody st) t ∧ t { nx := fun _ H' => Q .non H', rt := Q } (start N vs) H) : FnOk P w K mg base CX0 (k + 1) f fd ps sp := by
  obtain ⟨oc, od, kV, doc, pm, an, cdv, ct, osl, rfl, lk, hcd⟩ := F.ex
  refine fn_of lk hcd S len fun A outer s H vs Q E hr hsp => ?_
  obtain ⟨t, h, q⟩ := hbody cdv A outer s H vs Q E hr hsp
  exact ⟨t, h.nox, q⟩
theorem Fun.binds {x qual : Str} {st : Stmt} {f : Addr} {fd : FuncData} {ps : List Str} (F : Fun K x qual st f fd)
    (h : ∀ (kV doc pm : Value) (an : Option Addr) (cdv ct : Value) (us : List Value), us.length = ps.length → bindArgs (PySem.W.fnOf x qual (defArgs st) (defBody st) (defScope st) .none kV doc pm an cdv ct) ⟨us, []⟩ = pure (ps.zip us)) : Binds K fd ps [] := by
  obtain ⟨oc, od, kV, doc, pm, an, cdv, ct, osl, rfl, lk, hcd⟩ := F.ex
  exact .all (h kV doc pm an cdv ct)
theorem fun_mk {x qual : Str} {st : Stmt} {f : Addr} {oc : Value} {od an : Option Addr} {osl : Array (Option Value)} {kV doc pm cdv ct : Value} (l : K.lookup f = some ⟨oc, od, .func (PySem.W.fnOf x qual (defArgs st) (defBody st) (defScope st) .none kV doc pm an cdv ct), osl⟩)
    (c : PySem.W.codeIn K cdv qual = true) (k : PySem.W.keepIn K (.ref f) = true) : Fun K x qual st f (PySem.W.fnOf x qual (defArgs st) (defBody st) (defScope st) .none kV doc pm an cdv ct) := ⟨⟨oc, od, kV, doc, pm, an, cdv, ct, osl, rfl, l, c⟩, k⟩
end
theorem small1000 {n : Nat} (h : n ≤ 1000) : n < sizeLine := Nat.lt_of_le_of_lt h (by decide)
section
variable {X : Cx}
theorem pv (i : Nat) {x : Str} {pos : Pos} (hN : X.N[i]? = some x := by rfl) (hv : Vis X.env.scope x := by first | exact Or.inl rfl | exact Or.inr (Or.inl rfl) | exact Or.inr (Or.inr rfl)) (hd : (x == ("__debug__" : Str)) = false := by decide)
    (hcd : (x == ("__classdict__" : Str)) = false := by decide) : PE X (.Name x pos) (tVar i) := pe_var hN hv hd hcd
end
theorem iteF {A B : Prop} (h : B) : if false = true then A else B := by
  rw [if_neg Bool.false_ne_true]
  exact h
theorem iteT {A B : Prop} (h : A) : if true = true then A else B := by
  rw [if_pos rfl]
  exact h
theorem ite2 {c A B : Prop} [Decidable c] (h1 : c → A) (h2 : ¬ c → B) : if c then A else B := by
  by_cases h : c
  · rw [if_pos h]
    exact h1 h
  · rw [if_neg h]
    exact h2 h
def Same (H H' : Hp) : Prop := ∀ b o, H b = some o → H' b = some o
theorem Same.refl (H : Hp) : Same H H := fun _ _ h => h
theorem Same.trans {H H1 H2 : Hp} (a : Same H H1) (b : Same H1 H2) : Same H H2 := fun c o h => b c o (a c o h)
theorem Same.free {H H' : Hp} (e : Same H H') {l : Addr} (h : H' l = Option.none) : H l = Option.none := by
  cases q : H l with
  | none => rfl
  | some o =>
    rw [e l o q] at h
    cases h
theorem Same.seq {K : PySem.W.Frag} {H H' : Hp} {a : Addr} {xs : List V} (e : Same H H') (h : SqL K H a xs) : SqL K H' a xs := by
  rcases h with (h | ⟨o, h⟩) | h
  · exact .inl (.inl (e _ _ h))
  · exact .inl (.inr ⟨o, e _ _ h⟩)
  · exact .inr h
end L2
set_option Elab.async false
set_option linter.all false
set_option maxRecDepth 100000
set_option maxHeartbeats 4000000
namespace L2
open PySem PySem.Spec PyProof.Rows
def Cx.comp (X : Cx) (N' : List Str) (scope : Scope) (cl : List (Str × Addr)) (C : Addr) (s2 : Shared) (H2 : Hp) (ex : List Addr) : Cx :=
  { X with N := N', s₀ := s2, H₀ := H2, env := compEnvC scope cl C X.env, outer := X.stack, ex := ex, fn := fun _ => false, pn := [], xe := fun _ _ => False }
theorem closure_go {env : Env} : ∀ (names : List (Str × NameKind)) (acc : List (Str × Addr)), (∀ y ∈ names, y.2 = .free → ∃ c, env.cells.lookup y.1 = some c) →
    (∀ x c, acc.lookup x = some c → env.cells.lookup x = some c) →
    ∃ cl, (forIn names acc fun (x : Str × NameKind) (cs : List (Str × Addr)) => (match x with
      | (name, kind) => if (kind == NameKind.free) = true then do let c ← cellOf env name; pure (ForInStep.yield ((name, c) :: cs)) else pure (ForInStep.yield cs) : Sem (ForInStep (List (Str × Addr))))) = pure cl ∧
      (∀ x c, cl.lookup x = some c → env.cells.lookup x = some c) ∧ (∀ x c, acc.lookup x = some c → cl.lookup x = some c) ∧
      (∀ x, (x, NameKind.free) ∈ names → ∃ c, cl.lookup x = some c)
  | [], acc, _, h2 => ⟨acc, rfl, h2, fun _ _ h => h, fun _ h => nomatch h⟩
  | (n, k) :: r, acc, h1, h2 => by
    rw [List.forIn_cons]
    dsimp only
    by_cases hk : (k == NameKind.free) = true
    · have hk' : k = NameKind.free := by simpa using hk
      obtain ⟨c, hc⟩ := h1 (n, k) List.mem_cons_self hk'
      have e : cellOf env n = pure c := by unfold cellOf; rw [hc]
      obtain ⟨cl, e1, e2, e3, e4⟩ := closure_go r ((n, c) :: acc) (fun y hy => h1 y (List.mem_cons_of_mem _ hy)) (fun x d hd => by
        rw [List.lookup_cons] at hd
        cases hx : x == n with
        | true =>
          rw [hx] at hd
          have : x = n := by simpa using hx
          subst this
          cases hd
          exact hc
        | false =>
          rw [hx] at hd
          exact h2 x d hd)
      have self : cl.lookup n = some c := e3 n c (by rw [List.lookup_cons]; simp)
      refine ⟨cl, ?_, e2, fun x d hd => ?_, fun x hx => ?_⟩
      · rw [if_pos hk, e, pure_bind, pure_bind]
        exact e1
      · by_cases hx : x = n
        · subst hx
          have := h2 x d hd
          rw [hc] at this
          cases this
          exact self
        · exact e3 x d (by rw [List.lookup_cons]; simp only [show (x == n) = false by simpa using hx]; exact hd)
      · rcases List.mem_cons.mp hx with z | z
        · cases z
          exact ⟨c, self⟩
        · exact e4 x z
    · obtain ⟨cl, e1, e2, e3, e4⟩ := closure_go r acc (fun y hy => h1 y (List.mem_cons_of_mem _ hy)) h2
      refine ⟨cl, ?_, e2, e3, fun x hx => ?_⟩
      · rw [if_neg hk, pure_bind]
        exact e1
      · rcases List.mem_cons.mp hx with z | z
        · cases z
          exact absurd rfl hk
        · exact e4 x z
theorem closure_of {scope : Scope} {env : Env} (h : ∀ y ∈ scope.names, y.2 = .free → ∃ c, env.cells.lookup y.1 = some c) :
    ∃ cl, closureFor scope env = pure cl ∧ (∀ x c, cl.lookup x = some c → env.cells.lookup x = some c) ∧ (∀ x, (x, NameKind.free) ∈ scope.names → ∃ c, cl.lookup x = some c) := by
  obtain ⟨cl, e1, e2, e3, e4⟩ := closure_go (env := env) scope.names [] h (fun x c hc => by simp at hc)
  refine ⟨cl, ?_, e2, e4⟩
  unfold closureFor
  simp only [bind_pure]
  exact e1
theorem relabel_lookup {env : Env} {x : Str} {k : NameKind} : ∀ {names : List (Str × NameKind)},
    (names.map fun (n, k) => if (k == NameKind.free && env.scope.kind == .function && env.kindOf n == some .cell) then (n, NameKind.cell) else (n, k)).lookup x = some k →
    ∃ k', names.lookup x = some k' ∧ (k' = k ∨ k' = .free ∧ k = .cell)
  | [], h => by simp at h
  | (n, j) :: r, h => by
    rw [List.map_cons] at h
    dsimp only at h
    have ih := @relabel_lookup env x k r
    by_cases hc : (j == NameKind.free && env.scope.kind == .function && env.kindOf n == some .cell) = true
    · rw [if_pos hc, List.lookup_cons] at h
      rw [List.lookup_cons]
      cases hx : x == n with
      | true =>
        rw [hx] at h
        cases h
        simp only [Bool.and_eq_true] at hc
        exact ⟨j, rfl, .inr ⟨by simpa using hc.1.1, rfl⟩⟩
      | false =>
        rw [hx] at h
        exact ih h
    · rw [if_neg hc, List.lookup_cons] at h
      rw [List.lookup_cons]
      cases hx : x == n with
      | true =>
        rw [hx] at h
        cases h
        exact ⟨_, rfl, .inl rfl⟩
      | false =>
        rw [hx] at h
        exact ih h
theorem relabel_free {env : Env} {x : Str} : ∀ {names : List (Str × NameKind)}, names.lookup x = some .free →
    (names.map fun (n, k) => if (k == NameKind.free && env.scope.kind == .function && env.kindOf n == some .cell) then (n, NameKind.cell) else (n, k)).lookup x = some .cell ∨
    (names.map fun (n, k) => if (k == NameKind.free && env.scope.kind == .function && env.kindOf n == some .cell) then (n, NameKind.cell) else (n, k)).lookup x = some .free
  | [], h => by simp at h
  | (n, j) :: r, h => by
    rw [List.map_cons]
    dsimp only
    have ih := @relabel_free env x r
    rw [List.lookup_cons] at h
    by_cases hc : (j == NameKind.free && env.scope.kind == .function && env.kindOf n == some .cell) = true
    · rw [if_pos hc, List.lookup_cons]
      cases hx : x == n with
      | true => exact .inl rfl
      | false => rw [hx] at h; exact ih h
    · rw [if_neg hc, List.lookup_cons]
      cases hx : x == n with
      | true => rw [hx] at h; cases h; exact .inr rfl
      | false => rw [hx] at h; exact ih h
theorem compLoop_any {prog : Program} {w : World} {A : Around} {R : Result → Shared → Prop} {s : Shared} {elt target iter : Expr} {ifs : List Expr} {scope : Scope} {pos : Pos} {it acc : Value} {env : Env} (I : Nat → Shared → Prop)
    (turn : ∀ n s, I n s → wpAny (model prog w) A (pyNext it) (fun r s₁ => match r with
      | none => R (.ok .next) s₁
      | some v => wpAny (model prog w) A (letOwnedTupleGo target it v) (fun _ s₁' => wpAny (model prog w) A (assign target env v) (fun _ s₂ =>
          wpAny (model prog w) A (forIn ifs true fun c r => if r = true then do let ok ← isTrue c env (eval c env); pure (ForInStep.yield ok) else pure (ForInStep.yield r)) (fun ok s₃ =>
            if ok = true then wpAny (model prog w) A (eval elt env) (fun x s₄ =>
              wpAny (model prog w) A (call (.builtin "list.append") [acc, x]) (fun _ s₅ => ∃ m, m < n ∧ I m s₅) (fun _ _ => False) s₄) (fun _ _ => False) s₃
            else ∃ m, m < n ∧ I m s₃) (fun _ _ => False) s₂) (fun _ _ => False) s₁') (fun _ _ => False) s₁) (fun _ _ => False) s)
    (n : Nat) (h : I n s) :
    codeAny (model prog w) A (.compLoop (.ListComp elt [⟨target, iter, ifs, 0⟩] scope pos) 0 it acc env) R s := by
  refine codeAny_loop rfl I (fun n s hI => ?_) n h
  show wpAny _ A ((compTurn (.ListComp elt [⟨target, iter, ifs, 0⟩] scope pos) 0 it acc env).onRaise (fun x => do noteFrame x env; theTreesLotGoes x)) _ _ s
  refine wpAny_noted ?_
  rw [compTurn_list]
  refine wpAny_bind (wpAny_standAt (wpAny_bind (wpAny_mono (turn n s hI) (fun r s₁ h₁ => ?_) fun _ _ h' => h'.elim)))
  cases r with
  | none => exact wpAny_pure h₁
  | some v =>
    refine wpAny_bind (wpAny_mono h₁ (fun _ s₁' h₁' => ?_) fun _ _ h' => h'.elim)
    refine wpAny_bind (wpAny_mono h₁' (fun _ s₂ h₂ => wpAny_bind (wpAny_mono h₂ (fun ok s₃ h₃ => ?_) fun _ _ h' => h'.elim)) fun _ _ h' => h'.elim)
    cases ok with
    | false => exact wpAny_pure ⟨rfl, h₃⟩
    | true =>
      exact wpAny_bind (wpAny_bind (wpAny_mono h₃ (fun x s₄ h₄ => wpAny_bind (wpAny_mono h₄ (fun _ s₅ h₅ => wpAny_pure (wpAny_pure ⟨rfl, h₅⟩)) fun _ _ h' => h'.elim)) fun _ _ h' => h'.elim))
end L2
set_option Elab.async false
set_option linter.all false
set_option maxRecDepth 100000
set_option maxHeartbeats 4000000
namespace L2
open PySem PySem.Spec PyProof.Rows
def pick (σ : St) : Option Nat → Option V
  | none => none
  | some i => (σ[i]?).getD none
theorem pick_some {σ : St} {j : Nat} {v : V} (h : pick σ (some j) = some v) : σ[j]? = some (some v) := by
  have h : (σ[j]?).getD none = some v := h
  cases e : σ[j]? with
  | none => rw [e] at h; cases h
  | some o => rw [e] at h; exact congrArg some h
def compOk (osc scope : Scope) (N Nb : List Str) (ix : List (Option Nat)) : Bool :=
  decide (scope.kind = .function) && scope.names.all (fun y => decide (y.2 ≠ .cell)) &&
  scope.names.all (fun y => decide (y.2 = .local → scope.names.lookup y.1 = some .local)) &&
  scope.names.all (fun y => decide (y.2 = .free → osc.names.lookup y.1 = some .cell ∨ osc.names.lookup y.1 = some .free)) &&
  decide (ix.length = Nb.length) &&
  (List.range Nb.length).all (fun i => match ix[i]? with
    | some (some j) => match Nb[i]? with
      | some x => decide (N[j]? = some x ∧ scope.names.lookup x = some .free)
      | none => true
    | _ => true)
structure CompOk (osc scope : Scope) (N Nb : List Str) (ix : List (Option Nat)) : Prop where
  kind : scope.kind = .function
  nocell : ∀ y ∈ scope.names, y.2 ≠ .cell
  names : ∀ y ∈ scope.names, y.2 = .local → scope.names.lookup y.1 = some .local
  fr : ∀ y ∈ scope.names, y.2 = .free → osc.names.lookup y.1 = some .cell ∨ osc.names.lookup y.1 = some .free
  len : ix.length = Nb.length
  src : ∀ (i j : Nat) (x : Str), Nb[i]? = some x → ix[i]? = some (some j) → N[j]? = some x ∧ scope.names.lookup x = some .free
theorem compOk_of {osc scope : Scope} {N Nb : List Str} {ix : List (Option Nat)} (h : compOk osc scope N Nb ix = true) : CompOk osc scope N Nb ix := by
  unfold compOk at h
  simp only [Bool.and_eq_true] at h
  obtain ⟨⟨⟨⟨⟨h1, h2⟩, h3⟩, h4⟩, h5⟩, h6⟩ := h
  refine ⟨of_decide_eq_true h1, fun y hy => of_decide_eq_true (List.all_eq_true.mp h2 y hy), fun y hy => of_decide_eq_true (List.all_eq_true.mp h3 y hy), fun y hy => of_decide_eq_true (List.all_eq_true.mp h4 y hy), of_decide_eq_true h5, fun i j x e1 e2 => ?_⟩
  have hi : i < Nb.length := (List.getElem?_eq_some_iff.mp e1).1
  have q := List.all_eq_true.mp h6 i (List.mem_range.mpr hi)
  rw [e2] at q
  simp only [e1] at q
  exact of_decide_eq_true q
def PIfs (X : Cx) (ifs : List Expr) (t : TT) : Prop :=
  ∀ (pins : List (Addr × Obj)) (s : Shared) (σ : St) (H : Hp) (Q : Bool → Hp → Prop), Inv X pins σ H s → t σ H Q →
    wpAny (model X.prog X.w) X.A (forIn ifs true fun c r => if r = true then do let ok ← isTrue c X.env (eval c X.env); pure (ForInStep.yield ok) else pure (ForInStep.yield r)) (TP X pins σ Q) X.xe s
def tTrue : TT := fun _ H Q => Q true H
theorem pifs_nil {X : Cx} : PIfs X [] tTrue := fun _ _ _ H _ I h => wpAny_tests_nil ⟨H, I, h⟩
theorem pifs_one {X : Cx} {c : Expr} {t : TT} (h : PT X c t) : PIfs X [c] t := fun pins s σ H Q I hq => wpAny_tests_one (h pins s σ H Q I hq)
def CompRun (J : It) (g : TG) (tc : TT) (te : TE) (σ0 : St) (H1 : Hp) (Q : VK) : Prop := ∀ D, H1 D = none →
  ∃ W : Nat → Nat → List V → St → Hp → Prop, (∃ m, W 0 m [] σ0 (upd H1 D (.lst []))) ∧
    ∀ i m ys σ' H', W i m ys σ' H' → H' D = some (.lst ys) ∧ ((J.stop i H' ∧ Q (.ref D) H') ∨ (J.go i H' ∧ ∀ x H2, J.yld i H' x H2 → g x σ' H2 fun σ2 H3 => tc σ2 H3 fun b H4 =>
      if b = true then te σ2 H4 fun y H5 => H5 D = some (.lst ys) ∧ ys.length < sizeLine ∧ ∃ m', m' < m ∧ W (i + 1) m' (ys ++ [y]) σ2 (upd H5 D (.lst (ys ++ [y])))
      else ∃ m', m' < m ∧ W (i + 1) m' ys σ2 H4))
def tComp (wi : TI) (g : TG) (tc : TT) (te : TE) (ix : List (Option Nat)) : TE := fun σ H Q => wi σ H fun J H1 => CompRun J g tc te (ix.map (pick σ)) H1 Q
section
variable {X : Cx} {N' : List Str} {scope osc : Scope} {cl : List (Str × Addr)} {C : Addr} {ex : List Addr} {ix : List (Option Nat)} {pins : List (Addr × Obj)} {σ : St} {H2 : Hp} {s2 : Shared}
theorem comp_ok (I2 : Inv X pins σ H2 s2) (K : CompOk X.env.scope scope X.N N' ix) (e2 : ∀ x c, cl.lookup x = some c → X.env.cells.lookup x = some c) (e3 : ∀ x, (x, NameKind.free) ∈ scope.names → ∃ c, cl.lookup x = some c)
    (hC : s2.heap.objs.size ≤ C) (f2 : ∀ b ∈ ex, FpOk X pins H2 b) (hex : ∀ b ∈ ex, b < s2.heap.objs.size) : (X.comp N' scope cl C s2 H2 ex).Ok where
  mod := I2.ok.mod
  kind := K.kind
  glob := I2.ok.glob
  blt := I2.ok.blt
  above := hC
  inj := fun x y c h1 h2 => I2.ok.inj x y c (e2 x c h1) (e2 y c h2)
  has := fun x hx => by
    have key : ∀ k, (relabel scope X.env).names.lookup x = some k → k = .cell ∨ k = .free → ∃ c, cl.lookup x = some c := fun k hk hk2 => by
      obtain ⟨k', h1, h2⟩ := relabel_lookup hk
      have hm := PySem.mem_of_lookup h1
      rcases h2 with rfl | ⟨rfl, rfl⟩
      · rcases hk2 with rfl | rfl
        · exact absurd rfl (K.nocell _ hm)
        · exact e3 x hm
      · exact e3 x hm
    rcases hx with hx | hx
    · exact key _ hx (.inl rfl)
    · exact key _ hx (.inr rfl)
  cab := fun x c h => by cases h
  hd := I2.ok.hd
  frames := I2.ok.frames
  stk := .inl rfl
  exf := fun b hb => ⟨Nat.ne_of_lt (Nat.lt_of_lt_of_le (hex b hb) hC), fun x c h => (f2 b hb).2.2.2.2.1 x c (e2 x c h)⟩
  bs := I2.bs
  bsz := Nat.le_trans I2.ok.bsz I2.sz
  noex := fun b o e hb => by
    rcases (f2 b hb).2.2.2.1 with z | z
    · exact I2.ok.noex b o e z
    · exact absurd (Nat.lt_of_lt_of_le (Heap.lt_size (I2.ok.bs b o e).1) z) (Nat.lt_irrefl _)
  exfs := fun b hb hf => by
    rcases List.mem_cons.mp (I2.stkSub b hf) with z | z
    · exact (f2 b hb).2.1 z
    · exact (f2 b hb).2.2.1 z
  funs := I2.stack
  frf := I2.stkFree
theorem comp_out (I2 : Inv X pins σ H2 s2) (f2 : ∀ b ∈ ex, FpOk X pins H2 b) (hC : s2.heap.objs.size ≤ C) {σ3 : St} {H3 : Hp} {s4 : Shared} {h' : Heap}
    (J : Inv (X.comp N' scope cl C s2 H2 ex) [] σ3 H3 s4) (sb : Heap.SameBut C s4.heap h') : Inv X pins σ H3 { s4 with heap := h' } := by
  have ne : ∀ b o, s2.heap.get? b = some o → b ≠ C := fun b o e => Nat.ne_of_lt (Nat.lt_of_lt_of_le (Heap.lt_size e) hC)
  have B := J.base
  have fr : H3 C = none := J.free
  refine I2.call' (s' := { s4 with heap := h' }) (ch := ex) J.os ⟨fun b o e n hb hx => ?_, fun b o e n hb hx => ?_, B.free, fun b o e hx => ?_, B.tups, B.frzs, B.tbls⟩ ?_ J.bare fun b hb => ?_
  · exact (sb.2 b (ne b o e)).trans (B.keep b o e n hb hx)
  · obtain ⟨sl, q⟩ := B.slot b o e n hb hx
    exact ⟨sl, (sb.2 b (ne b o e)).trans q⟩
  · obtain ⟨o', q⟩ := B.there b o e hx
    exact ⟨o', (sb.2 b (ne b o e)).trans q⟩
  · intro b ob e
    refine (J.hok b ob e).stay (fun c w' hc q => (sb.2 c ?_).trans q) (fun _ q => q) fun _ _ q => q
    rintro rfl
    rcases hc with rfl | hc
    · rw [fr] at e; cases e
    · rw [fr] at hc; cases hc
  · obtain ⟨_, f1, _, f3, f4, f5⟩ := f2 b hb
    exact ⟨f3, f1, f4, f5⟩
end
theorem comp_block {X : Cx} {tg iter elt : Expr} {ifs : List Expr} {scope : Scope} {pos : Pos} {g : TG} {tc : TT} {te : TE} {N' : List Str} {ix : List (Option Nat)} {pins : List (Addr × Obj)} {σ : St} {s2 : Shared} {itv : Value} {Q : VK} {cl : List (Str × Addr)}
    {RR : Value → Addr → Result → Shared → Prop} (hc : X.calm = true) (K : CompOk X.env.scope scope X.N N' ix) (e2 : ∀ x c, cl.lookup x = some c → X.env.cells.lookup x = some c) (e3 : ∀ x, (x, NameKind.free) ∈ scope.names → ∃ c, cl.lookup x = some c)
    (hg : ∀ cl C s2 H2 ex, PG (X.comp N' scope cl C s2 H2 ex) tg g) (ht : ∀ cl C s2 H2 ex, PIfs (X.comp N' scope cl C s2 H2 ex) ifs tc) (he : ∀ cl C s2 H2 ex, PE (X.comp N' scope cl C s2 H2 ex) elt te)
    (h2 : PIE X pins σ tg (fun J H1 => CompRun J g tc te (ix.map (pick σ)) H1 Q) itv s2)
    (hRR : ∀ H2 fp C D σ3 H3 s4, Inv X pins σ H2 s2 → (∀ b ∈ fp, FpOk X pins H2 b) → s2.heap.objs.size ≤ C → Inv (X.comp N' scope cl C s2 H2 fp) [] σ3 H3 s4 → Q (.ref D) H3 → RR (.ref D) C (.ok .next) s4) :
    wpAny (model X.prog X.w) X.A (newList []) (fun acc s₃ => wpAny (model X.prog X.w) X.A (newFunctionEnv scope X.env.globals cl [] X.env.qual none .none (some X.env)) (fun cenv s₄ =>
      codeAny (model X.prog X.w) X.A (.compStart (.ListComp elt [⟨tg, iter, ifs, 0⟩] scope pos) 0 itv acc { cenv with scope := relabel scope X.env }) (RR acc cenv.locals) s₄) X.xe s₃) X.xe s2 := by
  obtain ⟨it, fp, tn, J, H2, rfl, I2, T, st2, f2, q⟩ := h2
  refine wpAny_newObj_type (wpAny_newFunctionEnv K.nocell (by intro y hy; simp at hy) (fun h1 hns1 hsb1 => ?_) K.kind)
  dsimp only at hns1 hsb1 ⊢
  generalize hP : s2.heap.push { cls := .type "list", dict := none, data := .seq ([] : List Value).toArray } = P2 at hns1 hsb1 ⊢
  have hCs : P2.objs.size = s2.heap.objs.size + 1 := by rw [← hP, Heap.size_push]
  have hC : s2.heap.objs.size ≤ P2.objs.size := by omega
  have hDC : s2.heap.objs.size ≠ P2.objs.size := by omega
  have old : ∀ b o, s2.heap.get? b = some o → h1.get? b = some o := fun b o e =>
    hsb1.extBut b o (Nat.ne_of_lt (Nat.lt_of_lt_of_le (Heap.lt_size e) hC)) (Heap.get?_push_of_some _ (hP ▸ Heap.get?_push_of_some _ e))
  have hacc : h1.get? s2.heap.objs.size = some { cls := .type "list", dict := none, data := .seq ([] : List Value).toArray } :=
    hsb1.extBut _ _ hDC (Heap.get?_push_of_some _ (hP ▸ Heap.get?_push_size _ rfl))
  have hD : H2 s2.heap.objs.size = none := I2.hok.fresh (Nat.le_refl _)
  have hCn : H2 P2.objs.size = none := I2.hok.fresh hC
  obtain ⟨W, ⟨m0, w0⟩, turn⟩ := q s2.heap.objs.size hD
  have hex : ∀ b ∈ fp, b < s2.heap.objs.size := fun b hb => by
    obtain ⟨o, e, _⟩ := T.obj 0 _ st2 b hb
    exact Heap.lt_size e
  have YOk := comp_ok (cl := cl) (C := P2.objs.size) (ex := fp) I2 K e2 e3 hC f2 hex
  have hok1 : HOk X.prog X.w (upd H2 s2.heap.objs.size (.lst [])) h1 := I2.hok.laid old (Nat.le_refl _) ⟨Nat.zero_le _, [], 0, .nil, hacc⟩
  have IY : Inv (X.comp N' scope cl P2.objs.size s2 H2 fp) [] (ix.map (pick σ)) (upd H2 s2.heap.objs.size (.lst [])) { s2 with heap := h1, toks := s2.toks + ([] : List (Str × Value)).length } := by
    refine ⟨YOk, rfl, I2.bare, ?_, ⟨_, hns1, fun i x v e1 e4 e5 => ?_⟩, fun x c e => ?_, ?_, fun x c e => ?_, fun p hp => absurd (show p ∈ ([] : List (Addr × Obj)) from hp) (by simp), hok1, ?_⟩
    · exact (Un.laid old (Nat.le_refl _) hD).mono (fun _ z => z) (fun _ z => z)
    · rw [List.getElem?_map] at e4
      cases e6 : ix[i]? with
      | none => rw [e6] at e4; cases e4
      | some o =>
        rw [e6] at e4
        cases o with
        | none => cases (Option.some.inj e4)
        | some j =>
          have e7 : σ[j]? = some (some v) := pick_some (Option.some.inj e4)
          obtain ⟨n1, n2⟩ := K.src i j x e1 e6
          have hm := PySem.mem_of_lookup n2
          have kx := K.fr _ hm rfl
          obtain ⟨m, hn, hl⟩ := I2.loc
          obtain ⟨u, r, l⟩ := hl j x v n1 e7 (kx.elim (fun z => .inr (.inl z)) fun z => .inr (.inr z))
          refine ⟨u, r, .inr ⟨?_, ?_⟩⟩
          · exact relabel_free n2
          · rcases l with ⟨k1, _⟩ | ⟨_, c, hc1, hc2⟩
            · exfalso
              have k1' : X.env.scope.names.lookup x = some .local := k1
              rcases kx with z | z
              · rw [k1'] at z; cases z
              · rw [k1'] at z; cases z
            · obtain ⟨c', hc'⟩ := e3 x hm
              have e8 := e2 x c' hc'
              rw [hc1] at e8
              cases e8
              obtain ⟨o, ho, hd⟩ := hc2
              exact ⟨c, hc', o, old _ _ ho, hd⟩
    · obtain ⟨v, o, ho, hd⟩ := I2.cell x c (e2 x c e)
      exact ⟨v, o, old _ _ ho, hd⟩
    · show upd H2 s2.heap.objs.size (.lst []) P2.objs.size = none
      rw [upd_ne (Ne.symm hDC)]
      exact hCn
    · obtain ⟨v, z⟩ := I2.cell x c (e2 x c e)
      rw [upd_ne (Nat.ne_of_lt z.lt)]
      exact I2.freeC x c (e2 x c e)
    · rw [List.length_map]
      exact K.len
  have hnf : ∀ b ∈ fp, b ≠ P2.objs.size := fun b hb => Nat.ne_of_lt (Nat.lt_of_lt_of_le (hex b hb) hC)
  have stat : ∀ {H' : Hp}, (∀ b ∈ fp, H' b = none) → ∀ b ∈ fp, FpOk (X.comp N' scope cl P2.objs.size s2 H2 fp) [] H' b := fun hn b hb =>
    ⟨hn b hb, hnf b hb, YOk.exfs b hb, .inl hb, fun x c e => (f2 b hb).2.2.2.2.1 x c (e2 x c e), fun p hp => absurd (show p ∈ ([] : List (Addr × Obj)) from hp) (by simp)⟩
  have loop : ∀ s₃ : Shared, s₃ = { s2 with heap := h1, toks := s2.toks + ([] : List (Str × Value)).length } →
      codeAny (model X.prog X.w) X.A (.compLoop (.ListComp elt [⟨tg, iter, ifs, 0⟩] scope pos) 0 (.ref it) (.ref s2.heap.objs.size) (compEnvC scope cl P2.objs.size X.env))
        (RR (.ref s2.heap.objs.size) P2.objs.size) s₃ := by
    rintro s₃ rfl
    refine compLoop_any (fun n s' => ∃ i ys σ' H', Inv (X.comp N' scope cl P2.objs.size s2 H2 fp) [] σ' H' s' ∧ tn i s'.heap ∧ (∀ b ∈ fp, H' b = none) ∧ W i n ys σ' H') ?_ m0
      ⟨0, [], _, _, IY, T.keep _ _ _ st2 (fun b hb o e => old b o e), fun b hb => ?_, w0⟩
    · rintro n s3 ⟨i, ys, σ3, H3, I3, st3, fr3, w3⟩
      obtain ⟨hDl, tt⟩ := turn i n ys σ3 H3 w3
      rcases tt with ⟨stop, qn⟩ | ⟨go, step⟩
      · refine thn (T.done (X.comp N' scope cl P2.objs.size s2 H2 fp) rfl rfl rfl hc i [] s3 σ3 H3 (fun _ _ => False) I3 (stat fr3) st3 stop) fun r s4 ⟨hr, I4⟩ => ?_
        subst hr
        exact hRR H2 fp P2.objs.size s2.heap.objs.size σ3 H3 s4 I2 f2 hC I4 qn
      · refine thn (T.item (X.comp N' scope cl P2.objs.size s2 H2 fp) rfl rfl rfl hc i [] s3 σ3 H3 (fun _ _ => False) I3 (stat fr3) st3 go) fun r s4 ⟨u, hr, h4⟩ => ?_
        subst hr
        refine thn h4 fun _ s5 ⟨x, H5, I5, r5, y5, st5, fr5⟩ => ?_
        have I5' := I5.pinned (stat fr5) (T.obj _ _ st5)
        refine thn (hg cl P2.objs.size s2 H2 fp _ s5 σ3 H5 x u _ I5' r5 (step x H5 y5)) fun _ s6 ⟨σ6, H6, I6, q6⟩ => ?_
        refine thn (ht cl P2.objs.size s2 H2 fp _ s6 σ6 H6 _ I6 q6) fun b s7 ⟨H7, I7, q7⟩ => ?_
        have again : ∀ {s8 : Shared} {H8 : Hp} {ys' : List V} {m' : Nat}, Inv (X.comp N' scope cl P2.objs.size s2 H2 fp) ([] ++ pinsAt fp s5.heap) σ6 H8 s8 → m' < n → W (i + 1) m' ys' σ6 H8 →
            ∃ m, m < n ∧ ∃ i ys σ' H', Inv (X.comp N' scope cl P2.objs.size s2 H2 fp) [] σ' H' s8 ∧ tn i s8.heap ∧ (∀ b ∈ fp, H' b = none) ∧ W i m ys σ' H' := fun {s8 H8 ys' m'} I8 hm w8 => by
          refine ⟨m', hm, i + 1, ys', σ6, H8, I8.unpinned, T.keep _ _ _ st5 fun b hb o e => (I8.pin (b, o) (List.mem_append_right _ (List.mem_append_right _ (mem_pinsAt hb e)))).1, fun b hb => ?_, w8⟩
          obtain ⟨o, e, d⟩ := T.obj _ _ st5 b hb
          exact (I8.pin (b, o) (List.mem_append_right _ (List.mem_append_right _ (mem_pinsAt hb e)))).2.1
        cases b with
        | false =>
          obtain ⟨m', hm, w7⟩ : ∃ m', m' < n ∧ W (i + 1) m' ys σ6 H7 := q7
          exact again I7 hm w7
        | true =>
          have q7' : te σ6 H7 _ := q7
          show wpAny _ _ (eval elt (compEnvC scope cl P2.objs.size X.env)) _ _ _
          refine thn (he cl P2.objs.size s2 H2 fp _ s7 σ6 H7 _ I7 q7') fun yv s8 ⟨y, H8, I8, r8, hD8, hz8, m', hm, w8⟩ => ?_
          refine thn (mt_append (X := X.comp N' scope cl P2.objs.size s2 H2 fp) _ s8 σ6 H8 (.ref s2.heap.objs.size) [y] (.ref s2.heap.objs.size) [yv] (fun _ H9 => H9 = upd H8 s2.heap.objs.size (.lst (ys ++ [y]))) I8 rfl (.cons r8 .nil)
            ⟨_, ys, y, rfl, rfl, hD8, hz8, rfl⟩) fun _ s9 ⟨_, H9, I9, _, e9⟩ => ?_
          subst e9
          exact again I9 hm w8
    · show upd H2 s2.heap.objs.size (.lst []) b = none
      rw [upd_ne (Nat.ne_of_lt (hex b hb))]
      exact (f2 b hb).1
  exact codeAny_compStart_list (loop _ rfl) (T.self X.A 0 _ _ _ (T.keep _ _ _ st2 (fun b hb o e => old b o e)) (loop _ rfl))
theorem pe_comp {X : Cx} {tg iter elt : Expr} {ifs : List Expr} {scope : Scope} {pos : Pos} {wi : TI} {g : TG} {tc : TT} {te : TE} (N' : List Str) (ix : List (Option Nat)) (osc : Scope) (N : List Str)
    (hc : X.calm = true) (hi : PI X tg iter wi) (ok : compOk osc scope N N' ix = true)
    (hg : ∀ cl C s2 H2 ex, PG (X.comp N' scope cl C s2 H2 ex) tg g) (ht : ∀ cl C s2 H2 ex, PIfs (X.comp N' scope cl C s2 H2 ex) ifs tc) (he : ∀ cl C s2 H2 ex, PE (X.comp N' scope cl C s2 H2 ex) elt te)
    (hsc : X.env.scope = osc := by rfl) (hN : X.N = N := by rfl) (hs : ∀ x, foldedSetIterable iter X.env x = pure x := by intro _; rfl) : PE X (.ListComp elt [⟨tg, iter, ifs, 0⟩] scope pos) (tComp wi g tc te ix) := by
  intro pins s σ H Q I h
  have K0 := compOk_of ok
  have K : CompOk X.env.scope scope X.N N' ix := by rw [hsc, hN]; exact K0
  obtain ⟨cl, hclos, e2, e3⟩ := closure_of (scope := scope) (env := X.env) (fun y hy hf => I.ok.has y.1 (K.fr y hy hf))
  rw [eval_ListComp]
  refine wpAny_comprehension_free (use := none) rfl hs hclos K.kind K.names (wpAny_mono (hi pins s σ H _ I h) (fun v s1 h1 => thn h1 fun itv s2 h2 => ?_) fun _ _ e => e)
  refine comp_block hc K e2 e3 hg ht he h2 fun H2 fp C D σ3 H3 s4 I2 f2 hC I4 qn => ?_
  obtain ⟨m, hn, _⟩ := I4.loc
  exact ⟨m, hn, fun h' sb => ⟨.ref D, H3, comp_out I2 f2 hC I4 sb, rfl, qn⟩⟩
theorem ps_setC {X : Cx} {tg iter elt : Expr} {ifs : List Expr} {scope : Scope} {pos spos py : Pos} {y : Str} {wi : TI} {g : TG} {tc : TT} {te : TE} (N' : List Str) (ix : List (Option Nat)) (osc : Scope) (N : List Str) {i : Nat} (nd : X.N.Nodup) (hiy : X.N[i]? = some y) (hxy : Loc X.env.scope y)
    (hc : X.calm = true) (hi : PI X tg iter wi) (ok : compOk osc scope N N' ix = true)
    (hg : ∀ cl C s2 H2 ex, PG (X.comp N' scope cl C s2 H2 ex) tg g) (ht : ∀ cl C s2 H2 ex, PIfs (X.comp N' scope cl C s2 H2 ex) ifs tc) (he : ∀ cl C s2 H2 ex, PE (X.comp N' scope cl C s2 H2 ex) elt te)
    (hsc : X.env.scope = osc := by rfl) (hN : X.N = N := by rfl) (hs : ∀ x, foldedSetIterable iter X.env x = pure x := by intro _; rfl)
    (hsw : swapsWith (.ListComp elt [⟨tg, iter, ifs, 0⟩] scope pos) (some (.Name y py)) spos.line X.env = pure true := by rfl) (hf : X.fn y = true ∨ X.env.scope.names.lookup y = some .local := by first | exact .inl rfl | exact .inr rfl | assumption) :
    PS X (.Assign [.Name y py] (.ListComp elt [⟨tg, iter, ifs, 0⟩] scope pos) spos) (tAsg (tComp wi g tc te ix) (gName i)) := by
  intro pins s σ H D I h
  have K0 := compOk_of ok
  have K : CompOk X.env.scope scope X.N N' ix := by rw [hsc, hN]; exact K0
  obtain ⟨cl, hclos, e2, e3⟩ := closure_of (scope := scope) (env := X.env) (fun y hy hf => I.ok.has y.1 (K.fr y hy hf))
  rw [exec_Assign_Name_used _ _ _ _ hsw]
  refine wpAny_bind (wpAny_standAt (wpAny_bind ?_))
  show wpAny _ X.A (do let _ ← comprehension (.ListComp elt [⟨tg, iter, ifs, 0⟩] scope pos) scope X.env _ (newList []) false (eval iter X.env) (some (assign (.Name y py) X.env))) _ _ s
  refine wpAny_bind (wpAny_mono (wpAny_comprehension_free (use := some (assign (.Name y py) X.env)) (Q := fun _ s' => SP X pins D .next s') rfl hs hclos K.kind K.names
    (wpAny_mono (hi pins s σ H _ I h) (fun v s1 h1 => thn h1 fun itv s2 h2 => ?_) fun _ _ e => e)) (fun _ s' hq => wpAny_pure (wpAny_pure hq)) fun _ _ e => e)
  refine comp_block hc K e2 e3 hg ht he h2 fun H2 fp C L σ3 H3 s4 I2 f2 hC I4 qn => ?_
  have I5 : Inv X pins σ H3 s4 := comp_out I2 f2 hC I4 (Heap.SameBut.refl ..)
  obtain ⟨m, hn, _⟩ := I4.loc
  have hn : s4.heap.Ns C m := hn
  have fC : FpOk X pins H3 C := I2.fpOk hC I4.free
  show wpAny _ X.A (assign (.Name y py) X.env (.ref L)) _ _ s4
  refine wpAny_assign_Name (store_ok2 I5 nd hiy hxy (v := .ref L) rfl (fun s5 I6 hch => ?_) hf)
  obtain ⟨a, sb, ha⟩ := hch
  have nCa : C ≠ a := by
    rcases ha with rfl | ha
    · exact fC.2.1
    · exact fun z => fC.2.2.2.2.1 y a ha z.symm
  refine ⟨m, hn.sameBut sb nCa, fun h' sb' => ⟨_, H3, ?_, qn⟩⟩
  obtain ⟨f0, f1, f2', f3, f4, f5⟩ := fC
  exact I6.turned (t' := s5.toks) (fun b o hb e => (sb'.2 b hb).trans e) f0 f1 f3 f4 f5
end L2
set_option Elab.async false
set_option linter.all false
set_option maxRecDepth 100000
set_option maxHeartbeats 4000000
namespace L2
open PySem PySem.Spec PyProof.Rows
section
variable {X : Cx}
theorem bools_of : ∀ {bs : List Bool} {us : List Value}, Vals (bs.map V.bl) us → LSm.BoolsAre us bs
  | [], _, .nil => .nil
  | b :: bs, _, .cons r t => by
    cases r
    exact .cons b (bools_of t)
theorem call_all (hc : X.calm = true) : CallR X (.builtin "all") (fun xs H Q => ∃ (p : Addr) (bs : List Bool), xs = [.ref p] ∧ SqL X.K H p (bs.map V.bl) ∧ Q (.bl (bs.all id)) H) := by
  intro pins s σ H xs us Q I rv h
  obtain ⟨p, bs, rfl, hq, q⟩ := h
  obtain ⟨u, rfl, ru⟩ := rv.one
  cases ru
  obtain ⟨its, r, pl, hz⟩ := I.list hq
  have hb := bools_of r
  obtain ⟨m, F⟩ := I.fr
  have hl := pl.isList
  have hlt : p < s.heap.objs.size := by obtain ⟨_, e, _⟩ := hl; exact Heap.lt_size e
  have hh := I.ok.hd hc
  refine call_all_walk (wpAny_pyIter_list hl ?_)
  refine ⟨s.heap.objs.size, [s.heap.objs.size, p], [s.heap.objs.size], its.toArray.size, _, _, fun i => (bs[i]?).getD true, rfl, Walks.list (A := X.A.in1) hh _ p (Nat.ne_of_lt hlt) its.toArray,
    ⟨⟨_, Heap.get?_push_size _ rfl, rfl, rfl⟩, hl.push _⟩, fun i v s' Q' E' hP hQ => ?_, fun h' tk hk => ?_⟩
  · obtain ⟨b, e, rfl⟩ := hb.get i v (by simpa using hP)
    simp only [e, Option.getD_some] at hQ
    exact wpAny_truthy_bool hQ
  · have e : ((List.range its.toArray.size).all fun i => (bs[i]?).getD true) = bs.all id := by
      rw [List.size_toArray, hb.length]; exact LSm.range_all bs
    rw [e]
    exact ⟨.bl _, H, I.kept (LSm.kept_iter hk), rfl, q⟩
theorem call_isinst : CallR X (.builtin "isinstance") (fun xs H Q => ∃ x T t b, xs = [x, .ty T] ∧ TyOf X.K H x t ∧ PySem.W.kitOne X.K t (.type T) = some b ∧ Q (.bl b) H) := by
  intro pins s σ H xs us Q I rv h
  obtain ⟨x, T, t, b, rfl, ty, e, q⟩ := h
  obtain ⟨u, v, rfl, ru, rv⟩ := rv.two
  cases rv
  exact isinst_ok I ru ty e fun tk => ⟨.bl b, H, I.tok tk, rfl, q⟩
theorem ints_of : ∀ {ns : List Int} {us : List Value}, Vals (ns.map V.int) us → IntsAre us ns
  | [], _, .nil => .nil
  | b :: bs, _, .cons r t => by
    obtain ⟨tk, rfl⟩ := r
    exact .cons _ _ (ints_of t)
end
mutual
inductive RdD (K : PySem.W.Frag) (H : Hp) : V → PyData → Prop
  | non : RdD K H .non .none
  | bl (b : Bool) : RdD K H (.bl b) (.bool b)
  | int (i : Int) : RdD K H (.int i) (.int i)
  | str (x : Str) : RdD K H (.str x) (.str x)
  | lst {a : Addr} {xs : List V} {ds : List PyData} : SqL K H a xs → RdAll K H xs ds → RdD K H (.ref a) (.list ds)
  | tup {a : Addr} {xs : List V} {ds : List PyData} : SqT K H a xs → RdAll K H xs ds → RdD K H (.ref a) (.tuple ds)
inductive RdAll (K : PySem.W.Frag) (H : Hp) : List V → List PyData → Prop
  | nil : RdAll K H [] []
  | cons {x : V} {d : PyData} {xs : List V} {ds : List PyData} : RdD K H x d → RdAll K H xs ds → RdAll K H (x :: xs) (d :: ds)
end
section
variable {X : Cx} {pins : List (Addr × Obj)} {σ : St} {H : Hp} {s : Shared}
mutual
theorem Inv.reads (I : Inv X pins σ H s) : ∀ {x : V} {d : PyData} {u : Value}, RdD X.K H x d → RelV x u → ∃ as, Reads s.heap u d as
  | _, _, _, .non, r => by cases r; exact ⟨_, .none⟩
  | _, _, _, .bl b, r => by cases r; exact ⟨_, .bool b⟩
  | _, _, _, .int i, r => by obtain ⟨t, rfl⟩ := r; exact ⟨_, .int i t⟩
  | _, _, _, .str x, r => by obtain ⟨t, rfl⟩ := r; exact ⟨_, .str x t⟩
  | _, _, _, .lst hq ha, r => by
    cases r
    obtain ⟨its, rv, ⟨o, n, e, c, dd, dt⟩, _⟩ := I.list hq
    obtain ⟨as, q⟩ := Inv.readsAll I ha rv
    exact ⟨_, .list e c dt (by simpa using q)⟩
  | _, _, _, .tup hq ha, r => by
    cases r
    obtain ⟨its, rv, ⟨o, e, c, n, dt⟩, _⟩ := I.tuple hq
    obtain ⟨as, q⟩ := Inv.readsAll I ha rv
    exact ⟨_, .tuple e c dt (by simpa using q)⟩
theorem Inv.readsAll (I : Inv X pins σ H s) : ∀ {xs : List V} {ds : List PyData} {us : List Value}, RdAll X.K H xs ds → Vals xs us → ∃ as, ReadsAll s.heap us ds as
  | _, _, _, .nil, .nil => ⟨_, .nil⟩
  | _, _, _, .cons h t, .cons r rr => by
    obtain ⟨as, q⟩ := Inv.reads I h r
    obtain ⟨bs, p⟩ := Inv.readsAll I t rr
    exact ⟨_, .cons q p⟩
end
def rEqD (K : PySem.W.Frag) (neg : Bool) : R2 := fun x y H Q => ∃ dx dy, RdD K H x dx ∧ RdD K H y dy ∧ SeqAt.shaped dx = true ∧ SeqAt.shaped dy = true ∧ Q (.bl (if neg then !PyData.eqv dx dy else PyData.eqv dx dy)) H
theorem op_neD (hu : X.A.units + 64 < cLine) : OpR X (compareOp .NotEq) (rEqD X.K true) := by
  intro pins s σ H x y v u Q I rx ry h
  obtain ⟨dx, dy, h1, h2, s1, s2, q⟩ := h
  obtain ⟨as, r1⟩ := I.reads h1 rx
  obtain ⟨bs, r2⟩ := I.reads h2 ry
  exact ne_dataH r1 r2 s1 s2 hu ⟨.bl _, H, I, rfl, q⟩
end
end L2
set_option Elab.async false
set_option linter.all false
set_option maxRecDepth 100000
set_option maxHeartbeats 4000000
namespace L2
open PySem PySem.Spec PyProof.Rows
end L2
set_option Elab.async false
set_option linter.all false
set_option maxRecDepth 100000
set_option maxHeartbeats 4000000
namespace L2
open PySem PySem.Spec PyProof.Rows
def Pu (te : TE) (σ : St) (H : Hp) (v : V) : Prop := ∀ (H' : Hp) (Q : VK), Same H H' → (∀ H'', Same H' H'' → Q v H'') → te σ H' Q
def PuT (tc : TT) (σ : St) (H : Hp) (b : Bool) : Prop := ∀ (H' : Hp) (Q : Bool → Hp → Prop), Same H H' → (∀ H'', Same H' H'' → Q b H'') → tc σ H' Q
theorem puT_true {σ : St} {H : Hp} : PuT tTrue σ H true := fun H' Q _ q => q H' (Same.refl _)
theorem Same.upd {H H' : Hp} {D : Addr} {o : HO} (e : Same H H') (hD : H D = none) : Same H (upd H' D o) := fun b u q => by
  rw [upd_ne (ne_of_none q hD)]
  exact e b u q
theorem Same.new {H : Hp} {D : Addr} {o : HO} (hD : H D = none) : Same H (L2.upd H D o) := (Same.refl H).upd hD
theorem comp_by {J : It} {n : Nat} {σ0 : St} {H1 : Hp} {D : Addr} {tc : TT} {te : TE} {Q : VK} (Pv : Nat → List V → Hp → Prop) (h0 : Pv 0 [] (upd H1 D (.lst [])))
    (hl : ∀ i ys H', i ≤ n → Pv i ys H' → H' D = some (.lst ys)) (hgo : ∀ i ys H', i < n → Pv i ys H' → J.go i H') (hst : ∀ ys H', Pv n ys H' → J.stop n H')
    (step : ∀ i ys H' x H2, i < n → Pv i ys H' → J.yld i H' x H2 → tc (σ0.set 0 (some x)) H2 fun b H4 => if b = true then te (σ0.set 0 (some x)) H4 fun y H5 => H5 D = some (.lst ys) ∧ ys.length < sizeLine ∧ Pv (i + 1) (ys ++ [y]) (upd H5 D (.lst (ys ++ [y]))) else Pv (i + 1) ys H4)
    (fin : ∀ ys H', Pv n ys H' → Q (.ref D) H') :
    ∃ W : Nat → Nat → List V → St → Hp → Prop, (∃ m, W 0 m [] σ0 (upd H1 D (.lst []))) ∧
      ∀ i m ys σ' H', W i m ys σ' H' → H' D = some (.lst ys) ∧ ((J.stop i H' ∧ Q (.ref D) H') ∨ (J.go i H' ∧ ∀ x H2, J.yld i H' x H2 → gName 0 x σ' H2 fun σ2 H3 => tc σ2 H3 fun b H4 =>
        if b = true then te σ2 H4 fun y H5 => H5 D = some (.lst ys) ∧ ys.length < sizeLine ∧ ∃ m', m' < m ∧ W (i + 1) m' (ys ++ [y]) σ2 (upd H5 D (.lst (ys ++ [y])))
        else ∃ m', m' < m ∧ W (i + 1) m' ys σ2 H4)) := by
  refine ⟨fun i m ys σ' H' => m = n - i ∧ i ≤ n ∧ (∀ x, σ'.set 0 x = σ0.set 0 x) ∧ Pv i ys H', ⟨n, by simp, Nat.zero_le _, fun _ => rfl, h0⟩, ?_⟩
  rintro i m ys σ' H' ⟨rfl, hi, es, p⟩
  refine ⟨hl i ys H' hi p, ?_⟩
  by_cases hlt : i < n
  · refine .inr ⟨hgo i ys H' hlt p, fun x H2 y => ?_⟩
    have st := step i ys H' x H2 hlt p y
    show tc (σ'.set 0 (some x)) H2 _
    rw [es]
    have e1 : ∀ z, (σ0.set 0 (some x)).set 0 z = σ0.set 0 z := fun z => by rw [List.set_set]
    have e2 : ∀ ys' H5, (∃ m', m' < n - i ∧ m' = n - (i + 1) ∧ i + 1 ≤ n ∧ (∀ z, (σ0.set 0 (some x)).set 0 z = σ0.set 0 z) ∧ Pv (i + 1) ys' H5) ↔ Pv (i + 1) ys' H5 := fun ys' H5 =>
      ⟨fun ⟨_, _, _, _, _, q⟩ => q, fun q => ⟨n - (i + 1), by omega, rfl, hlt, e1, q⟩⟩
    simp only [e2]
    exact st
  · have e : i = n := by omega
    subst e
    exact .inl ⟨hst ys H' p, fin ys H' p⟩
theorem comp_of {α : Type} {K : PySem.W.Frag} {a : Addr} {ms : List α} {σ0 : St} {H1 : Hp} {tc : TT} {te : TE} {Q : VK} (u : α → V) (p : α → Bool) (f : α → V) (hq : SqL K H1 a (ms.map u)) (hn : ms.length ≤ sizeLine)
    (ht : ∀ x ∈ ms, PuT tc (σ0.set 0 (some (u x))) H1 (p x)) (he : ∀ x ∈ ms, p x = true → Pu te (σ0.set 0 (some (u x))) H1 (f x))
    (fin : ∀ D H', H1 D = none → Same H1 H' → H' D = some (.lst ((ms.filter p).map f)) → Q (.ref D) H') :
    CompRun (Itl K a) (gName 0) tc te σ0 H1 Q := by
  intro D hD
  refine comp_by (n := ms.length) (fun i ys H' => Same H1 H' ∧ H' D = some (.lst ys) ∧ ys = ((ms.take i).filter p).map f) ⟨Same.new hD, upd_same, by simp⟩ (fun i ys H' _ q => q.2.1) (fun i ys H' hi q => ⟨ms.map u, u ms[i], q.1.seq hq, by simp [hi]⟩)
    (fun ys H' q => ⟨ms.map u, q.1.seq hq, by simp⟩) ?_ (fun ys H' q => ?_)
  · rintro i ys H' x H2 hi ⟨sm, hDl, hys⟩ ⟨rfl, hy⟩
    have hx : (ms.map u)[i]? = some x := hy _ (sm.seq hq)
    obtain ⟨z, hz, rfl⟩ : ∃ z, ms[i]? = some z ∧ u z = x := by
      rw [List.getElem?_map] at hx
      cases e : ms[i]? with
      | none => rw [e] at hx; cases hx
      | some z => rw [e] at hx; exact ⟨z, rfl, Option.some.inj hx⟩
    have hm : z ∈ ms := List.mem_of_getElem? hz
    have tk : ms.take (i + 1) = ms.take i ++ [z] := by
      rw [List.take_add_one, hz]
      simp only [Option.toList]
    have hlen : ys.length ≤ i := by
      rw [hys, List.length_map]
      exact Nat.le_trans (List.length_filter_le _ _) (by rw [List.length_take]; omega)
    refine ht z hm _ _ sm fun H4 s4 => ?_
    cases hp : p z with
    | true =>
      refine iteT ?_
      refine he z hm hp _ _ (sm.trans s4) fun H5 s5 => ⟨s5 _ _ (s4 _ _ hDl), by omega, ((sm.trans s4).trans s5).upd hD, upd_same, ?_⟩
      rw [tk, List.filter_append, List.map_append, ← hys]
      simp [hp]
    | false =>
      refine iteF ⟨sm.trans s4, s4 _ _ hDl, ?_⟩
      rw [tk, List.filter_append, List.map_append, ← hys]
      simp [hp]
  · obtain ⟨sm, hDl, hys⟩ := q
    rw [List.take_length] at hys
    exact fin D H' hD sm (by rw [← hys]; exact hDl)
theorem comp_map {α : Type} {K : PySem.W.Frag} {a : Addr} {ms : List α} {σ0 : St} {H1 : Hp} {te : TE} {Q : VK} (u : α → V) (f : α → V) (hq : SqL K H1 a (ms.map u)) (hn : ms.length ≤ sizeLine)
    (he : ∀ x ∈ ms, Pu te (σ0.set 0 (some (u x))) H1 (f x))
    (fin : ∀ D H', H1 D = none → Same H1 H' → H' D = some (.lst (ms.map f)) → Q (.ref D) H') :
    CompRun (Itl K a) (gName 0) tTrue te σ0 H1 Q :=
  comp_of u (fun _ => true) f hq hn (fun _ _ => puT_true) (fun x hx _ => he x hx) fun D H' hD sm e => fin D H' hD sm (by rw [List.filter_eq_self.mpr (fun _ _ => rfl)] at e; exact e)
theorem comp_range {lo : Int} {n : Nat} {σ0 : St} {H1 : Hp} {te : TE} {Q : VK} (f : Nat → V) (hn : n ≤ sizeLine)
    (he : ∀ i, i < n → Pu te (σ0.set 0 (some (.int (lo + i)))) H1 (f i))
    (fin : ∀ D H', H1 D = none → Same H1 H' → H' D = some (.lst ((List.range n).map f)) → Q (.ref D) H') :
    CompRun (Itr lo n) (gName 0) tTrue te σ0 H1 Q := by
  intro D hD
  refine comp_by (n := n) (fun i ys H' => Same H1 H' ∧ H' D = some (.lst ys) ∧ ys = (List.range i).map f) ⟨Same.new hD, upd_same, by simp⟩ (fun i ys H' _ q => q.2.1) (fun i ys H' hi q => hi)
    (fun ys H' q => Nat.le_refl _) ?_ (fun ys H' q => ?_)
  · rintro i ys H' x H2 hi ⟨sm, hDl, hys⟩ ⟨rfl, rfl⟩
    unfold tTrue
    refine iteT ?_
    refine he i hi _ _ sm fun H5 s5 => ⟨s5 _ _ hDl, ?_, (sm.trans s5).upd hD, upd_same, ?_⟩
    · rw [hys, List.length_map, List.length_range]
      omega
    · rw [List.range_succ, List.map_append, ← hys]
      simp
  · obtain ⟨sm, hDl, hys⟩ := q
    exact fin D H' hD sm (by rw [← hys]; exact hDl)
def DefAt (K : PySem.W.Frag) (mg : Str → Option Value) (x : Str) (st : Stmt) (ps : List Str) : Prop := ∃ f fd, Fun K x x st f fd ∧ mg x = some (.ref f) ∧ Binds K fd ps []
def FnAt (P : Program) (w : World) (K : PySem.W.Frag) (mg : Str → Option Value) (base : Heap) (k : Nat) (x : Str) (ps : List Str) (sp : Sp) : Prop :=
  ∃ f fd, FnOk P w K mg base CX0 k f fd ps sp ∧ mg x = some (.ref f) ∧ PySem.W.keepIn K (.ref f) = true ∧ Binds K fd ps []
theorem FnAt.of {P : Program} {w : World} {K : PySem.W.Frag} {mg : Str → Option Value} {base : Heap} {k : Nat} {x : Str} {st : Stmt} {N ps : List Str} {sp : Sp} (D : DefAt K mg x st ps) (S : FnScope N ps (defScope st)) (len : ∀ vs H Q E, sp vs H Q E → vs.length = ps.length)
    (hbody : ∀ (f : Addr) (cdv : Value) (A : Around) (outer : List Env) (s : Shared) (H : Hp) (vs : List V) (Q : VK) (E : XK), Room k (A.deeper (envOfC x (defScope st) s.heap.objs.size f cdv)) → sp vs H Q E →
      ∃ t, PSs (cxOf CX0 P w K mg base N x (defScope st) f cdv A outer s H E).nox (defBody st) t ∧ t { nx := fun _ H' => Q .non H', rt := Q } (start N vs) H) : FnAt P w K mg base (k + 1) x ps sp := by
  obtain ⟨f, fd, F, hm, hb⟩ := D
  exact ⟨f, fd, F.ok S len fun cdv A outer s H vs Q E hr h => hbody f cdv A outer s H vs Q E hr h, hm, F.kp, hb⟩
def tF (sp : Sp) (t : TA) : TE := fun σ H Q => t σ H fun vs H1 => sp vs H1 Q E0
section
variable {X : Cx} {k : Nat} {x : Str} {ps : List Str} {sp : Sp} {e : Expr} {es : List Expr} {t : TA} {p pos : Pos}
theorem pe_f (F : FnAt X.prog X.w X.K X.mg X.base k x ps sp) (hr : Room k X.A) (ha : PA X (e :: es) t) (hg : Gl X x := by rfl) (hdb : (x == ("__debug__" : Str)) = false := by decide)
    (he : starEach (e :: es) X.env = (false, eval e X.env) :: starEach es X.env := by rfl) (hpl : (backTo pos (starEach es X.env)).any (·.1) = false := by rfl) : PE X (.Call (.Name x p) (e :: es) [] pos) (tF sp t) := by
  obtain ⟨f, fd, F, hm, hk, hb⟩ := F
  have q := pe_call (p := p) (pos := pos) F hr hg hm hk hb .nil (pass0 (X := X)) ha hdb he hpl
  have e : tCall sp [] E0 t = tF sp t := by
    unfold tCall tF
    simp only [List.append_nil]
  rw [e] at q
  exact q
theorem pe_b {id : String} {r : List V → Hp → VK → Prop} (hc : CallR X (.builtin id) r) (hm : X.mg x = none) (hv : bootBuiltins x = some (.builtin id)) (ha : PA X (e :: es) t) (hg : Gl X x := by rfl) (hn : x ≠ "__name__" := by decide) (hdb : (x == ("__debug__" : Str)) = false := by decide)
    (he : starEach (e :: es) X.env = (false, eval e X.env) :: starEach es X.env := by rfl) (hpl : (backTo pos (starEach es X.env)).any (·.1) = false := by rfl) : PE X (.Call (.Name x p) (e :: es) [] pos) (tCB r t) := pe_callB hc hg hm hv ha hn hdb he hpl
theorem pe_t {T : String} {r : List V → Hp → VK → Prop} (hc : CallR X (.type T) r) (hm : X.mg x = none) (hv : bootBuiltins x = some (.type T)) (ha : PA X (e :: es) t) (hg : Gl X x := by rfl) (hn : x ≠ "__name__" := by decide) (hdb : (x == ("__debug__" : Str)) = false := by decide)
    (he : starEach (e :: es) X.env = (false, eval e X.env) :: starEach es X.env := by rfl) (hpl : (backTo pos (starEach es X.env)).any (·.1) = false := by rfl) : PE X (.Call (.Name x p) (e :: es) [] pos) (tCB r t) := pe_callTy hc hg hm hv ha hn hdb he hpl
theorem pe_ty {T : String} {pos : Pos} (hm : X.mg x = none) (hv : bootBuiltins x = some (.type T)) (hg : Gl X x := by rfl) (hn : x ≠ "__name__" := by decide) (hd : (x == ("__debug__" : Str)) = false := by decide) : PE X (.Name x pos) (tC (.ty T)) :=
  pe_bltn hg hm hv rfl hn hd
theorem pg_c {N' : List Str} {scope : Scope} {cl : List (Str × Addr)} {C : Addr} {s2 : Shared} {H2 : Hp} {ex : List Addr} (i : Nat) {y : Str} (nd : N'.Nodup) (hi : N'[i]? = some y := by rfl) (hx : (relabel scope X.env).names.lookup y = some .local := by rfl) :
    PG (X.comp N' scope cl C s2 H2 ex) (.Name y pos) (gName i) := pg_name (X := X.comp N' scope cl C s2 H2 ex) nd hi (.inl hx) (.inr hx)
end
section
variable {X : Cx}
theorem ixL (K : PySem.W.Frag) (hK : X.K = K := by rfl) : IxR X (rIxL K) := by subst hK; exact ix_list
theorem lenK (K : PySem.W.Frag) (hK : X.K = K := by rfl) : CallR X (.builtin "len") (fun xs H Q => ∃ p ys, xs = [.ref p] ∧ (SqL K H p ys ∨ SqT K H p ys) ∧ Q (.int ys.length) H) := by subst hK; exact call_len_seq
end
theorem kit_ii (K : PySem.W.Frag) : PySem.W.kitOne K (.type "int") (.type "int") = some true := by kernel_rfl
theorem kit_ib (K : PySem.W.Frag) : PySem.W.kitOne K (.type "int") (.type "bool") = some false := by kernel_rfl
theorem kit_ll (K : PySem.W.Frag) : PySem.W.kitOne K (.type "list") (.type "list") = some true := by kernel_rfl
end L2
set_option Elab.async false
set_option linter.all false
set_option maxRecDepth 100000
set_option maxHeartbeats 4000000
namespace L2
open PySem PySem.Spec PyProof.Rows
section
variable {X : Cx}
def rAddI : R2 := fun x y H Q => ∃ i j : Int, x = .int i ∧ y = .int j ∧ Q (.int (i + j)) H
def rSubI : R2 := fun x y H Q => ∃ i j : Int, x = .int i ∧ y = .int j ∧ Q (.int (i - j)) H
def rMulI : R2 := fun x y H Q => ∃ i j : Int, x = .int i ∧ y = .int j ∧ CMul i j ∧ Q (.int (i * j)) H
def rModI : R2 := fun x y H Q => ∃ i j : Int, x = .int i ∧ y = .int j ∧ 0 < j ∧ Q (.int (i % j)) H
def rDivI : R2 := fun x y H Q => ∃ i j : Int, x = .int i ∧ y = .int j ∧ CDiv i j ∧ Q (.int (i / j)) H
def rPowI : R2 := fun x y H Q => ∃ i j : Int, x = .int i ∧ y = .int j ∧ CPow i j ∧ Q (.int (i ^ j.toNat)) H
def rLtI : R2 := fun x y H Q => ∃ i j : Int, x = .int i ∧ y = .int j ∧ Q (.bl (decide (i < j))) H
def rLeI : R2 := fun x y H Q => ∃ i j : Int, x = .int i ∧ y = .int j ∧ Q (.bl (decide (i ≤ j))) H
def rGtI : R2 := fun x y H Q => ∃ i j : Int, x = .int i ∧ y = .int j ∧ Q (.bl (decide (j < i))) H
def rNegI : V → Hp → VK → Prop := fun x H Q => ∃ i : Int, x = .int i ∧ Q (.int (-i)) H
theorem o_add : OpR X (binaryOp .Add) rAddI := op_add
theorem o_sub : OpR X (binaryOp .Sub) rSubI := op_sub
theorem o_mul : OpR X (binaryOp .Mult) rMulI := op_mul
theorem o_mod : OpR X (binaryOp .Mod) rModI := op_mod
theorem o_div : OpR X (binaryOp .FloorDiv) rDivI := op_fdiv
theorem o_pow : OpR X (binaryOp .Pow) rPowI := op_pow
theorem o_lt : OpR X (compareOp .Lt) rLtI := op_lt
theorem o_le : OpR X (compareOp .LtE) rLeI := op_le
theorem o_gt : OpR X (compareOp .Gt) rGtI := op_gt
theorem o_neg : UnR X (unaryOp .USub) rNegI := un_neg
end
end L2
set_option Elab.async false
set_option linter.all false
set_option maxRecDepth 100000
set_option maxHeartbeats 4000000
namespace L2
open PySem PySem.Spec PyProof.Rows
theorem inK {X : Cx} (K : PySem.W.Frag) (hK : X.K = K := by rfl) : OpR X (compareOp .In) (rIn K false) := by subst hK; exact op_in_seq
end L2
set_option Elab.async false
set_option linter.all false
set_option maxRecDepth 100000
set_option maxHeartbeats 4000000
namespace L2
open PySem PySem.Spec PyProof.Rows
open PySem PySem.Spec PyProof.Rows
end L2
set_option Elab.async false
set_option linter.all false
set_option maxRecDepth 100000
set_option maxHeartbeats 4000000
namespace SrtT
open PySem PySem.W PyProof.Rows
section
variable {O : KeyOrd} {key : Nat → O.α} {N : Nat} {cmp : Nat → Nat → (Bool → Shared → Prop) → Shared → Prop} {s : Shared}
def kk (key : Nat → O.α) (p : Array Nat) (i : Nat) : O.α := key (p.getD i 0)
def Fair (key : Nat → O.α) (N : Nat) (cmp : Nat → Nat → (Bool → Shared → Prop) → Shared → Prop) (s : Shared) : Prop := ∀ i j C, i < N → j < N → C (O.blt (key i) (key j)) s → cmp i j C s
def Pm (N : Nat) (p : Array Nat) : Prop := p.Perm (List.toArray (List.range N))
end
end SrtT
set_option Elab.async false
set_option linter.all false
set_option maxRecDepth 100000
set_option maxHeartbeats 4000000
namespace SrtT
open PySem PyProof.Rows
section
open PySem.SeqAt
open PySem.AutoSeq1 (wpAny_loadPart')
open PySem.MeetsSeq PySem.MeetsSeq2 PySem.MeetsSeq3
end
section
variable {prog : Program} {w : World} {A : Around} {E : Value → Shared → Prop} {s : Shared}
end
end SrtT
set_option Elab.async false
set_option linter.all false
set_option maxRecDepth 100000
set_option maxHeartbeats 4000000
namespace SrtT
open PySem PySem.W PyProof.Rows
section
variable {prog : Program} {w : World} {A : Around} {E : Value → Shared → Prop} {s : Shared} {O : KeyOrd} {key : Nat → O.α} {vs : List Value}
def Look (prog : Program) (w : World) (A : Around) (O : KeyOrd) (key : Nat → O.α) (vs : List Value) (s : Shared) : Prop :=
  ∀ h' : Heap, (∀ b o, s.heap.get? b = some o → h'.get? b = some o) → ∃ κ, (2 ≤ vs.length → ∀ (Q : SortKind → Shared → Prop) (E : Value → Shared → Prop), Q κ { s with heap := h' } → wpAny (model prog w) A (keyKind' vs.toArray) Q E { s with heap := h' }) ∧
    Fair key vs.length (kas_ask prog w A κ vs) { s with heap := h' }
end
end SrtT
namespace L2
open PySem PySem.Spec PyProof.Rows
section
variable {X : Cx}
end
end L2
namespace SrtT
open PySem PySem.W PyProof.Rows
section
variable {prog : Program} {w : World} {A : Around} {E : Value → Shared → Prop} {s : Shared}
end
end SrtT
namespace L2
open PySem PySem.Spec PyProof.Rows
section
variable {X : Cx}
end
end L2
set_option Elab.async false
set_option linter.all false
set_option maxRecDepth 100000
set_option maxHeartbeats 4000000
namespace L2
open PySem PySem.Spec PyProof.Rows
theorem comp_objs {α : Type} {J : It} {ms : List α} {σ0 : St} {H1 : Hp} {te : TE} {Q : VK} (u : α → V) (o : α → HO) (hn : ms.length ≤ 1000)
    (hgo : ∀ i H', i < ms.length → Same H1 H' → J.go i H') (hst : ∀ H', Same H1 H' → J.stop ms.length H') (hy : ∀ i H' x H2 (h : i < ms.length), Same H1 H' → J.yld i H' x H2 → H2 = H' ∧ x = u ms[i])
    (he : ∀ x ∈ ms, ∀ (H' : Hp) (Q' : VK), Same H1 H' → (∀ l H'', H' l = none → Same H' H'' → H'' l = some (o x) → Q' (.ref l) H'') → te (σ0.set 0 (some (u x))) H' Q')
    (fin : ∀ (D : Addr) (qs : List (Addr × α)) (H' : Hp), H1 D = none → qs.map (·.2) = ms → (qs.map (·.1)).Nodup → (∀ q ∈ qs, H' q.1 = some (o q.2) ∧ H1 q.1 = none ∧ q.1 ≠ D) → Same H1 H' → H' D = some (.lst (qs.map fun q => V.ref q.1)) → Q (.ref D) H') :
    CompRun J (gName 0) tTrue te σ0 H1 Q := by
  intro D hD
  refine comp_by (n := ms.length) (fun i ys H' => ∃ qs : List (Addr × α), Same H1 H' ∧ H' D = some (.lst ys) ∧ ys = (qs.map fun q => V.ref q.1) ∧ qs.map (·.2) = ms.take i ∧ (qs.map (·.1)).Nodup ∧ ∀ q ∈ qs, H' q.1 = some (o q.2) ∧ H1 q.1 = none ∧ q.1 ≠ D)
    ⟨[], Same.new hD, upd_same, rfl, by simp, List.nodup_nil, fun q hq => nomatch hq⟩ (fun i ys H' _ ⟨_, _, e, _⟩ => e) (fun i ys H' hi ⟨_, sm, _⟩ => hgo i H' hi sm) (fun ys H' ⟨_, sm, _⟩ => hst H' sm) ?_ (fun ys H' h => ?_)
  · rintro i ys H' x H2 hi ⟨qs, sm, hDl, hys, hqm, hnd, hq⟩ y
    obtain ⟨rfl, rfl⟩ := hy i H' x H2 hi sm y
    unfold tTrue
    refine iteT (he ms[i] (List.getElem_mem hi) _ _ sm fun l H5 hl s5 el => ?_)
    have nlD : D ≠ l := ne_of_none hDl hl
    have ql : qs.length = i := by
      have := congrArg List.length hqm
      rw [List.length_map, List.length_take] at this
      omega
    refine ⟨s5 _ _ hDl, ?_, qs ++ [(l, ms[i])], (sm.trans s5).upd hD, upd_same, ?_, ?_, ?_, ?_⟩
    · rw [hys, List.length_map, ql]
      exact small1000 (by omega)
    · rw [hys, List.map_append]
      rfl
    · rw [List.map_append, hqm, List.take_add_one, List.getElem?_eq_getElem hi]
      rfl
    · rw [List.map_append, List.nodup_append]
      refine ⟨hnd, by simp, fun a ha b hb e => ?_⟩
      obtain ⟨q, hq1, rfl⟩ := List.mem_map.mp ha
      have hb : b = l := by simpa using hb
      subst hb
      have := (hq q hq1).1
      rw [e, hl] at this
      cases this
    · intro q hq1
      rcases List.mem_append.mp hq1 with z | z
      · obtain ⟨z1, z2, z3⟩ := hq q z
        exact ⟨by rw [upd_ne z3]; exact s5 _ _ z1, z2, z3⟩
      · have : q = (l, ms[i]) := by simpa using z
        subst this
        exact ⟨by rw [upd_ne (Ne.symm nlD)]; exact el, sm.free hl, Ne.symm nlD⟩
  · obtain ⟨qs, sm, hDl, hys, hqm, hnd, hq⟩ := h
    rw [List.take_length] at hqm
    exact fin D qs H' hD hqm hnd hq sm (by rw [← hys]; exact hDl)
theorem comp_objsR {lo : Int} {n : Nat} {σ0 : St} {H1 : Hp} {te : TE} {Q : VK} (o : Nat → HO) (hn : n ≤ 1000)
    (he : ∀ i, i < n → ∀ (H' : Hp) (Q' : VK), Same H1 H' → (∀ l H'', H' l = none → Same H' H'' → H'' l = some (o i) → Q' (.ref l) H'') → te (σ0.set 0 (some (.int (lo + i)))) H' Q')
    (fin : ∀ (D : Addr) (qs : List (Addr × Nat)) (H' : Hp), H1 D = none → qs.map (·.2) = List.range n → (qs.map (·.1)).Nodup → (∀ q ∈ qs, H' q.1 = some (o q.2) ∧ H1 q.1 = none ∧ q.1 ≠ D) → Same H1 H' → H' D = some (.lst (qs.map fun q => V.ref q.1)) → Q (.ref D) H') :
    CompRun (Itr lo n) (gName 0) tTrue te σ0 H1 Q :=
  comp_objs (ms := List.range n) (fun i => .int (lo + i)) o (by simpa using hn) (fun i H' hi sm => by show i < n; simpa using hi) (fun H' sm => by show n ≤ _; simp) (fun i H' x H2 hi sm y => ⟨y.1, by rw [y.2, List.getElem_range]⟩)
    (fun x hx => he x (List.mem_range.mp hx)) fin
section
variable {X : Cx}
end
end L2
set_option Elab.async false
set_option linter.all false
set_option maxRecDepth 100000
set_option maxHeartbeats 4000000
namespace L2
open PySem PySem.Spec PyProof.Rows
mutual
inductive RdS (S : List Addr) (H : Hp) : V → PyData → Prop
  | non : RdS S H .non .none
  | bl (b : Bool) : RdS S H (.bl b) (.bool b)
  | int (i : Int) : RdS S H (.int i) (.int i)
  | str (x : Str) : RdS S H (.str x) (.str x)
  | lst {a : Addr} {xs : List V} {ds : List PyData} : H a = some (.lst xs) → a ∉ S → RdSs S H xs ds → RdS S H (.ref a) (.list ds)
  | tup {a : Addr} {xs : List V} {ds : List PyData} : H a = some (.tup xs) → a ∉ S → RdSs S H xs ds → RdS S H (.ref a) (.tuple ds)
  | dct {a : Addr} : H a = some (.dK []) → a ∉ S → RdS S H (.ref a) (.dict [])
inductive RdSs (S : List Addr) (H : Hp) : List V → List PyData → Prop
  | nil : RdSs S H [] []
  | cons {x : V} {d : PyData} {xs : List V} {ds : List PyData} : RdS S H x d → RdSs S H xs ds → RdSs S H (x :: xs) (d :: ds)
end
mutual
theorem RdS.move {S S' : List Addr} {H H' : Hp} (k : ∀ b o, b ∉ S → H b = some o → H' b = some o) (ss : ∀ b, b ∉ S → b ∉ S') : ∀ {x : V} {d : PyData}, RdS S H x d → RdS S' H' x d
  | _, _, .non => .non
  | _, _, .bl b => .bl b
  | _, _, .int i => .int i
  | _, _, .str x => .str x
  | _, _, .lst e n r => .lst (k _ _ n e) (ss _ n) (RdSs.move k ss r)
  | _, _, .tup e n r => .tup (k _ _ n e) (ss _ n) (RdSs.move k ss r)
  | _, _, .dct e n => .dct (k _ _ n e) (ss _ n)
theorem RdSs.move {S S' : List Addr} {H H' : Hp} (k : ∀ b o, b ∉ S → H b = some o → H' b = some o) (ss : ∀ b, b ∉ S → b ∉ S') : ∀ {xs : List V} {ds : List PyData}, RdSs S H xs ds → RdSs S' H' xs ds
  | _, _, .nil => .nil
  | _, _, .cons h t => .cons (RdS.move k ss h) (RdSs.move k ss t)
end
theorem RdS.same {S : List Addr} {H H' : Hp} {x : V} {d : PyData} (r : RdS S H x d) (s : Same H H') : RdS S H' x d := r.move (fun b o _ e => s b o e) fun _ n => n
theorem RdSs.same {S : List Addr} {H H' : Hp} {xs : List V} {ds : List PyData} (r : RdSs S H xs ds) (s : Same H H') : RdSs S H' xs ds := r.move (fun b o _ e => s b o e) fun _ n => n
theorem RdS.any {S : List Addr} {H : Hp} {x : V} {d : PyData} (r : RdS S H x d) : RdS [] H x d := r.move (fun _ _ _ e => e) fun _ _ => by simp
theorem RdSs.length {S : List Addr} {H : Hp} : ∀ {xs : List V} {ds : List PyData}, RdSs S H xs ds → xs.length = ds.length
  | _, _, .nil => rfl
  | _, _, .cons _ t => by simp [t.length]
theorem RdSs.pairs {S : List Addr} {H : Hp} : ∀ {xs : List V} {ds : List PyData}, RdSs S H xs ds → ∃ ms : List (V × PyData), xs = ms.map (·.1) ∧ ds = ms.map (·.2) ∧ ∀ m ∈ ms, RdS S H m.1 m.2
  | _, _, .nil => ⟨[], rfl, rfl, fun m h => nomatch h⟩
  | _, _, .cons (x := x) (d := d) h t => by
    obtain ⟨ms, e1, e2, hm⟩ := t.pairs
    refine ⟨(x, d) :: ms, by rw [e1]; rfl, by rw [e2]; rfl, fun m hmm => ?_⟩
    rcases List.mem_cons.mp hmm with rfl | z
    · exact h
    · exact hm m z
def tyD : PyData → String
  | .none => "NoneType"
  | .bool _ => "bool"
  | .int _ => "int"
  | .str _ => "str"
  | .list _ => "list"
  | .tuple _ => "tuple"
  | .dict _ => "dict"
theorem RdS.ty {S : List Addr} {H : Hp} {K : PySem.W.Frag} : ∀ {x : V} {d : PyData}, RdS S H x d → TyOf K H x (.type (tyD d))
  | _, _, .non => .non
  | _, _, .bl b => .bl b
  | _, _, .int i => .int i
  | _, _, .str x => .str x
  | _, _, .lst e _ _ => .lst e
  | _, _, .tup e _ _ => .tup e
  | _, _, .dct e _ => .dK e
def isIntD : PyData → Bool
  | .int _ => true
  | _ => false
theorem kit_int (K : PySem.W.Frag) (d : PyData) : PySem.W.kitOne K (.type (tyD d)) (.type "int") = some (match d with | .int _ => true | .bool _ => true | _ => false) := by
  cases d <;> (simp only [tyD]; kernel_rfl)
theorem kit_bool (K : PySem.W.Frag) (d : PyData) : PySem.W.kitOne K (.type (tyD d)) (.type "bool") = some (match d with | .bool _ => true | _ => false) := by
  cases d <;> (simp only [tyD]; kernel_rfl)
theorem kit_list (K : PySem.W.Frag) (d : PyData) : PySem.W.kitOne K (.type (tyD d)) (.type "list") = some (match d with | .list _ => true | _ => false) := by
  cases d <;> (simp only [tyD]; kernel_rfl)
section
variable {P : Program} {w : World} {H : Hp} {h : Heap} {S : List Addr}
theorem dict_empty (ok : HOk P w H h) {a : Addr} (e : H a = some (.dK [])) : (a == sysModules) = false ∧ ∃ o n, h.get? a = some o ∧ o.cls = .type "dict" ∧ o.data = .dict #[] n := by
  obtain ⟨_, y, vs, r, o, es, ep, e1, c, d, _, pr, _⟩ := (show ObjOk P w H h a (.dK []) from ok a _ e)
  cases r
  have hl : es.toList.length = 0 := pr.length
  have he : es = #[] := by
    cases es with
    | mk l =>
      have : l = [] := List.length_eq_zero_iff.mp hl
      rw [this]
  rw [he] at d
  exact ⟨y, o, ep, e1, c.1, d⟩
mutual
theorem RdS.shows (ok : HOk P w H h) : ∀ {x : V} {d : PyData} {u : Value}, RdS S H x d → RelV x u → d.showable = true → d.shown.length ≤ sizeLine →
    (∃ as, Reads h u d as) ∧ ∃ bs, ReadAtMost h d.depth bs ∧ ReprK P w bs h d.depth u d.shown
  | _, _, _, .non, r, _, _ => by cases r; exact ⟨⟨_, .none⟩, [], (fun _ h => nomatch h), by simp only [PyData.shown]; exact .of_is ReprIs.none _ _ _⟩
  | _, _, _, .bl b, r, _, _ => by cases r; exact ⟨⟨_, .bool b⟩, [], (fun _ h => nomatch h), by simp only [PyData.shown]; exact .of_is (ReprIs.bool b) _ _ _⟩
  | _, _, _, .int i, r, hs, _ => by obtain ⟨t, rfl⟩ := r; exact ⟨⟨_, .int i t⟩, [], (fun _ h => nomatch h), by simp only [PyData.shown]; exact .of_is (ReprIs.int t (by simpa [PyData.showable] using hs)) _ _ _⟩
  | _, _, _, .str x, r, _, hz => by obtain ⟨t, rfl⟩ := r; exact ⟨⟨_, .str x t⟩, [], (fun _ h => nomatch h), by simp only [PyData.shown]; exact .of_is (ReprIs.str x t (by simpa only [PyData.shown] using hz)) _ _ _⟩
  | _, _, _, .lst (a := a) (ds := ds) e _ ra, r, hs, hz => by
    cases r
    obtain ⟨_, its, n, rv, e1⟩ := (show ObjOk P w H h a (.lst _) from ok a _ e)
    have hz' : (listText (PyData.shownAll ds)).length ≤ sizeLine := by simpa only [PyData.shown] using hz
    obtain ⟨⟨as, rr⟩, bs, hb, hk⟩ := RdSs.shows ok ra rv (by simpa [PyData.showable] using hs) (fun t ht => Nat.le_trans (listText_mem_le ht) hz')
    have rd : Reads h (.ref a) (.list ds) (a :: as) := .list e1 rfl rfl (by simpa using rr)
    have hna : a ∉ bs := not_mem_of_deeper rd (by simp only [PyData.depth]; omega) hb
    refine ⟨⟨_, rd⟩, a :: bs, ReadAtMost.cons rd (by simp only [PyData.depth]; omega) hb, ?_⟩
    simp only [PyData.depth, PyData.shown]
    cases its with
    | nil =>
      cases rr
      simp only [PyData.shownAll, listText_nil]
      exact ReprK.listEmpty e1 rfl rfl
    | cons x l => exact ReprK.list e1 rfl rfl hna (by simpa using hk.length_eq) (fun i y e => hk.item i y (by simpa using e))
  | _, _, _, .tup (a := a) (ds := ds) e _ ra, r, hs, hz => by
    cases r
    obtain ⟨_, its, rv, o, e1, c, n, dt⟩ := (show ObjOk P w H h a (.tup _) from ok a _ e)
    have hz' : (tupleText (PyData.shownAll ds)).length ≤ sizeLine := by simpa only [PyData.shown] using hz
    obtain ⟨⟨as, rr⟩, bs, hb, hk⟩ := RdSs.shows ok ra rv (by simpa [PyData.showable] using hs) (fun t ht => Nat.le_trans (tupleText_mem_le ht) hz')
    have rd : Reads h (.ref a) (.tuple ds) as := .tuple e1 c dt (by simpa using rr)
    have hna : a ∉ bs := not_mem_of_deeper rd (by simp only [PyData.depth]; omega) hb
    refine ⟨⟨_, rd⟩, a :: bs, ReadAtMost.cons rd (by simp only [PyData.depth]; omega) hb, ?_⟩
    simp only [PyData.depth, PyData.shown]
    exact ReprK.tuple e1 c dt hna (by simpa using hk)
  | _, _, _, .dct (a := a) e _, r, hs, hz => by
    cases r
    obtain ⟨hsys, o, n, e1, c, dt⟩ := dict_empty ok e
    have rd : Reads h (.ref a) (.dict []) (a :: [] ++ []) := .dict (kvs := []) e1 c dt .nil .nil
    refine ⟨⟨_, rd⟩, a :: [], ReadAtMost.cons (n := 0) rd (Nat.zero_le _) (fun _ h => nomatch h), ?_⟩
    simp only [PyData.depth, PyData.depthKv, PyData.shown, PyData.shownKv]
    exact ReprK.dict e1 c dt hsys (by simp) .nil
theorem RdSs.shows (ok : HOk P w H h) : ∀ {xs : List V} {ds : List PyData} {us : List Value}, RdSs S H xs ds → Vals xs us → PyData.showableAll ds = true → (∀ t ∈ PyData.shownAll ds, t.length ≤ sizeLine) →
    (∃ as, ReadsAll h us ds as) ∧ ∃ bs, ReadAtMost h (PyData.depthAll ds) bs ∧ ReprAllK P w bs h (PyData.depthAll ds) us (PyData.shownAll ds)
  | _, _, _, .nil, .nil, _, _ => ⟨⟨_, .nil⟩, [], (fun _ h => nomatch h), by simp only [PyData.shownAll]; exact .nil⟩
  | _, _, _, .cons (d := d) (ds := ds) r rs, .cons v vs, hs, hz => by
    have hs' : d.showable = true ∧ PyData.showableAll ds = true := by simpa [PyData.showableAll] using hs
    obtain ⟨⟨a1, r1⟩, b1, hb1, k1⟩ := RdS.shows ok r v hs'.1 (hz _ (by simp only [PyData.shownAll]; exact List.mem_cons_self ..))
    obtain ⟨⟨a2, r2⟩, b2, hb2, k2⟩ := RdSs.shows ok rs vs hs'.2 (fun t ht => hz t (by simp only [PyData.shownAll]; exact List.mem_cons_of_mem _ ht))
    refine ⟨⟨_, .cons r1 r2⟩, b1 ++ b2, ?_, ?_⟩
    · simp only [PyData.depthAll]
      exact (hb1.mono (Nat.le_max_left _ _)).append (hb2.mono (Nat.le_max_right _ _))
    · simp only [PyData.depthAll, PyData.shownAll]
      exact .cons ((k1.more fun b hb => List.mem_append_left _ hb).level_le (Nat.le_max_left _ _)) (k2.more_le (fun b hb => List.mem_append_right _ hb) (Nat.le_max_right _ _))
end
end
open PySem PySem.Spec PyProof.Rows
section
variable {X : Cx}
theorem Inv.big {pins : List (Addr × Obj)} {σ : St} {H : Hp} {s : Shared} (I : Inv X pins σ H s) : sysModules < s.heap.objs.size := by
  have h : mainGlobals < s.heap.objs.size := (I.mod.glob.keeps I.bk).lt
  exact Nat.lt_trans (by decide) h
def rRepr : List V → Hp → VK → Prop := fun xs H Q => ∃ x d, xs = [x] ∧ RdS [] H x d ∧ d.showable = true ∧ d.shown.length ≤ sizeLine ∧ d.depth ≤ 60 ∧ Q (.str d.shown) H
theorem call_reprS (hg : X.A.guards = some []) (hu : X.A.units + 64 < cLine) : CallR X (.builtin "repr") rRepr := by
  intro pins s σ H xs us Q I rv h
  obtain ⟨x, d, rfl, rd, hs, hz, hdp, q⟩ := h
  obtain ⟨u, rfl, ru⟩ := rv.one
  have fin : ∀ (h' : Heap) (t : Tok) (tk : Nat), (∀ b o, s.heap.get? b = some o → h'.get? b = some o) → EP X pins σ Q (.str d.shown t) { s with heap := h', toks := tk } := fun h' t tk k => ⟨.str d.shown, H, I.kept k, ⟨t, rfl⟩, q⟩
  have hsh := RdS.shows I.hok rd ru hs hz
  cases rd with
  | non => cases ru; simp only [PyData.shown] at fin; exact P.repr_of_none (fin s.heap _ _ fun _ _ e => e)
  | bl b => cases ru; simp only [PyData.shown] at fin; exact P.repr_of_bool (fin s.heap _ _ fun _ _ e => e)
  | int i => obtain ⟨t, rfl⟩ := ru; simp only [PyData.shown] at fin; exact P.repr_of_int (by simpa [PyData.showable] using hs) (fin s.heap _ _ fun _ _ e => e)
  | str y => obtain ⟨t, rfl⟩ := ru; simp only [PyData.shown] at fin; exact P.repr_of_str (fin s.heap _ _ fun _ _ e => e) (by simpa only [PyData.shown] using hz)
  | @lst a xs ds e _ ra =>
    cases ru
    obtain ⟨_, its, n, rv, e1⟩ := (show ObjOk X.prog X.w H s.heap a (.lst _) from I.hok a _ e)
    have hz' : (listText (PyData.shownAll ds)).length ≤ sizeLine := by simpa only [PyData.shown] using hz
    obtain ⟨⟨as, rr⟩, bs, hb, hk⟩ := RdSs.shows I.hok ra rv (by simpa [PyData.showable] using hs) (fun t ht => Nat.le_trans (listText_mem_le ht) hz')
    have rd : Reads s.heap (.ref a) (.list ds) (a :: as) := .list e1 rfl rfl (by simpa using rr)
    have hna : a ∉ bs := not_mem_of_deeper rd (by simp only [PyData.depth]; omega) hb
    simp only [PyData.depth] at hdp
    simp only [PyData.shown] at fin
    refine call_repr_slot (by omega) ⟨_, e1, rfl⟩ F.slot_list_repr.toG ?_
    cases its with
    | nil =>
      cases rr
      simp only [PyData.shownAll, listText_nil] at fin
      exact call_list_repr_empty ⟨_, e1, rfl⟩ e1 rfl ⟨_, _, rfl, fin s.heap _ _ fun _ _ e => e⟩
    | cons x l => exact call_list_reprK e1 rfl rfl hna (by simpa using hk.length_eq) (fun i y e => hk.item i y (by simpa using e)) (A := X.A.in1) hg (fun b _ => Clear.nil b) (by show X.A.units + 1 + (PyData.depthAll ds + 1) < cLine; omega) (fun _ _ e => e) (fun h' t tk k => ⟨_, _, rfl, fin h' t tk k⟩) hz'
  | @tup a xs ds e _ ra =>
    cases ru
    obtain ⟨_, its, rv, o, e1, c, n, dt⟩ := (show ObjOk X.prog X.w H s.heap a (.tup _) from I.hok a _ e)
    have hz' : (tupleText (PyData.shownAll ds)).length ≤ sizeLine := by simpa only [PyData.shown] using hz
    obtain ⟨⟨as, rr⟩, bs, hb, hk⟩ := RdSs.shows I.hok ra rv (by simpa [PyData.showable] using hs) (fun t ht => Nat.le_trans (tupleText_mem_le ht) hz')
    have rd : Reads s.heap (.ref a) (.tuple ds) as := .tuple e1 c dt (by simpa using rr)
    have hna : a ∉ bs := not_mem_of_deeper rd (by simp only [PyData.depth]; omega) hb
    simp only [PyData.depth] at hdp
    simp only [PyData.shown] at fin
    refine call_repr_slot (by omega) ⟨_, e1, c⟩ F.slot_tuple_repr ?_
    exact call_tuple_reprK e1 c dt hna (by simpa using hk) (A := X.A.in1) hg (fun b _ => Clear.nil b) (by show X.A.units + 1 + (PyData.depthAll ds + 1) < cLine; omega) (fun _ _ e => e) (fun h' t tk k => ⟨_, _, rfl, fin h' t tk k⟩) hz'
  | @dct a e _ =>
    cases ru
    obtain ⟨hsys, o, n, e1, c, dt⟩ := dict_empty I.hok e
    simp only [PyData.shown, PyData.shownKv] at fin hz
    refine call_repr_slot (by omega) ⟨_, e1, c⟩ F.slot_dict_repr ?_
    exact call_dict_reprK (as := []) (d := 0) e1 c dt hsys (by simp) .nil (A := X.A.in1) hg (fun b _ => Clear.nil b) (by show X.A.units + 1 + (0 + 1) < cLine; omega) (fun _ _ e => e) (fun h' t tk k => ⟨_, _, rfl, fin h' t tk k⟩) hz
def tDict0 : TE := fun _ H Q => ∀ p, H p = none → Q (.ref p) (upd H p (.dK []))
theorem pe_dict0 {pos : Pos} : PE X (.Dict [] [] pos) tDict0 := fun pins s σ H Q I h =>
  wpAny_Dict_empty ⟨.ref s.heap.objs.size, _, I.laid (a := s.heap.objs.size) (o := .dK []) (t' := s.toks) (fun _ _ q => Heap.get?_push_of_some _ q) (Nat.le_refl _)
    ⟨Nat.zero_le _, beq_eq_false_iff_ne.mpr (Ne.symm (Nat.ne_of_lt I.big)), [], .nil, Heap.DictOf.new s.heap⟩, rfl, h _ (I.hok.fresh (Nat.le_refl _))⟩
end
structure Sz (c k : Nat) (d : PyData) : Prop where
  sh : d.showable = true
  le : d.shown.length ≤ c
  dp : d.depth ≤ k
theorem Sz.mono {c k c' k' : Nat} {d : PyData} (s : Sz c k d) (h1 : c ≤ c') (h2 : k ≤ k') : Sz c' k' d := ⟨s.sh, Nat.le_trans s.le h1, Nat.le_trans s.dp h2⟩
theorem sz_all {c k : Nat} : ∀ {ds : List PyData}, (∀ d ∈ ds, Sz c k d) → PyData.showableAll ds = true ∧ ((PyData.shownAll ds).map (·.length)).sum ≤ ds.length * c ∧ PyData.depthAll ds ≤ k ∧ (PyData.shownAll ds).length = ds.length
  | [], _ => by simp [PyData.showableAll, PyData.shownAll, PyData.depthAll]
  | d :: ds, h => by
    obtain ⟨h1, h2, h3, h4⟩ := sz_all (fun e he => h e (List.mem_cons_of_mem _ he))
    have hd := h d (by simp)
    have a1 := hd.le
    have a2 := hd.dp
    simp only [PyData.showableAll, PyData.shownAll, PyData.depthAll, List.map_cons, List.sum_cons, List.length_cons, hd.sh, h1, Bool.and_self, h4, true_and, and_true, Nat.succ_mul]
    omega
theorem sz_list {c k n : Nat} {ds : List PyData} (h : ∀ d ∈ ds, Sz c k d) (hn : ds.length ≤ n) : Sz (n * c + 2 * n + 3) (k + 1) (.list ds) := by
  obtain ⟨h1, h2, h3, h4⟩ := sz_all h
  have e := listText_len_le (PyData.shownAll ds)
  rw [h4] at e
  have m : ds.length * c ≤ n * c := Nat.mul_le_mul_right _ hn
  exact ⟨by simpa [PyData.showable] using h1, by simp only [PyData.shown]; omega, by simp only [PyData.depth]; omega⟩
theorem sz_tuple {c k n : Nat} {ds : List PyData} (h : ∀ d ∈ ds, Sz c k d) (hn : ds.length ≤ n) : Sz (n * c + 2 * n + 3) (k + 1) (.tuple ds) := by
  obtain ⟨h1, h2, h3, h4⟩ := sz_all h
  have e := tupleText_len_le (PyData.shownAll ds)
  rw [h4] at e
  have m : ds.length * c ≤ n * c := Nat.mul_le_mul_right _ hn
  exact ⟨by simpa [PyData.showable] using h1, by simp only [PyData.shown]; omega, by simp only [PyData.depth]; omega⟩
theorem log_lt {i : Int} (h : i.natAbs < 10 ^ 40) : i.natAbs.log2 < 1920 := by
  by_cases h0 : i.natAbs = 0
  · rw [h0]; decide
  · exact (Nat.log2_lt h0).mpr (Nat.lt_of_lt_of_le (Nat.lt_trans h (show 10 ^ 40 < 2 ^ 200 by decide)) (Nat.pow_le_pow_right (by decide) (by decide)))
theorem sz_int {i : Int} (h : i.natAbs < 10 ^ 40) : Sz 41 0 (.int i) := by
  have e := int_text_length_le10 (k := 40) (by decide) h
  refine ⟨?_, ?_, Nat.le_refl _⟩
  · show decide (i.natAbs.log2 < 1920) = true
    exact decide_eq_true (log_lt h)
  · show (Str.ofString (toString i)).length ≤ 41
    rw [PySem.ofString_length]; exact e
theorem sz_none : Sz 4 0 .none := ⟨rfl, by decide, Nat.le_refl _⟩
end L2
set_option Elab.async false
set_option linter.all false
set_option maxRecDepth 100000
set_option maxHeartbeats 4000000
namespace L2
open PySem PySem.Spec PyProof.Rows
end L2
set_option Elab.async false
set_option linter.all false
set_option maxRecDepth 100000
set_option maxHeartbeats 4000000
namespace L2
open PySem PySem.Spec PyProof.Rows PySem.Calls
section
variable {prog : Program} {w : World} {A : Around} {E : Value → Shared → Prop} {s : Shared}
end
open PySem PySem.Spec PyProof.Rows
theorem call_sortedI {X : Cx} : CallR X (.builtin "sorted") (fun xs H Q => ∃ (a : Addr) (ns : List Int), xs = [.ref a] ∧ SqL X.K H a (ns.map V.int) ∧ ns.length < 64 ∧ ∀ (D : Addr) (ms : List Int), H D = none → ms.Perm ns → ms.Pairwise (· ≤ ·) → Q (.ref D) (upd H D (.lst (ms.map V.int)))) := by
  intro pins s σ H xs us Q I rv h
  obtain ⟨a, ns, rfl, hq, h64, q⟩ := h
  obtain ⟨u, rfl, ru⟩ := rv.one
  cases ru
  obtain ⟨its, r, pl, hz⟩ := I.list hq
  have hlen := r.length
  rw [List.length_map] at hlen
  refine sorted_ints pl.isList (ints_of r) (by omega) fun out ms hi hp hs => ?_
  obtain ⟨e, he⟩ := sortedAll_at s.heap its out
  refine ⟨.ref _, _, I.laid (t' := s.toks) (o := .lst (ms.map V.int)) (fun b o => sortedAll_old) (Nat.le_succ _) ⟨?_, out.toList, e, vals_ints hi, ?_⟩, rfl, q _ ms (I.hok.fresh (Nat.le_succ _)) hp hs⟩
  · rw [List.length_map, hp.length_eq]
    exact Nat.le_of_lt (small1000 (by omega))
  · rw [Array.toArray_toList]
    exact he
open PySem PySem.Spec PyProof.Rows
end L2
set_option Elab.async false
set_option linter.all false
set_option maxRecDepth 100000
set_option maxHeartbeats 4000000
namespace L2
open PySem PySem.Spec PyProof.Rows
end L2
set_option Elab.async false
set_option linter.all false
set_option maxRecDepth 100000
set_option maxHeartbeats 4000000
namespace L2
open PySem PySem.Spec PyProof.Rows
section
variable {X : Cx} {N' : List Str} {scope osc : Scope} {cl : List (Str × Addr)} {C : Addr} {ex : List Addr} {ix : List (Option Nat)} {pins : List (Addr × Obj)} {σ : St} {H2 : Hp} {s2 : Shared}
end
end L2
set_option maxRecDepth 100000
namespace L2
open PySem PySem.Spec PyProof.Rows
theorem ObjOk.get {P : Program} {w : World} {H : Hp} {h : Heap} {a : Addr} {o : HO} (x : ObjOk P w H h a o) : ∃ u, h.get? a = some u := by
  cases o with
  | lst xs => obtain ⟨_, _, _, _, e⟩ := x; exact ⟨_, e⟩
  | tup xs => obtain ⟨_, _, _, _, e, _⟩ := x; exact ⟨_, e⟩
  | dK kvs => obtain ⟨_, _, _, _, o, _, _, e, _⟩ := x; exact ⟨_, e⟩
  | dT kvs => obtain ⟨_, _, _, _, o, _, _, e, _⟩ := x; exact ⟨_, e⟩
  | set S n => obtain ⟨o, _, _, _, e, _⟩ := x; exact ⟨_, e⟩
  | ins C dx fs => obtain ⟨_, _, _, e, _⟩ := x; exact ⟨_, e⟩
  | own y => exact x
  | xd fs => obtain ⟨_, ⟨_, _, _, e, _⟩, _⟩ := x; exact ⟨_, e⟩
  | rng lo hi => obtain ⟨_, _, _, e⟩ := x; exact ⟨_, e⟩
  | frz ob u => exact ⟨_, x.1⟩
  | tbl ps => exact ⟨_, x⟩
  | met f y => exact ⟨_, x⟩
  | ext φ => exact x.2.1
def Trc (h : Heap) (H' : Hp) (g : Heap) (e : Addr) (cls fl : Value) : Prop :=
  ∃ a0 oe vs T oT ts, h.get? e = some oe ∧ (oe.cls = cls ∧ vs[0]? = some a0) ∧ oe.data = .fields vs ∧ vs[1]? = some (.ref T) ∧ T ≠ e ∧ h.get? T = some oT ∧ oT.data = .fields ts ∧ ts[3]? = some fl ∧ (H' e = none ∧ H' T = none) ∧ g.get? e = none ∧ g.get? T = none
structure Fli (P : Program) (w : World) (l : List Env) (H : Hp) (s : Shared) (e : Addr) (cls fl : Value) (H' : Hp) (s' : Shared) : Prop where
  os : s'.os = s.os
  bare : AllBare s'.gens
  un : Un (frs l) [] H H' s.heap s'.heap
  hok : HOk P w H' s'.heap
  tr : Trc s'.heap H' s.heap e cls fl
section
variable {P : Program} {w : World} {l : List Env} {H H' : Hp} {s s1 : Shared} {e : Addr} {cls fl : Value}
theorem fli_of {base : Heap} (F : Fli P w l H s e cls fl H' s1) (hfr : s1.heap.FunFrames base l) (hff : ∀ b ∈ frs l, H' b = none) :
    ∃ (B : Heap) (a0 : Value), (B.StaysIn s1.heap ∧ B.get? e = none ∧ s1.heap.FunFrames B l ∧ s1.heap.TracedAtW B e cls a0 fl) ∧
      ∀ h' fl', B.StaysIn h' → h'.TracedAtW B e cls a0 fl' → s1.heap.UpToSlots h' → Fli P w l H s e cls fl' H' { s1 with heap := h' } := by
  obtain ⟨a0, oe, vs, T, oT, ts, h1, h2, h3, h4, h5, h6, h7, h8, ⟨h9, h10⟩, h11, h12⟩ := F.tr
  have none_of : ∀ b, b ∈ e :: T :: frs l → (PySem.W.hideAll s1.heap (e :: T :: frs l)).get? b = none := fun b hb => PySem.W.hideAll_none _ hb
  have at_of : ∀ b o, s1.heap.get? b = some o → b ∉ e :: T :: frs l → (PySem.W.hideAll s1.heap (e :: T :: frs l)).get? b = some o := fun b o q hb => PySem.W.hideAll_get _ q hb
  have nofld : ∀ b ∈ frs l, ∀ o, s1.heap.get? b = some o → ∀ vs, o.data ≠ .fields vs := fun b hb o q => by
    obtain ⟨_, o', ho', hn⟩ := hfr.mem hb
    rw [q] at ho'; cases ho'; exact hn
  have hidT : ∀ b, H' b ≠ none → b ∉ e :: T :: frs l := fun b q z => by
    rcases List.mem_cons.mp z with r | z
    · rw [r] at q; exact q h9
    · rcases List.mem_cons.mp z with r | z
      · rw [r] at q; exact q h10
      · exact q (hff b z)
  refine ⟨PySem.W.hideAll s1.heap (e :: T :: frs l), a0, ⟨fun b o q => PySem.W.of_hideAll _ q, none_of e List.mem_cons_self, PySem.W.funFrames_hide hfr fun env he a ha => ?_, oe, vs, T, oT, ts, h1, h2, h3, h4, none_of T (by simp), h5, h6, h7, h8⟩, fun h' fl' hB ht hu => ?_⟩
  · exact List.mem_cons_of_mem _ (List.mem_cons_of_mem _ (List.mem_filterMap.mpr ⟨env, he, ha⟩))
  · obtain ⟨oe', vs', T', oT', ts', k1, k2, k3, k4, k5, k6, k7, k8, k9⟩ := ht
    have hT' : H' T' = none := by
      cases q : H' T' with
      | none => rfl
      | some u =>
        obtain ⟨ob, hob⟩ := (F.hok _ _ q).get
        have := at_of T' ob hob (hidT T' (by rw [q]; simp))
        rw [k5] at this; cases this
    have gT' : s.heap.get? T' = none := by
      cases q : s.heap.get? T' with
      | none => rfl
      | some u =>
        obtain ⟨ob, hob⟩ := F.un.there T' u q (by simp)
        by_cases z : T' ∈ e :: T :: frs l
        · rcases List.mem_cons.mp z with r | z
          · exact absurd r k6
          · rcases List.mem_cons.mp z with r | z
            · rw [r, h12] at q; cases q
            · obtain ⟨sl, hsl⟩ := hu T' ob hob (nofld T' z ob hob)
              rw [k7] at hsl; cases hsl
              exact absurd k8 (nofld T' z ob hob _)
        · have := at_of T' ob hob z
          rw [k5] at this; cases this
    have new : ∀ b o, s.heap.get? b = some o → b ∉ frs l → b ∉ e :: T :: frs l := fun b o q hb z => by
      rcases List.mem_cons.mp z with r | z
      · rw [r, h11] at q; cases q
      · rcases List.mem_cons.mp z with r | z
        · rw [r, h12] at q; cases q
        · exact hb z
    refine ⟨F.os, F.bare, ⟨fun b o q n hb _ => ?_, fun b o q n hb _ => ?_, F.un.free, fun b o q _ => ?_, F.un.tups, F.un.frzs, F.un.tbls⟩, fun b o q => ?_, a0, oe', vs', T', oT', ts', k1, k2, k3, k4, k6, k7, k8, k9, ⟨h9, hT'⟩, h11, gT'⟩
    · exact hB b o (at_of b o (F.un.keep b o q n hb (by simp)) (new b o q hb))
    · obtain ⟨sl, q1⟩ := F.un.slot b o q n hb (by simp)
      obtain ⟨sl', q2⟩ := hu b _ q1 (nofld b hb _ q1)
      exact ⟨sl', q2⟩
    · obtain ⟨o', q1⟩ := F.un.there b o q (by simp)
      by_cases hb : b ∈ frs l
      · obtain ⟨sl', q2⟩ := hu b _ q1 (nofld b hb _ q1)
        exact ⟨_, q2⟩
      · exact ⟨o', hB b o' (at_of b o' q1 (new b o q hb))⟩
    · refine (F.hok b o q).stay (fun c v hc r => hB c v (at_of c v r (hidT c ?_))) (fun _ z => z) fun _ _ z => z
      rcases hc with z | z
      · rw [z, q]; simp
      · rw [z]; simp
end
def CXW (P : Program) (w : World) : CXT := fun l H s E ev s' => ∃ e cls H', ev = .ref e ∧ Fli P w l H s e cls .none H' s' ∧ E cls none H'
def Flies (X : Cx) (R : St → Value → Hp → Prop) : Prop := ∀ (pins : List (Addr × Obj)) (σ : St) (H : Hp) (s : Shared) (e : Addr) (cls : Value) (H' : Hp) (s' : Shared), Inv X pins σ H s → Fli X.prog X.w X.stack H s e cls .none H' s' → R σ cls H' → X.xe (.ref e) s'
def Throws (X : Cx) (R : St → Value → Hp → Prop) : Prop := ∀ (pins : List (Addr × Obj)) (σ : St) (H : Hp) (s : Shared) (e : Addr) (cls : Value) (vs : List Value) (h' : Heap), Inv X pins σ H s → Heap.MadeExcOf s.heap h' e cls vs → R σ cls H → X.xe (.ref e) { s with heap := h' }
section
variable {X : Cx} {pins : List (Addr × Obj)} {σ : St} {H H' : Hp} {s s' : Shared} {e : Addr} {cls fl : Value}
theorem Inv.fly (I : Inv X pins σ H s) (F : Fli X.prog X.w X.stack H s e cls fl H' s') : Inv X pins σ H' s' := I.call' (ch := []) F.os F.un F.hok F.bare fun b z => absurd z (by simp)
theorem Inv.old (I : Inv X pins σ H s) (hex : X.ex = []) {b : Addr} (h : s.heap.get? b = none) : X.s₀.heap.get? b = none := by
  cases q : X.s₀.heap.get? b with
  | none => rfl
  | some o =>
    obtain ⟨o', q'⟩ := I.base.there b o q (by rw [hex]; simp)
    rw [h] at q'; cases q'
theorem Fli.out (I : Inv X pins σ H s) (F : Fli X.prog X.w X.stack H s e cls fl H' s') (hex : X.ex = []) : Fli X.prog X.w X.outer X.H₀ X.s₀ e cls fl H' s' := by
  have J := I.fly F
  obtain ⟨a0, oe, vs, T, oT, ts, h1, h2, h3, h4, h5, h6, h7, h8, h9, h11, h12⟩ := F.tr
  refine ⟨J.os, J.bare, ?_, J.hok, a0, oe, vs, T, oT, ts, h1, h2, h3, h4, h5, h6, h7, h8, h9, I.old hex h11, I.old hex h12⟩
  have := J.base
  rw [hex] at this
  exact this
theorem fli_made {B h' h'' : Heap} {a0 : Value} {vs : List Value} (I : Inv X pins σ H s) (hB : B = PySem.W.hideAll s.heap (frs X.stack)) (hx : Heap.MadeExcOf s.heap h' e cls vs) (ht : h''.TracedW B e cls a0) (hs : B.StaysIn h'') (hu : h'.UpToSlots h'') :
    Fli X.prog X.w X.stack H s e cls .none H { s with heap := h'' } := by
  subst hB
  obtain ⟨oe, ws, T, oT, ts, k1, k2, k3, k4, k5, k6, k7, k8, k9⟩ := ht
  have nofld : ∀ b ∈ frs X.stack, ∃ o, s.heap.get? b = some o ∧ ∀ vs, o.data ≠ .fields vs := fun b hb => (I.stack.mem hb).2
  have at_of : ∀ b o, s.heap.get? b = some o → b ∉ frs X.stack → h''.get? b = some o := fun b o q hb => hs b o (PySem.W.hideAll_get _ q hb)
  have gT : s.heap.get? T = none := by
    cases q : s.heap.get? T with
    | none => rfl
    | some u =>
      by_cases z : T ∈ frs X.stack
      · obtain ⟨o, ho, hn⟩ := nofld T z
        obtain ⟨sl, hsl⟩ := hu T o (hx.keeps T o ho) hn
        rw [k7] at hsl; cases hsl
        exact absurd k8 (hn _)
      · have := PySem.W.hideAll_get _ q z
        rw [k5] at this; cases this
  have fr : ∀ b, s.heap.get? b = none → H b = none := fun b q => by
    cases r : H b with
    | none => rfl
    | some u =>
      obtain ⟨o, ho⟩ := (I.hok b u r).get
      rw [q] at ho; cases ho
  have sl : ∀ b o, s.heap.get? b = some o → b ∈ frs X.stack → ∃ sl, h''.get? b = some { o with slots := sl } := fun b o q hb => by
    obtain ⟨o', ho', hn⟩ := nofld b hb
    rw [q] at ho'; cases ho'
    exact hu b o (hx.keeps b o q) hn
  refine ⟨rfl, I.bare, ⟨fun b o q _ hb _ => at_of b o q hb, fun b o q _ hb _ => sl b o q hb, fun _ _ _ n _ => n, fun b o q _ => ?_, fun _ _ q => q, fun _ _ _ q => q, fun b ps q => ⟨#[], by rw [q]; simp⟩⟩, fun b o q => ?_, a0, oe, ws, T, oT, ts, k1, k2, k3, k4, k6, k7, k8, k9, ⟨fr e hx.new, fr T gT⟩, hx.new, gT⟩
  · by_cases hb : b ∈ frs X.stack
    · obtain ⟨_, z⟩ := sl b o q hb
      exact ⟨_, z⟩
    · exact ⟨o, at_of b o q hb⟩
  · refine (I.hok b o q).stay (fun c v hc r => at_of c v r fun hb => ?_) (fun _ z => z) fun _ _ z => z
    have n := I.stkFree c hb
    rcases hc with z | z
    · rw [z, q] at n; cases n
    · rw [z] at n; cases n
end
section
variable {P : Program} {w : World} {K : PySem.W.Frag} {mg : Str → Option Value} {base : Heap} {N : List Str} {qual : Str} {scope : Scope} {f : Addr} {cd : Value} {A : Around} {outer : List Env} {s : Shared} {H : Hp} {E : XK}
theorem flies_def : Flies (cxOf (CXW P w) P w K mg base N qual scope f cd A outer s H E) fun _ cls H' => E cls none H' := by
  intro pins σ H1 s1 e cls H' s' I F r
  have J := I.fly F
  obtain ⟨B, a0, ⟨b1, b2, b3, b4⟩, st⟩ := fli_of F J.stack J.stkFree
  refine wpAny_leaves_onW I.ok.frames rfl ⟨b1, b2, b3, b4⟩ fun h' hf hu => ?_
  exact ⟨e, cls, H', rfl, Fli.out I (st h' .none hf.1 hf.2.2.2 hu) rfl, r⟩
theorem throws_def : Throws (cxOf (CXW P w) P w K mg base N qual scope f cd A outer s H E) fun _ cls H' => E cls none H' := by
  intro pins σ H1 s1 e cls vs h' I hx r
  refine wpAny_leaves_madeW (base := PySem.W.hideAll s1.heap (frs (envOfC qual scope s.heap.objs.size f cd :: outer))) I.ok.frames rfl (fun b o q => PySem.W.of_hideAll _ q)
    (PySem.W.funFrames_hide I.stack fun env he a ha => List.mem_filterMap.mpr ⟨env, he, ha⟩) hx fun h'' t hf _ _ hu => ?_
  exact ⟨e, cls, H1, rfl, Fli.out I (fli_made I rfl hx hf.2.2.2 hf.1 hu) rfl, r⟩
end
def FnAtX (P : Program) (w : World) (K : PySem.W.Frag) (mg : Str → Option Value) (base : Heap) (k : Nat) (x : Str) (ps : List Str) (sp : Sp) : Prop :=
  ∃ f, mg x = some (.ref f) ∧ PySem.W.keepIn K (.ref f) = true ∧ (∀ vs H Q E, sp vs H Q E → vs.length = ps.length) ∧
    ∀ (A : Around) (outer : List Env) (s : Shared) (H : Hp) (us : List Value) (vs : List V) (Q : VK) (E : XK), Room k A → Env0 P w K mg base A outer s H → Vals vs us → sp vs H Q E → codeAny (model P w) A (.call (.ref f) ⟨us, []⟩) (CR (CXW P w) outer P w H s Q E) s
section
variable {P : Program} {w : World} {K : PySem.W.Frag} {mg : Str → Option Value} {base : Heap} {j k : Nat} {x : Str} {ps : List Str} {sp sp' : Sp}
theorem FnAtX.or (F : FnAtX P w K mg base k x ps sp) (G : FnAtX P w K mg base k x ps sp') : FnAtX P w K mg base k x ps (fun vs H Q E => sp vs H Q E ∨ sp' vs H Q E) := by
  obtain ⟨f, a, b, c, d⟩ := F
  obtain ⟨f', a', b', c', d'⟩ := G
  have e := a.symm.trans a'
  injection e with e
  injection e with e
  subst e
  exact ⟨f, a, b, fun vs H Q E q => q.elim (c vs H Q E) (c' vs H Q E), fun A outer s H us vs Q E hr e0 r q => q.elim (d A outer s H us vs Q E hr e0 r) (d' A outer s H us vs Q E hr e0 r)⟩
theorem FnAtX.at {CX : CXT} {f : Addr} {fd : FuncData} (F : FnOk P w K mg base CX k f fd ps sp) (hm : mg x = some (.ref f)) (hk : PySem.W.keepIn K (.ref f) = true) (hb : Binds K fd ps []) (hc : ∀ l H s E e s', CX l H s E e s' → CXW P w l H s E e s') : FnAtX P w K mg base k x ps sp := by
  refine ⟨f, hm, hk, F.len, fun A outer s H us vs Q E hr e0 r q => ?_⟩
  have hl : us.length = ps.length := by rw [← r.length]; exact F.len _ _ _ _ q
  refine codeAny_mono (F.run A outer s H ⟨us, []⟩ us vs Q E hr e0 (by simpa using hb s us (e0.mod.kin.keeps fun b o z => (e0.bs b o z).1) (by simpa using hl)) r q) fun res s' hq => ?_
  cases res with
  | error ev => exact hc _ _ _ _ _ _ hq
  | ok fl => cases fl <;> exact hq
theorem FnAt.toX (F : FnAt P w K mg base k x ps sp) : FnAtX P w K mg base k x ps sp :=
  let ⟨_, _, a, b, c, d⟩ := F
  .at a b c d fun _ _ _ _ _ _ z => z.elim
theorem FnAtX.of {st : Stmt} {N : List Str} (D : DefAt K mg x st ps) (S : FnScope N ps (defScope st)) (len : ∀ vs H Q E, sp vs H Q E → vs.length = ps.length)
    (hbody : ∀ (f : Addr) (cdv : Value) (A : Around) (outer : List Env) (s : Shared) (H : Hp) (vs : List V) (Q : VK) (E : XK), Room k (A.deeper (envOfC x (defScope st) s.heap.objs.size f cdv)) → sp vs H Q E →
      ∃ t, PSs (cxOf (CXW P w) P w K mg base N x (defScope st) f cdv A outer s H E) (defBody st) t ∧ t { nx := fun _ H' => Q .non H', rt := Q } (start N vs) H) : FnAtX P w K mg base (k + 1) x ps sp := by
  obtain ⟨f, fd, F, hm, hb⟩ := D
  obtain ⟨oc, od, kV, doc, pm, an, cdv, ct, osl, rfl, lk, hcd⟩ := F.ex
  exact .at (CX := CXW P w) (fn_of lk hcd S len fun A outer s H vs Q E hr hsp => hbody f cdv A outer s H vs Q E hr hsp) hm F.kp hb fun _ _ _ _ _ _ z => z
end
def tFx (sp : Sp) (R : St → Value → Hp → Prop) (t : TA) : TE := fun σ H Q => t σ H fun vs H1 => sp vs H1 Q fun cls _ H' => R σ cls H'
section
variable {X : Cx} {k : Nat} {x : Str} {ps : List Str} {sp : Sp} {e : Expr} {es : List Expr} {t : TA} {p pos : Pos} {R : St → Value → Hp → Prop}
theorem pe_fx (F : FnAtX X.prog X.w X.K X.mg X.base k x ps sp) (hr : Room k X.A) (hR : Flies X R) (ha : PA X (e :: es) t) (hg : Gl X x := by rfl) (hdb : (x == ("__debug__" : Str)) = false := by decide)
    (he : starEach (e :: es) X.env = (false, eval e X.env) :: starEach es X.env := by rfl) (hpl : (backTo pos (starEach es X.env)).any (·.1) = false := by rfl) : PE X (.Call (.Name x p) (e :: es) [] pos) (tFx sp R t) := by
  obtain ⟨f, hm, hk, hl, run⟩ := F
  intro pins s σ H Q I h
  refine wpAny_Call_Name_kw (ld_glob I hg hm ?_ hdb)
  refine PySem.W.callWith_K (h₀ := X.base) I.ok.mod.kin hk (thn (ha pos pins s σ H _ I h) fun us s1 ⟨vs, H1, I1, r, q⟩ => ⟨I1.kIn, ?_⟩) he hpl
  refine wpAny_call (codeAny_mono (run X.A X.stack s1 H1 us vs Q _ hr I1.env0 r q) fun res s' hq => ?_)
  cases res with
  | error ev =>
    obtain ⟨e', cls, H', rfl, Fl, rr⟩ := hq
    exact hR pins σ H1 s1 e' cls H' s' I1 Fl rr
  | ok fl =>
    cases fl with
    | ret u => exact I1.after hq
    | next => exact False.elim hq
    | brk => exact False.elim hq
    | cont => exact False.elim hq
end
end L2
set_option maxRecDepth 100000
namespace L2
open PySem PySem.Spec PySem.Calls PyProof.Rows
open Builtin Builtin.ObjectAttr Builtin.Getset_descriptor
structure ExcK (K : PySem.W.Frag) (C : Addr) : Prop where
  exc : PySem.W.excIn K C [.type "ValueError", .type "Exception", .type "BaseException", .type "object"] "ValueError.__new__" = true
  ga : PySem.W.findIn K (.ref C) "__getattribute__" = some (some (.builtin "BaseException.__getattribute__"))
  gt : PySem.W.findIn K (.ref C) "__getattr__" = some none
  cl : PySem.W.findIn K (.ref C) "__class__" = some (some (.builtin "object.__class__"))
  ob : PySem.W.mroIn K C (.type "object") = some true
  bx : PySem.W.mroIn K C (.type "BaseException") = some true
theorem exc_obj {K : PySem.W.Frag} {h : Heap} {C : Addr} {nid : String} {bmB : List Value} (Y : K.In h) (q : PySem.W.excIn K C bmB nid = true) :
    ∃ bm N nm qn bs hd sn sub ab col dd k0 k1 k2 k3 k5 mN, h.get? C = some (excClassObj nm qn C N bs bm hd sn sub ab col dd k0 k1 k2 k3 k5 nid) ∧ h.Ns N mN ∧ mN "__init__" = none ∧ OwnTail h bmB bm := by
  unfold PySem.W.excIn at q
  split at q
  · next dd cdt slt hlk =>
    split at q
    · next C1 bm1 j0 j1 j2 j3 n1 j5 hmro hslots =>
      simp only [Bool.and_eq_true, beq_iff_eq, Bool.not_eq_true'] at q
      obtain ⟨⟨⟨⟨⟨e1, e2⟩, hdl⟩, htl⟩, hns⟩, hin⟩ := q
      subst e1 e2
      obtain ⟨nm, bs, mro, ns, qn, hd, sn, sub, ab, col, del⟩ := cdt
      dsimp only at hmro hdl hns hin
      subst hmro hdl
      obtain ⟨sll⟩ := slt
      have hz : sll = [j0, j1, j2, j3, some (.builtin n1), j5] := hslots
      subst hz
      exact ⟨bm1, ns, nm, qn, bs, hd, sn, sub, ab, col, dd, j0, j1, j2, j3, j5, _, Y _ _ hlk, .of_isNs (PySem.W.isNs_of_in Y hns), PySem.W.nsMap_none_of_in Y hns hin, PySem.W.tail_of_in Y htl⟩
    · cases q
  · cases q
def tRaise (R : St → Value → Hp → Prop) (C : Addr) : TS := fun _ σ H => R σ (.ref C) H
theorem ps_raise {X : Cx} {R : St → Value → Hp → Prop} {x : Str} {C : Addr} {e₀ : Expr} {msg : Str} {np cpos pos : Pos} (hx : Throws X R) (hk : ExcK X.K C) (ha : PE X e₀ (tC (.str msg))) (hm : X.mg x = some (.ref C)) (hg : Gl X x := by rfl) (hc : X.calm = true := by rfl)
    (hdb : (x == ("__debug__" : Str)) = false := by decide) (he : starEach [e₀] X.env = (false, eval e₀ X.env) :: starEach [] X.env := by rfl) (hpl : (backTo cpos (starEach ([] : List Expr) X.env)).any (·.1) = false := by rfl) :
    PS X (.Raise (some (.Call (.Name x np) [e₀] [] cpos)) none pos) (tRaise R C) := by
  intro pins s σ H D I h
  obtain ⟨bm, N, nm, qn, bs, hd, sn, sub, ab, col, dd, k0, k1, k2, k3, k5, mN, hC, hN, hni, T⟩ := exc_obj I.ok.mod.kin hk.exc
  have hpa : PA X [e₀] (tCons (tC (.str msg)) tNil) := pa_cons ha pa_nil he
  refine wpAny_Raise_call_subU (nm := nm) (q := qn) (N := N) (bs := bs) (hdct := hd) (sn := sn) (sub := sub) (ab := ab) (col := col) (dd := dd) (k0 := k0) (k1 := k1) (k2 := k2) (k3 := k3) (k5 := k5) PySem.F.excBase_ValueError (by decide) PySem.F.excBase_ValueError (T.hasType (b := true) (by decide)) (I.ok.hd hc) (by rw [he]; show (false || (backTo cpos (starEach ([] : List Expr) X.env)).any (·.1)) = false; rw [hpl]; rfl) hni (ld_glob I hg hm ⟨rfl, ?_⟩ hdb)
  have z := hpa cpos pins s σ H (fun vs H1 => vs = [.str msg] ∧ H1 = H) I ⟨rfl, rfl⟩
  rw [he] at z ⊢
  refine Calls.evalArgs_plain (wpAny_mono z (fun us s2 ⟨vs, H1, I2, r, hv, hH⟩ => ?_) fun _ _ y => y)
  subst hv hH
  have hl : us.length = 1 := by rw [← r.length]; rfl
  refine ⟨rfl, by show us.length ≤ _; rw [hl]; decide, I2.bk _ _ hC, hN.keeps I2.bk, T.keeps I2.bk, fun h' e hx' => ?_⟩
  exact hx pins σ _ s2 e _ _ h' I2 hx' h
theorem exc_match {M : Model} {A : Around} {E : Value → Shared → Prop} {Q : Bool → Shared → Prop} {K : PySem.W.Frag} {e C D : Addr} {oe : Obj} {s : Shared} (Y : K.In s.heap) (hD : ExcK K D) (hm : PySem.W.mroIn K C (.ref D) = some true)
    (he : s.heap.get? e = some oe) (hcls : oe.cls = .ref C) (hq : Q true s) : wpAny M A (excMatches (.ref e) (.ref D)) Q E s := by
  obtain ⟨h, g, d, t, os⟩ := s
  obtain ⟨bm, N, nm, qn, bs, hd, sn, sub, ab, col, dd, k0, k1, k2, k3, k5, mN, hO, hN, hni, T⟩ := exc_obj Y hD.exc
  have hcB : (Value.ref D :: bm).contains (.type "BaseException") = true := by rw [List.contains_cons, T.hasType (b := true) (by decide), Bool.or_true]
  have L := PySem.W.looks_mroIn (M := M) Y hm
  have f := tc_notTuple
  unfold excMatches
  repeat (first | (with_reducible refine wpAny_loadPart_at he ?_; rw [hcls]) | with_reducible refine wpAny_loadPart_at hO ?_ | (with_reducible refine wpAny_isSubtype_exc hO ?_; rw [hcB]) | with_reducible refine L.at ?_ | wp_step)
  exact hq
def ExcAt (e C : Addr) (h : Heap) : Prop := ∃ oe vs, h.get? e = some oe ∧ oe.cls = .ref C ∧ oe.data = .fields vs
section
variable {K : PySem.W.Frag} {C e : Addr}
theorem excAt_ty {h : Heap} (M : Model) (p : ExcAt e C h) : PySem.W.Looks M h (typeOf (.ref e)) (.ref C) := by
  obtain ⟨oe, vs, h1, h2, _⟩ := p
  exact h2 ▸ (PySem.W.Looks.ld h1).andThen .now
theorem exc_cls (k : ExcK K C) : ∃ c' d' cd sl, K.lookup C = some ⟨c', d', .cls cd, sl⟩ := by
  obtain ⟨cd, a, _⟩ := Option.bind_eq_some_iff.mp k.ob
  unfold PySem.W.clsIn at a
  split at a
  · next z => exact ⟨_, _, _, _, z⟩
  · cases a
theorem exc_check {M : Model} {A : Around} {E : Value → Shared → Prop} {h : Heap} {g : Array GenState} {d : Drawn} {t : Nat} {os : OsState} {nv : Value} {Q : Unit → Shared → Prop} (k : ExcK K C) (Y : K.In h) (p : ExcAt e C h) (hq : Q () ⟨h, g, d, t, os⟩) :
    wpAny M A (checkBuiltinCall "BaseException.__getattribute__" ⟨[.ref e, nv], []⟩) Q E ⟨h, g, d, t, os⟩ := by
  have hkd : builtinKind "BaseException.__getattribute__" = some .slot := by decide +kernel
  have hsp : splitId "BaseException.__getattribute__" = some ("BaseException", "__getattribute__") := by decide +kernel
  have L0 := excAt_ty M p
  have L1 := PySem.W.looks_mroIn (M := M) Y k.bx
  have ha := F.args_bexc_ga (.ref e) nv
  simp only [checkBuiltinCall, hkd, hsp]
  refine wpAny_bind ?_
  unfold isInstance
  repeat (first | with_reducible refine L0.at ?_ | with_reducible refine L1.at ?_ | wp_step)
  exact hq
theorem exc_clsget {prog : Program} {w : World} {A : Around} {h : Heap} {g : Array GenState} {d : Drawn} {t : Nat} {os : OsState} {tp : Value} {R : Result → Shared → Prop} (k : ExcK K C) (Y : K.In h) (p : ExcAt e C h) (hq : R (.ok (.ret (.ref C))) ⟨h, g, d, t, os⟩) :
    codeAny (model prog w) A (.call (.builtin "getset_descriptor.__get__") ⟨[.builtin "object.__class__", .ref e, tp], []⟩) R ⟨h, g, d, t, os⟩ := by
  have L0 := excAt_ty (model prog w) p
  have L1 := PySem.W.looks_mroIn (M := model prog w) Y k.ob
  refine codeAny_call_builtin PySem.W.KF.slot_gs.plain PySem.W.KF.entry_gs (PySem.W.KF.slot_gs.check _ _ _ _ _ _ _ _ PySem.W.KF.type_class (PySem.W.KF.args_gs _ _ _) ?_)
  unfold Builtin.«getset_descriptor.__get__» descrGet
  rw [PySem.W.dga_obj]
  refine wpAny_bind (wpAny_pure ?_)
  unfold descrGetter descrCheckInstance descrNameAndClass isInstance
  simp only [PySem.W.KF.owner_class]
  repeat lk
  refine ⟨Code.quiet_builtin _ (by decide +kernel), codeAny_builtin PySem.W.KF.entry_class ?_⟩
  unfold Builtin.«object.__class__» shownTypeOf
  repeat lk
  exact hq
theorem exc_clsent {prog : Program} {w : World} {A : Around} {E : Value → Shared → Prop} {h : Heap} {g : Array GenState} {d : Drawn} {t : Nat} {os : OsState} {tk : Tok} {Q : Fin → Shared → Prop} (k : ExcK K C) (Y : K.In h) (p : ExcAt e C h) (hq : Q (.done (.ret (.ref C))) ⟨h, g, d, t, os⟩) :
    wpAny (model prog w) A (Builtin.«object.__getattribute__» ⟨[.ref e, .str "__class__" tk], []⟩) Q E ⟨h, g, d, t, os⟩ := by
  have L0 := excAt_ty (model prog w) p
  have L1 := PySem.W.looks_findIn (M := model prog w) Y k.cl
  have hT5 : (⟨h, g, d, t, os⟩ : Shared).TypeIs (.builtin "object.__class__") "getset_descriptor" := F.typeOf_object_class
  have f5 := F.typeOf_object_class
  have f6 := F.slot_gs_get.lookup
  have f7 := F.slot_gs_set.lookup
  repeat (any_goals (first | assumption | with_reducible refine L0.at ?_ | with_reducible refine L1.at ?_ | wp_step))
  refine exc_clsget k Y p ?_
  repeat (any_goals (first | assumption | wp_step))
theorem exc_clsattr {prog : Program} {w : World} {A : Around} {E : Value → Shared → Prop} {Q : Option Value → Shared → Prop} {s : Shared} (k : ExcK K C) (Y : K.In s.heap) (p : ExcAt e C s.heap) (hq : Q (some (.ref C)) { s with toks := s.toks + 1 }) :
    wpAny (model prog w) A (getAttr? (.ref e) "__class__") Q E s := by
  obtain ⟨h, g, d, t, os⟩ := s
  have L0 := excAt_ty (model prog w) p
  have L1 := PySem.W.looks_findIn (M := model prog w) Y k.ga
  have L2 := PySem.W.looks_findIn (M := model prog w) Y k.gt
  have f3 := F.attr_ValueError.ga.bind (.ref e)
  unfold getAttr? getAttrBy? getAttrBy
  refine wpAny_bind (wpAny_mkText (wpAny_bind (wpAny_attempt (wpAny_holding (wpAny_bind (L0.at (wpAny_bind (L1.at ?_))))))))
  show wpAny _ _ (getAttrByItsOwn (.ref e) _ (.ref C) (.builtin "BaseException.__getattribute__") false false) _ _ _
  unfold getAttrByItsOwn
  refine wpAny_bind (m := hookBefore (.ref C)) (L2.at ?_)
  refine wpAny_bind (wpAny_attempt (wpAny_holding ?_))
  show wpAny _ _ (boundAndCalled (.builtin "BaseException.__getattribute__") (.ref e) _) _ _ _
  unfold boundAndCalled
  refine wpAny_bind (wpAny_of_eq f3 ?_)
  refine wpAny_call (codeAny_call_builtin F.attr_ValueError.ga.plain F.entry_bexc_ga (exc_check k Y p (exc_clsent k Y p ?_)))
  show wpAny _ _ (handedOut (.ref C)) _ _ _
  exact wpAny_pure (wpAny_pure hq)
theorem kitx_exc (k : ExcK K C) : PySem.W.KitX K (.ref e) (.ref C) (ExcAt e C) where
  ty := fun M _ _ p => excAt_ty M p
  it := fun _ _ Y _ => by
    obtain ⟨_, _, _, _, z⟩ := exc_cls k
    intro A' Q' E' s' kk q
    unfold isType loadHead
    exact wpAny_bind (wpAny_loadPart (kk _ _ (Y _ _ z)) (wpAny_pure q))
  ne := fun h tp dd its n sl Y htp => by
    obtain ⟨_, _, _, _, z⟩ := exc_cls k
    refine Bool.eq_false_iff.mpr fun q => ?_
    have e' : C = tp := Value.ref.inj (beq_iff_eq.mp q)
    subst e'
    cases (Y _ _ z).symm.trans htp
  ca := fun Y p kk => exc_clsattr k Y p kk
end
end L2
set_option maxRecDepth 100000
namespace L2
open PySem PySem.Spec PySem.Calls PyProof.Rows
def excO (e C : Addr) : HO := .ext (ExcAt e C)
theorem excO_ok {P : Program} {w : World} {H : Hp} {h : Heap} {e C : Addr} (p : ExcAt e C h) : ObjOk P w H h e (excO e C) :=
  ⟨p, let ⟨oe, _, h1, _⟩ := p; ⟨oe, h1⟩, fun _ _ ⟨oe, vs, h1, h2, h3⟩ kk => ⟨oe, vs, kk _ h1, h2, h3⟩⟩
theorem excO_at {X : Cx} {pins : List (Addr × Obj)} {σ : St} {H : Hp} {s : Shared} {e C : Addr} (I : Inv X pins σ H s) (q : H e = some (excO e C)) : ExcAt e C s.heap := (I.hok e _ q).1
abbrev Cx.tryC (X : Cx) (pn : List (Addr × Obj)) (W : Value → Shared → Prop) : Cx := { X with pn := X.pn ++ pn, xe := W }
abbrev Cx.hand (X : Cx) (v : Value) : Cx := { X with A := X.A.mark (some v), calm := false, xe := fun _ _ => False }
section
variable {X : Cx} {pins pn : List (Addr × Obj)} {W : Value → Shared → Prop} {σ : St} {H : Hp} {s : Shared} {v : Value}
theorem Cx.Ok.tryC (ok : X.Ok) (pn : List (Addr × Obj)) (W : Value → Shared → Prop) : (X.tryC pn W).Ok :=
  ⟨ok.mod, ok.kind, ok.glob, ok.blt, ok.above, ok.inj, ok.has, ok.cab, ok.hd, ok.frames, ok.stk, ok.exf, ok.bs, ok.bsz, ok.noex, ok.exfs, ok.funs, ok.frf⟩
theorem Cx.Ok.unTry (ok : (X.tryC pn W).Ok) : X.Ok :=
  ⟨ok.mod, ok.kind, ok.glob, ok.blt, ok.above, ok.inj, ok.has, ok.cab, ok.hd, ok.frames, ok.stk, ok.exf, ok.bs, ok.bsz, ok.noex, ok.exfs, ok.funs, ok.frf⟩
theorem Cx.Ok.hand (ok : X.Ok) (v : Value) : (X.hand v).Ok :=
  ⟨ok.mod, ok.kind, ok.glob, ok.blt, ok.above, ok.inj, ok.has, ok.cab, (fun z => nomatch z), ok.frames, ok.stk, ok.exf, ok.bs, ok.bsz, ok.noex, ok.exfs, ok.funs, ok.frf⟩
theorem Inv.tryIn (I : Inv X pins σ H s) (W : Value → Shared → Prop) : Inv (X.tryC pins W) [] σ H s :=
  ⟨I.ok.tryC pins W, I.os, I.bare, I.base, I.loc, I.cell, I.free, I.freeC, fun p hp => I.pin p (by simpa using hp), I.hok, I.len⟩
theorem Inv.tryOut (I : Inv (X.tryC pn W) pins σ H s) : Inv X pn σ H s :=
  ⟨I.ok.unTry, I.os, I.bare, I.base, I.loc, I.cell, I.free, I.freeC, fun p hp => I.pin p (List.mem_append_left _ hp), I.hok, I.len⟩
theorem Inv.hand (I : Inv X pins σ H s) (v : Value) : Inv (X.hand v) pins σ H s :=
  ⟨I.ok.hand v, I.os, I.bare, I.base, I.loc, I.cell, I.free, I.freeC, I.pin, I.hok, I.len⟩
theorem Inv.unhand (I : Inv (X.hand v) pins σ H s) (ok : X.Ok) : Inv X pins σ H s :=
  ⟨ok, I.os, I.bare, I.base, I.loc, I.cell, I.free, I.freeC, I.pin, I.hok, I.len⟩
theorem SP.tryOut {D : Ends} {f : Flow} {s' : Shared} (h : SP (X.tryC pn W) pins D f s') : SP X pn D f s' := by
  cases f with
  | next => obtain ⟨σ', H', I, q⟩ := h; exact ⟨σ', H', I.tryOut, q⟩
  | brk => obtain ⟨σ', H', I, q⟩ := h; exact ⟨σ', H', I.tryOut, q⟩
  | cont => obtain ⟨σ', H', I, q⟩ := h; exact ⟨σ', H', I.tryOut, q⟩
  | ret u => obtain ⟨v, σ', H', I, r, q⟩ := h; exact ⟨v, σ', H', I.tryOut, r, q⟩
theorem Inv.gone {i : Nat} {n : Str} {h' : Heap} {t' : Nat} {v' : Option Value} {m : Str → Option Value} (I : Inv X pins σ H s) (hN : X.N.Nodup) (hi : X.N[i]? = some n)
    (hm : ∀ (j : Nat) (x : Str) (v : V), X.N[j]? = some x → σ[j]? = some (some v) → Vis X.env.scope x → ∃ u, RelV v u ∧ Look X.env s.heap m x u)
    (hn' : h'.Ns X.env.locals (fun x => if x = n then v' else m x)) (hs : Heap.SameBut X.env.locals s.heap h') : Inv X pins (σ.set i none) H { s with heap := h', toks := t' } := by
  obtain ⟨mm, ⟨oL, _, _, hoL, _⟩, _⟩ := id I.loc
  have cne := I.cne
  refine ⟨I.ok, I.os, I.bare, ⟨fun b o e n hb hx => ?_, fun b o e n hb hx => ?_, I.base.free, fun b o e hx => ?_, I.base.tups, I.base.frzs, I.base.tbls⟩, ⟨_, hn', fun j y w e1 e2 e3 => ?_⟩, fun y c e => ?_, I.free, I.freeC, fun p hp => ?_, fun b ob e => ?_, by simpa using I.len⟩
  · exact (hs.2 b (Nat.ne_of_lt (Nat.lt_of_lt_of_le (Heap.lt_size e) I.ok.above))).trans (I.base.keep b o e n hb hx)
  · obtain ⟨sl, e1⟩ := I.base.slot b o e n hb hx
    exact ⟨sl, (hs.2 b (Nat.ne_of_lt (Nat.lt_of_lt_of_le (Heap.lt_size e) I.ok.above))).trans e1⟩
  · obtain ⟨o', e1⟩ := I.base.there b o e hx
    exact ⟨o', (hs.2 b (Nat.ne_of_lt (Nat.lt_of_lt_of_le (Heap.lt_size e) I.ok.above))).trans e1⟩
  · have hji : j ≠ i := by
      rintro rfl
      rw [List.getElem?_set] at e2
      split at e2
      · split at e2 <;> cases e2
      · next z => exact z rfl
    rw [List.getElem?_set_ne (Ne.symm hji)] at e2
    obtain ⟨u, r, q⟩ := hm j y w e1 e2 e3
    refine ⟨u, r, ?_⟩
    rcases q with ⟨kk, q⟩ | ⟨kk, c, q, z⟩
    · refine .inl ⟨kk, ?_⟩
      have : y ≠ n := fun z => hji (nodup_ix hN e1 (z ▸ hi))
      simp [this, q]
    · exact .inr ⟨kk, c, q, z.sameBut hs (cne y c q)⟩
  · obtain ⟨w, z⟩ := I.cell y c e
    exact ⟨w, z.sameBut hs (cne y c e)⟩
  · obtain ⟨e, n, ne, nf, d⟩ := I.pin p hp
    exact ⟨(hs.2 p.1 ne).trans e, n, ne, nf, d⟩
  · refine (I.hok b ob e).stay (fun c w' hc q => (hs.2 c ?_).trans q) (fun _ q => q) fun _ _ q => q
    rintro rfl
    rcases hc with z | hc
    · rw [← z, I.free] at e; cases e
    · rw [I.free] at hc; cases hc
theorem Inv.catch {H' : Hp} {s' : Shared} {e C : Addr} (I : Inv X pins σ H s) (F : Fli X.prog X.w X.stack H s e (.ref C) .none H' s') : Inv X pins σ (upd H' e (excO e C)) s' := by
  obtain ⟨a0, oe, vs, T, oT, ts, h1, h2, h3, h4, h5, h6, h7, h8, ⟨h9, h10⟩, h11, h12⟩ := F.tr
  refine I.call' (ch := []) F.os ⟨F.un.keep, F.un.slot, fun b o q n hx => ?_, F.un.there, fun b xs q => ?_, fun b o u q => ?_, fun b ps q => ?_⟩ (fun b o q => ?_) F.bare fun b z => absurd z (by simp)
  · rw [upd_ne (fun z => by rw [z, h11] at q; cases q)]
    exact F.un.free b o q n hx
  · have z := F.un.tups b xs q
    rw [upd_ne (ne_of_none z h9)]; exact z
  · have z := F.un.frzs b o u q
    rw [upd_ne (ne_of_none z h9)]; exact z
  · obtain ⟨m, z⟩ := F.un.tbls b ps q
    exact ⟨m, by rw [upd_ne (ne_of_none z h9)]; exact z⟩
  · by_cases hb : b = e
    · subst hb
      rw [upd_same] at q; cases q
      exact excO_ok ⟨oe, vs, h1, h2.1, h3⟩
    · rw [upd_ne hb] at q
      exact (F.hok b o q).stay (fun _ _ _ r => r) (fun c r => by rw [upd_ne (ne_of_none r h9)]; exact r) fun c xs r => by rw [upd_ne (ne_of_none r h9)]; exact r
end
def Ends.gone (D : Ends) (i : Nat) : Ends := { nx := fun σ H => D.nx (σ.set i none) H, rt := D.rt, bk := fun σ H => D.bk (σ.set i none) H, ct := fun σ H => D.ct (σ.set i none) H }
def RTry (K : PySem.W.Frag) (Dc : Addr) (i : Nat) (th : TS) (D : Ends) : St → Value → Hp → Prop := fun σ cls H' => ∃ C, cls = .ref C ∧ ExcK K C ∧ PySem.W.mroIn K C (.ref Dc) = some true ∧
  ∀ e, H' e = none → th (D.gone i) (σ.set i (some (.ref e))) (upd H' e (excO e C))
def tTry (K : PySem.W.Frag) (Dc : Addr) (i : Nat) (tb : (St → Value → Hp → Prop) → TS) (th : TS) : TS := fun D σ H => tb (RTry K Dc i th D) D σ H
section
variable {X : Cx}
theorem ps_try {body hs : List Stmt} {b₀ : Stmt} {cn n : Str} {np hpos pos : Pos} {Dc : Addr} {i : Nat} {tb : (St → Value → Hp → Prop) → TS} {th : TS} (hst : X.stack = X.env :: X.outer) (hfr : X.env.frame = some X.env.locals) (hN : X.N.Nodup) (hD : ExcK X.K Dc) (hm : X.mg cn = some (.ref Dc))
    (hb : ∀ (pn : List (Addr × Obj)) (W : Value → Shared → Prop) (R : St → Value → Hp → Prop), Flies (X.tryC pn W) R → PSs (X.tryC pn W) body (tb R)) (hh : ∀ v, PSs (X.hand v) (b₀ :: hs) th)
    (hi : X.N[i]? = some n := by rfl) (hl : X.env.kindOf n = some .local := by rfl) (hg : Gl X cn := by rfl) (hdb : (cn == ("__debug__" : Str)) = false := by decide) :
    PS X (.Try body [.ExceptHandler (some (.Name cn np)) (some n) (b₀ :: hs) hpos] [] [] pos) (tTry X.K Dc i tb th) := by
  intro pins s σ H D I h
  refine wpAny_Try_except ?_
  have key : Flies (X.tryC pins fun e s₁ => wpAny (model X.prog X.w) X.A (noteFrame e X.env) (fun _ s₂ => wpAny (model X.prog X.w) X.A (setFlight e none) (fun _ s₃ => wpAny (model X.prog X.w) X.A (handleBy e X.env [.ExceptHandler (some (.Name cn np)) (some n) (b₀ :: hs) hpos]) (SP X pins D) X.xe s₃) X.xe s₂) X.xe s₁)
      (RTry X.K Dc i th D) := by
    rintro pins' σ' H1 s1 e cls H' s' I0 F ⟨C, rfl, kC, hmC, hth⟩
    have I1 : Inv X pins σ' H1 s1 := I0.tryOut
    have F : Fli X.prog X.w X.stack H1 s1 e (.ref C) .none H' s' := F
    have J := I1.fly F
    obtain ⟨B, a0, fl, st⟩ := fli_of F J.stack J.stkFree
    have frm : X.A.frames = some (X.env :: X.outer) := by rw [← hst]; exact I1.ok.frames
    rw [hst] at fl
    refine wpAny_looks_onW frm hfr fl fun h4 g4 u4 => ?_
    refine wpAny_landsW g4 fun h5 g5 u5 => ?_
    have F5 := st h5 .none g5.1 g5.2.2.2 (u4.trans u5)
    have J5 := I1.fly F5
    obtain ⟨_, oe, _, _, _, _, he, ⟨hc, _⟩, _⟩ := F5.tr
    refine wpAny_handleBy_cons (codeAny_handlers_test (ld_glob (X := X.hand (.ref e)) (J5.hand (.ref e)) hg hm ?_ hdb)) (by intro q; cases q)
    refine exc_match J5.kIn hD hmC he hc ?_
    refine codeAny_handlers_suite_as ?_
    refine lands_againW g5 fun h6 g6 u6 => ?_
    have F6 := st h6 .none g6.1 g6.2.2.2 ((u4.trans u5).trans u6)
    obtain ⟨_, _, _, _, _, _, _, _, _, _, _, _, _, _, ⟨he0, _⟩, _, _⟩ := F6.tr
    have J6 := (I1.catch F6).hand (.ref e)
    refine store_ok (X := X.hand (.ref e)) (v := .ref e) J6 hN hi (.inl hl) rfl (fun s7 J7 => ?_) (.inr hl)
    refine wpAny_mono (hh (.ref e) pins s7 _ _ (D.gone i) J7 (hth e he0)) (fun f s8 q8 => ?_) fun _ _ z => False.elim z
    have hp : (X.env.scope.kind == .class || (X.env.scope.kind == .module && X.env.locals != X.env.globals)) = false := by rw [I.ok.kind]; rfl
    show wpAny (model X.prog X.w) X.A (do bindName X.env n .none; unbindBehindTheSuite X.env n hpos) (fun _ s₃ => SP X pins D f s₃) X.xe s8
    cases f with
    | next =>
      obtain ⟨σ8, H8, I8, q⟩ := q8
      have I9 := I8.unhand I.ok
      obtain ⟨m, hn, hml⟩ := id I9.loc
      exact wpAny_nameGoes_keeps hl hn hp fun h' v' hn' hs' => ⟨_, H8, I9.gone hN hi hml hn' hs', q⟩
    | brk =>
      obtain ⟨σ8, H8, I8, q⟩ := q8
      have I9 := I8.unhand I.ok
      obtain ⟨m, hn, hml⟩ := id I9.loc
      exact wpAny_nameGoes_keeps hl hn hp fun h' v' hn' hs' => ⟨_, H8, I9.gone hN hi hml hn' hs', q⟩
    | cont =>
      obtain ⟨σ8, H8, I8, q⟩ := q8
      have I9 := I8.unhand I.ok
      obtain ⟨m, hn, hml⟩ := id I9.loc
      exact wpAny_nameGoes_keeps hl hn hp fun h' v' hn' hs' => ⟨_, H8, I9.gone hN hi hml hn' hs', q⟩
    | ret u =>
      obtain ⟨v, σ8, H8, I8, r, q⟩ := q8
      have I9 := I8.unhand I.ok
      obtain ⟨m, hn, hml⟩ := id I9.loc
      exact wpAny_nameGoes_keeps hl hn hp fun h' v' hn' hs' => ⟨v, _, H8, I9.gone hN hi hml hn' hs', r, q⟩
  refine wpAny_mono (hb pins _ _ key [] s σ H D (I.tryIn _) h) (fun f s1 q => ?_) fun _ _ z => z
  have q := SP.tryOut q
  cases f with
  | next => exact wpAny_execs_nil q
  | brk => exact q
  | cont => exact q
  | ret u => exact q
end
end L2
set_option Elab.async false
set_option linter.all false
set_option maxRecDepth 100000
set_option maxHeartbeats 4000000
namespace L2
open PySem PySem.Spec PyProof.Rows
section
variable {P : Program} {w : World} {K : PySem.W.Frag} {mg : Str → Option Value} {base : Heap} {j k : Nat} {C : Addr} {m qual : Str} {ps : List Str} {sp sp' : Sp}
end
section
variable {X : Cx} {k : Nat} {C : Addr} {m : Str} {ps : List Str} {sp : Sp} {e o : Expr} {es : List Expr} {ta : TE} {t : TA} {apos pos : Pos} {R : St → Value → Hp → Prop}
end
end L2
set_option Elab.async false
set_option linter.all false
set_option maxRecDepth 100000
set_option maxHeartbeats 4000000
namespace L2
open PySem PySem.Spec PyProof.Rows
section
variable {prog : Program} {w : World} {A : Around} {R : Result → Shared → Prop} {I : Addr} {fp wr : List Addr} {n : Nat} {P : Nat → Value → Prop} {St : Nat → Heap → Prop}
end
end L2
set_option Elab.async false
set_option linter.all false
set_option maxRecDepth 100000
set_option maxHeartbeats 4000000
namespace L2
open PySem PySem.Spec PyProof.Rows
section
variable {prog : Program} {w : World} {A : Around} {E : Value → Shared → Prop} {s : Shared}
end
end L2
set_option Elab.async false
set_option linter.all false
set_option maxRecDepth 100000
set_option maxHeartbeats 4000000
namespace L2
open PySem PySem.Spec PyProof.Rows
section
variable {X : Cx} {tg : Expr}
end
end L2
set_option Elab.async false
set_option linter.all false
set_option maxRecDepth 100000
set_option maxHeartbeats 4000000
namespace L2
open PySem PySem.Spec PyProof.Rows
section
variable {X : Cx}
def rStrI : List V → Hp → VK → Prop := fun xs H Q => ∃ n : Int, xs = [.int n] ∧ n.natAbs.log2 < 1920 ∧ Q (.str (Str.ofString (toString n))) H
theorem call_strI : CallR X (.type "str") rStrI := by
  intro pins s σ H xs us Q I rv h
  obtain ⟨n, rfl, hn, q⟩ := h
  obtain ⟨u, rfl, ru⟩ := rv.one
  obtain ⟨t, rfl⟩ := ru
  exact P.str_of_int hn ⟨.str _, H, I.tok _, ⟨_, rfl⟩, q⟩
def rIntT : List V → Hp → VK → Prop := fun xs H Q => ∃ (x : Str) (n : Int), xs = [.str x] ∧ intText? x = some n ∧ x.length ≤ 640 ∧ Q (.int n) H
theorem call_intT : CallR X (.type "int") rIntT := by
  intro pins s σ H xs us Q I rv h
  obtain ⟨x, n, rfl, hn, hl, q⟩ := h
  obtain ⟨u, rfl, ru⟩ := rv.one
  obtain ⟨t, rfl⟩ := ru
  exact PySem.W.KIN.call_text hn hl ⟨.int n, H, I.tok _, ⟨_, rfl⟩, q⟩
theorem vals_strs : ∀ {ws : List Str} {us : List Value}, Vals (ws.map V.str) us → ∃ l : List (Str × Tok), strValues l = us ∧ l.map (·.1) = ws
  | [], [], _ => ⟨[], rfl, rfl⟩
  | w :: ws, _, .cons r rr => by
    obtain ⟨t, rfl⟩ := r
    obtain ⟨l, rfl, e⟩ := vals_strs rr
    exact ⟨(w, t) :: l, rfl, by rw [List.map_cons, e]⟩
theorem strs_vals : ∀ l : List (Str × Tok), Vals ((l.map (·.1)).map V.str) (strValues l)
  | [] => .nil
  | (w, t) :: l => .cons ⟨t, rfl⟩ (strs_vals l)
def rJoin : V → List V → Hp → VK → Prop := fun x vs H Q => ∃ (sep : Str) (l : Addr) (ws : List Str), x = .str sep ∧ vs = [.ref l] ∧ H l = some (.lst (ws.map V.str)) ∧ JoinOk sep ws = true ∧ Q (.str (Txt.join sep ws)) H
theorem mt_join : MtR X "str.join" rJoin := by
  intro pins s σ H x vs v us Q I rx rv h
  obtain ⟨sep, l, ws, rfl, rfl, hH, hok, q⟩ := h
  obtain ⟨t, rfl⟩ := rx
  obtain ⟨u, rfl, ru⟩ := rv.one
  cases ru
  obtain ⟨its, n, r, e, z⟩ := I.lst hH
  obtain ⟨ls, rfl, ew⟩ := vals_strs r
  exact SC.join ⟨_, e, rfl, n, rfl⟩ ew hok fun t' k => ⟨.str _, H, I.tok _, ⟨_, rfl⟩, q⟩
def rSplit : V → List V → Hp → VK → Prop := fun x vs H Q => ∃ (z y : Str), x = .str z ∧ vs = [.str y] ∧ (y.length == 0) = false ∧ z.length ≤ 100000 ∧ ∀ p, H p = none → Q (.ref p) (upd H p (.lst ((Txt.split z y).map V.str)))
theorem parts_len (z y : Str) : (Builtin.Str.partsBetween z (Builtin.Str.occurrences z y 0 z.length (z.length + 1)) y.length).length ≤ z.length + 2 := by
  unfold Builtin.Str.partsBetween
  have h := StrLaws.occ_length_le z y 0 z.length (z.length + 1)
  rw [List.length_map, List.length_zip, List.length_cons, List.length_map, List.length_append, List.length_singleton, Nat.min_self]
  omega
theorem split_len (z y : Str) : (Txt.split z y).length ≤ z.length + 2 := by
  unfold Txt.split
  split
  · simp
  · split
    · simp
    · exact parts_len z y
theorem mt_split : MtR X "str.split" rSplit := by
  intro pins s σ H x vs v us Q I rx rv h
  obtain ⟨z, y, rfl, rfl, hy, hz, q⟩ := h
  obtain ⟨t, rfl⟩ := rx
  obtain ⟨u, rfl, ru⟩ := rv.one
  obtain ⟨tu, rfl⟩ := ru
  have fin : ∀ (l : List (Str × Tok)) (tk : Nat), l.map (·.1) = Txt.split z y → EP X pins σ Q (.ref s.heap.objs.size) { s with heap := s.heap.push { cls := .type "list", data := .seq (strValues l).toArray }, toks := tk } := fun l tk e => by
    have hl := split_len z y
    have hv := strs_vals l
    rw [e] at hv
    exact ⟨.ref _, _, I.lnew (t' := tk) hv (by rw [List.length_map, sizeLine_eq]; omega), rfl, q _ I.fresh⟩
  have hsz : z.length ≤ sizeLine := by rw [sizeLine_eq]; omega
  have hsz2 : (Builtin.Str.partsBetween z (Builtin.Str.occurrences z y 0 z.length (z.length + 1)) y.length).length ≤ sizeLine := by have := parts_len z y; rw [sizeLine_eq]; omega
  cases h1 : (decide (z.length < y.length) || decide (Builtin.Str.strKind z < Builtin.Str.strKind y))
  · cases hf : (Builtin.Str.occurrences z y 0 z.length (z.length + 1)).isEmpty
    · refine call_meets F.slot_str_split (typeIs_str _ _ _) F.entry_str_split (F.args_str_split_2 _ _) (meets_str_split_sep z y t tu h1 hy hf hsz hsz2) ?_
      show EP X pins σ Q (.ref s.heap.objs.size) { s with toks := _, heap := s.heap.push { cls := .type "list", data := .seq (strsFrom s.toks (Builtin.Str.partsBetween z (Builtin.Str.occurrences z y 0 z.length (z.length + 1)) y.length)).toArray } }
      rw [strsFrom_eq]
      exact fin _ _ ((numbered_texts _ _).trans ((if_neg (ne_true_of_eq_false h1)).trans (if_neg (ne_true_of_eq_false hf))).symm)
    · exact call_meets F.slot_str_split (typeIs_str _ _ _) F.entry_str_split (F.args_str_split_2 _ _) (meets_str_split_not_found z y t tu h1 hy hf) (fin [(z, t)] s.toks ((if_neg (ne_true_of_eq_false h1)).trans (if_pos hf)).symm)
  · exact call_meets F.slot_str_split (typeIs_str _ _ _) F.entry_str_split (F.args_str_split_2 _ _) (meets_str_split_cannot_occur z y t tu h1) (fin [(z, t)] s.toks (if_pos h1).symm)
def rStarts : V → List V → Hp → VK → Prop := fun x vs H Q => ∃ (z y : Str), x = .str z ∧ vs = [.str y] ∧ Q (.bl (Txt.startswith z y)) H
theorem mt_starts : MtR X "str.startswith" rStarts := by
  intro pins s σ H x vs v us Q I rx rv h
  obtain ⟨z, y, rfl, rfl, q⟩ := h
  obtain ⟨t, rfl⟩ := rx
  obtain ⟨u, rfl, ru⟩ := rv.one
  obtain ⟨tu, rfl⟩ := ru
  exact SC.startswith ⟨.bl _, H, I, rfl, q⟩
end
def Its (z : Str) : It where
  go := fun i _ => i < z.cps.size
  yld := fun i H x H' => H' = H ∧ ∃ c, z.cps[i]? = some c ∧ x = .str ⟨#[c]⟩
  stop := fun i _ => z.cps.size ≤ i
end L2
set_option Elab.async false
set_option linter.all false
set_option maxRecDepth 100000
set_option maxHeartbeats 4000000
namespace L2
open PySem PySem.Spec PyProof.Rows
theorem itType (z : Str) : strIterType z = "str_ascii_iterator" ∨ strIterType z = "str_iterator" := by
  unfold strIterType
  split
  · exact .inl rfl
  · exact .inr rfl
theorem turn_str {P : Program} {w : World} {K : PySem.W.Frag} {tg : Expr} (z : Str) (t : Tok) (it : Addr) : Turn P w K tg (Its z) [it] it (fun i h => h.IsStrIter it (strIterType z) z t i) where
  mem := by simp
  obj := fun i h st b hb => by
    have e : b = it := by simpa using hb
    subst e
    obtain ⟨o, e, c, d⟩ := st
    exact ⟨o, e, fun v z => by rw [d] at z; cases z⟩
  keep := fun i h h' ⟨o, e, c, d⟩ k => ⟨o, k it (by simp) o e, c, d⟩
  item := by
    intro X hP hw hK hc i pins s σ H E I hf st hg
    subst hP hw hK
    have hg : i < z.cps.size := hg
    have hx : z.cps[i]? = some z.cps[i] := by simp [hg]
    obtain ⟨f0, f1, f2, f3, f4, f5⟩ := hf it (by simp)
    have fin : ∀ h', h'.IsStrIter it (strIterType z) z t (i + 1) → Heap.SameBut it s.heap h' → ∃ u, some (Value.str ⟨#[z.cps[i]]⟩ s.toks) = some u ∧ wpAny (model X.prog X.w) X.A (letOwnedTupleGo tg (.ref it) u) (fun _ s2 => ∃ x H', Inv X pins σ H' s2 ∧ RelV x u ∧ (Its z).yld i H x H' ∧ s2.heap.IsStrIter it (strIterType z) z t (i + 1) ∧ ∀ b ∈ [it], H' b = none) E { s with heap := h', toks := s.toks + 1 } := fun h' st' sb => by
      have I1 : Inv X pins σ H { s with heap := h', toks := s.toks + 1 } := I.turned (t' := s.toks + 1) (fun b o hb e => (sb.2 b hb).trans e) f0 f1 f3 f4 f5
      obtain ⟨o, e, c, d⟩ := id st'
      refine ⟨_, rfl, go_of (s := { s with heap := h', toks := s.toks + 1 }) e c d ?_ ⟨.str ⟨#[z.cps[i]]⟩, H, I1, ⟨_, rfl⟩, ⟨rfl, _, hx, rfl⟩, st', fun b hb => (hf b hb).1⟩⟩
      unfold strIterType
      split <;> decide
    have e2 := itType z
    generalize strIterType z = ty at st fin e2 ⊢
    rcases e2 with rfl | rfl
    · exact wpAny_pyNext_ascii_item st hx fin
    · exact wpAny_pyNext_wide_item st hx fin
  done := by
    intro X hP hw hK hc i pins s σ H E I hf st hg
    subst hP hw hK
    have hg : z.cps.size ≤ i := hg
    have hx : z.cps[i]? = none := by simp [hg]
    obtain ⟨f0, f1, f2, f3, f4, f5⟩ := hf it (by simp)
    unfold strIterType at st
    split at st
    · exact wpAny_pyNext_ascii_end (I.ok.hd hc) st hx fun h' eb => ⟨rfl, I.turned (t' := s.toks) (fun b o hb e => eb b o hb e) f0 f1 f3 f4 f5⟩
    · exact wpAny_pyNext_wide_end (I.ok.hd hc) st hx fun h' eb => ⟨rfl, I.turned (t' := s.toks) (fun b o hb e => eb b o hb e) f0 f1 f3 f4 f5⟩
  self := fun A i s Q E st h => by
    unfold strIterType at st
    split at st
    · exact wpAny_pyIter_striter_ascii st h
    · exact wpAny_pyIter_striter_wide st h
section
variable {X : Cx} {tg : Expr}
def iStr (tl : TE) : TI := fun σ H R => tl σ H fun x H1 => ∃ z, x = .str z ∧ R (Its z) H1
theorem pi_str {l : Expr} {tl : TE} (hl : PE X l tl) : PI X tg l (iStr tl) := by
  intro pins s σ H R I h
  refine thn (hl pins s σ H _ I h) fun v s1 ⟨x, H1, I1, r1, q1⟩ => ?_
  obtain ⟨z, e, q⟩ := q1
  subst e
  obtain ⟨t, rfl⟩ := r1
  refine wpAny_pyIter_strU ?_
  refine ⟨s1.heap.objs.size, [s1.heap.objs.size], _, _, H1, rfl, I1.kept (t' := s1.toks) fun b o e => Heap.get?_push_of_some _ e, turn_str z t _, ⟨_, Heap.get?_push_size _ rfl, rfl, rfl⟩, fun b hb => ?_, q⟩
  have e : b = s1.heap.objs.size := by simpa using hb
  subst e
  exact I1.fpOk (Nat.le_refl _) (I1.hok.fresh (Nat.le_refl _))
def rSlS : V → Option Int → Option Int → Hp → VK → Prop := fun x lo hi H Q => ∃ z : Str, x = .str z ∧ z.length ≤ sizeLine ∧ Q (.str (Txt.slice z lo hi)) H
theorem sl_str : SlR X rSlS := by
  intro pins s σ H x v vl vu lo hi sl Q I rx hs pl pu h
  obtain ⟨z, rfl, hz, q⟩ := h
  obtain ⟨t, rfl⟩ := rx
  refine ⟨"str", _, F.slot_str_getitem.lookup, typeIs_str _ _ _, ?_⟩
  have fin : ∀ t' k, EP X pins σ Q (.str (Txt.slice z lo hi) t') { s with toks := k } := fun t' k => ⟨.str _, H, I.tok _, ⟨_, rfl⟩, q⟩
  cases pl with
  | none =>
    cases pu with
    | none => exact wpAny_getItem_str_slice (l := none) (u := none) (st := none) hs rfl (post_val_or_str ⟨Nat.le_trans (Txt.slice_le z _ _) hz, fin⟩)
    | int j tj => exact wpAny_getItem_str_slice (l := none) (u := some (j, tj)) (st := none) hs rfl (post_val_or_str ⟨Nat.le_trans (Txt.slice_le z _ _) hz, fin⟩)
  | int i ti =>
    cases pu with
    | none => exact wpAny_getItem_str_slice (l := some (i, ti)) (u := none) (st := none) hs rfl (post_val_or_str ⟨Nat.le_trans (Txt.slice_le z _ _) hz, fin⟩)
    | int j tj => exact wpAny_getItem_str_slice (l := some (i, ti)) (u := some (j, tj)) (st := none) hs rfl (post_val_or_str ⟨Nat.le_trans (Txt.slice_le z _ _) hz, fin⟩)
end
end L2
set_option Elab.async false
set_option linter.all false
set_option maxRecDepth 100000
set_option maxHeartbeats 4000000
namespace L2
open PySem PySem.Spec PyProof.Rows
section
variable {κ : Type} [DecidableEq κ]
def valV (kvs : List (κ × V)) (k : κ) : Option V := (kvs.find? fun kv => decide (kv.1 = k)).map (·.2)
end
section
variable {P : Program} {w : World} {H : Hp} {h : Heap} {a : Addr}
end
section
variable {X : Cx} {pins : List (Addr × Obj)} {σ : St} {H : Hp} {s : Shared} {a : Addr} {y v : V} {u r : Value} {o : Option V} {A : Around} {E : Value → Shared → Prop}
end
section
variable {X : Cx} {pins : List (Addr × Obj)} {σ : St} {H : Hp} {s : Shared} {a : Addr} {kvs : List (Key × V)} {k : Key} {u : Value} {A : Around} {E : Value → Shared → Prop}
end
section
variable {X : Cx} {o i e value : Expr} {pos pos' tpos : Pos} {td ty tv : TE}
end
section
variable {X : Cx} {pos : Pos}
end
section
variable {X : Cx} {pins : List (Addr × Obj)} {σ : St} {H : Hp} {s : Shared} {a : Addr} {y d : V} {u r : Value} {o : Option V} {A : Around} {E : Value → Shared → Prop}
end
section
variable {X : Cx} {o e f : Expr} {apos cpos : Pos} {td ty tx : TE}
end
section
variable {X : Cx} {pins : List (Addr × Obj)} {σ : St} {H : Hp} {s : Shared} {a : Addr} {kvs : List (Key × V)} {A : Around} {E : Value → Shared → Prop}
end
section
variable {X : Cx} {pins : List (Addr × Obj)} {σ : St} {H : Hp} {s : Shared} {a : Addr} {y : V} {u : Value} {A : Around} {E : Value → Shared → Prop}
end
section
variable {X : Cx}
end
section
variable {κ : Type} [DecidableEq κ]
end
end L2
set_option Elab.async false
set_option linter.all false
set_option maxRecDepth 100000
set_option maxHeartbeats 4000000
namespace L2
open PySem PySem.Spec PyProof.Rows
section
variable {M : Model} {A : Around} {E : Value → Shared → Prop} {s : Shared}
theorem mark_on {B : Heap} {l : List Env} {e L : Addr} {cls a0 fl : Value} {fr : Option Addr} {Q : Unit → Shared → Prop} (st : B.StaysIn s.heap) (hl : s.heap.FunFrames B l) (tr : s.heap.TracedAtW B e cls a0 fl) (hfr : fr = some L)
    (k : ∀ h', B.StaysIn h' → h'.FunFrames B l → h'.TracedAtW B e cls a0 (rawInt L) → s.heap.UpToSlots h' → Q () { s with heap := h' }) : wpAny M A (setFlight (.ref e) fr) Q E s := by
  subst hfr
  obtain ⟨oe, vs, T, oT, ts, q1, q2, q3, q4, q5, q6, q7, q8, q9⟩ := tr
  have big : 3 < ts.size := (Array.getElem?_eq_some_iff.mp q9).1
  have away : ∀ b, b ≠ T → (s.heap.update T (Obj.mapFields (·.setIfInBounds 3 (rawInt L)))).get? b = s.heap.get? b := fun b hb => Heap.get?_update_other _ _ (Ne.symm hb)
  have nT : ∀ b o, s.heap.get? b = some o → (∀ vs, o.data ≠ .fields vs) → b ≠ T := fun b o hb hn z => by
    rw [z, q7] at hb
    cases hb
    exact hn _ q8
  unfold setFlight
  refine wpAny_bind (wpAny_field q1 q3 q4 ?_)
  rw [if_pos (show (Value.ref T != Value.none) = true by simp)]
  show wpAny M A (setField (.ref T) 3 (rawInt L)) Q E s
  refine wpAny_setField q7 q8 big (k _ (fun b o hb => ?_) (hl.of_keeps fun b o hb hn => ⟨o, (away b (nT b o hb hn)).trans hb, rfl⟩) ?_ fun b o hb hn => ?_)
  · exact (away b fun z => by rw [z, q5] at hb; cases hb).trans (st b o hb)
  · exact ⟨oe, vs, T, _, _, (away e (Ne.symm q6)).trans q1, q2, q3, q4, q5, q6, Heap.get?_update_self _ q7 (Obj.isFreed_of_fields (Obj.data_mapFields q8 _)), Obj.data_mapFields q8 _, by simp [big]⟩
  · exact ⟨o.slots, (away b (nT b o hb hn)).trans hb⟩
def postX (M : Model) (A : Around) (E : Value → Shared → Prop) (use : Option (Value → Sem Unit)) (Q : Value → Shared → Prop) (acc : Value) (cenv : Env) (r : Result) (s' : Shared) : Prop :=
  match r with
  | .ok f => compPost M A E use Q acc cenv.locals (.ok f) s'
  | .error x => ∃ m, s'.heap.Ns cenv.locals m ∧ ∀ h', Heap.SameBut cenv.locals s'.heap h' → ∀ env' : Env, env'.frame = cenv.frame → wpAny M A (passOn "comprehension.variables-let-go" x env' : Sem Value) (fun _ _ => False) E { s' with heap := h' }
theorem comprX {env : Env} {e : Expr} {scope : Scope} {pos : Pos} {newAcc first : Sem Value} {g : Comprehension} {gs : List Comprehension} {cl : List (Str × Addr)} {use : Option (Value → Sem Unit)} {Q : Value → Shared → Prop}
    (hcl : clausesOf e = g :: gs) (hs : ∀ x, foldedSetIterable g.iter env x = pure x) (hclos : closureFor scope env = pure cl) (hkind : scope.kind = .function) (hnames : ∀ x ∈ scope.names, x.2 = .local → scope.names.lookup x.1 = some .local)
    (h : wpAny M A first (fun x s1 => wpAny M A (pyIter x) (fun it s2 => wpAny M A newAcc (fun acc s3 => wpAny M A (newFunctionEnv scope env.globals cl [] env.qual none .none (some env)) (fun cenv s4 => codeAny M A (.compStart e 0 it acc { cenv with scope := relabel scope env }) (postX M A E use Q acc cenv) s4) E s3) E s2) E s1) E s) :
    wpAny M A (comprehension e scope env pos newAcc false first use) Q E s := by
  unfold comprehension
  rw [hclos, hcl]
  refine wpAny_bind (wpAny_mono h (fun x s1 h1 => wpAny_bind (wpAny_standAt (wpAny_bind (wpAny_of_eq (hs x) (wpAny_bind (wpAny_holding (wpAny_mono h1 (fun it s2 h2 => wpAny_standIf (wpAny_bind (wpAny_mono h2 (fun acc s3 h3 => wpAny_bind (wpAny_pure (wpAny_bind (wpAny_mono h3 (fun cenv s4 h4 => ?_) fun _ _ z => z)))) fun _ _ z => z))) fun _ _ z => z))))))) fun _ _ z => z)
  dsimp only
  generalize hw : (scope.names.filter fun x => (x.2 == .local || x.2 == .cell) && x.1 != (".0" : Str)).reverse = vs
  have hv : ∀ x ∈ vs, x.2 = .local → Env.kindOf { cenv with scope := relabel scope env } x.1 = some .local := fun x hx hl => lookup_relabel_local (hnames x (by rw [← hw] at hx; exact (List.mem_filter.mp (List.mem_reverse.mp hx)).1) hl)
  refine wpAny_holding (wpAny_bind (wpAny_attempt (wpAny_holding (wpAny_run (codeAny_mono h4 fun r s' hr => ?_)))))
  cases r with
  | ok f =>
    cases use with
    | none =>
      obtain ⟨m, hn, hr⟩ := hr
      exact wpAny_bind (wpAny_holding (wpAny_comp_letGo (cenv := { cenv with scope := relabel scope env }) hkind _ s' m hv hn fun h' m' _ hs' => wpAny_pure (hr h' hs')))
    | some u =>
      refine wpAny_bind (wpAny_rule (wpAny_bind (wpAny_holding (wpAny_mono hr (fun _ s'' hr' => ?_) fun _ _ z => z))))
      obtain ⟨m, hn, hr'⟩ := hr'
      exact wpAny_bind (wpAny_comp_letGo (cenv := { cenv with scope := relabel scope env }) hkind _ s'' m (fun x hx hl => hv x ((List.mem_append.mp hx).elim List.mem_of_mem_drop List.mem_of_mem_take) hl) hn fun h' m' _ hs' => wpAny_pure (hr' h' hs'))
  | error x =>
    obtain ⟨m, hn, hr⟩ := hr
    exact wpAny_bind (wpAny_holding (wpAny_comp_letGo (cenv := { cenv with scope := relabel scope env }) hkind _ s' m hv hn fun h' m' _ hs' => wpAny_mono (hr h' hs' _ rfl) (fun _ _ f => f.elim) fun _ _ y => y))
end
theorem compLoopX {prog : Program} {w : World} {A : Around} {R : Result → Shared → Prop} {s : Shared} {elt target iter : Expr} {ifs : List Expr} {scope : Scope} {pos : Pos} {it acc : Value} {env : Env} {EE : Value → Shared → Prop} (hEE : EE = notedBy (model prog w) A env fun e s' => R (.error e) s') (I : Nat → Shared → Prop)
    (turn : ∀ n s, I n s → wpAny (model prog w) A (pyNext it) (fun r s₁ => match r with
      | none => R (.ok .next) s₁
      | some v => wpAny (model prog w) A (letOwnedTupleGo target it v) (fun _ s₁' => wpAny (model prog w) A (assign target env v) (fun _ s₂ =>
          wpAny (model prog w) A (forIn ifs true fun c r => if r = true then do let ok ← isTrue c env (eval c env); pure (ForInStep.yield ok) else pure (ForInStep.yield r)) (fun ok s₃ =>
            if ok = true then wpAny (model prog w) A (eval elt env) (fun x s₄ =>
              wpAny (model prog w) A (call (.builtin "list.append") [acc, x]) (fun _ s₅ => ∃ m, m < n ∧ I m s₅) EE s₄) EE s₃
            else ∃ m, m < n ∧ I m s₃) EE s₂) EE s₁') EE s₁) EE s)
    (n : Nat) (h : I n s) :
    codeAny (model prog w) A (.compLoop (.ListComp elt [⟨target, iter, ifs, 0⟩] scope pos) 0 it acc env) R s := by
  subst hEE
  refine codeAny_loop rfl I (fun n s hI => ?_) n h
  show wpAny _ A ((compTurn (.ListComp elt [⟨target, iter, ifs, 0⟩] scope pos) 0 it acc env).onRaise (fun y => do noteFrame y env; theTreesLotGoes y)) _ _ s
  refine wpAny_noted ?_
  rw [compTurn_list]
  refine wpAny_bind (wpAny_standAt (wpAny_bind (wpAny_mono (turn n s hI) (fun r s₁ h₁ => ?_) fun _ _ z => z)))
  cases r with
  | none => exact wpAny_pure h₁
  | some v =>
    refine wpAny_bind (wpAny_mono h₁ (fun _ s₁' h₁' => ?_) fun _ _ z => z)
    refine wpAny_bind (wpAny_mono h₁' (fun _ s₂ h₂ => wpAny_bind (wpAny_mono h₂ (fun ok s₃ h₃ => ?_) fun _ _ z => z)) fun _ _ z => z)
    cases ok with
    | false => exact wpAny_pure ⟨rfl, h₃⟩
    | true =>
      exact wpAny_bind (wpAny_bind (wpAny_mono h₃ (fun x s₄ h₄ => wpAny_bind (wpAny_mono h₄ (fun _ s₅ h₅ => wpAny_pure (wpAny_pure ⟨rfl, h₅⟩)) fun _ _ z => z)) fun _ _ z => z))
def Letby (X : Cx) (R : St → Value → Hp → Prop) : Prop := ∀ (pins : List (Addr × Obj)) (σ : St) (H' : Hp) (s' : Shared) (e : Addr) (cls : Value), Inv X pins σ H' s' → Trc s'.heap H' X.s₀.heap e cls (rawInt X.env.locals) → R σ cls H' →
  ∀ (what : String) (cenv : Env), cenv.frame = X.env.frame → wpAny (model X.prog X.w) X.A (passOn what (.ref e) cenv : Sem Value) (fun _ _ => False) X.xe s'
theorem letby_def {P : Program} {w : World} {K : PySem.W.Frag} {mg : Str → Option Value} {base : Heap} {N : List Str} {qual : Str} {scope : Scope} {f : Addr} {cd : Value} {A : Around} {outer : List Env} {s : Shared} {H : Hp} {E : XK} :
    Letby (cxOf (CXW P w) P w K mg base N qual scope f cd A outer s H E) fun _ cls H' => E cls none H' := by
  intro pins σ H1 s1 e cls I tr r what cenv hcf
  have sub : ∀ b ∈ frs outer, b ∈ frs (envOfC qual scope s.heap.objs.size f cd :: outer) := fun b hb => by
    unfold frs
    rw [List.filterMap_cons]
    exact List.mem_cons_of_mem _ hb
  have F0 : Fli P w (envOfC qual scope s.heap.objs.size f cd :: outer) H s e cls (rawInt s.heap.objs.size) H1 s1 := ⟨I.os, I.bare, I.base.mono sub (fun _ z => z), I.hok, tr⟩
  obtain ⟨B, a0, ⟨b1, b2, b3, b4⟩, st⟩ := fli_of F0 I.stack I.stkFree
  obtain ⟨_, oe, vs, T, _, _, h1, _, h3, h4, _⟩ := id tr
  have go : wpAny (model P w) (A.deeper (envOfC qual scope s.heap.objs.size f cd)) (do setFlight (.ref e) cenv.frame; throw (.ref e) : Sem Value) (fun _ _ => False) (cxOf (CXW P w) P w K mg base N qual scope f cd A outer s H E).xe s1 := by
    refine wpAny_bind (mark_on (L := s.heap.objs.size) b1 b3 b4 (hcf.trans rfl) fun h' k1 k2 k3 u => wpAny_throw ?_)
    show wpAny _ _ (leaving (envOfC qual scope s.heap.objs.size f cd) (.ref e)) _ _ _
    unfold leaving
    refine wpAny_bind (wpAny_noteFrame_againW (L := s.heap.objs.size) rfl k3 ?_)
    refine wpAny_landsW (L := s.heap.objs.size) ⟨k1, b2, k2, k3⟩ fun h'' g u2 => ?_
    have F2 := st h'' .none g.1 g.2.2.2 (u.trans u2)
    refine ⟨e, cls, H1, rfl, ⟨F2.os, F2.bare, ⟨fun b o q n hb hx => ?_, fun b o q n hb hx => ?_, F2.un.free, F2.un.there, F2.un.tups, F2.un.frzs, F2.un.tbls⟩, F2.hok, F2.tr⟩, r⟩
    · refine F2.un.keep b o q n (fun z => ?_) hx
      unfold frs at z hb
      rw [List.filterMap_cons] at z
      rcases List.mem_cons.mp z with z | z
      · exact absurd (Heap.lt_size q) (by rw [z]; exact Nat.lt_irrefl _)
      · exact hb z
    · exact F2.un.any q n hx
  unfold PySem.passOn
  refine wpAny_bind (wpAny_field h1 h3 h4 ?_)
  rw [if_neg (show ¬ ((Value.ref T == Value.none) = true) by simp)]
  first
    | exact go
    | exact wpAny_bind (wpAny_pure go)
def tCompX (wi : TI) (g : TG) (tc : TT) (te : (St → Value → Hp → Prop) → TE) (R : St → Value → Hp → Prop) (ix : List (Option Nat)) : TE := fun σ H Q => wi σ H fun J H1 => CompRun J g tc (te fun _ cls H' => R σ cls H') (ix.map (pick σ)) H1 Q
theorem comp_blockX {X : Cx} {tg iter elt : Expr} {ifs : List Expr} {scope : Scope} {pos : Pos} {g : TG} {tc : TT} {te : (St → Value → Hp → Prop) → TE} {R : Value → Hp → Prop} {N' : List Str} {ix : List (Option Nat)} {pins : List (Addr × Obj)} {σ : St} {s2 : Shared} {itv : Value} {Q : VK} {cl : List (Str × Addr)}
    {RR : Value → Env → Result → Shared → Prop} (hst : X.stack = X.env :: X.outer) (hfr : X.env.frame = some X.env.locals) (hex0 : X.ex = []) (hc : X.calm = true) (K : CompOk X.env.scope scope X.N N' ix) (e2 : ∀ x c, cl.lookup x = some c → X.env.cells.lookup x = some c) (e3 : ∀ x, (x, NameKind.free) ∈ scope.names → ∃ c, cl.lookup x = some c)
    (hg : ∀ cl C s2 H2 ex, PG (X.comp N' scope cl C s2 H2 ex) tg g) (ht : ∀ cl C s2 H2 ex, PIfs (X.comp N' scope cl C s2 H2 ex) ifs tc)
    (he : ∀ cl C s2 H2 ex W R, Flies ((X.comp N' scope cl C s2 H2 ex).wish W) R → PE ((X.comp N' scope cl C s2 H2 ex).wish W) elt (te R))
    (h2 : PIE X pins σ tg (fun J H1 => CompRun J g tc (te fun _ cls H' => R cls H') (ix.map (pick σ)) H1 Q) itv s2)
    (hRR : ∀ H2 fp C D cenv σ3 H3 s4, cenv.locals = C → Inv X pins σ H2 s2 → (∀ b ∈ fp, FpOk X pins H2 b) → s2.heap.objs.size ≤ C → Inv (X.comp N' scope cl C s2 H2 fp) [] σ3 H3 s4 → Q (.ref D) H3 → RR (.ref D) cenv (.ok .next) s4)
    (hRX : ∀ H2 fp C D cenv σ3 H3 s4 e cls, cenv.locals = C → cenv.frame = X.env.frame → Inv X pins σ H2 s2 → (∀ b ∈ fp, FpOk X pins H2 b) → s2.heap.objs.size ≤ C → Inv (X.comp N' scope cl C s2 H2 fp) [] σ3 H3 s4 → Trc s4.heap H3 X.s₀.heap e cls (rawInt X.env.locals) → R cls H3 → RR (.ref D) cenv (.error (.ref e)) s4) :
    wpAny (model X.prog X.w) X.A (newList []) (fun acc s₃ => wpAny (model X.prog X.w) X.A (newFunctionEnv scope X.env.globals cl [] X.env.qual none .none (some X.env)) (fun cenv s₄ =>
      codeAny (model X.prog X.w) X.A (.compStart (.ListComp elt [⟨tg, iter, ifs, 0⟩] scope pos) 0 itv acc { cenv with scope := relabel scope X.env }) (RR acc cenv) s₄) X.xe s₃) X.xe s2 := by
  obtain ⟨it, fp, tn, J, H2, rfl, I2, T, st2, f2, q⟩ := h2
  refine wpAny_newObj_type (wpAny_newFunctionEnv K.nocell (by intro y hy; simp at hy) (fun h1 hns1 hsb1 => ?_) K.kind)
  dsimp only at hns1 hsb1 ⊢
  generalize hP : s2.heap.push { cls := .type "list", dict := none, data := .seq ([] : List Value).toArray } = P2 at hns1 hsb1 ⊢
  have hCs : P2.objs.size = s2.heap.objs.size + 1 := by rw [← hP, Heap.size_push]
  have hC : s2.heap.objs.size ≤ P2.objs.size := by omega
  have hDC : s2.heap.objs.size ≠ P2.objs.size := by omega
  have old : ∀ b o, s2.heap.get? b = some o → h1.get? b = some o := fun b o e =>
    hsb1.extBut b o (Nat.ne_of_lt (Nat.lt_of_lt_of_le (Heap.lt_size e) hC)) (Heap.get?_push_of_some _ (hP ▸ Heap.get?_push_of_some _ e))
  have hacc : h1.get? s2.heap.objs.size = some { cls := .type "list", dict := none, data := .seq ([] : List Value).toArray } :=
    hsb1.extBut _ _ hDC (Heap.get?_push_of_some _ (hP ▸ Heap.get?_push_size _ rfl))
  have hD : H2 s2.heap.objs.size = none := I2.hok.fresh (Nat.le_refl _)
  have hCn : H2 P2.objs.size = none := I2.hok.fresh hC
  obtain ⟨W, ⟨m0, w0⟩, turn⟩ := q s2.heap.objs.size hD
  have hex : ∀ b ∈ fp, b < s2.heap.objs.size := fun b hb => by
    obtain ⟨o, e, _⟩ := T.obj 0 _ st2 b hb
    exact Heap.lt_size e
  have YOk := comp_ok (cl := cl) (C := P2.objs.size) (ex := fp) I2 K e2 e3 hC f2 hex
  have hok1 : HOk X.prog X.w (upd H2 s2.heap.objs.size (.lst [])) h1 := I2.hok.laid old (Nat.le_refl _) ⟨Nat.zero_le _, [], 0, .nil, hacc⟩
  have IY : Inv (X.comp N' scope cl P2.objs.size s2 H2 fp) [] (ix.map (pick σ)) (upd H2 s2.heap.objs.size (.lst [])) { s2 with heap := h1, toks := s2.toks + ([] : List (Str × Value)).length } := by
    refine ⟨YOk, rfl, I2.bare, ?_, ⟨_, hns1, fun i x v e1 e4 e5 => ?_⟩, fun x c e => ?_, ?_, fun x c e => ?_, fun p hp => absurd (show p ∈ ([] : List (Addr × Obj)) from hp) (by simp), hok1, ?_⟩
    · exact (Un.laid old (Nat.le_refl _) hD).mono (fun _ z => z) (fun _ z => z)
    · rw [List.getElem?_map] at e4
      cases e6 : ix[i]? with
      | none => rw [e6] at e4; cases e4
      | some o =>
        rw [e6] at e4
        cases o with
        | none => cases (Option.some.inj e4)
        | some j =>
          have e7 : σ[j]? = some (some v) := pick_some (Option.some.inj e4)
          obtain ⟨n1, n2⟩ := K.src i j x e1 e6
          have hm := PySem.mem_of_lookup n2
          have kx := K.fr _ hm rfl
          obtain ⟨m, hn, hl⟩ := I2.loc
          obtain ⟨u, r, l⟩ := hl j x v n1 e7 (kx.elim (fun z => .inr (.inl z)) fun z => .inr (.inr z))
          refine ⟨u, r, .inr ⟨?_, ?_⟩⟩
          · exact relabel_free n2
          · rcases l with ⟨k1, _⟩ | ⟨_, c, hc1, hc2⟩
            · exfalso
              have k1' : X.env.scope.names.lookup x = some .local := k1
              rcases kx with z | z
              · rw [k1'] at z; cases z
              · rw [k1'] at z; cases z
            · obtain ⟨c', hc'⟩ := e3 x hm
              have e8 := e2 x c' hc'
              rw [hc1] at e8
              cases e8
              obtain ⟨o, ho, hd⟩ := hc2
              exact ⟨c, hc', o, old _ _ ho, hd⟩
    · obtain ⟨v, o, ho, hd⟩ := I2.cell x c (e2 x c e)
      exact ⟨v, o, old _ _ ho, hd⟩
    · show upd H2 s2.heap.objs.size (.lst []) P2.objs.size = none
      rw [upd_ne (Ne.symm hDC)]
      exact hCn
    · obtain ⟨v, z⟩ := I2.cell x c (e2 x c e)
      rw [upd_ne (Nat.ne_of_lt z.lt)]
      exact I2.freeC x c (e2 x c e)
    · rw [List.length_map]
      exact K.len
  have hnf : ∀ b ∈ fp, b ≠ P2.objs.size := fun b hb => Nat.ne_of_lt (Nat.lt_of_lt_of_le (hex b hb) hC)
  have stat : ∀ {H' : Hp}, (∀ b ∈ fp, H' b = none) → ∀ b ∈ fp, FpOk (X.comp N' scope cl P2.objs.size s2 H2 fp) [] H' b := fun hn b hb =>
    ⟨hn b hb, hnf b hb, YOk.exfs b hb, .inl hb, fun x c e => (f2 b hb).2.2.2.2.1 x c (e2 x c e), fun p hp => absurd (show p ∈ ([] : List (Addr × Obj)) from hp) (by simp)⟩
  generalize hcv : ({ scope := scope, locals := P2.objs.size, globals := X.env.globals, cells := cl, qual := X.env.qual, func := none, code := X.env.code, frame := X.env.frame, builtins := X.env.builtins } : Env) = cv
  have hcl1 : cv.locals = P2.objs.size := by rw [← hcv]
  have hcl2 : cv.frame = X.env.frame := by rw [← hcv]
  have loop : ∀ s₃ : Shared, s₃ = { s2 with heap := h1, toks := s2.toks + ([] : List (Str × Value)).length } →
      codeAny (model X.prog X.w) X.A (.compLoop (.ListComp elt [⟨tg, iter, ifs, 0⟩] scope pos) 0 (.ref it) (.ref s2.heap.objs.size) (compEnvC scope cl P2.objs.size X.env))
        (RR (.ref s2.heap.objs.size) cv) s₃ := by
    rintro s₃ rfl
    obtain ⟨EE, hEE⟩ : ∃ EE, EE = notedBy (model X.prog X.w) X.A (compEnvC scope cl P2.objs.size X.env) fun e s' => RR (.ref s2.heap.objs.size) cv (.error e) s' := ⟨_, rfl⟩
    have fly : Flies ((X.comp N' scope cl P2.objs.size s2 H2 fp).wish EE) fun _ cls H' => R cls H' := by
      intro pins' σ' H1' s1' e cls H' s' I0 F r
      have I1 : Inv (X.comp N' scope cl P2.objs.size s2 H2 fp) pins' σ' H1' s1' := I0.unwish
      have F : Fli X.prog X.w X.stack H1' s1' e cls .none H' s' := F
      have J : Inv (X.comp N' scope cl P2.objs.size s2 H2 fp) pins' σ' H' s' := I1.fly F
      obtain ⟨B, a0, fl, st⟩ := fli_of F J.stack J.stkFree
      have frm : X.A.frames = some (X.env :: X.outer) := by rw [← hst]; exact I2.ok.frames
      rw [hst] at fl
      subst hEE
      show wpAny _ X.A (noteFrame (.ref e) X.env) _ _ s'
      refine wpAny_looks_onW frm hfr fl fun h4 g4 u4 => ?_
      have F4 := st h4 (rawInt X.env.locals) g4.1 g4.2.2.2 u4
      have J4 : Inv (X.comp N' scope cl P2.objs.size s2 H2 fp) pins' σ' H' { s' with heap := h4 } := I1.fly F4
      refine hRX H2 fp P2.objs.size s2.heap.objs.size cv σ' H' { s' with heap := h4 } e cls hcl1 hcl2 I2 f2 hC (J4.pins_of fun p hp => nomatch hp) ?_ r
      have new0 : ∀ b, s1'.heap.get? b = none → X.s₀.heap.get? b = none := fun b hb => by
        cases q : X.s₀.heap.get? b with
        | none => rfl
        | some o =>
          by_cases hbf : b ∈ fp
          · rcases (f2 b hbf).2.2.2.1 with z | z
            · rw [hex0] at z; cases z
            · exact absurd (Nat.lt_of_lt_of_le (Heap.lt_size q) z) (Nat.lt_irrefl _)
          · obtain ⟨o1, q1⟩ := I2.base.there b o q (by rw [hex0]; simp)
            obtain ⟨o2, q2⟩ := I1.base.there b o1 q1 hbf
            rw [hb] at q2; cases q2
      obtain ⟨a0', oe, vs, T', oT, ts, k1, k2, k3, k4, k5, k6, k7, k8, k9, k11, k12⟩ := F4.tr
      exact ⟨a0', oe, vs, T', oT, ts, k1, k2, k3, k4, k5, k6, k7, k8, k9, new0 _ k11, new0 _ k12⟩
    refine compLoopX hEE (fun n s' => ∃ i ys σ' H', Inv (X.comp N' scope cl P2.objs.size s2 H2 fp) [] σ' H' s' ∧ tn i s'.heap ∧ (∀ b ∈ fp, H' b = none) ∧ W i n ys σ' H') ?_ m0
      ⟨0, [], _, _, IY, T.keep _ _ _ st2 (fun b hb o e => old b o e), fun b hb => ?_, w0⟩
    · rintro n s3 ⟨i, ys, σ3, H3, I3, st3, fr3, w3⟩
      obtain ⟨hDl, tt⟩ := turn i n ys σ3 H3 w3
      rcases tt with ⟨stop, qn⟩ | ⟨go, step⟩
      · refine wpAny_mono (T.done (X.comp N' scope cl P2.objs.size s2 H2 fp) rfl rfl rfl hc i [] s3 σ3 H3 (fun _ _ => False) I3 (stat fr3) st3 stop) (fun r s4 ⟨hr, I4⟩ => ?_) fun _ _ z => z.elim
        subst hr
        exact hRR H2 fp P2.objs.size s2.heap.objs.size cv σ3 H3 s4 hcl1 I2 f2 hC I4 qn
      · refine wpAny_mono (T.item (X.comp N' scope cl P2.objs.size s2 H2 fp) rfl rfl rfl hc i [] s3 σ3 H3 (fun _ _ => False) I3 (stat fr3) st3 go) (fun r s4 ⟨u, hr, h4⟩ => ?_) fun _ _ z => z.elim
        subst hr
        refine wpAny_mono h4 (fun _ s5 ⟨x, H5, I5, r5, y5, st5, fr5⟩ => ?_) fun _ _ z => z.elim
        have I5' := I5.pinned (stat fr5) (T.obj _ _ st5)
        refine wpAny_mono (hg cl P2.objs.size s2 H2 fp _ s5 σ3 H5 x u _ I5' r5 (step x H5 y5)) (fun _ s6 ⟨σ6, H6, I6, q6⟩ => ?_) fun _ _ z => False.elim z
        refine wpAny_mono (ht cl P2.objs.size s2 H2 fp _ s6 σ6 H6 _ I6 q6) (fun b s7 ⟨H7, I7, q7⟩ => ?_) fun _ _ z => False.elim z
        have again : ∀ {s8 : Shared} {H8 : Hp} {ys' : List V} {m' : Nat}, Inv (X.comp N' scope cl P2.objs.size s2 H2 fp) ([] ++ pinsAt fp s5.heap) σ6 H8 s8 → m' < n → W (i + 1) m' ys' σ6 H8 →
            ∃ m, m < n ∧ ∃ i ys σ' H', Inv (X.comp N' scope cl P2.objs.size s2 H2 fp) [] σ' H' s8 ∧ tn i s8.heap ∧ (∀ b ∈ fp, H' b = none) ∧ W i m ys σ' H' := fun {s8 H8 ys' m'} I8 hm w8 => by
          refine ⟨m', hm, i + 1, ys', σ6, H8, I8.unpinned, T.keep _ _ _ st5 fun b hb o e => (I8.pin (b, o) (List.mem_append_right _ (List.mem_append_right _ (mem_pinsAt hb e)))).1, fun b hb => ?_, w8⟩
          obtain ⟨o, e, d⟩ := T.obj _ _ st5 b hb
          exact (I8.pin (b, o) (List.mem_append_right _ (List.mem_append_right _ (mem_pinsAt hb e)))).2.1
        cases b with
        | false =>
          obtain ⟨m', hm, w7⟩ : ∃ m', m' < n ∧ W (i + 1) m' ys σ6 H7 := q7
          exact again I7 hm w7
        | true =>
          have q7' : te (fun _ cls H' => R cls H') σ6 H7 _ := q7
          show wpAny _ _ (eval elt (compEnvC scope cl P2.objs.size X.env)) _ _ _
          refine wpAny_mono (he cl P2.objs.size s2 H2 fp EE _ fly _ s7 σ6 H7 _ (I7.wish EE) q7') (fun yv s8 ⟨y, H8, I8, r8, hD8, hz8, m', hm, w8⟩ => ?_) fun _ _ z => z
          refine wpAny_mono (mt_append (X := X.comp N' scope cl P2.objs.size s2 H2 fp) _ s8 σ6 H8 (.ref s2.heap.objs.size) [y] (.ref s2.heap.objs.size) [yv] (fun _ H9 => H9 = upd H8 s2.heap.objs.size (.lst (ys ++ [y]))) I8.unwish rfl (.cons r8 .nil)
            ⟨_, ys, y, rfl, rfl, hD8, hz8, rfl⟩) (fun _ s9 ⟨_, H9, I9, _, e9⟩ => ?_) fun _ _ z => False.elim z
          subst e9
          exact again I9 hm w8
    · show upd H2 s2.heap.objs.size (.lst []) b = none
      rw [upd_ne (Nat.ne_of_lt (hex b hb))]
      exact (f2 b hb).1
  have hcc : codeAny (model X.prog X.w) X.A (.compStart (.ListComp elt [⟨tg, iter, ifs, 0⟩] scope pos) 0 (.ref it) (.ref s2.heap.objs.size) (compEnvC scope cl P2.objs.size X.env)) (RR (.ref s2.heap.objs.size) cv) { s2 with heap := h1, toks := s2.toks + ([] : List (Str × Value)).length } :=
    codeAny_compStart_list (loop _ rfl) (T.self X.A 0 _ _ _ (T.keep _ _ _ st2 (fun b hb o e => old b o e)) (loop _ rfl))
  subst hcv
  exact hcc
theorem ps_setCX {X : Cx} {tg iter elt : Expr} {ifs : List Expr} {scope : Scope} {pos spos py : Pos} {y : Str} {wi : TI} {g : TG} {tc : TT} {te : (St → Value → Hp → Prop) → TE} {R : St → Value → Hp → Prop} (N' : List Str) (ix : List (Option Nat)) (osc : Scope) (N : List Str) {i : Nat} (nd : X.N.Nodup) (hiy : X.N[i]? = some y) (hxy : Loc X.env.scope y)
    (hst : X.stack = X.env :: X.outer) (hfr : X.env.frame = some X.env.locals) (hex0 : X.ex = []) (hR : Letby X R)
    (hc : X.calm = true) (hi : PI X tg iter wi) (ok : compOk osc scope N N' ix = true)
    (hg : ∀ cl C s2 H2 ex, PG (X.comp N' scope cl C s2 H2 ex) tg g) (ht : ∀ cl C s2 H2 ex, PIfs (X.comp N' scope cl C s2 H2 ex) ifs tc)
    (he : ∀ cl C s2 H2 ex W R, Flies ((X.comp N' scope cl C s2 H2 ex).wish W) R → PE ((X.comp N' scope cl C s2 H2 ex).wish W) elt (te R))
    (hsc : X.env.scope = osc := by rfl) (hN : X.N = N := by rfl) (hs : ∀ x, foldedSetIterable iter X.env x = pure x := by intro _; rfl)
    (hsw : swapsWith (.ListComp elt [⟨tg, iter, ifs, 0⟩] scope pos) (some (.Name y py)) spos.line X.env = pure true := by rfl) (hf : X.fn y = true ∨ X.env.scope.names.lookup y = some .local := by first | exact .inl rfl | exact .inr rfl | assumption) :
    PS X (.Assign [.Name y py] (.ListComp elt [⟨tg, iter, ifs, 0⟩] scope pos) spos) (tAsg (tCompX wi g tc te R ix) (gName i)) := by
  intro pins s σ H D I h
  have K0 := compOk_of ok
  have K : CompOk X.env.scope scope X.N N' ix := by rw [hsc, hN]; exact K0
  obtain ⟨cl, hclos, e2, e3⟩ := closure_of (scope := scope) (env := X.env) (fun y hy hf => I.ok.has y.1 (K.fr y hy hf))
  rw [exec_Assign_Name_used _ _ _ _ hsw]
  refine wpAny_bind (wpAny_standAt (wpAny_bind ?_))
  show wpAny _ X.A (do let _ ← comprehension (.ListComp elt [⟨tg, iter, ifs, 0⟩] scope pos) scope X.env _ (newList []) false (eval iter X.env) (some (assign (.Name y py) X.env))) _ _ s
  refine wpAny_bind (wpAny_mono (comprX (use := some (assign (.Name y py) X.env)) (Q := fun _ s' => SP X pins D .next s') rfl hs hclos K.kind K.names
    (wpAny_mono (hi pins s σ H _ I h) (fun v s1 h1 => thn h1 fun itv s2 h2 => ?_) fun _ _ e => e)) (fun _ s' hq => wpAny_pure (wpAny_pure hq)) fun _ _ e => e)
  refine comp_blockX hst hfr hex0 hc K e2 e3 hg ht he h2 (fun H2 fp C L cenv σ3 H3 s4 hcC I2 f2 hC I4 qn => ?_) fun H2 fp C L cenv σ3 H3 s4 e cls hcC hcF I2 f2 hC I4 tr r => ?_
  · subst hcC
    have I5 : Inv X pins σ H3 s4 := comp_out I2 f2 hC I4 (Heap.SameBut.refl ..)
    obtain ⟨m, hn, _⟩ := I4.loc
    have hn : s4.heap.Ns cenv.locals m := hn
    have fC : FpOk X pins H3 cenv.locals := I2.fpOk hC I4.free
    show wpAny _ X.A (assign (.Name y py) X.env (.ref L)) _ _ s4
    refine wpAny_assign_Name (store_ok2 I5 nd hiy hxy (v := .ref L) rfl (fun s5 I6 hch => ?_) hf)
    obtain ⟨a, sb, ha⟩ := hch
    have nCa : cenv.locals ≠ a := by
      rcases ha with z | ha
      · rw [z]; exact fC.2.1
      · exact fun z => fC.2.2.2.2.1 y a ha z.symm
    refine ⟨m, hn.sameBut sb nCa, fun h' sb' => ⟨_, H3, ?_, qn⟩⟩
    obtain ⟨f0, f1, f2', f3, f4, f5⟩ := fC
    exact I6.turned (t' := s5.toks) (fun b o hb e => (sb'.2 b hb).trans e) f0 f1 f3 f4 f5
  · subst hcC
    obtain ⟨m, hn, _⟩ := I4.loc
    have hn : s4.heap.Ns cenv.locals m := hn
    refine ⟨m, hn, fun h' sb env' hf' => hR pins σ H3 { s4 with heap := h' } e cls (comp_out I2 f2 hC I4 sb) ?_ r _ env' (hf'.trans hcF)⟩
    obtain ⟨oC, es, ep, hoC, hdC, _⟩ := hn
    obtain ⟨a0, oe, vs, T, oT, ts, k1, k2, k3, k4, k5, k6, k7, k8, k9, k11, k12⟩ := tr
    have ne : ∀ b o vs, s4.heap.get? b = some o → o.data = .fields vs → b ≠ cenv.locals := fun b o vs h1 h2 z => by
      rw [z, hoC] at h1
      cases h1
      rw [hdC] at h2
      cases h2
    exact ⟨a0, oe, vs, T, oT, ts, (sb.2 e (ne e oe vs k1 k3)).trans k1, k2, k3, k4, k5, (sb.2 T (ne T oT ts k6 k7)).trans k6, k7, k8, k9, k11, k12⟩
end L2
set_option Elab.async false
set_option linter.all false
set_option maxRecDepth 100000
set_option maxHeartbeats 4000000
namespace L2
open PySem PySem.Spec PyProof.Rows
section
variable {X : Cx} {a b o : Expr} {ta tb to : TE} {pos : Pos}
def PEg (X : Cx) (e : Expr) (t : TE) : Prop :=
  ∀ (pins : List (Addr × Obj)) (s : Shared) (σ : St) (H : Hp) (Q : VK), Inv X pins σ H s → t σ H Q → wpAny (model X.prog X.w) X.A (eval e X.env) (fun u s' => 1 ≤ s'.toks ∧ EP X pins σ Q u s') X.xe s
theorem peg_mod (ha : PE X a ta) (hb : PE X b tb) : PEg X (.BinOp a .Mod b pos) (tOp rModI ta tb) := by
  intro pins s σ H Q I h
  refine wpAny_BinOp (binT ha hb I h fun v u s2 x y H2 I2 rx ry q => ?_)
  obtain ⟨i, j, rfl, rfl, hc, q⟩ := q
  obtain ⟨t, rfl⟩ := rx
  obtain ⟨t', rfl⟩ := ry
  have h1 : (0 : Int) < j := hc
  refine mod_int' (by omega) ⟨Nat.le_add_left _ _, .int (i % j), H2, I2.tok _, ⟨_, by rw [Int.fmod_eq_emod_of_nonneg i (by omega)]⟩, q⟩
theorem peg_ix {r : R2} (hr : IxR X r) (ha : PE X a ta) (hb : PEg X b tb) (hs : PlainIx b) : PEg X (.Subscript a b pos) (tOp r ta tb) := by
  intro pins s σ H Q I h
  refine Subscript_ (thn (ha pins s σ H _ I h) fun v s1 ⟨x, H1, I1, r1, q1⟩ => thn (hb pins s1 σ H1 _ I1 q1) fun u s2 ⟨tk, y, H2, I2, r2, q2⟩ => ?_)
  exact wpAny_mono (wpAny_toks_of tk (hr a b pins s2 σ H2 x y v u Q I2 r1 r2 q2 (hs _ _))) (fun _ _ z => z) fun _ _ z => z.2
def tRepl (y z : Str) (to : TE) : TE := fun σ H Q => to σ H fun v H1 => ∃ x, v = .str x ∧ x.length ≤ 1048576 ∧ Q (.str (Txt.replace x y z)) H1
theorem pe_replace {y z : Str} {j1 j2 : Nat} {p1 p2 apos cpos : Pos} (ho : PEg X o to) (hyz : (y == z) = false := by decide +kernel) (hz : z.length ≤ 14 := by decide +kernel)
    (hbase : attributeBase o "replace" X.env (eval o X.env) = eval o X.env := by rfl) (hline : (apos.endLine == cpos.line) = true := by rfl) :
    PE X (.Call (.Attribute o "replace" apos) [.Constant (.str y) j1 p1, .Constant (.str z) j2 p2] [] cpos) (tRepl y z to) := by
  intro pins s σ H Q I h
  refine wpAny_Call_method_late hbase rfl hline rfl (thn (ho pins s σ H _ I h) fun v s1 ⟨tk, x, H1, I1, r1, x', e1, hx, q1⟩ => ?_)
  subst e1
  obtain ⟨t, rfl⟩ := r1
  refine ⟨"str", "str.replace", F.plainAttrs_str, F.slot_str_replace, F.type_str_replace, typeIs_str s1 x' t, (fun _ e => nomatch e), ?_⟩
  refine Calls.callWith_builtin rfl (Calls.evalArgs_plain ?_)
  show wpAny _ _ (spliced ((false, eval (.Constant (.str y) j1 p1) X.env) :: backTo cpos (starEach [.Constant (.str z) j2 p2] X.env))) _ _ s1
  refine Calls.spliced_cons (Calls.Constant_str ?_)
  show wpAny _ _ (spliced ((false, eval (.Constant (.str z) j2 p2) X.env) :: backTo cpos (starEach [] X.env))) _ _ _
  refine Calls.spliced_cons (Calls.Constant_str (Calls.spliced_nil ?_))
  have h1 : s1.toks ≠ 0 := by omega
  have h2 : s1.toks + 1 ≠ 0 := by omega
  have h3 : s1.toks ≠ s1.toks + 1 := by omega
  exact SC.replaceW h1 h2 h3 hyz hx hz fun t' k => ⟨.str _, H1, (I1.tok _).tok k, ⟨_, rfl⟩, q1⟩
end
end L2
set_option Elab.async false
set_option linter.all false
set_option maxRecDepth 100000
set_option maxHeartbeats 4000000
namespace Seek
open PySem L2 PyProof.Rows
def top (i : Nat) : Stmt := PySem.Challenge.pw_stairseek_k35_texts_that_write_no_table.main.body.getD i (.Pass ⟨0, 0, 0, 0⟩)
abbrev dIsWhole : Stmt := top 17
abbrev dAllWhole : Stmt := top 18
abbrev dNeverFalls : Stmt := top 19
abbrev dIsRow : Stmt := top 20
abbrev dShape : Stmt := top 21
abbrev dAtPlace : Stmt := top 22
abbrev dSorted : Stmt := top 23
abbrev dIsTable : Stmt := top 24
abbrev dNeedTable : Stmt := top 25
abbrev dTable : Stmt := top 37
abbrev dLaw : Stmt := top 46
abbrev dOdd : Stmt := top 42
abbrev dLCell : Stmt := top 35
abbrev dAsked : Stmt := top 44
abbrev dWCount : Stmt := top 28
abbrev dWNumber : Stmt := top 29
abbrev dShowRow : Stmt := top 30
abbrev dShowTable : Stmt := top 31
abbrev dReadRow : Stmt := top 32
abbrev dReadTable : Stmt := top 33
abbrev dWritten : Stmt := top 38
abbrev dMixed : Stmt := top 36
abbrev dLNumber : Stmt := top 39
abbrev dLSorted : Stmt := top 40
abbrev dWrites : Stmt := top 41
abbrev dGiven : Stmt := top 43
abbrev dBad : Stmt := top 45
open PySem L2 PyProof.Rows
def Row (H : Hp) (a : Addr) (ns : List Int) : Prop := H a = some (.lst (ns.map V.int))
def nfB (ns : List Int) : Bool := ((List.range (ns.length - 1)).map fun i => decide (ns.getD i 0 ≤ ns.getD (i + 1) 0)).all id
theorem Row.same {H H' : Hp} {a : Addr} {ns : List Int} (e : Same H H') (h : Row H a ns) : Row H' a ns := e _ _ h
theorem Row.sq {K : PySem.W.Frag} {H : Hp} {a : Addr} {ns : List Int} (h : Row H a ns) : SqL K H a (ns.map V.int) := SqL.of h
structure Blt (mg : Str → Option Value) : Prop where
  len : mg "len" = none
  all : mg "all" = none
  isinst : mg "isinstance" = none
  rng : mg "range" = none
  int : mg "int" = none
  bool : mg "bool" = none
  list : mg "list" = none
  enum : mg "enumerate" = none
  abs : mg "abs" = none
  max : mg "max" = none
  mr : ∃ t, mg "MOST_ROWS" = some (.int 6 t)
  mp : ∃ t, mg "MOST_PLACES" = some (.int 6 t)
theorem sl6 {n : Nat} (h : n ≤ 1000) : n ≤ sizeLine := Nat.le_of_lt (small1000 h)
section
variable {P : Program} {w : World} {K : PySem.W.Frag} {mg : Str → Option Value} {base : Heap}
def spIsWhole : Sp := fun vs H Q _ => ∃ i : Int, vs = [.int i] ∧ Q (.bl true) H
theorem sc_isWhole : FnScope ["thing"] ["thing"] (defScope dIsWhole) := ⟨rfl, rfl, rfl, by decide +kernel, rfl, by decide +kernel, by decide +kernel⟩
theorem ok_isWhole (T : Blt mg) (D : DefAt K mg "is_whole" dIsWhole ["thing"]) : FnAt P w K mg base 1 "is_whole" ["thing"] spIsWhole := by
  refine FnAt.of D sc_isWhole (fun vs H Q E h => ?_) (fun f cdv A outer s H vs Q E hr h => ?_)
  · obtain ⟨i, rfl, _⟩ := h
    rfl
  · obtain ⟨i, rfl, q⟩ := h
    refine ⟨_, pss_one (ps_ret (pe_and (pe_b call_isinst T.isinst boot_isinstance (pa_cons (pv 0) (pa_cons (pe_ty T.int boot_int) pa_nil)))
      (pe_one (pe_not (pe_b call_isinst T.isinst boot_isinstance (pa_cons (pv 0) (pa_cons (pe_ty T.bool boot_bool) pa_nil))))))), ?_⟩
    exact ⟨_, rfl, _, _, _, _, rfl, .int i, kit_ii _, _, rfl, iteT ⟨_, rfl, _, _, _, _, rfl, .int i, kit_ib _, _, rfl, q⟩⟩
def spAllWhole (K : PySem.W.Frag) : Sp := fun vs H Q _ => ∃ (a : Addr) (ns : List Int), vs = [.ref a] ∧ Row H a ns ∧ ns.length ≤ 1000 ∧ ∀ H', Same H H' → Q (.bl true) H'
theorem sc_allWhole : FnScope ["things"] ["things"] (defScope dAllWhole) := ⟨rfl, rfl, rfl, by decide +kernel, rfl, by decide +kernel, by decide +kernel⟩
theorem all_true {α : Type} (xs : List α) : (xs.map fun _ => true).all id = true := by simp
theorem ok_allWhole (T : Blt mg) (D : DefAt K mg "all_whole" dAllWhole ["things"]) (G1 : FnAt P w K mg base 1 "is_whole" ["thing"] spIsWhole) : FnAt P w K mg base 2 "all_whole" ["things"] (spAllWhole K) := by
  refine FnAt.of D sc_allWhole (fun vs H Q E h => ?_) (fun f cdv A outer s H vs Q E hr h => ?_)
  · obtain ⟨a, ns, rfl, _⟩ := h
    rfl
  · obtain ⟨a, ns, rfl, hR, hn, q⟩ := h
    have nd1 : (["thing"] : List Str).Nodup := by decide +kernel
    refine ⟨_, pss_one (ps_ret (pe_b (call_all rfl) T.all boot_all (pa_cons (pe_comp ["thing"] [none] (defScope dAllWhole) ["things"] rfl (pi_list (pv 0)) (by decide +kernel)
      (fun cl C s2 H2 ex => pg_c 0 nd1) (fun cl C s2 H2 ex => pifs_nil) (fun cl C s2 H2 ex => pe_f G1 hr (pa_cons (pv 0) pa_nil))) pa_nil))), ?_⟩
    refine ⟨_, rfl, a, rfl, ⟨_, hR.sq⟩, comp_map V.int (fun _ => .bl true) hR.sq (sl6 hn) (fun i hx H' Q' sm q' => ?_) fun D H' hD sm hDl => ?_⟩
    · exact ⟨_, rfl, i, rfl, q' _ (Same.refl _)⟩
    · refine ⟨D, ns.map fun _ => true, rfl, SqL.of ?_, ?_⟩
      · rw [hDl]
        simp [Function.comp]
      · rw [all_true]
        exact q H' sm
def spNF : Sp := fun vs H Q _ => ∃ (a : Addr) (ns : List Int), vs = [.ref a] ∧ Row H a ns ∧ ns.length ≤ 1000 ∧ ∀ H', Same H H' → Q (.bl (nfB ns)) H'
theorem sc_nf : FnScope ["numbers"] ["numbers"] (defScope dNeverFalls) := ⟨rfl, rfl, rfl, by decide +kernel, rfl, by decide +kernel, by decide +kernel⟩
theorem at_row {ns : List Int} {i : Nat} (h : i < ns.length) : atI (ns.map V.int) (i : Int) = some (.int (ns.getD i 0)) := atI_nat (by simp [h])
theorem ok_nf (T : Blt mg) (D : DefAt K mg "never_falls" dNeverFalls ["numbers"]) : FnAt P w K mg base 1 "never_falls" ["numbers"] spNF := by
  refine FnAt.of D sc_nf (fun vs H Q E h => ?_) (fun f cdv A outer s H vs Q E hr h => ?_)
  · obtain ⟨a, ns, rfl, _⟩ := h
    rfl
  · obtain ⟨a, ns, rfl, hR, hn, q⟩ := h
    have nd1 : (["k", "numbers"] : List Str).Nodup := by decide +kernel
    refine ⟨_, pss_one (ps_ret (pe_b (call_all rfl) T.all boot_all (pa_cons (pe_comp ["k", "numbers"] [none, some 0] (defScope dNeverFalls) ["numbers"] rfl
      (pi_range2 rfl T.rng (pa_cons pe_int (pa_cons (pe_b call_len_seq T.len boot_len (pa_cons (pv 0) pa_nil)) pa_nil))) (by decide +kernel)
      (fun cl C s2 H2 ex => pg_c 0 nd1) (fun cl C s2 H2 ex => pifs_nil)
      (fun cl C s2 H2 ex => pe_cmpR op_le (pe_ix (ixL K) (pv 1) (pe_op op_sub (pv 0) pe_int) (fun _ _ => rfl)) (pe_ix (ixL K) (pv 1) (pv 0) (fun _ _ => rfl)) (nomark _))) pa_nil))), ?_⟩
    refine ⟨_, rfl, a, _, rfl, .inl hR.sq, 1, _, rfl, ⟨by omega, by omega, ?_, ?_⟩, ?_⟩
    · omega
    · rw [List.length_map]
      omega
    · rw [List.length_map, show ((ns.length : Int) - 1).toNat = ns.length - 1 by omega]
      refine comp_range (fun i => .bl (decide (ns.getD i 0 ≤ ns.getD (i + 1) 0))) (sl6 (by omega)) (fun i hi H' Q' sm q' => ?_) fun D H' hD sm hDl => ?_
      · have h1 : (1 : Int) + (i : Int) - 1 = ((i : Nat) : Int) := by omega
        have h2 : (1 : Int) + (i : Int) = ((i + 1 : Nat) : Int) := by omega
        refine ⟨_, rfl, _, rfl, _, _, rfl, rfl, a, _, _, _, rfl, rfl, (hR.same sm).sq, (by rw [h1]; exact at_row (by omega)), _, rfl, _, rfl, a, _, _, _, rfl, rfl, (hR.same sm).sq, (by rw [h2]; exact at_row (by omega)), _, _, rfl, rfl, ?_⟩
        exact q' _ (Same.refl _)
      · refine ⟨D, (List.range (ns.length - 1)).map fun i => decide (ns.getD i 0 ≤ ns.getD (i + 1) 0), rfl, SqL.of ?_, q H' sm⟩
        rw [hDl]
        simp [Function.comp]
end
open PySem L2 PyProof.Rows
abbrev Prs := List (Addr × List Int)
structure Tab (H : Hp) (t : Addr) (prs : Prs) : Prop where
  l : H t = some (.lst (prs.map fun p => V.ref p.1))
  r : ∀ p ∈ prs, Row H p.1 p.2
theorem Tab.same {H H' : Hp} {t : Addr} {prs : Prs} (e : Same H H') (h : Tab H t prs) : Tab H' t prs := ⟨e _ _ h.l, fun p hp => (h.r p hp).same e⟩
theorem Tab.sq {K : PySem.W.Frag} {H : Hp} {t : Addr} {prs : Prs} (h : Tab H t prs) : SqL K H t (prs.map fun p => V.ref p.1) := SqL.of h.l
def Sm (prs : Prs) : Prop := prs.length ≤ 1000 ∧ ∀ p ∈ prs, p.2.length ≤ 1000
def rowB (ns : List Int) : Bool := decide (1 ≤ ns.length) && decide (ns.length ≤ 6)
def w0 (prs : Prs) : Nat := (prs.head?.map (·.2.length)).getD 0
def shB (prs : Prs) : Bool := (decide (1 ≤ prs.length) && decide (prs.length ≤ 6)) && ((prs.map fun p => rowB p.2).all id && (prs.map fun p => decide (p.2.length = w0 prs)).all id)
def col (prs : Prs) (j : Nat) : List Int := prs.map fun p => p.2.getD j 0
def srB (prs : Prs) : Bool := (prs.map fun p => nfB p.2).all id && ((List.range (w0 prs)).map fun j => nfB (col prs j)).all id
def tabB (prs : Prs) : Bool := shB prs && srB prs
theorem map_bl {α : Type} (xs : List α) (f : α → Bool) : xs.map (fun x => V.bl (f x)) = (xs.map f).map V.bl := by simp [Function.comp]
theorem dec_nat {i j : Nat} : decide (V.int (i : Int) = V.int (j : Int)) = decide (i = j) := by
  rw [decide_eq_decide]
  constructor
  · intro h
    injection h with h
    omega
  · rintro rfl
    rfl
theorem head_at {prs : Prs} (h : 1 ≤ prs.length) : ∃ p, prs.head? = some p ∧ p ∈ prs ∧ prs[0]? = some p := by
  cases prs with
  | nil => simp at h
  | cons p r => exact ⟨p, rfl, by simp, rfl⟩
section
variable {P : Program} {w : World} {K : PySem.W.Frag} {mg : Str → Option Value} {base : Heap}
def spIsRow : Sp := fun vs H Q _ => ∃ (a : Addr) (ns : List Int), vs = [.ref a] ∧ Row H a ns ∧ ns.length ≤ 1000 ∧ ∀ H', Same H H' → Q (.bl (rowB ns)) H'
theorem sc_isRow : FnScope ["thing"] ["thing"] (defScope dIsRow) := ⟨rfl, rfl, rfl, by decide +kernel, rfl, by decide +kernel, by decide +kernel⟩
theorem ok_isRow (T : Blt mg) (D : DefAt K mg "is_row" dIsRow ["thing"]) (G : FnAt P w K mg base 2 "all_whole" ["things"] (spAllWhole K)) : FnAt P w K mg base 3 "is_row" ["thing"] spIsRow := by
  refine FnAt.of D sc_isRow (fun vs H Q E h => ?_) (fun f cdv A outer s H vs Q E hr h => ?_)
  · obtain ⟨a, ns, rfl, _⟩ := h
    rfl
  · obtain ⟨a, ns, rfl, hR, hn, q⟩ := h
    obtain ⟨tk, mp⟩ := T.mp
    refine ⟨_, pss_one (ps_ret (pe_and (pe_b call_isinst T.isinst boot_isinstance (pa_cons (pv 0) (pa_cons (pe_ty T.list boot_list) pa_nil)))
      (pe_and (pe_chain op_le op_le pe_int (pe_b call_len_seq T.len boot_len (pa_cons (pv 0) pa_nil)) (pe_glob (v := .int 6) rfl mp ⟨_, rfl⟩))
      (pe_one (pe_f G hr (pa_cons (pv 0) pa_nil)))))), ?_⟩
    refine ⟨_, rfl, _, _, _, _, rfl, .lst hR, kit_ll _, _, rfl, iteT ⟨_, rfl, a, _, rfl, .inl hR.sq, 1, _, rfl, rfl, _, rfl, ?_⟩⟩
    rw [List.length_map]
    refine ite2 (fun h1 => ?_) (fun h1 => ?_)
    · have h1 := of_decide_eq_true h1
      refine ⟨_, _, rfl, rfl, _, rfl, ite2 (fun h2 => ?_) (fun h2 => ?_)⟩
      · have h2 := of_decide_eq_true h2
        refine ⟨_, rfl, a, ns, rfl, hR, hn, fun H' sm => ?_⟩
        have e : rowB ns = true := by
          unfold rowB
          rw [decide_eq_true (by omega), decide_eq_true (by omega)]
          rfl
        rw [← e]
        exact q H' sm
      · have e : rowB ns = false := by
          unfold rowB
          rw [decide_eq_false (p := ns.length ≤ 6) (by intro z; exact h2 (decide_eq_true (by omega)))]
          simp
        rw [← e]
        exact q H (Same.refl _)
    · refine ⟨_, rfl, iteF ?_⟩
      have e : rowB ns = false := by
        unfold rowB
        rw [decide_eq_false (p := 1 ≤ ns.length) (by intro z; exact h1 (decide_eq_true (by omega)))]
        simp
      rw [← e]
      exact q H (Same.refl _)
def spShape : Sp := fun vs H Q _ => ∃ (t : Addr) (prs : Prs), vs = [.ref t] ∧ Tab H t prs ∧ Sm prs ∧ ∀ H', Same H H' → Q (.bl (shB prs)) H'
theorem sc_shape : FnScope ["thing", "row"] ["thing"] (defScope dShape) := ⟨rfl, rfl, rfl, by decide +kernel, rfl, by decide +kernel, by decide +kernel⟩
theorem ok_shape (T : Blt mg) (D : DefAt K mg "has_table_shape" dShape ["thing"]) (G : FnAt P w K mg base 3 "is_row" ["thing"] spIsRow) : FnAt P w K mg base 4 "has_table_shape" ["thing"] spShape := by
  refine FnAt.of D sc_shape (fun vs H Q E h => ?_) (fun f cdv A outer s H vs Q E hr h => ?_)
  · obtain ⟨t, prs, rfl, _⟩ := h
    rfl
  · obtain ⟨t, prs, rfl, hT, ⟨hn, hw⟩, q⟩ := h
    obtain ⟨tk, mr⟩ := T.mr
    have nd1 : (["row"] : List Str).Nodup := by decide +kernel
    have nd2 : (["row", "thing"] : List Str).Nodup := by decide +kernel
    refine ⟨_, pss_cons (ps_if (PW.pt (pw_or (pt_not (pt_val (pe_b call_isinst T.isinst boot_isinstance (pa_cons (pv 0) (pa_cons (pe_ty T.list boot_list) pa_nil)))))
        (pw_or1 (pt_not (pt_chain op_le op_le pe_int (pe_b call_len_seq T.len boot_len (pa_cons (pv 0) pa_nil)) (pe_glob (v := .int 6) rfl mr ⟨_, rfl⟩)))))) (pss_one (ps_ret pe_bl)) pss_nil)
      (pss_cons (ps_if (pt_not (pt_val (pe_b (call_all rfl) T.all boot_all (pa_cons (pe_comp ["row"] [none] (defScope dShape) ["thing", "row"] rfl (pi_list (pv 0)) (by decide +kernel)
        (fun cl C s2 H2 ex => pg_c 0 nd1) (fun cl C s2 H2 ex => pifs_nil) (fun cl C s2 H2 ex => pe_f G hr (pa_cons (pv 0) pa_nil))) pa_nil)))) (pss_one (ps_ret pe_bl)) pss_nil)
      (pss_one (ps_ret (pe_b (call_all rfl) T.all boot_all (pa_cons (pe_comp ["row", "thing"] [none, some 0] (defScope dShape) ["thing", "row"] rfl (pi_list (pv 0)) (by decide +kernel)
        (fun cl C s2 H2 ex => pg_c 0 nd2) (fun cl C s2 H2 ex => pifs_nil)
        (fun cl C s2 H2 ex => pe_cmpR op_eq (pe_b (lenK K) T.len boot_len (pa_cons (pv 0) pa_nil)) (pe_b (lenK K) T.len boot_len (pa_cons (pe_ix (ixL K) (pv 1) pe_int (fun _ _ => rfl)) pa_nil)) (nomark _))) pa_nil))))), ?_⟩
    refine ⟨_, rfl, _, _, _, _, rfl, .lst hT.l, kit_ll _, _, rfl, iteF ⟨_, rfl, t, _, rfl, .inl hT.sq, 1, _, rfl, rfl, _, rfl, ?_⟩⟩
    rw [List.length_map]
    have bad : ¬ (1 ≤ prs.length ∧ prs.length ≤ 6) → shB prs = false := fun z => by
      unfold shB
      rw [← Bool.decide_and, decide_eq_false z]
      rfl
    refine ite2 (fun h1 => ?_) (fun h1 => ?_)
    · have h1 := of_decide_eq_true h1
      refine ⟨_, _, rfl, rfl, _, rfl, ?_⟩
      by_cases h2 : prs.length ≤ 6
      · rw [decide_eq_true (show (prs.length : Int) ≤ 6 by omega)]
        refine iteF ?_
        refine ⟨_, rfl, t, rfl, ⟨_, hT.sq⟩, comp_map (fun p => V.ref p.1) (fun p => .bl (rowB p.2)) hT.sq (sl6 hn) (fun p hp H' Q' sm q' => ?_) fun D H' hD sm hDl => ?_⟩
        · exact ⟨_, rfl, p.1, p.2, rfl, (hT.r p hp).same sm, hw p hp, q'⟩
        · refine ⟨D, prs.map fun p => rowB p.2, rfl, SqL.of (by rw [hDl, map_bl]), _, rfl, ?_⟩
          cases e1 : (prs.map fun p => rowB p.2).all id with
          | false =>
            refine iteT ?_
            have e : shB prs = false := by
              unfold shB
              rw [e1]
              simp
            have q1 := q H' sm
            rw [e] at q1
            exact q1
          | true =>
            refine iteF ?_
            have hT1 := hT.same sm
            obtain ⟨p0, hp0, hm0, hx0⟩ := head_at (prs := prs) (by omega)
            have hw0 : w0 prs = p0.2.length := by
              unfold w0
              rw [hp0]
              rfl
            refine ⟨_, rfl, t, rfl, ⟨_, hT1.sq⟩, comp_map (fun p => V.ref p.1) (fun p => .bl (decide (p.2.length = w0 prs))) hT1.sq (sl6 hn) (fun p hp H2 Q' sm2 q' => ?_) fun D2 H2 hD2 sm2 hDl2 => ?_⟩
            · have hT2 := hT1.same sm2
              refine ⟨_, rfl, p.1, _, rfl, .inl (hT2.r p hp).sq, _, rfl, t, _, 0, .ref p0.1, rfl, rfl, hT2.sq, atI_nat (j := 0) (by rw [List.getElem?_map, hx0]; rfl), p0.1, _, rfl, .inl (hT2.r p0 hm0).sq, rfl, ?_⟩
              rw [List.length_map, List.length_map, dec_nat, ← hw0]
              exact q' _ (Same.refl _)
            · refine ⟨D2, prs.map fun p => decide (p.2.length = w0 prs), rfl, SqL.of (by rw [hDl2, map_bl]), ?_⟩
              have q1 := q H2 (sm.trans sm2)
              unfold shB at q1
              rw [e1, decide_eq_true (show 1 ≤ prs.length by omega), decide_eq_true h2] at q1
              exact q1
      · rw [decide_eq_false (show ¬ (prs.length : Int) ≤ 6 by omega)]
        refine iteT ?_
        have q1 := q H (Same.refl _)
        rw [bad (by omega)] at q1
        exact q1
    · refine ⟨_, rfl, iteT ?_⟩
      have q1 := q H (Same.refl _)
      rw [bad (by
        intro z
        exact h1 (decide_eq_true (by omega)))] at q1
      exact q1
end
open PySem L2 PyProof.Rows
section
variable {P : Program} {w : World} {K : PySem.W.Frag} {mg : Str → Option Value} {base : Heap}
def spAtPlace : Sp := fun vs H Q _ => ∃ (t : Addr) (prs : Prs) (j : Nat), vs = [.ref t, .int j] ∧ Tab H t prs ∧ prs.length ≤ 1000 ∧ (∀ p ∈ prs, j < p.2.length) ∧ ∀ D H', H D = none → Same H H' → Row H' D (col prs j) → Q (.ref D) H'
theorem sc_atPlace : FnScope ["table", "place"] ["table", "place"] (defScope dAtPlace) := ⟨rfl, rfl, rfl, by decide +kernel, rfl, by decide +kernel, by decide +kernel⟩
theorem ok_atPlace (D : DefAt K mg "numbers_at_place" dAtPlace ["table", "place"]) : FnAt P w K mg base 1 "numbers_at_place" ["table", "place"] spAtPlace := by
  refine FnAt.of D sc_atPlace (fun vs H Q E h => ?_) (fun f cdv A outer s H vs Q E hr h => ?_)
  · obtain ⟨t, prs, j, rfl, _⟩ := h
    rfl
  · obtain ⟨t, prs, j, rfl, hT, hn, hj, q⟩ := h
    have nd1 : (["row", "place"] : List Str).Nodup := by decide +kernel
    refine ⟨_, pss_one (ps_ret (pe_comp ["row", "place"] [none, some 1] (defScope dAtPlace) ["table", "place"] rfl (pi_list (pv 0)) (by decide +kernel)
        (fun cl C s2 H2 ex => pg_c 0 nd1) (fun cl C s2 H2 ex => pifs_nil) (fun cl C s2 H2 ex => pe_ix (ixL K) (pv 0) (pv 1) (fun _ _ => rfl)))), ?_⟩
    refine ⟨_, rfl, t, rfl, ⟨_, hT.sq⟩, comp_map (fun p => V.ref p.1) (fun p => .int (p.2.getD j 0)) hT.sq (sl6 hn) (fun p hp H' Q' sm q' => ?_) fun D H' hD sm hDl => ?_⟩
    · exact ⟨_, rfl, _, rfl, p.1, _, _, _, rfl, rfl, ((hT.r p hp).same sm).sq, at_row (hj p hp), q' _ (Same.refl _)⟩
    · refine q D H' hD sm ?_
      unfold Row col
      rw [hDl, List.map_map]
      rfl
def spSorted : Sp := fun vs H Q _ => ∃ (t : Addr) (prs : Prs), vs = [.ref t] ∧ Tab H t prs ∧ Sm prs ∧ 1 ≤ prs.length ∧ (∀ p ∈ prs, p.2.length = w0 prs) ∧ ∀ H', Same H H' → Q (.bl (srB prs)) H'
theorem sc_sorted : FnScope ["table", "row", "place"] ["table"] (defScope dSorted) := ⟨rfl, rfl, rfl, by decide +kernel, rfl, by decide +kernel, by decide +kernel⟩
theorem ok_sorted (T : Blt mg) (D : DefAt K mg "is_sorted_both_ways" dSorted ["table"]) (G : FnAt P w K mg base 1 "never_falls" ["numbers"] spNF) (G2 : FnAt P w K mg base 1 "numbers_at_place" ["table", "place"] spAtPlace) : FnAt P w K mg base 2 "is_sorted_both_ways" ["table"] spSorted := by
  refine FnAt.of D sc_sorted (fun vs H Q E h => ?_) (fun f cdv A outer s H vs Q E hr h => ?_)
  · obtain ⟨t, prs, rfl, _⟩ := h
    rfl
  · obtain ⟨t, prs, rfl, hT, ⟨hn, hw⟩, h1, hv, q⟩ := h
    have nd1 : (["row"] : List Str).Nodup := by decide +kernel
    have nd2 : (["place", "table"] : List Str).Nodup := by decide +kernel
    obtain ⟨p0, hp0, hm0, hx0⟩ := head_at (prs := prs) h1
    have hw0 : w0 prs = p0.2.length := (hv p0 hm0).symm
    refine ⟨_, pss_cons (ps_if (pt_not (pt_val (pe_b (call_all rfl) T.all boot_all (pa_cons (pe_comp ["row"] [none] (defScope dSorted) ["table", "row", "place"] rfl (pi_list (pv 0)) (by decide +kernel)
        (fun cl C s2 H2 ex => pg_c 0 nd1) (fun cl C s2 H2 ex => pifs_nil) (fun cl C s2 H2 ex => pe_f G hr (pa_cons (pv 0) pa_nil))) pa_nil)))) (pss_one (ps_ret pe_bl)) pss_nil)
      (pss_one (ps_ret (pe_b (call_all rfl) T.all boot_all (pa_cons (pe_comp ["place", "table"] [none, some 0] (defScope dSorted) ["table", "row", "place"] rfl
        (pi_range1 rfl T.rng (pa_cons (pe_b call_len_seq T.len boot_len (pa_cons (pe_ix ix_list (pv 0) pe_int (fun _ _ => rfl)) pa_nil)) pa_nil)) (by decide +kernel)
        (fun cl C s2 H2 ex => pg_c 0 nd2) (fun cl C s2 H2 ex => pifs_nil)
        (fun cl C s2 H2 ex => pe_f G hr (pa_cons (pe_f G2 hr (pa_cons (pv 1) (pa_cons (pv 0) pa_nil))) pa_nil))) pa_nil)))), ?_⟩
    refine ⟨_, rfl, t, rfl, ⟨_, hT.sq⟩, comp_map (fun p => V.ref p.1) (fun p => .bl (nfB p.2)) hT.sq (sl6 hn) (fun p hp H' Q' sm q' => ?_) fun D H' hD sm hDl => ?_⟩
    · exact ⟨_, rfl, p.1, p.2, rfl, (hT.r p hp).same sm, hw p hp, q'⟩
    · refine ⟨D, prs.map fun p => nfB p.2, rfl, SqL.of (by rw [hDl, map_bl]), _, rfl, ?_⟩
      cases e1 : (prs.map fun p => nfB p.2).all id with
      | false =>
        refine iteT ?_
        have q1 := q H' sm
        unfold srB at q1
        rw [e1] at q1
        exact q1
      | true =>
        refine iteF ?_
        have hT1 := hT.same sm
        refine ⟨_, rfl, t, _, 0, .ref p0.1, rfl, rfl, hT1.sq, atI_nat (j := 0) (by rw [List.getElem?_map, hx0]; rfl), p0.1, _, rfl, .inl (hT1.r p0 hm0).sq, _, rfl, ?_, ?_, ?_⟩
        · omega
        · have := hw p0 hm0
          rw [List.length_map]
          omega
        · rw [List.length_map, ← hw0, Int.toNat_natCast]
          have hb : w0 prs ≤ 1000 := by rw [hw0]; exact hw p0 hm0
          refine comp_range (fun j => .bl (nfB (col prs j))) (sl6 hb) (fun j hj H2 Q' sm2 q' => ?_) fun D2 H2 hD2 sm2 hDl2 => ?_
          · have hT2 := hT1.same sm2
            refine ⟨_, rfl, _, rfl, t, prs, j, by rw [Int.zero_add], hT2, hn, fun p hp => by rw [hv p hp]; exact hj, fun D3 H3 hD3 sm3 r3 => ⟨D3, col prs j, rfl, r3, ?_, fun H4 sm4 => q' H4 (sm3.trans sm4)⟩⟩
            unfold col
            rw [List.length_map]
            exact hn
          · refine ⟨D2, (List.range (w0 prs)).map fun j => nfB (col prs j), rfl, SqL.of (by rw [hDl2, map_bl]), ?_⟩
            have q1 := q H2 (sm.trans sm2)
            unfold srB at q1
            rw [e1] at q1
            exact q1
def spIsTable : Sp := fun vs H Q _ => ∃ (t : Addr) (prs : Prs), vs = [.ref t] ∧ Tab H t prs ∧ Sm prs ∧ ∀ H', Same H H' → Q (.bl (tabB prs)) H'
theorem sc_isTable : FnScope ["thing"] ["thing"] (defScope dIsTable) := ⟨rfl, rfl, rfl, by decide +kernel, rfl, by decide +kernel, by decide +kernel⟩
theorem shB_of {prs : Prs} (h : shB prs = true) : 1 ≤ prs.length ∧ prs.length ≤ 6 ∧ (∀ p ∈ prs, 1 ≤ p.2.length ∧ p.2.length ≤ 6) ∧ ∀ p ∈ prs, p.2.length = w0 prs := by
  unfold shB rowB at h
  simp only [Bool.and_eq_true, decide_eq_true_eq, List.all_eq_true, List.mem_map, id] at h
  obtain ⟨⟨h1, h2⟩, h3, h4⟩ := h
  exact ⟨h1, h2, fun p hp => by simpa using h3 _ ⟨p, hp, rfl⟩, fun p hp => by simpa using h4 _ ⟨p, hp, rfl⟩⟩
theorem ok_isTable (D : DefAt K mg "is_table" dIsTable ["thing"]) (G : FnAt P w K mg base 4 "has_table_shape" ["thing"] spShape) (G2 : FnAt P w K mg base 2 "is_sorted_both_ways" ["table"] spSorted) : FnAt P w K mg base 5 "is_table" ["thing"] spIsTable := by
  refine FnAt.of D sc_isTable (fun vs H Q E h => ?_) (fun f cdv A outer s H vs Q E hr h => ?_)
  · obtain ⟨t, prs, rfl, _⟩ := h
    rfl
  · obtain ⟨t, prs, rfl, hT, hs, q⟩ := h
    refine ⟨_, pss_one (ps_ret (pe_and (pe_f G hr (pa_cons (pv 0) pa_nil)) (pe_one (pe_f G2 (hr.mono (by decide)) (pa_cons (pv 0) pa_nil))))), ?_⟩
    refine ⟨_, rfl, t, prs, rfl, hT, hs, fun H' sm => ⟨_, rfl, ?_⟩⟩
    cases e : shB prs with
    | false =>
      refine iteF ?_
      have q1 := q H' sm
      unfold tabB at q1
      rw [e] at q1
      exact q1
    | true =>
      obtain ⟨a1, a2, a3, a4⟩ := shB_of e
      refine iteT ⟨_, rfl, t, prs, rfl, hT.same sm, hs, a1, a4, fun H2 sm2 => ?_⟩
      have q1 := q H2 (sm.trans sm2)
      unfold tabB at q1
      rw [e] at q1
      exact q1
def spNeedTable : Sp := fun vs H Q _ => ∃ (t : Addr) (prs : Prs), vs = [.ref t] ∧ Tab H t prs ∧ Sm prs ∧ tabB prs = true ∧ ∀ H', Same H H' → Q .non H'
theorem sc_needTable : FnScope ["thing"] ["thing"] (defScope dNeedTable) := ⟨rfl, rfl, rfl, by decide +kernel, rfl, by decide +kernel, by decide +kernel⟩
theorem ok_needTable (D : DefAt K mg "need_table" dNeedTable ["thing"]) (G : FnAt P w K mg base 5 "is_table" ["thing"] spIsTable) : FnAt P w K mg base 6 "need_table" ["thing"] spNeedTable := by
  refine FnAt.of D sc_needTable (fun vs H Q E h => ?_) (fun f cdv A outer s H vs Q E hr h => ?_)
  · obtain ⟨t, prs, rfl, _⟩ := h
    rfl
  · obtain ⟨t, prs, rfl, hT, hs, hg, q⟩ := h
    refine ⟨_, pss_one (ps_if (pt_not (pt_val (pe_f G hr (pa_cons (pv 0) pa_nil)))) pss_never pss_nil), ?_⟩
    refine ⟨_, rfl, t, prs, rfl, hT, hs, fun H' sm => ⟨_, rfl, ?_⟩⟩
    rw [hg]
    exact iteF (q H' sm)
end
open PySem L2 PyProof.Rows
def nfP (ns : List Int) : Prop := ∀ i, i + 1 < ns.length → ns.getD i 0 ≤ ns.getD (i + 1) 0
theorem nfB_iff {ns : List Int} : nfB ns = true ↔ nfP ns := by
  unfold nfB nfP
  simp only [List.all_map, List.all_eq_true, List.mem_range, Function.comp, id, decide_eq_true_eq]
  constructor
  · intro h i hi
    exact h i (by omega)
  · intro h i hi
    exact h i (by omega)
def rowAt (prs : Prs) (i : Nat) : List Int := ((prs[i]?).map (·.2)).getD []
theorem rowAt_mem {prs : Prs} {i : Nat} (h : i < prs.length) : ∃ p ∈ prs, prs[i]? = some p ∧ rowAt prs i = p.2 := by
  refine ⟨prs[i], List.getElem_mem h, by simp [h], ?_⟩
  unfold rowAt
  rw [List.getElem?_eq_getElem h]
  rfl
theorem col_len (prs : Prs) (j : Nat) : (col prs j).length = prs.length := by
  unfold col
  rw [List.length_map]
theorem col_at {prs : Prs} {i j : Nat} (h : i < prs.length) : (col prs j).getD i 0 = (rowAt prs i).getD j 0 := by
  unfold col rowAt
  rw [List.getD_eq_getElem?_getD, List.getElem?_map, List.getElem?_eq_getElem h]
  rfl
structure GoodP (wide : Nat) (prs : Prs) : Prop where
  len : ∀ p ∈ prs, p.2.length = wide
  row : ∀ p ∈ prs, nfP p.2
  down : ∀ i, i + 1 < prs.length → ∀ j, j < wide → (rowAt prs i).getD j 0 ≤ (rowAt prs (i + 1)).getD j 0
theorem w0_of {wide : Nat} {prs : Prs} (h : 1 ≤ prs.length) (hl : ∀ p ∈ prs, p.2.length = wide) : w0 prs = wide := by
  obtain ⟨p, h1, h2, _⟩ := head_at h
  unfold w0
  rw [h1]
  exact hl p h2
theorem tabB_of {wide : Nat} {prs : Prs} (g : GoodP wide prs) (h1 : 1 ≤ prs.length) (h2 : prs.length ≤ 6) (h3 : 1 ≤ wide) (h4 : wide ≤ 6) : tabB prs = true := by
  have hw := w0_of h1 g.len
  unfold tabB shB srB rowB
  simp only [Bool.and_eq_true, decide_eq_true_eq, List.all_eq_true, List.mem_map, id]
  refine ⟨⟨⟨h1, h2⟩, ?_, ?_⟩, ?_, ?_⟩
  · rintro b ⟨p, hp, rfl⟩
    have := g.len p hp
    simp only [Bool.and_eq_true, decide_eq_true_eq]
    omega
  · rintro b ⟨p, hp, rfl⟩
    rw [decide_eq_true_eq, hw]
    exact g.len p hp
  · rintro b ⟨p, hp, rfl⟩
    exact nfB_iff.mpr (g.row p hp)
  · rintro b ⟨j, hj, rfl⟩
    rw [List.mem_range, hw] at hj
    refine nfB_iff.mpr fun i hi => ?_
    rw [col_len] at hi
    rw [col_at (by omega), col_at hi]
    exact g.down i hi j hj
theorem good_of {prs : Prs} (h : tabB prs = true) : GoodP (w0 prs) prs ∧ 1 ≤ prs.length ∧ prs.length ≤ 6 ∧ 1 ≤ w0 prs ∧ w0 prs ≤ 6 := by
  unfold tabB at h
  rw [Bool.and_eq_true] at h
  obtain ⟨h1, h2, h3, h4⟩ := shB_of h.1
  obtain ⟨p, e1, e2, _⟩ := head_at h1
  have h5 := h3 p e2
  have h6 := h4 p e2
  have hs := h.2
  unfold srB at hs
  simp only [Bool.and_eq_true, List.all_eq_true, List.mem_map, id] at hs
  refine ⟨⟨h4, fun p hp => nfB_iff.mp (hs.1 _ ⟨p, hp, rfl⟩), fun i hi j hj => ?_⟩, h1, h2, by omega, by omega⟩
  have := nfB_iff.mp (hs.2 _ ⟨j, List.mem_range.mpr hj, rfl⟩) i (by rw [col_len]; exact hi)
  rw [col_at (by omega), col_at hi] at this
  exact this
theorem getD_push {ns : List Int} {v : Int} {i : Nat} : (ns ++ [v]).getD i 0 = if i < ns.length then ns.getD i 0 else if i = ns.length then v else 0 := by
  rw [List.getD_eq_getElem?_getD, List.getD_eq_getElem?_getD]
  by_cases h : i < ns.length
  · rw [if_pos h, List.getElem?_append_left h]
  · rw [if_neg h, List.getElem?_append_right (by omega)]
    by_cases h2 : i = ns.length
    · subst h2
      simp
    · rw [if_neg h2, List.getElem?_eq_none (by simp; omega)]
      rfl
theorem nfP_push {ns : List Int} {v : Int} (h : nfP ns) (hl : ∀ k, k + 1 = ns.length → ns.getD k 0 ≤ v) : nfP (ns ++ [v]) := fun i hi => by
  rw [List.length_append, List.length_singleton] at hi
  rw [getD_push, getD_push, if_pos (by omega)]
  by_cases h2 : i + 1 < ns.length
  · rw [if_pos h2]
    exact h i h2
  · rw [if_neg h2, if_pos (by omega)]
    exact hl i (by omega)
theorem rowAt_push {prs : Prs} {p : Addr × List Int} {i : Nat} (h : i ≤ prs.length) : rowAt (prs ++ [p]) i = if i < prs.length then rowAt prs i else p.2 := by
  unfold rowAt
  by_cases h2 : i < prs.length
  · rw [if_pos h2, List.getElem?_append_left h2]
  · have : i = prs.length := by omega
    subst this
    rw [if_neg h2]
    simp
theorem good_push {wide : Nat} {prs : Prs} {a : Addr} {cur : List Int} (g : GoodP wide prs) (hl : cur.length = wide) (hn : nfP cur) (hd : prs.length = 0 ∨ ∀ j, j < wide → (rowAt prs (prs.length - 1)).getD j 0 ≤ cur.getD j 0) : GoodP wide (prs ++ [(a, cur)]) where
  len := fun p hp => by
    rcases List.mem_append.mp hp with z | z
    · exact g.len p z
    · have : p = (a, cur) := by simpa using z
      subst this
      exact hl
  row := fun p hp => by
    rcases List.mem_append.mp hp with z | z
    · exact g.row p z
    · have : p = (a, cur) := by simpa using z
      subst this
      exact hn
  down := fun i hi j hj => by
    rw [List.length_append, List.length_singleton] at hi
    rw [rowAt_push (by omega), rowAt_push (by omega), if_pos (by omega)]
    by_cases h2 : i + 1 < prs.length
    · rw [if_pos h2]
      exact g.down i h2 j hj
    · rw [if_neg h2]
      rcases hd with z | z
      · omega
      · have := z j hj
        rw [show prs.length - 1 = i by omega] at this
        exact this
theorem at_mem {ns : List Int} {d : Int} (h0 : 0 ≤ d) (h1 : d < ns.length) : ∃ r ∈ ns, atI (ns.map V.int) d = some (.int r) := by
  obtain ⟨k, rfl⟩ : ∃ k : Nat, d = k := ⟨d.toNat, by omega⟩
  have hk : k < ns.length := by omega
  exact ⟨ns[k], List.getElem_mem hk, atI_nat (by simp [hk])⟩
theorem atI_last {α : Type} {xs : List α} {v : α} (h : xs[xs.length - 1]? = some v) : atI xs (-1) = some v := by
  have hl : 0 < xs.length := by
    have := (List.getElem?_eq_some_iff.mp h).1
    omega
  unfold atI ixN
  rw [if_neg (by decide), if_pos (by omega)]
  show xs[((-1 : Int) + (xs.length : Int)).toNat]? = some v
  rw [show ((-1 : Int) + (xs.length : Int)).toNat = xs.length - 1 by omega]
  exact h
theorem at_last {ns : List Int} (h : 0 < ns.length) : atI (ns.map V.int) (-1) = some (.int (ns.getD (ns.length - 1) 0)) := by
  refine atI_last ?_
  rw [List.length_map, List.getElem?_map, List.getD_eq_getElem?_getD, List.getElem?_eq_getElem (by omega)]
  rfl
open PySem L2 PyProof.Rows
def dRow (ns : List Int) : PyData := .list (ns.map PyData.int)
def dTab (rows : List (List Int)) : PyData := .list (rows.map dRow)
theorem rdAll_ints {K : PySem.W.Frag} {H : Hp} : ∀ ns : List Int, RdAll K H (ns.map V.int) (ns.map PyData.int)
  | [] => .nil
  | n :: r => .cons (.int n) (rdAll_ints r)
theorem Row.rd {K : PySem.W.Frag} {H : Hp} {a : Addr} {ns : List Int} (h : Row H a ns) : RdD K H (.ref a) (dRow ns) := .lst h.sq (rdAll_ints ns)
theorem lay_ints : ∀ ns : List Int, PyData.canLayAll0 (ns.map PyData.int) = true ∧ PyData.depthAll (ns.map PyData.int) ≤ 0
  | [] => by simp [PyData.canLayAll0, PyData.depthAll]
  | n :: r => by
    have h := lay_ints r
    simp only [List.map_cons, PyData.canLayAll0, PyData.canLay0, PyData.depthAll, PyData.depth, h.1, Bool.and_self, true_and]
    have := h.2
    omega
theorem shaped_row (ns : List Int) : SeqAt.shaped (dRow ns) = true := by
  have h := lay_ints ns
  have h2 := h.2
  show (PyData.canLay0 (.list (ns.map PyData.int)) && decide (PyData.depth (.list (ns.map PyData.int)) ≤ 64)) = true
  rw [Bool.and_eq_true]
  exact ⟨by simp only [PyData.canLay0]; exact h.1, decide_eq_true (by simp only [PyData.depth]; omega)⟩
open PySem L2 PyProof.Rows
theorem len1 : 1 ≤ sizeLine := by decide
theorem len2 : 2 ≤ sizeLine := by decide
theorem len3 : 3 ≤ sizeLine := by decide
theorem len4 : 4 ≤ sizeLine := by decide
theorem len5 : 5 ≤ sizeLine := by decide
theorem len6 : 6 ≤ sizeLine := by decide
theorem Row.new {H : Hp} {D : Addr} : Row (upd H D (.lst [])) D [] := upd_same
theorem Row.push {H : Hp} {D : Addr} {ds : List Int} {v : Int} : Row (upd H D (.lst (ds.map V.int ++ [.int v]))) D (ds ++ [v]) := by
  unfold Row
  rw [upd_same, List.map_append]
  rfl
section
variable {P : Program} {w : World} {K : PySem.W.Frag} {mg : Str → Option Value} {base : Heap}
def spLCell (K : PySem.W.Frag) : Sp := fun vs H Q _ => ∃ (a : Addr) (ns : List Int) (k : Nat), vs = [.ref a, .int (k : Nat)] ∧ SqL K H a (ns.map V.int) ∧ k ≤ 100 ∧ ∀ c, Q (.int c) H
theorem sc_lcell : FnScope ["script", "k"] ["script", "k"] (defScope dLCell) := ⟨rfl, rfl, rfl, by decide +kernel, rfl, by decide +kernel, by decide +kernel⟩
theorem ok_lcell (T : Blt mg) (D : DefAt K mg "_law_cell" dLCell ["script", "k"]) : FnAt P w K mg base 1 "_law_cell" ["script", "k"] (spLCell K) := by
  refine FnAt.of D sc_lcell (fun vs H Q E h => ?_) (fun f cdv A outer s H vs Q E hr h => ?_)
  · obtain ⟨a, ns, k, rfl, _⟩ := h
    rfl
  · obtain ⟨a, ns, k, rfl, hS, hk, q⟩ := h
    refine ⟨_, pss_cons (ps_if (pt_cmpR o_lt (pv 1) (pe_b call_len_seq T.len boot_len (pa_cons (pv 0) pa_nil)) (nomark _)) (pss_one (ps_ret (pe_ix ix_list (pv 0) (pv 1) (fun _ _ => rfl)))) pss_nil)
      (pss_one (ps_ret (pe_op o_add (pe_op o_add (pe_op o_mul (pe_op o_mul pe_int (pv 1)) (pv 1)) (pe_op o_mul pe_int (pv 1))) pe_int))), ?_⟩
    refine ⟨_, rfl, _, rfl, a, _, rfl, .inl hS, _, _, rfl, rfl, _, rfl, ?_⟩
    rw [List.length_map]
    refine ite2 (fun h1 => ?_) (fun h1 => ?_)
    · have h1 := of_decide_eq_true h1
      exact ⟨_, rfl, _, rfl, a, _, _, _, rfl, rfl, hS, at_row (by omega), q _⟩
    · exact ⟨_, rfl, _, _, rfl, rfl, .inl ⟨by decide, by decide⟩, _, rfl, _, _, rfl, rfl, .inr ⟨by omega, by omega⟩, _, rfl, _, _, rfl, rfl, .inl ⟨by decide, by decide⟩, _, _, rfl, rfl, _, _, rfl, rfl, q _⟩
theorem tabB_rows {prs prs' : Prs} (h : prs'.map (·.2) = prs.map (·.2)) : tabB prs' = tabB prs := by
  have hl : prs'.length = prs.length := by
    have := congrArg List.length h
    simpa using this
  have hm : ∀ (f : List Int → Bool), (prs'.map fun p => f p.2) = (prs.map fun p => f p.2) := fun f => by
    have := congrArg (List.map f) h
    rw [List.map_map, List.map_map] at this
    exact this
  have hm2 : ∀ (f : List Int → Int), (prs'.map fun p => f p.2) = (prs.map fun p => f p.2) := fun f => by
    have := congrArg (List.map f) h
    rw [List.map_map, List.map_map] at this
    exact this
  have hw : w0 prs' = w0 prs := by
    have := congrArg (fun l : List (List Int) => (l.head?.map List.length).getD 0) h
    simp only [List.head?_map, Option.map_map] at this
    exact this
  have hc : ∀ j, col prs' j = col prs j := fun j => hm2 fun ns => ns.getD j 0
  unfold tabB shB srB
  rw [hl, hw, hm rowB, hm fun ns => decide (ns.length = w0 prs), hm nfB]
  simp only [hc]
def rowsOk (rows : List (List Int)) : Bool := tabB (rows.map fun r => ((0 : Addr), r))
theorem rowsOk_of {prs : Prs} {rows : List (List Int)} (h : prs.map (·.2) = rows) : tabB prs = rowsOk rows := by
  unfold rowsOk
  refine tabB_rows ?_
  rw [h, List.map_map]
  exact (List.map_id _).symm
theorem good_bounds {prs : Prs} (h : tabB prs = true) : Sm prs := by
  obtain ⟨g, h1, h2, h3, h4⟩ := good_of h
  exact ⟨by omega, fun p hp => by rw [g.len p hp]; omega⟩
end
open PySem L2 PyProof.Rows
def numStr (n : Int) : Str := Str.ofString (toString n)
def dg (m : Nat) : List Nat := (Nat.toDigits 10 m).map Char.toNat
theorem dg_digits (m : Nat) : ∀ c ∈ dg m, 48 ≤ c ∧ c ≤ 57 := fun c hc => by
  obtain ⟨ch, hch, e⟩ := List.mem_map.mp hc
  have r := digit_range (Nat.isDigit_of_mem_toDigits (by decide) (by decide) hch)
  rw [← e]
  exact r
theorem dg_ne (m : Nat) : dg m ≠ [] := fun e => by
  have h := toDigits_len_ge 10 m
  rw [List.map_eq_nil_iff.mp e] at h
  exact absurd h (by decide)
theorem dg_head (m : Nat) : 0 < m → ∃ c r, dg m = c :: r ∧ c ≠ 48 := by
  induction m using Nat.strongRecOn with
  | _ m ih =>
    intro h0
    by_cases h : m < 10
    · refine ⟨(Nat.digitChar m).toNat, [], ?_, ?_⟩
      · unfold dg
        rw [Nat.toDigits_of_lt_base h]
        rfl
      · have : ∀ k : Nat, k < 10 → 0 < k → (Nat.digitChar k).toNat ≠ 48 := by decide
        exact this m h h0
    · have hm : m % 10 < 10 := Nat.mod_lt m (by decide)
      have t : Nat.toDigits 10 (m / 10) ++ Nat.toDigits 10 (m % 10) = Nat.toDigits 10 (10 * (m / 10) + m % 10) := Nat.toDigits_append_toDigits (by decide) (by omega) hm
      rw [Nat.div_add_mod] at t
      obtain ⟨c, r, e, hc⟩ := ih (m / 10) (by omega) (by omega)
      refine ⟨c, r ++ (Nat.toDigits 10 (m % 10)).map Char.toNat, ?_, hc⟩
      unfold dg at e ⊢
      rw [← t, List.map_append, e]
      rfl
theorem numStr_nat (m : Nat) : (numStr (m : Int)).cps.toList = dg m := PySem.W.KIN.signs_num m
theorem numStr_neg (m : Nat) : (numStr (Int.negSucc m)).cps.toList = 45 :: dg (m + 1) := by
  unfold numStr
  rw [signs_ofString]
  show ("-" ++ Nat.repr (m + 1)).toList.map Char.toNat = _
  rw [String.toList_append, List.map_append, Nat.toList_repr]
  rfl
theorem str_len (x : Str) : x.cps.toList.length = x.length := Array.length_toList
theorem dg_len {m k : Nat} (h : m < 10 ^ k) (hk : 1 ≤ k) : (dg m).length ≤ k := by
  rw [← numStr_nat, str_len]
  exact toString_length_le (Int.natCast_nonneg _) hk (by exact_mod_cast h)
theorem num_len {n : Int} {k : Nat} (h : n.natAbs < 10 ^ k) (hk : 1 ≤ k) : (numStr n).length ≤ k + 1 := by
  rw [← str_len]
  cases n with
  | ofNat m =>
    rw [show Int.ofNat m = (m : Int) from rfl, numStr_nat]
    exact Nat.le_succ_of_le (dg_len h hk)
  | negSucc m =>
    rw [numStr_neg, List.length_cons]
    exact Nat.succ_le_succ (dg_len h hk)
theorem num_read {n : Int} (hl : (numStr n).length ≤ 4300) : intText? (numStr n) = some n := by
  cases n with
  | ofNat m =>
    have e := PySem.intText_digits (x := numStr (m : Int)) (by rw [numStr_nat]; exact dg_digits m) (by rw [numStr_nat]; exact dg_ne m) hl
    rw [numStr_nat] at e
    exact e.trans (by rw [show PySem.NumText.digitsVal (dg m) = m from PySem.W.KIN.val_back m]; rfl)
  | negSucc m =>
    have e := PySem.intText_neg (x := numStr (Int.negSucc m)) (numStr_neg m) (dg_digits _) (dg_ne _) hl
    exact e.trans (by rw [show PySem.NumText.digitsVal (dg (m + 1)) = m + 1 from PySem.W.KIN.val_back (m + 1)]; rfl)
theorem num_free {n : Int} {c : Nat} (hc : c < 45) : c ∉ (numStr n).cps.toList := fun h => by
  cases n with
  | ofNat m =>
    rw [show Int.ofNat m = (m : Int) from rfl, numStr_nat] at h
    have := dg_digits m c h
    omega
  | negSucc m =>
    rw [numStr_neg] at h
    rcases List.mem_cons.mp h with z | z
    · omega
    · have := dg_digits _ c z
      omega
theorem join_list (c : Nat) (w : Str) : ∀ r : List Str, (Str.join ⟨#[c]⟩ (w :: r)).cps.toList = w.cps.toList ++ (match r with | [] => [] | x :: y => c :: (Str.join ⟨#[c]⟩ (x :: y)).cps.toList)
  | [] => by simp [Str.join]
  | x :: y => by
    rw [join_cons_cons]
    show ((w.cps ++ #[c]) ++ (Str.join ⟨#[c]⟩ (x :: y)).cps).toList = _
    simp
theorem free_cut {c : Nat} : ∀ {a b a' b' : List Nat}, c ∉ a → c ∉ a' → a ++ c :: b = a' ++ c :: b' → a = a' ∧ b = b'
  | [], b, [], b', _, _, e => by simpa using e
  | [], b, x :: a', b', _, h, e => by
    injection e with e1 e2
    exact absurd (by rw [e1]; exact .head _) h
  | x :: a, b, [], b', h, _, e => by
    injection e with e1 e2
    exact absurd (by rw [← e1]; exact .head _) h
  | x :: a, b, y :: a', b', h, h', e => by
    injection e with e1 e2
    obtain ⟨z1, z2⟩ := free_cut (fun z => h (.tail _ z)) (fun z => h' (.tail _ z)) e2
    exact ⟨by rw [e1, z1], z2⟩
theorem str_ext {a b : Str} (h : a.cps.toList = b.cps.toList) : a = b := Str.ext' (Array.toList_inj.mp h)
theorem join_inj (c : Nat) : ∀ (ps ws : List Str), ps ≠ [] → ws ≠ [] → (∀ p ∈ ps, c ∉ p.cps.toList) → (∀ p ∈ ws, c ∉ p.cps.toList) → (Str.join ⟨#[c]⟩ ps).cps.toList = (Str.join ⟨#[c]⟩ ws).cps.toList → ps = ws
  | [], _, h, _, _, _, _ => absurd rfl h
  | _, [], _, h, _, _, _ => absurd rfl h
  | [p], [w], _, _, _, _, e => by
    rw [show p = w from str_ext e]
  | [p], w :: x :: r, _, _, hp, _, e => by
    rw [join_list, join_list] at e
    exfalso
    simp only [List.append_nil] at e
    exact hp p (.head _) (by rw [e]; simp)
  | p :: x :: r, [w], _, _, _, hw, e => by
    rw [join_list, join_list] at e
    exfalso
    simp only [List.append_nil] at e
    exact hw w (.head _) (by rw [← e]; simp)
  | p :: x :: r, w :: y :: t, _, _, hp, hw, e => by
    rw [join_list, join_list] at e
    obtain ⟨z1, z2⟩ := free_cut (hp p (.head _)) (hw w (.head _)) e
    rw [show p = w from str_ext z1, join_inj c (x :: r) (y :: t) (by simp) (by simp) (fun q hq => hp q (.tail _ hq)) (fun q hq => hw q (.tail _ hq)) z2]
theorem split_ne (z y : Str) : Txt.split z y ≠ [] := by
  unfold Txt.split
  split
  · simp
  · split
    · simp
    · rw [StrLaws.partsBetween_eq]
      obtain ⟨p, r, e⟩ := StrLaws.partsFrom_ne z y.length 0 (Builtin.Str.occurrences z y 0 z.length (z.length + 1))
      rw [e]
      simp
theorem split_join {c : Nat} {ws : List Str} (h : ws ≠ []) (hf : ∀ w ∈ ws, c ∉ w.cps.toList) : Txt.split (Txt.join ⟨#[c]⟩ ws) ⟨#[c]⟩ = ws := by
  refine join_inj c _ _ (split_ne _ _) h (StrLaws.split_free _ c) hf ?_
  rw [StrLaws.join_split]
  show (Builtin.Str.glued _ _).cps.toList = _
  rw [StrLaws.glued_eq_join]
open PySem L2 PyProof.Rows
theorem comp_str {z : Str} {σ0 : L2.St} {H1 : Hp} {te : TE} {Q : VK} (f : Nat → V) (hn : z.length ≤ 1000) (he : ∀ c ∈ z.cps.toList, ∀ (H' : Hp) (Q' : VK), Same H1 H' → (∀ H'', Same H' H'' → Q' (f c) H'') → te (σ0.set 0 (some (.str ⟨#[c]⟩))) H' Q')
    (fin : ∀ D H', H1 D = none → Same H1 H' → H' D = some (.lst (z.cps.toList.map f)) → Q (.ref D) H') : CompRun (Its z) (gName 0) tTrue te σ0 H1 Q := by
  intro D hD
  refine comp_by (n := z.cps.size) (fun i ys H' => Same H1 H' ∧ H' D = some (.lst ys) ∧ ys = (z.cps.toList.take i).map f) ⟨Same.new hD, upd_same, by simp⟩ (fun i ys H' _ q => q.2.1) (fun i ys H' hi _ => hi) (fun ys H' _ => Nat.le_refl _) ?_ ?_
  · rintro i ys H' x H2 hi ⟨s1, eD, rfl⟩ ⟨rfl, c, hc, rfl⟩
    unfold tTrue
    refine iteT ?_
    have hl : i < z.cps.toList.length := by simpa using hi
    have hc' : z.cps.toList[i]? = some c := by rw [Array.getElem?_toList]; exact hc
    have hm : c ∈ z.cps.toList := List.mem_of_getElem? hc'
    refine he c hm _ _ s1 fun H'' s2 => ⟨s2 _ _ eD, ?_, (s1.trans s2).upd hD, upd_same, ?_⟩
    · rw [List.length_map, List.length_take]
      have : z.cps.toList.length = z.length := str_len z
      exact small1000 (by omega)
    · rw [List.take_add_one, hc', List.map_append]
      rfl
  · rintro ys H' ⟨s1, eD, rfl⟩
    rw [show z.cps.size = z.cps.toList.length by simp, List.take_length] at eD
    exact fin D H' hD s1 eD
theorem comp_tab {K : PySem.W.Frag} {a : Addr} {α : Type} {ms : List α} {σ0 : L2.St} {H1 : Hp} {te : TE} {Q : VK} (u : α → V) (f : α → List Int) (hq : SqL K H1 a (ms.map u)) (hn : ms.length ≤ 1000)
    (he : ∀ m ∈ ms, ∀ (H' : Hp) (Q' : VK), Same H1 H' → (∀ p H'', H' p = none → Same H' H'' → Row H'' p (f m) → Q' (.ref p) H'') → te (σ0.set 0 (some (u m))) H' Q')
    (fin : ∀ t prs H', H1 t = none → (∀ p ∈ prs, H1 p.1 = none ∧ p.1 ≠ t) → (prs.map (·.1)).Nodup → Same H1 H' → Tab H' t prs → prs.map (·.2) = ms.map f → Q (.ref t) H') : CompRun (Itl K a) (gName 0) tTrue te σ0 H1 Q := by
  intro D hD
  refine comp_by (n := ms.length) (fun i ys H' => ∃ qs : Prs, Same H1 H' ∧ H' D = some (.lst ys) ∧ ys = (qs.map fun p => V.ref p.1) ∧ qs.length = i ∧ qs.map (·.2) = (ms.take i).map f ∧ (∀ p ∈ qs, Row H' p.1 p.2 ∧ H1 p.1 = none ∧ p.1 ≠ D) ∧ (qs.map (·.1)).Nodup)
    ⟨[], Same.new hD, upd_same, rfl, rfl, by simp, fun p hp => (nomatch hp), .nil⟩ (fun i ys H' _ ⟨_, _, h, _⟩ => h) (fun i ys H' hi ⟨_, sm, _⟩ => ⟨_, u ms[i], sm.seq hq, by simp [hi]⟩) (fun ys H' ⟨_, sm, _⟩ => ⟨_, sm.seq hq, by simp⟩) ?_ (fun ys H' h => ?_)
  · rintro i ys H' x H2 hi ⟨qs, sm, hDl, rfl, hql, hqm, hq', hnd⟩ ⟨rfl, hy⟩
    have hx := hy _ (sm.seq hq)
    rw [List.getElem?_map, List.getElem?_eq_getElem hi] at hx
    have hx : u ms[i] = x := Option.some.inj hx
    subst hx
    unfold tTrue
    refine iteT ?_
    refine he ms[i] (List.getElem_mem hi) _ _ sm fun l H'' hl s2 hR => ?_
    have nlD : D ≠ l := ne_of_none hDl hl
    refine ⟨s2 _ _ hDl, ?_, qs ++ [(l, f ms[i])], (sm.trans s2).upd hD, upd_same, ?_, ?_, ?_, ?_, ?_⟩
    · rw [List.length_map, hql]
      exact small1000 (by omega)
    · rw [List.map_append]
      rfl
    · rw [List.length_append, List.length_singleton, hql]
    · rw [List.map_append, hqm, List.take_add_one, List.getElem?_eq_getElem hi, List.map_append]
      rfl
    · intro p hp
      rcases List.mem_append.mp hp with z | z
      · obtain ⟨z1, z2, z3⟩ := hq' p z
        refine ⟨?_, z2, z3⟩
        unfold Row
        rw [upd_ne z3]
        exact s2 _ _ z1
      · rw [List.mem_singleton.mp z]
        refine ⟨?_, sm.free hl, Ne.symm nlD⟩
        unfold Row
        rw [upd_ne (Ne.symm nlD)]
        exact hR
    · rw [List.map_append, List.nodup_append]
      refine ⟨hnd, by simp, fun a ha b hb z => ?_⟩
      obtain ⟨p, hp, rfl⟩ := List.mem_map.mp ha
      rw [List.map_singleton, List.mem_singleton] at hb
      have e : p.1 = l := z.trans hb
      have hR := (hq' p hp).1
      unfold Row at hR
      rw [e, hl] at hR
      cases hR
  · obtain ⟨qs, sm, hDl, rfl, hql, hqm, hq', hnd⟩ := h
    rw [List.take_length] at hqm
    exact fin D qs H' hD (fun p hp => (hq' p hp).2) hnd sm ⟨hDl, fun p hp => (hq' p hp).1⟩ hqm
open PySem L2 PyProof.Rows
def isCnt (l : List Nat) : Bool := (!l.isEmpty && l.all fun c => decide (48 ≤ c) && decide (c ≤ 57)) && (decide (l = [48]) || decide (l.head? ≠ some 48))
def isNum (l : List Nat) : Bool := if l.head? = some 45 then decide (l ≠ [45, 48]) && isCnt l.tail else isCnt l
theorem dg_push {m c : Nat} (hm : 0 < m) (h1 : 48 ≤ c) (h2 : c ≤ 57) : dg (10 * m + (c - 48)) = dg m ++ [c] := by
  have hk : c - 48 < 10 := by omega
  have t : Nat.toDigits 10 m ++ Nat.toDigits 10 (c - 48) = Nat.toDigits 10 (10 * m + (c - 48)) := Nat.toDigits_append_toDigits (by decide) hm hk
  unfold dg
  rw [← t, List.map_append, Nat.toDigits_of_lt_base hk]
  have : ∀ k : Nat, k < 10 → (Nat.digitChar k).toNat = k + 48 := by decide
  rw [List.map_cons, this _ hk, List.map_nil, show c - 48 + 48 = c by omega]
theorem dg_one {c : Nat} (h1 : 48 ≤ c) (h2 : c ≤ 57) : dg (c - 48) = [c] := by
  have hk : c - 48 < 10 := by omega
  unfold dg
  rw [Nat.toDigits_of_lt_base hk]
  have : ∀ k : Nat, k < 10 → (Nat.digitChar k).toNat = k + 48 := by decide
  rw [List.map_cons, this _ hk, List.map_nil, show c - 48 + 48 = c by omega]
theorem figs_dg : ∀ (n : Nat) (l : List Nat), l.length = n + 1 → (∀ c ∈ l, 48 ≤ c ∧ c ≤ 57) → l.head? ≠ some 48 → ∃ m, 0 < m ∧ l = dg m
  | 0, l, hl, hd, hh => by
    match l, hl with
    | [c], _ =>
      have := hd c (by simp)
      have hc : c ≠ 48 := fun z => hh (by rw [z]; rfl)
      exact ⟨c - 48, by omega, (dg_one this.1 this.2).symm⟩
  | n + 1, l, hl, hd, hh => by
    have hne : l ≠ [] := fun z => by rw [z] at hl; simp at hl
    obtain ⟨l', c, rfl⟩ : ∃ l' c, l = l' ++ [c] := ⟨l.dropLast, l.getLast hne, (List.dropLast_concat_getLast hne).symm⟩
    have hl' : l'.length = n + 1 := by rw [List.length_append] at hl; simpa using hl
    have hh' : l'.head? ≠ some 48 := fun z => hh (by
      match l', hl' with
      | x :: r, _ => exact z)
    obtain ⟨m, m0, e⟩ := figs_dg n l' hl' (fun d h => hd d (List.mem_append_left _ h)) hh'
    have := hd c (by simp)
    exact ⟨10 * m + (c - 48), by omega, by rw [dg_push m0 this.1 this.2, ← e]⟩
theorem cnt_dg {l : List Nat} (h : isCnt l = true) : ∃ m, l = dg m := by
  unfold isCnt at h
  rw [Bool.and_eq_true, Bool.and_eq_true, Bool.or_eq_true] at h
  obtain ⟨⟨h1, h2⟩, h3⟩ := h
  have hd : ∀ c ∈ l, 48 ≤ c ∧ c ≤ 57 := fun c hc => by
    have := List.all_eq_true.mp h2 c hc
    simpa using this
  rcases h3 with h3 | h3
  · exact ⟨0, by rw [of_decide_eq_true h3]; decide⟩
  · have hl : ∃ n, l.length = n + 1 := by
      match l, h1 with
      | x :: r, _ => exact ⟨r.length, rfl⟩
    obtain ⟨n, hn⟩ := hl
    obtain ⟨m, _, e⟩ := figs_dg n l hn hd (of_decide_eq_true h3)
    exact ⟨m, e⟩
theorem dg_cnt (m : Nat) : isCnt (dg m) = true := by
  unfold isCnt
  rw [Bool.and_eq_true, Bool.and_eq_true, Bool.or_eq_true]
  refine ⟨⟨?_, ?_⟩, ?_⟩
  · have := dg_ne m
    cases h : dg m with
    | nil => exact absurd h this
    | cons x r => rfl
  · rw [List.all_eq_true]
    intro c hc
    have := dg_digits m c hc
    simpa using this
  · rcases Nat.eq_zero_or_pos m with z | z
    · subst z
      exact .inl (by decide)
    · obtain ⟨c, r, e, hc⟩ := dg_head m z
      refine .inr (decide_eq_true ?_)
      rw [e]
      intro k
      injection k with k
      exact hc k
theorem dg_h45 (m : Nat) : (dg m).head? ≠ some 45 := fun z => by
  have : (45 : Nat) ∈ dg m := by
    cases h : dg m with
    | nil => rw [h] at z; cases z
    | cons x r =>
      rw [h] at z
      injection z with z
      rw [z]
      exact List.mem_cons_self
  have := dg_digits m 45 this
  omega
theorem num_is (n : Int) : isNum (numStr n).cps.toList = true := by
  cases n with
  | ofNat m =>
    rw [show Int.ofNat m = (m : Int) from rfl, numStr_nat]
    unfold isNum
    rw [if_neg (dg_h45 m)]
    exact dg_cnt m
  | negSucc m =>
    rw [numStr_neg]
    unfold isNum
    rw [if_pos (show (45 :: dg (m + 1)).head? = some 45 from rfl), Bool.and_eq_true]
    refine ⟨decide_eq_true fun z => ?_, dg_cnt _⟩
    injection z with _ z
    obtain ⟨c, r, e, hc⟩ := dg_head (m + 1) (by omega)
    rw [e] at z
    injection z with z _
    exact hc z
theorem num_of {w : Str} (h : isNum w.cps.toList = true) : ∃ n : Int, w = numStr n := by
  unfold isNum at h
  by_cases hh : w.cps.toList.head? = some 45
  · rw [if_pos hh, Bool.and_eq_true] at h
    obtain ⟨h1, h2⟩ := h
    obtain ⟨m, e⟩ := cnt_dg h2
    have hw : w.cps.toList = 45 :: dg m := by
      cases hl : w.cps.toList with
      | nil => rw [hl] at hh; cases hh
      | cons x r =>
        rw [hl] at hh e
        injection hh with hh
        rw [hh, ← e]
        rfl
    match m, hw with
    | 0, hw => exact absurd hw (of_decide_eq_true h1)
    | k + 1, hw => exact ⟨Int.negSucc k, str_ext (by rw [hw, numStr_neg])⟩
  · rw [if_neg hh] at h
    obtain ⟨m, e⟩ := cnt_dg h
    exact ⟨(m : Int), str_ext (by rw [e, numStr_nat])⟩
theorem words_nums : ∀ {ws : List Str}, (∀ w ∈ ws, isNum w.cps.toList = true) → ∃ ns : List Int, ws = ns.map numStr
  | [], _ => ⟨[], rfl⟩
  | w :: ws, h => by
    obtain ⟨n, e⟩ := num_of (h w (by simp))
    obtain ⟨ns, es⟩ := words_nums (ws := ws) fun v hv => h v (List.mem_cons_of_mem _ hv)
    exact ⟨n :: ns, by rw [e, es]; rfl⟩
open PySem L2 PyProof.Rows
abbrev figS : Str := "0123456789"
theorem e_l : (Str.ofString "").cps.toList = [] := by decide +kernel
theorem z_l : (Str.ofString "0").cps.toList = [48] := by decide +kernel
theorem m_l : (Str.ofString "-").cps.toList = [45] := by decide +kernel
theorem mz_l : (Str.ofString "-0").cps.toList = [45, 48] := by decide +kernel
theorem starts_m (x : Str) : Txt.startswith x "-" = decide (x.cps.toList.head? = some 45) := by
  have h : Txt.startswith x "-" = (decide (0 + (Str.ofString "-").length ≤ x.length) && Builtin.Str.subAt x "-" 0) := rfl
  rw [h, StrLaws.subAt_eq, m_l, ← str_len x, ← str_len (Str.ofString "-"), m_l]
  cases e : x.cps.toList with
  | nil => simp
  | cons c r =>
    simp only [List.drop_zero, List.length_cons, List.length_nil, List.head?_cons, Option.some.injEq]
    by_cases hc : c = 45
    · subst hc; simp
    · rw [decide_eq_false hc]
      simp [hc]
section
variable {P : Program} {w : World} {K : PySem.W.Frag} {mg : Str → Option Value} {base : Heap} {c : Addr}
theorem fig_is (c : Nat) : (!(Builtin.Str.occurrences figS ⟨#[c]⟩ 0 figS.length 1).isEmpty) = (decide (48 ≤ c) && decide (c ≤ 57)) := by
  rw [StrLaws.found_one]
  have e : figS.cps.toList = [48, 49, 50, 51, 52, 53, 54, 55, 56, 57] := by decide +kernel
  rw [e, Bool.eq_iff_iff, decide_eq_true_iff, Bool.and_eq_true, decide_eq_true_iff, decide_eq_true_iff]
  simp only [List.mem_cons, List.not_mem_nil, or_false]
  omega
theorem vstr_iff {x y : Str} : (V.str x = V.str y) ↔ x.cps.toList = y.cps.toList := ⟨fun z => by injection z with z; rw [z], fun z => by rw [str_ext z]⟩
def spWCA : Sp := fun vs H Q _ => ∃ (x : Str), vs = [.str x] ∧ x.length ≤ 1000 ∧ ∀ H', Same H H' → Q (.bl (isCnt x.cps.toList)) H'
theorem sc_wcA : FnScope ["word"] ["word"] (defScope dWCount) := ⟨rfl, rfl, rfl, by decide +kernel, rfl, by decide +kernel, by decide +kernel⟩
set_option maxHeartbeats 4000000 in
theorem ok_wCountA (T : Blt mg) (hf : ∃ t, mg "FIGURES" = some (.str figS t)) (D : DefAt K mg "writes_count" dWCount ["word"]) : FnAt P w K mg base 1 "writes_count" ["word"] spWCA := by
  refine FnAt.of D sc_wcA (fun vs H Q E h => ?_) (fun f cdv A outer s H vs Q E hr h => ?_)
  · obtain ⟨x, rfl, _⟩ := h
    rfl
  · obtain ⟨x, rfl, hl, q⟩ := h
    obtain ⟨tf, hf⟩ := hf
    have nd1 : (["sign"] : List Str).Nodup := by decide +kernel
    refine ⟨_, pss_cons (ps_if (PW.pt (pw_or (pt_cmpR op_eq (pv 0) pe_str (nomark _)) (pw_or1 (pt_not (pt_val (pe_b (call_all rfl) T.all boot_all (pa_cons (pe_comp ["sign"] [none] (defScope dWCount) ["word"] rfl (pi_str (pv 0)) (by decide +kernel)
        (fun cl C s2 H2 ex => pg_c 0 nd1) (fun cl C s2 H2 ex => pifs_nil) (fun cl C s2 H2 ex => pe_cmpR op_in_str (pv 0) (pe_glob (v := .str figS) rfl hf ⟨_, rfl⟩) rfl)) pa_nil))))))) (pss_one (ps_ret pe_bl)) pss_nil)
      (pss_one (ps_ret (pe_or (pe_cmpR op_eq (pv 0) pe_str (nomark _)) (pe_one (pe_cmpR op_ne (pe_ix ix_str (pv 0) pe_int (fun _ _ => rfl)) pe_str (nomark _)))))), ?_⟩
    refine ⟨_, rfl, rfl, _, rfl, ?_⟩
    by_cases he : V.str x = V.str ""
    · rw [decide_eq_true he]
      have e : x.cps.toList = [] := by rw [vstr_iff.mp he, e_l]
      rw [e] at q
      exact iteT (iteT (q H (Same.refl _)))
    · rw [decide_eq_false he]
      have hne : x.cps.toList ≠ [] := fun z => he (vstr_iff.mpr (by rw [z, e_l]))
      refine iteF ⟨_, rfl, x, rfl, comp_str (fun c => V.bl (decide (48 ≤ c) && decide (c ≤ 57))) hl (fun c hc H' Q' sm q' => ⟨_, rfl, _, _, rfl, rfl, ?_⟩) fun D H1 hD s1 hDl => ?_⟩
      · rw [fig_is]
        exact q' _ (Same.refl _)
      · refine ⟨D, x.cps.toList.map fun c => (decide (48 ≤ c) && decide (c ≤ 57)), rfl, SqL.of (by rw [hDl, List.map_map]; rfl), ⟨_, rfl, ?_⟩⟩
        have ea : ((x.cps.toList.map fun c => (decide (48 ≤ c) && decide (c ≤ 57))).all id) = x.cps.toList.all fun c => (decide (48 ≤ c) && decide (c ≤ 57)) := by rw [List.all_map]; rfl
        rw [ea]
        unfold isCnt at q
        have hie : (!x.cps.toList.isEmpty) = true := by
          cases h : x.cps.toList with
          | nil => exact absurd h hne
          | cons a r => rfl
        rw [hie, Bool.true_and] at q
        cases hall : (x.cps.toList.all fun c => (decide (48 ≤ c) && decide (c ≤ 57))) with
        | false =>
          rw [hall, Bool.false_and] at q
          exact iteT (q H1 s1)
        | true =>
          rw [hall, Bool.true_and] at q
          refine iteF ⟨_, rfl, rfl, _, rfl, ?_⟩
          by_cases h0 : V.str x = V.str "0"
          · have e0 : x.cps.toList = [48] := by rw [vstr_iff.mp h0, z_l]
            rw [decide_eq_true h0]
            rw [decide_eq_true e0, Bool.true_or] at q
            exact iteT (q H1 s1)
          · have e0 : x.cps.toList ≠ [48] := fun z => h0 (vstr_iff.mpr (by rw [z, z_l]))
            rw [decide_eq_false h0]
            rw [decide_eq_false e0, Bool.false_or] at q
            obtain ⟨a, r, ar⟩ : ∃ a r, x.cps.toList = a :: r := by
              cases h : x.cps.toList with
              | nil => exact absurd h hne
              | cons a r => exact ⟨a, r, rfl⟩
            refine iteF ⟨_, rfl, x, ((0 : Nat) : Int), a, rfl, rfl, sl6 hl, atI_nat (j := 0) (by rw [ar]; rfl), rfl, ?_⟩
            rw [ar] at q
            have eq1 : (!decide (V.str ⟨#[a]⟩ = V.str "0")) = decide ((a :: r).head? ≠ some 48) := by
              rw [show (a :: r).head? = some a from rfl]
              by_cases ha : a = 48
              · subst ha
                rw [decide_eq_true (vstr_iff.mpr (by rw [z_l]))]
                simp
              · rw [decide_eq_false (fun z => ha (by have := vstr_iff.mp z; rw [z_l] at this; simpa using this)), decide_eq_true (show ¬ (some a = some 48) from fun z => ha (by injection z))]
                rfl
            rw [eq1]
            exact q H1 s1
def spWNA : Sp := fun vs H Q _ => ∃ (x : Str), vs = [.str x] ∧ x.length ≤ 1000 ∧ ∀ H', Same H H' → Q (.bl (isNum x.cps.toList)) H'
theorem sc_wnA : FnScope ["word"] ["word"] (defScope dWNumber) := ⟨rfl, rfl, rfl, by decide +kernel, rfl, by decide +kernel, by decide +kernel⟩
theorem slice1 {x : Str} (h : x.cps.toList ≠ []) : (Txt.slice x (some 1) none).cps.toList = x.cps.toList.tail := by
  obtain ⟨a, r, ar⟩ : ∃ a r, x.cps.toList = a :: r := by
    cases h' : x.cps.toList with
    | nil => exact absurd h' h
    | cons a r => exact ⟨a, r, rfl⟩
  have hh := StrLaws.sliceText_from (x := x) (i := 1) ⟨by decide, by rw [ar, List.length_cons]; omega⟩
  rw [show Txt.slice x (some 1) none = StrLaws.sliceText x (some 1) none from rfl, hh, ar, List.length_cons]
  have : ((r.length + 1 : Nat) - 1 : Int).toNat = r.length := by omega
  rw [this, show (1 : Int).toNat = 1 from rfl, List.drop_succ_cons, List.drop_zero, List.take_length]
  rfl
set_option maxHeartbeats 4000000 in
theorem ok_wNumberA (D : DefAt K mg "writes_number" dWNumber ["word"]) (G : FnAt P w K mg base 1 "writes_count" ["word"] spWCA) : FnAt P w K mg base 2 "writes_number" ["word"] spWNA := by
  refine FnAt.of D sc_wnA (fun vs H Q E h => ?_) (fun f cdv A outer s H vs Q E hr h => ?_)
  · obtain ⟨x, rfl, _⟩ := h
    rfl
  · obtain ⟨x, rfl, hl, q⟩ := h
    refine ⟨_, pss_cons (ps_if (pt_val (pe_bm F.plainAttrs_str F.slot_str_startswith F.type_str_startswith mt_starts (pv 0) (pa_cons pe_str pa_nil))) (pss_one (ps_ret (pe_and (pe_cmpR op_ne (pv 0) pe_str (nomark _)) (pe_one (pe_f G hr (pa_cons (pe_slice sl_str (pv 0) (po_some pe_int) po_none) pa_nil)))))) pss_nil)
      (pss_one (ps_ret (pe_f G hr (pa_cons (pv 0) pa_nil)))), ?_⟩
    refine ⟨_, rfl, rfl, _, _, rfl, rfl, _, rfl, ?_⟩
    rw [starts_m]
    unfold isNum at q
    by_cases hh : x.cps.toList.head? = some 45
    · rw [decide_eq_true hh]
      rw [if_pos hh] at q
      have hne : x.cps.toList ≠ [] := fun z => by rw [z] at hh; cases hh
      refine iteT ⟨_, rfl, rfl, _, rfl, ?_⟩
      by_cases h0 : V.str x = V.str "-0"
      · have e0 : x.cps.toList = [45, 48] := by rw [vstr_iff.mp h0, mz_l]
        rw [decide_eq_true h0]
        rw [show decide (x.cps.toList ≠ [45, 48]) = false from decide_eq_false (fun z => z e0), Bool.false_and] at q
        exact iteF (q H (Same.refl _))
      · have e0 : x.cps.toList ≠ [45, 48] := fun z => h0 (vstr_iff.mpr (by rw [z, mz_l]))
        rw [decide_eq_false h0]
        rw [show decide (x.cps.toList ≠ [45, 48]) = true from decide_eq_true e0, Bool.true_and, ← slice1 hne] at q
        exact iteT ⟨_, rfl, _, rfl, _, rfl, sl6 hl, _, rfl, Nat.le_trans (Txt.slice_le x _ _) hl, q⟩
    · rw [decide_eq_false hh]
      rw [if_neg hh] at q
      exact iteF ⟨_, rfl, x, rfl, hl, q⟩
end
open PySem L2 PyProof.Rows
theorem boot_str9 : bootBuiltins "str" = some (.type "str") := by kernel_rfl
theorem sp_eq : (Str.ofString " ") = ⟨#[32]⟩ := by decide +kernel
theorem nl_eq : (Str.ofString "\n") = ⟨#[10]⟩ := by decide +kernel
def rowS (r : List Int) : Str := Txt.join " " (r.map numStr)
def tabS (rows : List (List Int)) : Str := Txt.join "\n" (rows.map rowS)
theorem join_free {c d : Nat} (hcd : d ≠ c) : ∀ {ws : List Str}, (∀ w ∈ ws, d ∉ w.cps.toList) → d ∉ (Str.join ⟨#[c]⟩ ws).cps.toList
  | [], _ => by
    show d ∉ Str.empty.cps.toList
    simp [Str.empty]
  | [w], h => h w (.head _)
  | w :: x :: r, h => by
    rw [join_list]
    intro z
    rcases List.mem_append.mp z with z | z
    · exact h w (.head _) z
    · rcases List.mem_cons.mp z with z | z
      · exact hcd z
      · exact join_free hcd (fun y hy => h y (.tail _ hy)) z
theorem txt_join (c : Nat) (ws : List Str) : Txt.join ⟨#[c]⟩ ws = Str.join ⟨#[c]⟩ ws := StrLaws.glued_eq_join _ _
theorem join_len {c B : Nat} {ws : List Str} (h : ∀ w ∈ ws, w.length ≤ B) : (Txt.join ⟨#[c]⟩ ws).length ≤ ws.length * (B + 1) := by
  rw [txt_join]
  have h1 := StrLaws.join_length_le ⟨#[c]⟩ ws
  have h2 := StrLaws.sumLen_le (B := B) ws h
  have h3 : (⟨#[c]⟩ : Str).length = 1 := rfl
  rw [h3] at h1
  rw [Nat.mul_add]
  omega
theorem join_ok {c B : Nat} {ws : List Str} (h : ∀ w ∈ ws, w.length ≤ B) (hz : ws.length * (B + 1) ≤ 1000000) : JoinOk ⟨#[c]⟩ ws = true := by
  unfold JoinOk
  rw [Bool.not_eq_true']
  refine StrLaws.joinFits h ?_
  have h3 : (⟨#[c]⟩ : Str).length = 1 := rfl
  rw [h3]
  rw [Nat.mul_add] at hz
  omega
theorem rowS_len {r : List Int} {B : Nat} (h : ∀ n ∈ r, (numStr n).length ≤ B) : (rowS r).length ≤ r.length * (B + 1) := by
  unfold rowS
  rw [sp_eq]
  have := join_len (c := 32) (ws := r.map numStr) (B := B) (fun w hw => by
    obtain ⟨n, hn, rfl⟩ := List.mem_map.mp hw
    exact h n hn)
  rw [List.length_map] at this
  exact this
theorem rowS_split {r : List Int} (h : r ≠ []) : Txt.split (rowS r) " " = r.map numStr := by
  unfold rowS
  rw [sp_eq]
  exact split_join (by simpa using h) fun w hw => by
    obtain ⟨n, hn, rfl⟩ := List.mem_map.mp hw
    exact num_free (by decide)
theorem rowS_free (r : List Int) : 10 ∉ (rowS r).cps.toList := by
  unfold rowS
  rw [sp_eq, txt_join]
  exact join_free (by decide) fun w hw => by
    obtain ⟨n, hn, rfl⟩ := List.mem_map.mp hw
    exact num_free (by decide)
theorem tabS_split {rows : List (List Int)} (h : rows ≠ []) : Txt.split (tabS rows) "\n" = rows.map rowS := by
  unfold tabS
  rw [nl_eq]
  exact split_join (by simpa using h) fun w hw => by
    obtain ⟨r, hr, rfl⟩ := List.mem_map.mp hw
    exact rowS_free r
theorem tabS_len {rows : List (List Int)} {B M : Nat} (h : ∀ r ∈ rows, (rowS r).length ≤ B) (hM : rows.length * (B + 1) ≤ M) : (tabS rows).length ≤ M := by
  unfold tabS
  rw [nl_eq]
  have := join_len (c := 10) (ws := rows.map rowS) (B := B) (fun w hw => by
    obtain ⟨r, hr, rfl⟩ := List.mem_map.mp hw
    exact h r hr)
  rw [List.length_map] at this
  omega
theorem join_mem {c : Nat} : ∀ {ws : List Str}, ∀ w ∈ ws, w.cps.toList.length ≤ (Str.join ⟨#[c]⟩ ws).cps.toList.length
  | [w], v, h => by
    rw [List.mem_singleton.mp h]
    exact Nat.le_refl _
  | w :: x :: r, v, h => by
    rw [join_list, List.length_append, List.length_cons]
    rcases List.mem_cons.mp h with z | z
    · rw [z]
      exact Nat.le_add_right _ _
    · have := join_mem (c := c) (ws := x :: r) v z
      omega
theorem join_cnt {c : Nat} : ∀ {ws : List Str}, ws.length ≤ (Str.join ⟨#[c]⟩ ws).cps.toList.length + 1
  | [] => Nat.zero_le _
  | [w] => by simp
  | w :: x :: r => by
    rw [join_list, List.length_append]
    have := join_cnt (c := c) (ws := x :: r)
    show (x :: r).length + 1 ≤ w.cps.toList.length + ((Str.join ⟨#[c]⟩ (x :: r)).cps.toList.length + 1) + 1
    omega
theorem part_len {x : Str} {c : Nat} : ∀ w ∈ Txt.split x ⟨#[c]⟩, w.length ≤ x.length := fun w hw => by
  have := join_mem (c := c) w hw
  rw [StrLaws.join_split, str_len, str_len] at this
  exact this
theorem part_cnt (x : Str) (c : Nat) : (Txt.split x ⟨#[c]⟩).length ≤ x.length + 1 := by
  have := join_cnt (c := c) (ws := Txt.split x ⟨#[c]⟩)
  rw [StrLaws.join_split, str_len] at this
  exact this
def lineB (x : Str) : Bool := (Txt.split x " ").all fun w => isNum w.cps.toList
theorem line_of {x : Str} (h : lineB x = true) : ∃ ns : List Int, ns ≠ [] ∧ x = rowS ns ∧ Txt.split x " " = ns.map numStr := by
  obtain ⟨ns, e⟩ := words_nums (ws := Txt.split x " ") fun w hw => List.all_eq_true.mp h w hw
  refine ⟨ns, fun z => split_ne x " " (by rw [e, z]; rfl), ?_, e⟩
  unfold rowS
  rw [← e, sp_eq, txt_join, StrLaws.join_split]
theorem rowS_line {ns : List Int} (h : ns ≠ []) : lineB (rowS ns) = true := by
  unfold lineB
  rw [rowS_split h, List.all_eq_true]
  intro w hw
  obtain ⟨n, _, rfl⟩ := List.mem_map.mp hw
  exact num_is n
def textB (x : Str) : Bool := (Txt.split x "\n").all lineB
theorem lines_of : ∀ {ls : List Str}, (∀ l ∈ ls, lineB l = true) → ∃ rows : List (List Int), (∀ r ∈ rows, r ≠ []) ∧ ls = rows.map rowS
  | [], _ => ⟨[], (fun r h => nomatch h), rfl⟩
  | l :: ls, h => by
    obtain ⟨ns, hne, e, _⟩ := line_of (h l (by simp))
    obtain ⟨rows, hr, er⟩ := lines_of (ls := ls) fun v hv => h v (List.mem_cons_of_mem _ hv)
    refine ⟨ns :: rows, fun r hr' => ?_, by rw [e, er]; rfl⟩
    rcases List.mem_cons.mp hr' with z | z
    · rw [z]; exact hne
    · exact hr r z
theorem text_of {x : Str} (h : textB x = true) : ∃ rows : List (List Int), rows ≠ [] ∧ (∀ r ∈ rows, r ≠ []) ∧ x = tabS rows ∧ Txt.split x "\n" = rows.map rowS := by
  obtain ⟨rows, hr, e⟩ := lines_of (ls := Txt.split x "\n") fun w hw => List.all_eq_true.mp h w hw
  refine ⟨rows, fun z => split_ne x "\n" (by rw [e, z]; rfl), hr, ?_, e⟩
  unfold tabS
  rw [← e, nl_eq, txt_join, StrLaws.join_split]
section
variable {P : Program} {w : World} {K : PySem.W.Frag} {mg : Str → Option Value} {base : Heap} {c : Addr}
def spRRA : Sp := fun vs H Q _ => ∃ (x : Str) (ns : List Int), vs = [.str x] ∧ x.length ≤ 600 ∧ Txt.split x " " = ns.map numStr ∧ ∀ p H', H p = none → Same H H' → Row H' p ns → Q (.ref p) H'
theorem sc_rrA : FnScope ["line", "words"] ["line"] (defScope dReadRow) := ⟨rfl, rfl, rfl, by decide +kernel, rfl, by decide +kernel, by decide +kernel⟩
set_option maxHeartbeats 4000000 in
theorem ok_readRowA (T : Blt mg) (D : DefAt K mg "read_row" dReadRow ["line"]) (G : FnAt P w K mg base 2 "writes_number" ["word"] spWNA) : FnAt P w K mg base 3 "read_row" ["line"] spRRA := by
  refine FnAt.of D sc_rrA (fun vs H Q E h => ?_) (fun f cdv A outer s H vs Q E hr h => ?_)
  · obtain ⟨x, ns, rfl, _⟩ := h
    rfl
  · obtain ⟨x, ns, rfl, hl, hw, q⟩ := h
    have nd := sc_rrA.nd
    have nd1 : (["word"] : List Str).Nodup := by decide +kernel
    have wl : ∀ n ∈ ns, (numStr n).length ≤ 600 := fun n hn => by
      have h1 := part_len (x := x) (c := 32) (numStr n) (by rw [← sp_eq, hw]; exact List.mem_map.mpr ⟨n, hn, rfl⟩)
      omega
    have nl : ns.length ≤ 601 := by
      have h1 := part_cnt x 32
      rw [← sp_eq, hw, List.length_map] at h1
      omega
    refine ⟨_, pss_cons (ps_set (i := 1) nd rfl (Or.inl rfl) (pe_bm F.plainAttrs_str F.slot_str_split F.type_str_split mt_split (pv 0) (pa_cons pe_str pa_nil)))
      (pss_cons (ps_if (pt_not (pt_val (pe_b (call_all rfl) T.all boot_all (pa_cons (pe_comp ["word"] [none] (defScope dReadRow) ["line", "words"] rfl (pi_list (pv 1)) (by decide +kernel)
        (fun cl C s2 H2 ex => pg_c 0 nd1) (fun cl C s2 H2 ex => pifs_nil) (fun cl C s2 H2 ex => pe_f G hr (pa_cons (pv 0) pa_nil))) pa_nil)))) pss_never pss_nil)
      (pss_one (ps_ret (pe_comp ["word"] [none] (defScope dReadRow) ["line", "words"] rfl (pi_list (pv 1)) (by decide +kernel)
        (fun cl C s2 H2 ex => pg_c 0 nd1) (fun cl C s2 H2 ex => pifs_nil) (fun cl C s2 H2 ex => pe_t call_intT T.int boot_int (pa_cons (pv 0) pa_nil)))))), ?_⟩
    refine ⟨_, rfl, rfl, _, _, rfl, rfl, by decide +kernel, by omega, fun p hp => ?_⟩
    rw [hw]
    have s1 := Same.new (o := .lst ((ns.map numStr).map V.str)) hp
    have e1 : (upd H p (.lst ((ns.map numStr).map V.str))) p = some (.lst ((ns.map numStr).map V.str)) := upd_same
    generalize upd H p (.lst ((ns.map numStr).map V.str)) = H1 at s1 e1 ⊢
    rw [List.map_map] at e1
    refine ⟨_, rfl, p, rfl, ⟨_, SqL.of e1⟩, comp_map (ms := ns) (V.str ∘ numStr) (fun _ => V.bl true) (SqL.of e1) (sl6 (by omega)) (fun n hn H' Q' sm q' => ⟨_, rfl, numStr n, rfl, by have := wl n hn; omega, fun H'' s'' => by rw [num_is]; exact q' H'' s''⟩) fun D2 H2 hD2 s2 eD2 => ?_⟩
    refine ⟨D2, ns.map fun _ => true, rfl, SqL.of (by rw [eD2, List.map_map]; rfl), ⟨_, rfl, ?_⟩⟩
    rw [show (ns.map fun _ => true).all id = true by rw [List.all_map]; simp]
    refine iteF ⟨_, rfl, p, rfl, ⟨_, SqL.of (s2 _ _ e1)⟩, comp_map (ms := ns) (V.str ∘ numStr) V.int (SqL.of (s2 _ _ e1)) (sl6 (by omega)) (fun n hn H' Q' sm q' => ⟨_, rfl, numStr n, n, rfl, num_read (by have := wl n hn; omega), by have := wl n hn; omega, q' _ (Same.refl _)⟩) fun D3 H3 hD3 s3 eD3 => ?_⟩
    exact q D3 H3 ((s1.trans s2).free hD3) (s1.trans (s2.trans s3)) eD3
def spRRX (c : Addr) : Sp := fun vs H _ E => ∃ (x : Str), vs = [.str x] ∧ x.length ≤ 600 ∧ lineB x = false ∧ ∀ H', Same H H' → E (.ref c) none H'
set_option maxHeartbeats 4000000 in
theorem ok_readRowX (T : Blt mg) (hk : ExcK K c) (hm : mg "NoText" = some (.ref c)) (D : DefAt K mg "read_row" dReadRow ["line"]) (G : FnAt P w K mg base 2 "writes_number" ["word"] spWNA) : FnAtX P w K mg base 3 "read_row" ["line"] (spRRX c) := by
  refine FnAtX.of D sc_rrA (fun vs H Q E h => ?_) (fun f cdv A outer s H vs Q E hr h => ?_)
  · obtain ⟨x, rfl, _⟩ := h
    rfl
  · obtain ⟨x, rfl, hl, hb, he⟩ := h
    have nd := sc_rrA.nd
    have nd1 : (["word"] : List Str).Nodup := by decide +kernel
    refine ⟨_, pss_cons (ps_set (i := 1) nd rfl (Or.inl rfl) (pe_bm F.plainAttrs_str F.slot_str_split F.type_str_split mt_split (pv 0) (pa_cons pe_str pa_nil)))
      (pss_cons (ps_if (pt_not (pt_val (pe_b (call_all rfl) T.all boot_all (pa_cons (pe_comp ["word"] [none] (defScope dReadRow) ["line", "words"] rfl (pi_list (pv 1)) (by decide +kernel)
        (fun cl C s2 H2 ex => pg_c 0 nd1) (fun cl C s2 H2 ex => pifs_nil) (fun cl C s2 H2 ex => pe_f G hr (pa_cons (pv 0) pa_nil))) pa_nil)))) (pss_one (ps_raise throws_def hk pe_str hm)) pss_nil) pss_never), ?_⟩
    have wl : ∀ w ∈ Txt.split x " ", w.length ≤ 1000 := fun w hw => by
      have h1 := part_len (x := x) (c := 32) w (by rw [← sp_eq]; exact hw)
      omega
    have nl : (Txt.split x " ").length ≤ 601 := by
      have h1 := part_cnt x 32
      rw [← sp_eq] at h1
      omega
    refine ⟨_, rfl, rfl, _, _, rfl, rfl, by decide +kernel, by omega, fun p hp => ?_⟩
    have s1 := Same.new (o := .lst ((Txt.split x " ").map V.str)) hp
    have e1 : (upd H p (.lst ((Txt.split x " ").map V.str))) p = some (.lst ((Txt.split x " ").map V.str)) := upd_same
    generalize upd H p (.lst ((Txt.split x " ").map V.str)) = H1 at s1 e1 ⊢
    refine ⟨_, rfl, p, rfl, ⟨_, SqL.of e1⟩, comp_map (ms := Txt.split x " ") V.str (fun w => V.bl (isNum w.cps.toList)) (SqL.of e1) (sl6 (by omega)) (fun w hw H' Q' sm q' => ⟨_, rfl, w, rfl, wl w hw, fun H'' s'' => q' H'' s''⟩) fun D2 H2 hD2 s2 eD2 => ?_⟩
    refine ⟨D2, (Txt.split x " ").map fun w => isNum w.cps.toList, rfl, SqL.of (by rw [eD2, List.map_map]; rfl), ⟨_, rfl, ?_⟩⟩
    rw [show ((Txt.split x " ").map fun w => isNum w.cps.toList).all id = lineB x by rw [List.all_map]; rfl, hb]
    exact iteT (he H2 (s1.trans s2))
end
end Seek
namespace L2
open PySem PySem.Spec PyProof.Rows
section
variable {X : Cx}
theorem mt_stripC : MtR X "str.strip" (fun x vs H Q => ∃ (z y : Str), x = .str z ∧ vs = [.str y] ∧ z.length ≤ sizeLine ∧ Q (.str (Txt.stripChars z y)) H) := by
  intro pins s σ H x vs v us Q I rx rv h
  obtain ⟨z, y, rfl, rfl, hz, q⟩ := h
  obtain ⟨t, rfl⟩ := rx
  obtain ⟨u, rfl, ru⟩ := rv.one
  obtain ⟨tu, rfl⟩ := ru
  exact SC.stripChars (fun t' k => ⟨.str _, H, I.tok _, ⟨_, rfl⟩, q⟩) hz
end
end L2
namespace Seek
open PySem L2 PyProof.Rows
theorem cont_fig (c : Nat) : figS.cps.contains c = (decide (48 ≤ c) && decide (c ≤ 57)) := by
  have e : figS.cps.toList = [48, 49, 50, 51, 52, 53, 54, 55, 56, 57] := by decide +kernel
  rw [← Array.contains_toList, e, Bool.eq_iff_iff, List.contains_iff_mem, Bool.and_eq_true, decide_eq_true_iff, decide_eq_true_iff]
  simp only [List.mem_cons, List.not_mem_nil, or_false]
  omega
theorem tw_self {p : Nat → Bool} : ∀ {l : List Nat}, (∀ c ∈ l, p c = true) ↔ l.takeWhile p = l
  | [] => by simp
  | a :: l => by
    rw [List.takeWhile_cons]
    cases h : p a with
    | true =>
      have ih := tw_self (p := p) (l := l)
      constructor
      · intro k
        show a :: l.takeWhile p = a :: l
        rw [ih.mp fun c hc => k c (List.mem_cons_of_mem _ hc)]
      · intro k c hc
        have k : a :: l.takeWhile p = a :: l := k
        injection k with _ k
        rcases List.mem_cons.mp hc with z | z
        · rw [z]; exact h
        · exact ih.mpr k c z
    | false =>
      constructor
      · intro k
        have := k a List.mem_cons_self
        rw [h] at this
        cases this
      · intro k
        exact nomatch k
theorem strip_x (z : Str) : (Txt.stripChars ("x" ++ z) figS).cps.toList = [120] ↔ (z.cps.toList.all fun c => decide (48 ≤ c) && decide (c ≤ 57)) = true := by
  have hx : (("x" : Str) ++ z).cps.toList = 120 :: z.cps.toList := by
    show (("x" : Str).cps ++ z.cps).toList = _
    rw [Array.toList_append, show ("x" : Str).cps.toList = [120] by decide +kernel]
    rfl
  have hs : Txt.stripChars ("x" ++ z) figS = Txt.stripBy figS.cps.contains true true ("x" ++ z) := rfl
  have hlen : (("x" : Str) ++ z).length = z.cps.toList.length + 1 := by rw [← str_len, hx, List.length_cons]
  rw [hs, stripBy_eq]
  have g1 : figS.cps.contains 120 = false := by rw [cont_fig]; decide
  have hlo : stripLo figS.cps.contains true ("x" ++ z) = 0 := by
    unfold stripLo
    rw [if_pos rfl, hx, List.takeWhile_cons, g1]
    rfl
  rw [hlo]
  have hhi : stripHi figS.cps.contains true ("x" ++ z) 0 = z.cps.toList.length + 1 - (z.cps.toList.reverse.takeWhile figS.cps.contains).length := by
    unfold stripHi
    rw [if_pos rfl, hlen, hx, List.drop_zero, List.reverse_cons, List.takeWhile_append]
    split
    · rw [List.takeWhile_cons, g1]
      have : (z.cps.toList.reverse.takeWhile figS.cps.contains).length = z.cps.toList.reverse.length := ‹_›
      rw [this, List.length_append]
      simp
    · rfl
  rw [hhi]
  have sub : ∀ k, (Builtin.Str.strSub ("x" ++ z) 0 k).cps.toList = (120 :: z.cps.toList).take k := fun k => by
    show ((("x" : Str) ++ z).cps.extract 0 k).toList = _
    rw [Array.toList_extract, hx]
    simp [List.extract]
  rw [sub]
  have hle : (z.cps.toList.reverse.takeWhile figS.cps.contains).length ≤ z.cps.toList.length := by
    have := (List.takeWhile_prefix (l := z.cps.toList.reverse) figS.cps.contains).length_le
    rwa [List.length_reverse] at this
  have hall : (z.cps.toList.all fun c => decide (48 ≤ c) && decide (c ≤ 57)) = true ↔ (z.cps.toList.reverse.takeWhile figS.cps.contains).length = z.cps.toList.length := by
    constructor
    · intro h
      have : z.cps.toList.reverse.takeWhile figS.cps.contains = z.cps.toList.reverse := by
        refine tw_self.mp fun c hc => ?_
        rw [cont_fig]
        exact List.all_eq_true.mp h c (List.mem_reverse.mp hc)
      rw [this, List.length_reverse]
    · intro h
      have e : z.cps.toList.reverse.takeWhile figS.cps.contains = z.cps.toList.reverse := (List.takeWhile_prefix figS.cps.contains).eq_of_length (by rw [h, List.length_reverse])
      rw [List.all_eq_true]
      intro c hc
      have := tw_self.mpr e c (List.mem_reverse.mpr hc)
      rwa [cont_fig] at this
  rw [hall]
  constructor
  · intro h
    have := congrArg List.length h
    rw [List.length_take, List.length_cons, List.length_singleton] at this
    omega
  · intro h
    rw [h, show z.cps.toList.length + 1 - z.cps.toList.length = 1 by omega]
    rfl
open PySem L2 PyProof.Rows
theorem slice0 (x : Str) : (Txt.slice x (some 0) none).cps.toList = x.cps.toList := by
  have hh := StrLaws.sliceText_from (x := x) (i := 0) ⟨by decide, by omega⟩
  rw [show Txt.slice x (some 0) none = StrLaws.sliceText x (some 0) none from rfl, hh]
  have : ((x.cps.toList.length : Nat) - 0 : Int).toNat = x.cps.toList.length := by omega
  rw [this, show (0 : Int).toNat = 0 from rfl, List.drop_zero, List.take_length]
def figsOf (l : List Nat) : List Nat := if l.head? = some 45 then l.tail else l
theorem num_figs (l : List Nat) : isNum l = ((!(figsOf l).isEmpty && (figsOf l).all fun c => decide (48 ≤ c) && decide (c ≤ 57)) && !decide (l = [45, 48]) && !(decide (1 < (figsOf l).length) && decide ((figsOf l).head? = some 48))) := by
  have key : ∀ f : List Nat, isCnt f = ((!f.isEmpty && f.all fun c => decide (48 ≤ c) && decide (c ≤ 57)) && !(decide (1 < f.length) && decide (f.head? = some 48))) := fun f => by
    unfold isCnt
    cases f with
    | nil => rfl
    | cons a r =>
      congr 1
      cases r with
      | nil =>
        show (decide ([a] = [48]) || decide (some a ≠ some 48)) = !(decide (1 < 1) && decide (some a = some 48))
        by_cases h : a = 48
        · subst h; rfl
        · simp [h]
      | cons b r =>
        have h1 : decide (a :: b :: r = [48]) = false := decide_eq_false (fun z => by simp at z)
        have h2 : decide (1 < (a :: b :: r).length) = true := decide_eq_true (by simp)
        rw [h1, h2, Bool.false_or, Bool.true_and]
        by_cases h : a = 48
        · subst h; rfl
        · simp [h]
  unfold isNum figsOf
  by_cases h : l.head? = some 45
  · rw [if_pos h, if_pos h, key]
    by_cases e : l = [45, 48]
    · subst e; rfl
    · rw [show decide (l ≠ [45, 48]) = true from decide_eq_true e, decide_eq_false e, Bool.true_and]
      simp
  · rw [if_neg h, if_neg h, key, decide_eq_false (show ¬ l = [45, 48] from fun z => h (by rw [z]; rfl)), Bool.not_false, Bool.and_true]
section
variable {P : Program} {w : World} {K : PySem.W.Frag} {mg : Str → Option Value} {base : Heap}
def spLNum : Sp := fun vs H Q _ => ∃ (x : Str), vs = [.str x] ∧ x.length ≤ 600 ∧ ∀ v, ((∃ n, x = numStr n ∧ v = .int n) ∨ (isNum x.cps.toList = false ∧ v = .non)) → Q v H
theorem sc_lnum : FnScope ["word", "figures"] ["word"] (defScope dLNumber) := ⟨rfl, rfl, rfl, by decide +kernel, rfl, by decide +kernel, by decide +kernel⟩
theorem x_l : (Str.ofString "x").cps.toList = [120] := by decide +kernel
set_option maxHeartbeats 8000000 in
theorem ok_lnum (T : Blt mg) (D : DefAt K mg "_law_number" dLNumber ["word"]) : FnAt P w K mg base 1 "_law_number" ["word"] spLNum := by
  refine FnAt.of D sc_lnum (fun vs H Q E h => ?_) (fun f cdv A outer s H vs Q E hr h => ?_)
  · obtain ⟨x, rfl, _⟩ := h
    rfl
  · obtain ⟨x, rfl, hl, q⟩ := h
    have nd := sc_lnum.nd
    refine ⟨_, pss_cons (ps_set (i := 1) nd rfl (Or.inl rfl) (pe_slice sl_str (pv 0) (po_some (pe_t call_int1 T.int boot_int (pa_cons (pe_cmpR op_eq (pe_slice sl_str (pv 0) po_none (po_some pe_int)) pe_str (nomark _)) pa_nil))) po_none))
      (pss_cons (ps_if (PW.pt (pw_or (pt_cmpR op_eq (pv 1) pe_str (nomark _)) (pw_or (pt_cmpR op_ne (pe_bm F.plainAttrs_str F.slot_str_strip F.type_str_strip mt_stripC (pe_op op_add_str pe_str (pv 1)) (pa_cons pe_str pa_nil)) pe_str (nomark _)) (pw_or1 (pt_cmpR op_eq (pv 0) pe_str (nomark _)))))) (pss_one (ps_ret pe_non)) pss_nil)
      (pss_cons (ps_if (PW.pt (pw_and (pt_cmpR o_gt (pe_b call_len_str T.len boot_len (pa_cons (pv 1) pa_nil)) pe_int (nomark _)) (pw_and1 (pt_cmpR op_eq (pe_ix ix_str (pv 1) pe_int (fun _ _ => rfl)) pe_str (nomark _))))) (pss_one (ps_ret pe_non)) pss_nil)
      (pss_one (ps_ret (pe_t call_intT T.int boot_int (pa_cons (pv 0) pa_nil)))))), ?_⟩
    have lx : x.length ≤ sizeLine := sl6 (by omega)
    have h1 : (V.str (Txt.slice x none (some 1)) = V.str "-") ↔ x.cps.toList.head? = some 45 := by
      rw [vstr_iff, m_l]
      cases hx : x.cps.toList with
      | nil =>
        have h0 : (Txt.slice x none (some 1)).cps.toList = [] := List.length_eq_zero_iff.mp (by
          have := Txt.slice_le x none (some 1)
          rw [← str_len, ← str_len, hx] at this
          exact Nat.le_zero.mp this)
        rw [h0]
        exact ⟨(fun z => nomatch z), (fun z => nomatch z)⟩
      | cons a r =>
        have hh := StrLaws.sliceText_to (x := x) (j := 1) ⟨by decide, by rw [hx, List.length_cons]; omega⟩
        rw [show Txt.slice x none (some 1) = StrLaws.sliceText x none (some 1) from rfl, hh, hx]
        show [a] = [45] ↔ some a = some 45
        exact ⟨fun z => by injection z with z; rw [z], fun z => by injection z with z; rw [z]⟩
    obtain ⟨fg, efg, hfg⟩ : ∃ fg : Str, fg = Txt.slice x (some (if decide (V.str (Txt.slice x none (some 1)) = V.str "-") = true then (1 : Int) else 0)) none ∧ fg.cps.toList = figsOf x.cps.toList := by
      refine ⟨_, rfl, ?_⟩
      unfold figsOf
      by_cases h : x.cps.toList.head? = some 45
      · rw [decide_eq_true (h1.mpr h), if_pos rfl, if_pos h]
        exact slice1 (fun z => by rw [z] at h; cases h)
      · rw [decide_eq_false (fun z => h (h1.mp z)), if_neg (by decide), if_neg h]
        exact slice0 x
    have lf : fg.length ≤ 600 := by rw [efg]; exact Nat.le_trans (Txt.slice_le x _ _) hl
    refine ⟨_, rfl, _, rfl, _, rfl, x, rfl, lx, rfl, .inr ⟨_, rfl, _, rfl, x, rfl, lx, ?_⟩⟩
    rw [← efg]
    have hn := num_figs x.cps.toList
    rw [← hfg] at hn
    have no : isNum x.cps.toList = false → Q .non H := fun h => q _ (.inr ⟨h, rfl⟩)
    refine ⟨_, rfl, rfl, _, rfl, ?_⟩
    by_cases c1 : V.str fg = V.str ""
    · rw [decide_eq_true c1]
      have e : fg.cps.toList = [] := by rw [vstr_iff.mp c1, e_l]
      exact iteT (iteT (no (by rw [hn, e]; rfl)))
    · rw [decide_eq_false c1]
      have hne : fg.cps.toList ≠ [] := fun z => c1 (vstr_iff.mpr (by rw [z, e_l]))
      have l1 : (Str.ofString "x").length = 1 := by decide +kernel
      refine iteF ⟨_, rfl, _, _, rfl, rfl, sl6 (by omega), rfl, _, _, rfl, rfl, sl6 ?_, rfl, _, rfl, ?_⟩
      · show ((Str.ofString "x").cps ++ fg.cps).size ≤ 1000
        rw [Array.size_append]
        show (Str.ofString "x").length + fg.length ≤ 1000
        omega
      by_cases c2 : V.str (Txt.stripChars ("x" ++ fg) figS) = V.str "x"
      · rw [decide_eq_true c2]
        have hd := (strip_x fg).mp (by rw [vstr_iff.mp c2, x_l])
        refine iteF ⟨_, rfl, rfl, _, rfl, ?_⟩
        by_cases c3 : V.str x = V.str "-0"
        · rw [decide_eq_true c3]
          have e : x.cps.toList = [45, 48] := by rw [vstr_iff.mp c3, mz_l]
          exact iteT (no (by rw [e]; decide))
        · rw [decide_eq_false c3]
          have e3 : ¬ x.cps.toList = [45, 48] := fun z => c3 (vstr_iff.mpr (by rw [z, mz_l]))
          refine iteF ⟨_, rfl, fg, rfl, sl6 (by omega), _, _, rfl, rfl, _, rfl, ?_⟩
          rw [hd, decide_eq_false e3, show (!fg.cps.toList.isEmpty) = true by
            cases h : fg.cps.toList with
            | nil => exact absurd h hne
            | cons a r => rfl] at hn
          have yes : isNum x.cps.toList = true → ∃ n, intText? x = some n ∧ Q (.int n) H := fun h => by
            obtain ⟨n, e⟩ := num_of h
            refine ⟨n, ?_, q _ (.inl ⟨n, e, rfl⟩)⟩
            rw [e]
            exact num_read (by rw [← e]; omega)
          by_cases c4 : (1 : Int) < ((fg.length : Nat) : Int)
          · rw [decide_eq_true c4]
            obtain ⟨a, r, ar⟩ : ∃ a r, fg.cps.toList = a :: r := by
              cases h : fg.cps.toList with
              | nil => exact absurd h hne
              | cons a r => exact ⟨a, r, rfl⟩
            rw [decide_eq_true (show 1 < fg.cps.toList.length by rw [str_len]; omega), ar] at hn
            refine iteT ⟨_, rfl, fg, ((0 : Nat) : Int), a, rfl, rfl, sl6 (by omega), atI_nat (j := 0) (by rw [ar]; rfl), rfl, _, rfl, ?_⟩
            by_cases c5 : V.str ⟨#[a]⟩ = V.str "0"
            · rw [decide_eq_true c5]
              have e5 : a = 48 := by have := vstr_iff.mp c5; rw [z_l] at this; simpa using this
              exact iteT (no (by rw [hn, e5]; rfl))
            · rw [decide_eq_false c5]
              have e5 : ¬ a = 48 := fun z => c5 (vstr_iff.mpr (by rw [z_l, z]))
              obtain ⟨n, h1', h2'⟩ := yes (by rw [hn, decide_eq_false (show ¬ (a :: r).head? = some 48 from fun z => e5 (by injection z))]; rfl)
              exact iteF ⟨_, rfl, x, n, rfl, h1', by omega, h2'⟩
          · rw [decide_eq_false c4]
            rw [decide_eq_false (show ¬ 1 < fg.cps.toList.length by rw [str_len]; omega)] at hn
            obtain ⟨n, h1', h2'⟩ := yes (by rw [hn]; rfl)
            exact iteF (iteF ⟨_, rfl, x, n, rfl, h1', by omega, h2'⟩)
      · rw [decide_eq_false c2]
        have hd : ¬ (fg.cps.toList.all fun c => decide (48 ≤ c) && decide (c ≤ 57)) = true := fun z => c2 (vstr_iff.mpr (by rw [(strip_x fg).mpr z, x_l]))
        rw [Bool.not_eq_true] at hd
        exact iteT (iteT (no (by rw [hn, hd, Bool.and_false]; rfl)))
end
end Seek
namespace L2
open PySem PySem.Spec PyProof.Rows
section
variable {X : Cx}
theorem op_neN (hu : X.A.units < cLine) : OpR X (compareOp .NotEq) (fun x y H Q => ∃ a b xs, x = .ref a ∧ y = .ref b ∧ SqL X.K H a xs ∧ SqL X.K H b [] ∧ Q (.bl (!xs.isEmpty)) H) := by
  intro pins s σ H x y v u Q I rx ry h
  obtain ⟨a, b, xs, rfl, rfl, h1, h2, q⟩ := h
  cases rx
  cases ry
  obtain ⟨its, r, pl, hz⟩ := I.list h1
  obtain ⟨its2, r2, pl2, hz2⟩ := I.list h2
  cases r2
  cases r with
  | nil =>
    have R := SeqAt.RcNeAt.lists (A := X.A) (e := fun _ => true) pl.isList pl2.isList rfl hu (fun j h1 _ => absurd h1 (by simp))
    exact R _ _ _ _ ⟨.bl false, H, I, rfl, q⟩
  | cons z zs => exact SeqAt.RcNeAt.lists_lengths (A := X.A) pl.isList pl2.isList (by simp) hu _ _ _ _ ⟨.bl true, H, I, rfl, q⟩
end
theorem comp_rangeF {lo : Int} {n : Nat} {σ0 : St} {H1 : Hp} {tc : TT} {te : TE} {Q : VK} (p : Nat → Bool) (f : Nat → V) (hn : n ≤ sizeLine)
    (ht : ∀ i, i < n → PuT tc (σ0.set 0 (some (.int (lo + i)))) H1 (p i)) (he : ∀ i, i < n → p i = true → Pu te (σ0.set 0 (some (.int (lo + i)))) H1 (f i))
    (fin : ∀ D H', H1 D = none → Same H1 H' → H' D = some (.lst (((List.range n).filter p).map f)) → Q (.ref D) H') :
    CompRun (Itr lo n) (gName 0) tc te σ0 H1 Q := by
  intro D hD
  refine comp_by (n := n) (fun i ys H' => Same H1 H' ∧ H' D = some (.lst ys) ∧ ys = ((List.range i).filter p).map f) ⟨Same.new hD, upd_same, by simp⟩ (fun i ys H' _ q => q.2.1) (fun i ys H' hi q => hi)
    (fun ys H' q => Nat.le_refl _) ?_ (fun ys H' q => ?_)
  · rintro i ys H' x H2 hi ⟨sm, hDl, hys⟩ ⟨rfl, rfl⟩
    have hlen : ys.length ≤ i := by
      rw [hys, List.length_map]
      exact Nat.le_trans (List.length_filter_le _ _) (by rw [List.length_range]; exact Nat.le_refl _)
    refine ht i hi _ _ sm fun H4 s4 => ?_
    cases hp : p i with
    | true =>
      refine iteT ?_
      refine he i hi hp _ _ (sm.trans s4) fun H5 s5 => ⟨s5 _ _ (s4 _ _ hDl), by omega, ((sm.trans s4).trans s5).upd hD, upd_same, ?_⟩
      rw [List.range_succ, List.filter_append, List.map_append, ← hys]
      simp [hp]
    | false =>
      refine iteF ⟨sm.trans s4, s4 _ _ hDl, ?_⟩
      rw [List.range_succ, List.filter_append, List.map_append, ← hys]
      simp [hp]
  · obtain ⟨sm, hDl, hys⟩ := q
    exact fin D H' hD sm (by rw [← hys]; exact hDl)
end L2
namespace Seek
open PySem L2 PyProof.Rows
theorem eqv_intsB : ∀ a b : List Int, PyData.eqvAll (a.map PyData.int) (b.map PyData.int) = decide (a = b)
  | [], [] => by simp [PyData.eqvAll]
  | [], b :: bs => by simp [PyData.eqvAll]
  | a :: as, [] => by simp [PyData.eqvAll]
  | a :: as, b :: bs => by
    rw [List.map_cons, List.map_cons]
    simp only [PyData.eqvAll, PyData.eqv, eqv_intsB as bs]
    rw [Bool.eq_iff_iff]
    simp
theorem eqv_rowB (a b : List Int) : PyData.eqv (dRow a) (dRow b) = decide (a = b) := by
  unfold dRow
  simp only [PyData.eqv]
  exact eqv_intsB a b
theorem nf_pw {ns : List Int} (h : nfP ns) : ns.Pairwise (· ≤ ·) := by
  rw [List.pairwise_iff_getElem]
  intro i j hi hj hij
  obtain ⟨k, rfl⟩ : ∃ k, j = i + k := ⟨j - i, by omega⟩
  clear hij
  induction k with
  | zero => exact Int.le_refl _
  | succ k ih =>
    have h1 := ih (by omega)
    have h2 := h (i + k) (by omega)
    rw [List.getD_eq_getElem?_getD, List.getD_eq_getElem?_getD, List.getElem?_eq_getElem (by omega), List.getElem?_eq_getElem (by omega)] at h2
    exact Int.le_trans h1 h2
theorem pw_nf {ns : List Int} (h : ns.Pairwise (· ≤ ·)) : nfP ns := fun i hi => by
  rw [List.getD_eq_getElem?_getD, List.getD_eq_getElem?_getD, List.getElem?_eq_getElem (by omega), List.getElem?_eq_getElem hi]
  exact List.pairwise_iff_getElem.mp h i (i + 1) (by omega) hi (by omega)
theorem sorted_iff {ns ms : List Int} (hp : ms.Perm ns) (hs : ms.Pairwise (· ≤ ·)) : ns = ms ↔ nfP ns :=
  ⟨fun e => pw_nf (by rw [e]; exact hs), fun h => (List.Perm.eq_of_pairwise (le := fun a b : Int => a ≤ b) (fun a b _ _ h1 h2 => by omega) hs (nf_pw h) hp).symm⟩
section
variable {P : Program} {w : World} {K : PySem.W.Frag} {mg : Str → Option Value} {base : Heap}
def spLSrt : Sp := fun vs H Q _ => ∃ (t : Addr) (prs : Prs), vs = [.ref t] ∧ Tab H t prs ∧ 1 ≤ prs.length ∧ prs.length ≤ 601 ∧ (∀ p ∈ prs, p.2.length ≤ 601) ∧ ∀ H', Same H H' → Q (.bl (tabB prs)) H'
theorem sc_lsrt : FnScope ["table", "above", "row"] ["table"] (defScope dLSorted) := ⟨rfl, rfl, rfl, by decide +kernel, rfl, by decide +kernel, by decide +kernel⟩
set_option maxHeartbeats 16000000 in
theorem ok_lsrt (T : Blt mg) (hso : mg "sorted" = none) (D : DefAt K mg "_law_sorted" dLSorted ["table"]) : FnAt P w K mg base 1 "_law_sorted" ["table"] spLSrt := by
  refine FnAt.of D sc_lsrt (fun vs H Q E h => ?_) (fun f cdv A outer s H vs Q E hr h => ?_)
  · obtain ⟨t, prs, rfl, _⟩ := h
    rfl
  · obtain ⟨t, prs, rfl, hT, h1, h601, hw, q⟩ := h
    have nd := sc_lsrt.nd
    have nd1 : (["c", "row", "above"] : List Str).Nodup := by decide +kernel
    have no : ∀ {H' : Hp}, Same H H' → tabB prs = false → Q (.bl false) H' := fun s e => by
      have := q _ s
      rwa [e] at this
    have nof : ∀ {C : Prop}, (tabB prs = true → C) → ¬ C → tabB prs = false := fun a b => by
      cases e : tabB prs with
      | false => rfl
      | true => exact absurd (a e) b
    refine ⟨_, pss_cons (ps_if (PW.pt (pw_or (pt_not (pt_chain o_le o_le pe_int (pe_b call_len_seq T.len boot_len (pa_cons (pv 0) pa_nil)) pe_int)) (pw_or1 (pt_not (pt_chain o_le o_le pe_int (pe_b call_len_seq T.len boot_len (pa_cons (pe_ix ix_list (pv 0) pe_int (fun _ _ => rfl)) pa_nil)) pe_int))))) (pss_one (ps_ret pe_bl)) pss_nil)
      (pss_cons (ps_set (i := 1) nd rfl (Or.inr rfl) (pe_ix ix_list (pv 0) pe_int (fun _ _ => rfl)))
      (pss_cons (ps_for PassesOwn.never rfl (pi_list (pv 0)) (pg_name (i := 2) nd rfl (Or.inr rfl))
        (pss_cons (ps_if (PW.pt (pw_or (pt_cmpR op_ne (pe_b call_len_seq T.len boot_len (pa_cons (pv 2) pa_nil)) (pe_b call_len_seq T.len boot_len (pa_cons (pv 1) pa_nil)) (nomark _)) (pw_or1 (pt_cmpR (op_neD hr.units) (pv 2) (pe_b call_sortedI hso boot_sorted (pa_cons (pv 2) pa_nil)) (nomark _))))) (pss_one (ps_ret pe_bl)) pss_nil)
        (pss_cons (ps_if (pt_cmpR (op_neN (Nat.lt_of_le_of_lt (Nat.le_add_right _ 64) hr.units)) (pe_comp ["c", "row", "above"] [none, some 2, some 1] (defScope dLSorted) ["table", "above", "row"] rfl (pi_range1 rfl T.rng (pa_cons (pe_b call_len_seq T.len boot_len (pa_cons (pv 2) pa_nil)) pa_nil)) (by decide +kernel)
          (fun cl C s2 H2 ex => pg_c 0 nd1) (fun cl C s2 H2 ex => pifs_one (pt_cmpR o_lt (pe_ix (ixL K) (pv 1) (pv 0) (fun _ _ => rfl)) (pe_ix (ixL K) (pv 2) (pv 0) (fun _ _ => rfl)) (nomark _))) (fun cl C s2 H2 ex => pv 0)) (pe_lst pa_nil) (nomark _)) (pss_one (ps_ret pe_bl)) pss_nil)
        (pss_one (ps_set (i := 1) nd rfl (Or.inr rfl) (pv 2))))))
      (pss_one (ps_ret pe_bl)))), ?_⟩
    obtain ⟨p0, hm0, e0, er0⟩ := rowAt_mem (prs := prs) (i := 0) (by omega)
    have hx0 : (prs.map fun p => V.ref p.1)[0]? = some (.ref p0.1) := by rw [List.getElem?_map, e0]; rfl
    have hw0 : w0 prs = p0.2.length := by
      unfold w0
      rw [List.head?_eq_getElem?, e0]
      rfl
    have lm : (prs.map fun p => V.ref p.1).length = prs.length := List.length_map ..
    refine ⟨_, rfl, t, _, rfl, .inl hT.sq, _, _, rfl, rfl, _, rfl, ?_⟩
    rw [lm, decide_eq_true (show (1 : Int) ≤ ((prs.length : Nat) : Int) by omega)]
    refine iteT ⟨_, _, rfl, rfl, _, rfl, ?_⟩
    by_cases c6 : ((prs.length : Nat) : Int) ≤ 6
    · rw [decide_eq_true c6]
      refine iteF ⟨_, rfl, t, _, 0, .ref p0.1, rfl, rfl, hT.sq, atI_nat (j := 0) hx0, p0.1, _, rfl, .inl (hT.r p0 hm0).sq, _, _, rfl, rfl, _, rfl, ?_⟩
      have lw : (p0.2.map V.int).length = p0.2.length := List.length_map ..
      rw [lw]
      by_cases d1 : (1 : Int) ≤ ((p0.2.length : Nat) : Int)
      · rw [decide_eq_true d1]
        refine iteT ⟨_, _, rfl, rfl, _, rfl, ?_⟩
        by_cases d6 : ((p0.2.length : Nat) : Int) ≤ 6
        · rw [decide_eq_true d6]
          refine iteF ?_
          refine ⟨_, rfl, t, _, 0, .ref p0.1, rfl, rfl, hT.sq, atI_nat (j := 0) hx0, ?_⟩
          refine ⟨_, rfl, t, rfl, ⟨_, hT.sq⟩, for_list (xs := prs.map fun p => V.ref p.1) (fun i σ H' => ∃ (pa : Addr × List Int) (o2 : Option V), σ = [some (.ref t), some (.ref pa.1), o2] ∧ Same H H' ∧ prs[i - 1]? = some pa ∧ (∀ k, k < i → (rowAt prs k).length = p0.2.length ∧ nfP (rowAt prs k)) ∧ ∀ k, k + 1 < i → ∀ j, j < p0.2.length → (rowAt prs k).getD j 0 ≤ (rowAt prs (k + 1)).getD j 0)
            ⟨p0, none, rfl, Same.refl _, e0, (fun k h => absurd h (by omega)), (fun k h => absurd h (by omega))⟩ (fun i σ H' _ ⟨_, _, _, sm, _⟩ => (hT.same sm).sq) ?_ ?_⟩
          · rintro i y σ H1 hi ⟨pa, o2, rfl, s1, ea, hk, hdn⟩
            obtain ⟨pb, eb, rfl⟩ : ∃ pb, prs[i]? = some pb ∧ y = .ref pb.1 := by
              rw [List.getElem?_map] at hi
              cases e : prs[i]? with
              | none => rw [e] at hi; cases hi
              | some pb => rw [e] at hi; exact ⟨pb, rfl, (Option.some.inj hi).symm⟩
            have hil : i < prs.length := (List.getElem?_eq_some_iff.mp eb).1
            have mb : pb ∈ prs := List.mem_of_getElem? eb
            have ma : pa ∈ prs := List.mem_of_getElem? ea
            have rb : rowAt prs i = pb.2 := by unfold rowAt; rw [eb]; rfl
            have ra : rowAt prs (i - 1) = pa.2 := by unfold rowAt; rw [ea]; rfl
            have T1 := hT.same s1
            have la : pa.2.length = p0.2.length := by
              rcases Nat.eq_zero_or_pos i with z | z
              · rw [z] at ra
                rw [← ra, show (0 : Nat) - 1 = 0 from rfl, er0]
              · rw [← ra]
                exact (hk (i - 1) (by omega)).1
            have lb : (pb.2.map V.int).length = pb.2.length := List.length_map ..
            have la' : (pa.2.map V.int).length = pa.2.length := List.length_map ..
            refine ⟨_, rfl, pb.1, _, rfl, .inl (T1.r pb mb).sq, _, rfl, pa.1, _, rfl, .inl (T1.r pa ma).sq, rfl, _, rfl, ?_⟩
            rw [lb, la', la]
            by_cases e1 : pb.2.length = p0.2.length
            · rw [e1, decide_eq_true rfl]
              refine iteF ⟨_, rfl, _, rfl, pb.1, pb.2, rfl, (T1.r pb mb).sq, by omega, fun D1 ms hD1 pm ps => ?_⟩
              have s2 : Same H1 (upd H1 D1 (.lst (ms.map V.int))) := Same.new hD1
              have rD : Row (upd H1 D1 (.lst (ms.map V.int))) D1 ms := upd_same
              generalize upd H1 D1 (.lst (ms.map V.int)) = H2 at s2 rD ⊢
              have s02 := s1.trans s2
              refine ⟨_, _, ((hT.same s02).r pb mb).rd, rD.rd, shaped_row _, shaped_row _, _, rfl, ?_⟩
              rw [eqv_rowB]
              by_cases e2 : pb.2 = ms
              · rw [decide_eq_true e2]
                have nfb : nfP pb.2 := (sorted_iff pm ps).mp e2
                refine iteF ?_
                refine ⟨_, rfl, pb.1, _, rfl, .inl ((hT.same s02).r pb mb).sq, _, rfl, by rw [lb]; omega, by rw [lb]; omega, ?_⟩
                rw [lb, Int.toNat_natCast]
                refine comp_rangeF (fun j => decide (pb.2.getD j 0 < pa.2.getD j 0)) (fun j => .int ((j : Nat) : Int)) (sl6 (by omega)) (fun j hj H' Q' sm q' => ?_) (fun j hj _ H' Q' sm q' => ?_) fun D3 H3 hD3 s3 hDl => ?_
                · refine ⟨_, rfl, _, rfl, pb.1, _, _, .int (pb.2.getD j 0), rfl, rfl, (((hT.same s02).r pb mb).same sm).sq, ?_, _, rfl, _, rfl, pa.1, _, _, .int (pa.2.getD j 0), rfl, rfl, (((hT.same s02).r pa ma).same sm).sq, ?_, _, _, rfl, rfl, _, rfl, q' _ (Same.refl _)⟩
                  · rw [Int.zero_add]
                    exact at_row hj
                  · rw [Int.zero_add]
                    exact at_row (by omega)
                · refine ⟨_, rfl, ?_⟩
                  rw [Int.zero_add]
                  exact q' _ (Same.refl _)
                · refine ⟨Nat.zero_le _, fun l hl => ?_⟩
                  have s4 : Same H3 (upd H3 l (.lst [])) := Same.new hl
                  refine ⟨D3, l, _, rfl, rfl, SqL.of (s4 _ _ hDl), SqL.of upd_same, _, rfl, ?_⟩
                  have s04 := s02.trans (s3.trans s4)
                  generalize upd H3 l (.lst []) = H4 at s4 s04
                  cases he : (List.map (fun j => V.int ((j : Nat) : Int)) ((List.range pb.2.length).filter fun j => decide (pb.2.getD j 0 < pa.2.getD j 0))).isEmpty with
                  | false =>
                    refine iteT (no s04 (nof (C := ∀ j, j < p0.2.length → pa.2.getD j 0 ≤ pb.2.getD j 0) (fun hg j hj => ?_) fun hC => ?_))
                    · obtain ⟨g, _⟩ := good_of hg
                      rcases Nat.eq_zero_or_pos i with z | z
                      · subst z
                        rw [eb] at ea
                        rw [Option.some.inj ea]
                        exact Int.le_refl _
                      · have := g.down (i - 1) (by omega) j (by rw [hw0]; exact hj)
                        rw [show i - 1 + 1 = i by omega, ra, rb] at this
                        exact this
                    · rw [Bool.eq_false_iff] at he
                      refine he ?_
                      rw [List.isEmpty_iff, List.map_eq_nil_iff, List.filter_eq_nil_iff]
                      intro j hj
                      have := hC j (by have := List.mem_range.mp hj; omega)
                      simp only [decide_eq_true_eq]
                      omega
                  | true =>
                    refine iteF ?_
                    rw [List.isEmpty_iff, List.map_eq_nil_iff, List.filter_eq_nil_iff] at he
                    refine ⟨_, rfl, pb, _, rfl, s04, by rw [Nat.add_sub_cancel]; exact eb, fun k hk' => ?_, fun k hk' j hj => ?_⟩
                    · rcases Nat.lt_or_ge k i with z | z
                      · exact hk k z
                      · have : k = i := by omega
                        subst this
                        rw [rb]
                        exact ⟨e1, nfb⟩
                    · rcases Nat.lt_or_ge (k + 1) i with z | z
                      · exact hdn k z j hj
                      · have : i = k + 1 := by omega
                        subst this
                        rw [show k + 1 - 1 = k by omega] at ra
                        rw [rb, ra]
                        have := he j (List.mem_range.mpr (by omega))
                        simp only [decide_eq_true_eq] at this
                        omega
              · rw [decide_eq_false e2]
                refine iteT (no s02 (nof (C := nfP pb.2) (fun hg => (good_of hg).1.row pb mb) fun hC => e2 ((sorted_iff pm ps).mpr hC)))
            · rw [decide_eq_false (by intro z; injection z with z; omega)]
              exact iteT (iteT (no s1 (nof (C := pb.2.length = p0.2.length) (fun hg => by rw [← hw0]; exact (good_of hg).1.len pb mb) e1)))
          · rintro σ H1 ⟨pa, o2, rfl, s1, ea, hk, hdn⟩
            rw [lm] at hk hdn
            have hg : tabB prs = true := tabB_of (wide := p0.2.length) ⟨fun p hp => ?_, fun p hp => ?_, fun k hk' j hj => hdn k hk' j hj⟩ h1 (by omega) (by omega) (by omega)
            · have := q H1 s1
              rw [hg] at this
              exact this
            · obtain ⟨k, hk1, rfl⟩ := List.getElem_of_mem hp
              have := (hk k hk1).1
              unfold rowAt at this
              rw [List.getElem?_eq_getElem hk1] at this
              exact this
            · obtain ⟨k, hk1, rfl⟩ := List.getElem_of_mem hp
              have := (hk k hk1).2
              unfold rowAt at this
              rw [List.getElem?_eq_getElem hk1] at this
              exact this
        · rw [decide_eq_false d6]
          exact iteT (no (Same.refl _) (nof (C := p0.2.length ≤ 6) (fun hg => by have := (good_of hg).2.2.2.2; rw [hw0] at this; exact this) (by omega)))
      · rw [decide_eq_false d1]
        exact iteF ⟨_, rfl, iteT (no (Same.refl _) (nof (C := 1 ≤ p0.2.length) (fun hg => by have := (good_of hg).2.2.2.1; rw [hw0] at this; exact this) (by omega)))⟩
    · rw [decide_eq_false c6]
      exact iteT (iteT (no (Same.refl _) (nof (C := prs.length ≤ 6) (fun hg => (good_of hg).2.2.1) (by omega))))
end
open PySem L2 PyProof.Rows
def valV (w : Str) : V := if isNum w.cps.toList = true then (match intText? w with | some n => .int n | none => .non) else .non
theorem valV_num {n : Int} (h : (numStr n).length ≤ 600) : valV (numStr n) = .int n := by
  unfold valV
  rw [if_pos (num_is n), num_read (by omega)]
theorem valV_not {w : Str} (h : isNum w.cps.toList = false) : valV w = .non := by
  unfold valV
  rw [if_neg (by rw [h]; decide)]
theorem valV_flat (w : Str) : flatV (valV w) = true := by
  unfold valV
  split
  · cases intText? w <;> rfl
  · rfl
theorem non_in {ws : List Str} (hl : ∀ w ∈ ws, w.length ≤ 600) : inV .non (ws.map valV) = !(ws.all fun w => isNum w.cps.toList) := by
  unfold inV
  rw [List.any_map, Bool.eq_iff_iff, List.any_eq_true, Bool.not_eq_true', Bool.eq_false_iff, Ne, List.all_eq_true]
  constructor
  · rintro ⟨w, hw, e⟩ h
    obtain ⟨n, rfl⟩ := num_of (h w hw)
    rw [Function.comp, valV_num (hl _ hw)] at e
    exact nomatch e
  · intro h
    refine Classical.byContradiction fun k => h fun w hw => ?_
    cases e : isNum w.cps.toList with
    | true => rfl
    | false => exact absurd ⟨w, hw, by rw [Function.comp, valV_not e]; rfl⟩ k
theorem nums_inj : ∀ {r r' : List Int}, r.map numStr = r'.map numStr → (∀ n ∈ r, (numStr n).length ≤ 600) → r = r'
  | [], [], _, _ => rfl
  | [], _ :: _, h, _ => nomatch h
  | _ :: _, [], h, _ => nomatch h
  | n :: r, m :: r', h, hl => by
    rw [List.map_cons, List.map_cons] at h
    injection h with h1 h2
    have k1 := num_read (n := n) (by have := hl n List.mem_cons_self; omega)
    have k2 := num_read (n := m) (by rw [← h1]; have := hl n List.mem_cons_self; omega)
    rw [h1, k2] at k1
    rw [Option.some.inj k1, nums_inj h2 fun v hv => hl v (List.mem_cons_of_mem _ hv)]
theorem rows_inj : ∀ {rs rs' : List (List Int)}, rs.map rowS = rs'.map rowS → (∀ r ∈ rs, r ≠ []) → (∀ r ∈ rs', r ≠ []) → (∀ r ∈ rs, ∀ n ∈ r, (numStr n).length ≤ 600) → rs = rs'
  | [], [], _, _, _, _ => rfl
  | [], _ :: _, h, _, _, _ => nomatch h
  | _ :: _, [], h, _, _, _ => nomatch h
  | r :: rs, r' :: rs', h, h1, h2, hl => by
    rw [List.map_cons, List.map_cons] at h
    injection h with k1 k2
    have e : r.map numStr = r'.map numStr := by
      rw [← rowS_split (h1 r List.mem_cons_self), ← rowS_split (h2 r' List.mem_cons_self), k1]
    rw [nums_inj e (hl r List.mem_cons_self), rows_inj k2 (fun v hv => h1 v (List.mem_cons_of_mem _ hv)) (fun v hv => h2 v (List.mem_cons_of_mem _ hv)) fun v hv => hl v (List.mem_cons_of_mem _ hv)]
def LinesAt (H : Hp) (as : List Addr) (ls : List Str) : Prop := as.length = ls.length ∧ ∀ (k : Nat) (a : Addr) (l : Str), as[k]? = some a → ls[k]? = some l → H a = some (.lst ((Txt.split l " ").map valV))
section
variable {P : Program} {w : World} {K : PySem.W.Frag} {mg : Str → Option Value} {base : Heap}
def spLWr : Sp := fun vs H Q _ => ∃ (x : Str), vs = [.str x] ∧ x.length ≤ 2000 ∧ (Txt.split x "\n").length ≤ 600 ∧ (∀ l ∈ Txt.split x "\n", l.length ≤ 600) ∧ ∀ b H', (b = true ↔ ∃ rows, rows ≠ [] ∧ (∀ r ∈ rows, r ≠ []) ∧ x = tabS rows ∧ rowsOk rows = true) → Same H H' → Q (.bl b) H'
theorem sc_lwr : FnScope ["text", "table", "row"] ["text"] (defScope dWrites) := ⟨rfl, rfl, rfl, by decide +kernel, rfl, by decide +kernel, by decide +kernel⟩
set_option maxHeartbeats 16000000 in
theorem ok_lwr (D : DefAt K mg "_law_writes" dWrites ["text"]) (G1 : FnAt P w K mg base 1 "_law_number" ["word"] spLNum) (G2 : FnAt P w K mg base 1 "_law_sorted" ["table"] spLSrt) : FnAt P w K mg base 2 "_law_writes" ["text"] spLWr := by
  refine FnAt.of D sc_lwr (fun vs H Q E h => ?_) (fun f cdv A outer s H vs Q E hr h => ?_)
  · obtain ⟨x, rfl, _⟩ := h
    rfl
  · obtain ⟨x, rfl, hx, hn, hl, q⟩ := h
    have nd := sc_lwr.nd
    have nd1 : (["word"] : List Str).Nodup := by decide +kernel
    have nd2 : (["row"] : List Str).Nodup := by decide +kernel
    refine ⟨_, pss_cons (ps_set (i := 1) nd rfl (Or.inl rfl) (pe_lst pa_nil))
      (pss_cons (ps_for PassesOwn.never rfl (pi_list (pe_bm F.plainAttrs_str F.slot_str_split F.type_str_split mt_split (pv 0) (pa_cons pe_str pa_nil))) (pg_name (i := 2) nd rfl (Or.inl rfl))
        (pss_one (ps_expr (pe_bm PySem.F.plainAttrs_list PySem.F.slot_list_append PySem.F.type_list_append mt_append (pv 1) (pa_cons (pe_comp ["word"] [none] (defScope dWrites) ["text", "table", "row"] rfl (pi_list (pe_bm F.plainAttrs_str F.slot_str_split F.type_str_split mt_split (pv 2) (pa_cons pe_str pa_nil))) (by decide +kernel)
          (fun cl C s2 H2 ex => pg_c 0 nd1) (fun cl C s2 H2 ex => pifs_nil) (fun cl C s2 H2 ex => pe_f G1 hr (pa_cons (pv 0) pa_nil))) pa_nil)))))
      (pss_cons (ps_if (pt_cmpR (op_neN (Nat.lt_of_le_of_lt (Nat.le_add_right _ 64) hr.units)) (pe_comp ["row"] [none] (defScope dWrites) ["text", "table", "row"] rfl (pi_list (pv 1)) (by decide +kernel)
          (fun cl C s2 H2 ex => pg_c 0 nd2) (fun cl C s2 H2 ex => pifs_one (pt_cmpR (inK K) pe_non (pv 0) rfl)) (fun cl C s2 H2 ex => pv 0)) (pe_lst pa_nil) (nomark _)) (pss_one (ps_ret pe_bl)) pss_nil)
      (pss_one (ps_ret (pe_f G2 hr (pa_cons (pv 1) pa_nil)))))), ?_⟩
    refine ⟨Nat.zero_le _, fun L hL => ?_⟩
    have sL : Same H (upd H L (.lst [])) := Same.new hL
    have eL : (upd H L (.lst [])) L = some (.lst []) := upd_same
    generalize upd H L (.lst []) = H1 at sL eL ⊢
    refine ⟨_, rfl, rfl, _, _, rfl, rfl, by decide +kernel, by omega, fun M hM => ?_⟩
    have sM : Same H1 (upd H1 M (.lst ((Txt.split x "\n").map V.str))) := Same.new hM
    have eM : (upd H1 M (.lst ((Txt.split x "\n").map V.str))) M = some (.lst ((Txt.split x "\n").map V.str)) := upd_same
    have hML : M ≠ L := (ne_of_none eL hM).symm
    have eL2 := sM _ _ eL
    have s02 := sL.trans sM
    generalize upd H1 M (.lst ((Txt.split x "\n").map V.str)) = H2 at sM eM eL2 s02 ⊢
    refine ⟨M, rfl, ⟨_, SqL.of eM⟩, for_list (xs := (Txt.split x "\n").map V.str) (fun i σ H' => ∃ (as : List Addr) (o2 : Option V), σ = [some (.str x), some (.ref L), o2] ∧ Same H H' ∧ H' M = some (.lst ((Txt.split x "\n").map V.str)) ∧ H' L = some (.lst (as.map V.ref)) ∧ (∀ a ∈ as, a ≠ L) ∧ LinesAt H' as ((Txt.split x "\n").take i))
      ⟨[], none, rfl, s02, eM, eL2, (fun a h => nomatch h), by simp, fun k a l h => nomatch h⟩ (fun i σ H' _ ⟨_, _, _, _, e, _⟩ => SqL.of e) ?_ ?_⟩
    · rintro i y σ H3 hi ⟨as, o2, rfl, s3, eM3, eL3, nas, la⟩
      obtain ⟨l, el, rfl⟩ : ∃ l, (Txt.split x "\n")[i]? = some l ∧ y = .str l := by
        rw [List.getElem?_map] at hi
        cases e : (Txt.split x "\n")[i]? with
        | none => rw [e] at hi; cases hi
        | some l => rw [e] at hi; exact ⟨l, rfl, (Option.some.inj hi).symm⟩
      have ml : l ∈ Txt.split x "\n" := List.mem_of_getElem? el
      have ll := hl l ml
      have hil : i < (Txt.split x "\n").length := (List.getElem?_eq_some_iff.mp el).1
      have wl : ∀ v ∈ Txt.split l " ", v.length ≤ 600 := fun v hv => by
        have h1 := part_len (x := l) (c := 32) v (by rw [← sp_eq]; exact hv)
        omega
      have wn : (Txt.split l " ").length ≤ 601 := by
        have h1 := part_cnt l 32
        rw [← sp_eq] at h1
        omega
      refine ⟨_, rfl, .inl ⟨rfl, _, SqL.of eL3⟩, _, rfl, rfl, _, _, rfl, rfl, by decide +kernel, by omega, fun N hN => ?_⟩
      have sN : Same H3 (upd H3 N (.lst ((Txt.split l " ").map V.str))) := Same.new hN
      have eN : (upd H3 N (.lst ((Txt.split l " ").map V.str))) N = some (.lst ((Txt.split l " ").map V.str)) := upd_same
      generalize upd H3 N (.lst ((Txt.split l " ").map V.str)) = H4 at sN eN ⊢
      refine ⟨N, rfl, ⟨_, SqL.of eN⟩, comp_map (ms := Txt.split l " ") V.str valV (SqL.of eN) (sl6 (by omega)) (fun v hv H' Q' sm q' => ⟨_, rfl, v, rfl, wl v hv, fun u hu => ?_⟩) fun D1 H5 hD1 s5 eD1 => ?_⟩
      · have : u = valV v := by
          rcases hu with ⟨n, rfl, rfl⟩ | ⟨h, rfl⟩
          · exact (valV_num (wl _ hv)).symm
          · exact (valV_not h).symm
        rw [this]
        exact q' _ (Same.refl _)
      · have s35 := sN.trans s5
        have nDL : D1 ≠ L := (ne_of_none (sN _ _ eL3) hD1).symm
        have hDM : M ≠ D1 := ne_of_none (sN _ _ eM3) hD1
        have fD : H3 D1 = none := by
          cases e : H3 D1 with
          | none => rfl
          | some o => have := sN _ _ e; rw [hD1] at this; cases this
        have lal := la.1
        rw [List.length_take, Nat.min_eq_left (by omega)] at lal
        have fLH : ∀ c o, H c = some o → c ≠ L := fun c o e z => by
          rw [z, hL] at e
          cases e
        refine ⟨L, _, .ref D1, rfl, rfl, s35 _ _ eL3, small1000 (by rw [List.length_map]; omega), as ++ [D1], _, rfl, fun c o e => ?_, ?_, ?_, fun a ha => ?_, ?_, fun k a l' ha hl' => ?_⟩
        · rw [upd_ne (fLH c o e)]
          exact s35 _ _ (s3 _ _ e)
        · rw [upd_ne hML]
          exact s35 _ _ eM3
        · rw [upd_same, List.map_append]
          rfl
        · rcases List.mem_append.mp ha with z | z
          · exact nas a z
          · rw [List.mem_singleton.mp z]; exact nDL
        · rw [List.length_append, lal, List.length_take, Nat.min_eq_left (by omega)]
          rfl
        · rw [List.take_add_one, el] at hl'
          have nal : a ≠ L := by
            have hm := List.mem_of_getElem? ha
            rcases List.mem_append.mp hm with z | z
            · exact nas a z
            · rw [List.mem_singleton.mp z]; exact nDL
          rw [upd_ne nal]
          rcases Nat.lt_or_ge k i with z | z
          · rw [List.getElem?_append_left (by omega)] at ha
            rw [List.getElem?_append_left (by rw [List.length_take]; omega)] at hl'
            exact s35 _ _ (la.2 k a l' ha hl')
          · have hk : k = i := by
              have := (List.getElem?_eq_some_iff.mp ha).1
              rw [List.length_append, List.length_singleton] at this
              omega
            subst hk
            rw [List.getElem?_append_right (by omega), lal, Nat.sub_self] at ha
            rw [List.getElem?_append_right (by rw [List.length_take]; omega), List.length_take, Nat.min_eq_left (by omega), Nat.sub_self] at hl'
            have ha : D1 = a := Option.some.inj ha
            have hl' : l = l' := Option.some.inj hl'
            subst ha hl'
            exact eD1
    · rintro σ H3 ⟨as, o2, rfl, s3, eM3, eL3, nas, la⟩
      rw [List.length_map, List.take_length] at la
      have zf : (as.zip (Txt.split x "\n")).map (fun m => V.ref m.1) = as.map V.ref := by
        rw [show (fun m : Addr × Str => V.ref m.1) = V.ref ∘ Prod.fst from rfl, ← List.map_map, List.map_fst_zip (by rw [la.1]; exact Nat.le_refl _)]
      have zs : (as.zip (Txt.split x "\n")).map Prod.snd = Txt.split x "\n" := List.map_snd_zip (by rw [la.1]; exact Nat.le_refl _)
      have zl : (as.zip (Txt.split x "\n")).length ≤ 600 := by
        rw [← List.length_map (f := Prod.snd), zs]
        exact hn
      have at3 : ∀ m ∈ as.zip (Txt.split x "\n"), m.2 ∈ Txt.split x "\n" ∧ H3 m.1 = some (.lst ((Txt.split m.2 " ").map valV)) := fun m hm => by
        obtain ⟨k, hk, e⟩ := List.getElem_of_mem hm
        have hk1 : k < as.length ∧ k < (Txt.split x "\n").length := by
          rw [List.length_zip] at hk
          omega
        rw [List.getElem_zip] at e
        subst e
        exact ⟨List.getElem_mem _, la.2 k _ _ (List.getElem?_eq_getElem hk1.1) (List.getElem?_eq_getElem hk1.2)⟩
      have wl : ∀ l ∈ Txt.split x "\n", ∀ v ∈ Txt.split l " ", v.length ≤ 600 := fun l hl' v hv => by
        have h1 := part_len (x := l) (c := 32) v (by rw [← sp_eq]; exact hv)
        have := hl l hl'
        omega
      have only : ∀ rows, rows ≠ [] → (∀ r ∈ rows, r ≠ []) → x = tabS rows → Txt.split x "\n" = rows.map rowS := fun rows h1 _ h3 => by rw [h3, tabS_split h1]
      refine ⟨_, rfl, L, rfl, ⟨_, SqL.of eL3⟩, comp_of (ms := as.zip (Txt.split x "\n")) (fun m => V.ref m.1) (fun m => !lineB m.2) (fun m => V.ref m.1) (SqL.of (by rw [eL3, zf])) (sl6 (by omega)) (fun m hm H' Q' sm q' => ?_) (fun m hm _ H' Q' sm q' => ⟨_, rfl, q' _ (Same.refl _)⟩) fun D3 H4 hD3 s4 hDl => ?_⟩
      · refine ⟨_, rfl, m.1, _, rfl, .inl (SqL.of (sm _ _ (at3 m hm).2)), rfl, ?_, _, rfl, ?_⟩
        · rw [List.all_map, List.all_eq_true]
          exact fun v _ => valV_flat v
        · rw [show (if false = true then !inV .non ((Txt.split m.2 " ").map valV) else inV .non ((Txt.split m.2 " ").map valV)) = !lineB m.2 by rw [if_neg (by decide), non_in (wl m.2 (at3 m hm).1)]; rfl]
          exact q' _ (Same.refl _)
      · refine ⟨Nat.zero_le _, fun l hl' => ?_⟩
        have s5 : Same H4 (upd H4 l (.lst [])) := Same.new hl'
        refine ⟨D3, l, _, rfl, rfl, SqL.of (s5 _ _ hDl), SqL.of upd_same, _, rfl, ?_⟩
        have s35 := s4.trans s5
        generalize upd H4 l (.lst []) = H5 at s5 s35
        cases he : (List.map (fun m : Addr × Str => V.ref m.1) ((as.zip (Txt.split x "\n")).filter fun m => !lineB m.2)).isEmpty with
        | false =>
          refine iteT (q false H5 ⟨(fun z => nomatch z), fun ⟨rows, r1, r2, r3, _⟩ => ?_⟩ (s3.trans s35))
          exfalso
          rw [Bool.eq_false_iff] at he
          refine he ?_
          rw [List.isEmpty_iff, List.map_eq_nil_iff, List.filter_eq_nil_iff]
          intro m hm
          have hm2 := (at3 m hm).1
          rw [only rows r1 r2 r3] at hm2
          obtain ⟨r, hr', e⟩ := List.mem_map.mp hm2
          rw [← e, rowS_line (r2 r hr')]
          decide
        | true =>
          rw [List.isEmpty_iff, List.map_eq_nil_iff, List.filter_eq_nil_iff] at he
          have hall : textB x = true := by
            unfold textB
            rw [List.all_eq_true]
            intro l hl2
            rw [← zs] at hl2
            obtain ⟨m, hm, e⟩ := List.mem_map.mp hl2
            have := he m hm
            rw [← e]
            simpa using this
          obtain ⟨rows, n1, n2, ex, esp⟩ := text_of hall
          have rlen : rows.length = as.length := by
            have h1 := congrArg List.length esp
            rw [List.length_map] at h1
            rw [la.1, h1]
          have nl : ∀ r ∈ rows, (∀ n ∈ r, (numStr n).length ≤ 600) ∧ r.length ≤ 601 := fun r hr' => by
            have hm : rowS r ∈ Txt.split x "\n" := by rw [esp]; exact List.mem_map.mpr ⟨r, hr', rfl⟩
            have hsp := rowS_split (n2 r hr')
            refine ⟨fun n hn' => wl _ hm _ (by rw [hsp]; exact List.mem_map.mpr ⟨n, hn', rfl⟩), ?_⟩
            have h1 := part_cnt (rowS r) 32
            rw [← sp_eq, hsp, List.length_map] at h1
            have := hl _ hm
            omega
          have pf : (as.zip rows).map Prod.fst = as := List.map_fst_zip (by omega)
          have ps : (as.zip rows).map Prod.snd = rows := List.map_snd_zip (by omega)
          have hT : Tab H5 L (as.zip rows) := ⟨by rw [s35 _ _ eL3, show (fun p : Addr × List Int => V.ref p.1) = V.ref ∘ Prod.fst from rfl, ← List.map_map, pf], fun p' hp' => by
            obtain ⟨k, hk, e⟩ := List.getElem_of_mem hp'
            have hk1 : k < as.length ∧ k < rows.length := by
              rw [List.length_zip] at hk
              omega
            rw [List.getElem_zip] at e
            subst e
            have h1 := la.2 k as[k] (rowS rows[k]) (List.getElem?_eq_getElem hk1.1) (by rw [esp, List.getElem?_map, List.getElem?_eq_getElem hk1.2]; rfl)
            have hr' : rows[k] ∈ rows := List.getElem_mem _
            rw [rowS_split (n2 _ hr'), List.map_map] at h1
            unfold Row
            rw [s35 _ _ h1]
            congr 2
            exact List.map_congr_left fun n hn' => valV_num ((nl _ hr').1 n hn')⟩
          refine iteF ⟨_, rfl, L, as.zip rows, rfl, hT, ?_, ?_, fun p' hp' => ?_, fun H6 s6 => q _ H6 ?_ (s3.trans (s35.trans s6))⟩
          · rw [← List.length_map (f := Prod.snd), ps]
            cases rows with
            | nil => exact absurd rfl n1
            | cons r rs => simp
          · rw [← List.length_map (f := Prod.snd), ps, rlen, la.1]
            omega
          · exact (nl p'.2 (by rw [← ps]; exact List.mem_map.mpr ⟨p', hp', rfl⟩)).2
          · rw [rowsOk_of ps]
            refine ⟨fun h => ⟨rows, n1, n2, ex, h⟩, fun ⟨rows', r1, r2, r3, r4⟩ => ?_⟩
            have := only rows' r1 r2 r3
            rw [esp] at this
            rw [rows_inj this n2 r2 fun r hr' => (nl r hr').1]
            exact r4
end
end Seek
namespace L2
open PySem PySem.Spec PyProof.Rows
theorem boot_ValueError : bootBuiltins "ValueError" = some (.type "ValueError") := by kernel_rfl
section
variable {X : Cx}
theorem call_isinstE (K : PySem.W.Frag) (hK : X.K = K := by rfl) : CallR X (.builtin "isinstance") (fun xs H Q => ∃ e C D b, xs = [.ref e, .ref D] ∧ H e = some (excO e C) ∧ ExcK K C ∧ PySem.W.kitOne K (.ref C) (.ref D) = some b ∧ Q (.bl b) H) := by
  subst hK
  intro pins s σ H xs us Q I rv h
  obtain ⟨e, C, D, b, rfl, he, kC, hk, q⟩ := h
  obtain ⟨u, v, rfl, r1, r2⟩ := rv.two
  obtain rfl : u = .ref e := r1
  obtain rfl : v = .ref D := r2
  exact PySem.W.kia_one (kitx_exc kC) I.kIn (excO_at I he) hk (fun z => nomatch z) fun tk => ⟨.bl b, H, I.tok tk, rfl, q⟩
theorem call_isinstET (K : PySem.W.Frag) (hK : X.K = K := by rfl) : CallR X (.builtin "isinstance") (fun xs H Q => ∃ e C T b, xs = [.ref e, .ty T] ∧ H e = some (excO e C) ∧ ExcK K C ∧ PySem.W.kitOne K (.ref C) (.type T) = some b ∧ Q (.bl b) H) := by
  subst hK
  intro pins s σ H xs us Q I rv h
  obtain ⟨e, C, T, b, rfl, he, kC, hk, q⟩ := h
  obtain ⟨u, v, rfl, r1, r2⟩ := rv.two
  obtain rfl : u = .ref e := r1
  obtain rfl : v = .type T := r2
  exact PySem.W.kia_one (kitx_exc kC) I.kIn (excO_at I he) hk (fun z => nomatch z) fun tk => ⟨.bl b, H, I.tok tk, rfl, q⟩
end
open PySem PySem.Spec PyProof.Rows
section
variable {X : Cx}
theorem refs_vals : ∀ {ds : List Addr} {us : List Value}, Vals (ds.map V.ref) us → us = ds.map Value.ref
  | [], _, .nil => rfl
  | d :: ds, _, .cons r t => by
    obtain rfl := (r : _ = Value.ref d)
    rw [refs_vals t]
    rfl
theorem call_isinstEU (K : PySem.W.Frag) (hK : X.K = K := by rfl) : CallR X (.builtin "isinstance") (fun xs H Q => ∃ (e C tp : Addr) (ds : List Addr) (b : Bool), xs = [.ref e, .ref tp] ∧ H e = some (excO e C) ∧ ExcK K C ∧ SqT K H tp (ds.map V.ref) ∧ PySem.W.kitAny K (.ref C) (ds.map Value.ref) = some b ∧ Q (.bl b) H) := by
  subst hK
  intro pins s σ H xs us Q I rv h
  obtain ⟨e, C, tp, ds, b, rfl, he, kC, ht, hk, q⟩ := h
  obtain ⟨u, v, rfl, r1, r2⟩ := rv.two
  obtain rfl : u = .ref e := r1
  obtain rfl : v = .ref tp := r2
  obtain ⟨its, r, pl, hz⟩ := I.tuple ht
  have ei := refs_vals r
  subst ei
  obtain ⟨⟨cls, dd, data, sl⟩, e1, e2, e3⟩ := pl
  obtain ⟨n, e3⟩ := e3
  simp only at e2 e3
  subst e2 e3
  exact PySem.W.kia_tup (kitx_exc kC) I.kIn (excO_at I he) e1 hk (fun z => nomatch z) fun tk => ⟨.bl b, H, I.tok tk, rfl, q⟩
end
open PySem PySem.Spec PyProof.Rows
theorem pi_listK4 {X : Cx} {tg l : Expr} {tl : TE} (K : PySem.W.Frag) (hl : PE X l tl) (hK : X.K = K := by rfl) : PI X tg l (iList K tl) := by subst hK; exact pi_list hl
theorem pe_compN4 {X : Cx} {tg iter elt : Expr} {ifs : List Expr} {scope : Scope} {pos : Pos} {wi : TI} {g : TG} {tc : TT} {te : TE} (N' : List Str) (ix : List (Option Nat)) (hc : X.calm = true) (hi : PI X tg iter wi) (ok : compOk X.env.scope scope X.N N' ix = true)
    (hg : ∀ cl C s2 H2 ex, PG (X.comp N' scope cl C s2 H2 ex) tg g) (ht : ∀ cl C s2 H2 ex, PIfs (X.comp N' scope cl C s2 H2 ex) ifs tc) (he : ∀ cl C s2 H2 ex, PE (X.comp N' scope cl C s2 H2 ex) elt te) (hs : ∀ x, foldedSetIterable iter X.env x = pure x := by intro _; rfl) :
    PE X (.ListComp elt [⟨tg, iter, ifs, 0⟩] scope pos) (tComp wi g tc te ix) := pe_comp N' ix X.env.scope X.N hc hi ok hg ht he rfl rfl hs
theorem pe_bmK {X : Cx} {T id : String} {name : Str} {r : V → List V → Hp → VK → Prop} {o e : Expr} {es : List Expr} {to : TE} {t : TA} {apos cpos : Pos} (K : PySem.W.Frag) (pa : PlainAttrs T) (slot : Slot T name id) (hty : typeOf (.builtin id) = pure (.type "method_descriptor")) (hm : MtR X id r) (ho : PE X o to) (ha : PA X (e :: es) t) (hK : X.K = K := by rfl)
    (hbase : attributeBase o name X.env (eval o X.env) = eval o X.env := by rfl)
    (hfew : ((backTo cpos (starEach (e :: es) X.env)).all (fun x => !x.1) && (backToKw cpos (keywordEach [] X.env)).all (fun x => x.1.isSome)
      && decide ((e :: es).length + ([] : List Keyword).length + (if ([] : List Keyword).isEmpty then 0 else 1) < 30)) = true := by rfl)
    (hline : (apos.endLine == cpos.line) = true := by rfl) (hs : starEach (e :: es) X.env = (false, eval e X.env) :: starEach es X.env := by rfl) (hplain : (backTo cpos (starEach es X.env)).any (·.1) = false := by rfl) :
    PE X (.Call (.Attribute o name apos) (e :: es) [] cpos) (tBM K T r to t) := by
  subst hK
  exact pe_bm pa slot hty hm ho ha hbase hfew hline hs hplain
end L2
namespace Seek
open PySem L2 PyProof.Rows
theorem log_ok4 {n : Int} (h : n.natAbs < 10 ^ 500) : n.natAbs.log2 < 1920 := by
  by_cases h0 : n.natAbs = 0
  · rw [h0]; decide
  · rw [Nat.log2_lt h0]
    have h1 : (10 : Nat) ^ 500 ≤ 2 ^ 1700 := by
      have k := Nat.pow_le_pow_left (show (10 : Nat) ^ 50 ≤ 2 ^ 170 by decide) 10
      rwa [← Nat.pow_mul, ← Nat.pow_mul] at k
    have h2 : (2 : Nat) ^ 1700 ≤ 2 ^ 1920 := Nat.pow_le_pow_right (by decide) (by decide)
    exact Nat.lt_of_lt_of_le h (Nat.le_trans h1 h2)
def Bd500 (ns : List Int) : Prop := ∀ n ∈ ns, n.natAbs < 10 ^ 500
theorem row_ok {ns : List Int} (h6 : ns.length ≤ 6) (hb : Bd500 ns) : JoinOk " " (ns.map numStr) = true := by
  rw [sp_eq]
  refine join_ok (B := 501) (fun w hw => ?_) (by rw [List.length_map]; omega)
  obtain ⟨n, hn, rfl⟩ := List.mem_map.mp hw
  exact num_len (hb n hn) (by decide)
theorem row_len {ns : List Int} (h6 : ns.length ≤ 6) (hb : Bd500 ns) : (rowS ns).length ≤ 3012 := Nat.le_trans (rowS_len (B := 501) fun n hn => num_len (hb n hn) (by decide)) (Nat.mul_le_mul_right 502 h6)
theorem tab_ok {rows : List (List Int)} (h6 : rows.length ≤ 6) (hr : ∀ r ∈ rows, r.length ≤ 6) (hb : ∀ r ∈ rows, Bd500 r) : JoinOk "\n" (rows.map rowS) = true := by
  rw [nl_eq]
  refine join_ok (B := 3012) (fun w hw => ?_) (by rw [List.length_map]; omega)
  obtain ⟨r, hr', rfl⟩ := List.mem_map.mp hw
  exact row_len (hr r hr') (hb r hr')
section
variable {P : Program} {w : World} {K : PySem.W.Frag} {mg : Str → Option Value} {base : Heap}
def spSR : Sp := fun vs H Q _ => ∃ (a : Addr) (ns : List Int), vs = [.ref a] ∧ Row H a ns ∧ ns.length ≤ 6 ∧ Bd500 ns ∧ ∀ H', Same H H' → Q (.str (rowS ns)) H'
theorem sc_sr : FnScope ["row"] ["row"] (defScope dShowRow) := ⟨rfl, rfl, rfl, by decide +kernel, rfl, by decide +kernel, by decide +kernel⟩
theorem ok_showRow (hstr : mg "str" = none) (D : DefAt K mg "show_row" dShowRow ["row"]) : FnAt P w K mg base 1 "show_row" ["row"] spSR := by
  refine FnAt.of D sc_sr (fun vs H Q E h => ?_) (fun f cdv A outer s H vs Q E hr h => ?_)
  · obtain ⟨a, ns, rfl, _⟩ := h
    rfl
  · obtain ⟨a, ns, rfl, hR, h6, hb, q⟩ := h
    have nd1 : (["number"] : List Str).Nodup := by decide +kernel
    refine ⟨_, pss_one (ps_ret (pe_bm F.plainAttrs_str F.slot_str_join F.type_str_join mt_join pe_str (pa_cons (pe_comp ["number"] [none] (defScope dShowRow) ["row"] rfl (pi_list (pv 0)) (by decide +kernel)
      (fun cl C s2 H2 ex => pg_c 0 nd1) (fun cl C s2 H2 ex => pifs_nil) (fun cl C s2 H2 ex => pe_t call_strI hstr boot_str9 (pa_cons (pv 0) pa_nil))) pa_nil))), ?_⟩
    refine ⟨rfl, _, rfl, a, rfl, ⟨_, hR.sq⟩, comp_map (ms := ns) V.int (fun n => V.str (numStr n)) hR.sq (sl6 (by omega)) (fun n hn H' Q' sm q' => ⟨_, rfl, n, rfl, log_ok4 (hb n hn), q' _ (Same.refl _)⟩) fun D2 H2 hD s2 eD => ?_⟩
    exact ⟨_, D2, ns.map numStr, rfl, rfl, by rw [eD, List.map_map]; rfl, row_ok h6 hb, q H2 s2⟩
def spST : Sp := fun vs H Q _ => ∃ (t : Addr) (prs : Prs), vs = [.ref t] ∧ Tab H t prs ∧ tabB prs = true ∧ (∀ p ∈ prs, Bd500 p.2) ∧ ∀ H', Same H H' → Q (.str (tabS (prs.map (·.2)))) H'
theorem sc_st : FnScope ["table"] ["table"] (defScope dShowTable) := ⟨rfl, rfl, rfl, by decide +kernel, rfl, by decide +kernel, by decide +kernel⟩
theorem tab_joins {prs : Prs} (hg : tabB prs = true) (hb : ∀ p ∈ prs, Bd500 p.2) : JoinOk "\n" ((prs.map (·.2)).map rowS) = true := by
  obtain ⟨g, g1, g2, g3, g4⟩ := good_of hg
  refine tab_ok (by rw [List.length_map]; exact g2) (fun r hr => ?_) fun r hr => ?_
  · obtain ⟨p, hp, rfl⟩ := List.mem_map.mp hr
    rw [g.len p hp]; exact g4
  · obtain ⟨p, hp, rfl⟩ := List.mem_map.mp hr
    exact hb p hp
theorem ok_showTable (D : DefAt K mg "show_table" dShowTable ["table"]) (G1 : FnAt P w K mg base 6 "need_table" ["thing"] spNeedTable) (G2 : FnAt P w K mg base 1 "show_row" ["row"] spSR) : FnAt P w K mg base 7 "show_table" ["table"] spST := by
  refine FnAt.of D sc_st (fun vs H Q E h => ?_) (fun f cdv A outer s H vs Q E hr h => ?_)
  · obtain ⟨t, prs, rfl, _⟩ := h
    rfl
  · obtain ⟨t, prs, rfl, hT, hg, hb, q⟩ := h
    have nd1 : (["row"] : List Str).Nodup := by decide +kernel
    have hr1 : Room 1 _ := hr.mono (show 1 ≤ 6 by decide)
    obtain ⟨g, g1, g2, g3, g4⟩ := good_of hg
    refine ⟨_, pss_cons (ps_expr (pe_f G1 hr (pa_cons (pv 0) pa_nil))) (pss_one (ps_ret (pe_bm F.plainAttrs_str F.slot_str_join F.type_str_join mt_join pe_str (pa_cons (pe_comp ["row"] [none] (defScope dShowTable) ["table"] rfl (pi_list (pv 0)) (by decide +kernel)
      (fun cl C s2 H2 ex => pg_c 0 nd1) (fun cl C s2 H2 ex => pifs_nil) (fun cl C s2 H2 ex => pe_f G2 hr1 (pa_cons (pv 0) pa_nil))) pa_nil)))), ?_⟩
    refine ⟨_, rfl, t, prs, rfl, hT, good_bounds hg, hg, fun H1 s1 => ⟨rfl, _, rfl, t, rfl, ⟨_, (hT.same s1).sq⟩, comp_map (ms := prs) (fun p : Addr × List Int => V.ref p.1) (fun p => V.str (rowS p.2)) (hT.same s1).sq (sl6 (by omega)) (fun p hp H' Q' sm q' => ⟨_, rfl, p.1, p.2, rfl, ((hT.same s1).same sm).r p hp, by rw [g.len p hp]; exact g4, hb p hp, fun H'' s'' => q' H'' s''⟩) fun D2 H2 hD s2 eD => ?_⟩⟩
    exact ⟨_, D2, (List.map (fun p : Addr × List Int => p.2) prs).map rowS, rfl, rfl, by rw [eD]; simp only [List.map_map]; rfl, tab_joins hg hb, q H2 (s1.trans s2)⟩
theorem sc_wr : FnScope ["table"] ["table"] (defScope dWritten) := ⟨rfl, rfl, rfl, by decide +kernel, rfl, by decide +kernel, by decide +kernel⟩
theorem ok_written (hstr : mg "str" = none) (D : DefAt K mg "_law_written" dWritten ["table"]) : FnAt P w K mg base 1 "_law_written" ["table"] spST := by
  refine FnAt.of D sc_wr (fun vs H Q E h => ?_) (fun f cdv A outer s H vs Q E hr h => ?_)
  · obtain ⟨t, prs, rfl, _⟩ := h
    rfl
  · obtain ⟨t, prs, rfl, hT, hg, hb, q⟩ := h
    have nd1 : (["row"] : List Str).Nodup := by decide +kernel
    have nd2 : (["number"] : List Str).Nodup := by decide +kernel
    obtain ⟨g, g1, g2, g3, g4⟩ := good_of hg
    refine ⟨_, pss_one (ps_ret (pe_bm F.plainAttrs_str F.slot_str_join F.type_str_join mt_join pe_str (pa_cons (pe_comp ["row"] [none] (defScope dWritten) ["table"] rfl (pi_list (pv 0)) (by decide +kernel)
      (fun cl C s2 H2 ex => pg_c 0 nd1) (fun cl C s2 H2 ex => pifs_nil) (fun cl C s2 H2 ex => pe_bmK K F.plainAttrs_str F.slot_str_join F.type_str_join mt_join pe_str (pa_cons (pe_compN4 ["number"] [none] rfl (pi_listK4 K (pv 0)) (by kernel_rfl)
        (fun cl C s2 H2 ex => pg_c 0 nd2) (fun cl C s2 H2 ex => pifs_nil) (fun cl C s2 H2 ex => pe_t call_strI hstr boot_str9 (pa_cons (pv 0) pa_nil))) pa_nil))) pa_nil))), ?_⟩
    refine ⟨rfl, _, rfl, t, rfl, ⟨_, hT.sq⟩, comp_map (ms := prs) (fun p : Addr × List Int => V.ref p.1) (fun p => V.str (rowS p.2)) hT.sq (sl6 (by omega)) (fun p hp H' Q' sm q' => ?_) fun D2 H2 hD s2 eD => ?_⟩
    · have hR := (hT.same sm).r p hp
      have h6 : p.2.length ≤ 6 := by rw [g.len p hp]; exact g4
      refine ⟨rfl, _, rfl, p.1, rfl, ⟨_, hR.sq⟩, comp_map (ms := p.2) V.int (fun n => V.str (numStr n)) hR.sq (sl6 (by omega)) (fun n hn H3 Q3 sm3 q3 => ⟨_, rfl, n, rfl, log_ok4 (hb p hp n hn), q3 _ (Same.refl _)⟩) fun D3 H3 hD3 s3 eD3 => ?_⟩
      exact ⟨_, D3, p.2.map numStr, rfl, rfl, by rw [eD3, List.map_map]; rfl, row_ok h6 (hb p hp), q' _ s3⟩
    · exact ⟨_, D2, (List.map (fun p : Addr × List Int => p.2) prs).map rowS, rfl, rfl, by rw [eD]; simp only [List.map_map]; rfl, tab_joins hg hb, q H2 s2⟩
end
open PySem L2 PyProof.Rows
theorem kit_strE (K : PySem.W.Frag) (d : PyData) : PySem.W.kitOne K (.type (tyD d)) (.type "str") = some (match d with | .str _ => true | _ => false) := by
  cases d <;> (simp only [tyD]; kernel_rfl)
def isStrD : PyData → Bool
  | .str _ => true
  | _ => false
section
variable {P : Program} {w : World} {K : PySem.W.Frag} {mg : Str → Option Value} {base : Heap} {c : Addr}
def TxtOk (x : Str) : Prop := x.length ≤ 2000 ∧ (Txt.split x "\n").length ≤ 600 ∧ ∀ l ∈ Txt.split x "\n", l.length ≤ 600
def RowsOf (x : Str) (rows : List (List Int)) : Prop := rows ≠ [] ∧ (∀ r ∈ rows, r ≠ []) ∧ Txt.split x "\n" = rows.map rowS
theorem RowsOf.lens {x : Str} {rows : List (List Int)} (hx : TxtOk x) (h : RowsOf x rows) : rows.length ≤ 600 ∧ ∀ r ∈ rows, (∀ n ∈ r, (numStr n).length ≤ 600) ∧ r.length ≤ 601 ∧ (rowS r).length ≤ 600 := by
  obtain ⟨_, h2, h3⟩ := h
  obtain ⟨_, k2, k3⟩ := hx
  rw [h3] at k2 k3
  rw [List.length_map] at k2
  refine ⟨k2, fun r hr => ?_⟩
  have h0 := k3 (rowS r) (List.mem_map.mpr ⟨r, hr, rfl⟩)
  have hsp := rowS_split (h2 r hr)
  refine ⟨fun n hn => ?_, ?_, h0⟩
  · have h1 := part_len (x := rowS r) (c := 32) (numStr n) (by rw [← sp_eq, hsp]; exact List.mem_map.mpr ⟨n, hn, rfl⟩)
    omega
  · have h1 := part_cnt (rowS r) 32
    rw [← sp_eq, hsp, List.length_map] at h1
    omega
theorem sc_rtA : FnScope ["text", "table"] ["text"] (defScope dReadTable) := ⟨rfl, rfl, rfl, by decide +kernel, rfl, by decide +kernel, by decide +kernel⟩
def spRTA : Sp := fun vs H Q _ => ∃ (x : Str) (rows : List (List Int)), vs = [.str x] ∧ TxtOk x ∧ RowsOf x rows ∧ rowsOk rows = true ∧ ∀ t prs H', H t = none → (∀ p ∈ prs, H p.1 = none ∧ p.1 ≠ t) → Same H H' → Tab H' t prs → prs.map (·.2) = rows → Q (.ref t) H'
set_option maxHeartbeats 4000000 in
theorem ok_readTableA (T : Blt mg) (hstr : mg "str" = none) (D : DefAt K mg "read_table" dReadTable ["text"]) (G : FnAt P w K mg base 3 "read_row" ["line"] spRRA) (G4 : FnAt P w K mg base 5 "is_table" ["thing"] spIsTable) : FnAt P w K mg base 6 "read_table" ["text"] spRTA := by
  refine FnAt.of D sc_rtA (fun vs H Q E h => ?_) (fun f cdv A outer s H vs Q E hr h => ?_)
  · obtain ⟨x, rows, rfl, _⟩ := h
    rfl
  · obtain ⟨x, rows, rfl, hx, hR, hok, q⟩ := h
    have nd := sc_rtA.nd
    have nd1 : (["line"] : List Str).Nodup := by decide +kernel
    obtain ⟨rl, rr⟩ := hR.lens hx
    have hr3 : Room 3 _ := hr.mono (show 3 ≤ 5 by decide)
    refine ⟨_, pss_cons (ps_if (pt_not (pt_val (pe_b call_isinst T.isinst boot_isinstance (pa_cons (pv 0) (pa_cons (pe_ty hstr boot_str9) pa_nil))))) pss_never pss_nil)
      (pss_cons (ps_setC (i := 1) ["line"] [none] (defScope dReadTable) ["text", "table"] nd rfl (Or.inl rfl) rfl (pi_list (pe_bm F.plainAttrs_str F.slot_str_split F.type_str_split mt_split (pv 0) (pa_cons pe_str pa_nil))) (by decide +kernel)
        (fun cl C s2 H2 ex => pg_c 0 nd1) (fun cl C s2 H2 ex => pifs_nil) (fun cl C s2 H2 ex => pe_f G hr3 (pa_cons (pv 0) pa_nil)))
      (pss_cons (ps_if (pt_not (pt_val (pe_f G4 hr (pa_cons (pv 1) pa_nil)))) pss_never pss_nil) (pss_one (ps_ret (pv 1))))), ?_⟩
    refine ⟨_, rfl, _, "str", _, true, rfl, .str _, by kernel_rfl, _, rfl, iteF ⟨_, rfl, rfl, _, _, rfl, rfl, by decide +kernel, by have := hx.1; omega, fun p hp => ?_⟩⟩
    rw [hR.2.2]
    have s1 := Same.new (o := .lst ((rows.map rowS).map V.str)) hp
    have e1 : (upd H p (.lst ((rows.map rowS).map V.str))) p = some (.lst ((rows.map rowS).map V.str)) := upd_same
    generalize upd H p (.lst ((rows.map rowS).map V.str)) = H1 at s1 e1 ⊢
    rw [List.map_map] at e1
    refine ⟨p, rfl, ⟨_, SqL.of e1⟩, comp_tab (ms := rows) (V.str ∘ rowS) id (SqL.of e1) (by omega) (fun r hr H' Q' sm q' => ⟨_, rfl, rowS r, r, rfl, (rr r hr).2.2, rowS_split (hR.2.1 r hr), fun p' H'' hp' s'' hR => q' p' H'' hp' s'' hR⟩) fun t prs H2 ht hp2 hnd s2 hT2 hrows => ?_⟩
    rw [List.map_id] at hrows
    have hg2 : tabB prs = true := by rw [rowsOk_of rfl, hrows]; exact hok
    refine ⟨_, rfl, t, prs, rfl, hT2, good_bounds hg2, fun H3 s3 => ⟨_, rfl, ?_⟩⟩
    rw [hg2]
    refine iteF ⟨_, rfl, ?_⟩
    exact q t prs H3 (s1.free ht) (fun p' hp' => ⟨s1.free (hp2 p' hp').1, (hp2 p' hp').2⟩) ((s1.trans s2).trans s3) (hT2.same s3) hrows
def spRTX1 (c : Addr) : Sp := fun vs H _ E => ∃ (x : V) (d : PyData), vs = [x] ∧ RdS [] H x d ∧ isStrD d = false ∧ ∀ H', Same H H' → E (.ref c) none H'
theorem ok_readTableX1 (T : Blt mg) (hstr : mg "str" = none) (hk : ExcK K c) (hm : mg "NoText" = some (.ref c)) (D : DefAt K mg "read_table" dReadTable ["text"]) : FnAtX P w K mg base 6 "read_table" ["text"] (spRTX1 c) := by
  refine FnAtX.of D sc_rtA (fun vs H Q E h => ?_) (fun f cdv A outer s H vs Q E hr h => ?_)
  · obtain ⟨x, d, rfl, _⟩ := h
    rfl
  · obtain ⟨x, d, rfl, rd, hd, he⟩ := h
    refine ⟨_, pss_cons (ps_if (pt_not (pt_val (pe_b call_isinst T.isinst boot_isinstance (pa_cons (pv 0) (pa_cons (pe_ty hstr boot_str9) pa_nil))))) (pss_one (ps_raise throws_def hk pe_str hm)) pss_nil) pss_never, ?_⟩
    refine ⟨_, rfl, _, "str", _, false, rfl, rd.ty, ?_, _, rfl, iteT (he _ (Same.refl _))⟩
    rw [kit_strE]
    cases d <;> first | rfl | cases hd
theorem comp_raise {K : PySem.W.Frag} {a : Addr} {α : Type} {ms : List α} {σ0 : L2.St} {H1 : Hp} {te : TE} {Q : VK} (u : α → V) {j : Nat} (hj : j < ms.length) (hq : SqL K H1 a (ms.map u)) (hn : ms.length ≤ 1000)
    (hgood : ∀ i m, i < j → ms[i]? = some m → ∀ (H' : Hp) (Q' : VK), Same H1 H' → (∀ y H'', Same H' H'' → Q' y H'') → te (σ0.set 0 (some (u m))) H' Q')
    (hbad : ∀ m, ms[j]? = some m → ∀ (H' : Hp) (Q' : VK), Same H1 H' → te (σ0.set 0 (some (u m))) H' Q') : CompRun (Itl K a) (gName 0) tTrue te σ0 H1 Q := by
  intro D hD
  refine comp_by (n := ms.length) (fun i ys H' => Same H1 H' ∧ H' D = some (.lst ys) ∧ ys.length = i ∧ i ≤ j) ⟨Same.new hD, upd_same, rfl, Nat.zero_le _⟩ (fun i ys H' _ q => q.2.1)
    (fun i ys H' hi q => ⟨_, u ms[i], q.1.seq hq, by simp [hi]⟩) (fun ys H' q => ⟨_, q.1.seq hq, by simp⟩) ?_ (fun ys H' q => absurd q.2.2.2 (by omega))
  rintro i ys H' y H2 hi ⟨sm, hDl, hyl, hij⟩ ⟨rfl, hy⟩
  have hy := hy _ (sm.seq hq)
  rw [List.getElem?_map, List.getElem?_eq_getElem hi] at hy
  have hy : u ms[i] = y := Option.some.inj hy
  subst hy
  unfold tTrue
  refine iteT ?_
  rcases Nat.lt_or_ge i j with hlt | hge
  · exact hgood i _ hlt (List.getElem?_eq_getElem hi) _ _ sm fun y H3 s3 => ⟨s3 _ _ hDl, small1000 (by omega), (sm.trans s3).upd hD, upd_same, by simp [hyl], by omega⟩
  · have hij' : i = j := by omega
    subst hij'
    exact hbad _ (List.getElem?_eq_getElem hi) _ _ sm
def spRTX2 (c : Addr) : Sp := fun vs H _ E => ∃ (x : Str), vs = [.str x] ∧ TxtOk x ∧ textB x = false ∧ ∀ H', Same H H' → E (.ref c) none H'
theorem first_bad {ls : List Str} (h : ls.all lineB = false) : ∃ j, j < ls.length ∧ (∃ l, ls[j]? = some l ∧ lineB l = false) ∧ ∀ k l, k < j → ls[k]? = some l → lineB l = true := by
  induction ls with
  | nil => simp at h
  | cons l ls ih =>
    cases e : lineB l with
    | false => exact ⟨0, by simp, ⟨l, rfl, e⟩, fun k l' hk => absurd hk (by omega)⟩
    | true =>
      rw [List.all_cons, e, Bool.true_and] at h
      obtain ⟨j, hj, ⟨b, hb, hb2⟩, hall⟩ := ih h
      refine ⟨j + 1, by simp; omega, ⟨b, hb, hb2⟩, fun k l' hk hl => ?_⟩
      cases k with
      | zero => cases hl; exact e
      | succ k => exact hall k l' (by omega) hl
set_option maxHeartbeats 4000000 in
theorem ok_readTableX2 (T : Blt mg) (hstr : mg "str" = none) (hk : ExcK K c) (hm : mg "NoText" = some (.ref c)) (D : DefAt K mg "read_table" dReadTable ["text"]) (G : FnAt P w K mg base 3 "read_row" ["line"] spRRA) (GX : FnAtX P w K mg base 3 "read_row" ["line"] (spRRX c)) : FnAtX P w K mg base 6 "read_table" ["text"] (spRTX2 c) := by
  refine FnAtX.of D sc_rtA (fun vs H Q E h => ?_) (fun f cdv A outer s H vs Q E hr h => ?_)
  · obtain ⟨x, rfl, _⟩ := h
    rfl
  · obtain ⟨x, rfl, hx, hb, he⟩ := h
    have nd := sc_rtA.nd
    have nd1 : (["line"] : List Str).Nodup := by decide +kernel
    have hr3 : Room 3 _ := hr.mono (show 3 ≤ 5 by decide)
    refine ⟨_, pss_cons (ps_if (pt_not (pt_val (pe_b call_isinst T.isinst boot_isinstance (pa_cons (pv 0) (pa_cons (pe_ty hstr boot_str9) pa_nil))))) pss_never pss_nil)
      (pss_cons (ps_setCX (i := 1) ["line"] [none] (defScope dReadTable) ["text", "table"] nd rfl (Or.inl rfl) rfl rfl rfl letby_def rfl (pi_list (pe_bm F.plainAttrs_str F.slot_str_split F.type_str_split mt_split (pv 0) (pa_cons pe_str pa_nil))) (by decide +kernel)
        (fun cl C s2 H2 ex => pg_c 0 nd1) (fun cl C s2 H2 ex => pifs_nil) (fun cl C s2 H2 ex W R hR => pe_fx (G.toX.or GX) hr3 hR (pa_cons (pv 0) pa_nil))) pss_never), ?_⟩
    refine ⟨_, rfl, _, "str", _, true, rfl, .str _, by kernel_rfl, _, rfl, iteF ⟨_, rfl, rfl, _, _, rfl, rfl, by decide +kernel, by have := hx.1; omega, fun p hp => ?_⟩⟩
    have s1 := Same.new (o := .lst ((Txt.split x "\n").map V.str)) hp
    have e1 : (upd H p (.lst ((Txt.split x "\n").map V.str))) p = some (.lst ((Txt.split x "\n").map V.str)) := upd_same
    generalize upd H p (.lst ((Txt.split x "\n").map V.str)) = H1 at s1 e1 ⊢
    obtain ⟨j, hj, ⟨b, hjb, hb2⟩, hall⟩ := first_bad (ls := Txt.split x "\n") hb
    have hn := hx.2.1
    refine ⟨p, rfl, ⟨_, SqL.of e1⟩, comp_raise (ms := Txt.split x "\n") V.str hj (SqL.of e1) (by omega) (fun i l hi hl H' Q' sm q' => ?_) fun l hl H' Q' sm => ?_⟩
    · obtain ⟨ns, hne, ex, hsp⟩ := line_of (hall i l hi hl)
      exact ⟨_, rfl, .inl ⟨l, ns, rfl, hx.2.2 l (List.mem_of_getElem? hl), hsp, fun a H3 ha s3 hR => q' _ H3 s3⟩⟩
    · rw [hjb] at hl
      cases hl
      exact ⟨_, rfl, .inr ⟨b, rfl, hx.2.2 b (List.mem_of_getElem? hjb), hb2, fun H3 s3 => he H3 ((s1.trans sm).trans s3)⟩⟩
def spRTX3 (c : Addr) : Sp := fun vs H _ E => ∃ (x : Str) (rows : List (List Int)), vs = [.str x] ∧ TxtOk x ∧ RowsOf x rows ∧ rowsOk rows = false ∧ ∀ H', Same H H' → E (.ref c) none H'
set_option maxHeartbeats 4000000 in
theorem ok_readTableX3 (T : Blt mg) (hstr : mg "str" = none) (hk : ExcK K c) (hm : mg "NoText" = some (.ref c)) (D : DefAt K mg "read_table" dReadTable ["text"]) (G : FnAt P w K mg base 3 "read_row" ["line"] spRRA) (G4 : FnAt P w K mg base 5 "is_table" ["thing"] spIsTable) : FnAtX P w K mg base 6 "read_table" ["text"] (spRTX3 c) := by
  refine FnAtX.of D sc_rtA (fun vs H Q E h => ?_) (fun f cdv A outer s H vs Q E hr h => ?_)
  · obtain ⟨x, rows, rfl, _⟩ := h
    rfl
  · obtain ⟨x, rows, rfl, hx, hR, hok, he⟩ := h
    have nd := sc_rtA.nd
    have nd1 : (["line"] : List Str).Nodup := by decide +kernel
    obtain ⟨rl, rr⟩ := hR.lens hx
    have hr3 : Room 3 _ := hr.mono (show 3 ≤ 5 by decide)
    refine ⟨_, pss_cons (ps_if (pt_not (pt_val (pe_b call_isinst T.isinst boot_isinstance (pa_cons (pv 0) (pa_cons (pe_ty hstr boot_str9) pa_nil))))) pss_never pss_nil)
      (pss_cons (ps_setC (i := 1) ["line"] [none] (defScope dReadTable) ["text", "table"] nd rfl (Or.inl rfl) rfl (pi_list (pe_bm F.plainAttrs_str F.slot_str_split F.type_str_split mt_split (pv 0) (pa_cons pe_str pa_nil))) (by decide +kernel)
        (fun cl C s2 H2 ex => pg_c 0 nd1) (fun cl C s2 H2 ex => pifs_nil) (fun cl C s2 H2 ex => pe_f G hr3 (pa_cons (pv 0) pa_nil)))
      (pss_cons (ps_if (pt_not (pt_val (pe_f G4 hr (pa_cons (pv 1) pa_nil)))) (pss_one (ps_raise throws_def hk pe_str hm)) pss_nil) pss_never)), ?_⟩
    refine ⟨_, rfl, _, "str", _, true, rfl, .str _, by kernel_rfl, _, rfl, iteF ⟨_, rfl, rfl, _, _, rfl, rfl, by decide +kernel, by have := hx.1; omega, fun p hp => ?_⟩⟩
    rw [hR.2.2]
    have s1 := Same.new (o := .lst ((rows.map rowS).map V.str)) hp
    have e1 : (upd H p (.lst ((rows.map rowS).map V.str))) p = some (.lst ((rows.map rowS).map V.str)) := upd_same
    generalize upd H p (.lst ((rows.map rowS).map V.str)) = H1 at s1 e1 ⊢
    rw [List.map_map] at e1
    refine ⟨p, rfl, ⟨_, SqL.of e1⟩, comp_tab (ms := rows) (V.str ∘ rowS) id (SqL.of e1) (by omega) (fun r hr H' Q' sm q' => ⟨_, rfl, rowS r, r, rfl, (rr r hr).2.2, rowS_split (hR.2.1 r hr), fun p' H'' hp' s'' hR => q' p' H'' hp' s'' hR⟩) fun t prs H2 ht hp2 hnd s2 hT2 hrows => ?_⟩
    rw [List.map_id] at hrows
    have hg2 : tabB prs = false := by rw [rowsOk_of rfl, hrows]; exact hok
    have sm : Sm prs := by
      have hl : prs.length = rows.length := by rw [← hrows, List.length_map]
      refine ⟨by omega, fun p hp => ?_⟩
      have := (rr p.2 (by rw [← hrows]; exact List.mem_map.mpr ⟨p, hp, rfl⟩)).2.1
      omega
    refine ⟨_, rfl, t, prs, rfl, hT2, sm, fun H3 s3 => ⟨_, rfl, ?_⟩⟩
    rw [hg2]
    exact iteT (he _ ((s1.trans s2).trans s3))
end
end Seek
namespace Seek
open PySem L2 PyProof.Rows Builtin Builtin.Str
theorem dg_lt (m : Nat) : m < 10 ^ (dg m).length := by
  induction m using Nat.strongRecOn with
  | _ m ih =>
    by_cases h : m < 10
    · unfold dg
      rw [Nat.toDigits_of_lt_base h]
      exact h
    · have hm : m % 10 < 10 := Nat.mod_lt m (by decide)
      have t : Nat.toDigits 10 (m / 10) ++ Nat.toDigits 10 (m % 10) = Nat.toDigits 10 (10 * (m / 10) + m % 10) := Nat.toDigits_append_toDigits (by decide) (by omega) hm
      rw [Nat.div_add_mod] at t
      have h1 := ih (m / 10) (by omega)
      have h2 : (dg m).length = (dg (m / 10)).length + 1 := by
        unfold dg
        rw [← t, Nat.toDigits_of_lt_base hm, List.map_append, List.length_append]
        rfl
      rw [h2, Nat.pow_succ]
      omega
theorem num_lt (n : Int) : n.natAbs < 10 ^ (numStr n).length := by
  rw [← str_len]
  cases n with
  | ofNat m =>
    rw [show Int.ofNat m = (m : Int) from rfl, numStr_nat]
    exact dg_lt m
  | negSucc m =>
    rw [numStr_neg, List.length_cons, Nat.pow_succ]
    have := dg_lt (m + 1)
    show m + 1 < _
    omega
def LL (n : Nat) (cs : List Nat) : Prop := ∀ a b c, cs = a ++ b ++ c → 10 ∉ b → b.length ≤ n
theorem LL.mono {n m : Nat} {cs : List Nat} (h : LL n cs) (k : n ≤ m) : LL m cs := fun a b c e f => Nat.le_trans (h a b c e f) k
theorem LL.sub {n : Nat} {cs a b c : List Nat} (h : LL n cs) (e : cs = a ++ b ++ c) : LL n b := fun a' b' c' e' f => h (a ++ a') b' (c' ++ c) (by rw [e, e']; simp) f
theorem LL.app {n m : Nat} {x y : List Nat} (h : LL n x) (k : LL m y) : LL (n + m) (x ++ y) := fun a b c e f => by
  have ex : x = a.take x.length ++ b.take (x.length - a.length) ++ c.take (x.length - (a ++ b).length) := by
    have := congrArg (List.take x.length) e
    rw [List.take_left, List.take_append, List.take_append] at this
    exact this
  have ey : y = a.drop x.length ++ b.drop (x.length - a.length) ++ c.drop (x.length - (a ++ b).length) := by
    have := congrArg (List.drop x.length) e
    rw [List.drop_left, List.drop_append, List.drop_append] at this
    exact this
  have h1 := h _ _ _ ex fun z => f (List.mem_of_mem_take z)
  have h2 := k _ _ _ ey fun z => f (List.mem_of_mem_drop z)
  have h3 : (b.take (x.length - a.length)).length + (b.drop (x.length - a.length)).length = b.length := by
    rw [← List.length_append, List.take_append_drop]
  omega
theorem LL.len (cs : List Nat) : LL cs.length cs := fun a b c e _ => by
  rw [e, List.length_append, List.length_append]
  omega
theorem LL.cut {n : Nat} {x y : List Nat} (h : LL n x) (k : LL n y) : LL n (x ++ 10 :: y) := fun a b c e f => by
  rcases Nat.lt_or_ge x.length a.length with z | z
  · have := congrArg (List.drop (x.length + 1)) e
    rw [show x.length + 1 = (x ++ [10]).length by simp, show x ++ 10 :: y = (x ++ [10]) ++ y by simp, List.drop_left, List.drop_append, List.drop_append] at this
    have hz : (x ++ [10]).length - a.length = 0 := by rw [List.length_append, List.length_singleton]; omega
    rw [hz, List.drop_zero] at this
    exact k _ _ _ this f
  · rcases Nat.lt_or_ge x.length (a.length + b.length) with z2 | z2
    · exfalso
      have h1 : (x ++ 10 :: y)[x.length]? = some 10 := by simp
      rw [e, List.append_assoc, List.getElem?_append_right z, List.getElem?_append_left (by omega)] at h1
      exact f (List.mem_of_getElem? h1)
    · have := congrArg (List.take x.length) e
      rw [List.take_left, List.take_append, List.take_append, List.take_of_length_le (l := b) (by omega)] at this
      exact h _ _ _ this f
theorem ll_join {n : Nat} : ∀ {ws : List Str}, (∀ w ∈ ws, w.length ≤ n) → LL n (Str.join ⟨#[10]⟩ ws).cps.toList
  | [], _ => by
    show LL n Str.empty.cps.toList
    intro a b c e _
    have := congrArg List.length e
    simp [Str.empty] at this
    omega
  | [w], h => by
    have h1 := h w (.head _)
    rw [← str_len] at h1
    exact (LL.len _).mono (by rw [join_list]; simpa using h1)
  | w :: x :: r, h => by
    have h1 := h w (.head _)
    rw [← str_len] at h1
    rw [join_list]
    exact ((LL.len _).mono h1).cut (ll_join fun v hv => h v (.tail _ hv))
theorem join_in {c : Nat} : ∀ {ws : List Str}, ∀ w ∈ ws, ∃ a d, (Str.join ⟨#[c]⟩ ws).cps.toList = a ++ w.cps.toList ++ d
  | [w], v, h => by
    rw [List.mem_singleton.mp h]
    exact ⟨[], [], by rw [join_list]; simp⟩
  | w :: x :: r, v, h => by
    rcases List.mem_cons.mp h with z | z
    · exact ⟨[], c :: (Str.join ⟨#[c]⟩ (x :: r)).cps.toList, by rw [join_list, z]; simp⟩
    · obtain ⟨a, d, e⟩ := join_in (c := c) (ws := x :: r) v z
      exact ⟨w.cps.toList ++ c :: a, d, by rw [join_list]; simp only []; rw [e]; simp⟩
theorem ll_line {n : Nat} {x : Str} (h : LL n x.cps.toList) : ∀ l ∈ Txt.split x "\n", l.length ≤ n := fun l hl => by
  rw [nl_eq] at hl
  obtain ⟨a, d, e⟩ := join_in (c := 10) l hl
  rw [StrLaws.join_split] at e
  have := h a _ d e (StrLaws.split_free x 10 l hl)
  rwa [str_len] at this
theorem join_cnt10 : ∀ {ws : List Str}, ws.length ≤ (Str.join ⟨#[10]⟩ ws).cps.toList.count 10 + 1
  | [] => Nat.zero_le _
  | [w] => by simp
  | w :: x :: r => by
    rw [join_list, List.count_append]
    have := join_cnt10 (ws := x :: r)
    simp only [List.count_cons_self]
    show (x :: r).length + 1 ≤ _
    omega
theorem split_cnt10 (x : Str) : (Txt.split x "\n").length ≤ x.cps.toList.count 10 + 1 := by
  rw [nl_eq]
  have := join_cnt10 (ws := Txt.split x ⟨#[10]⟩)
  rwa [StrLaws.join_split] at this
theorem join_cnt0 : ∀ {ws : List Str}, (∀ w ∈ ws, 10 ∉ w.cps.toList) → (Str.join ⟨#[10]⟩ ws).cps.toList.count 10 ≤ ws.length
  | [], _ => by simp [Str.join, Str.empty]
  | [w], h => by
    rw [join_list, List.count_append, List.count_eq_zero_of_not_mem (h w (.head _))]
    simp
  | w :: x :: r, h => by
    rw [join_list, List.count_append, List.count_eq_zero_of_not_mem (h w (.head _))]
    have := join_cnt0 (ws := x :: r) fun v hv => h v (.tail _ hv)
    simp only [List.count_cons_self]
    rw [List.length_cons (a := w)]
    omega
def GivOk (x : Str) : Prop := x.length ≤ 2000 ∧ (Txt.split x "\n").length ≤ 600 ∧ ∀ l ∈ Txt.split x "\n", l.length ≤ 400
theorem GivOk.txt {x : Str} (h : GivOk x) : TxtOk x := ⟨h.1, h.2.1, fun l hl => Nat.le_trans (h.2.2 l hl) (by decide)⟩
theorem giv_small {x : Str} (h : x.length ≤ 400) : GivOk x := by
  refine ⟨by omega, ?_, fun l hl => ?_⟩
  · have := part_cnt x 10
    rw [← nl_eq] at this
    omega
  · rw [nl_eq] at hl
    have := part_len l hl
    omega
theorem giv_of {x : Str} (h1 : x.cps.toList.length ≤ 2000) (h2 : x.cps.toList.count 10 ≤ 500) (h3 : LL 400 x.cps.toList) : GivOk x :=
  ⟨by rw [← str_len]; exact h1, by have := split_cnt10 x; omega, ll_line h3⟩
theorem GivOk.bd {x : Str} {rows : List (List Int)} (h : GivOk x) (hr : RowsOf x rows) : ∀ r ∈ rows, Bd500 r := fun r hrr n hn => by
  obtain ⟨_, h2, h3⟩ := hr
  have h0 := h.2.2 (rowS r) (by rw [h3]; exact List.mem_map.mpr ⟨r, hrr, rfl⟩)
  have hsp := rowS_split (h2 r hrr)
  have h1 := part_len (x := rowS r) (c := 32) (numStr n) (by rw [← sp_eq, hsp]; exact List.mem_map.mpr ⟨n, hn, rfl⟩)
  exact Nat.lt_of_lt_of_le (num_lt n) (Nat.pow_le_pow_right (by decide) (by omega))
def TabOk (x : Str) : Prop := x.cps.toList.length ≤ 1900 ∧ x.cps.toList.count 10 ≤ 6 ∧ LL 174 x.cps.toList
def Bd27 (ns : List Int) : Prop := ∀ n ∈ ns, n.natAbs < 10 ^ 27
theorem Bd27.b500 {ns : List Int} (h : Bd27 ns) : Bd500 ns := fun n hn => Nat.lt_of_lt_of_le (h n hn) (Nat.pow_le_pow_right (by decide) (by decide))
theorem tab_text {prs : Prs} (hg : tabB prs = true) (hb : ∀ p ∈ prs, Bd27 p.2) : TabOk (tabS (prs.map (·.2))) := by
  obtain ⟨g, g1, g2, g3, g4⟩ := good_of hg
  have rl : ∀ r ∈ prs.map (·.2), (rowS r).length ≤ 174 := fun r hr => by
    obtain ⟨p, hp, rfl⟩ := List.mem_map.mp hr
    refine Nat.le_trans (rowS_len (B := 28) fun n hn => num_len (hb p hp n hn) (by decide)) ?_
    have : p.2.length ≤ 6 := by rw [g.len p hp]; exact g4
    exact Nat.mul_le_mul_right 29 this
  have l6 : (prs.map (·.2)).length ≤ 6 := by rw [List.length_map]; exact g2
  refine ⟨?_, ?_, ?_⟩
  · rw [str_len]
    exact tabS_len (M := 1900) rl (by have := Nat.mul_le_mul_right 175 l6; omega)
  · unfold tabS
    rw [nl_eq, txt_join]
    refine Nat.le_trans (join_cnt0 fun w hw => ?_) (by rw [List.length_map]; exact l6)
    obtain ⟨r, hr, rfl⟩ := List.mem_map.mp hw
    exact rowS_free r
  · unfold tabS
    rw [nl_eq, txt_join]
    refine ll_join fun w hw => ?_
    obtain ⟨r, hr, rfl⟩ := List.mem_map.mp hw
    exact rl r hr
theorem cut_to {x : Str} {k : Nat} (h : k ≤ x.cps.toList.length) : (Txt.slice x none (some (k : Int))).cps.toList = x.cps.toList.take k := by
  have hh := StrLaws.sliceText_to (x := x) (j := (k : Int)) ⟨by omega, by omega⟩
  rw [show Txt.slice x none (some (k : Int)) = StrLaws.sliceText x none (some (k : Int)) from rfl, hh]
  simp
theorem cut_from {x : Str} {k : Nat} (h : k ≤ x.cps.toList.length + 1) : (Txt.slice x (some (k : Int)) none).cps.toList = x.cps.toList.drop k := by
  rcases Nat.lt_or_ge x.cps.toList.length k with z | z
  · rw [List.drop_eq_nil_of_le (by omega)]
    have hs : strSliceIndices (some (k : Int)) none 1 x.length = [] := by
      rw [str_len] at z h
      unfold strSliceIndices sliceRange
      simp only [show (1 : Int) > 0 by decide, if_true]
      rw [List.map_eq_nil_iff, List.range_eq_nil]
      split <;> (try split) <;> (try split) <;> (try simp only [Int.ediv_one]) <;> omega
    unfold Txt.slice
    rw [hs]
    split
    · next e =>
      simp at e
      apply List.eq_nil_of_length_eq_zero
      rw [str_len]
      omega
    · rfl
  · have hh := StrLaws.sliceText_from (x := x) (i := (k : Int)) ⟨by omega, by omega⟩
    rw [show Txt.slice x (some (k : Int)) none = StrLaws.sliceText x (some (k : Int)) none from rfl, hh]
    simp only [Int.toNat_natCast]
    rw [List.take_of_length_le (by rw [List.length_drop]; omega)]
theorem app_list (x y : Str) : (x ++ y).cps.toList = x.cps.toList ++ y.cps.toList := by
  show (x.cps ++ y.cps).toList = _
  rw [Array.toList_append]
theorem cut_ok {x : Str} (h : TabOk x) {i j : Nat} (hi : i ≤ x.cps.toList.length) (hij : i ≤ j) (hj : j ≤ x.cps.toList.length + 1) (m : Str) (hm : m.cps.toList.length ≤ 1) :
    GivOk (Txt.slice x none (some (i : Int)) ++ m ++ Txt.slice x (some (j : Int)) none) := by
  obtain ⟨h1, h2, h3⟩ := h
  have l1 : LL 174 (x.cps.toList.take i) := h3.sub (a := []) (c := x.cps.toList.drop i) (by simp)
  have l2 : LL 174 (x.cps.toList.drop j) := h3.sub (a := x.cps.toList.take j) (c := []) (by simp)
  have c1 : (x.cps.toList.take i).count 10 ≤ 6 := Nat.le_trans ((List.take_sublist i _).count_le 10) h2
  have c2 : (x.cps.toList.drop j).count 10 ≤ 6 := Nat.le_trans ((List.drop_sublist j _).count_le 10) h2
  have c3 := List.count_le_length (a := 10) (l := m.cps.toList)
  have z1 : (x.cps.toList.take i).length ≤ 1900 := Nat.le_trans (by rw [List.length_take]; exact Nat.min_le_right _ _) h1
  refine giv_of ?_ ?_ ?_
  · rw [app_list, app_list, cut_to hi, cut_from hj, List.length_append, List.length_append, List.length_take, List.length_drop]
    omega
  · rw [app_list, app_list, cut_to hi, cut_from hj, List.count_append, List.count_append]
    omega
  · rw [app_list, app_list, cut_to hi, cut_from hj]
    exact ((l1.app ((LL.len _).mono hm)).app l2).mono (by decide)
open PySem L2 PyProof.Rows
theorem len0 : 0 ≤ sizeLine := by decide
theorem e25n : (10 : Int) ^ (25 : Int).toNat = 10000000000000000000000000 := by decide
theorem e12n : (10 : Int) ^ (12 : Int).toNat = 1000000000000 := by decide
def Stq (m : Int) (n : Int) : Prop := -40 ≤ n ∧ n ≤ 10000000000000000000000000 + m * 1000000000000
theorem of_decide_false {p : Prop} [Decidable p] (h : ¬ decide p = true) : ¬ p := fun z => h (decide_eq_true z)
theorem if_tail {tc : TT} {t u : TS} {D : Ends} {σ0 : L2.St} {H0 : Hp} (C : (L2.St → Hp → Prop) → Prop) (h : C (u D)) (hA : C (u D) → tc σ0 H0 (fun b H1 => if b = true then t { D with nx := u D } σ0 H1 else u D σ0 H1)) : tSeq (tIfS tc t tNext) u D σ0 H0 := hA h
section
variable {P : Program} {w : World} {K : PySem.W.Frag} {mg : Str → Option Value} {base : Heap}
def spMixed : Sp := fun vs H Q _ => ∃ (c : Int) (k : Nat), vs = [.int c, .int (k : Nat)] ∧ k ≤ 100 ∧ ∀ v H', 0 ≤ v → v < 10000000000000 → Same H H' → Q (.int v) H'
theorem sc_mixed : FnScope ["cell", "k", "number", "some"] ["cell", "k"] (defScope dMixed) := ⟨rfl, rfl, rfl, by decide +kernel, rfl, by decide +kernel, by decide +kernel⟩
theorem ok_mixed (D : DefAt K mg "_law_mixed" dMixed ["cell", "k"]) : FnAt P w K mg base 1 "_law_mixed" ["cell", "k"] spMixed := by
  refine FnAt.of D sc_mixed (fun vs H Q E h => ?_) (fun f cdv A outer s H vs Q E hr h => ?_)
  · obtain ⟨c, k, rfl, _⟩ := h
    rfl
  · obtain ⟨c, k, rfl, hk, q⟩ := h
    have nd := sc_mixed.nd
    refine ⟨_, pss_cons (ps_set (i := 2) nd rfl (Or.inl rfl) (pe_op o_mod (pe_op o_add (pe_op o_add (pe_op o_add (pe_op o_mul (pv 0) pe_int) (pe_op o_mul (pe_op o_mul pe_int (pv 1)) (pv 1))) (pe_op o_mul pe_int (pv 1))) pe_int) pe_int))
      (pss_cons (ps_set (i := 3) nd rfl (Or.inl rfl) (pe_lst (pa_cons pe_int (pa_cons pe_int (pa_cons pe_int (pa_cons pe_int (pa_cons pe_int (pa_cons pe_int (pa_cons pe_int pa_nil)))))))))
      (pss_cons (ps_set (i := 2) nd rfl (Or.inl rfl) (pe_op o_mod (pe_op o_mul (pv 2) (pv 2)) (pe_ix ix_list (pv 3) (pe_op o_mod (pv 1) pe_int) (fun _ _ => rfl))))
      (pss_one (ps_ret (pe_op o_div (pe_op o_add (pe_op o_mul (pv 2) pe_int) (pe_op o_mod (pv 0) pe_int)) pe_int))))), ?_⟩
    refine ⟨_, rfl, _, _, rfl, rfl, .inr ⟨by decide, by decide⟩, _, rfl, _, _, rfl, rfl, .inl ⟨by decide, by decide⟩, _, rfl, _, _, rfl, rfl, .inr ⟨by omega, by omega⟩, _, _, rfl, rfl, _, rfl, _, _, rfl, rfl, .inl ⟨by decide, by decide⟩, _, _, rfl, rfl, _, _, rfl, rfl, _, _, rfl, rfl, by decide, ?_⟩
    have m0 := Int.emod_nonneg (c * 48271 + 7919 * (k : Int) * (k : Int) + 104729 * (k : Int) + 11) (show (2147483647 : Int) ≠ 0 by decide)
    have m1 := Int.emod_lt_of_pos (c * 48271 + 7919 * (k : Int) * (k : Int) + 104729 * (k : Int) + 11) (show (0 : Int) < 2147483647 by decide)
    generalize (c * 48271 + 7919 * (k : Int) * (k : Int) + 104729 * (k : Int) + 11) % 2147483647 = m at m0 m1
    refine ⟨sl6 (by decide), fun l hl => ?_⟩
    have s1 : Same H (upd H l (.lst [.int 2147483629, .int 2147483587, .int 2147483579, .int 2147483563, .int 2147483549, .int 2147483543, .int 2147483497])) := Same.new hl
    have e1 : (upd H l (.lst [.int 2147483629, .int 2147483587, .int 2147483579, .int 2147483563, .int 2147483549, .int 2147483543, .int 2147483497])) l = some (.lst ([2147483629, 2147483587, 2147483579, 2147483563, 2147483549, 2147483543, 2147483497].map V.int)) := upd_same
    generalize upd H l (.lst [.int 2147483629, .int 2147483587, .int 2147483579, .int 2147483563, .int 2147483549, .int 2147483543, .int 2147483497]) = H1 at s1 e1 ⊢
    obtain ⟨r, hr1, hr2⟩ := at_mem (ns := [2147483629, 2147483587, 2147483579, 2147483563, 2147483549, 2147483543, 2147483497]) (d := (k : Int) % 7) (by omega) (show (k : Int) % 7 < 7 by omega)
    have hr3 : 0 < r ∧ r < 2147483647 := by
      simp only [List.mem_cons, List.not_mem_nil, or_false] at hr1
      omega
    refine ⟨_, rfl, _, rfl, _, _, rfl, rfl, .inl ⟨by omega, by omega⟩, _, rfl, _, rfl, _, _, rfl, rfl, by decide, l, _, _, .int r, rfl, rfl, SqL.of e1, hr2, _, _, rfl, rfl, hr3.1, ?_⟩
    have n0 := Int.emod_nonneg (m * m) (show r ≠ 0 by omega)
    have n1 := Int.emod_lt_of_pos (m * m) hr3.1
    generalize m * m % r = n at n0 n1
    refine ⟨_, rfl, _, _, rfl, rfl, .inl ⟨by omega, by omega⟩, _, rfl, _, _, rfl, rfl, by decide, _, _, rfl, rfl, _, _, rfl, rfl, ⟨by decide, by decide⟩, q _ H1 (by omega) (by omega) s1⟩
def spTab34 : Sp := fun vs H Q _ => ∃ (c : Int), vs = [.int c, .int 6] ∧ 0 ≤ c ∧ ∀ t prs H', H t = none → (∀ p ∈ prs, H p.1 = none) → (prs.map (·.1)).Nodup → Same H H' → Tab H' t prs → tabB prs = true → (∀ p ∈ prs, Bd27 p.2) → Q (.ref t) H'
theorem sc_tab34 : FnScope ["cell", "most", "rows", "places", "kind", "first", "table", "r", "row", "c", "least", "one", "some"] ["cell", "most"] (defScope dTable) := ⟨rfl, rfl, rfl, by decide +kernel, rfl, by decide +kernel, by decide +kernel⟩
set_option maxHeartbeats 16000000 in
theorem ok_tab34 (T : Blt mg) (D : DefAt K mg "_law_table" dTable ["cell", "most"]) (G : FnAt P w K mg base 1 "_law_mixed" ["cell", "k"] spMixed) : FnAt P w K mg base 2 "_law_table" ["cell", "most"] spTab34 := by
  refine FnAt.of D sc_tab34 (fun vs H Q E h => ?_) (fun f cdv A outer s H vs Q E hr h => ?_)
  · obtain ⟨c, rfl, _⟩ := h
    rfl
  · obtain ⟨cc, rfl, hc0, q⟩ := h
    have nd := sc_tab34.nd
    refine ⟨_, pss_cons (ps_par (i := 2) (j := 3) rfl nd rfl rfl (by decide) rfl rfl (pa_cons (pe_op o_add pe_int (pe_op o_mod (pv 0) (pv 1))) (pa_cons (pe_op o_add pe_int (pe_op o_mod (pe_op o_div (pv 0) (pv 1)) (pv 1))) pa_nil)) rfl)
      (pss_cons (ps_set (i := 4) nd rfl (Or.inl rfl) (pe_op o_mod (pe_op o_div (pv 0) (pe_op o_mul (pv 1) (pv 1))) pe_int))
      (pss_cons (ps_set (i := 5) nd rfl (Or.inl rfl) (pe_ix ix_list (pe_lst (pa_cons pe_int (pa_cons pe_int (pa_cons (pe_un o_neg pe_int) (pa_cons (pe_op o_pow pe_int pe_int) (pa_cons (pe_un o_neg pe_int) pa_nil)))))) (pv 4) (fun _ _ => rfl)))
      (pss_cons (ps_set (i := 6) nd rfl (Or.inl rfl) (pe_lst pa_nil))
      (pss_cons (ps_for PassesOwn.never rfl (pi_range1 rfl T.rng (pa_cons (pv 2) pa_nil)) (pg_name (i := 7) nd rfl (Or.inl rfl))
        (pss_cons (ps_set (i := 8) nd rfl (Or.inl rfl) (pe_lst pa_nil))
        (pss_cons (ps_for PassesOwn.never rfl (pi_range1 rfl T.rng (pa_cons (pv 3) pa_nil)) (pg_name (i := 9) nd rfl (Or.inl rfl))
          (pss_cons (ps_set (i := 10) nd rfl (Or.inl rfl) (pv 5))
          (pss_cons (ps_if (pt_cmpR o_gt (pv 7) pe_int (nomark _)) (pss_one (ps_set (i := 10) nd rfl (Or.inl rfl) (pe_ix ix_list (pe_ix ix_list (pv 6) (pe_op o_sub (pv 7) pe_int) (fun _ _ => rfl)) (pv 9) (fun _ _ => rfl)))) pss_nil)
          (pss_cons (ps_if (pt_cmpR o_gt (pv 9) pe_int (nomark _)) (pss_one (ps_set (i := 10) nd rfl (Or.inl rfl) (pe_b (call_max2 rfl) T.max boot_max (pa_cons (pv 10) (pa_cons (pe_ix ix_list (pv 8) (pe_un o_neg pe_int) (fun _ _ => rfl)) pa_nil))))) pss_nil)
          (pss_cons (ps_set (i := 11) nd rfl (Or.inl rfl) (pe_f G hr (pa_cons (pv 0) (pa_cons (pe_op o_add (pe_op o_mul pe_int (pv 7)) (pv 9)) pa_nil))))
          (pss_cons (ps_set (i := 12) nd rfl (Or.inl rfl) (pe_lst (pa_cons (pe_op o_mod (pv 11) pe_int) (pa_cons (pe_op o_mod (pv 11) pe_int) (pa_cons (pe_op o_add pe_int (pe_op o_mod (pv 11) pe_int)) (pa_cons (pe_op o_mod (pv 11) (pe_op o_pow pe_int pe_int)) (pa_cons (pe_op o_div (pe_op o_mod (pv 11) pe_int) pe_int) pa_nil)))))))
          (pss_one (ps_expr (pe_bm PySem.F.plainAttrs_list PySem.F.slot_list_append PySem.F.type_list_append mt_append (pv 8) (pa_cons (pe_op o_add (pv 10) (pe_ix ix_list (pv 12) (pv 4) (fun _ _ => rfl))) pa_nil))))))))))
        (pss_one (ps_expr (pe_bm PySem.F.plainAttrs_list PySem.F.slot_list_append PySem.F.type_list_append mt_append (pv 6) (pa_cons (pv 8) pa_nil)))))))
      (pss_one (ps_ret (pv 6))))))), ?_⟩
    refine ⟨_, rfl, _, rfl, _, _, rfl, rfl, by decide, _, _, rfl, rfl, _, rfl, _, rfl, _, _, rfl, rfl, ⟨by decide, by decide⟩, _, rfl, _, _, rfl, rfl, by decide, _, _, rfl, rfl, _, _, rfl, ?_⟩
    have r1 : 1 ≤ 1 + cc % 6 ∧ 1 + cc % 6 ≤ 6 := by omega
    have p1 : 1 ≤ 1 + cc / 6 % 6 ∧ 1 + cc / 6 % 6 ≤ 6 := by omega
    generalize 1 + cc % 6 = rows at r1 ⊢
    generalize 1 + cc / 6 % 6 = wide at p1 ⊢
    refine ⟨_, rfl, _, rfl, _, rfl, _, _, rfl, rfl, .inl ⟨by decide, by decide⟩, _, _, rfl, rfl, ⟨by decide, by decide⟩, _, _, rfl, rfl, by decide, ?_⟩
    have k0 : 0 ≤ cc / (6 * 6) % 5 := by omega
    have k1 : cc / (6 * 6) % 5 < 5 := by omega
    generalize cc / (6 * 6) % 5 = kind at k0 k1 ⊢
    refine ⟨_, rfl, _, _, rfl, rfl, ⟨by decide, by decide, by decide⟩, _, rfl, len5, fun l3 hl3 => ?_⟩
    rw [e25n]
    obtain ⟨first, hf1, hf2⟩ := at_mem (ns := [0, 0, -3, 10000000000000000000000000, -40]) k0 k1
    have hfirst : Stq 0 first := by
      simp only [List.mem_cons, List.not_mem_nil, or_false] at hf1
      unfold Stq
      omega
    refine ⟨_, rfl, l3, _, _, .int first, rfl, rfl, SqL.of upd_same, hf2, ?_⟩
    have s3 : Same H (upd H l3 (.lst [.int 0, .int 0, .int (-3), .int 10000000000000000000000000, .int (-40)])) := Same.new hl3
    generalize upd H l3 (.lst [.int 0, .int 0, .int (-3), .int 10000000000000000000000000, .int (-40)]) = H2 at s3 ⊢
    have B6 := s3
    clear s3 hf1 hf2
    refine ⟨len0, fun tb htb => ?_⟩
    have tb0 : H tb = none := B6.free htb
    refine ⟨_, rfl, rows, rfl, by omega, by omega, for_range (fun i σ H2 => ∃ (prs : Prs) (o7 o8 o9 o10 o11 o12 : Option V), σ = [some (.int cc), some (.int 6), some (.int rows), some (.int wide), some (.int kind), some (.int first), some (.ref tb), o7, o8, o9, o10, o11, o12] ∧
      Same H H2 ∧ Tab H2 tb prs ∧ prs.length = i ∧ GoodP wide.toNat prs ∧ (prs.map (·.1)).Nodup ∧ (∀ p ∈ prs, H p.1 = none) ∧ ∀ p ∈ prs, ∀ n ∈ p.2, Stq (6 * (i : Nat)) n)
      ⟨[], none, none, none, none, none, none, rfl, B6.trans (Same.new htb), ⟨upd_same, fun p hp => nomatch hp⟩, rfl, ⟨fun p hp => (nomatch hp), fun p hp => (nomatch hp), fun i hi => absurd hi (by simp)⟩, by simp, (fun p hp => nomatch hp), fun p hp => nomatch hp⟩ ?_ ?_⟩
    · rintro i σ H2 hi ⟨prs, o7, o8, o9, o10, o11, o12, rfl, B, hT, hlen, hg, hnd, hfr, hbd⟩
      refine ⟨len0, fun nn hnn => ?_⟩
      have nn0 : H nn = none := B.free hnn
      have nnt : tb ≠ nn := ne_of_none hT.l hnn
      have nnp : ∀ p ∈ prs, p.1 ≠ nn := fun p hp => ne_of_none (hT.r p hp) hnn
      refine ⟨_, rfl, wide, rfl, by omega, by omega, for_range (fun j σ H3 => ∃ (cur : List Int) (o9 o10 o11 o12 : Option V), σ = [some (.int cc), some (.int 6), some (.int rows), some (.int wide), some (.int kind), some (.int first), some (.ref tb), some (.int (0 + (i : Nat))), some (.ref nn), o9, o10, o11, o12] ∧
        Same H H3 ∧ Tab H3 tb prs ∧ Row H3 nn cur ∧ cur.length = j ∧ nfP cur ∧ (i = 0 ∨ ∀ k, k < j → (rowAt prs (i - 1)).getD k 0 ≤ cur.getD k 0) ∧ ∀ n ∈ cur, Stq (6 * (i : Nat) + (j : Nat)) n)
        ⟨[], o9, o10, o11, o12, rfl, B.trans (Same.new hnn), hT.same (Same.new hnn), Row.new, rfl, fun k hk => absurd hk (by simp), .inr fun k hk => absurd hk (by simp), fun n hn => nomatch hn⟩ ?_ ?_⟩
      · rintro j σ H3 hj ⟨cur, o9, o10, o11, o12, rfl, B3, hT3, hR3, hcl, hnf, hab, hcb⟩
        have hd1 : ∀ (ah : Int) (mo : Int) (H6 : Hp), 0 ≤ mo → mo ≤ 1000000000000 → Same H3 H6 → (i = 0 ∨ (rowAt prs (i - 1)).getD j 0 ≤ ah) → (∀ k, k + 1 = cur.length → cur.getD k 0 ≤ ah) → Stq (6 * (i : Nat) + (j : Nat)) ah →
            Same H (upd H6 nn (.lst (cur.map V.int ++ [.int (ah + mo)]))) ∧ Tab (upd H6 nn (.lst (cur.map V.int ++ [.int (ah + mo)]))) tb prs ∧ (cur ++ [ah + mo]).length = j + 1 ∧ nfP (cur ++ [ah + mo]) ∧ (i = 0 ∨ ∀ k, k < j + 1 → (rowAt prs (i - 1)).getD k 0 ≤ (cur ++ [ah + mo]).getD k 0) ∧ ∀ n ∈ cur ++ [ah + mo], Stq (6 * (i : Nat) + (j + 1 : Nat)) n := by
          intro ah mo H6 mo0 mo1 s6 hm1 hm2 hm3
          refine ⟨fun b o e => ?_, ⟨by rw [upd_ne nnt]; exact (hT3.same s6).l, fun p hp => ?_⟩, ?_, ?_, ?_, ?_⟩
          · rw [upd_ne (ne_of_none e nn0)]
            exact s6 _ _ (B3 b o e)
          · unfold Row
            rw [upd_ne (nnp p hp)]
            exact (hT3.same s6).r p hp
          · rw [List.length_append, List.length_singleton, hcl]
          · refine nfP_push hnf fun k hk => ?_
            have := hm2 k hk
            omega
          · rcases hab with z | z
            · exact .inl z
            · rcases hm1 with z2 | z2
              · exact .inl z2
              · refine .inr fun k hk => ?_
                rw [getD_push]
                by_cases hkj : k < cur.length
                · rw [if_pos hkj]
                  exact z k (by omega)
                · rw [if_neg hkj, if_pos (by omega), show k = j by omega]
                  omega
          · intro n hn
            rcases List.mem_append.mp hn with z | z
            · have := hcb n z
              unfold Stq at this ⊢
              omega
            · rw [List.mem_singleton.mp z]
              unfold Stq at hm3 ⊢
              omega
        have hfirst' : Stq (6 * (i : Nat) + (j : Nat)) first := by
          unfold Stq at hfirst ⊢
          omega
        refine ⟨_, rfl, ?_⟩
        dsimp only [gName]
        refine if_tail (fun N => ∀ ah : Int, (i = 0 ∨ (rowAt prs (i - 1)).getD j 0 ≤ ah) → Stq (6 * (i : Nat) + (j : Nat)) ah → N [some (.int cc), some (.int 6), some (.int rows), some (.int wide), some (.int kind), some (.int first), some (.ref tb), some (.int (0 + (i : Nat))), some (.ref nn), some (.int (0 + (j : Nat))), some (.int ah), o11, o12] H3) (fun ah hm1 hm3 => ?_) (fun tail => ?_)
        · refine if_tail (fun N => ∀ ah : Int, (i = 0 ∨ (rowAt prs (i - 1)).getD j 0 ≤ ah) → (∀ k, k + 1 = cur.length → cur.getD k 0 ≤ ah) → Stq (6 * (i : Nat) + (j : Nat)) ah → N [some (.int cc), some (.int 6), some (.int rows), some (.int wide), some (.int kind), some (.int first), some (.ref tb), some (.int (0 + (i : Nat))), some (.ref nn), some (.int (0 + (j : Nat))), some (.int ah), o11, o12] H3) (fun ah hm1 hm2 hm3 => ?_) (fun tail => ?_)
          · refine ⟨_, rfl, _, rfl, _, _, rfl, rfl, .inl ⟨by decide, by decide⟩, _, rfl, _, _, rfl, rfl, cc, 7 * i + j, ?_, by omega, fun mo H5 m0 m1 s5 => ?_⟩
            · rw [show 7 * (0 + (i : Int)) + (0 + (j : Int)) = ((7 * i + j : Nat) : Int) by omega]
            refine ⟨_, rfl, _, _, rfl, rfl, by decide, _, rfl, _, _, rfl, rfl, by decide, _, rfl, _, _, rfl, rfl, by decide, _, _, rfl, rfl, _, rfl, _, _, rfl, rfl, ⟨by decide, by decide, by decide⟩, _, _, rfl, rfl, (by rw [e12n]; decide), _, rfl, _, _, rfl, rfl, by decide, _, _, rfl, rfl, ⟨by decide, by decide⟩, len5, fun ls hls => ?_⟩
            rw [e12n]
            have sls : Same H5 (upd H5 ls (.lst [.int (mo % 2), .int (mo % 3), .int (1 + mo % 4), .int (mo % 1000000000000), .int (mo % 7 / 5)])) := Same.new hls
            have hls2 : (upd H5 ls (.lst [.int (mo % 2), .int (mo % 3), .int (1 + mo % 4), .int (mo % 1000000000000), .int (mo % 7 / 5)])) ls = some (.lst ([mo % 2, mo % 3, 1 + mo % 4, mo % 1000000000000, mo % 7 / 5].map V.int)) := upd_same
            generalize upd H5 ls (.lst [.int (mo % 2), .int (mo % 3), .int (1 + mo % 4), .int (mo % 1000000000000), .int (mo % 7 / 5)]) = H6 at sls hls2 ⊢
            obtain ⟨r, hr1, hr2⟩ := at_mem (ns := [mo % 2, mo % 3, 1 + mo % 4, mo % 1000000000000, mo % 7 / 5]) k0 k1
            have hr0 : 0 ≤ r ∧ r ≤ 1000000000000 := by
              simp only [List.mem_cons, List.not_mem_nil, or_false] at hr1
              omega
            have s6 := s5.trans sls
            have hR6 := hR3.same s6
            refine ⟨_, rfl, .inl ⟨rfl, _, hR6.sq⟩, _, rfl, _, rfl, _, rfl, ls, _, _, .int r, rfl, rfl, SqL.of hls2, hr2, _, _, rfl, rfl, nn, _, _, rfl, rfl, hR6, ?_, ?_⟩
            · rw [List.length_map]
              exact small1000 (by omega)
            · obtain ⟨z1, z2, z3, z4, z5, z6⟩ := hd1 ah r H6 hr0.1 hr0.2 s6 hm1 hm2 hm3
              exact ⟨cur ++ [ah + r], _, _, _, _, rfl, z1, z2, Row.push, z3, z4, z5, z6⟩
          · refine ⟨_, rfl, _, _, rfl, rfl, _, rfl, ite2 (fun hcol => ?_) (fun hcol => ?_)⟩
            · have hcol := of_decide_eq_true hcol
              refine ⟨_, rfl, _, rfl, _, rfl, nn, _, _, _, rfl, rfl, hR3.sq, at_last (by omega), _, _, rfl, ?_⟩
              have hla := hcb (cur.getD (cur.length - 1) 0) (by rw [List.getD_eq_getElem?_getD, List.getElem?_eq_getElem (by omega)]; exact List.getElem_mem _)
              have hlk : ∀ k, k + 1 = cur.length → cur.getD k 0 = cur.getD (cur.length - 1) 0 := fun k hk => by rw [show cur.length - 1 = k by omega]
              generalize cur.getD (cur.length - 1) 0 = la at hla hlk ⊢
              refine tail _ ?_ (fun k hk => ?_) ?_
              · rcases hm1 with z | z
                · exact .inl z
                · exact .inr (by split <;> omega)
              · rw [hlk k hk]
                split <;> omega
              · split
                · exact hla
                · exact hm3
            · have hcol := of_decide_false hcol
              exact tail ah hm1 (fun k hk => by omega) hm3
        · refine ⟨_, rfl, _, _, rfl, rfl, _, rfl, ite2 (fun hrow => ?_) (fun hrow => ?_)⟩
          · have hrow := of_decide_eq_true hrow
            obtain ⟨p, hp1, hp2, hp3⟩ := rowAt_mem (prs := prs) (i := i - 1) (by omega)
            have hpl := hg.len p hp1
            refine ⟨_, rfl, _, rfl, _, _, rfl, rfl, tb, _, _, .ref p.1, rfl, rfl, hT3.sq, ?_, _, rfl, p.1, _, _, .int (p.2.getD j 0), rfl, rfl, (hT3.r p hp1).sq, ?_, tail _ (.inr (by rw [hp3]; exact Int.le_refl _)) ?_⟩
            · rw [show (0 : Int) + (i : Int) - 1 = ((i - 1 : Nat) : Int) by omega]
              exact atI_nat (by rw [List.getElem?_map, hp2]; rfl)
            · rw [Int.zero_add]
              exact at_row (by omega)
            · have := hbd p hp1 (p.2.getD j 0) (by rw [List.getD_eq_getElem?_getD, List.getElem?_eq_getElem (by omega)]; exact List.getElem_mem _)
              unfold Stq at this ⊢
              omega
          · have hrow := of_decide_false hrow
            exact tail first (.inl (by omega)) hfirst'
      ·
        rintro σ H3 ⟨cur, o9, o10, o11, o12, rfl, B3, hT3, hR3, hcl, hnf, hab, hcb⟩
        refine ⟨_, rfl, .inl ⟨rfl, _, hT3.sq⟩, _, rfl, tb, _, _, rfl, rfl, hT3.l, ?_, ?_⟩
        · rw [List.length_map]
          exact small1000 (by omega)
        · have key : ∀ b o, b ≠ tb → H3 b = some o → (upd H3 tb (.lst ((prs.map fun p => V.ref p.1) ++ [.ref nn]))) b = some o := fun b o hb e => by
            rw [upd_ne hb]
            exact e
          have ntb : ∀ p ∈ prs, p.1 ≠ tb := fun p hp z => by
            have h1 := hT3.r p hp
            rw [z] at h1
            have h2 := hT3.l
            unfold Row at h1
            rw [h1] at h2
            have h3 := hg.len p hp
            cases e : p.2 with
            | nil => rw [e] at h3; simp at h3; omega
            | cons u v =>
              rw [e] at h2
              cases prs with
              | nil => simp at h2
              | cons a b => simp at h2
          refine ⟨prs ++ [(nn, cur)], _, _, _, _, _, _, rfl, ?_, ?_, ?_, ?_, ?_, ?_, ?_⟩
          · intro b o e
            exact key b o (ne_of_none e tb0) (B3 b o e)
          · refine ⟨by rw [upd_same, List.map_append]; rfl, fun p hp => ?_⟩
            rcases List.mem_append.mp hp with z | z
            · exact key _ _ (ntb p z) (hT3.r p z)
            · have : p = (nn, cur) := by simpa using z
              subst this
              exact key _ _ (Ne.symm nnt) hR3
          · rw [List.length_append, List.length_singleton, hlen]
          · refine good_push hg (by omega) hnf ?_
            rcases hab with z | z
            · exact .inl (by omega)
            · refine .inr fun k hk => ?_
              rw [hlen]
              exact z k (by omega)
          · rw [List.map_append, List.nodup_append]
            refine ⟨hnd, by simp, fun a ha b hb => ?_⟩
            obtain ⟨p, hp, rfl⟩ := List.mem_map.mp ha
            have : b = nn := by simpa using hb
            subst this
            exact nnp p hp
          · intro p hp
            rcases List.mem_append.mp hp with z | z
            · exact hfr p z
            · have : p = (nn, cur) := by simpa using z
              subst this
              exact nn0
          · intro p hp n hn
            rcases List.mem_append.mp hp with z | z
            · have := hbd p z n hn
              unfold Stq at this ⊢
              omega
            · have : p = (nn, cur) := by simpa using z
              subst this
              have := hcb n hn
              unfold Stq at this ⊢
              omega
    · rintro σ H2 ⟨prs, o7, o8, o9, o10, o11, o12, rfl, B, hT, hlen, hg, hnd, hfr, hbd⟩
      refine ⟨_, rfl, q tb prs H2 tb0 hfr hnd B hT (tabB_of hg (by omega) (by omega) (by omega) (by omega)) fun p hp n hn => ?_⟩
      have := hbd p hp n hn
      unfold Stq at this
      omega
end
end Seek
namespace Seek
open PySem L2 PyProof.Rows Builtin Builtin.Str
theorem peImp {X : Cx} {e : Expr} {t t' : TE} (h : PE X e t) (i : ∀ σ H Q, t' σ H Q → t σ H Q) : PE X e t' := fun pins s σ H Q I q => h pins s σ H Q I (i σ H Q q)
theorem paImp {X : Cx} {es : List Expr} {t t' : TA} (h : PA X es t) (i : ∀ σ H Q, t' σ H Q → t σ H Q) : PA X es t' := fun pos pins s σ H Q I q => h pos pins s σ H Q I (i σ H Q q)
section
variable {X : Cx}
theorem op_mul_str : OpR X (binaryOp .Mult) (fun x y H Q => ∃ i n, x = .str i ∧ y = .int n ∧ MulOk i n ∧ Q (.str (Txt.mul i n)) H) := by
  intro pins s σ H x y v u Q I rx ry h
  obtain ⟨i, n, rfl, rfl, hz, q⟩ := h
  obtain ⟨t, rfl⟩ := rx
  obtain ⟨t', rfl⟩ := ry
  exact SB.mul hz fun t' k => ⟨.str _, H, I.tok k, ⟨_, rfl⟩, q⟩
end
def mulB (x : Str) (n : Int) : Bool := decide (1 ≤ n ∧ n ≤ 1000) && decide (x.length ≤ 10)
theorem mulB_ok {x : Str} {n : Int} (h : mulB x n = true) : MulOk x n := by
  unfold mulB at h
  rw [Bool.and_eq_true, decide_eq_true_iff, decide_eq_true_iff] at h
  obtain ⟨⟨h1, h2⟩, h3⟩ := h
  refine ⟨?_, fun _ _ => ?_, fun _ _ => ?_⟩
  · rw [decide_eq_false (by omega), decide_eq_false (by omega)]
    rfl
  · have : (1000 : Int) ≤ (2 ^ 63 - 1) / n := (Int.le_ediv_iff_mul_le (by omega)).mpr (by omega)
    omega
  · unfold tooLong sizeLine
    have e : (2 : Nat) ^ 24 = 16777216 := by decide
    have h4 : n.toNat ≤ 1000 := by omega
    have := Nat.mul_le_mul h3 h4
    exact decide_eq_false (by omega)
def txtOf : Nat → Expr → Option Str
  | 0, _ => none
  | k + 1, e => match e with
    | .Constant (.str x) _ _ => some x
    | .BinOp a op b _ => match op with
      | .Mult => match a with
        | .Constant (.str x) _ _ => match b with
          | .Constant (.int n) _ _ => if mulB x n = true then some (Txt.mul x n) else none
          | _ => none
        | _ => none
      | .Add => match txtOf k a with
        | some x => match txtOf k b with
          | some y => if x.length + y.length ≤ 1000 then some (x ++ y) else none
          | none => none
        | none => none
      | _ => none
    | _ => none
theorem pe_txt {X : Cx} : ∀ (k : Nat) {e : Expr} {x : Str}, txtOf k e = some x → PE X e (tC (.str x))
  | 0, _, _, h => nomatch h
  | k + 1, e, x, h => by
    unfold txtOf at h
    split at h
    · cases h
      exact pe_str
    · split at h
      · split at h
        · split at h
          · split at h
            · next hm =>
              cases h
              exact peImp (pe_op op_mul_str pe_str pe_int) fun σ H Q q => ⟨_, _, rfl, rfl, mulB_ok hm, q⟩
            · cases h
          · cases h
        · cases h
      · split at h
        · next y hy =>
          split at h
          · next z hz =>
            split at h
            · next hl =>
              cases h
              exact peImp (pe_op op_add_str (pe_txt k hy) (pe_txt k hz)) fun σ H Q q => ⟨_, _, rfl, rfl, sl6 hl, q⟩
            · cases h
          · cases h
        · cases h
      · cases h
    · cases h
def txtsOf : List Expr → Option (List Str)
  | [] => some []
  | e :: es => match txtOf 9 e with
    | some x => match txtsOf es with
      | some xs => some (x :: xs)
      | none => none
    | none => none
theorem star_txt {k : Nat} {e : Expr} {x : Str} (h : txtOf k e = some x) (es : List Expr) (env : Env) : starEach (e :: es) env = (false, eval e env) :: starEach es env := by
  cases k with
  | zero => cases h
  | succ k => cases e <;> first | rfl | (exact absurd h (by simp [txtOf]))
theorem pa_txts {X : Cx} : ∀ {es : List Expr} {xs : List Str}, txtsOf es = some xs → PA X es (fun _ H Q => Q (xs.map V.str) H)
  | [], _, h => by
    cases h
    exact pa_nil
  | e :: es, xs, h => by
    unfold txtsOf at h
    split at h
    · next x hx =>
      split at h
      · next ys hy =>
        cases h
        exact paImp (pa_cons (pe_txt 9 hx) (pa_txts hy) (star_txt hx es _)) fun σ H Q q => q
      · cases h
    · cases h
def txtsB (n : Nat) (es : List Expr) : Bool := match txtsOf es with
  | some ys => ys.length == n && ys.all fun y => decide (y.length ≤ 300)
  | none => false
theorem txtsB_of {n : Nat} {es : List Expr} (h : txtsB n es = true) : ∃ ys, txtsOf es = some ys ∧ ys.length = n ∧ ∀ y ∈ ys, y.length ≤ 300 := by
  unfold txtsB at h
  split at h
  · next ys hy =>
    rw [Bool.and_eq_true, beq_iff_eq, List.all_eq_true] at h
    exact ⟨ys, hy, h.1, fun y hy' => of_decide_eq_true (h.2 y hy')⟩
  · cases h
def OddC (c : Int) (H0 : Hp) (n : Nat) (σ : L2.St) (H : Hp) : Prop := ∃ (a : Addr) (xs : List Str), σ = [some (.int c), some (.ref a)] ∧ H a = some (.lst (xs.map V.str)) ∧ xs.length = n ∧ (∀ x ∈ xs, x.length ≤ 300) ∧ Same H0 H
theorem add_txts {X : Cx} {x : Str} {c : Int} {H0 : Hp} {m n : Nat} (nd : X.N.Nodup) (hi : X.N[1]? = some x) (hx : Loc X.env.scope x) (hf : X.fn x = true ∨ X.env.scope.names.lookup x = some .local) (hv : ∀ p : Pos, PE X (.Name x p) (tVar 1)) (hmn : m + n ≤ 900) (es : List Expr) (pos pos' p2 q1 q2 : Pos) :
    PS X (.Assign [.Name x pos'] (.BinOp (.Name x q1) .Add (.List es pos) q2) p2) (fun E σ H => txtsB n es = true ∧ OddC c H0 m σ H ∧ ∀ σ' H', OddC c H0 (m + n) σ' H' → E.nx σ' H') := fun pins s σ H D I ⟨hb, ⟨a, xs, es0, ha, hl, hs, sm⟩, q⟩ => by
  obtain ⟨ys, hy, ly, hys⟩ := txtsB_of hb
  subst es0
  refine ps_set nd hi hx (pe_op op_cat (hv q1) (pe_lst (pa_txts hy))) rfl hf pins s _ H D I ⟨_, rfl, sl6 (by rw [List.length_map]; omega), fun p hp => ?_⟩
  have sp : Same H (upd H p (.lst (ys.map V.str))) := Same.new hp
  refine ⟨a, p, _, _, rfl, rfl, sp _ _ ha, upd_same, sl6 (by rw [List.length_map, List.length_map]; omega), fun b hb' => ?_⟩
  have sb := Same.new (o := .lst (xs.map V.str ++ ys.map V.str)) hb'
  refine q _ _ ⟨b, xs ++ ys, rfl, by rw [upd_same, List.map_append], by rw [List.length_append]; omega, fun z hz => ?_, (sm.trans sp).trans sb⟩
  rcases List.mem_append.mp hz with h | h
  · exact hs z h
  · exact hys z h
theorem new_txts {X : Cx} {x : Str} {c : Int} {n : Nat} (nd : X.N.Nodup) (hi : X.N[1]? = some x) (hx : Loc X.env.scope x) (hf : X.fn x = true ∨ X.env.scope.names.lookup x = some .local) (hmn : n ≤ 900) (es : List Expr) (pos pos' p2 : Pos) :
    PS X (.Assign [.Name x pos'] (.List es pos) p2) (fun E σ H => txtsB n es = true ∧ σ = [some (.int c), none] ∧ ∀ σ' H', OddC c H n σ' H' → E.nx σ' H') := fun pins s σ H D I ⟨hb, es0, q⟩ => by
  obtain ⟨ys, hy, ly, hys⟩ := txtsB_of hb
  subst es0
  refine ps_set nd hi hx (pe_lst (pa_txts hy)) rfl hf pins s _ H D I ⟨sl6 (by rw [List.length_map]; omega), fun p hp => ?_⟩
  exact q _ _ ⟨p, ys, rfl, upd_same, ly, hys, Same.new hp⟩
theorem repl_len {c d : Nat} : ∀ ws : List Str, (Str.join ⟨#[c]⟩ ws).cps.toList.length = (Str.join ⟨#[d]⟩ ws).cps.toList.length
  | [] => rfl
  | [w] => by rw [join_list, join_list]
  | w :: x :: r => by
    rw [join_list, join_list, List.length_append, List.length_append, List.length_cons, List.length_cons, repl_len (x :: r)]
theorem slash_len (x : Str) : (Txt.replace x "/" "\n").length = x.length := by
  rw [show (Str.ofString "/") = ⟨#[47]⟩ by decide +kernel, nl_eq, StrLaws.replace_one, ← str_len, repl_len (c := 10) (d := 47), StrLaws.join_split, str_len]
section
variable {P : Program} {w : World} {K : PySem.W.Frag} {mg : Str → Option Value} {base : Heap}
def spOdd : Sp := fun vs H Q _ => ∃ (c : Int), vs = [.int c] ∧ ∀ x H', GivOk x → Same H H' → Q (.str x) H'
theorem sc_odd : FnScope ["cell", "some"] ["cell"] (defScope dOdd) := ⟨rfl, rfl, rfl, by decide +kernel, rfl, by decide +kernel, by decide +kernel⟩
set_option maxHeartbeats 16000000 in
theorem ok_odd (T : Blt mg) (D : DefAt K mg "_law_odd" dOdd ["cell"]) : FnAt P w K mg base 1 "_law_odd" ["cell"] spOdd := by
  refine FnAt.of D sc_odd (fun vs H Q E h => ?_) (fun f cdv A outer s H vs Q E hr h => ?_)
  · obtain ⟨c, rfl, _⟩ := h
    rfl
  · obtain ⟨c, rfl, q⟩ := h
    have nd := sc_odd.nd
    have A11 : PS (cxOf CX0 P w K mg base ["cell", "some"] "_law_odd" (defScope dOdd) f cdv A outer s H E).nox ((defBody dOdd).getD 11 (.Pass ⟨0, 0, 0, 0⟩)) _ := ps_ret (pe_replace (peg_ix ix_list (pv 1) (peg_mod (pv 0) (pe_b call_len_seq T.len boot_len (pa_cons (pv 1) pa_nil))) (fun _ _ => rfl)))
    generalize hX : (cxOf CX0 P w K mg base ["cell", "some"] "_law_odd" (defScope dOdd) f cdv A outer s H E).nox = X at A11 ⊢
    have hv : ∀ p : Pos, PE X (.Name "some" p) (tVar 1) := fun p => by subst hX; exact pv 1
    have hi : X.N[1]? = some ("some" : Str) := by subst hX; rfl
    have hx : Loc X.env.scope "some" := by subst hX; exact Or.inl rfl
    have hf : X.fn "some" = true ∨ X.env.scope.names.lookup ("some" : Str) = some .local := by subst hX; exact Or.inr rfl
    have hn : X.N.Nodup := by subst hX; exact nd
    have A0 : PS X ((defBody dOdd).getD 0 (.Pass ⟨0, 0, 0, 0⟩)) _ := new_txts (c := c) (n := 8) hn hi hx hf (by decide) _ _ _ _
    have A1 : PS X ((defBody dOdd).getD 1 (.Pass ⟨0, 0, 0, 0⟩)) _ := add_txts (c := c) (H0 := H) (m := 8) (n := 8) hn hi hx hf hv (by decide) _ _ _ _ _ _
    have A2 : PS X ((defBody dOdd).getD 2 (.Pass ⟨0, 0, 0, 0⟩)) _ := add_txts (c := c) (H0 := H) (m := 16) (n := 9) hn hi hx hf hv (by decide) _ _ _ _ _ _
    have A3 : PS X ((defBody dOdd).getD 3 (.Pass ⟨0, 0, 0, 0⟩)) _ := add_txts (c := c) (H0 := H) (m := 25) (n := 9) hn hi hx hf hv (by decide) _ _ _ _ _ _
    have A4 : PS X ((defBody dOdd).getD 4 (.Pass ⟨0, 0, 0, 0⟩)) _ := add_txts (c := c) (H0 := H) (m := 34) (n := 7) hn hi hx hf hv (by decide) _ _ _ _ _ _
    have A5 : PS X ((defBody dOdd).getD 5 (.Pass ⟨0, 0, 0, 0⟩)) _ := add_txts (c := c) (H0 := H) (m := 41) (n := 6) hn hi hx hf hv (by decide) _ _ _ _ _ _
    have A6 : PS X ((defBody dOdd).getD 6 (.Pass ⟨0, 0, 0, 0⟩)) _ := add_txts (c := c) (H0 := H) (m := 47) (n := 5) hn hi hx hf hv (by decide) _ _ _ _ _ _
    have A7 : PS X ((defBody dOdd).getD 7 (.Pass ⟨0, 0, 0, 0⟩)) _ := add_txts (c := c) (H0 := H) (m := 52) (n := 5) hn hi hx hf hv (by decide) _ _ _ _ _ _
    have A8 : PS X ((defBody dOdd).getD 8 (.Pass ⟨0, 0, 0, 0⟩)) _ := add_txts (c := c) (H0 := H) (m := 57) (n := 3) hn hi hx hf hv (by decide) _ _ _ _ _ _
    have A9 : PS X ((defBody dOdd).getD 9 (.Pass ⟨0, 0, 0, 0⟩)) _ := add_txts (c := c) (H0 := H) (m := 60) (n := 3) hn hi hx hf hv (by decide) _ _ _ _ _ _
    have A10 : PS X ((defBody dOdd).getD 10 (.Pass ⟨0, 0, 0, 0⟩)) _ := add_txts (c := c) (H0 := H) (m := 63) (n := 2) hn hi hx hf hv (by decide) _ _ _ _ _ _
    have eB : defBody dOdd = [(defBody dOdd).getD 0 (.Pass ⟨0, 0, 0, 0⟩), (defBody dOdd).getD 1 (.Pass ⟨0, 0, 0, 0⟩), (defBody dOdd).getD 2 (.Pass ⟨0, 0, 0, 0⟩), (defBody dOdd).getD 3 (.Pass ⟨0, 0, 0, 0⟩), (defBody dOdd).getD 4 (.Pass ⟨0, 0, 0, 0⟩), (defBody dOdd).getD 5 (.Pass ⟨0, 0, 0, 0⟩), (defBody dOdd).getD 6 (.Pass ⟨0, 0, 0, 0⟩), (defBody dOdd).getD 7 (.Pass ⟨0, 0, 0, 0⟩), (defBody dOdd).getD 8 (.Pass ⟨0, 0, 0, 0⟩), (defBody dOdd).getD 9 (.Pass ⟨0, 0, 0, 0⟩), (defBody dOdd).getD 10 (.Pass ⟨0, 0, 0, 0⟩), (defBody dOdd).getD 11 (.Pass ⟨0, 0, 0, 0⟩)] := by kernel_rfl
    rw [eB]
    obtain ⟨S0, e0⟩ : ∃ S, S = (defBody dOdd).getD 0 (.Pass ⟨0, 0, 0, 0⟩) := ⟨_, rfl⟩
    obtain ⟨S1, e1⟩ : ∃ S, S = (defBody dOdd).getD 1 (.Pass ⟨0, 0, 0, 0⟩) := ⟨_, rfl⟩
    obtain ⟨S2, e2⟩ : ∃ S, S = (defBody dOdd).getD 2 (.Pass ⟨0, 0, 0, 0⟩) := ⟨_, rfl⟩
    obtain ⟨S3, e3⟩ : ∃ S, S = (defBody dOdd).getD 3 (.Pass ⟨0, 0, 0, 0⟩) := ⟨_, rfl⟩
    obtain ⟨S4, e4⟩ : ∃ S, S = (defBody dOdd).getD 4 (.Pass ⟨0, 0, 0, 0⟩) := ⟨_, rfl⟩
    obtain ⟨S5, e5⟩ : ∃ S, S = (defBody dOdd).getD 5 (.Pass ⟨0, 0, 0, 0⟩) := ⟨_, rfl⟩
    obtain ⟨S6, e6⟩ : ∃ S, S = (defBody dOdd).getD 6 (.Pass ⟨0, 0, 0, 0⟩) := ⟨_, rfl⟩
    obtain ⟨S7, e7⟩ : ∃ S, S = (defBody dOdd).getD 7 (.Pass ⟨0, 0, 0, 0⟩) := ⟨_, rfl⟩
    obtain ⟨S8, e8⟩ : ∃ S, S = (defBody dOdd).getD 8 (.Pass ⟨0, 0, 0, 0⟩) := ⟨_, rfl⟩
    obtain ⟨S9, e9⟩ : ∃ S, S = (defBody dOdd).getD 9 (.Pass ⟨0, 0, 0, 0⟩) := ⟨_, rfl⟩
    obtain ⟨S10, e10⟩ : ∃ S, S = (defBody dOdd).getD 10 (.Pass ⟨0, 0, 0, 0⟩) := ⟨_, rfl⟩
    obtain ⟨S11, e11⟩ : ∃ S, S = (defBody dOdd).getD 11 (.Pass ⟨0, 0, 0, 0⟩) := ⟨_, rfl⟩
    rw [← e0, ← e1, ← e2, ← e3, ← e4, ← e5, ← e6, ← e7, ← e8, ← e9, ← e10, ← e11]
    rw [← e0] at A0
    rw [← e1] at A1
    rw [← e2] at A2
    rw [← e3] at A3
    rw [← e4] at A4
    rw [← e5] at A5
    rw [← e6] at A6
    rw [← e7] at A7
    rw [← e8] at A8
    rw [← e9] at A9
    rw [← e10] at A10
    rw [← e11] at A11
    refine ⟨_, pss_cons A0 ( pss_cons A1 ( pss_cons A2 ( pss_cons A3 ( pss_cons A4 ( pss_cons A5 ( pss_cons A6 ( pss_cons A7 ( pss_cons A8 ( pss_cons A9 ( pss_cons A10 ( pss_one A11))))))))))), ?_⟩
    refine ⟨by kernel_rfl, rfl, fun σ0 H0 c0 => ?_⟩
    refine ⟨by kernel_rfl, c0, fun σ1 H1 c1 => ?_⟩
    refine ⟨by kernel_rfl, c1, fun σ2 H2 c2 => ?_⟩
    refine ⟨by kernel_rfl, c2, fun σ3 H3 c3 => ?_⟩
    refine ⟨by kernel_rfl, c3, fun σ4 H4 c4 => ?_⟩
    refine ⟨by kernel_rfl, c4, fun σ5 H5 c5 => ?_⟩
    refine ⟨by kernel_rfl, c5, fun σ6 H6 c6 => ?_⟩
    refine ⟨by kernel_rfl, c6, fun σ7 H7 c7 => ?_⟩
    refine ⟨by kernel_rfl, c7, fun σ8 H8 c8 => ?_⟩
    refine ⟨by kernel_rfl, c8, fun σ9 H9 c9 => ?_⟩
    refine ⟨by kernel_rfl, c9, fun σ10 H10 c10 => ?_⟩
    obtain ⟨a, xs, es, ha, hl, hs, sm⟩ := c10
    subst es
    have hlm : (xs.map V.str).length = 65 := by rw [List.length_map]; exact hl
    have h0 : 0 ≤ c % 65 ∧ c % 65 < 65 := ⟨Int.emod_nonneg _ (by decide), Int.emod_lt_of_pos _ (by decide)⟩
    have hk : (c % 65).toNat < xs.length := by omega
    have hat : atI (xs.map V.str) (c % 65) = some (V.str (xs[(c % 65).toNat])) := by
      have := atI_nat (xs := xs.map V.str) (j := (c % 65).toNat) (v := V.str (xs[(c % 65).toNat])) (by rw [List.getElem?_map, List.getElem?_eq_getElem hk]; rfl)
      rwa [Int.toNat_of_nonneg h0.1] at this
    have hsm := hs _ (List.getElem_mem hk)
    refine ⟨_, rfl, _, rfl, _, rfl, a, _, rfl, .inl (SqL.of ha), _, _, rfl, rfl, by rw [hlm]; decide, a, _, _, _, rfl, rfl, SqL.of ha, by rw [hlm]; exact hat, _, rfl, by omega, ?_⟩
    exact q _ _ (giv_small (by rw [slash_len]; omega)) sm
end
open PySem L2 PyProof.Rows
section
variable {P : Program} {w : World} {K : PySem.W.Frag} {mg : Str → Option Value} {base : Heap}
def spGiv : Sp := fun vs H Q _ => ∃ (c : Int), vs = [.int c] ∧ 0 ≤ c ∧ ∀ x H', GivOk x → Same H H' → Q (.str x) H'
theorem sc_giv : FnScope ["cell", "kind", "text", "signs", "at", "sign"] ["cell"] (defScope dGiven) := ⟨rfl, rfl, rfl, by decide +kernel, rfl, by decide +kernel, by decide +kernel⟩
theorem seq_setI {v : V} {i : Nat} {u : TS} {D : Ends} {σ : L2.St} {H : Hp} (h : u D (σ.set i (some v)) H) : tSeq (tAsg (tC v) (gName i)) u D σ H := h
theorem iop_int {a b : Int} : decide (V.int a = V.int b) = decide (a = b) := by
  rw [decide_eq_decide]
  exact ⟨fun h => by injection h, fun h => by rw [h]⟩
set_option maxHeartbeats 16000000 in
theorem ok_given (T : Blt mg) (D : DefAt K mg "_law_given" dGiven ["cell"]) (G1 : FnAt P w K mg base 1 "_law_odd" ["cell"] spOdd) (G2 : FnAt P w K mg base 1 "_law_mixed" ["cell", "k"] spMixed) (G3 : FnAt P w K mg base 2 "_law_table" ["cell", "most"] spTab34) (G4 : FnAt P w K mg base 1 "_law_written" ["table"] spST) : FnAt P w K mg base 3 "_law_given" ["cell"] spGiv := by
  refine FnAt.of D sc_giv (fun vs H Q E h => ?_) (fun f cdv A outer s H vs Q E hr h => ?_)
  · obtain ⟨c, rfl, _⟩ := h
    rfl
  · obtain ⟨c, rfl, hc, q⟩ := h
    have nd := sc_giv.nd
    have hr1 : Room 1 _ := hr.mono (show 1 ≤ 2 by decide)
    refine ⟨_, pss_cons (ps_set (i := 1) nd rfl (Or.inl rfl) (pe_op o_mod (pv 0) pe_int))
      (pss_cons (ps_if (pt_cmpR op_eq (pv 1) pe_int (nomark _)) (pss_one (ps_ret (pe_f G1 hr1 (pa_cons (pe_op o_div (pv 0) pe_int) pa_nil)))) pss_nil)
      (pss_cons (ps_set (i := 2) nd rfl (Or.inl rfl) (pe_f G4 hr1 (pa_cons (pe_f G3 hr (pa_cons (pe_f G2 hr1 (pa_cons (pv 0) (pa_cons pe_int pa_nil))) (pa_cons pe_int pa_nil))) pa_nil)))
      (pss_cons (ps_set (i := 3) nd rfl (Or.inl rfl) pe_str)
      (pss_cons (ps_if (pt_cmpR o_gt (pe_op o_mod (pe_op o_div (pv 0) pe_int) pe_int) pe_int (nomark _)) (pss_one (ps_set (i := 3) nd rfl (Or.inl rfl) pe_str)) pss_nil)
      (pss_cons (ps_set (i := 4) nd rfl (Or.inl rfl) (pe_op o_mod (pe_op o_div (pv 0) pe_int) (pe_op o_add (pe_b call_len_str T.len boot_len (pa_cons (pv 2) pa_nil)) pe_int)))
      (pss_cons (ps_set (i := 5) nd rfl (Or.inl rfl) (pe_ix ix_str (pv 3) (pe_op o_mod (pe_op o_div (pv 0) pe_int) (pe_b call_len_str T.len boot_len (pa_cons (pv 3) pa_nil))) (fun _ _ => rfl)))
      (pss_cons (ps_if (pt_cmpR op_eq (pv 1) pe_int (nomark _)) (pss_one (ps_ret (pe_op op_add_str (pe_slice sl_str (pv 2) po_none (po_some (pv 4))) (pe_slice sl_str (pv 2) (po_some (pe_op o_add (pv 4) pe_int)) po_none)))) pss_nil)
      (pss_one (ps_ret (pe_op op_add_str (pe_op op_add_str (pe_slice sl_str (pv 2) po_none (po_some (pv 4))) (pv 5)) (pe_slice sl_str (pv 2) (po_some (pe_op o_add (pv 4) (pe_t call_int1 T.int boot_int (pa_cons (pe_cmpR op_eq (pv 1) pe_int (nomark _)) pa_nil)))) po_none))))))))))), ?_⟩
    refine ⟨_, rfl, _, _, rfl, rfl, by decide, ?_⟩
    refine ⟨_, rfl, rfl, _, rfl, ?_⟩
    rw [iop_int]
    by_cases k0 : c % 4 = 0
    · rw [decide_eq_true k0]
      exact iteT ⟨_, rfl, _, _, rfl, rfl, ⟨by decide, by decide⟩, _, rfl, fun x H' hx sm => q x H' hx sm⟩
    · rw [decide_eq_false k0]
      refine iteF ⟨_, rfl, c, 3, rfl, by decide, fun v H1 v0 v1 s1 => ⟨v, rfl, v0, fun t prs H2 ht hp hnd s2 hT hg hb => ⟨t, prs, rfl, hT, hg, fun p hp' => (hb p hp').b500, fun H3 s3 => ?_⟩⟩⟩
      have s03 := (s1.trans s2).trans s3
      have ok := tab_text hg hb
      generalize tabS (prs.map (·.2)) = x at ok ⊢
      have hlx : x.length ≤ 1900 := by rw [← str_len]; exact ok.1
      have lx : x.length ≤ sizeLine := by
        have : (2000 : Nat) ≤ sizeLine := by decide
        omega
      show tSeq (tAsg (tC _) (gName 3)) _ _ _ _
      refine seq_setI ?_
      dsimp only
      refine if_tail (fun N => ∀ sg : Str, 1 ≤ sg.length → sg.length ≤ 200 → N [some (.int c), some (.int (c % 4)), some (.str x), some (.str sg), none, none] H3) (fun sg g1 g2 => ?_) (fun N => ?_)
      ·
        refine ⟨_, rfl, _, _, rfl, rfl, ⟨by decide, by decide⟩, _, rfl, x, rfl, lx, _, _, rfl, rfl, _, _, rfl, rfl, by omega, ?_⟩
        have hat : 0 ≤ c / 12 % ((x.length : Int) + 1) ∧ c / 12 % ((x.length : Int) + 1) < (x.length : Int) + 1 := ⟨Int.emod_nonneg _ (by omega), Int.emod_lt_of_pos _ (by omega)⟩
        obtain ⟨at', eat⟩ : ∃ k : Nat, c / 12 % ((x.length : Int) + 1) = (k : Int) := ⟨_, (Int.toNat_of_nonneg hat.1).symm⟩
        rw [eat] at hat ⊢
        have hi : at' ≤ x.cps.toList.length := by rw [str_len]; omega
        have lsg : sg.length ≤ sizeLine := sl6 (by omega)
        have hpl : 0 ≤ c / 24000 % (sg.length : Int) ∧ c / 24000 % (sg.length : Int) < sg.length := ⟨Int.emod_nonneg _ (by omega), Int.emod_lt_of_pos _ (by omega)⟩
        obtain ⟨pl, epl⟩ : ∃ k : Nat, c / 24000 % (sg.length : Int) = (k : Int) := ⟨_, (Int.toNat_of_nonneg hpl.1).symm⟩
        rw [epl] at hpl
        have hpl2 : pl < sg.cps.toList.length := by rw [str_len]; omega
        refine ⟨_, rfl, _, rfl, _, _, rfl, rfl, ⟨by decide, by decide⟩, _, rfl, sg, rfl, lsg, _, _, rfl, rfl, by omega, sg, _, _, rfl, rfl, lsg, by rw [epl]; exact atI_nat (List.getElem?_eq_getElem hpl2), ?_⟩
        generalize sg.cps.toList[pl] = ch
        have z1 : (Txt.slice x none (some (at' : Int))).length ≤ 1900 := Nat.le_trans (Txt.slice_le x _ _) hlx
        have sl4 : ∀ n : Nat, n ≤ 4000 → n ≤ sizeLine := fun n hn => Nat.le_trans hn (by decide)
        refine ⟨_, rfl, rfl, _, rfl, ?_⟩
        rw [iop_int]
        by_cases k1 : c % 4 = 1
        · rw [decide_eq_true k1]
          refine iteT ⟨_, rfl, _, rfl, _, rfl, x, rfl, lx, _, rfl, _, rfl, _, _, rfl, rfl, _, rfl, x, rfl, lx, _, _, rfl, rfl, sl4 _ (by have := Txt.slice_le x (some ((at' : Int) + 1)) none; omega), ?_⟩
          have := cut_ok ok hi (Nat.le_succ at') (by omega) Str.empty (by decide)
          rw [show (Txt.slice x none (some (at' : Int)) ++ Str.empty) = Txt.slice x none (some (at' : Int)) from by
            show (⟨_ ++ _⟩ : Str) = _
            simp [Str.empty]] at this
          exact q _ _ this s03
        · rw [decide_eq_false k1]
          refine iteF ⟨_, rfl, _, rfl, _, rfl, x, rfl, lx, _, rfl, _, _, rfl, rfl, sl4 _ (by show _ + 1 ≤ _; omega), _, rfl, _, rfl, _, rfl, rfl, .inr ⟨_, rfl, _, _, rfl, rfl, _, rfl, x, rfl, lx, _, _, rfl, rfl, ?_, ?_⟩⟩
          · refine sl4 _ ?_
            have h1 := Txt.slice_le x (some ((at' : Int) + if decide (V.int (c % 4) = V.int 2) = true then 1 else 0)) none
            have h2 : (Txt.slice x none (some (at' : Int)) ++ (⟨#[ch]⟩ : Str)).length = (Txt.slice x none (some (at' : Int))).length + 1 := by
              rw [← str_len, app_list, List.length_append, str_len]
              rfl
            omega
          · obtain ⟨k, ek, hk⟩ : ∃ k : Nat, ((at' : Int) + if decide (V.int (c % 4) = V.int 2) = true then 1 else 0) = ((at' + k : Nat) : Int) ∧ k ≤ 1 := by
              by_cases e : decide (V.int (c % 4) = V.int 2) = true
              · rw [if_pos e]; exact ⟨1, rfl, Nat.le_refl _⟩
              · rw [if_neg e]; exact ⟨0, by simp, by decide⟩
            rw [ek]
            exact q _ _ (cut_ok ok hi (by omega) (by omega) ⟨#[ch]⟩ (Nat.le_refl _)) s03
      · refine ⟨_, rfl, _, _, rfl, rfl, ⟨by decide, by decide⟩, _, _, rfl, rfl, by decide, _, _, rfl, rfl, _, rfl, ?_⟩
        refine ite2 (fun _ => N _ (by decide +kernel) (by decide +kernel)) fun _ => N _ (by decide +kernel) (by decide +kernel)
end
open PySem L2 PyProof.Rows
open PySem L2 PyProof.Rows
def rowD : PyData → Bool
  | .list ds => (decide (1 ≤ ds.length) && decide (ds.length ≤ 6)) && ds.all isIntD
  | _ => false
theorem rowD_list (ds : List PyData) : rowD (.list ds) = ((decide (1 ≤ ds.length) && decide (ds.length ≤ 6)) && ds.all isIntD) := rfl
def GoodD (d : PyData) : Prop := ∃ rows : List (List Int), d = dTab rows ∧ tabB (rows.map fun r => ((0 : Addr), r)) = true
theorem ints_of {H : Hp} {S : List Addr} : ∀ {xs : List V} {ds : List PyData}, RdSs S H xs ds → ds.all isIntD = true → ∃ ns : List Int, xs = ns.map V.int ∧ ds = ns.map PyData.int
  | _, _, .nil, _ => ⟨[], rfl, rfl⟩
  | _, _, .cons (x := x) (d := d) h t, ha => by
    simp only [List.all_cons, Bool.and_eq_true] at ha
    obtain ⟨ns, e1, e2⟩ := ints_of t ha.2
    cases h with
    | int i => exact ⟨i :: ns, by rw [e1]; rfl, by rw [e2]; rfl⟩
    | _ => exact absurd ha.1 (by simp [isIntD])
theorem row_of {H : Hp} {S : List Addr} {x : V} {d : PyData} (r : RdS S H x d) (h : rowD d = true) : ∃ (a : Addr) (ns : List Int), x = .ref a ∧ d = dRow ns ∧ Row H a ns ∧ rowB ns = true ∧ a ∉ S := by
  cases r with
  | @lst a xs ds e n ra =>
    unfold rowD at h
    rw [Bool.and_eq_true] at h
    obtain ⟨ns, e1, e2⟩ := ints_of ra h.2
    refine ⟨a, ns, rfl, by rw [e2]; rfl, by rw [e1] at e; exact e, ?_, n⟩
    have hl : ds.length = ns.length := by rw [e2, List.length_map]
    unfold rowB
    rw [← hl]
    exact h.1
  | _ => exact absurd h (by simp [rowD])
theorem rows_of {H : Hp} {S : List Addr} : ∀ {ms : List (V × PyData)}, (∀ m ∈ ms, RdS S H m.1 m.2) → (∀ m ∈ ms, rowD m.2 = true) → ∃ prs : Prs, ms.map (·.1) = (prs.map fun p => V.ref p.1) ∧ ms.map (·.2) = (prs.map (·.2)).map dRow ∧ ∀ p ∈ prs, Row H p.1 p.2 ∧ rowB p.2 = true ∧ p.1 ∉ S
  | [], _, _ => ⟨[], rfl, rfl, fun p h => nomatch h⟩
  | m :: ms, h1, h2 => by
    obtain ⟨prs, e1, e2, hp⟩ := rows_of (fun x hx => h1 x (List.mem_cons_of_mem _ hx)) (fun x hx => h2 x (List.mem_cons_of_mem _ hx))
    obtain ⟨a, ns, ea, ed, hr, hb, hn⟩ := row_of (h1 m (by simp)) (h2 m (by simp))
    refine ⟨(a, ns) :: prs, by rw [List.map_cons, ea, e1]; rfl, by rw [List.map_cons, ed, e2]; rfl, fun p hpp => ?_⟩
    rcases List.mem_cons.mp hpp with rfl | z
    · exact ⟨hr, hb, hn⟩
    · exact hp p z
theorem dRow_inj {a b : List Int} (h : dRow a = dRow b) : a = b := by
  unfold dRow at h
  injection h with h
  exact List.map_inj_right (fun x y e => by injection e) |>.mp h
theorem dTab_inj {a b : List (List Int)} (h : dTab a = dTab b) : a = b := by
  unfold dTab at h
  injection h with h
  exact List.map_inj_right (fun x y e => dRow_inj e) |>.mp h
theorem rowD_row (ns : List Int) : rowD (dRow ns) = rowB ns := by
  unfold dRow rowB
  rw [rowD_list, List.length_map, List.all_map]
  have : (ns.all (isIntD ∘ PyData.int)) = true := by simp [isIntD]
  rw [this, Bool.and_true]
theorem goodD_tab {prs : Prs} : GoodD (dTab (prs.map (·.2))) ↔ tabB prs = true := by
  have e : ∀ p : Prs, tabB ((p.map (·.2)).map fun r => ((0 : Addr), r)) = tabB p := fun p => tabB_rows (by rw [List.map_map, List.map_map]; exact List.map_congr_left fun _ _ => rfl)
  constructor
  · rintro ⟨rows, h1, h2⟩
    rw [← dTab_inj h1, e] at h2
    exact h2
  · intro h
    exact ⟨_, rfl, by rw [e]; exact h⟩
theorem GoodD.rows {ds : List PyData} (h : GoodD (.list ds)) : (1 ≤ ds.length ∧ ds.length ≤ 6) ∧ ∀ d ∈ ds, rowD d = true := by
  obtain ⟨rows, h1, h2⟩ := h
  obtain ⟨g, g1, g2, g3, g4⟩ := good_of h2
  unfold dTab at h1
  injection h1 with h1
  rw [List.length_map] at g1 g2
  refine ⟨by rw [h1, List.length_map]; exact ⟨g1, g2⟩, fun d hd => ?_⟩
  rw [h1] at hd
  obtain ⟨r, hr, rfl⟩ := List.mem_map.mp hd
  have hl := g.len (0, r) (List.mem_map.mpr ⟨r, hr, rfl⟩)
  rw [rowD_row]
  unfold rowB
  have hl : r.length = _ := hl
  rw [decide_eq_true (by omega), decide_eq_true (by omega)]
  rfl
theorem GoodD.list {d : PyData} (h : GoodD d) : ∃ ds, d = .list ds := let ⟨_, h1, _⟩ := h; ⟨_, h1⟩
section
variable {P : Program} {w : World} {K : PySem.W.Frag} {mg : Str → Option Value} {base : Heap}
def spIsWholeA : Sp := fun vs H Q _ => ∃ (x : V) (d : PyData), vs = [x] ∧ RdS [] H x d ∧ Q (.bl (isIntD d)) H
theorem ok_isWholeA (T : Blt mg) (D : DefAt K mg "is_whole" dIsWhole ["thing"]) : FnAt P w K mg base 1 "is_whole" ["thing"] spIsWholeA := by
  refine FnAt.of D sc_isWhole (fun vs H Q E h => ?_) (fun f cdv A outer s H vs Q E hr h => ?_)
  · obtain ⟨x, d, rfl, _⟩ := h
    rfl
  · obtain ⟨x, d, rfl, rd, q⟩ := h
    refine ⟨_, pss_one (ps_ret (pe_and (pe_b call_isinst T.isinst boot_isinstance (pa_cons (pv 0) (pa_cons (pe_ty T.int boot_int) pa_nil)))
      (pe_one (pe_not (pe_b call_isinst T.isinst boot_isinstance (pa_cons (pv 0) (pa_cons (pe_ty T.bool boot_bool) pa_nil))))))), ?_⟩
    refine ⟨_, rfl, _, _, _, _, rfl, rd.ty, kit_int _ d, _, rfl, ?_⟩
    cases d with
    | int i => exact iteT ⟨_, rfl, _, _, _, _, rfl, rd.ty, kit_bool _ _, _, rfl, q⟩
    | bool b => exact iteT ⟨_, rfl, _, _, _, _, rfl, rd.ty, kit_bool _ _, _, rfl, q⟩
    | _ => exact iteF q
def spAllWholeA : Sp := fun vs H Q _ => ∃ (a : Addr) (xs : List V) (ds : List PyData), vs = [.ref a] ∧ H a = some (.lst xs) ∧ RdSs [] H xs ds ∧ ds.length ≤ 1000 ∧ ∀ H', Same H H' → Q (.bl (ds.all isIntD)) H'
theorem ok_allWholeA (T : Blt mg) (D : DefAt K mg "all_whole" dAllWhole ["things"]) (G1 : FnAt P w K mg base 1 "is_whole" ["thing"] spIsWholeA) : FnAt P w K mg base 2 "all_whole" ["things"] spAllWholeA := by
  refine FnAt.of D sc_allWhole (fun vs H Q E h => ?_) (fun f cdv A outer s H vs Q E hr h => ?_)
  · obtain ⟨a, xs, ds, rfl, _⟩ := h
    rfl
  · obtain ⟨a, xs, ds, rfl, hl, rs, hn, q⟩ := h
    obtain ⟨ms, e1, e2, hm⟩ := rs.pairs
    subst e1 e2
    rw [List.length_map] at hn
    have nd1 : (["thing"] : List Str).Nodup := by decide +kernel
    refine ⟨_, pss_one (ps_ret (pe_b (call_all rfl) T.all boot_all (pa_cons (pe_comp ["thing"] [none] (defScope dAllWhole) ["things"] rfl (pi_list (pv 0)) (by decide +kernel)
      (fun cl C s2 H2 ex => pg_c 0 nd1) (fun cl C s2 H2 ex => pifs_nil) (fun cl C s2 H2 ex => pe_f G1 hr (pa_cons (pv 0) pa_nil))) pa_nil))), ?_⟩
    refine ⟨_, rfl, a, rfl, ⟨_, SqL.of hl⟩, comp_map (fun m : V × PyData => m.1) (fun m => .bl (isIntD m.2)) (SqL.of hl) (sl6 hn) (fun m hx H' Q' sm q' => ?_) fun D H' hD sm hDl => ?_⟩
    · exact ⟨_, rfl, m.1, m.2, rfl, (hm m hx).same sm, q' _ (Same.refl _)⟩
    · refine ⟨D, ms.map fun m => isIntD m.2, rfl, SqL.of (by rw [hDl, map_bl]), ?_⟩
      have q1 := q H' sm
      rw [List.all_map] at q1 ⊢
      exact q1
def spIsRowA : Sp := fun vs H Q _ => ∃ (x : V) (d : PyData), vs = [x] ∧ RdS [] H x d ∧ ∀ H', Same H H' → Q (.bl (rowD d)) H'
theorem ok_isRowA (T : Blt mg) (D : DefAt K mg "is_row" dIsRow ["thing"]) (G : FnAt P w K mg base 2 "all_whole" ["things"] spAllWholeA) : FnAt P w K mg base 3 "is_row" ["thing"] spIsRowA := by
  refine FnAt.of D sc_isRow (fun vs H Q E h => ?_) (fun f cdv A outer s H vs Q E hr h => ?_)
  · obtain ⟨x, d, rfl, _⟩ := h
    rfl
  · obtain ⟨x, d, rfl, rd, q⟩ := h
    obtain ⟨tk, mp⟩ := T.mp
    refine ⟨_, pss_one (ps_ret (pe_and (pe_b call_isinst T.isinst boot_isinstance (pa_cons (pv 0) (pa_cons (pe_ty T.list boot_list) pa_nil)))
      (pe_and (pe_chain op_le op_le pe_int (pe_b call_len_seq T.len boot_len (pa_cons (pv 0) pa_nil)) (pe_glob (v := .int 6) rfl mp ⟨_, rfl⟩))
      (pe_one (pe_f G hr (pa_cons (pv 0) pa_nil)))))), ?_⟩
    refine ⟨_, rfl, _, _, _, _, rfl, rd.ty, kit_list _ d, _, rfl, ?_⟩
    cases rd with
    | @lst a xs ds e n ra =>
      have hlen := ra.length
      refine iteT ⟨_, rfl, a, _, rfl, .inl (SqL.of e), 1, _, rfl, rfl, _, rfl, ?_⟩
      rw [hlen]
      refine ite2 (fun h1 => ?_) (fun h1 => ?_)
      · have h1 := of_decide_eq_true h1
        refine ⟨_, _, rfl, rfl, _, rfl, ite2 (fun h2 => ?_) (fun h2 => ?_)⟩
        · have h2 := of_decide_eq_true h2
          refine ⟨_, rfl, a, xs, ds, rfl, e, ra, by omega, fun H' sm => ?_⟩
          have q1 := q H' sm
          rw [rowD_list, decide_eq_true (by omega), decide_eq_true (by omega)] at q1
          exact q1
        · have e : rowD (.list ds) = false := by
            rw [rowD_list, decide_eq_false (p := ds.length ≤ 6) (by intro z; exact h2 (decide_eq_true (by omega)))]
            simp
          rw [← e]
          exact q H (Same.refl _)
      · refine ⟨_, rfl, iteF ?_⟩
        have e : rowD (.list ds) = false := by
          rw [rowD_list, decide_eq_false (p := 1 ≤ ds.length) (by intro z; exact h1 (decide_eq_true (by omega)))]
          simp
        rw [← e]
        exact q H (Same.refl _)
    | _ => exact iteF (q H (Same.refl _))
def spShapeA : Sp := fun vs H Q _ => ∃ (x : V) (d : PyData), vs = [x] ∧ RdS [] H x d ∧ ∀ b H', (b = true → ∃ (t : Addr) (prs : Prs), x = .ref t ∧ d = dTab (prs.map (·.2)) ∧ Tab H t prs ∧ 1 ≤ prs.length ∧ prs.length ≤ 6 ∧ (∀ p ∈ prs, p.2.length = w0 prs ∧ rowB p.2 = true)) → (b = false → ¬ GoodD d) → Same H H' → Q (.bl b) H'
theorem ok_shapeA (T : Blt mg) (D : DefAt K mg "has_table_shape" dShape ["thing"]) (G : FnAt P w K mg base 3 "is_row" ["thing"] spIsRowA) : FnAt P w K mg base 4 "has_table_shape" ["thing"] spShapeA := by
  refine FnAt.of D sc_shape (fun vs H Q E h => ?_) (fun f cdv A outer s H vs Q E hr h => ?_)
  · obtain ⟨x, d, rfl, _⟩ := h
    rfl
  · obtain ⟨x, d, rfl, rd, q⟩ := h
    obtain ⟨tk, mr⟩ := T.mr
    have nd1 : (["row"] : List Str).Nodup := by decide +kernel
    have nd2 : (["row", "thing"] : List Str).Nodup := by decide +kernel
    refine ⟨_, pss_cons (ps_if (PW.pt (pw_or (pt_not (pt_val (pe_b call_isinst T.isinst boot_isinstance (pa_cons (pv 0) (pa_cons (pe_ty T.list boot_list) pa_nil)))))
        (pw_or1 (pt_not (pt_chain op_le op_le pe_int (pe_b call_len_seq T.len boot_len (pa_cons (pv 0) pa_nil)) (pe_glob (v := .int 6) rfl mr ⟨_, rfl⟩)))))) (pss_one (ps_ret pe_bl)) pss_nil)
      (pss_cons (ps_if (pt_not (pt_val (pe_b (call_all rfl) T.all boot_all (pa_cons (pe_comp ["row"] [none] (defScope dShape) ["thing", "row"] rfl (pi_list (pv 0)) (by decide +kernel)
        (fun cl C s2 H2 ex => pg_c 0 nd1) (fun cl C s2 H2 ex => pifs_nil) (fun cl C s2 H2 ex => pe_f G hr (pa_cons (pv 0) pa_nil))) pa_nil)))) (pss_one (ps_ret pe_bl)) pss_nil)
      (pss_one (ps_ret (pe_b (call_all rfl) T.all boot_all (pa_cons (pe_comp ["row", "thing"] [none, some 0] (defScope dShape) ["thing", "row"] rfl (pi_list (pv 0)) (by decide +kernel)
        (fun cl C s2 H2 ex => pg_c 0 nd2) (fun cl C s2 H2 ex => pifs_nil)
        (fun cl C s2 H2 ex => pe_cmpR op_eq (pe_b (lenK K) T.len boot_len (pa_cons (pv 0) pa_nil)) (pe_b (lenK K) T.len boot_len (pa_cons (pe_ix (ixL K) (pv 1) pe_int (fun _ _ => rfl)) pa_nil)) (nomark _))) pa_nil))))), ?_⟩
    refine ⟨_, rfl, _, _, _, _, rfl, rd.ty, kit_list _ d, _, rfl, ?_⟩
    have notl : (∀ ds, d ≠ .list ds) → ¬ GoodD d := fun h g => by
      obtain ⟨ds, e⟩ := g.list
      exact h ds e
    cases rd with
    | @lst t xs ds e n ra =>
      obtain ⟨ms, e1, e2, hm⟩ := ra.pairs
      subst e1 e2
      refine iteF ⟨_, rfl, t, _, rfl, .inl (SqL.of e), 1, _, rfl, rfl, _, rfl, ?_⟩
      rw [List.length_map]
      have bad : ¬ (1 ≤ ms.length ∧ ms.length ≤ 6) → ¬ GoodD (.list (ms.map (·.2))) := fun z g => z (by
        have := g.rows.1
        rw [List.length_map] at this
        exact this)
      refine ite2 (fun h1 => ?_) (fun h1 => ?_)
      · have h1 := of_decide_eq_true h1
        refine ⟨_, _, rfl, rfl, _, rfl, ?_⟩
        by_cases h2 : ms.length ≤ 6
        · rw [decide_eq_true (show (ms.length : Int) ≤ 6 by omega)]
          refine iteF ?_
          refine ⟨_, rfl, t, rfl, ⟨_, SqL.of e⟩, comp_map (fun m : V × PyData => m.1) (fun m => .bl (rowD m.2)) (SqL.of e) (sl6 (by omega)) (fun m hx H' Q' sm q' => ?_) fun D H' hD sm hDl => ?_⟩
          · exact ⟨_, rfl, m.1, m.2, rfl, (hm m hx).same sm, q'⟩
          · refine ⟨D, ms.map fun m => rowD m.2, rfl, SqL.of (by rw [hDl, map_bl]), _, rfl, ?_⟩
            cases e1 : (ms.map fun m => rowD m.2).all id with
            | false =>
              refine iteT (q false H' (fun z => by cases z) (fun _ g => ?_) sm)
              have : (ms.map fun m => rowD m.2).all id = true := by
                rw [List.all_map, List.all_eq_true]
                exact fun m hmm => g.rows.2 m.2 (List.mem_map.mpr ⟨m, hmm, rfl⟩)
              rw [e1] at this
              cases this
            | true =>
              refine iteF ?_
              rw [List.all_map, List.all_eq_true] at e1
              obtain ⟨prs, p1, p2, hp⟩ := rows_of hm e1
              have hT : Tab H t prs := ⟨by rw [← p1]; exact e, fun p hpp => (hp p hpp).1⟩
              have hT1 := hT.same sm
              have hlp : ms.length = prs.length := by
                have := congrArg List.length p1
                rw [List.length_map, List.length_map] at this
                exact this
              have ed : PyData.list (ms.map (·.2)) = dTab (prs.map (·.2)) := by rw [p2]; rfl
              obtain ⟨p0, hp0, hm0, hx0⟩ := head_at (prs := prs) (by omega)
              have hw0 : w0 prs = p0.2.length := by
                unfold w0
                rw [hp0]
                rfl
              refine ⟨_, rfl, t, rfl, ⟨_, hT1.sq⟩, comp_map (fun p : Addr × List Int => V.ref p.1) (fun p => .bl (decide (p.2.length = w0 prs))) hT1.sq (sl6 (by omega)) (fun p hpp H2 Q' sm2 q' => ?_) fun D2 H2 hD2 sm2 hDl2 => ?_⟩
              · have hT2 := hT1.same sm2
                refine ⟨_, rfl, p.1, _, rfl, .inl (hT2.r p hpp).sq, _, rfl, t, _, 0, .ref p0.1, rfl, rfl, hT2.sq, atI_nat (j := 0) (by rw [List.getElem?_map, hx0]; rfl), p0.1, _, rfl, .inl (hT2.r p0 hm0).sq, rfl, ?_⟩
                rw [List.length_map, List.length_map, ← hw0]
                have e5 : decide (V.int (p.2.length : Nat) = V.int (w0 prs : Nat)) = decide (p.2.length = w0 prs) := decide_eq_decide.mpr ⟨fun h => by injection h with h; omega, fun h => by rw [h]⟩
                rw [e5]
                exact q' _ (Same.refl _)
              · refine ⟨D2, prs.map fun p => decide (p.2.length = w0 prs), rfl, SqL.of (by rw [hDl2, map_bl]), ?_⟩
                refine q _ H2 (fun hb => ⟨t, prs, rfl, ed, hT, by omega, by omega, fun p hpp => ⟨?_, (hp p hpp).2.1⟩⟩) (fun hb g => ?_) (sm.trans sm2)
                · rw [List.all_map, List.all_eq_true] at hb
                  exact of_decide_eq_true (hb p hpp)
                · rw [ed, goodD_tab] at g
                  have gl := (good_of g).1.len
                  have : ((prs.map fun p => decide (p.2.length = w0 prs)).all id) = true := by
                    rw [List.all_map, List.all_eq_true]
                    exact fun p hpp => decide_eq_true (gl p hpp)
                  rw [hb] at this
                  cases this
        · rw [decide_eq_false (show ¬ (ms.length : Int) ≤ 6 by omega)]
          exact iteT (q false H (fun z => by cases z) (fun _ => bad (fun z => h2 z.2)) (Same.refl _))
      · refine ⟨_, rfl, ?_⟩
        exact iteT (q false H (fun z => by cases z) (fun _ => bad (fun z => h1 (decide_eq_true (by omega)))) (Same.refl _))
    | _ => exact iteT (q false H (fun z => by cases z) (fun _ => notl (fun ds z => by cases z)) (Same.refl _))
def spIsTableA : Sp := fun vs H Q _ => ∃ (x : V) (d : PyData), vs = [x] ∧ RdS [] H x d ∧ ∀ b H', (b = true ↔ GoodD d) → Same H H' → Q (.bl b) H'
theorem ok_isTableA (D : DefAt K mg "is_table" dIsTable ["thing"]) (G : FnAt P w K mg base 4 "has_table_shape" ["thing"] spShapeA) (G2 : FnAt P w K mg base 2 "is_sorted_both_ways" ["table"] spSorted) : FnAt P w K mg base 5 "is_table" ["thing"] spIsTableA := by
  refine FnAt.of D sc_isTable (fun vs H Q E h => ?_) (fun f cdv A outer s H vs Q E hr h => ?_)
  · obtain ⟨x, d, rfl, _⟩ := h
    rfl
  · obtain ⟨x, d, rfl, rd, q⟩ := h
    refine ⟨_, pss_one (ps_ret (pe_and (pe_f G hr (pa_cons (pv 0) pa_nil)) (pe_one (pe_f G2 (hr.mono (by decide)) (pa_cons (pv 0) pa_nil))))), ?_⟩
    refine ⟨_, rfl, x, d, rfl, rd, fun b H1 ht hf s1 => ⟨_, rfl, ?_⟩⟩
    cases b with
    | false => exact iteF (q false H1 ⟨fun z => (by cases z), fun g => absurd g (hf rfl)⟩ s1)
    | true =>
      obtain ⟨t, prs, rfl, rfl, hT, h1, h6, hp⟩ := ht rfl
      refine iteT ⟨_, rfl, t, prs, rfl, hT.same s1, ⟨by omega, fun p hpp => ?_⟩, h1, fun p hpp => (hp p hpp).1, fun H2 s2 => q _ H2 ?_ (s1.trans s2)⟩
      · have := (hp p hpp).2
        unfold rowB at this
        rw [Bool.and_eq_true, decide_eq_true_eq, decide_eq_true_eq] at this
        omega
      · rw [goodD_tab]
        unfold tabB
        have : shB prs = true := by
          unfold shB
          rw [decide_eq_true h1, decide_eq_true h6, Bool.true_and, List.all_map, List.all_map, Bool.true_and, Bool.and_eq_true, List.all_eq_true, List.all_eq_true]
          exact ⟨fun p hpp => (hp p hpp).2, fun p hpp => decide_eq_true (hp p hpp).1⟩
        rw [this, Bool.true_and]
end
open PySem L2 PyProof.Rows
structure Err (K : PySem.W.Frag) (S : Addr) (cs : List Addr) (i : Nat) (C : Addr) : Prop where
  k : ExcK K C
  sk : PySem.W.mroIn K C (.ref S) = some true
  kv : PySem.W.kitOne K (.ref C) (.type "ValueError") = some true
  ks : ∀ j D, cs[j]? = some D → PySem.W.kitOne K (.ref C) (.ref D) = some (decide (j = i))
theorem rdss_ints {S : List Addr} {H : Hp} : ∀ ns : List Int, RdSs S H (ns.map V.int) (ns.map PyData.int)
  | [] => .nil
  | n :: r => .cons (.int n) (rdss_ints r)
theorem rdss_rows {H : Hp} : ∀ prs : Prs, (∀ p ∈ prs, Row H p.1 p.2) → RdSs [] H (prs.map fun p => V.ref p.1) ((prs.map (·.2)).map dRow)
  | [], _ => .nil
  | p :: r, h => .cons (.lst (h p (by simp)) (by simp) (rdss_ints p.2)) (rdss_rows r fun q hq => h q (by simp [hq]))
theorem tab_rds {H : Hp} {t : Addr} {prs : Prs} (hT : Tab H t prs) : RdS [] H (.ref t) (dTab (prs.map (·.2))) := .lst hT.l (by simp) (rdss_rows prs hT.r)
section
variable {P : Program} {w : World} {K : PySem.W.Frag} {mg : Str → Option Value} {base : Heap} {c c0 c1 c2 : Addr}
def spNeedTX (c : Addr) : Sp := fun vs H Q E => ∃ (x : V) (d : PyData), vs = [x] ∧ RdS [] H x d ∧ (GoodD d → ∀ H', Same H H' → Q .non H') ∧ (¬ GoodD d → ∀ H', Same H H' → E (.ref c) none H')
theorem ok_needTX (hk : ExcK K c) (hm : mg "NoTable" = some (.ref c)) (D : DefAt K mg "need_table" dNeedTable ["thing"]) (G : FnAt P w K mg base 5 "is_table" ["thing"] spIsTableA) : FnAtX P w K mg base 6 "need_table" ["thing"] (spNeedTX c) := by
  refine FnAtX.of D sc_needTable (fun vs H Q E h => ?_) (fun f cdv A outer s H vs Q E hr h => ?_)
  · obtain ⟨x, d, rfl, _⟩ := h
    rfl
  · obtain ⟨x, d, rfl, rd, hq, he⟩ := h
    refine ⟨_, pss_one (ps_if (pt_not (pt_val (pe_f G hr (pa_cons (pv 0) pa_nil)))) (pss_one (ps_raise throws_def hk pe_str hm)) pss_nil), ?_⟩
    refine ⟨_, rfl, x, d, rfl, rd, fun b H1 hb s1 => ⟨_, rfl, ?_⟩⟩
    cases b with
    | false => exact iteT (he (fun g => by have := hb.mpr g; cases this) H1 s1)
    | true => exact iteF (hq (hb.mp rfl) H1 s1)
end
open PySem L2 PyProof.Rows
structure Nms (mg : Str → Option Value) (S : Addr) (cs : List Addr) : Prop where
  len : cs.length = 12
  seek : mg "SeekError" = some (.ref S)
  n0 : mg "NoTable" = some (.ref (cs.getD 0 0))
  n1 : mg "NoCell" = some (.ref (cs.getD 1 0))
  n2 : mg "NoNumber" = some (.ref (cs.getD 2 0))
  n3 : mg "NoSize" = some (.ref (cs.getD 3 0))
  n4 : mg "NoStair" = some (.ref (cs.getD 4 0))
  n5 : mg "NoLook" = some (.ref (cs.getD 5 0))
  n6 : mg "NoPlace" = some (.ref (cs.getD 6 0))
  n7 : mg "NoFit" = some (.ref (cs.getD 7 0))
  n8 : mg "NoChange" = some (.ref (cs.getD 8 0))
  n9 : mg "NoText" = some (.ref (cs.getD 9 0))
  n10 : mg "NoName" = some (.ref (cs.getD 10 0))
  n11 : mg "NoRow" = some (.ref (cs.getD 11 0))
theorem Err.kit {K : PySem.W.Frag} {S : Addr} {cs : List Addr} {i : Nat} {C : Addr} (h : Err K S cs i C) (hl : cs.length = 12) (j : Nat) (hj : j < 12) : PySem.W.kitOne K (.ref C) (.ref (cs.getD j 0)) = some (decide (j = i)) :=
  h.ks j _ (by rw [List.getD_eq_getElem?_getD, List.getElem?_eq_getElem (by omega)]; rfl)
open PySem L2 PyProof.Rows
section
variable {P : Program} {w : World} {K : PySem.W.Frag} {mg : Str → Option Value} {base : Heap} {S c c0 c9 : Addr} {cs : List Addr}
def spSTX (c : Addr) : Sp := fun vs H _ E => ∃ (x : V) (d : PyData), vs = [x] ∧ RdS [] H x d ∧ ¬ GoodD d ∧ ∀ H', Same H H' → E (.ref c) none H'
theorem ok_showTableX (D : DefAt K mg "show_table" dShowTable ["table"]) (G1 : FnAtX P w K mg base 6 "need_table" ["thing"] (spNeedTX c)) : FnAtX P w K mg base 7 "show_table" ["table"] (spSTX c) := by
  refine FnAtX.of D sc_st (fun vs H Q E h => ?_) (fun f cdv A outer s H vs Q E hr h => ?_)
  · obtain ⟨x, d, rfl, _⟩ := h
    rfl
  · obtain ⟨x, d, rfl, rd, ng, he⟩ := h
    refine ⟨_, pss_cons (ps_expr (pe_fx G1 hr flies_def (pa_cons (pv 0) pa_nil))) pss_never, ?_⟩
    exact ⟨_, rfl, x, d, rfl, rd, (fun g => absurd g ng), fun _ H' sm => he H' sm⟩
def hdlOf : Stmt → List Stmt
  | .Try _ [.ExceptHandler _ _ b _] _ _ _ => b
  | _ => []
def Asks (H : Hp) (Q : VK) : Int → V → Prop := fun ask x =>
  (ask = 0 ∧ ∃ (z : Str) (rows : List (List Int)), x = .str z ∧ TxtOk z ∧ RowsOf z rows ∧ rowsOk rows = true ∧ ∀ F t prs H', H F = none → Same H H' → H' F = some (.lst [.bl false, .ref t]) → Tab H' t prs → prs.map (·.2) = rows → Q (.ref F) H') ∨
  (ask = 1 ∧ ∃ (t : Addr) (prs : Prs), x = .ref t ∧ Tab H t prs ∧ tabB prs = true ∧ (∀ p ∈ prs, Bd500 p.2) ∧ ∀ F H', H F = none → Same H H' → H' F = some (.lst [.bl false, .str (tabS (prs.map (·.2)))]) → Q (.ref F) H') ∨
  (ask = 0 ∧ ((∃ d, RdS [] H x d ∧ isStrD d = false) ∨ (∃ z, x = .str z ∧ TxtOk z ∧ textB z = false) ∨ (∃ z rows, x = .str z ∧ TxtOk z ∧ RowsOf z rows ∧ rowsOk rows = false)) ∧ ∀ F H', H F = none → Same H H' → H' F = some (.lst [.bl true, .str "text"]) → Q (.ref F) H') ∨
  (ask = 1 ∧ (∃ d, RdS [] H x d ∧ ¬ GoodD d) ∧ ∀ F H', H F = none → Same H H' → H' F = some (.lst [.bl true, .str "table"]) → Q (.ref F) H')
def spAsk : Sp := fun vs H Q _ => ∃ (ask : Int) (x : V), vs = [.int ask, x] ∧ Asks H Q ask x
abbrev askN : List Str := ["ask", "thing", "found", "e", "kinds", "others"]
theorem sc_ask : FnScope askN ["ask", "thing"] (defScope dAsked) := ⟨rfl, rfl, rfl, by decide +kernel, rfl, by decide +kernel, by decide +kernel⟩
theorem kitAny_no {K : PySem.W.Frag} {C : Addr} : ∀ {ds : List Addr}, (∀ d ∈ ds, PySem.W.kitOne K (.ref C) (.ref d) = some false) → PySem.W.kitAny K (.ref C) (ds.map Value.ref) = some false
  | [], _ => rfl
  | d :: ds, h => by
    rw [List.map_cons]
    unfold PySem.W.kitAny
    rw [h d (.head _)]
    exact kitAny_no fun d' hd => h d' (.tail _ hd)
set_option maxHeartbeats 16000000 in
theorem ok_ask (T : Blt mg) (hve : mg "ValueError" = none) (N : Nms mg S cs) (kS : ExcK K S) (E0 : Err K S cs 0 c0) (E9 : Err K S cs 9 c9) (D : DefAt K mg "_law_asked" dAsked ["ask", "thing"])
    (G1 : FnAt P w K mg base 6 "read_table" ["text"] spRTA) (X1 : FnAtX P w K mg base 6 "read_table" ["text"] (spRTX1 c9)) (X2 : FnAtX P w K mg base 6 "read_table" ["text"] (spRTX2 c9)) (X3 : FnAtX P w K mg base 6 "read_table" ["text"] (spRTX3 c9))
    (G2 : FnAt P w K mg base 7 "show_table" ["table"] spST) (Y1 : FnAtX P w K mg base 7 "show_table" ["table"] (spSTX c0)) : FnAt P w K mg base 8 "_law_asked" ["ask", "thing"] spAsk := by
  refine FnAt.of D sc_ask (fun vs H Q E h => ?_) (fun f cdv A outer s H vs Q E hr h => ?_)
  · obtain ⟨ask, x, rfl, _⟩ := h
    rfl
  · obtain ⟨ask, x, rfl, hd⟩ := h
    have nd := sc_ask.nd
    have g1 := G1.toX.or (X1.or (X2.or X3))
    have g2 := G2.toX.or Y1
    have hr6 : Room 6 _ := hr.mono (show 6 ≤ 7 by decide)
    obtain ⟨th, hth, hq⟩ : ∃ th : TS, (∀ v, PSs ((cxOf CX0 P w K mg base askN "_law_asked" (defScope dAsked) f cdv A outer s H E).nox.hand v) (hdlOf ((defBody dAsked).getD 1 (.Pass ⟨0, 0, 0, 0⟩))) th) ∧
        ∀ (i : Nat) (C e F : Addr) (a : V) (H' : Hp) (D : Ends), Err K S cs i C → (i = 9 ∨ i = 0) → H' e = some (excO e C) →
          (∀ F2 H2 o4 o5, H' F2 = none → Same H' H2 → H2 F2 = some (.lst [.bl true, .str (if i = 9 then ("text" : Str) else "table")]) → D.nx [some (.int ask), some a, some (.ref F2), some (.ref e), o4, o5] H2) → th D [some (.int ask), some a, some (.ref F), some (.ref e), none, none] H' := by
      refine ⟨_, fun v => pss_cons (ps_set (i := 4) nd rfl (Or.inl rfl) (pe_lst (pa_cons (pe_b (call_isinstE K) T.isinst boot_isinstance (pa_cons (pv 3) (pa_cons (pe_glob (v := .ref _) rfl N.n9 rfl) pa_nil))) (pa_cons (pe_b (call_isinstE K) T.isinst boot_isinstance (pa_cons (pv 3) (pa_cons (pe_glob (v := .ref _) rfl N.n0 rfl) pa_nil))) (pa_cons (pe_b (call_isinstET K) T.isinst boot_isinstance (pa_cons (pv 3) (pa_cons (pe_ty hve boot_ValueError) pa_nil))) pa_nil)))))
          (pss_cons (ps_set (i := 5) nd rfl (Or.inl rfl) (pe_b (call_isinstEU K) T.isinst boot_isinstance (pa_cons (pv 3) (pa_cons (pe_tup (pa_cons (pe_glob (v := .ref _) rfl N.n1 rfl) (pa_cons (pe_glob (v := .ref _) rfl N.n8 rfl) (pa_cons (pe_glob (v := .ref _) rfl N.n7 rfl) (pa_cons (pe_glob (v := .ref _) rfl N.n5 rfl) (pa_cons (pe_glob (v := .ref _) rfl N.n10 rfl) (pa_cons (pe_glob (v := .ref _) rfl N.n2 rfl) pa_nil))))))) pa_nil))))
          (pss_cons (ps_set (i := 5) nd rfl (Or.inl rfl) (pe_or (pv 5) (pe_one (pe_b (call_isinstEU K) T.isinst boot_isinstance (pa_cons (pv 3) (pa_cons (pe_tup (pa_cons (pe_glob (v := .ref _) rfl N.n6 rfl) (pa_cons (pe_glob (v := .ref _) rfl N.n11 rfl) (pa_cons (pe_glob (v := .ref _) rfl N.n3 rfl) (pa_cons (pe_glob (v := .ref _) rfl N.n4 rfl) pa_nil))))) pa_nil))))))
          (pss_cons (ps_set (i := 2) nd rfl (Or.inl rfl) (pe_lst (pa_cons pe_bl (pa_cons pe_str pa_nil))))
          (pss_one (ps_if (PW.pt (pw_and (pt_val (pe_ix (ixL K) (pv 4) pe_int (fun _ _ => rfl))) (pw_and (pt_not (pt_val (pv 5))) (pw_and1 (pt_cmpR op_ne (pe_ix (ixL K) (pv 4) pe_int (fun _ _ => rfl)) (pe_ix (ixL K) (pv 4) pe_int (fun _ _ => rfl)) (nomark _))))))
            (pss_one (ps_set (i := 2) nd rfl (Or.inl rfl) (pe_lst (pa_cons pe_bl (pa_cons (pe_ix (ixL K) (pe_lst (pa_cons pe_str (pa_cons pe_str pa_nil))) (pe_t call_int1 T.int boot_int (pa_cons (pe_ix (ixL K) (pv 4) pe_int (fun _ _ => rfl)) pa_nil)) (fun _ _ => rfl)) pa_nil))))) pss_nil))))), ?_⟩
      intro i C e F a H' D er hi he q
      obtain ⟨b, hb9, hb0, hw⟩ : ∃ b : Bool, decide (9 = i) = b ∧ decide (0 = i) = !b ∧ (if i = 9 then ("text" : Str) else "table") = if b = true then ("text" : Str) else "table" := by
        rcases hi with rfl | rfl
        · exact ⟨true, rfl, rfl, rfl⟩
        · exact ⟨false, rfl, rfl, rfl⟩
      rw [hw] at q
      have kk := er.kit N.len
      have k9 := kk 9 (by decide)
      have k0 := kk 0 (by decide)
      rw [hb9] at k9
      rw [hb0] at k0
      have kf : ∀ j, j < 12 → j ≠ 9 → j ≠ 0 → PySem.W.kitOne K (.ref C) (.ref (cs.getD j 0)) = some false := fun j h1 h2 h3 => by
        rw [kk j h1, decide_eq_false (by omega)]
      refine ⟨_, rfl, e, C, _, _, rfl, he, er.k, k9, _, rfl, e, C, _, _, rfl, he, er.k, k0, _, rfl, e, C, _, _, rfl, he, er.k, er.kv, len3, fun l1 h1 => ?_⟩
      have s1 := Same.new (o := .lst [.bl b, .bl (!b), .bl true]) h1
      have e1 : (upd H' l1 (.lst [.bl b, .bl (!b), .bl true])) l1 = some (.lst [.bl b, .bl (!b), .bl true]) := upd_same
      generalize upd H' l1 (.lst [.bl b, .bl (!b), .bl true]) = H2 at s1 e1 ⊢
      have he2 := s1 _ _ he
      refine ⟨_, rfl, len6, fun p2 h2 => ⟨e, C, p2, [cs.getD 1 0, cs.getD 8 0, cs.getD 7 0, cs.getD 5 0, cs.getD 10 0, cs.getD 2 0], false, rfl, Same.new h2 _ _ he2, er.k, SqT.of upd_same, kitAny_no fun d hd => ?_, ?_⟩⟩
      · simp only [List.mem_cons, List.not_mem_nil, or_false] at hd
        rcases hd with rfl | rfl | rfl | rfl | rfl | rfl <;> exact kf _ (by decide) (by decide) (by decide)
      have s2 := Same.new (o := .tup [.ref (cs.getD 1 0), .ref (cs.getD 8 0), .ref (cs.getD 7 0), .ref (cs.getD 5 0), .ref (cs.getD 10 0), .ref (cs.getD 2 0)]) h2
      have e2 := s2 _ _ e1
      have he3 := s2 _ _ he2
      have s12 := s1.trans s2
      generalize upd H2 p2 (.tup [.ref (cs.getD 1 0), .ref (cs.getD 8 0), .ref (cs.getD 7 0), .ref (cs.getD 5 0), .ref (cs.getD 10 0), .ref (cs.getD 2 0)]) = H3 at s2 e2 he3 s12 ⊢
      refine ⟨_, rfl, _, rfl, iteF ⟨_, rfl, len4, fun p3 h3 => ⟨e, C, p3, [cs.getD 6 0, cs.getD 11 0, cs.getD 3 0, cs.getD 4 0], false, rfl, Same.new h3 _ _ he3, er.k, SqT.of upd_same, kitAny_no fun d hd => ?_, ?_⟩⟩⟩
      · simp only [List.mem_cons, List.not_mem_nil, or_false] at hd
        rcases hd with rfl | rfl | rfl | rfl <;> exact kf _ (by decide) (by decide) (by decide)
      have s3 := Same.new (o := .tup [.ref (cs.getD 6 0), .ref (cs.getD 11 0), .ref (cs.getD 3 0), .ref (cs.getD 4 0)]) h3
      have e3 := s3 _ _ e2
      have s13 := s12.trans s3
      generalize upd H3 p3 (.tup [.ref (cs.getD 6 0), .ref (cs.getD 11 0), .ref (cs.getD 3 0), .ref (cs.getD 4 0)]) = H4 at s3 e3 s13 ⊢
      refine ⟨len2, fun p4 h4 => ?_⟩
      have s4 := Same.new (o := .lst [.bl true, .str "other"]) h4
      have e4 := s4 _ _ e3
      have s14 := s13.trans s4
      generalize upd H4 p4 (.lst [.bl true, .str "other"]) = H5 at s4 e4 s14 ⊢
      refine ⟨_, rfl, l1, _, 2, _, rfl, rfl, SqL.of e4, rfl, _, rfl, iteT ⟨_, rfl, _, rfl, iteT ⟨_, rfl, l1, _, 0, _, rfl, rfl, SqL.of e4, rfl, _, rfl, l1, _, 1, _, rfl, rfl, SqL.of e4, rfl, rfl, _, rfl, ?_⟩⟩⟩
      have fin : ∀ wd : Str, wd = (if b = true then ("text" : Str) else "table") → ∀ p6 H6, H5 p6 = none → Same H5 H6 → H6 p6 = some (.lst [.bl true, .str wd]) → D.nx [some (.int ask), some a, some (.ref p6), some (.ref e), some (.ref l1), some (.bl false)] H6 := fun wd ew p6 H6 h6 s6 e6 => by
        rw [ew] at e6
        exact q p6 H6 _ _ (s14.free h6) (s14.trans s6) e6
      cases b with
      | true =>
        refine iteT ⟨len2, fun p5 h5 => ⟨_, rfl, l1, _, 1, _, rfl, rfl, SqL.of (Same.new h5 _ _ e4), rfl, .inr ⟨_, rfl, p5, _, 0, _, rfl, rfl, SqL.of upd_same, rfl, len2, fun p6 h6 => ?_⟩⟩⟩
        have s5 := Same.new (o := .lst [.str "text", .str "table"]) h5
        exact fin _ rfl p6 _ (s5.free h6) (s5.trans (Same.new h6)) upd_same
      | false =>
        refine iteT ⟨len2, fun p5 h5 => ⟨_, rfl, l1, _, 1, _, rfl, rfl, SqL.of (Same.new h5 _ _ e4), rfl, .inr ⟨_, rfl, p5, _, 1, _, rfl, rfl, SqL.of upd_same, rfl, len2, fun p6 h6 => ?_⟩⟩⟩
        have s5 := Same.new (o := .lst [.str "text", .str "table"]) h5
        exact fin _ rfl p6 _ (s5.free h6) (s5.trans (Same.new h6)) upd_same
    refine ⟨_, pss_cons (ps_set (i := 2) nd rfl (Or.inl rfl) (pe_lst (pa_cons pe_bl (pa_cons pe_non pa_nil))))
      (pss_cons (ps_try (i := 3) rfl rfl nd kS N.seek (fun pn W R hR => pss_one (ps_if (pt_cmpR op_eq (pv 0) pe_int (nomark _)) (pss_one (ps_asg (pe_fx g1 hr6 hR (pa_cons (pv 1) pa_nil)) (pg_sub (pv 2) pe_int set_list))) (pss_one (ps_asg (pe_fx g2 hr hR (pa_cons (pv 1) pa_nil)) (pg_sub (pv 2) pe_int set_list)))))
        (fun v => hth v))
      (pss_one (ps_ret (pv 2)))), ?_⟩
    refine ⟨len2, fun F hF => ?_⟩
    have sF := Same.new (o := .lst [.bl false, .non]) hF
    have eF : (upd H F (.lst [.bl false, .non])) F = some (.lst [.bl false, .non]) := upd_same
    generalize upd H F (.lst [.bl false, .non]) = H1 at sF eF ⊢
    refine ⟨_, rfl, rfl, _, rfl, ?_⟩
    have up : ∀ {i : Nat} {C : Addr} {H' : Hp} {D : Ends}, Err K S cs i C → (i = 9 ∨ i = 0) → Same H1 H' → (∀ F2 H2, H F2 = none → Same H H2 → H2 F2 = some (.lst [.bl true, .str (if i = 9 then ("text" : Str) else "table")]) → ∀ o4 o5, D.nx [some (.int ask), some x, some (.ref F2), none, o4, o5] H2) →
        RTry K S 3 th D [some (.int ask), some x, some (.ref F), none, none, none] (.ref C) H' := fun {i C H' D} er hi s' q => by
      refine ⟨C, rfl, er.k, er.sk, fun e he => hq i C e F x _ _ er hi upd_same fun F2 H2 o4 o5 h2 s2 e2 => ?_⟩
      have sA := sF.trans s'
      have sB := sA.trans (Same.new (o := excO e C) he)
      exact q F2 H2 (sB.free h2) (sB.trans s2) e2 o4 o5
    have set1 : ∀ {v : V}, ([V.bl false, V.non] : List V).set 1 v = [.bl false, v] := fun {v} => rfl
    rcases hd with ⟨rfl, z, rows, rfl, hx, hR, hok, q⟩ | ⟨rfl, t, prs, rfl, hT, hg, hb, q⟩ | ⟨rfl, hbad, q⟩ | ⟨rfl, ⟨d, rd, ng⟩, q⟩
    · refine iteT ⟨_, rfl, .inl ⟨z, rows, rfl, hx, hR, hok, fun t prs H2 ht hp s2 hT hrows => ?_⟩⟩
      refine ⟨_, rfl, F, _, 1, 1, rfl, rfl, s2 _ _ eF, rfl, _, rfl, ?_⟩
      have nF : F ≠ t := ne_of_none eF ht
      refine q F t prs _ hF (fun b o eb => ?_) upd_same ⟨?_, fun p hp' => ?_⟩ hrows
      · rw [upd_ne (ne_of_none eb hF)]
        exact s2 _ _ (sF _ _ eb)
      · rw [upd_ne nF.symm]
        exact hT.l
      · have := hT.r p hp'
        unfold Row at this ⊢
        rw [upd_ne (fun zz => by have h0 := (hp p hp').1; rw [zz, eF] at h0; cases h0)]
        exact this
    · refine iteF ⟨_, rfl, .inl ⟨t, prs, rfl, hT.same sF, hg, hb, fun H2 s2 => ⟨_, rfl, F, _, 1, 1, rfl, rfl, s2 _ _ eF, rfl, _, rfl, ?_⟩⟩⟩
      exact q F _ hF (fun b o eb => by rw [upd_ne (ne_of_none eb hF)]; exact s2 _ _ (sF _ _ eb)) upd_same
    · have ex := fun {H' : Hp} (s' : Same H1 H') => up (D := { nx := (tRet (tVar 2)) { nx := fun _ H' => Q .non H', rt := Q }, rt := Q }) E9 (.inl rfl) s' fun F2 H2 h2 s2 e2 o4 o5 => ⟨_, rfl, q F2 H2 h2 s2 e2⟩
      rcases hbad with ⟨d, rd, hnd⟩ | ⟨z, rfl, hx, hb⟩ | ⟨z, rows, rfl, hx, hR, hok⟩
      · exact iteT ⟨_, rfl, .inr (.inl ⟨x, d, rfl, rd.same sF, hnd, fun H' s' => ex s'⟩)⟩
      · exact iteT ⟨_, rfl, .inr (.inr (.inl ⟨z, rfl, hx, hb, fun H' s' => ex s'⟩))⟩
      · exact iteT ⟨_, rfl, .inr (.inr (.inr ⟨z, rows, rfl, hx, hR, hok, fun H' s' => ex s'⟩))⟩
    · have ex := fun {H' : Hp} (s' : Same H1 H') => up (D := { nx := (tRet (tVar 2)) { nx := fun _ H' => Q .non H', rt := Q }, rt := Q }) E0 (.inr rfl) s' fun F2 H2 h2 s2 e2 o4 o5 => ⟨_, rfl, q F2 H2 h2 s2 e2⟩
      exact iteF ⟨_, rfl, .inr ⟨x, d, rfl, rd.same sF, ng, fun H' s' => ex s'⟩⟩
end
open PySem L2 PyProof.Rows
theorem nf_le {ns : List Int} (h : nfP ns) : ∀ (k i : Nat), i + k < ns.length → ns.getD i 0 ≤ ns.getD (i + k) 0
  | 0, i, _ => Int.le_refl _
  | k + 1, i, hk => Int.le_trans (nf_le h k i (by omega)) (h (i + k) (by omega))
structure GoodR (W : Nat) (rows : List (List Int)) : Prop where
  n : 1 ≤ rows.length ∧ rows.length ≤ 6
  w : 1 ≤ W ∧ W ≤ 6
  len : ∀ i, i < rows.length → (rows.getD i []).length = W
  row : ∀ i, i < rows.length → nfP (rows.getD i [])
  down : ∀ i, i + 1 < rows.length → ∀ j, j < W → (rows.getD i []).getD j 0 ≤ (rows.getD (i + 1) []).getD j 0
theorem goodR_of {prs : Prs} (h : tabB prs = true) : GoodR (w0 prs) (prs.map (·.2)) := by
  obtain ⟨g, g1, g2, g3, g4⟩ := good_of h
  have e : ∀ i, (prs.map (·.2)).getD i [] = rowAt prs i := fun i => by
    unfold rowAt
    rw [List.getD_eq_getElem?_getD, List.getElem?_map]
  refine ⟨by rw [List.length_map]; exact ⟨g1, g2⟩, ⟨g3, g4⟩, fun i hi => ?_, fun i hi => ?_, fun i hi j hj => ?_⟩
  · rw [List.length_map] at hi
    obtain ⟨p, hp, _, e2⟩ := rowAt_mem hi
    rw [e, e2]
    exact g.len p hp
  · rw [List.length_map] at hi
    obtain ⟨p, hp, _, e2⟩ := rowAt_mem hi
    rw [e, e2]
    exact g.row p hp
  · rw [List.length_map] at hi
    rw [e, e]
    exact g.down i hi j hj
theorem GoodD.goodR {rows : List (List Int)} (h : GoodD (dTab rows)) : ∃ W, GoodR W rows := by
  obtain ⟨rs, e, ht⟩ := h
  have e := dTab_inj e
  subst e
  have g := goodR_of ht
  rw [List.map_map] at g
  have : ((fun x : Addr × List Int => x.2) ∘ fun r => ((0 : Addr), r)) = _root_.id := rfl
  rw [this, List.map_id] at g
  exact ⟨_, g⟩
theorem GoodR.le {W : Nat} {rows : List (List Int)} (g : GoodR W rows) {j : Nat} (hj : j < W) : ∀ (k i : Nat), i + k < rows.length → (rows.getD i []).getD j 0 ≤ (rows.getD (i + k) []).getD j 0
  | 0, i, _ => Int.le_refl _
  | k + 1, i, hk => Int.le_trans (g.le hj k i (by omega)) (g.down (i + k) (by omega) j hj)
def putD (rows : List (List Int)) (r : Nat) (d : PyData) : PyData := .list ((rows.take r).map dRow ++ [d] ++ (rows.drop (r + 1)).map dRow)
theorem putD_row {rows : List (List Int)} {r : Nat} {x : List Int} (hr : r < rows.length) : putD rows r (dRow x) = dTab (rows.set r x) := by
  unfold putD dTab
  rw [List.set_eq_take_append_cons_drop, if_pos hr]
  simp
theorem set_at {rows : List (List Int)} {r i : Nat} {x : List Int} (hr : r < rows.length) : (rows.set r x).getD i [] = if i = r then x else rows.getD i [] := by
  rw [List.getD_eq_getElem?_getD, List.getElem?_set]
  by_cases h : r = i
  · subst h
    rw [if_pos rfl, if_pos hr, if_pos rfl]
    rfl
  · rw [if_neg h, if_neg (Ne.symm h), List.getD_eq_getElem?_getD]
theorem bad_row {rows : List (List Int)} {r : Nat} {d : PyData} (h : rowD d = false) : ¬ GoodD (putD rows r d) := fun g => by
  have := g.rows.2 d (by simp)
  rw [h] at this
  cases this
theorem bad_ints {W : Nat} {rows : List (List Int)} {r : Nat} {x : List Int} (g : GoodR W rows) (hr : r < rows.length)
    (h : (x.length ≠ W ∧ ∃ i, i < rows.length ∧ i ≠ r) ∨ (∃ i k, i < k ∧ k < x.length ∧ x.getD k 0 < x.getD i 0) ∨
      (∃ i j, j < W ∧ x.length = W ∧ ((i < r ∧ x.getD j 0 < (rows.getD i []).getD j 0) ∨ (r < i ∧ i < rows.length ∧ (rows.getD i []).getD j 0 < x.getD j 0)))) : ¬ GoodD (putD rows r (dRow x)) := fun gd => by
  rw [putD_row hr] at gd
  obtain ⟨V, q⟩ := gd.goodR
  have hlen : (rows.set r x).length = rows.length := List.length_set
  have lx := q.len r (by omega)
  rw [set_at hr, if_pos rfl] at lx
  rcases h with ⟨h1, i, hi, hir⟩ | ⟨i, k, hik, hk, hlt⟩ | ⟨i, j, hj, hxl, h⟩
  · have li := q.len i (by omega)
    rw [set_at hr, if_neg hir, g.len i hi] at li
    exact h1 (by omega)
  · have nx := q.row r (by omega)
    rw [set_at hr, if_pos rfl] at nx
    have := nf_le nx (k - i) i (by omega)
    rw [show i + (k - i) = k by omega] at this
    omega
  · have hV : V = W := by omega
    subst hV
    rcases h with ⟨hi, hlt⟩ | ⟨hi, hi2, hlt⟩
    · have := q.le hj (r - i) i (by omega)
      rw [show i + (r - i) = r by omega, set_at hr, set_at hr, if_pos rfl, if_neg (by omega)] at this
      omega
    · have := q.le hj (i - r) r (by omega)
      rw [show r + (i - r) = i by omega, set_at hr, set_at hr, if_pos rfl, if_neg (by omega)] at this
      omega
theorem set_get {h : List Int} {p k : Nat} {v : Int} (hp : p < h.length) : (h.set p v).getD k 0 = if k = p then v else h.getD k 0 := by
  rw [List.getD_eq_getElem?_getD, List.getElem?_set]
  by_cases e : p = k
  · subst e
    rw [if_pos rfl, if_pos hp, if_pos rfl]
    rfl
  · rw [if_neg e, if_neg (Ne.symm e), List.getD_eq_getElem?_getD]
section
variable {W : Nat} {rows : List (List Int)} {r p : Nat}
theorem bad_set {v : Int} (g : GoodR W rows) (hr : r < rows.length) (hp : p < W)
    (h : (∃ i, i < p ∧ v < (rows.getD r []).getD i 0) ∨ (∃ i, p < i ∧ i < W ∧ (rows.getD r []).getD i 0 < v) ∨ (∃ i, i < r ∧ v < (rows.getD i []).getD p 0) ∨ (∃ i, r < i ∧ i < rows.length ∧ (rows.getD i []).getD p 0 < v)) : ¬ GoodD (putD rows r (dRow ((rows.getD r []).set p v))) := by
  have hl := g.len r hr
  have hp' : p < (rows.getD r []).length := by omega
  rcases h with ⟨i, hi, hv⟩ | ⟨i, hi, hi2, hv⟩ | ⟨i, hi, hv⟩ | ⟨i, hi, hi2, hv⟩
  · exact bad_ints g hr (.inr (.inl ⟨i, p, hi, by rw [List.length_set]; omega, by rw [set_get hp', set_get hp', if_pos rfl, if_neg (by omega)]; exact hv⟩))
  · exact bad_ints g hr (.inr (.inl ⟨p, i, hi, by rw [List.length_set]; omega, by rw [set_get hp', set_get hp', if_pos rfl, if_neg (by omega)]; exact hv⟩))
  · exact bad_ints g hr (.inr (.inr ⟨i, p, hp, by rw [List.length_set]; exact hl, .inl ⟨hi, by rw [set_get hp', if_pos rfl]; exact hv⟩⟩))
  · exact bad_ints g hr (.inr (.inr ⟨i, p, hp, by rw [List.length_set]; exact hl, .inr ⟨hi, hi2, by rw [set_get hp', if_pos rfl]; exact hv⟩⟩))
end
theorem bad_count {ds : List PyData} (h : ds.length = 0 ∨ 6 < ds.length) : ¬ GoodD (.list ds) := fun g => by
  have := g.rows.1
  omega
theorem bad_any {ds : List PyData} {d : PyData} (hd : d ∈ ds) (h : rowD d = false) : ¬ GoodD (.list ds) := fun g => by
  have := g.rows.2 d hd
  rw [h] at this
  cases this
theorem bad_kind {d : PyData} (h : ∀ ds, d ≠ .list ds) : ¬ GoodD d := fun g => by
  obtain ⟨ds, e⟩ := g.list
  exact h ds e
theorem bad_lens {rows : List (List Int)} {i k : Nat} (hi : i < rows.length) (hk : k < rows.length) (h : (rows.getD i []).length ≠ (rows.getD k []).length) : ¬ GoodD (dTab rows) := fun g => by
  obtain ⟨W, q⟩ := g.goodR
  exact h ((q.len i hi).trans (q.len k hk).symm)
open PySem L2 PyProof.Rows
def ButS (S : List Addr) (H H' : Hp) : Prop := ∀ b o, b ∉ S → H b = some o → H' b = some o
theorem ButS.refl (S : List Addr) (H : Hp) : ButS S H H := fun _ _ _ e => e
theorem ButS.trans {S : List Addr} {H H1 H2 : Hp} (a : ButS S H H1) (b : ButS S H1 H2) : ButS S H H2 := fun c o n e => b c o n (a c o n e)
theorem Same.butS {S : List Addr} {H H' : Hp} (a : Same H H') : ButS S H H' := fun c o _ e => a c o e
open PySem L2 PyProof.Rows
structure Ab where
  S : List Addr
  J : Hp → Prop
  same : ∀ {H H' : Hp}, J H → Same H H' → J H'
  fresh : ∀ {H : Hp} {a : Addr}, J H → H a = none → a ∉ S
abbrev Ty := V → Hp → Prop
abbrev TyB := Ab → Ty
abbrev EnB := Ab → L2.St → Hp → Prop
def Stb (A : TyB) : Prop := ∀ B v H H', A B v H → ButS B.S H H' → A B v H'
def StbE (Γ : EnB) : Prop := ∀ B σ H H', Γ B σ H → ButS B.S H H' → Γ B σ H'
def tA (Γ : EnB) (A : TyB) : TE := fun σ H Q => ∃ B : Ab, Γ B σ H ∧ B.J H ∧ ∀ v H', ButS B.S H H' → B.J H' → A B v H' → Q v H'
structure AE (X : Cx) (Γ : EnB) (e : Expr) (A : TyB) : Prop where
  pe : PE X e (tA Γ A)
section
variable {X : Cx} {Γ : EnB} {e e1 e2 : Expr} {es : List Expr} {A A' : TyB} {pos : Pos} {n : Nat}
theorem pe_imp {t t' : TE} (h : PE X e t) (i : ∀ σ H Q, t' σ H Q → t σ H Q) : PE X e t' := fun pins s σ H Q I q => h pins s σ H Q I (i σ H Q q)
theorem pa_imp {t t' : TA} (h : PA X es t) (i : ∀ σ H Q, t' σ H Q → t σ H Q) : PA X es t' := fun p pins s σ H Q I q => h p pins s σ H Q I (i σ H Q q)
theorem ae_sub (h : AE X Γ e A) (s : ∀ B v H, A B v H → A' B v H) : AE X Γ e A' := ⟨pe_imp h.pe fun _ _ _ ⟨B, g, j, q⟩ => ⟨B, g, j, fun v H' b j' a => q v H' b j' (s _ v H' a)⟩⟩
theorem ae_var {i : Nat} (h : PE X e (tVar i)) (g : ∀ B σ H, Γ B σ H → ∃ v, σ[i]? = some (some v) ∧ A B v H) : AE X Γ e A := ⟨pe_imp h fun σ H Q ⟨B, hg, j, q⟩ => by
  obtain ⟨v, ev, a⟩ := g _ σ H hg
  exact ⟨v, ev, q v H (ButS.refl _ _) j a⟩⟩
theorem ae_c {v : V} (h : PE X e (tC v)) (a : ∀ B H, A B v H) : AE X Γ e A := ⟨pe_imp h fun σ H Q ⟨B, hg, j, q⟩ => q v H (ButS.refl _ _) j (a _ H)⟩
theorem po_imp {o : Option Expr} {t t' : TO} (h : PO X o t) (i : ∀ σ H Q, t' σ H Q → t σ H Q) : PO X o t' := fun pins s σ H Q I q => h pins s σ H Q I (i σ H Q q)
end
section
variable {X : Cx} {Γ : EnB} {es : List Expr} {A : TyB} {n : Nat} {e1 e2 e3 e4 : Expr}
mutual
def litOf : Nat → Expr → Option PyData
  | 0, _ => none
  | n + 1, e => match e with
    | .Constant .none _ _ => some .none
    | .Constant (.bool b) _ _ => some (.bool b)
    | .Constant (.int i) _ _ => some (.int i)
    | .Constant (.str x) _ _ => some (.str x)
    | .List es _ => (litAll n es).map .list
    | .Tuple es _ _ => (litAll n es).map .tuple
    | .Dict [] [] _ => some (.dict [])
    | _ => none
def litAll : Nat → List Expr → Option (List PyData)
  | 0, _ => none
  | _ + 1, [] => some []
  | n + 1, e :: es => match litOf n e, litAll n es with
    | some d, some ds => some (d :: ds)
    | _, _ => none
end
abbrev tRd (d : PyData) : TyB := fun B v H => RdS B.S H v d
theorem st_rd {d : PyData} : Stb (tRd d) := fun B v H H' r b => r.move (fun c o n e => b c o n e) fun _ n => n
theorem lit_star {n : Nat} {e : Expr} {d : PyData} {env : Env} (h : litOf n e = some d) : starEach (e :: es) env = (false, eval e env) :: starEach es env := by
  cases n with
  | zero => simp [litOf] at h
  | succ n => cases e <;> first | rfl | (simp [litOf] at h)
theorem litAll_len : ∀ (n : Nat) {es : List Expr} {ds : List PyData}, litAll n es = some ds → ds.length ≤ n
  | 0, es, ds, h => by simp [litAll] at h
  | n + 1, [], ds, h => by
    simp only [litAll, Option.some.injEq] at h
    subst h
    exact Nat.zero_le _
  | n + 1, e :: es, ds, h => by
    unfold litAll at h
    split at h
    · rename_i d0 ds0 he hes
      cases h
      have := litAll_len n hes
      simp only [List.length_cons]
      omega
    · cases h
mutual
theorem lit_ok (sg : StbE Γ) : ∀ (n : Nat) {e : Expr} {d : PyData}, n ≤ 1000 → litOf n e = some d → AE X Γ e (tRd d)
  | 0, e, d, _, h => by simp [litOf] at h
  | n + 1, e, d, hn, h => by
    unfold litOf at h
    split at h
    · cases h; exact ae_c pe_non fun _ _ => .non
    · cases h; exact ae_c pe_bl fun _ _ => .bl _
    · cases h; exact ae_c pe_int fun _ _ => .int _
    · cases h; exact ae_c pe_str fun _ _ => .str _
    · rename_i es p
      cases hl : litAll n es with
      | none => rw [hl] at h; cases h
      | some ds =>
        rw [hl] at h
        simp only [Option.map_some, Option.some.injEq] at h
        subst h
        exact ⟨pe_imp (pe_lst (lit_all sg n (by omega) hl)) fun σ H Q ⟨B, hg, j, q⟩ => ⟨B, hg, j, fun vs H1 b1 j1 r1 => ⟨sl6 (by have := litAll_len n hl; have := r1.length; omega), fun p hp => q _ _ (b1.trans (Same.butS (Same.new hp))) (B.same j1 (Same.new hp)) (.lst upd_same (B.fresh j1 hp) (r1.same (Same.new hp)))⟩⟩⟩
    · rename_i es x p
      cases hl : litAll n es with
      | none => rw [hl] at h; cases h
      | some ds =>
        rw [hl] at h
        simp only [Option.map_some, Option.some.injEq] at h
        subst h
        exact ⟨pe_imp (pe_tup (lit_all sg n (by omega) hl)) fun σ H Q ⟨B, hg, j, q⟩ => ⟨B, hg, j, fun vs H1 b1 j1 r1 => ⟨sl6 (by have := litAll_len n hl; have := r1.length; omega), fun p hp => q _ _ (b1.trans (Same.butS (Same.new hp))) (B.same j1 (Same.new hp)) (.tup upd_same (B.fresh j1 hp) (r1.same (Same.new hp)))⟩⟩⟩
    · cases h
      exact ⟨pe_imp pe_dict0 fun σ H Q ⟨B, hg, j, q⟩ p hp => q _ _ (Same.butS (Same.new hp)) (B.same j (Same.new hp)) (.dct upd_same (B.fresh j hp))⟩
    · cases h
theorem lit_all (sg : StbE Γ) : ∀ (n : Nat) {es : List Expr} {ds : List PyData}, n ≤ 1000 → litAll n es = some ds → PA X es (fun σ H Q => ∃ B : Ab, Γ B σ H ∧ B.J H ∧ ∀ vs H', ButS B.S H H' → B.J H' → RdSs B.S H' vs ds → Q vs H')
  | 0, es, ds, _, h => by simp [litAll] at h
  | n + 1, [], ds, _, h => by
    simp only [litAll, Option.some.injEq] at h
    subst h
    exact pa_imp pa_nil fun σ H Q ⟨B, hg, j, q⟩ => q [] H (ButS.refl _ _) j .nil
  | n + 1, e :: es, ds, hn, h => by
    unfold litAll at h
    split at h
    · rename_i d0 ds0 he hes
      cases h
      exact pa_imp (pa_cons (lit_ok sg n (by omega) he).pe (lit_all sg n (by omega) hes) (lit_star he)) fun σ H Q ⟨B, hg, j, q⟩ => ⟨B, hg, j, fun v H1 b1 j1 a1 => ⟨B, sg _ _ _ _ hg b1, j1, fun vs H2 b2 j2 r2 => q (v :: vs) H2 (b1.trans b2) j2 (.cons (st_rd _ _ _ _ a1 b2) r2)⟩⟩
    · cases h
end
theorem sz_of {c k : Nat} {d : PyData} (h : (d.showable && decide (d.shown.length ≤ c) && decide (d.depth ≤ k)) = true) : Sz c k d := by
  simp only [Bool.and_eq_true, decide_eq_true_eq] at h
  exact ⟨h.1.1, h.1.2, h.2⟩
end
theorem at_memV {xs : List V} {v : Int} (h0 : 0 ≤ v) (h1 : v < xs.length) : ∃ x ∈ xs, atI xs v = some x := by
  obtain ⟨k, rfl⟩ : ∃ k : Nat, v = k := ⟨v.toNat, by omega⟩
  have hk : k < xs.length := by omega
  exact ⟨xs[k], List.getElem_mem hk, atI_nat (by simp [hk])⟩
mutual
theorem rds_avoid {S : List Addr} {H : Hp} {a : Addr} (ha : H a = none) : ∀ {x : V} {d : PyData}, RdS S H x d → RdS (a :: S) H x d
  | _, _, .non => .non
  | _, _, .bl b => .bl b
  | _, _, .int i => .int i
  | _, _, .str x => .str x
  | _, _, .lst e n r => .lst e (by simp only [List.mem_cons, not_or]; exact ⟨ne_of_none e ha, n⟩) (rdss_avoid ha r)
  | _, _, .tup e n r => .tup e (by simp only [List.mem_cons, not_or]; exact ⟨ne_of_none e ha, n⟩) (rdss_avoid ha r)
  | _, _, .dct e n => .dct e (by simp only [List.mem_cons, not_or]; exact ⟨ne_of_none e ha, n⟩)
theorem rdss_avoid {S : List Addr} {H : Hp} {a : Addr} (ha : H a = none) : ∀ {xs : List V} {ds : List PyData}, RdSs S H xs ds → RdSs (a :: S) H xs ds
  | _, _, .nil => .nil
  | _, _, .cons h t => .cons (rds_avoid ha h) (rdss_avoid ha t)
end
open PySem L2 PyProof.Rows
abbrev tD (φ : PyData → Prop) : TyB := fun B v H => ∃ d, RdS B.S H v d ∧ φ d
theorem st_d {φ : PyData → Prop} : Stb (tD φ) := fun B v H H' ⟨d, r, s⟩ b => ⟨d, r.move (fun c o n e => b c o n e) fun _ n => n, s⟩
theorem rdss_but {S : List Addr} {H H' : Hp} {xs : List V} {ds : List PyData} (r : RdSs S H xs ds) (b : ButS S H H') : RdSs S H' xs ds := r.move (fun c o n e => b c o n e) fun _ n => n
structure AX (X : Cx) (Γ : EnB) (es : List Expr) (ψ : List PyData → Prop) : Prop where
  pa : PA X es fun σ H Q => ∃ B : Ab, Γ B σ H ∧ B.J H ∧ ∀ vs ds H', ButS B.S H H' → B.J H' → RdSs B.S H' vs ds → ψ ds → Q vs H'
abbrev AU (X : Cx) (Γ : EnB) (es : List Expr) (n : Nat) (φ : PyData → Prop) : Prop := AX X Γ es fun ds => ds.length = n ∧ ∀ e ∈ ds, φ e
section
variable {X : Cx} {Γ : EnB} {e e1 e2 : Expr} {es : List Expr} {φ φ' : PyData → Prop} {ψ : List PyData → Prop} {pos : Pos} {n : Nat}
theorem ad_imp (h : AE X Γ e (tD φ)) (i : ∀ d, φ d → φ' d) : AE X Γ e (tD φ') := ae_sub h fun _ _ _ ⟨d, r, q⟩ => ⟨d, r, i d q⟩
theorem ax_imp {ψ' : List PyData → Prop} (h : AX X Γ es ψ) (i : ∀ d, ψ d → ψ' d) : AX X Γ es ψ' := ⟨pa_imp h.pa fun _ _ _ ⟨B, g, j, q⟩ => ⟨B, g, j, fun vs ds H' b j' r z => q vs ds H' b j' r (i ds z)⟩⟩
theorem ax_nil : AX X Γ [] (· = []) := ⟨pa_imp pa_nil fun σ H Q ⟨B, hg, j, q⟩ => q [] [] H (ButS.refl _ _) j .nil rfl⟩
theorem ax_cons (sg : StbE Γ) (h : AE X Γ e (tD φ)) (hr : AX X Γ es ψ) (hs : starEach (e :: es) X.env = (false, eval e X.env) :: starEach es X.env := by rfl) : AX X Γ (e :: es) (fun ds => ∃ d r, ds = d :: r ∧ φ d ∧ ψ r) :=
  ⟨pa_imp (pa_cons h.pe hr.pa hs) fun σ H Q ⟨B, hg, j, q⟩ => ⟨B, hg, j, fun v H1 b1 j1 a1 => ⟨B, sg _ _ _ _ hg b1, j1, fun vs ds H2 b2 j2 r2 z2 => by
    obtain ⟨d, r, p⟩ := st_d _ _ _ _ a1 b2
    exact q (v :: vs) (d :: ds) H2 (b1.trans b2) j2 (.cons r r2) ⟨d, ds, rfl, p, z2⟩⟩⟩⟩
theorem au_nil : AU X Γ [] 0 φ := ax_imp ax_nil fun d e => by subst e; exact ⟨rfl, fun x h => nomatch h⟩
theorem au_cons (sg : StbE Γ) (h : AE X Γ e (tD φ)) (hr : AU X Γ es n φ) (hs : starEach (e :: es) X.env = (false, eval e X.env) :: starEach es X.env := by rfl) : AU X Γ (e :: es) (n + 1) φ :=
  ax_imp (ax_cons sg h hr hs) fun ds ⟨d, r, e, p, l, f⟩ => by
    subst e
    refine ⟨by rw [List.length_cons, l], fun x hx => ?_⟩
    rcases List.mem_cons.mp hx with z | z
    · rw [z]; exact p
    · exact f x z
theorem ad_tup {x1} (h : AX X Γ es ψ) (hn : ∀ ds, ψ ds → ds.length ≤ 1000) (hφ : ∀ ds, ψ ds → φ (.tuple ds)) : AE X Γ (.Tuple es x1 pos) (tD φ) :=
  ⟨pe_imp (pe_tup h.pa) fun σ H Q ⟨B, hg, j, q⟩ => ⟨B, hg, j, fun vs ds H1 b1 j1 r1 z1 => ⟨by rw [r1.length]; exact sl6 (hn ds z1), fun p hp =>
    q _ _ (b1.trans (Same.butS (Same.new hp))) (B.same j1 (Same.new hp)) ⟨.tuple ds, .tup upd_same (B.fresh j1 hp) (r1.same (Same.new hp)), hφ ds z1⟩⟩⟩⟩
theorem ad_lst (h : AX X Γ es ψ) (hn : ∀ ds, ψ ds → ds.length ≤ 1000) (hφ : ∀ ds, ψ ds → φ (.list ds)) : AE X Γ (.List es pos) (tD φ) :=
  ⟨pe_imp (pe_lst h.pa) fun σ H Q ⟨B, hg, j, q⟩ => ⟨B, hg, j, fun vs ds H1 b1 j1 r1 z1 => ⟨by rw [r1.length]; exact sl6 (hn ds z1), fun p hp =>
    q _ _ (b1.trans (Same.butS (Same.new hp))) (B.same j1 (Same.new hp)) ⟨.list ds, .lst upd_same (B.fresh j1 hp) (r1.same (Same.new hp)), hφ ds z1⟩⟩⟩⟩
theorem rdss_app {S : List Addr} {H : Hp} : ∀ {xs ys : List V} {ds es : List PyData}, RdSs S H xs ds → RdSs S H ys es → RdSs S H (xs ++ ys) (ds ++ es)
  | _, _, _, _, .nil, h => h
  | _, _, _, _, .cons r t, h => .cons r (rdss_app t h)
theorem ad_cat {φ1 φ2 : PyData → Prop} (sg : StbE Γ) (h1 : AE X Γ e1 (tD φ1)) (h2 : AE X Γ e2 (tD φ2)) (i1 : ∀ d, φ1 d → ∃ ds, d = .list ds ∧ ds.length ≤ 500) (i2 : ∀ d, φ2 d → ∃ ds, d = .list ds ∧ ds.length ≤ 500) (i : ∀ a b, φ1 (.list a) → φ2 (.list b) → φ (.list (a ++ b))) : AE X Γ (.BinOp e1 .Add e2 pos) (tD φ) :=
  ⟨pe_imp (pe_op op_cat h1.pe h2.pe) fun σ H Q ⟨B, hg, j, q⟩ => ⟨B, hg, j, fun v H1 b1 j1 a1 => ⟨B, sg _ _ _ _ hg b1, j1, fun u H2 b2 j2 a2 => by
    obtain ⟨d, r, p⟩ := st_d _ _ _ _ a1 b2
    obtain ⟨d2, r2, p2⟩ := a2
    obtain ⟨ds, rfl, n1⟩ := i1 d p
    obtain ⟨ds2, rfl, n2⟩ := i2 d2 p2
    cases r with
    | @lst a xs _ ea na ra =>
      cases r2 with
      | @lst b ys _ eb nb rb =>
        refine ⟨a, b, xs, ys, rfl, rfl, ea, eb, sl6 (by rw [ra.length, rb.length]; omega), fun p hp => ?_⟩
        exact q _ _ ((b1.trans b2).trans (Same.butS (Same.new hp))) (B.same j2 (Same.new hp)) ⟨.list (ds ++ ds2), .lst upd_same (B.fresh j2 hp) ((rdss_app ra rb).same (Same.new hp)), i _ _ ‹_› ‹_›⟩⟩⟩⟩
theorem ad_lit (d : PyData) (sg : StbE Γ) (h : litOf 40 e = some d) (hz : φ d) : AE X Γ e (tD φ) := ae_sub (lit_ok sg 40 (by decide) h) fun B v H r => ⟨d, r, hz⟩
end
open PySem L2 PyProof.Rows
abbrev tE (d : PyData) : TyB := tD (· = d)
def cutD (xs : List PyData) (lo hi : Option Int) : List PyData := (xs.drop (HT.sIx xs.length 0 lo)).take (HT.sIx xs.length xs.length hi - HT.sIx xs.length 0 lo)
theorem rdss_drop {S : List Addr} {H : Hp} : ∀ {xs : List V} {ds : List PyData} (n : Nat), RdSs S H xs ds → RdSs S H (xs.drop n) (ds.drop n)
  | _, _, 0, h => h
  | _, _, n + 1, .nil => .nil
  | _, _, n + 1, .cons r t => rdss_drop n t
theorem rdss_take {S : List Addr} {H : Hp} : ∀ {xs : List V} {ds : List PyData} (n : Nat), RdSs S H xs ds → RdSs S H (xs.take n) (ds.take n)
  | _, _, 0, h => .nil
  | _, _, n + 1, .nil => .nil
  | _, _, n + 1, .cons r t => .cons r (rdss_take n t)
theorem rdss_cut {S : List Addr} {H : Hp} {xs : List V} {ds : List PyData} (r : RdSs S H xs ds) (lo hi : Option Int) : RdSs S H (cutV xs lo hi) (cutD ds lo hi) := by
  unfold cutV cutD
  rw [r.length]
  exact rdss_take _ (rdss_drop _ r)
theorem rdss_at {S : List Addr} {H : Hp} : ∀ {xs : List V} {ds : List PyData}, RdSs S H xs ds → ∀ {k : Nat} {d : PyData}, ds[k]? = some d → ∃ x, xs[k]? = some x ∧ RdS S H x d
  | _, _, .nil, k, d, h => by simp at h
  | _, _, .cons r t, 0, d, h => by
    simp only [List.getElem?_cons_zero, Option.some.injEq] at h
    subst h
    exact ⟨_, rfl, r⟩
  | _, _, .cons r t, k + 1, d, h => rdss_at t (by simpa using h)
structure AOx (X : Cx) (Γ : EnB) (o : Option Expr) (i : Option Int) : Prop where
  po : PO X o fun σ H Q => ∃ B : Ab, Γ B σ H ∧ B.J H ∧ ∀ H', ButS B.S H H' → B.J H' → Q i H'
section
variable {X : Cx} {Γ : EnB} {e e1 e2 : Expr} {es : List Expr} {φ φ' : PyData → Prop} {pos : Pos} {n : Nat} {d d1 d2 : PyData} {ds es' : List PyData}
theorem ax_none : AOx X Γ none none := ⟨po_imp po_none fun σ H Q ⟨B, hg, j, q⟩ => q H (ButS.refl _ _) j⟩
theorem ax_some {i : Int} (h : AE X Γ e (tE (.int i))) : AOx X Γ (some e) (some i) := ⟨po_imp (po_some h.pe) fun σ H Q ⟨B, hg, j, q⟩ => ⟨B, hg, j, fun v H1 b1 j1 a1 => by
  obtain ⟨_, r, rfl⟩ := a1
  cases r
  exact ⟨i, rfl, q H1 b1 j1⟩⟩⟩
theorem ad_slice {a b : Option Expr} {lo hi : Option Int} {p2 : Pos} (sg : StbE Γ) (h : AE X Γ e (tE (.list ds))) (ha : AOx X Γ a lo) (hb : AOx X Γ b hi) : AE X Γ (.Subscript e (.Slice a b none p2) pos) (tE (.list (cutD ds lo hi))) :=
  ⟨pe_imp (pe_slice sl_list h.pe ha.po hb.po) fun σ H Q ⟨B, hg, j, q⟩ => ⟨B, hg, j, fun v H1 b1 j1 a1 => ⟨B, sg _ _ _ _ hg b1, j1, fun H2 b2 j2 => ⟨B, sg _ _ _ _ hg (b1.trans b2), j2, fun H3 b3 j3 => by
    obtain ⟨_, r, rfl⟩ := st_d _ _ _ _ a1 (b2.trans b3)
    cases r with
    | @lst a xs _ ea na ra =>
      refine ⟨a, xs, rfl, SqL.of ea, fun p hp => ?_⟩
      exact q _ _ ((b1.trans (b2.trans b3)).trans (Same.butS (Same.new hp))) (B.same j3 (Same.new hp)) ⟨_, .lst upd_same (B.fresh j3 hp) ((rdss_cut ra lo hi).same (Same.new hp)), rfl⟩⟩⟩⟩⟩
theorem ad_catE (sg : StbE Γ) (h1 : AE X Γ e1 (tE (.list ds))) (h2 : AE X Γ e2 (tE (.list es'))) (n1 : ds.length ≤ 500) (n2 : es'.length ≤ 500) : AE X Γ (.BinOp e1 .Add e2 pos) (tE (.list (ds ++ es'))) :=
  ad_cat sg h1 h2 (fun d h => ⟨ds, h, n1⟩) (fun d h => ⟨es', h, n2⟩) fun a b ha hb => by
    injection ha with ha
    injection hb with hb
    rw [ha, hb]
theorem ad_ixE {i : Int} {k : Nat} (sg : StbE Γ) (h1 : AE X Γ e1 (tE (.list ds))) (h2 : AE X Γ e2 (tE (.int i))) (pl : PlainIx e2) (hk : ixN ds.length i = some k) (hd : ds[k]? = some d) : AE X Γ (.Subscript e1 e2 pos) (tE d) :=
  ⟨pe_imp (pe_ix ix_list h1.pe h2.pe pl) fun σ H Q ⟨B, hg, j, q⟩ => ⟨B, hg, j, fun v H1 b1 j1 a1 => ⟨B, sg _ _ _ _ hg b1, j1, fun u H2 b2 j2 a2 => by
    obtain ⟨_, r, rfl⟩ := st_d _ _ _ _ a1 b2
    obtain ⟨_, r2, rfl⟩ := a2
    cases r2
    cases r with
    | @lst a xs _ ea na ra =>
      obtain ⟨x, hx, rx⟩ := rdss_at ra hd
      refine ⟨a, xs, i, x, rfl, rfl, SqL.of ea, ?_, q _ _ (b1.trans b2) j2 ⟨_, rx, rfl⟩⟩
      unfold atI
      rw [ra.length, hk]
      exact hx⟩⟩⟩
theorem ad_tupleOf (h : AE X Γ e (tE (.list ds))) {p1 : Pos} (htu : X.mg "tuple" = none) (hg : Gl X "tuple" := by rfl) (he : starEach [e] X.env = (false, eval e X.env) :: starEach [] X.env := by rfl) (hpl : (backTo pos (starEach ([] : List Expr) X.env)).any (·.1) = false := by rfl) : AE X Γ (.Call (.Name "tuple" p1) [e] [] pos) (tE (.tuple ds)) :=
  ⟨pe_imp (pe_t call_tuple_of htu boot_tuple (pa_cons h.pe pa_nil he) hg (by decide) (by decide) he hpl) fun σ H Q ⟨B, hg, j, q⟩ => ⟨B, hg, j, fun v H1 b1 j1 a1 => by
    obtain ⟨_, r, rfl⟩ := a1
    cases r with
    | @lst a xs _ ea na ra => exact ⟨a, xs, rfl, .inl ⟨SqL.of ea, fun l hl => q _ _ (b1.trans (Same.butS (Same.new hl))) (B.same j1 (Same.new hl)) ⟨_, .tup upd_same (B.fresh j1 hl) (ra.same (Same.new hl)), rfl⟩⟩⟩⟩⟩
theorem ad_intE {i : Int} (h : PE X e (tC (.int i))) : AE X Γ e (tE (.int i)) := ae_c h fun _ _ => ⟨_, .int i, rfl⟩
theorem ad_addE {i k : Int} (sg : StbE Γ) (h1 : AE X Γ e1 (tE (.int i))) (h2 : AE X Γ e2 (tE (.int k))) : AE X Γ (.BinOp e1 .Add e2 pos) (tE (.int (i + k))) :=
  ⟨pe_imp (pe_op o_add h1.pe h2.pe) fun σ H Q ⟨B, hg, j, q⟩ => ⟨B, hg, j, fun v H1 b1 j1 a1 => ⟨B, sg _ _ _ _ hg b1, j1, fun u H2 b2 j2 a2 => by
    obtain ⟨_, r1, rfl⟩ := a1
    obtain ⟨_, r2, rfl⟩ := a2
    cases r1
    cases r2
    exact ⟨i, k, rfl, rfl, q _ _ (b1.trans b2) j2 ⟨_, .int _, rfl⟩⟩⟩⟩⟩
theorem ad_subE {i k : Int} (sg : StbE Γ) (h1 : AE X Γ e1 (tE (.int i))) (h2 : AE X Γ e2 (tE (.int k))) : AE X Γ (.BinOp e1 .Sub e2 pos) (tE (.int (i - k))) :=
  ⟨pe_imp (pe_op o_sub h1.pe h2.pe) fun σ H Q ⟨B, hg, j, q⟩ => ⟨B, hg, j, fun v H1 b1 j1 a1 => ⟨B, sg _ _ _ _ hg b1, j1, fun u H2 b2 j2 a2 => by
    obtain ⟨_, r1, rfl⟩ := a1
    obtain ⟨_, r2, rfl⟩ := a2
    cases r1
    cases r2
    exact ⟨i, k, rfl, rfl, q _ _ (b1.trans b2) j2 ⟨_, .int _, rfl⟩⟩⟩⟩⟩
theorem ad_negE {i : Int} (h : AE X Γ e (tE (.int i))) : AE X Γ (.UnaryOp .USub e pos) (tE (.int (-i))) := ⟨pe_imp (pe_un o_neg h.pe) fun σ H Q ⟨B, hg, j, q⟩ => ⟨B, hg, j, fun v H1 b1 j1 a1 => by
  obtain ⟨_, r1, rfl⟩ := a1
  cases r1
  exact ⟨i, rfl, q _ _ b1 j1 ⟨_, .int _, rfl⟩⟩⟩⟩
end
def Vr (B : Ab) (σ : L2.St) (H : Hp) (i : Nat) (d : PyData) : Prop := ∃ v, σ[i]? = some (some v) ∧ RdS B.S H v d
theorem Vr.but {B : Ab} {σ : L2.St} {H H' : Hp} {i : Nat} {d : PyData} (h : Vr B σ H i d) (b : ButS B.S H H') : Vr B σ H' i d := let ⟨v, e, r⟩ := h; ⟨v, e, r.move (fun c o n e => b c o n e) fun _ n => n⟩
theorem ad_vr {X : Cx} {Γ : EnB} {e : Expr} {i : Nat} {d : PyData} (h : PE X e (tVar i)) (g : ∀ B σ H, Γ B σ H → Vr B σ H i d) : AE X Γ e (tE d) := ae_var h fun B σ H q => let ⟨v, ev, r⟩ := g B σ H q; ⟨v, ev, d, r, rfl⟩
open PySem L2 PyProof.Rows
section
variable {X : Cx} {Γ : EnB} {e : Expr} {es : List Expr} {pos : Pos} {d : PyData} {ds : List PyData} {i : Nat}
theorem ax_consE (sg : StbE Γ) (h : AE X Γ e (tE d)) (hr : AX X Γ es (· = ds)) (hs : starEach (e :: es) X.env = (false, eval e X.env) :: starEach es X.env := by rfl) : AX X Γ (e :: es) (· = d :: ds) := ax_imp (ax_cons sg h hr hs) fun z ⟨a, b, e1, e2, e3⟩ => by rw [e1, e2, e3]
theorem ad_lstE (h : AX X Γ es (· = ds)) (hn : ds.length ≤ 1000) : AE X Γ (.List es pos) (tE (.list ds)) := ad_lst h (fun z e => by rw [e]; exact hn) fun z e => by rw [e]
theorem ad_tupE {x1} (h : AX X Γ es (· = ds)) (hn : ds.length ≤ 1000) : AE X Γ (.Tuple es x1 pos) (tE (.tuple ds)) := ad_tup h (fun z e => by rw [e]; exact hn) fun z e => by rw [e]
theorem ad_litE (sg : StbE Γ) (h : litOf 40 e = some d) : AE X Γ e (tE d) := ad_lit d sg h rfl
end
theorem cutD_to {ds : List PyData} {p : Nat} (h : p ≤ ds.length) : cutD ds none (some (p : Int)) = ds.take p := by
  unfold cutD
  rw [HT.sIx_none, HT.sIx_nat, List.drop_zero, Nat.sub_zero, Nat.min_eq_left h]
theorem cutD_from {ds : List PyData} {p : Nat} : cutD ds (some (p : Int)) none = ds.drop p := by
  unfold cutD
  rw [HT.sIx_none, HT.sIx_nat]
  by_cases h : p ≤ ds.length
  · rw [Nat.min_eq_left h, List.take_of_length_le (by rw [List.length_drop]; omega)]
  · rw [Nat.min_eq_right (by omega), List.drop_of_length_le (Nat.le_refl _), List.drop_of_length_le (by omega)]
    simp
def setD (h : List Int) (p : Nat) (d : PyData) : PyData := .list (((h.map PyData.int).take p ++ [d]) ++ (h.map PyData.int).drop (p + 1))
theorem setD_int {h : List Int} {p : Nat} {v : Int} (hp : p < h.length) : setD h p (.int v) = dRow (h.set p v) := by
  unfold setD dRow
  rw [List.set_eq_take_append_cons_drop, if_pos hp]
  simp
theorem setD_odd {h : List Int} {p : Nat} {d : PyData} (hd : isIntD d = false) : rowD (setD h p d) = false := by
  unfold setD
  rw [rowD_list]
  have : (((h.map PyData.int).take p ++ [d]) ++ (h.map PyData.int).drop (p + 1)).all isIntD = false := by
    rw [List.all_eq_false]
    exact ⟨d, by simp, by rw [hd]; simp⟩
  rw [this, Bool.and_false]
theorem sz_dRow {h : List Int} (hl : h.length ≤ 8) (hb : ∀ n ∈ h, n.natAbs < 10 ^ 40) : Sz 400 1 (dRow h) := by
  refine (sz_list (c := 41) (k := 0) (n := 8) (fun e he => ?_) (by rw [List.length_map]; exact hl)).mono (by decide) (by decide)
  obtain ⟨n, hn, rfl⟩ := List.mem_map.mp he
  exact sz_int (hb n hn)
theorem sz_setD {h : List Int} {p : Nat} {d : PyData} (hl : h.length ≤ 6) (hb : ∀ n ∈ h, n.natAbs < 10 ^ 40) (hd : Sz 41 1 d) : Sz 400 2 (setD h p d) := by
  refine (sz_list (c := 41) (k := 1) (n := 8) (fun e he => ?_) ?_).mono (by decide) (by decide)
  · simp only [List.mem_append, List.mem_singleton] at he
    have : ∀ e ∈ h.map PyData.int, Sz 41 1 e := fun e he => by
      obtain ⟨n, hn, rfl⟩ := List.mem_map.mp he
      exact (sz_int (hb n hn)).mono (by decide) (by decide)
    rcases he with (h1 | h1) | h1
    · exact this e (List.mem_of_mem_take h1)
    · rw [h1]; exact hd
    · exact this e (List.mem_of_mem_drop h1)
  · simp only [List.length_append, List.length_take, List.length_drop, List.length_map, List.length_singleton]
    omega
theorem ad_setE {X : Cx} {Γ : EnB} {eN eN' eP eP' eO e1 : Expr} {h : List Int} {p : Nat} {o : PyData} {q1 q2 q3 q4 q6 q7 q8 q9 : Pos} (sg : StbE Γ) (hN : AE X Γ eN (tE (dRow h))) (hP : AE X Γ eP (tE (.int (p : Nat)))) (hO : AE X Γ eO (tE o)) (hN' : AE X Γ eN' (tE (dRow h))) (hP' : AE X Γ eP' (tE (.int (p : Nat)))) (h1 : PE X e1 (tC (.int 1))) (hl : h.length ≤ 6) (hp : p < h.length)
    (hs : starEach [eO] X.env = (false, eval eO X.env) :: starEach [] X.env := by rfl) :
    AE X Γ (.BinOp (.BinOp (.Subscript eN (.Slice none (some eP) none q1) q2) .Add (.List [eO] q3) q4) .Add (.Subscript eN' (.Slice (some (.BinOp eP' .Add e1 q6)) none none q7) q8) q9) (tE (setD h p o)) := by
  have z := ad_catE (pos := q9) sg (ad_catE (pos := q4) sg (ad_slice (pos := q2) (p2 := q1) sg hN ax_none (ax_some hP)) (ad_lstE (pos := q3) (ax_consE sg hO ax_nil hs) (by simp)) (by
    rw [cutD_to (by rw [List.length_map]; omega), List.length_take, List.length_map]; omega) (by simp)) (ad_slice (pos := q8) (p2 := q7) sg hN' (ax_some (ad_addE (pos := q6) sg hP' (ad_intE h1))) ax_none) (by
    rw [cutD_to (by rw [List.length_map]; omega), List.length_append, List.length_take, List.length_map, List.length_singleton]; omega) (by
    rw [show ((p : Nat) : Int) + 1 = ((p + 1 : Nat) : Int) by omega, cutD_from, List.length_drop, List.length_map]; omega)
  rw [cutD_to (by rw [List.length_map]; omega), show ((p : Nat) : Int) + 1 = ((p + 1 : Nat) : Int) by omega, cutD_from] at z
  exact z
open PySem L2 PyProof.Rows
theorem rds_but {S : List Addr} {H H' : Hp} {x : V} {d : PyData} (r : RdS S H x d) (b : ButS S H H') : RdS S H' x d := r.move (fun c o n e => b c o n e) fun _ n => n
open PySem L2 PyProof.Rows
theorem ad_putE {X : Cx} {Γ : EnB} {eN eN' eP eP' eO e1 : Expr} {rows : List (List Int)} {k : Nat} {o : PyData} {q1 q2 q3 q4 q6 q7 q8 q9 : Pos} (sg : StbE Γ) (hN : AE X Γ eN (tE (.list (rows.map dRow)))) (hP : AE X Γ eP (tE (.int (k : Nat)))) (hO : AE X Γ eO (tE o)) (hN' : AE X Γ eN' (tE (.list (rows.map dRow)))) (hP' : AE X Γ eP' (tE (.int (k : Nat)))) (h1 : PE X e1 (tC (.int 1))) (hl : rows.length ≤ 6) (hp : k < rows.length)
    (hs : starEach [eO] X.env = (false, eval eO X.env) :: starEach [] X.env := by rfl) :
    AE X Γ (.BinOp (.BinOp (.Subscript eN (.Slice none (some eP) none q1) q2) .Add (.List [eO] q3) q4) .Add (.Subscript eN' (.Slice (some (.BinOp eP' .Add e1 q6)) none none q7) q8) q9) (tE (putD rows k o)) := by
  have z := ad_catE (pos := q9) sg (ad_catE (pos := q4) sg (ad_slice (pos := q2) (p2 := q1) sg hN ax_none (ax_some hP)) (ad_lstE (pos := q3) (ax_consE sg hO ax_nil hs) (by simp)) (by
    rw [cutD_to (by rw [List.length_map]; omega), List.length_take, List.length_map]; omega) (by simp)) (ad_slice (pos := q8) (p2 := q7) sg hN' (ax_some (ad_addE (pos := q6) sg hP' (ad_intE h1))) ax_none) (by
    rw [cutD_to (by rw [List.length_map]; omega), List.length_append, List.length_take, List.length_map, List.length_singleton]; omega) (by
    rw [show ((k : Nat) : Int) + 1 = ((k + 1 : Nat) : Int) by omega, cutD_from, List.length_drop, List.length_map]; omega)
  rw [cutD_to (by rw [List.length_map]; omega), show ((k : Nat) : Int) + 1 = ((k + 1 : Nat) : Int) by omega, cutD_from] at z
  unfold putD
  rw [List.map_take, List.map_drop]
  exact z
open PySem L2 PyProof.Rows
def abL (a : Addr) (xs : List V) : Ab := ⟨[a], fun H => H a = some (.lst xs), fun h s => s _ _ h, fun h n => by
  simp only [List.mem_singleton]
  rintro rfl
  rw [h] at n
  cases n⟩
def abE : Ab := ⟨[], fun _ => True, fun _ _ => trivial, fun _ _ => by simp⟩
def phB (d : PyData) : Prop := ¬ GoodD d ∧ Sz 5000 6 d
def EnvB (l : List (Nat × PyData)) : EnB := fun B σ H => ∀ x ∈ l, Vr B σ H x.1 x.2
theorem st_envB {l : List (Nat × PyData)} : StbE (EnvB l) := fun _ _ _ _ h b => fun x hx => (h x hx).but b
theorem ad_envB {X : Cx} {l : List (Nat × PyData)} {e : Expr} {d : PyData} {i : Nat} (h : PE X e (tVar i)) (hm : (i, d) ∈ l) : AE X (EnvB l) e (tE d) := ad_vr h fun B σ H q => q _ hm
theorem rds_swap {H : Hp} {a b : Addr} {x : V} {d : PyData} {o : HO} (r : RdS [a] H x d) (hb : H b = none) : RdS [b] (upd H b o) x d :=
  ((rds_avoid hb r).same (Same.new hb)).move (fun _ _ _ e => e) fun c n => by
    simp only [List.mem_cons, List.not_mem_nil, or_false, not_or] at n ⊢
    exact n.1
theorem rds_of {H : Hp} {b : Addr} {x : V} {d : PyData} {o : HO} (r : RdS [] H x d) (hb : H b = none) : RdS [b] (upd H b o) x d := (rds_avoid hb r).same (Same.new hb)
structure BC (H0 : Hp) (t : Addr) (c : Int) (n : Nat) (Ex : Addr → L2.St → Hp → Prop) (σ : L2.St) (H : Hp) : Prop where
  len : σ.length = 9
  s0 : σ[0]? = some (some (.ref t))
  s1 : σ[1]? = some (some (.int c))
  sm : Same H0 H
  L : ∃ (a : Addr) (xs : List V), σ[2]? = some (some (.ref a)) ∧ H a = some (.lst xs) ∧ H0 a = none ∧ 1 ≤ xs.length ∧ xs.length ≤ n ∧ (∀ x ∈ xs, ∃ d, RdS [a] H x d ∧ phB d) ∧ Ex a σ H
abbrev noEx : Addr → L2.St → Hp → Prop := fun _ _ _ => True
def StEx (Ex : Addr → L2.St → Hp → Prop) : Prop := ∀ a σ H H', Ex a σ H → ButS [a] H H' → Ex a σ H'
theorem tab_vr {H0 H : Hp} {t a : Addr} {prs : Prs} (T : Tab H0 t prs) (s : Same H0 H) (ha : H0 a = none) : RdS [a] H (.ref t) (dTab (prs.map (·.2))) := (rds_avoid ha (tab_rds T)).same s
def tTr (N N' : L2.St → Hp → Prop) : TS := fun E σ H => N σ H ∧ ∀ σ' H', N' σ' H' → E.nx σ' H'
theorem ps_sub {X : Cx} {s : Stmt} {t t' : TS} (h : PS X s t) (i : ∀ E σ H, t' E σ H → t E σ H) : PS X s t' := fun pins s' σ H D I q => h pins s' σ H D I (i D σ H q)
theorem get_ne {σ : L2.St} {i k : Nat} {x y : Option V} (h : σ[i]? = some x) (n : k ≠ i) : (σ.set k y)[i]? = some x := by rw [List.getElem?_set_ne n]; exact h
theorem get_eq {σ : L2.St} {i : Nat} {y : Option V} (h : i < σ.length) : (σ.set i y)[i]? = some y := by rw [List.getElem?_set, if_pos rfl, if_pos h]
section
variable {X : Cx} {S : Stmt} {l : List (Nat × PyData)} {n m : Nat} {H0 : Hp} {t : Addr} {c : Int} {Ex : Addr → L2.St → Hp → Prop}
theorem tr_app (Z : PS X S (tDrop (tBM X.K "list" rAppend (tVar 2) (tCons (tA (EnvB l) (tD phB)) tNil)))) (hn : n ≤ 500) (se : StEx Ex) (hl : ∀ a xs σ H, BC H0 t c n Ex σ H → σ[2]? = some (some (.ref a)) → H0 a = none → Ex a σ H → EnvB l (abL a xs) σ H) :
    PS X S (tTr (BC H0 t c n Ex) (BC H0 t c (n + 1) Ex)) := by
  refine ps_sub Z fun E σ H ⟨b, q⟩ => ?_
  obtain ⟨a, xs, e2, ha, h0, l1, l2, hx, hex⟩ := b.L
  refine ⟨_, e2, .inl ⟨rfl, _, SqL.of ha⟩, abL a xs, hl a xs σ H b e2 h0 hex, ha, fun v H' bt j ⟨d, r, hd⟩ => ⟨a, xs, v, rfl, rfl, j, small1000 (by omega), q _ _ ⟨b.len, b.s0, b.s1, fun z o e => ?_, a, xs ++ [v], e2, upd_same, h0, by simp, by simp; omega, fun x hx' => ?_, se a σ H _ hex (bt.trans fun z o n e => ?_)⟩⟩⟩
  · have nz := ne_of_none e h0
    rw [upd_ne nz]
    exact bt _ _ (by simpa [abL] using nz) (b.sm _ _ e)
  · have up : ∀ {x : V} {d : PyData}, RdS [a] H' x d → RdS [a] (upd H' a (.lst (xs ++ [v]))) x d := fun r => r.move (fun z o n e => by rw [upd_ne (by simpa using n)]; exact e) fun _ n => n
    rcases List.mem_append.mp hx' with z | z
    · obtain ⟨d', r', hd'⟩ := hx x z
      exact ⟨d', up (rds_but r' bt), hd'⟩
    · rw [List.mem_singleton.mp z]
      exact ⟨d, up r, hd⟩
  · rw [upd_ne (by simpa [abL] using n)]
    exact e
theorem tr_cat {ψ : List PyData → Prop} (Z : PS X S (tAsg (tOp rCat (tVar 2) (tLst fun σ H Q => ∃ B : Ab, EnvB l B σ H ∧ B.J H ∧ ∀ vs ds H', ButS B.S H H' → B.J H' → RdSs B.S H' vs ds → ψ ds → Q vs H')) (gName 2))) (hψ : ∀ ds, ψ ds → ds.length = m ∧ ∀ d ∈ ds, phB d) (hn : n + m ≤ 500)
    (hl : ∀ a xs σ H, BC H0 t c n noEx σ H → σ[2]? = some (some (.ref a)) → H0 a = none → EnvB l (abL a xs) σ H) :
    PS X S (tTr (BC H0 t c n noEx) (BC H0 t c (n + m) noEx)) := by
  refine ps_sub Z fun E σ H ⟨b, q⟩ => ?_
  obtain ⟨a, xs, e2, ha, h0, l1, l2, hx, hex⟩ := b.L
  refine ⟨_, e2, abL a xs, hl a xs σ H b e2 h0, ha, fun vs ds H1 bt j r hd => ?_⟩
  obtain ⟨hdl, hdp⟩ := hψ ds hd
  have hvl : vs.length = m := by rw [r.length]; exact hdl
  refine ⟨sl6 (by omega), fun p hp => ?_⟩
  have sp := Same.new (o := .lst vs) hp
  have j : H1 a = some (.lst xs) := j
  refine ⟨a, p, xs, vs, rfl, rfl, sp _ _ j, upd_same, sl6 (by omega), fun bb hb => ?_⟩
  have sb := Same.new (o := .lst (xs ++ vs)) hb
  have b01 : Same H0 H1 := fun z o e => bt _ _ (by simpa [abL] using ne_of_none e h0) (b.sm _ _ e)
  have s02 := b01.trans sp
  have e9 := b.len
  refine q _ _ ⟨by rw [List.length_set]; exact e9, get_ne b.s0 (by decide), get_ne b.s1 (by decide), s02.trans sb, bb, xs ++ vs, get_eq (by omega), upd_same, s02.free hb, by rw [List.length_append]; omega, by rw [List.length_append]; omega, fun x hx' => ?_, trivial⟩
  rcases List.mem_append.mp hx' with z | z
  · obtain ⟨d', r', hd'⟩ := hx x z
    exact ⟨d', rds_swap ((rds_but r' bt).same sp) hb, hd'⟩
  · obtain ⟨ms, e1, e3, hm⟩ := r.pairs
    subst e1 e3
    obtain ⟨mm, hm1, hm2⟩ := List.mem_map.mp z
    subst hm2
    exact ⟨mm.2, rds_swap ((hm mm hm1).same sp) hb, hdp _ (List.mem_map.mpr ⟨mm, hm1, rfl⟩)⟩
theorem tr_new {ψ : List PyData → Prop} (Z : PS X S (tAsg (tLst fun σ H Q => ∃ B : Ab, EnvB l B σ H ∧ B.J H ∧ ∀ vs ds H', ButS B.S H H' → B.J H' → RdSs B.S H' vs ds → ψ ds → Q vs H') (gName 2))) (hψ : ∀ ds, ψ ds → ds.length = m ∧ ∀ d ∈ ds, phB d) (hm : 1 ≤ m ∧ m ≤ 500)
    {σ : L2.St} (e9 : σ.length = 9) (s0 : σ[0]? = some (some (.ref t))) (s1 : σ[1]? = some (some (.int c))) (hl : EnvB l abE σ H0) : PS X S (fun E σ' H => σ' = σ ∧ H = H0 ∧ ∀ σ' H', BC H0 t c m noEx σ' H' → E.nx σ' H') := by
  refine ps_sub Z fun E σ' H ⟨es, eH, q⟩ => ?_
  subst es eH
  refine ⟨abE, hl, trivial, fun vs ds H1 bt j r hd => ?_⟩
  obtain ⟨hdl, hdp⟩ := hψ ds hd
  have hvl : vs.length = m := by rw [r.length]; exact hdl
  have s01 : Same H H1 := fun z o e => bt _ _ (by simp [abE]) e
  refine ⟨sl6 (by omega), fun bb hb => q _ _ ⟨by rw [List.length_set]; exact e9, get_ne s0 (by decide), get_ne s1 (by decide), s01.trans (Same.new hb), bb, vs, get_eq (by omega), upd_same, s01.free hb, by omega, by omega, fun x hx' => ?_, trivial⟩⟩
  obtain ⟨ms, e1, e3, hm'⟩ := r.pairs
  subst e1 e3
  obtain ⟨mm, hm1, hm2⟩ := List.mem_map.mp hx'
  subst hm2
  exact ⟨mm.2, rds_of (hm' mm hm1) hb, hdp _ (List.mem_map.mpr ⟨mm, hm1, rfl⟩)⟩
end
open PySem L2 PyProof.Rows
abbrev bdN : List Str := ["table", "cell", "some", "r", "c", "thing", "row", "low", "left"]
theorem sc_bad : FnScope bdN ["table", "cell"] (defScope dBad) := ⟨rfl, rfl, rfl, by decide +kernel, rfl, by decide +kernel, by decide +kernel⟩
abbrev bdX (P : Program) (w : World) (K : PySem.W.Frag) (mg : Str → Option Value) (base : Heap) (f : Addr) (cdv : Value) (A : Around) (outer : List Env) (s : Shared) (H : Hp) (E : XK) : Cx := (cxOf CX0 P w K mg base bdN "_law_bad" (defScope dBad) f cdv A outer s H E).nox
def bdS (k : Nat) : Stmt := (defBody dBad).getD k (.Pass ⟨0, 0, 0, 0⟩)
def BdR (rows : List (List Int)) : Prop := ∀ r ∈ rows, ∀ n ∈ r, n.natAbs < 10 ^ 40
def okZ (c k : Nat) (d : PyData) : Bool := d.showable && decide (d.shown.length ≤ c) && decide (d.depth ≤ k)
theorem sz_tabl {ds : List PyData} (h : ∀ d ∈ ds, Sz 500 3 d) (hn : ds.length ≤ 8) : Sz 5000 6 (.list ds) := (sz_list (n := 8) h hn).mono (by decide) (by decide)
theorem sz_rowI {r : List Int} (hl : r.length ≤ 8) (hb : ∀ n ∈ r, n.natAbs < 10 ^ 40) : Sz 500 3 (dRow r) := (sz_dRow hl hb).mono (by decide) (by decide)
theorem pb_kind {d : PyData} (h : ∀ ds, d ≠ .list ds) (hz : okZ 5000 6 d = true) : phB d := ⟨bad_kind h, sz_of hz⟩
theorem pb_any {ds : List PyData} {d : PyData} (hd : d ∈ ds) (h : rowD d = false) (hz : okZ 5000 6 (.list ds) = true) : phB (.list ds) := ⟨bad_any hd h, sz_of hz⟩
section
variable {W : Nat} {rows : List (List Int)}
theorem GoodR.rowsz (g : GoodR W rows) (hb : BdR rows) : ∀ d ∈ rows.map dRow, Sz 500 3 d := fun d hd => by
  obtain ⟨r, hr, rfl⟩ := List.mem_map.mp hd
  obtain ⟨i, hi, e⟩ := List.getElem_of_mem hr
  have hl := g.len i hi
  rw [List.getD_eq_getElem?_getD, List.getElem?_eq_getElem hi, Option.getD_some, e] at hl
  exact sz_rowI (by have := g.w.2; omega) (hb r hr)
theorem GoodR.at (g : GoodR W rows) {i : Nat} (hi : i < rows.length) : (rows.map dRow)[i]? = some (dRow (rows.getD i [])) := by
  rw [List.getElem?_map, List.getElem?_eq_getElem hi, List.getD_eq_getElem?_getD, List.getElem?_eq_getElem hi]
  rfl
theorem GoodR.mem (g : GoodR W rows) {i : Nat} (hi : i < rows.length) : rows.getD i [] ∈ rows := by
  rw [List.getD_eq_getElem?_getD, List.getElem?_eq_getElem hi]
  exact List.getElem_mem hi
theorem pb_row (g : GoodR W rows) (hb : BdR rows) : phB (dRow (rows.getD 0 [])) := by
  have h0 := g.len 0 g.n.1
  have hw := g.w
  refine ⟨?_, (sz_rowI (by omega) (hb _ (g.mem g.n.1))).mono (by decide) (by decide)⟩
  cases e : rows.getD 0 [] with
  | nil => rw [e] at h0; simp at h0; omega
  | cons n r => exact bad_any (d := .int n) (by simp) rfl
theorem pb_tup (g : GoodR W rows) (hb : BdR rows) : phB (.tuple [dRow (rows.getD 0 [])]) := by
  have h0 := g.len 0 g.n.1
  have hw := g.w
  refine ⟨bad_kind (fun ds z => nomatch z), (sz_tuple (c := 500) (k := 3) (n := 1) (fun d hd => ?_) (by simp)).mono (by decide) (by decide)⟩
  rw [List.mem_singleton.mp hd]
  exact sz_rowI (by omega) (hb _ (g.mem g.n.1))
theorem pb_seven (g : GoodR W rows) (hb : BdR rows) {ds : List PyData} (h : ∀ d ∈ ds, d ∈ rows.map dRow) (hl : ds.length = 7) : phB (.list ds) :=
  ⟨bad_count (.inr (by omega)), sz_tabl (fun d hd => g.rowsz hb d (h d hd)) (by omega)⟩
theorem pb_behind (g : GoodR W rows) (hb : BdR rows) {d : PyData} (hd : rowD d = false) (hz : Sz 500 3 d) : phB (.list (rows.map dRow ++ [d])) := by
  refine ⟨bad_any (d := d) (by simp) hd, sz_tabl (fun e he => ?_) (by have := g.n.2; simp; omega)⟩
  rcases List.mem_append.mp he with z | z
  · exact g.rowsz hb e z
  · rw [List.mem_singleton.mp z]; exact hz
theorem pb_longer (g : GoodR W rows) (hb : BdR rows) {r : List Int} (hl : r.length = W + 1) (hr : ∀ n ∈ r, n.natAbs < 10 ^ 40) : phB (.list (rows.map dRow ++ [dRow r])) := by
  have e : PyData.list (rows.map dRow ++ [dRow r]) = dTab (rows ++ [r]) := by
    unfold dTab
    rw [List.map_append]
    rfl
  have h0 := g.len 0 g.n.1
  have hn := g.n
  refine ⟨?_, sz_tabl (fun e he => ?_) (by simp; omega)⟩
  · rw [e]
    refine bad_lens (i := 0) (k := rows.length) (by simp) (by simp) ?_
    rw [List.getD_eq_getElem?_getD, List.getElem?_append_left (by omega), ← List.getD_eq_getElem?_getD, h0, List.getD_eq_getElem?_getD, List.getElem?_append_right (Nat.le_refl _), Nat.sub_self]
    show W ≠ r.length
    omega
  · rcases List.mem_append.mp he with z | z
    · exact g.rowsz hb e z
    · rw [List.mem_singleton.mp z]; exact sz_rowI (by have := g.w.2; omega) hr
theorem pb_nest (g : GoodR W rows) (hb : BdR rows) : phB (.list [dTab rows]) := by
  have hn := g.n
  refine ⟨bad_any (d := dTab rows) (by simp) ?_, ?_⟩
  · show rowD (.list (rows.map dRow)) = false
    rw [rowD_list]
    cases rows with
    | nil => simp at hn
    | cons r rs => simp [isIntD, dRow]
  · have h1 : Sz 4100 4 (dTab rows) := (sz_list (n := 8) (g.rowsz hb) (by rw [List.length_map]; omega)).mono (by decide) (by decide)
    exact (sz_list (n := 1) (fun d hd => by rw [List.mem_singleton.mp hd]; exact h1) (by simp)).mono (by decide) (by decide)
theorem sz_put (g : GoodR W rows) (hb : BdR rows) {r : Nat} {d : PyData} (hr : r < rows.length) (hz : Sz 500 3 d) : Sz 5000 6 (putD rows r d) := by
  refine sz_tabl (fun e he => ?_) ?_
  · simp only [List.mem_append, List.mem_singleton] at he
    rcases he with (z | z) | z
    · rw [List.map_take] at z
      exact g.rowsz hb e (List.mem_of_mem_take z)
    · rw [z]; exact hz
    · rw [List.map_drop] at z
      exact g.rowsz hb e (List.mem_of_mem_drop z)
  · have := g.n.2
    simp only [List.length_append, List.length_map, List.length_take, List.length_drop, List.length_singleton]
    omega
end
open PySem L2 PyProof.Rows
theorem rdss_rep {S : List Addr} {H : Hp} {xs : List V} {ds : List PyData} (r : RdSs S H xs ds) : ∀ k : Nat, RdSs S H (List.replicate k xs).flatten (List.replicate k ds).flatten
  | 0 => .nil
  | k + 1 => by
    rw [List.replicate_succ, List.replicate_succ, List.flatten_cons, List.flatten_cons]
    exact rdss_app r (rdss_rep r k)
section
variable {X : Cx} {Γ : EnB} {e1 e2 : Expr} {pos : Pos} {ds : List PyData}
theorem ad_repX {k : Int} (sg : StbE Γ) (h1 : AE X Γ e1 (tE (.list ds))) (h2 : AE X Γ e2 (tE (.int k))) (h0 : 0 ≤ k) (hk : k ≤ 30) (hd : ds.length ≤ 30) : AE X Γ (.BinOp e1 .Mult e2 pos) (tE (.list (List.replicate k.toNat ds).flatten)) :=
  ⟨pe_imp (pe_op op_rep h1.pe h2.pe) fun σ H Q ⟨B, hg, j, q⟩ => ⟨B, hg, j, fun v H1 b1 j1 a1 => ⟨B, sg _ _ _ _ hg b1, j1, fun v2 H2 b2 j2 a2 => by
    obtain ⟨_, r, rfl⟩ := a1
    obtain ⟨_, r2, rfl⟩ := a2
    cases r2
    cases r with
    | @lst a xs _ ea na ra =>
      have ea2 := b2 _ _ na ea
      have ra2 := rdss_but ra b2
      have hl := ra.length
      refine ⟨a, k, xs, rfl, rfl, ea2, by omega, by omega, sl6 ?_, fun p hp => q _ _ ((b1.trans b2).trans (Same.butS (Same.new hp))) (B.same j2 (Same.new hp)) ⟨_, .lst upd_same (B.fresh j2 hp) ((rdss_rep ra2 _).same (Same.new hp)), rfl⟩⟩
      have h1 : xs.length ≤ 30 := by omega
      have h2 : k.toNat ≤ 30 := by omega
      exact Nat.le_trans (Nat.mul_le_mul h1 h2) (by decide)⟩⟩⟩
theorem ad_pow25 {j1 j2 : Nat} {p1 p2 : Pos} : AE X Γ (.BinOp (.Constant (.int 10) j1 p1) .Pow (.Constant (.int 25) j2 p2) pos) (tE (.int ((10 : Int) ^ (25 : Int).toNat))) :=
  ⟨pe_imp (pe_op o_pow pe_int pe_int) fun σ H Q ⟨B, hg, j, q⟩ => ⟨10, 25, rfl, rfl, ⟨by decide, by decide, by decide⟩, q _ H (ButS.refl _ _) j ⟨_, .int _, rfl⟩⟩⟩
end
theorem ixN_last {n : Nat} (h : 1 ≤ n) : ixN n (-1) = some (n - 1) := by
  unfold ixN
  rw [if_neg (by decide), if_pos (by omega)]
  congr 1
  omega
section
variable {P : Program} {w : World} {K : PySem.W.Frag} {mg : Str → Option Value} {base : Heap} {f : Addr} {cdv : Value} {A : Around} {outer : List Env} {s : Shared} {Hs H0 : Hp} {E : XK} {t : Addr} {c : Int} {W : Nat} {rows : List (List Int)}
abbrev lT (rows : List (List Int)) : List (Nat × PyData) := [(0, dTab rows)]
theorem bd0 (g : GoodR W rows) (hb : BdR rows) : PS (bdX P w K mg base f cdv A outer s Hs E) (bdS 0) (tAsg (tLst fun σ H Q => ∃ B : Ab, EnvB (lT rows) B σ H ∧ B.J H ∧ ∀ vs ds H', ButS B.S H H' → B.J H' → RdSs B.S H' vs ds → (ds.length = 7 ∧ ∀ d ∈ ds, phB d) → Q vs H') (gName 2)) := by
  have nd := sc_bad.nd
  have row0 : ∀ {p1 p2 p3 : Pos} {j : Nat}, AE (bdX P w K mg base f cdv A outer s Hs E) (EnvB (lT rows)) (.Subscript (.Name "table" p1) (.Constant (.int 0) j p2) p3) (tE (dRow (rows.getD 0 []))) := ad_ixE st_envB (ad_envB (pv 0) (.head _)) (ad_intE pe_int) (fun _ _ => rfl) (k := 0) (by rw [List.length_map]; unfold ixN; rw [if_pos (by decide), if_pos (by have := g.n; omega)]; rfl) (g.at g.n.1)
  exact ps_set (i := 2) nd rfl (Or.inl rfl) (pe_lst (AX.pa (au_cons st_envB (ad_lit .none st_envB (by kernel_rfl) (pb_kind (fun _ z => nomatch z) (by decide +kernel)))
    (au_cons st_envB (ad_lit (.list []) st_envB (by kernel_rfl) ⟨bad_count (.inl rfl), sz_of (by decide +kernel)⟩)
    (au_cons st_envB (ad_imp (ad_tupE (ax_consE st_envB row0 ax_nil) (by simp)) fun d e => by rw [e]; exact pb_tup g hb)
    (au_cons st_envB (ad_imp row0 fun d e => by rw [e]; exact pb_row g hb)
    (au_cons st_envB (ad_lit (.str "1") st_envB (by kernel_rfl) (pb_kind (fun _ z => nomatch z) (by decide +kernel)))
    (au_cons st_envB (ad_lit (.int 5) st_envB (by kernel_rfl) (pb_kind (fun _ z => nomatch z) (by decide +kernel)))
    (au_cons st_envB (ad_lit (.dict []) st_envB (by kernel_rfl) (pb_kind (fun _ z => nomatch z) (by decide +kernel))) au_nil)))))))))
end
open PySem L2 PyProof.Rows
section
variable {P : Program} {w : World} {K : PySem.W.Frag} {mg : Str → Option Value} {base : Heap} {f : Addr} {cdv : Value} {A : Around} {outer : List Env} {s : Shared} {Hs H0 : Hp} {E : XK} {t : Addr} {c : Int} {W : Nat} {rows : List (List Int)} {prs : Prs} {n : Nat}
theorem env_T (T0 : Tab H0 t prs) (hp : prs.map (·.2) = rows) {Ex : Addr → L2.St → Hp → Prop} : ∀ a xs σ H, BC H0 t c n Ex σ H → σ[2]? = some (some (.ref a)) → H0 a = none → EnvB (lT rows) (abL a xs) σ H := fun a xs σ H b _ h0 x hx => by
  rw [List.mem_singleton.mp hx]
  subst hp
  exact ⟨_, b.s0, tab_vr T0 b.sm h0⟩
theorem bd1 (g : GoodR W rows) (hb : BdR rows) (T0 : Tab H0 t prs) (hp : prs.map (·.2) = rows) : PS (bdX P w K mg base f cdv A outer s Hs E) (bdS 1) (tTr (BC H0 t c 7 noEx) (BC H0 t c 13 noEx)) := by
  have nd := sc_bad.nd
  have hn := g.n
  have Z : PS (bdX P w K mg base f cdv A outer s Hs E) (bdS 1) _ := ps_set (i := 2) nd rfl (Or.inl rfl) (pe_op op_cat (pv 2) (pe_lst (AX.pa (Γ := EnvB (lT rows)) (au_cons (φ := phB) st_envB (ad_lit (.bool true) st_envB (by kernel_rfl) (pb_kind (fun _ z => nomatch z) (by decide +kernel)))
    (au_cons st_envB (ad_lit (.list [.list []]) st_envB (by kernel_rfl) (pb_any (d := .list []) (by simp) rfl (by decide +kernel)))
    (au_cons st_envB (ad_lit (.list [.list [.int 1], .list []]) st_envB (by kernel_rfl) (pb_any (d := .list []) (by simp) rfl (by decide +kernel)))
    (au_cons st_envB (ad_lit (.list [.list [], .list [.int 1]]) st_envB (by kernel_rfl) (pb_any (d := .list []) (by simp) rfl (by decide +kernel)))
    (au_cons st_envB (ad_imp (ad_slice st_envB (ad_repX (ds := rows.map dRow) (k := 7) st_envB (ad_envB (pv 0) (.head _)) (ad_intE pe_int) (by decide) (by decide) (by rw [List.length_map]; omega)) ax_none (ax_some (ad_intE pe_int))) fun d e => by
      have hl : 7 ≤ (List.replicate (7 : Int).toNat (rows.map dRow)).flatten.length := by
        rw [len_rep, List.length_map]
        show 7 ≤ 7 * rows.length
        omega
      rw [e, show (7 : Int) = ((7 : Nat) : Int) from rfl, cutD_to (by exact hl)]
      refine pb_seven g hb (fun d hd => ?_) (by rw [List.length_take]; exact Nat.min_eq_left hl)
      have h1 := List.mem_of_mem_take hd
      obtain ⟨l, hl1, hl2⟩ := List.mem_flatten.mp h1
      rw [(List.mem_replicate.mp hl1).2] at hl2
      exact hl2)
    (au_cons st_envB (ad_imp (ad_lstE (ax_consE st_envB (ad_repX (ds := [.int 1]) (k := 7) st_envB (ad_litE st_envB (by kernel_rfl)) (ad_intE pe_int) (by decide) (by decide) (by decide)) ax_nil) (by simp)) fun d e => by
      rw [e]
      exact pb_any (d := .list (List.replicate (7 : Int).toNat [PyData.int 1]).flatten) (by simp) (by decide +kernel) (by decide +kernel)) au_nil)))))))))
  generalize bdS 1 = S0 at Z ⊢
  exact tr_cat (m := 6) Z (fun ds h => h) (by decide) (env_T T0 hp)
theorem bd2 (g : GoodR W rows) (hb : BdR rows) (T0 : Tab H0 t prs) (hp : prs.map (·.2) = rows) : PS (bdX P w K mg base f cdv A outer s Hs E) (bdS 2) (tTr (BC H0 t c 13 noEx) (BC H0 t c 14 noEx)) := by
  have nd := sc_bad.nd
  have hn := g.n
  have hw := g.w
  have hl := g.len (rows.length - 1) (by omega)
  have Z : PS (bdX P w K mg base f cdv A outer s Hs E) (bdS 2) _ := ps_expr (pe_bm PySem.F.plainAttrs_list PySem.F.slot_list_append PySem.F.type_list_append mt_append (pv 2) (pa_cons (AE.pe (ad_imp (φ' := phB) (ad_catE (ds := rows.map dRow) (Γ := EnvB (lT rows)) st_envB (ad_envB (pv 0) (.head _)) (ad_lstE (ax_consE st_envB (ad_catE (ds := (rows.getD (rows.length - 1) []).map PyData.int) st_envB (ad_ixE (ds := rows.map dRow) (k := rows.length - 1) st_envB (ad_envB (pv 0) (.head _)) (ad_negE (ad_intE pe_int)) (fun _ _ => rfl) (by rw [List.length_map]; exact ixN_last hn.1) (g.at (by omega))) (ad_lstE (ax_consE st_envB ad_pow25 ax_nil) (by simp)) (by rw [List.length_map]; omega) (by simp)) ax_nil) (by simp)) (by rw [List.length_map]; omega) (by simp)) fun d e => by
      rw [e]
      have := pb_longer g hb (r := rows.getD (rows.length - 1) [] ++ [(10 : Int) ^ (25 : Int).toNat]) (by rw [List.length_append, hl]; rfl) (fun n hn' => by
        rcases List.mem_append.mp hn' with z | z
        · exact hb _ (g.mem (by omega)) n z
        · rw [List.mem_singleton.mp z]; decide)
      unfold dRow at this ⊢
      rw [List.map_append] at this
      exact this)) pa_nil))
  generalize bdS 2 = S0 at Z ⊢
  exact tr_app Z (by decide) (fun _ _ _ _ h _ => h) (fun a xs σ H b e h0 _ => env_T T0 hp a xs σ H b e h0)
theorem bd4 : PS (bdX P w K mg base f cdv A outer s Hs E) (bdS 4) (tTr (BC H0 t c 15 noEx) (BC H0 t c 16 noEx)) := by
  have nd := sc_bad.nd
  have Z : PS (bdX P w K mg base f cdv A outer s Hs E) (bdS 4) _ := ps_expr (pe_bm PySem.F.plainAttrs_list PySem.F.slot_list_append PySem.F.type_list_append mt_append (pv 2) (pa_cons (AE.pe (ad_lit (φ := phB) (Γ := EnvB []) (.list [.list [.int 1, .int 2], .list [.int 3], .list [.int 4, .int 5, .int 6]]) st_envB (by kernel_rfl) ⟨bad_lens (rows := [[1, 2], [3], [4, 5, 6]]) (i := 0) (k := 1) (by decide) (by decide) (by decide), sz_of (by decide +kernel)⟩)) pa_nil))
  generalize bdS 4 = S0 at Z ⊢
  exact tr_app Z (by decide) (fun _ _ _ _ h _ => h) (fun a xs σ H b e h0 _ x hx => nomatch hx)
theorem bd5 (htu : mg "tuple" = none) (g : GoodR W rows) (hb : BdR rows) (T0 : Tab H0 t prs) (hp : prs.map (·.2) = rows) : PS (bdX P w K mg base f cdv A outer s Hs E) (bdS 5) (tTr (BC H0 t c 16 noEx) (BC H0 t c 20 noEx)) := by
  have nd := sc_bad.nd
  have hn := g.n
  have hw := g.w
  have hl := g.len (rows.length - 1) (by omega)
  have l500 : (rows.map dRow).length ≤ 500 := by rw [List.length_map]; omega
  have Z : PS (bdX P w K mg base f cdv A outer s Hs E) (bdS 5) _ := ps_set (i := 2) nd rfl (Or.inl rfl) (pe_op op_cat (pv 2) (pe_lst (AX.pa (Γ := EnvB (lT rows)) (au_cons (φ := phB) st_envB (ad_imp (ad_catE (ds := rows.map dRow) st_envB (ad_envB (pv 0) (.head _)) (ad_lstE (ax_consE st_envB (ad_tupleOf (ad_ixE (ds := rows.map dRow) (k := rows.length - 1) st_envB (ad_envB (pv 0) (.head _)) (ad_negE (ad_intE pe_int)) (fun _ _ => rfl) (by rw [List.length_map]; exact ixN_last hn.1) (g.at (by omega))) htu) ax_nil) (by simp)) l500 (by simp)) fun d e => by
      rw [e]
      exact pb_behind g hb rfl ((sz_tuple (n := 8) (c := 41) (k := 0) (fun d hd => by
        obtain ⟨n, hn', rfl⟩ := List.mem_map.mp hd
        exact sz_int (hb _ (g.mem (by omega)) n hn')) (by rw [List.length_map]; omega)).mono (by decide) (by decide)))
    (au_cons st_envB (ad_lit (.list [.tuple [.int 1, .int 2]]) st_envB (by kernel_rfl) (pb_any (d := .tuple [.int 1, .int 2]) (by simp) rfl (by decide +kernel)))
    (au_cons st_envB (ad_imp (ad_catE (ds := rows.map dRow) (es' := [.none]) st_envB (ad_envB (pv 0) (.head _)) (ad_litE st_envB (by kernel_rfl)) l500 (by simp)) fun d e => by
      rw [e]
      exact pb_behind g hb rfl (sz_none.mono (by decide) (by decide)))
    (au_cons st_envB (ad_imp (ad_lstE (ax_consE st_envB (ad_envB (pv 0) (.head _)) ax_nil) (by simp)) fun d e => by rw [e]; exact pb_nest g hb) au_nil)))))))
  generalize bdS 5 = S0 at Z ⊢
  exact tr_cat (m := 4) Z (fun ds h => h) (by decide) (env_T T0 hp)
end
open PySem L2 PyProof.Rows
def onesL (c : Int) (k : Nat) : Nat := (1 + (c / 100 + 3 * (k : Int)) % 6).toNat
def onesR (c : Int) (m : Nat) : List (List Int) := (List.range m).map fun k => List.replicate (onesL c k) 1
theorem pb_ones {c : Int} {m : Nat} (h : 2 ≤ m ∧ m ≤ 6) : phB (dTab (onesR c m)) := by
  have ln : (onesR c m).length = m := by unfold onesR; rw [List.length_map, List.length_range]
  have at' : ∀ i, i < m → (onesR c m).getD i [] = List.replicate (onesL c i) 1 := fun i hi => by
    unfold onesR
    rw [List.getD_eq_getElem?_getD, List.getElem?_map, List.getElem?_range hi]
    rfl
  have lb : ∀ i, onesL c i ≤ 6 := fun i => by
    unfold onesL
    omega
  refine ⟨bad_lens (i := 0) (k := 1) (by omega) (by omega) ?_, sz_tabl (fun d hd => ?_) (by rw [List.length_map]; omega)⟩
  · rw [at' 0 (by omega), at' 1 (by omega), List.length_replicate, List.length_replicate]
    unfold onesL
    omega
  · obtain ⟨r, hr, rfl⟩ := List.mem_map.mp hd
    unfold onesR at hr
    obtain ⟨i, _, rfl⟩ := List.mem_map.mp hr
    refine sz_rowI (by rw [List.length_replicate]; have := lb i; omega) fun n hn => ?_
    rw [(List.mem_replicate.mp hn).2]
    decide
section
variable {P : Program} {w : World} {K : PySem.W.Frag} {mg : Str → Option Value} {base : Heap} {f : Addr} {cdv : Value} {A : Around} {outer : List Env} {s : Shared} {Hs H0 : Hp} {E : XK} {t : Addr} {c : Int}
theorem bd3 (T : Blt mg) (hc : 0 ≤ c) : PS (bdX P w K mg base f cdv A outer s Hs E) (bdS 3) (tTr (BC H0 t c 14 noEx) (BC H0 t c 15 noEx)) := by
  have nd := sc_bad.nd
  have nd1 : (["k", "cell"] : List Str).Nodup := by decide +kernel
  have Z : PS (bdX P w K mg base f cdv A outer s Hs E) (bdS 3) _ := ps_expr (pe_bm PySem.F.plainAttrs_list PySem.F.slot_list_append PySem.F.type_list_append mt_append (pv 2) (pa_cons (pe_comp ["k", "cell"] [none, some 1] (defScope dBad) bdN rfl (pi_range1 rfl T.rng (pa_cons (pe_op o_add pe_int (pe_op o_mod (pe_op o_div (pv 1) pe_int) pe_int)) pa_nil)) (by decide +kernel)
    (fun cl C s2 H2 ex => pg_c 0 nd1) (fun cl C s2 H2 ex => pifs_nil) (fun cl C s2 H2 ex => pe_op op_rep (pe_lst (pa_cons pe_int pa_nil)) (pe_op o_add pe_int (pe_op o_mod (pe_op o_add (pe_op o_div (pv 1) pe_int) (pe_op o_mul pe_int (pv 0))) pe_int)))) pa_nil))
  generalize bdS 3 = S0 at Z ⊢
  refine ps_sub Z fun E σ H ⟨b, q⟩ => ?_
  obtain ⟨a, xs, e2, ha, h0, l1, l2, hx, hex⟩ := b.L
  refine ⟨_, e2, .inl ⟨rfl, _, SqL.of ha⟩, _, b.s1, _, _, rfl, rfl, ⟨by decide, by decide⟩, _, _, rfl, rfl, by decide, _, _, rfl, rfl, _, rfl, by omega, by omega, ?_⟩
  have hm : 2 ≤ (2 + c / 600 % 5).toNat ∧ (2 + c / 600 % 5).toNat ≤ 6 := by omega
  generalize (2 + c / 600 % 5).toNat = m at hm
  have ep : ([none, some 1] : List (Option Nat)).map (pick σ) = [none, some (.int c)] := by
    show [none, (σ[1]?).getD none] = _
    rw [b.s1]
    rfl
  rw [ep]
  refine comp_objsR (fun k => .lst ((List.replicate (onesL c k) (1 : Int)).map V.int)) (by omega) (fun k hk H' Q' sm q' => ?_) fun D qs H' hD hq hnd hqs sm hDl => ?_
  · refine ⟨len1, fun p hp => ⟨_, rfl, _, _, rfl, rfl, ⟨by decide, by decide⟩, _, rfl, _, _, rfl, rfl, .inl ⟨by decide, by decide⟩, _, _, rfl, rfl, _, _, rfl, rfl, by decide, _, _, rfl, rfl, p, _, _, rfl, rfl, upd_same, by omega, by omega, ?_, fun l hl => ?_⟩⟩
    · refine sl6 ?_
      simp only [List.length_singleton]
      omega
    · refine q' l _ ((Same.new hp).free hl) ((Same.new hp).trans (Same.new hl)) ?_
      rw [upd_same]
      congr 2
      rw [List.map_replicate]
      have : (1 + (c / 100 + 3 * (0 + (k : Int))) % 6).toNat = onesL c k := by
        unfold onesL
        rw [Int.zero_add]
      rw [this]
      generalize onesL c k = n
      induction n with
      | zero => rfl
      | succ n ih => rw [List.replicate_succ, List.flatten_cons, ih, List.replicate_succ]; rfl
  · have nD : a ≠ D := ne_of_none ha hD
    have hr : ∀ qq : List (Addr × Nat), (∀ z ∈ qq, H' z.1 = some (.lst ((List.replicate (onesL c z.2) (1 : Int)).map V.int)) ∧ H z.1 = none ∧ z.1 ≠ D) → RdSs [a] H' (qq.map fun z => V.ref z.1) (((qq.map (·.2)).map fun k => List.replicate (onesL c k) (1 : Int)).map dRow) := by
      intro qq
      induction qq with
      | nil => intro _; exact .nil
      | cons z r ih =>
        intro hz
        obtain ⟨z1, z2, z3⟩ := hz z (.head _)
        exact .cons (.lst z1 (by simp only [List.mem_singleton]; exact (ne_of_none ha z2).symm) (rdss_ints _)) (ih fun y hy => hz y (.tail _ hy))
    have rd : RdS [a] H' (.ref D) (dTab (onesR c m)) := .lst hDl (by simp only [List.mem_singleton]; exact nD.symm) (by
      have := hr qs hqs
      rw [hq] at this
      exact this)
    refine ⟨a, xs, _, rfl, rfl, sm _ _ ha, small1000 (by omega), q _ _ ⟨b.len, b.s0, b.s1, fun z o e => ?_, a, xs ++ [.ref D], e2, upd_same, h0, by simp, by simp; omega, fun x hx' => ?_, trivial⟩⟩
    · rw [upd_ne (ne_of_none e h0)]
      exact sm _ _ (b.sm _ _ e)
    · have up : ∀ {x : V} {d : PyData}, RdS [a] H' x d → RdS [a] (upd H' a (.lst (xs ++ [.ref D]))) x d := fun r => r.move (fun z o n e => by rw [upd_ne (by simpa using n)]; exact e) fun _ n => n
      rcases List.mem_append.mp hx' with z | z
      · obtain ⟨d', r', hd'⟩ := hx x z
        exact ⟨d', up (r'.same sm), hd'⟩
      · rw [List.mem_singleton.mp z]
        exact ⟨_, up rd, pb_ones hm⟩
end
open PySem L2 PyProof.Rows
theorem pss_t {X : Cx} {S : Stmt} {ss : List Stmt} {N N1 N2 : L2.St → Hp → Prop} (h : PS X S (tTr N N1)) (h2 : PSs X ss (tTr N1 N2)) : PSs X (S :: ss) (tTr N N2) := fun pins s σ H D I ⟨n, q⟩ => pss_cons h h2 pins s σ H D I ⟨n, fun _ _ z => ⟨z, q⟩⟩
theorem pss_t1 {X : Cx} {S : Stmt} {N N1 : L2.St → Hp → Prop} (h : PS X S (tTr N N1)) : PSs X [S] (tTr N N1) := pss_one h
section
variable {H0 H : Hp} {t : Addr} {c : Int} {n m : Nat} {Ex Ex' : Addr → L2.St → Hp → Prop} {σ : L2.St}
theorem BC.up (b : BC H0 t c n Ex σ H) (h : n ≤ m) (hx : ∀ a, Ex a σ H → Ex' a σ H) : BC H0 t c m Ex' σ H :=
  ⟨b.len, b.s0, b.s1, b.sm, let ⟨a, xs, e2, ha, h0, l1, l2, hxs, hex⟩ := b.L; ⟨a, xs, e2, ha, h0, l1, Nat.le_trans l2 h, hxs, hx a hex⟩⟩
theorem BC.set (b : BC H0 t c n Ex σ H) {i : Nat} {v : V} (hi : 3 ≤ i) (hx : ∀ a, Ex a σ H → Ex' a (σ.set i (some v)) H) : BC H0 t c n Ex' (σ.set i (some v)) H :=
  ⟨by rw [List.length_set]; exact b.len, get_ne b.s0 (by omega), get_ne b.s1 (by omega), b.sm, let ⟨a, xs, e2, ha, h0, l1, l2, hxs, hex⟩ := b.L; ⟨a, xs, get_ne e2 (by omega), ha, h0, l1, l2, hxs, hx a hex⟩⟩
theorem tr_name {X : Cx} {S : Stmt} {l : List (Nat × PyData)} {i : Nat} {d : PyData} (hi : 3 ≤ i) (Z : PS X S (tAsg (tA (EnvB l) (tE d)) (gName i))) (hl : ∀ a xs σ H, BC H0 t c n Ex σ H → σ[2]? = some (some (.ref a)) → H0 a = none → Ex a σ H → EnvB l (abL a xs) σ H)
    (hx : ∀ a σ H v H', σ.length = 9 → Ex a σ H → ButS [a] H H' → RdS [a] H' v d → Ex' a (σ.set i (some v)) H') : PS X S (tTr (BC H0 t c n Ex) (BC H0 t c n Ex')) := by
  refine ps_sub Z fun E σ H ⟨b, q⟩ => ?_
  obtain ⟨a, xs, e2, ha, h0, l1, l2, hxs, hex⟩ := b.L
  refine ⟨abL a xs, hl a xs σ H b e2 h0 hex, ha, fun v H' bt j ⟨d', r, hd⟩ => q _ _ ⟨by rw [List.length_set]; exact b.len, get_ne b.s0 (by omega), get_ne b.s1 (by omega), fun z o e => ?_, a, xs, get_ne e2 (by omega), j, h0, l1, l2, fun x hx' => ?_, hx a σ H v H' b.len hex bt (by rw [← hd]; exact r)⟩⟩
  · exact bt _ _ (by simpa [abL] using ne_of_none e h0) (b.sm _ _ e)
  · obtain ⟨d1, r1, h1⟩ := hxs x hx'
    exact ⟨d1, rds_but r1 bt, h1⟩
end
def exRC (r p : Nat) : Addr → L2.St → Hp → Prop := fun _ σ _ => σ[3]? = some (some (.int (r : Nat))) ∧ σ[4]? = some (some (.int (p : Nat)))
theorem st_exRC {r p : Nat} : StEx (exRC r p) := fun _ _ _ _ h _ => h
section
variable {P : Program} {w : World} {K : PySem.W.Frag} {mg : Str → Option Value} {base : Heap} {f : Addr} {cdv : Value} {A : Around} {outer : List Env} {s : Shared} {Hs H0 : Hp} {E : XK} {t : Addr} {c : Int} {W : Nat} {rows : List (List Int)} {prs : Prs}
theorem bd6 (T : Blt mg) (hc : 0 ≤ c) (hg : tabB prs = true) (T0 : Tab H0 t prs) : ∃ r p : Nat, r < prs.length ∧ p < w0 prs ∧ PS (bdX P w K mg base f cdv A outer s Hs E) (bdS 6) (tTr (BC H0 t c 20 noEx) (BC H0 t c 20 (exRC r p))) := by
  have nd := sc_bad.nd
  obtain ⟨g, g1, g2, g3, g4⟩ := good_of hg
  obtain ⟨p0, hp0, hm0, hx0⟩ := head_at (prs := prs) g1
  refine ⟨(c / 100 % (prs.length : Int)).toNat, (c / 700 % (w0 prs : Int)).toNat, ?_, ?_, ?_⟩
  · have := Int.emod_nonneg (c / 100) (show (prs.length : Int) ≠ 0 by omega)
    have := Int.emod_lt_of_pos (c / 100) (show (0 : Int) < prs.length by omega)
    omega
  · have := Int.emod_nonneg (c / 700) (show (w0 prs : Int) ≠ 0 by omega)
    have := Int.emod_lt_of_pos (c / 700) (show (0 : Int) < w0 prs by omega)
    omega
  have Z : PS (bdX P w K mg base f cdv A outer s Hs E) (bdS 6) _ := ps_par (i := 3) (j := 4) rfl nd rfl rfl (by decide) rfl rfl (pa_cons (pe_op o_mod (pe_op o_div (pv 1) pe_int) (pe_b call_len_seq T.len boot_len (pa_cons (pv 0) pa_nil))) (pa_cons (pe_op o_mod (pe_op o_div (pv 1) pe_int) (pe_b call_len_seq T.len boot_len (pa_cons (pe_ix ix_list (pv 0) pe_int (fun _ _ => rfl)) pa_nil))) pa_nil)) rfl
  generalize bdS 6 = S0 at Z ⊢
  refine ps_sub Z fun E σ H ⟨b, q⟩ => ?_
  have hT := T0.same b.sm
  have lm : (prs.map fun p => V.ref p.1).length = prs.length := List.length_map ..
  have lw : (p0.2.map V.int).length = w0 prs := by rw [List.length_map]; exact g.len p0 hm0
  refine ⟨_, b.s1, _, _, rfl, rfl, ⟨by decide, by decide⟩, _, b.s0, t, _, rfl, .inl hT.sq, _, _, rfl, rfl, by rw [lm]; omega, _, b.s1, _, _, rfl, rfl, ⟨by decide, by decide⟩, _, b.s0, t, _, 0, .ref p0.1, rfl, rfl, hT.sq, atI_nat (j := 0) (by rw [List.getElem?_map, hx0]; rfl), p0.1, _, rfl, .inl (hT.r p0 hm0).sq, _, _, rfl, rfl, by rw [lw]; omega, _, _, rfl, q _ _ ?_⟩
  rw [lm, lw]
  have n1 := Int.emod_nonneg (c / 100) (show (prs.length : Int) ≠ 0 by omega)
  have n2 := Int.emod_nonneg (c / 700) (show (w0 prs : Int) ≠ 0 by omega)
  refine (b.set (Ex' := noEx) (i := 3) (by decide) fun a _ => trivial).set (i := 4) (by decide) fun a _ => ⟨?_, ?_⟩
  · rw [get_ne (get_eq (by rw [b.len]; decide)) (by decide), Int.toNat_of_nonneg n1]
  · rw [get_eq (by rw [List.length_set, b.len]; decide), Int.toNat_of_nonneg n2]
end
open PySem L2 PyProof.Rows
def forB : Stmt → List Stmt
  | .For _ _ b _ _ => b
  | _ => []
def thenB : Stmt → List Stmt
  | .If _ a _ _ => a
  | _ => []
def bdF (k : Nat) : Stmt := (forB (bdS 7)).getD k (.Pass ⟨0, 0, 0, 0⟩)
def bdT (j k : Nat) : Stmt := (thenB (bdS j)).getD k (.Pass ⟨0, 0, 0, 0⟩)
abbrev oddO : List PyData := [.none, .bool true, .str "1", .list [.int 1], .tuple [.int 1]]
theorem oddO_ok : ∀ o ∈ oddO, isIntD o = false ∧ Sz 41 1 o := by
  have : oddO.all (fun o => !isIntD o && okZ 41 1 o) = true := by decide +kernel
  intro o ho
  have h := List.all_eq_true.mp this o ho
  rw [Bool.and_eq_true, Bool.not_eq_true'] at h
  exact ⟨h.1, sz_of h.2⟩
def exL (r p : Nat) (q : Addr) (vs : List V) : Addr → L2.St → Hp → Prop := fun a σ H => exRC r p a σ H ∧ q ≠ a ∧ H q = some (.lst vs) ∧ RdSs [a] H vs oddO
theorem st_exL {r p : Nat} {q : Addr} {vs : List V} : StEx (exL r p q vs) := fun a σ H H' ⟨h1, h2, h3, h4⟩ b => ⟨h1, h2, b _ _ (by simpa using h2) h3, rdss_but h4 b⟩
def exV (Ex : Addr → L2.St → Hp → Prop) (i : Nat) (d : PyData) : Addr → L2.St → Hp → Prop := fun a σ H => Ex a σ H ∧ ∃ v, σ[i]? = some (some v) ∧ RdS [a] H v d
theorem st_exV {Ex : Addr → L2.St → Hp → Prop} {i : Nat} {d : PyData} (h : StEx Ex) : StEx (exV Ex i d) := fun a σ H H' ⟨h1, v, e, r⟩ b => ⟨h a σ H H' h1 b, v, e, rds_but r b⟩
def NoN (Ex : Addr → L2.St → Hp → Prop) (i : Nat) : Prop := ∀ a σ H v, Ex a σ H → Ex a (σ.set i v) H
theorem non_exRC {r p i : Nat} (h : 5 ≤ i) : NoN (exRC r p) i := fun a σ H v ⟨h1, h2⟩ => ⟨get_ne h1 (by omega), get_ne h2 (by omega)⟩
theorem non_exL {r p i : Nat} {q : Addr} {vs : List V} (h : 5 ≤ i) : NoN (exL r p q vs) i := fun a σ H v ⟨h1, h2⟩ => ⟨non_exRC h a σ H v h1, h2⟩
theorem non_exV {Ex : Addr → L2.St → Hp → Prop} {i j : Nat} {d : PyData} (h : NoN Ex j) (hj : j ≠ i) : NoN (exV Ex i d) j := fun a σ H v ⟨h1, x, e, r⟩ => ⟨h a σ H v h1, x, get_ne e hj, r⟩
section
variable {P : Program} {w : World} {K : PySem.W.Frag} {mg : Str → Option Value} {base : Heap} {f : Addr} {cdv : Value} {A : Around} {outer : List Env} {s : Shared} {Hs H0 : Hp} {E : XK} {t : Addr} {c : Int} {W : Nat} {rows : List (List Int)} {prs : Prs} {r p n : Nat} {o : PyData} {Ex : Addr → L2.St → Hp → Prop}
abbrev lRC (rows : List (List Int)) (r p i : Nat) (o : PyData) : List (Nat × PyData) := [(0, dTab rows), (3, .int (r : Nat)), (4, .int (p : Nat)), (i, o)]
theorem env_RC (T0 : Tab H0 t prs) (hp : prs.map (·.2) = rows) (hEx : ∀ a σ H, Ex a σ H → exRC r p a σ H) {i : Nat} : ∀ a xs σ H, BC H0 t c n (exV Ex i o) σ H → σ[2]? = some (some (.ref a)) → H0 a = none → exV Ex i o a σ H → EnvB (lRC rows r p i o) (abL a xs) σ H := fun a xs σ H b _ h0 ⟨h1, v, e, rd⟩ x hx => by
  obtain ⟨h3, h4⟩ := hEx a σ H h1
  simp only [List.mem_cons, List.not_mem_nil, or_false] at hx
  rcases hx with z | z | z | z <;> subst z
  · subst hp
    exact ⟨_, b.s0, tab_vr T0 b.sm h0⟩
  · exact ⟨_, h3, .int _⟩
  · exact ⟨_, h4, .int _⟩
  · exact ⟨v, e, rd⟩
theorem ad_row (g : GoodR W rows) (hr : r < rows.length) {i : Nat} {p1 p2 p3 : Pos} : AE (bdX P w K mg base f cdv A outer s Hs E) (EnvB (lRC rows r p i o)) (.Subscript (.Name "table" p1) (.Name "r" p2) p3) (tE (dRow (rows.getD r []))) :=
  ad_ixE (ds := rows.map dRow) (k := r) st_envB (ad_envB (pv 0) (.head _)) (ad_envB (pv 3) (.tail _ (.head _))) (fun _ _ => rfl) (by rw [List.length_map]; unfold ixN; rw [if_pos (by omega), if_pos (by omega)]; simp) (g.at hr)
theorem row_of7 (g : GoodR W rows) (hr : r < rows.length) (hpW : p < W) (T0 : Tab H0 t prs) (hp : prs.map (·.2) = rows) (hEx : ∀ a σ H, Ex a σ H → exRC r p a σ H) (se : StEx Ex) (hn : NoN Ex 6) {S0 : Stmt} {i : Nat} (hi : i ≠ 6)
    (Z : PS (bdX P w K mg base f cdv A outer s Hs E) S0 (tAsg (tA (EnvB (lRC rows r p i o)) (tE (setD (rows.getD r []) p o))) (gName 6))) : PS (bdX P w K mg base f cdv A outer s Hs E) S0 (tTr (BC H0 t c n (exV Ex i o)) (BC H0 t c n (exV Ex 6 (setD (rows.getD r []) p o)))) :=
  tr_name (by decide) Z (env_RC T0 hp hEx) fun a σ H v H' h9 ⟨h1, _⟩ b rd => ⟨hn a σ H' _ (se a σ H H' h1 b), v, get_eq (by omega), rd⟩
theorem app_of7 (g : GoodR W rows) (hb : BdR rows) (hr : r < rows.length) (hn : n ≤ 400) (T0 : Tab H0 t prs) (hp : prs.map (·.2) = rows) (hEx : ∀ a σ H, Ex a σ H → exRC r p a σ H) (se : StEx Ex) {S0 : Stmt} (hbad : ¬ GoodD (putD rows r o)) (hz : Sz 500 3 o)
    (Z : PS (bdX P w K mg base f cdv A outer s Hs E) S0 (tDrop (tBM K "list" rAppend (tVar 2) (tCons (tA (EnvB (lRC rows r p 6 o)) (tE (putD rows r o))) tNil)))) : PS (bdX P w K mg base f cdv A outer s Hs E) S0 (tTr (BC H0 t c n (exV Ex 6 o)) (BC H0 t c (n + 1) Ex)) := by
  have Z2 : PS (bdX P w K mg base f cdv A outer s Hs E) S0 (tDrop (tBM K "list" rAppend (tVar 2) (tCons (tA (EnvB (lRC rows r p 6 o)) (tD phB)) tNil))) := ps_sub Z fun E σ H h => by
    obtain ⟨v, ev, ty, B, hg, j, q⟩ := h
    exact ⟨v, ev, ty, B, hg, j, fun v' H' b' j' ⟨d, rd, ed⟩ => q v' H' b' j' ⟨d, rd, by rw [ed]; exact ⟨hbad, sz_put g hb hr hz⟩⟩⟩
  have := tr_app (H0 := H0) (t := t) (c := c) (n := n) (Ex := exV Ex 6 o) Z2 (by omega) (st_exV se) (env_RC T0 hp hEx)
  exact ps_sub this fun E σ H ⟨b, q⟩ => ⟨b, fun σ' H' b' => q _ _ (b'.up (Nat.le_refl _) fun a h => h.1)⟩
end
open PySem L2 PyProof.Rows
section
variable {P : Program} {w : World} {K : PySem.W.Frag} {mg : Str → Option Value} {base : Heap} {f : Addr} {cdv : Value} {A : Around} {outer : List Env} {s : Shared} {Hs H0 : Hp} {E : XK} {t : Addr} {c : Int} {W : Nat} {rows : List (List Int)} {prs : Prs} {r p n : Nat} {o : PyData} {Ex : Addr → L2.St → Hp → Prop}
theorem bd7a (g : GoodR W rows) (hr : r < rows.length) (hpW : p < W) (T0 : Tab H0 t prs) (hp : prs.map (·.2) = rows) (hEx : ∀ a σ H, Ex a σ H → exRC r p a σ H) (se : StEx Ex) (hn : NoN Ex 6) : PS (bdX P w K mg base f cdv A outer s Hs E) (bdF 0) (tTr (BC H0 t c n (exV Ex 5 o)) (BC H0 t c n (exV Ex 6 (setD (rows.getD r []) p o)))) := by
  have nd := sc_bad.nd
  have hl := g.len r hr
  have Z : PS (bdX P w K mg base f cdv A outer s Hs E) (bdF 0) (tAsg (tA (EnvB (lRC rows r p 5 o)) (tE (setD (rows.getD r []) p o))) (gName 6)) := ps_set (i := 6) nd rfl (Or.inl rfl) (AE.pe (ad_setE st_envB (ad_row g hr) (ad_envB (pv 4) (.tail _ (.tail _ (.head _)))) (ad_envB (pv 5) (.tail _ (.tail _ (.tail _ (.head _))))) (ad_row g hr) (ad_envB (pv 4) (.tail _ (.tail _ (.head _)))) pe_int (by have := g.w; omega) (by omega)))
  generalize bdF 0 = S0 at Z ⊢
  exact row_of7 g hr hpW T0 hp hEx se hn (by decide) Z
theorem bd7b (g : GoodR W rows) (hb : BdR rows) (hr : r < rows.length) (hn : n ≤ 400) (T0 : Tab H0 t prs) (hp : prs.map (·.2) = rows) (hEx : ∀ a σ H, Ex a σ H → exRC r p a σ H) (se : StEx Ex) (hbad : ¬ GoodD (putD rows r o)) (hz : Sz 500 3 o) : PS (bdX P w K mg base f cdv A outer s Hs E) (bdF 1) (tTr (BC H0 t c n (exV Ex 6 o)) (BC H0 t c (n + 1) Ex)) := by
  have Z : PS (bdX P w K mg base f cdv A outer s Hs E) (bdF 1) (tDrop (tBM K "list" rAppend (tVar 2) (tCons (tA (EnvB (lRC rows r p 6 o)) (tE (putD rows r o))) tNil))) := ps_expr (pe_bm PySem.F.plainAttrs_list PySem.F.slot_list_append PySem.F.type_list_append mt_append (pv 2) (pa_cons (AE.pe (ad_putE st_envB (ad_envB (pv 0) (.head _)) (ad_envB (pv 3) (.tail _ (.head _))) (ad_envB (pv 6) (.tail _ (.tail _ (.tail _ (.head _))))) (ad_envB (pv 0) (.head _)) (ad_envB (pv 3) (.tail _ (.head _))) pe_int g.n.2 hr)) pa_nil))
  generalize bdF 1 = S0 at Z ⊢
  exact app_of7 g hb hr hn T0 hp hEx se hbad hz Z
def tLoop7 (H0 : Hp) (t : Addr) (c : Int) (r p : Nat) : TS := fun D σ H => ∃ (q : Addr) (vs : List V) (n : Nat) (o : PyData), n ≤ 100 ∧ o ∈ oddO ∧ tTr (BC H0 t c n (exV (exL r p q vs) 5 o)) (BC H0 t c (n + 1) (exL r p q vs)) D σ H
set_option maxHeartbeats 16000000 in
theorem bd7 (g : GoodR W rows) (hb : BdR rows) (hr : r < rows.length) (hpW : p < W) (T0 : Tab H0 t prs) (hp : prs.map (·.2) = rows) : PS (bdX P w K mg base f cdv A outer s Hs E) (bdS 7) (tTr (BC H0 t c 20 (exRC r p)) (BC H0 t c 25 (exRC r p))) := by
  have nd := sc_bad.nd
  have body : ∀ (q : Addr) (vs : List V) (n : Nat) (o : PyData), n ≤ 100 → o ∈ oddO → PSs (bdX P w K mg base f cdv A outer s Hs E) [bdF 0, bdF 1] (tTr (BC H0 t c n (exV (exL r p q vs) 5 o)) (BC H0 t c (n + 1) (exL r p q vs))) := fun q vs n o hn ho => by
    obtain ⟨h1, h2⟩ := oddO_ok o ho
    refine pss_t (bd7a g hr hpW T0 hp (fun a σ H h => h.1) st_exL (non_exL (by decide))) (pss_t1 (bd7b g hb hr (by omega) T0 hp (fun a σ H h => h.1) st_exL ?_ ?_))
    · exact bad_row (setD_odd h1)
    · exact (sz_setD (by have := g.len r hr; have := g.w; omega) (hb _ (g.mem hr)) h2).mono (by decide) (by decide)
  have Z : PS (bdX P w K mg base f cdv A outer s Hs E) (bdS 7) _ := ps_for PassesOwn.never rfl (pi_list (pe_lst (AX.pa (Γ := EnvB []) (ax_consE st_envB (ad_litE (d := .none) st_envB (by kernel_rfl)) (ax_consE st_envB (ad_litE (d := .bool true) st_envB (by kernel_rfl)) (ax_consE st_envB (ad_litE (d := .str "1") st_envB (by kernel_rfl)) (ax_consE st_envB (ad_litE (d := .list [.int 1]) st_envB (by kernel_rfl)) (ax_consE st_envB (ad_litE (d := .tuple [.int 1]) st_envB (by kernel_rfl)) ax_nil)))))))) (pg_name (i := 5) nd rfl (Or.inl rfl)) (show PSs (bdX P w K mg base f cdv A outer s Hs E) [bdF 0, bdF 1] (tLoop7 H0 t c r p) from fun pins s σ H D I h => by
    obtain ⟨q, vs, n, o, hn, ho, h⟩ := h
    exact body q vs n o hn ho pins s σ H D I h)
  generalize bdS 7 = S0 at Z ⊢
  refine ps_sub Z fun E σ H ⟨b, q⟩ => ?_
  obtain ⟨a, xs, e2, ha, h0, l1, l2, hx, hex⟩ := b.L
  refine ⟨abL a xs, (fun x hx => nomatch hx), ha, fun vs ds H1 bt j rv hd => ⟨sl6 (by rw [rv.length, hd]; decide), fun L hL => ?_⟩⟩
  subst hd
  have j : H1 a = some (.lst xs) := j
  have sL := Same.new (o := .lst vs) hL
  have s01 : Same H0 H1 := fun z o e => bt _ _ (by simpa [abL] using ne_of_none e h0) (b.sm _ _ e)
  have nLa : L ≠ a := (ne_of_none j hL).symm
  have b1 : BC H0 t c 20 (exL r p L vs) σ (upd H1 L (.lst vs)) := ⟨b.len, b.s0, b.s1, s01.trans sL, a, xs, e2, sL _ _ j, h0, l1, l2, fun x hx' => by
    obtain ⟨d1, r1, h1⟩ := hx x hx'
    exact ⟨d1, (rds_but r1 bt).same sL, h1⟩, hex, nLa, upd_same, rv.same sL⟩
  generalize upd H1 L (.lst vs) = H2 at b1 ⊢
  have sq : ∀ {n : Nat} {σ' : L2.St} {H' : Hp}, BC H0 t c n (exL r p L vs) σ' H' → SqL K H' L vs := fun b' => by
    obtain ⟨_, _, _, _, _, _, _, _, h⟩ := b'.L
    exact SqL.of h.2.2.1
  have lv : vs.length = 5 := by rw [rv.length]; rfl
  refine ⟨L, rfl, ⟨_, sq b1⟩, for_list (xs := vs) (fun i σ' H' => i ≤ 5 ∧ BC H0 t c (20 + i) (exL r p L vs) σ' H') ⟨by decide, b1⟩ (fun i σ' H' _ h => sq h.2) (fun i x σ' H' hi ⟨h5, bb⟩ => ?_) (fun σ' H' ⟨_, bb⟩ => ?_)⟩
  · have hi5 : i < 5 := by rw [← lv]; exact (List.getElem?_eq_some_iff.mp hi).1
    obtain ⟨o, ho⟩ : ∃ o, oddO[i]? = some o := ⟨_, List.getElem?_eq_getElem (show i < oddO.length from hi5)⟩
    refine ⟨L, vs, 20 + i, o, by omega, List.mem_of_getElem? ho, ?_, fun σ2 H2 z => ⟨by omega, z⟩⟩
    refine bb.set (by decide) fun a' h => ⟨non_exL (by decide) a' σ' H' _ h, x, get_eq (by rw [bb.len]; decide), ?_⟩
    obtain ⟨x', e1, r1⟩ := rdss_at h.2.2.2 ho
    rw [hi] at e1
    cases e1
    exact r1
  · rw [lv] at bb
    exact q _ _ (bb.up (Nat.le_refl _) fun a' h => h.1)
end
open PySem L2 PyProof.Rows
theorem ad_minE {X : Cx} {Γ : EnB} {e1 e2 : Expr} {i j : Int} {pos p1 : Pos} (sg : StbE Γ) (hc : X.calm = true) (h1 : AE X Γ e1 (tE (.int i))) (h2 : AE X Γ e2 (tE (.int j))) (hmn : X.mg "min" = none) (hg : Gl X "min" := by rfl) (he : starEach [e1, e2] X.env = (false, eval e1 X.env) :: starEach [e2] X.env := by rfl) (he2 : starEach [e2] X.env = (false, eval e2 X.env) :: starEach [] X.env := by rfl) (hpl : (backTo pos (starEach [e2] X.env)).any (·.1) = false := by rfl) :
    AE X Γ (.Call (.Name "min" p1) [e1, e2] [] pos) (tE (.int (if j < i then j else i))) :=
  ⟨pe_imp (pe_b (call_min2 hc) hmn boot_min (pa_cons h1.pe (pa_cons h2.pe pa_nil he2) he) hg (by decide) (by decide) he hpl) fun σ H Q ⟨B, hg, jj, q⟩ => ⟨B, hg, jj, fun v H1 b1 j1 a1 => ⟨B, sg _ _ _ _ hg b1, j1, fun v2 H2 b2 j2 a2 => by
    obtain ⟨_, r, rfl⟩ := a1
    obtain ⟨_, r2, rfl⟩ := a2
    cases r
    cases r2
    exact ⟨_, _, rfl, q _ _ (b1.trans b2) j2 ⟨_, .int _, rfl⟩⟩⟩⟩⟩
section
variable {P : Program} {w : World} {K : PySem.W.Frag} {mg : Str → Option Value} {base : Heap} {f : Addr} {cdv : Value} {A : Around} {outer : List Env} {s : Shared} {Hs H0 : Hp} {E : XK} {t : Addr} {c : Int} {W : Nat} {rows : List (List Int)} {prs : Prs} {r p n : Nat} {o : PyData} {Ex : Addr → L2.St → Hp → Prop}
theorem at_int {h : List Int} {k : Nat} (hk : k < h.length) : (h.map PyData.int)[k]? = some (.int (h.getD k 0)) := by
  rw [List.getElem?_map, List.getElem?_eq_getElem hk, List.getD_eq_getElem?_getD, List.getElem?_eq_getElem hk]
  rfl
theorem getD_mem {h : List Int} {k : Nat} (hk : k < h.length) : h.getD k 0 ∈ h := by
  rw [List.getD_eq_getElem?_getD, List.getElem?_eq_getElem hk]
  exact List.getElem_mem _
theorem ixN_nat {n k : Nat} (h : k < n) : ixN n (k : Int) = some k := by
  unfold ixN
  rw [if_pos (by omega), if_pos (by omega)]
  simp
theorem bd8 (g : GoodR W rows) (hr : r < rows.length) (hpW : p < W) (T0 : Tab H0 t prs) (hp : prs.map (·.2) = rows) : PS (bdX P w K mg base f cdv A outer s Hs E) (bdS 8) (tTr (BC H0 t c n (exRC r p)) (BC H0 t c n (exV (exRC r p) 7 (.int ((rows.getD r []).getD p 0 - 1))))) := by
  have nd := sc_bad.nd
  have hl := g.len r hr
  have Z : PS (bdX P w K mg base f cdv A outer s Hs E) (bdS 8) (tAsg (tA (EnvB (lRC rows r p 3 (.int (r : Nat)))) (tE (.int ((rows.getD r []).getD p 0 - 1)))) (gName 7)) := ps_set (i := 7) nd rfl (Or.inl rfl) (AE.pe (ad_subE st_envB (ad_ixE (ds := (rows.getD r []).map PyData.int) (k := p) st_envB (ad_row g hr) (ad_envB (pv 4) (.tail _ (.tail _ (.head _)))) (fun _ _ => rfl) (by rw [List.length_map]; exact ixN_nat (by omega)) (at_int (by omega))) (ad_intE pe_int)))
  generalize bdS 8 = S0 at Z ⊢
  refine tr_name (by decide) Z (fun a xs σ H b e h0 h => env_RC (Ex := exRC r p) (i := 3) (o := .int (r : Nat)) T0 hp (fun a σ H h => h) a xs σ H (b.up (Nat.le_refl _) fun a h => ⟨h, _, h.1, .int _⟩) e h0 ⟨h, _, h.1, .int _⟩) fun a σ H v H' h9 h b rd => ⟨non_exRC (by decide) a σ H' _ h, v, get_eq (by omega), rd⟩
abbrev ex8 (r p : Nat) (v : Int) : Addr → L2.St → Hp → Prop := exV (exRC r p) 7 (.int v)
theorem ex8_rc {v : Int} : ∀ a σ H, ex8 r p v a σ H → exRC r p a σ H := fun _ _ _ h => h.1
set_option maxHeartbeats 16000000 in
theorem bd9 {v : Int} (g : GoodR W rows) (hb : BdR rows) (hb2 : ∀ r ∈ rows, ∀ n ∈ r, n.natAbs < 10 ^ 27) (hr : r < rows.length) (hpW : p < W) (T0 : Tab H0 t prs) (hp : prs.map (·.2) = rows) : PS (bdX P w K mg base f cdv A outer s Hs E) (bdS 9) (tTr (BC H0 t c 25 (ex8 r p v)) (BC H0 t c 26 (ex8 r p v))) := by
  have nd := sc_bad.nd
  have hl := g.len r hr
  have hw := g.w
  have body : 0 < p → PSs (bdX P w K mg base f cdv A outer s Hs E) [bdT 9 0, bdT 9 1, bdT 9 2] (tTr (BC H0 t c 25 (ex8 r p v)) (BC H0 t c 26 (ex8 r p v))) := fun hp0 => by
    obtain ⟨u, hu⟩ : ∃ u, u = (rows.getD r []).getD (p - 1) 0 := ⟨_, rfl⟩
    have Z0 : PS (bdX P w K mg base f cdv A outer s Hs E) (bdT 9 0) (tAsg (tA (EnvB (lRC rows r p 7 (.int v))) (tE (.int (u - 1)))) (gName 8)) := ps_set (i := 8) nd rfl (Or.inl rfl) (AE.pe (ad_subE st_envB (ad_ixE (ds := (rows.getD r []).map PyData.int) (k := p - 1) st_envB (ad_row g hr) (ad_subE st_envB (ad_envB (pv 4) (.tail _ (.tail _ (.head _)))) (ad_intE pe_int)) (fun _ _ => rfl) (by rw [List.length_map, show ((p : Nat) : Int) - 1 = ((p - 1 : Nat) : Int) by omega]; exact ixN_nat (by omega)) (by rw [hu]; exact at_int (by omega))) (ad_intE pe_int)))
    have Z1 : PS (bdX P w K mg base f cdv A outer s Hs E) (bdT 9 1) (tAsg (tA (EnvB (lRC rows r p 8 (.int (u - 1)))) (tE (setD (rows.getD r []) p (.int (u - 1))))) (gName 6)) := ps_set (i := 6) nd rfl (Or.inl rfl) (AE.pe (ad_setE st_envB (ad_row g hr) (ad_envB (pv 4) (.tail _ (.tail _ (.head _)))) (ad_envB (pv 8) (.tail _ (.tail _ (.tail _ (.head _))))) (ad_row g hr) (ad_envB (pv 4) (.tail _ (.tail _ (.head _)))) pe_int (by omega) (by omega)))
    have Z2 : PS (bdX P w K mg base f cdv A outer s Hs E) (bdT 9 2) (tDrop (tBM K "list" rAppend (tVar 2) (tCons (tA (EnvB (lRC rows r p 6 (setD (rows.getD r []) p (.int (u - 1))))) (tE (putD rows r (setD (rows.getD r []) p (.int (u - 1)))))) tNil))) := ps_expr (pe_bm PySem.F.plainAttrs_list PySem.F.slot_list_append PySem.F.type_list_append mt_append (pv 2) (pa_cons (AE.pe (ad_putE st_envB (ad_envB (pv 0) (.head _)) (ad_envB (pv 3) (.tail _ (.head _))) (ad_envB (pv 6) (.tail _ (.tail _ (.tail _ (.head _))))) (ad_envB (pv 0) (.head _)) (ad_envB (pv 3) (.tail _ (.head _))) pe_int g.n.2 hr)) pa_nil))
    generalize bdT 9 0 = S0 at Z0 ⊢
    generalize bdT 9 1 = S1 at Z1 ⊢
    generalize bdT 9 2 = S2 at Z2 ⊢
    have T1 : PS (bdX P w K mg base f cdv A outer s Hs E) S0 (tTr (BC H0 t c 25 (ex8 r p v)) (BC H0 t c 25 (exV (ex8 r p v) 8 (.int (u - 1))))) := tr_name (by decide) Z0 (env_RC T0 hp (fun a σ H h => h)) fun a σ H x H' h9 h b rd => ⟨non_exV (non_exRC (by decide)) (by decide) a σ H' _ (st_exV st_exRC a σ H H' h b), x, get_eq (by omega), rd⟩
    refine pss_t T1 (pss_t (row_of7 g hr hpW T0 hp ex8_rc (st_exV st_exRC) (non_exV (non_exRC (by decide)) (by decide)) (by decide) Z1) (pss_t1 (app_of7 g hb hr (by decide) T0 hp ex8_rc (st_exV st_exRC) ?_ ?_ Z2)))
    · rw [setD_int (by omega)]
      exact bad_set g hr hpW (.inl ⟨p - 1, by omega, by rw [← hu]; omega⟩)
    · have hm : u ∈ rows.getD r [] := by
        rw [hu]
        exact getD_mem (by omega)
      have := hb2 _ (g.mem hr) u hm
      exact (sz_setD (by omega) (hb _ (g.mem hr)) ((sz_int (Nat.lt_of_lt_of_le (show (u - 1).natAbs < 10 ^ 27 + 2 by omega) (by decide))).mono (by decide) (by decide))).mono (by decide) (by decide)
  have Z : PS (bdX P w K mg base f cdv A outer s Hs E) (bdS 9) _ := ps_if (pt_cmpR o_gt (pv 4) pe_int (nomark _)) (show PSs (bdX P w K mg base f cdv A outer s Hs E) [bdT 9 0, bdT 9 1, bdT 9 2] _ from fun pins s σ H D I (h : 0 < p ∧ tTr (BC H0 t c 25 (ex8 r p v)) (BC H0 t c 26 (ex8 r p v)) D σ H) => body h.1 pins s σ H D I h.2) pss_nil
  generalize bdS 9 = S0 at Z ⊢
  refine ps_sub Z fun E σ H ⟨b, q⟩ => ?_
  obtain ⟨a, xs, e2, ha, h0, l1, l2, hx, hex⟩ := b.L
  refine ⟨_, hex.1.2, _, _, rfl, rfl, _, rfl, ?_⟩
  by_cases h0p : (0 : Int) < (p : Nat)
  · rw [decide_eq_true h0p]
    exact iteT ⟨by omega, b, q⟩
  · rw [decide_eq_false h0p]
    exact iteF (q _ _ (b.up (by decide) fun _ h => h))
end
open PySem L2 PyProof.Rows
section
variable {P : Program} {w : World} {K : PySem.W.Frag} {mg : Str → Option Value} {base : Heap} {f : Addr} {cdv : Value} {A : Around} {outer : List Env} {s : Shared} {Hs H0 : Hp} {E : XK} {t : Addr} {c : Int} {W : Nat} {rows : List (List Int)} {prs : Prs} {r p n : Nat} {o : PyData} {Ex : Addr → L2.St → Hp → Prop}
set_option maxHeartbeats 16000000 in
theorem bd10 {v : Int} (hmn : mg "min" = none) (hv : v.natAbs < 10 ^ 28) (g : GoodR W rows) (hb : BdR rows) (hb2 : ∀ r ∈ rows, ∀ n ∈ r, n.natAbs < 10 ^ 27) (hr : r < rows.length) (hpW : p < W) (T0 : Tab H0 t prs) (hp : prs.map (·.2) = rows) : PS (bdX P w K mg base f cdv A outer s Hs E) (bdS 10) (tTr (BC H0 t c 26 (ex8 r p v)) (BC H0 t c 27 (exRC r p))) := by
  have nd := sc_bad.nd
  have hl := g.len r hr
  have hw := g.w
  have body : 0 < r → PSs (bdX P w K mg base f cdv A outer s Hs E) [bdT 10 0, bdT 10 1, bdT 10 2] (tTr (BC H0 t c 26 (ex8 r p v)) (BC H0 t c 27 (exRC r p))) := fun hr0 => by
    have hl1 := g.len (r - 1) (by omega)
    obtain ⟨u, hu⟩ : ∃ u, u = (rows.getD (r - 1) []).getD p 0 := ⟨_, rfl⟩
    obtain ⟨lo, hlo⟩ : ∃ lo, lo = if u - 1 < v then u - 1 else v := ⟨_, rfl⟩
    have Z0 : PS (bdX P w K mg base f cdv A outer s Hs E) (bdT 10 0) (tAsg (tA (EnvB (lRC rows r p 7 (.int v))) (tE (.int (if u - 1 < v then u - 1 else v)))) (gName 7)) := ps_set (i := 7) nd rfl (Or.inl rfl) (AE.pe (ad_minE st_envB rfl (ad_envB (pv 7) (.tail _ (.tail _ (.tail _ (.head _))))) (ad_subE st_envB (ad_ixE (ds := (rows.getD (r - 1) []).map PyData.int) (k := p) st_envB (ad_ixE (ds := rows.map dRow) (k := r - 1) st_envB (ad_envB (pv 0) (.head _)) (ad_subE st_envB (ad_envB (pv 3) (.tail _ (.head _))) (ad_intE pe_int)) (fun _ _ => rfl) (by rw [List.length_map, show ((r : Nat) : Int) - 1 = ((r - 1 : Nat) : Int) by omega]; exact ixN_nat (by omega)) (g.at (by omega))) (ad_envB (pv 4) (.tail _ (.tail _ (.head _)))) (fun _ _ => rfl) (by rw [List.length_map]; exact ixN_nat (by omega)) (by rw [hu]; exact at_int (by omega))) (ad_intE pe_int)) hmn))
    rw [← hlo] at Z0
    have Z1 : PS (bdX P w K mg base f cdv A outer s Hs E) (bdT 10 1) (tAsg (tA (EnvB (lRC rows r p 7 (.int lo))) (tE (setD (rows.getD r []) p (.int lo)))) (gName 6)) := ps_set (i := 6) nd rfl (Or.inl rfl) (AE.pe (ad_setE st_envB (ad_row g hr) (ad_envB (pv 4) (.tail _ (.tail _ (.head _)))) (ad_envB (pv 7) (.tail _ (.tail _ (.tail _ (.head _))))) (ad_row g hr) (ad_envB (pv 4) (.tail _ (.tail _ (.head _)))) pe_int (by omega) (by omega)))
    have Z2 : PS (bdX P w K mg base f cdv A outer s Hs E) (bdT 10 2) (tDrop (tBM K "list" rAppend (tVar 2) (tCons (tA (EnvB (lRC rows r p 6 (setD (rows.getD r []) p (.int lo)))) (tE (putD rows r (setD (rows.getD r []) p (.int lo))))) tNil))) := ps_expr (pe_bm PySem.F.plainAttrs_list PySem.F.slot_list_append PySem.F.type_list_append mt_append (pv 2) (pa_cons (AE.pe (ad_putE st_envB (ad_envB (pv 0) (.head _)) (ad_envB (pv 3) (.tail _ (.head _))) (ad_envB (pv 6) (.tail _ (.tail _ (.tail _ (.head _))))) (ad_envB (pv 0) (.head _)) (ad_envB (pv 3) (.tail _ (.head _))) pe_int g.n.2 hr)) pa_nil))
    generalize bdT 10 0 = S0 at Z0 ⊢
    generalize bdT 10 1 = S1 at Z1 ⊢
    generalize bdT 10 2 = S2 at Z2 ⊢
    have T1 : PS (bdX P w K mg base f cdv A outer s Hs E) S0 (tTr (BC H0 t c 26 (ex8 r p v)) (BC H0 t c 26 (ex8 r p lo))) := tr_name (by decide) Z0 (env_RC T0 hp (fun a σ H h => h)) fun a σ H x H' h9 h b rd => ⟨non_exRC (by decide) a σ H' _ h.1, x, get_eq (by omega), rd⟩
    refine pss_t T1 (pss_t (row_of7 g hr hpW T0 hp (fun a σ H h => h) st_exRC (non_exRC (by decide)) (by decide) Z1) (pss_t1 (app_of7 g hb hr (by decide) T0 hp (fun a σ H h => h) st_exRC ?_ ?_ Z2)))
    · rw [setD_int (by omega)]
      refine bad_set g hr hpW (.inr (.inr (.inl ⟨r - 1, by omega, ?_⟩)))
      rw [← hu, hlo]
      split <;> omega
    · have hm : u ∈ rows.getD (r - 1) [] := by
        rw [hu]
        exact getD_mem (by omega)
      have := hb2 _ (g.mem (by omega)) u hm
      have hlb : lo.natAbs < 10 ^ 28 + 2 := by rw [hlo]; split <;> omega
      exact (sz_setD (by omega) (hb _ (g.mem hr)) ((sz_int (Nat.lt_of_lt_of_le hlb (by decide))).mono (by decide) (by decide))).mono (by decide) (by decide)
  have Z : PS (bdX P w K mg base f cdv A outer s Hs E) (bdS 10) _ := ps_if (pt_cmpR o_gt (pv 3) pe_int (nomark _)) (show PSs (bdX P w K mg base f cdv A outer s Hs E) [bdT 10 0, bdT 10 1, bdT 10 2] _ from fun pins s σ H D I (h : 0 < r ∧ tTr (BC H0 t c 26 (ex8 r p v)) (BC H0 t c 27 (exRC r p)) D σ H) => body h.1 pins s σ H D I h.2) pss_nil
  generalize bdS 10 = S0 at Z ⊢
  refine ps_sub Z fun E σ H ⟨b, q⟩ => ?_
  obtain ⟨a, xs, e2, ha, h0, l1, l2, hx, hex⟩ := b.L
  refine ⟨_, hex.1.1, _, _, rfl, rfl, _, rfl, ?_⟩
  by_cases h0p : (0 : Int) < (r : Nat)
  · rw [decide_eq_true h0p]
    exact iteT ⟨by omega, b, q⟩
  · rw [decide_eq_false h0p]
    exact iteF (q _ _ (b.up (by decide) fun _ h => h.1))
theorem bd11 (T : Blt mg) {Q : VK} (q : ∀ x d H', RdS [] H' x d → phB d → Same H0 H' → Q x H') : PS (bdX P w K mg base f cdv A outer s Hs E) (bdS 11) (fun D σ H => BC H0 t c 27 (exRC r p) σ H ∧ D.rt = Q) := by
  have Z : PS (bdX P w K mg base f cdv A outer s Hs E) (bdS 11) _ := ps_ret (pe_ix ix_list (pv 2) (pe_op o_mod (pv 1) (pe_b call_len_seq T.len boot_len (pa_cons (pv 2) pa_nil))) (fun _ _ => rfl))
  generalize bdS 11 = S0 at Z ⊢
  refine ps_sub Z fun E σ H ⟨b, hQ⟩ => ?_
  obtain ⟨a, xs, e2, ha, h0, l1, l2, hx, hex⟩ := b.L
  have hk : 0 ≤ c % (xs.length : Int) ∧ c % (xs.length : Int) < xs.length := ⟨Int.emod_nonneg _ (by omega), Int.emod_lt_of_pos _ (by omega)⟩
  obtain ⟨x, hxm, hat⟩ := at_memV (xs := xs) hk.1 hk.2
  obtain ⟨d, rd, hd⟩ := hx x hxm
  refine ⟨_, e2, _, b.s1, _, e2, a, xs, rfl, .inl (SqL.of ha), _, _, rfl, rfl, by omega, a, xs, _, x, rfl, rfl, SqL.of ha, hat, ?_⟩
  rw [hQ]
  exact q x d H rd.any hd b.sm
def spBad : Sp := fun vs H Q _ => ∃ (t : Addr) (prs : Prs) (c : Int), vs = [.ref t, .int c] ∧ Tab H t prs ∧ tabB prs = true ∧ (∀ p ∈ prs, Bd27 p.2) ∧ 0 ≤ c ∧ ∀ x d H', RdS [] H' x d → phB d → Same H H' → Q x H'
set_option maxHeartbeats 16000000 in
theorem ok_bad (T : Blt mg) (htu : mg "tuple" = none) (hmn : mg "min" = none) (D : DefAt K mg "_law_bad" dBad ["table", "cell"]) : FnAt P w K mg base 1 "_law_bad" ["table", "cell"] spBad := by
  refine FnAt.of D sc_bad (fun vs H Q E h => ?_) (fun f cdv A outer s H vs Q E hr h => ?_)
  · obtain ⟨t, prs, c, rfl, _⟩ := h
    rfl
  · obtain ⟨t, prs, c, rfl, hT, hg, hb27, hc, q⟩ := h
    have g := goodR_of hg
    obtain ⟨rows, hrows⟩ : ∃ rows, prs.map (·.2) = rows := ⟨_, rfl⟩
    rw [hrows] at g
    have hb2 : ∀ r ∈ rows, ∀ n ∈ r, n.natAbs < 10 ^ 27 := fun r hr n hn => by
      rw [← hrows] at hr
      obtain ⟨p, hp, rfl⟩ := List.mem_map.mp hr
      exact hb27 p hp n hn
    have hb : BdR rows := fun r hr n hn => Nat.lt_of_lt_of_le (hb2 r hr n hn) (Nat.pow_le_pow_right (by decide) (by decide))
    obtain ⟨r, p, hr', hp', B6⟩ := bd6 (P := P) (w := w) (K := K) (base := base) (f := f) (cdv := cdv) (A := A) (outer := outer) (s := s) (Hs := H) (E := E) T hc hg hT
    have hrl : r < rows.length := by rw [← hrows, List.length_map]; exact hr'
    have hm : (rows.getD r []).getD p 0 ∈ rows.getD r [] := getD_mem (by rw [g.len r hrl]; exact hp')
    have hv := hb2 _ (g.mem hrl) _ hm
    have B0 := bd0 (P := P) (w := w) (K := K) (mg := mg) (base := base) (f := f) (cdv := cdv) (A := A) (outer := outer) (s := s) (Hs := H) (E := E) g hb
    have B1 := bd1 (P := P) (w := w) (K := K) (mg := mg) (base := base) (f := f) (cdv := cdv) (A := A) (outer := outer) (s := s) (Hs := H) (E := E) (c := c) g hb hT hrows
    have B2 := bd2 (P := P) (w := w) (K := K) (mg := mg) (base := base) (f := f) (cdv := cdv) (A := A) (outer := outer) (s := s) (Hs := H) (E := E) (c := c) g hb hT hrows
    have B3 := bd3 (P := P) (w := w) (K := K) (mg := mg) (base := base) (f := f) (cdv := cdv) (A := A) (outer := outer) (s := s) (Hs := H) (H0 := H) (t := t) (E := E) T hc
    have B4 := bd4 (P := P) (w := w) (K := K) (mg := mg) (base := base) (f := f) (cdv := cdv) (A := A) (outer := outer) (s := s) (Hs := H) (H0 := H) (t := t) (c := c) (E := E)
    have B5 := bd5 (P := P) (w := w) (K := K) (mg := mg) (base := base) (f := f) (cdv := cdv) (A := A) (outer := outer) (s := s) (Hs := H) (E := E) (c := c) htu g hb hT hrows
    have B7 := bd7 (P := P) (w := w) (K := K) (mg := mg) (base := base) (f := f) (cdv := cdv) (A := A) (outer := outer) (s := s) (Hs := H) (E := E) (c := c) g hb hrl hp' hT hrows
    have B8 := bd8 (P := P) (w := w) (K := K) (mg := mg) (base := base) (f := f) (cdv := cdv) (A := A) (outer := outer) (s := s) (Hs := H) (E := E) (c := c) (n := 25) g hrl hp' hT hrows
    have B9 := bd9 (P := P) (w := w) (K := K) (mg := mg) (base := base) (f := f) (cdv := cdv) (A := A) (outer := outer) (s := s) (Hs := H) (E := E) (c := c) (v := (rows.getD r []).getD p 0 - 1) g hb hb2 hrl hp' hT hrows
    have B10 := bd10 (P := P) (w := w) (K := K) (mg := mg) (base := base) (f := f) (cdv := cdv) (A := A) (outer := outer) (s := s) (Hs := H) (E := E) (c := c) (v := (rows.getD r []).getD p 0 - 1) hmn (by omega) g hb hb2 hrl hp' hT hrows
    have B11 := bd11 (P := P) (w := w) (K := K) (mg := mg) (base := base) (f := f) (cdv := cdv) (A := A) (outer := outer) (s := s) (Hs := H) (E := E) (t := t) (c := c) (r := r) (p := p) T q
    have B0' := tr_new (t := t) (c := c) (m := 7) (σ := L2.start bdN [.ref t, .int c]) B0 (fun ds h => h) (by decide) rfl rfl rfl fun x hx => by
      rw [List.mem_singleton.mp hx, ← hrows]
      exact ⟨_, rfl, tab_rds hT⟩
    have eB : defBody dBad = [bdS 0, bdS 1, bdS 2, bdS 3, bdS 4, bdS 5, bdS 6, bdS 7, bdS 8, bdS 9, bdS 10, bdS 11] := by kernel_rfl
    rw [eB]
    generalize bdS 0 = S0 at B0' ⊢
    generalize bdS 1 = S1 at B1 ⊢
    generalize bdS 2 = S2 at B2 ⊢
    generalize bdS 3 = S3 at B3 ⊢
    generalize bdS 4 = S4 at B4 ⊢
    generalize bdS 5 = S5 at B5 ⊢
    generalize bdS 6 = S6 at B6 ⊢
    generalize bdS 7 = S7 at B7 ⊢
    generalize bdS 8 = S8 at B8 ⊢
    generalize bdS 9 = S9 at B9 ⊢
    generalize bdS 10 = S10 at B10 ⊢
    generalize bdS 11 = S11 at B11 ⊢
    refine ⟨_, pss_cons B0' (pss_cons B1 (pss_cons B2 (pss_cons B3 (pss_cons B4 (pss_cons B5 (pss_cons B6 (pss_cons B7 (pss_cons B8 (pss_cons B9 (pss_cons B10 (pss_one B11))))))))))), ?_⟩
    exact ⟨rfl, rfl, fun σ1 H1 z1 => ⟨z1, fun σ2 H2 z2 => ⟨z2, fun σ3 H3 z3 => ⟨z3, fun σ4 H4 z4 => ⟨z4, fun σ5 H5 z5 => ⟨z5, fun σ6 H6 z6 => ⟨z6, fun σ7 H7 z7 => ⟨z7, fun σ8 H8 z8 => ⟨z8, fun σ9 H9 z9 => ⟨z9, fun σ10 H10 z10 => ⟨z10, fun σ11 H11 z11 => ⟨z11, rfl⟩⟩⟩⟩⟩⟩⟩⟩⟩⟩⟩⟩
end
open PySem L2 PyProof.Rows
theorem boot_repr35 : bootBuiltins "repr" = some (.builtin "repr") := by kernel_rfl
theorem op_neBS {X : Cx} (hu : X.A.units < cLine) : OpR X (compareOp .NotEq) (fun u v H Q => ∃ a c b x, u = .ref a ∧ v = .ref c ∧ H a = some (.lst [.bl b, .str x]) ∧ H c = some (.lst [.bl b, .str x]) ∧ Q (.bl false) H) := by
  intro pins s σ H u v uv vv Q I ru rv h
  obtain ⟨a, c, b, x, rfl, rfl, h1, h2, q⟩ := h
  cases ru
  cases rv
  obtain ⟨its, r, pl, hz⟩ := I.list (SqL.of h1)
  obtain ⟨its2, r2, pl2, hz2⟩ := I.list (SqL.of h2)
  cases r with
  | cons p1 t1 =>
    cases t1 with
    | cons p2 t2 =>
      cases t2
      cases r2 with
      | cons k1 m1 =>
        cases m1 with
        | cons k2 m2 =>
          cases m2
          cases p1
          cases k1
          obtain ⟨tk, rfl⟩ := p2
          obtain ⟨tk2, rfl⟩ := k2
          have R := SeqAt.RcNeAt.lists (A := X.A) (e := fun j => if j = 0 then (b == b) else (x == x)) pl.isList pl2.isList rfl hu (fun j g1 g2 => by
            have g1 : j < 2 := g1
            rcases (show j = 0 ∨ j = 1 by omega) with z | z <;> subst z
            · exact SeqAt.EqAt.bool_bool b b
            · exact SeqAt.EqAt.str_str x tk x tk2)
          have e : (!(List.range [Value.bool b, Value.str x tk].toArray.size).all fun j => if j = 0 then (b == b) else (x == x)) = false := by
            show (!([0, 1] : List Nat).all fun j => if j = 0 then (b == b) else (x == x)) = false
            simp
          rw [e] at R
          exact R _ _ _ _ ⟨.bl false, H, I, rfl, q⟩
theorem given_cases {x : Str} (hx : GivOk x) : (textB x = false ∧ ∀ rows, rows ≠ [] → (∀ r ∈ rows, r ≠ []) → x ≠ tabS rows) ∨ ∃ rows, RowsOf x rows ∧ rows ≠ [] ∧ (∀ r ∈ rows, r ≠ []) ∧ x = tabS rows ∧ ∀ rows', rows' ≠ [] → (∀ r ∈ rows', r ≠ []) → x = tabS rows' → rows' = rows := by
  cases e : textB x with
  | false =>
    refine .inl ⟨rfl, fun rows h1 h2 h3 => ?_⟩
    have : textB x = true := by
      unfold textB
      rw [h3, tabS_split h1, List.all_eq_true]
      intro l hl
      obtain ⟨r, hr, rfl⟩ := List.mem_map.mp hl
      exact rowS_line (h2 r hr)
    rw [e] at this
    cases this
  | true =>
    obtain ⟨rows, h1, h2, h3, h4⟩ := text_of e
    have hR : RowsOf x rows := ⟨h1, h2, h4⟩
    refine .inr ⟨rows, hR, h1, h2, h3, fun rows' k1 k2 k3 => ?_⟩
    have e2 : rows.map rowS = rows'.map rowS := by rw [← h4, k3, tabS_split k1]
    exact (rows_inj e2 h2 k2 fun r hr => ((hR.lens hx.txt).2 r hr).1).symm
section
variable {P : Program} {w : World} {K : PySem.W.Frag} {mg : Str → Option Value} {base : Heap}
def spLaw (K : PySem.W.Frag) : Sp := fun vs H Q _ => ∃ (a : Addr) (ns : List Int), vs = [.ref a] ∧ SqL K H a (ns.map V.int) ∧ ns.length ≤ 63 ∧ ∀ H', Q (.bl true) H'
abbrev l35N : List Str := ["script", "k", "cell", "text", "found", "bad", "kept", "odd"]
theorem sc_law35 : FnScope l35N ["script"] (defScope dLaw) := ⟨rfl, rfl, rfl, by decide +kernel, rfl, by decide +kernel, by decide +kernel⟩
abbrev lodd : List PyData := [.none, .int 0, .list [.str "1"], .list [.list [.int 1]], .bool true, .dict [], .tuple [.int 1]]
theorem pe_lits {X : Cx} (es : List Expr) (pos : Pos) : PE X (.List es pos) (fun _ H Q => ∃ ds, litAll 40 es = some ds ∧ ∀ vs H' p, Same H H' → H' p = some (.lst vs) → RdSs [] H' vs ds → Q (.ref p) H') := fun pins s σ H Q I ⟨ds, h, q⟩ => by
  refine pe_lst (lit_all (Γ := fun B _ _ => B = abE) (fun _ _ _ _ e _ => e) 40 (by decide) h) pins s σ H Q I ⟨abE, rfl, trivial, fun vs H' b j r => ⟨sl6 (by have := litAll_len 40 h; have := r.length; omega), fun p hp => ?_⟩⟩
  exact q vs _ p ((show Same H H' from fun z o e => b _ _ (by simp [abE]) e).trans (Same.new hp)) upd_same (r.same (Same.new hp))
abbrev lwX (P : Program) (w : World) (K : PySem.W.Frag) (mg : Str → Option Value) (base : Heap) (f : Addr) (cdv : Value) (A : Around) (outer : List Env) (s : Shared) (H : Hp) (E : XK) : Cx := (cxOf CX0 P w K mg base l35N "law" (defScope dLaw) f cdv A outer s H E).nox
def lwS (k : Nat) : Stmt := (defBody dLaw).getD k (.Pass ⟨0, 0, 0, 0⟩)
def lwF (k : Nat) : Stmt := (forB (lwS 0)).getD k (.Pass ⟨0, 0, 0, 0⟩)
def lwG (k : Nat) : Stmt := (forB (lwS 1)).getD k (.Pass ⟨0, 0, 0, 0⟩)
end
open PySem L2 PyProof.Rows
section
variable {P : Program} {w : World} {K : PySem.W.Frag} {mg : Str → Option Value} {base : Heap}
theorem lodd_ok : ∀ d ∈ lodd, isStrD d = false := by
  have : lodd.all (fun d => !isStrD d) = true := by decide +kernel
  intro d hd
  have := List.all_eq_true.mp this d hd
  simpa using this
def tStay (C : L2.St → Hp → Prop) : TS := fun E σ H => C σ H ∧ ∀ H', Same H H' → E.nx σ H'
def Fnd (x : Str) (F : Addr) (H : Hp) : Prop := GivOk x ∧ ((∃ rows t prs, rows ≠ [] ∧ (∀ r ∈ rows, r ≠ []) ∧ x = tabS rows ∧ rowsOk rows = true ∧ H F = some (.lst [.bl false, .ref t]) ∧ Tab H t prs ∧ prs.map (·.2) = rows ∧ ∀ p ∈ prs, Bd500 p.2) ∨
  (H F = some (.lst [.bl true, .str "text"]) ∧ ¬ ∃ rows, rows ≠ [] ∧ (∀ r ∈ rows, r ≠ []) ∧ x = tabS rows ∧ rowsOk rows = true))
def C3 (σ : L2.St) (H : Hp) : Prop := ∃ x F, σ[3]? = some (some (.str x)) ∧ σ[4]? = some (some (.ref F)) ∧ Fnd x F H
def C6 (σ : L2.St) (H : Hp) : Prop := ∃ v d, σ[5]? = some (some v) ∧ RdS [] H v d ∧ phB d ∧ σ[6]? = some (some (.str d.shown))
theorem fnd_of {x : Str} (hx : GivOk x) {H : Hp} {Q : VK} (q : ∀ F H', H F = none → Same H H' → Fnd x F H' → Q (.ref F) H') : Asks H Q 0 (.str x) := by
  rcases given_cases hx with ⟨hb, hno⟩ | ⟨rows, hR, h1, h2, h3, hu⟩
  · exact .inr (.inr (.inl ⟨rfl, .inr (.inl ⟨x, rfl, hx.txt, hb⟩), fun F H' hF s e => q F H' hF s ⟨hx, .inr ⟨e, fun ⟨rows, k1, k2, k3, _⟩ => hno rows k1 k2 k3⟩⟩⟩))
  · cases hok : rowsOk rows with
    | true =>
      refine .inl ⟨rfl, x, rows, rfl, hx.txt, hR, hok, fun F t prs H' hF s e hT hrows => q F H' hF s ⟨hx, .inl ⟨rows, t, prs, h1, h2, h3, hok, e, hT, hrows, fun p hp => ?_⟩⟩⟩
      exact hx.bd hR p.2 (by rw [← hrows]; exact List.mem_map.mpr ⟨p, hp, rfl⟩)
    | false =>
      refine .inr (.inr (.inl ⟨rfl, .inr (.inr ⟨x, rows, rfl, hx.txt, hR, hok⟩), fun F H' hF s e => q F H' hF s ⟨hx, .inr ⟨e, fun ⟨rows', k1, k2, k3, k4⟩ => ?_⟩⟩⟩))
      rw [hu rows' k1 k2 k3, hok] at k4
      cases k4
set_option maxHeartbeats 32000000 in
theorem ok_law (T : Blt mg) (hmin : mg "min" = none) (hre : mg "repr" = none) {f : Addr} {fd : FuncData} (F : Fun K "law" "law" dLaw f fd) (G1 : FnAt P w K mg base 1 "_law_cell" ["script", "k"] (spLCell K)) (G2 : FnAt P w K mg base 1 "_law_mixed" ["cell", "k"] spMixed) (G3 : FnAt P w K mg base 2 "_law_table" ["cell", "most"] spTab34)
    (G4 : FnAt P w K mg base 3 "_law_given" ["cell"] spGiv) (G5 : FnAt P w K mg base 8 "_law_asked" ["ask", "thing"] spAsk) (G6 : FnAt P w K mg base 2 "_law_writes" ["text"] spLWr) (G7 : FnAt P w K mg base 1 "_law_bad" ["table", "cell"] spBad) : FnOk P w K mg base CX0 9 f fd ["script"] (spLaw K) := by
  refine F.ok sc_law35 (fun vs H Q E h => ?_) (fun cdv A outer s H vs Q E hr h => ?_)
  · obtain ⟨a, ns, rfl, _⟩ := h
    rfl
  · obtain ⟨a0, ns, rfl, hS, hlen, q⟩ := h
    have nd := sc_law35.nd
    have hr1 : Room 1 _ := hr.mono (show 1 ≤ 8 by decide)
    have hr2 : Room 2 _ := hr.mono (show 2 ≤ 8 by decide)
    have hr3 : Room 3 _ := hr.mono (show 3 ≤ 8 by decide)
    have hu : (lwX P w K mg base f cdv A outer s H E).A.units < cLine := Nat.lt_of_le_of_lt (Nat.le_add_right _ 64) hr.units
    have F0 : PS (lwX P w K mg base f cdv A outer s H E) (lwF 0) _ := ps_set (i := 2) nd rfl (Or.inl rfl) (pe_b call_abs T.abs boot_abs (pa_cons (pe_f G1 hr1 (pa_cons (pv 0) (pa_cons (pv 1) pa_nil))) pa_nil))
    have F1 : PS (lwX P w K mg base f cdv A outer s H E) (lwF 1) _ := ps_set (i := 3) nd rfl (Or.inl rfl) (pe_f G4 hr3 (pa_cons (pv 2) pa_nil))
    have F2 : PS (lwX P w K mg base f cdv A outer s H E) (lwF 2) _ := ps_set (i := 4) nd rfl (Or.inl rfl) (pe_f G5 hr (pa_cons pe_int (pa_cons (pv 3) pa_nil)))
    have F3 : PS (lwX P w K mg base f cdv A outer s H E) (lwF 3) _ := ps_if (pt_val (pe_f G6 hr2 (pa_cons (pv 3) pa_nil)))
          (pss_one (ps_if (PW.pt (pw_or (pt_val (pe_ix ix_list (pv 4) pe_int (fun _ _ => rfl))) (pw_or1 (pt_cmpR (op_neBS hu) (pe_f G5 hr (pa_cons pe_int (pa_cons (pe_ix ix_list (pv 4) pe_int (fun _ _ => rfl)) pa_nil))) (pe_lst (pa_cons pe_bl (pa_cons (pv 3) pa_nil))) (nomark _))))) (pss_one (ps_ret pe_bl)) pss_nil))
          (pss_one (ps_if (pt_cmpR (op_neBS hu) (pv 4) (pe_lst (pa_cons pe_bl (pa_cons pe_str pa_nil))) (nomark _)) (pss_one (ps_ret pe_bl)) pss_nil))
    have F4 : PS (lwX P w K mg base f cdv A outer s H E) (lwF 4) _ := ps_set (i := 5) nd rfl (Or.inl rfl) (pe_f G7 hr1 (pa_cons (pe_f G3 hr2 (pa_cons (pe_f G2 hr1 (pa_cons (pv 2) (pa_cons pe_int pa_nil))) (pa_cons pe_int pa_nil))) (pa_cons (pe_f G2 hr1 (pa_cons (pv 2) (pa_cons pe_int pa_nil))) pa_nil)))
    have F5 : PS (lwX P w K mg base f cdv A outer s H E) (lwF 5) _ := ps_set (i := 6) nd rfl (Or.inl rfl) (pe_b (call_reprS hr.gd hr.units) hre boot_repr35 (pa_cons (pv 5) pa_nil))
    have F6 : PS (lwX P w K mg base f cdv A outer s H E) (lwF 6) _ := ps_if (PW.pt (pw_or (pt_cmpR (op_neBS hu) (pe_f G5 hr (pa_cons pe_int (pa_cons (pv 5) pa_nil))) (pe_lst (pa_cons pe_bl (pa_cons pe_str pa_nil))) (nomark _)) (pw_or1 (pt_cmpR op_ne (pe_b (call_reprS hr.gd hr.units) hre boot_repr35 (pa_cons (pv 5) pa_nil)) (pv 6) (nomark _))))) (pss_one (ps_ret pe_bl)) pss_nil
    have F2' : PS (lwX P w K mg base f cdv A outer s H E) (lwF 2) (fun E σ H => ∃ x, σ[3]? = some (some (.str x)) ∧ σ.length = 8 ∧ GivOk x ∧ ∀ F H', Same H H' → C3 (σ.set 4 (some (.ref F))) H' → E.nx (σ.set 4 (some (.ref F))) H') := ps_sub F2 fun E σ H ⟨x, e3, e8, hx, q⟩ =>
      ⟨_, e3, 0, .str x, rfl, fnd_of hx fun F H' _ sm hF => q F H' sm ⟨x, F, get_ne e3 (by decide), get_eq (by rw [e8]; decide), hF⟩⟩
    have F3' : PS (lwX P w K mg base f cdv A outer s H E) (lwF 3) (tStay C3) := ps_sub F3 fun E σ H ⟨⟨x, F, e3, e4, hx, hc⟩, q⟩ => by
      refine ⟨_, e3, x, rfl, hx.1, hx.2.1, hx.txt.2.2, fun b H1 hb s1 => ⟨_, rfl, ?_⟩⟩
      rcases hc with ⟨rows, t, prs, k1, k2, k3, k4, eF, hT, hrows, hbd⟩ | ⟨eF, hno⟩
      · have hb : b = true := hb.mpr ⟨rows, k1, k2, k3, k4⟩
        subst hb
        refine iteT ⟨_, e4, F, _, 0, _, rfl, rfl, SqL.of (s1 _ _ eF), rfl, _, rfl, iteF ⟨_, e4, F, _, 1, _, rfl, rfl, SqL.of (s1 _ _ eF), rfl, 1, .ref t, rfl, .inr (.inl ⟨rfl, t, prs, rfl, hT.same s1, by rw [rowsOk_of rfl, hrows]; exact k4, hbd, fun F2 H2 hF2 s2 e2 => ?_⟩)⟩⟩
        refine ⟨_, e3, len2, fun l hl => ⟨F2, l, false, x, rfl, rfl, ?_, upd_same, _, rfl, iteF (q _ ((s1.trans s2).trans (Same.new hl)))⟩⟩
        rw [k3, ← hrows]
        exact Same.new hl _ _ e2
      · have hb : b = false := by
          cases b with
          | false => rfl
          | true => exact absurd (hb.mp rfl) hno
        subst hb
        exact iteF ⟨_, e4, len2, fun l hl => ⟨F, l, true, "text", rfl, rfl, Same.new hl _ _ (s1 _ _ eF), upd_same, _, rfl, iteF (q _ (s1.trans (Same.new hl)))⟩⟩
    have F6' : PS (lwX P w K mg base f cdv A outer s H E) (lwF 6) (tStay C6) := ps_sub F6 fun E σ H ⟨⟨v, d, e5, rd, hd, e6⟩, q⟩ => by
      refine ⟨_, e5, 1, v, rfl, .inr (.inr (.inr ⟨rfl, ⟨d, rd, hd.1⟩, fun F2 H2 hF2 s2 e2 => ?_⟩))⟩
      refine ⟨len2, fun l hl => ⟨F2, l, true, "table", rfl, rfl, Same.new hl _ _ e2, upd_same, _, rfl, iteF ?_⟩⟩
      have s3 := s2.trans (Same.new (o := .lst [.bl true, .str "table"]) hl)
      obtain ⟨z1, z2, z3⟩ := hd.2
      refine ⟨_, e5, v, d, rfl, rd.same s3, z1, Nat.le_trans z2 (by decide), by omega, _, e6, rfl, _, rfl, ?_⟩
      rw [show (!decide (V.str d.shown = V.str d.shown)) = false by simp]
      exact iteF (q _ s3)
    have Lp := pss_cons F0 (pss_cons F1 (pss_cons F2' (pss_cons F3' (pss_cons F4 (pss_cons F5 (pss_one F6'))))))
    have G0 : PS (lwX P w K mg base f cdv A outer s H E) (lwG 0) _ := ps_if (pt_cmpR (op_neBS hu) (pe_f G5 hr (pa_cons pe_int (pa_cons (pv 7) pa_nil))) (pe_lst (pa_cons pe_bl (pa_cons pe_str pa_nil))) (nomark _)) (pss_one (ps_ret pe_bl)) pss_nil
    have Lq := pss_one G0
    have S0 : PS (lwX P w K mg base f cdv A outer s H E) (lwS 0) _ := ps_for PassesOwn.never rfl (pi_range1 rfl T.rng (pa_cons (pe_b (call_max2 rfl) T.max boot_max (pa_cons pe_int (pa_cons (pe_b (call_min2 rfl) hmin boot_min (pa_cons (pe_b call_len_seq T.len boot_len (pa_cons (pv 0) pa_nil)) (pa_cons pe_int pa_nil))) pa_nil))) pa_nil)) (pg_name (i := 1) nd rfl (Or.inl rfl)) Lp
    have L1 := fun (es : List Expr) (p1 p2 p3 : Pos) => ps_for (X := lwX P w K mg base f cdv A outer s H E) (pos := p2) PassesOwn.never rfl (pi_list (pe_lits es p1)) (pg_name (x := "odd") (pos := p3) (i := 7) nd rfl (Or.inl rfl)) Lq
    have S1 : PS (lwX P w K mg base f cdv A outer s H E) (lwS 1) _ := L1 _ _ _ _
    have S2 : PS (lwX P w K mg base f cdv A outer s H E) (lwS 2) _ := ps_ret pe_bl
    have eB : defBody dLaw = [lwS 0, lwS 1, lwS 2] := by kernel_rfl
    rw [eB]
    generalize lwS 0 = T0 at S0 ⊢
    generalize lwS 1 = T1 at S1 ⊢
    generalize lwS 2 = T2 at S2 ⊢
    clear F0 F1 F2 F3 F4 F5 F6 F2' F3' F6' Lp G0 Lq L1
    refine ⟨_, pss_cons S0 (pss_cons S1 (pss_one S2)), ?_⟩
    refine ⟨_, rfl, a0, _, rfl, .inl hS, _, _, rfl, _, _, rfl, ?_⟩
    rw [List.length_map]
    have hb : ∀ y : Int, y = (if (if (63 : Int) < (ns.length : Int) then 63 else (ns.length : Int)) > 16 then (if (63 : Int) < (ns.length : Int) then 63 else (ns.length : Int)) else 16) → 0 ≤ y ∧ y ≤ 63 := fun y hy => by
      subst hy
      split
      · split at * <;> omega
      · omega
    have hb := hb _ rfl
    generalize (if (if (63 : Int) < (ns.length : Int) then 63 else (ns.length : Int)) > 16 then (if (63 : Int) < (ns.length : Int) then 63 else (ns.length : Int)) else 16) = many at hb ⊢
    refine ⟨many, rfl, by omega, by omega, for_range (fun i σ H2 => ∃ (o1 o2 o3 o4 o5 o6 o7 : Option V), σ = [some (.ref a0), o1, o2, o3, o4, o5, o6, o7] ∧ Same H H2) ⟨none, none, none, none, none, none, none, rfl, Same.refl _⟩ ?_ (fun σ H2 ⟨o1, o2, o3, o4, o5, o6, o7, es, sm⟩ => ?_)⟩
    · rintro i σ H2 hi ⟨o1, o2, o3, o4, o5, o6, o7, rfl, sm⟩
      refine ⟨_, rfl, _, rfl, a0, ns, i, by rw [Int.zero_add], sm.seq hS, by omega, fun c => ⟨c, rfl, ?_⟩⟩
      have hcell : 0 ≤ (if c < 0 then -c else c) := by split <;> omega
      generalize (if c < 0 then -c else c) = cell at hcell ⊢
      refine ⟨_, rfl, cell, rfl, hcell, fun x H3 hx s3 => ⟨x, rfl, rfl, hx, fun F H4 s4 c3 => ⟨c3, fun H5 s5 => ?_⟩⟩⟩
      refine ⟨_, rfl, cell, 5, rfl, by decide, fun v H6 v0 v1 s6 => ⟨v, rfl, v0, fun t prs H7 ht hpn hnd s7 hT hg hb27 => ⟨_, rfl, cell, 6, rfl, by decide, fun v2 H8 v20 v21 s8 => ⟨t, prs, v2, rfl, hT.same s8, hg, hb27, v20, fun y d H9 rd hd s9 => ?_⟩⟩⟩⟩
      obtain ⟨z1, z2, z3⟩ := id hd.2
      refine ⟨_, rfl, y, d, rfl, rd, z1, Nat.le_trans z2 (by decide), by omega, ?_⟩
      refine ⟨⟨y, d, rfl, rd, hd, rfl⟩, fun H10 s10 => ⟨_, _, _, _, _, _, _, rfl, ?_⟩⟩
      exact ((((((sm.trans s3).trans s4).trans s5).trans s6).trans s7).trans s8).trans (s9.trans s10)
    · subst es
      refine ⟨lodd, by kernel_rfl, fun vs H3 L s3 eL rv => ?_⟩
      have lv : vs.length = 7 := by rw [rv.length]; rfl
      refine ⟨L, rfl, ⟨_, SqL.of eL⟩, for_list (xs := vs) (fun i σ H4 => ∃ (o1 o2 o3 o4 o5 o6 o7 : Option V), σ = [some (.ref a0), o1, o2, o3, o4, o5, o6, o7] ∧ Same H3 H4) ⟨_, _, _, _, _, _, _, rfl, Same.refl _⟩ (fun i σ H4 _ ⟨_, _, _, _, _, _, _, _, s4⟩ => SqL.of (s4 _ _ eL)) (fun i x σ H4 hi ⟨o1, o2, o3, o4, o5, o6, o7, es, s4⟩ => ?_) (fun σ H4 _ => q _)⟩
      subst es
      have hi7 : i < 7 := by rw [← lv]; exact (List.getElem?_eq_some_iff.mp hi).1
      obtain ⟨o, ho⟩ : ∃ o, lodd[i]? = some o := ⟨_, List.getElem?_eq_getElem (show i < lodd.length from hi7)⟩
      obtain ⟨x', e1, r1⟩ := rdss_at rv ho
      rw [hi] at e1
      cases e1
      refine ⟨_, rfl, 0, x, rfl, .inr (.inr (.inl ⟨rfl, .inl ⟨o, r1.same s4, lodd_ok o (List.mem_of_getElem? ho)⟩, fun F2 H5 hF2 s5 e5 => ?_⟩))⟩
      exact ⟨len2, fun l hl => ⟨F2, l, true, "text", rfl, rfl, Same.new hl _ _ e5, upd_same, _, rfl, iteF ⟨_, _, _, _, _, _, _, rfl, (s4.trans s5).trans (Same.new hl)⟩⟩⟩
end
open PySem L2 PyProof.Rows
theorem defAt_mk {K : PySem.W.Frag} {h : Heap} {mg : Str → Option Value} {x : Str} {st : Stmt} {ps : List Str} {f : Addr} (X : K.In h) (G : h.Ns mainGlobals mg) {od an : Option Addr} {sl : Array (Option Value)} {oc kV dc pm cd ct : Value}
    (a : PySem.W.nsIn K mainGlobals x = some (some (.ref f))) (l : K.lookup f = some ⟨oc, od, .func (PySem.W.fnOf x x (defArgs st) (defBody st) (defScope st) .none kV dc pm an cd ct), sl⟩) (c : PySem.W.codeIn K cd x = true) (k : PySem.W.keepIn K (.ref f) = true)
    (b : ∀ (kV doc pm : Value) (an : Option Addr) (cdv ct : Value) (us : List Value), us.length = ps.length → bindArgs (PySem.W.fnOf x x (defArgs st) (defBody st) (defScope st) .none kV doc pm an cdv ct) ⟨us, []⟩ = pure (ps.zip us)) : DefAt K mg x st ps := by
  have F := fun_mk (st := st) l c k
  exact ⟨f, _, F, PySem.W.mg_of X G a, F.binds b⟩
theorem blt_mk {K : PySem.W.Frag} {h : Heap} {mg : Str → Option Value} {t1 t2 : Tok} (X : K.In h) (G : h.Ns mainGlobals mg) (e1 : PySem.W.nsIn K mainGlobals "len" = some none) (e2 : PySem.W.nsIn K mainGlobals "all" = some none) (e3 : PySem.W.nsIn K mainGlobals "isinstance" = some none)
    (e4 : PySem.W.nsIn K mainGlobals "range" = some none) (e5 : PySem.W.nsIn K mainGlobals "int" = some none) (e6 : PySem.W.nsIn K mainGlobals "bool" = some none) (e7 : PySem.W.nsIn K mainGlobals "list" = some none) (e8 : PySem.W.nsIn K mainGlobals "enumerate" = some none)
    (e9 : PySem.W.nsIn K mainGlobals "abs" = some none) (e10 : PySem.W.nsIn K mainGlobals "max" = some none) (e11 : PySem.W.nsIn K mainGlobals "MOST_ROWS" = some (some (.int 6 t1))) (e12 : PySem.W.nsIn K mainGlobals "MOST_PLACES" = some (some (.int 6 t2))) : Blt mg :=
  ⟨PySem.W.mg_none_of X G e1, PySem.W.mg_none_of X G e2, PySem.W.mg_none_of X G e3, PySem.W.mg_none_of X G e4, PySem.W.mg_none_of X G e5, PySem.W.mg_none_of X G e6, PySem.W.mg_none_of X G e7, PySem.W.mg_none_of X G e8, PySem.W.mg_none_of X G e9, PySem.W.mg_none_of X G e10,
    ⟨_, PySem.W.mg_of X G e11⟩, ⟨_, PySem.W.mg_of X G e12⟩⟩
theorem walk {l : PySem.W.OpenLaw} {q : Program} {loose : List Str} {XP : (Str → Option Value) → Heap → Prop} {YP : World → Heap → Prop} {d : DefRec} {K : Params → PySem.W.Frag} (hn : l.most = some 63) (hdf : d.params.defaults = [])
    (hY : ∀ (w : World) (h : Heap), YP w h → (K w.params).In h)
    (F : ∀ (w : World) (mg : Str → Option Value) (fa : Addr) (h : Heap), (K w.params).In h → h.Ns mainGlobals mg → mg d.name = some (.ref fa) →
      ∃ fd : FuncData, (∀ (s : Shared) (u : Value), BindsTo s fd ⟨[u], []⟩ [("script", u)]) ∧ ∀ base : Heap, (K w.params).In base → base.Ns mainGlobals mg → FnOk l.prog w (K w.params) mg base CX0 20 fa fd ["script"] (spLaw (K w.params))) :
    PySem.W.WalkO q loose XP YP l.row.toRowW d [] (fun f vs => PySem.call f vs) :=
  L2.walk_of (n := 63) (k := 20) (x := "script") (CX := fun _ => CX0) (sp := fun w => spLaw (K w.params)) hn (by decide) hdf ⟨rfl, by decide, by decide, rfl⟩ hY F (fun _ _ a ns hl _ hS => ⟨a, ns, rfl, hS, hl, fun _ => rfl⟩) fun _ _ _ _ _ z => z
open PySem L2 PyProof.Rows
theorem nms_mk {K : PySem.W.Frag} {h : Heap} {mg : Str → Option Value} {S a0 a1 a2 a3 a4 a5 a6 a7 a8 a9 a10 a11 : Addr} (X : K.In h) (G : h.Ns mainGlobals mg) (e : PySem.W.nsIn K mainGlobals "SeekError" = some (some (.ref S))) (e0 : PySem.W.nsIn K mainGlobals "NoTable" = some (some (.ref a0))) (e1 : PySem.W.nsIn K mainGlobals "NoCell" = some (some (.ref a1)))
    (e2 : PySem.W.nsIn K mainGlobals "NoNumber" = some (some (.ref a2))) (e3 : PySem.W.nsIn K mainGlobals "NoSize" = some (some (.ref a3))) (e4 : PySem.W.nsIn K mainGlobals "NoStair" = some (some (.ref a4))) (e5 : PySem.W.nsIn K mainGlobals "NoLook" = some (some (.ref a5)))
    (e6 : PySem.W.nsIn K mainGlobals "NoPlace" = some (some (.ref a6))) (e7 : PySem.W.nsIn K mainGlobals "NoFit" = some (some (.ref a7))) (e8 : PySem.W.nsIn K mainGlobals "NoChange" = some (some (.ref a8))) (e9 : PySem.W.nsIn K mainGlobals "NoText" = some (some (.ref a9)))
    (e10 : PySem.W.nsIn K mainGlobals "NoName" = some (some (.ref a10))) (e11 : PySem.W.nsIn K mainGlobals "NoRow" = some (some (.ref a11))) : Nms mg S [a0, a1, a2, a3, a4, a5, a6, a7, a8, a9, a10, a11] :=
  ⟨rfl, PySem.W.mg_of X G e, PySem.W.mg_of X G e0, PySem.W.mg_of X G e1, PySem.W.mg_of X G e2, PySem.W.mg_of X G e3, PySem.W.mg_of X G e4, PySem.W.mg_of X G e5, PySem.W.mg_of X G e6, PySem.W.mg_of X G e7, PySem.W.mg_of X G e8, PySem.W.mg_of X G e9, PySem.W.mg_of X G e10, PySem.W.mg_of X G e11⟩
theorem err_mk {K : PySem.W.Frag} {S C a0 a1 a2 a3 a4 a5 a6 a7 a8 a9 a10 a11 : Addr} {i : Nat} (k : ExcK K C) (sk : PySem.W.mroIn K C (.ref S) = some true) (kv : PySem.W.kitOne K (.ref C) (.type "ValueError") = some true)
    (k0 : PySem.W.kitOne K (.ref C) (.ref a0) = some (decide (0 = i))) (k1 : PySem.W.kitOne K (.ref C) (.ref a1) = some (decide (1 = i))) (k2 : PySem.W.kitOne K (.ref C) (.ref a2) = some (decide (2 = i))) (k3 : PySem.W.kitOne K (.ref C) (.ref a3) = some (decide (3 = i)))
    (k4 : PySem.W.kitOne K (.ref C) (.ref a4) = some (decide (4 = i))) (k5 : PySem.W.kitOne K (.ref C) (.ref a5) = some (decide (5 = i))) (k6 : PySem.W.kitOne K (.ref C) (.ref a6) = some (decide (6 = i))) (k7 : PySem.W.kitOne K (.ref C) (.ref a7) = some (decide (7 = i)))
    (k8 : PySem.W.kitOne K (.ref C) (.ref a8) = some (decide (8 = i))) (k9 : PySem.W.kitOne K (.ref C) (.ref a9) = some (decide (9 = i))) (k10 : PySem.W.kitOne K (.ref C) (.ref a10) = some (decide (10 = i))) (k11 : PySem.W.kitOne K (.ref C) (.ref a11) = some (decide (11 = i))) :
    Err K S [a0, a1, a2, a3, a4, a5, a6, a7, a8, a9, a10, a11] i C :=
  ⟨k, sk, kv, fun j D h => match j, h with
    | 0, h => by cases h; exact k0
    | 1, h => by cases h; exact k1
    | 2, h => by cases h; exact k2
    | 3, h => by cases h; exact k3
    | 4, h => by cases h; exact k4
    | 5, h => by cases h; exact k5
    | 6, h => by cases h; exact k6
    | 7, h => by cases h; exact k7
    | 8, h => by cases h; exact k8
    | 9, h => by cases h; exact k9
    | 10, h => by cases h; exact k10
    | 11, h => by cases h; exact k11
    | n + 12, h => by simp at h⟩
open PySem L2 PyProof.Rows
theorem all_mk {l : PySem.W.OpenLaw} {w : World} {K : PySem.W.Frag} {mg : Str → Option Value} {fa S a0 a1 a2 a3 a4 a5 a6 a7 a8 a9 a10 a11 : Addr} (hfa : mg "law" = some (.ref fa)) (T : Blt mg) (h_min : mg "min" = none) (h_str : mg "str" = none) (h_sorted : mg "sorted" = none) (h_tuple : mg "tuple" = none) (h_repr : mg "repr" = none) (h_ValueError : mg "ValueError" = none) (h_fig : ∃ t, mg "FIGURES" = some (.str figS t)) (N : Nms mg S [a0, a1, a2, a3, a4, a5, a6, a7, a8, a9, a10, a11]) (kS : ExcK K S) (E0 : Err K S [a0, a1, a2, a3, a4, a5, a6, a7, a8, a9, a10, a11] 0 a0) (E9 : Err K S [a0, a1, a2, a3, a4, a5, a6, a7, a8, a9, a10, a11] 9 a9)
    (d_is_whole : DefAt K mg "is_whole" dIsWhole ["thing"])
    (d_all_whole : DefAt K mg "all_whole" dAllWhole ["things"])
    (d_never_falls : DefAt K mg "never_falls" dNeverFalls ["numbers"])
    (d_is_row : DefAt K mg "is_row" dIsRow ["thing"])
    (d_has_table_shape : DefAt K mg "has_table_shape" dShape ["thing"])
    (d_numbers_at_place : DefAt K mg "numbers_at_place" dAtPlace ["table", "place"])
    (d_is_sorted_both_ways : DefAt K mg "is_sorted_both_ways" dSorted ["table"])
    (d_is_table : DefAt K mg "is_table" dIsTable ["thing"])
    (d_need_table : DefAt K mg "need_table" dNeedTable ["thing"])
    (d_writes_count : DefAt K mg "writes_count" dWCount ["word"])
    (d_writes_number : DefAt K mg "writes_number" dWNumber ["word"])
    (d_show_row : DefAt K mg "show_row" dShowRow ["row"])
    (d_show_table : DefAt K mg "show_table" dShowTable ["table"])
    (d_read_row : DefAt K mg "read_row" dReadRow ["line"])
    (d_read_table : DefAt K mg "read_table" dReadTable ["text"])
    (d__law_cell : DefAt K mg "_law_cell" dLCell ["script", "k"])
    (d__law_mixed : DefAt K mg "_law_mixed" dMixed ["cell", "k"])
    (d__law_table : DefAt K mg "_law_table" dTable ["cell", "most"])
    (d__law_written : DefAt K mg "_law_written" dWritten ["table"])
    (d__law_number : DefAt K mg "_law_number" dLNumber ["word"])
    (d__law_sorted : DefAt K mg "_law_sorted" dLSorted ["table"])
    (d__law_writes : DefAt K mg "_law_writes" dWrites ["text"])
    (d__law_odd : DefAt K mg "_law_odd" dOdd ["cell"])
    (d__law_given : DefAt K mg "_law_given" dGiven ["cell"])
    (d__law_asked : DefAt K mg "_law_asked" dAsked ["ask", "thing"])
    (d__law_bad : DefAt K mg "_law_bad" dBad ["table", "cell"])
    (d_law : DefAt K mg "law" dLaw ["script"])
    : ∃ fd : FuncData, (∀ (s : Shared) (v : Value), BindsTo s fd ⟨[v], []⟩ [("script", v)]) ∧ ∀ base : Heap, K.In base → base.Ns mainGlobals mg → FnOk l.prog w K mg base CX0 20 fa fd ["script"] (spLaw K) := by
  obtain ⟨f, fd, F, hm, hb⟩ := d_law
  have e := hfa.symm.trans hm
  cases e
  refine ⟨fd, ?_, fun base _ _ => ?_⟩
  · obtain ⟨oc, od, kV, doc, pm, an, cdv, ct, osl, rfl, lk, hcd⟩ := F.ex
    exact fun s v => .of_eq rfl
  · have g_is_whole := ok_isWholeA (P := l.prog) (w := w) (base := base) T d_is_whole
    have g_is_wholeI := ok_isWhole (P := l.prog) (w := w) (base := base) T d_is_whole
    have g_all_whole := ok_allWholeA T d_all_whole g_is_whole
    have g_all_wholeI := ok_allWhole T d_all_whole g_is_wholeI
    have g_never_falls := ok_nf (P := l.prog) (w := w) (base := base) T d_never_falls
    have g_is_row := ok_isRowA T d_is_row g_all_whole
    have g_is_rowI := ok_isRow T d_is_row g_all_wholeI
    have g_has_table_shape := ok_shapeA T d_has_table_shape g_is_row
    have g_has_table_shapeI := ok_shape T d_has_table_shape g_is_rowI
    have g_numbers_at_place := ok_atPlace (P := l.prog) (w := w) (base := base) d_numbers_at_place
    have g_is_sorted_both_ways := ok_sorted T d_is_sorted_both_ways g_never_falls g_numbers_at_place
    have g_is_table := ok_isTableA d_is_table g_has_table_shape g_is_sorted_both_ways
    have g_is_tableI := ok_isTable d_is_table g_has_table_shapeI g_is_sorted_both_ways
    have g_need_table := ok_needTX E0.k N.n0 d_need_table g_is_table
    have g_need_tableI := ok_needTable d_need_table g_is_tableI
    have g_writes_count := ok_wCountA (P := l.prog) (w := w) (base := base) T h_fig d_writes_count
    have g_writes_number := ok_wNumberA d_writes_number g_writes_count
    have g_show_row := ok_showRow (P := l.prog) (w := w) (base := base) h_str d_show_row
    have g_show_table := ok_showTable d_show_table g_need_tableI g_show_row
    have g_show_tableX := ok_showTableX d_show_table g_need_table
    have g_read_row := ok_readRowA T d_read_row g_writes_number
    have g_read_rowX := ok_readRowX T E9.k N.n9 d_read_row g_writes_number
    have g_read_table := ok_readTableA T h_str d_read_table g_read_row g_is_tableI
    have g_read_tableX1 := ok_readTableX1 (P := l.prog) (w := w) (base := base) T h_str E9.k N.n9 d_read_table
    have g_read_tableX2 := ok_readTableX2 T h_str E9.k N.n9 d_read_table g_read_row g_read_rowX
    have g_read_tableX3 := ok_readTableX3 T h_str E9.k N.n9 d_read_table g_read_row g_is_tableI
    have g__law_cell := ok_lcell (P := l.prog) (w := w) (base := base) T d__law_cell
    have g__law_mixed := ok_mixed (P := l.prog) (w := w) (base := base) d__law_mixed
    have g__law_table := ok_tab34 T d__law_table g__law_mixed
    have g__law_written := ok_written (P := l.prog) (w := w) (base := base) h_str d__law_written
    have g__law_number := ok_lnum (P := l.prog) (w := w) (base := base) T d__law_number
    have g__law_sorted := ok_lsrt (P := l.prog) (w := w) (base := base) T h_sorted d__law_sorted
    have g__law_writes := ok_lwr d__law_writes g__law_number g__law_sorted
    have g__law_odd := ok_odd (P := l.prog) (w := w) (base := base) T d__law_odd
    have g__law_given := ok_given T d__law_given g__law_odd g__law_mixed g__law_table g__law_written
    have g__law_asked := ok_ask T h_ValueError N kS E0 E9 d__law_asked g_read_table g_read_tableX1 g_read_tableX2 g_read_tableX3 g_show_table g_show_tableX
    have g__law_bad := ok_bad (P := l.prog) (w := w) (base := base) T h_tuple h_min d__law_bad
    exact FnOk.mono (ok_law T h_min h_repr F g__law_cell g__law_mixed g__law_table g__law_given g__law_asked g__law_writes g__law_bad) (by decide)
open PySem L2 PyProof.Rows
theorem figS_is : figS = ⟨#[48, 49, 50, 51, 52, 53, 54, 55, 56, 57]⟩ := by
  have e : figS.cps.toList = [48, 49, 50, 51, 52, 53, 54, 55, 56, 57] := by decide +kernel
  have e2 : figS.cps = #[48, 49, 50, 51, 52, 53, 54, 55, 56, 57] := Array.ext' e
  generalize figS = f at *
  cases f; simp only at e2; rw [e2]
theorem fig_mk {K : PySem.W.Frag} {h : Heap} {mg : Str → Option Value} {t} (X : K.In h) (G : h.Ns mainGlobals mg) (e : PySem.W.nsIn K mainGlobals "FIGURES" = some (some (.str ⟨#[48, 49, 50, 51, 52, 53, 54, 55, 56, 57]⟩ t))) : ∃ t, mg "FIGURES" = some (.str figS t) :=
  ⟨t, by rw [figS_is]; exact PySem.W.mg_of X G e⟩
end Seek
def PySem.W.Fast.tw10071311414769707002 : Unit := ()
def PySem.W.Fast.tw11614936375424803398 : Unit := ()
def PySem.W.Fast.tw11981928485427944500 : Unit := ()
def PySem.W.Fast.tw12000559175840302941 : Unit := ()
def PySem.W.Fast.tw12181746075105947877 : Unit := ()
def PySem.W.Fast.tw1229041699482655783 : Unit := ()
def PySem.W.Fast.tw12331960374112981203 : Unit := ()
def PySem.W.Fast.tw13412935967865240265 : Unit := ()
def PySem.W.Fast.tw13863982086239318580 : Unit := ()
def PySem.W.Fast.tw14136969444149233577 : Unit := ()
def PySem.W.Fast.tw14385843396343768262 : Unit := ()
def PySem.W.Fast.tw15446625997603259739 : Unit := ()
def PySem.W.Fast.tw15471968165537879933 : Unit := ()
def PySem.W.Fast.tw16993050323084577928 : Unit := ()
def PySem.W.Fast.tw17532699067846543025 : Unit := ()
def PySem.W.Fast.tw17546276451584285239 : Unit := ()
def PySem.W.Fast.tw17662417570894224555 : Unit := ()
def PySem.W.Fast.tw17682319637427329203 : Unit := ()
def PySem.W.Fast.tw17704176675912862346 : Unit := ()
def PySem.W.Fast.tw18185215653617160013 : Unit := ()
def PySem.W.Fast.tw2489961854645736920 : Unit := ()
def PySem.W.Fast.tw3027042952920196107 : Unit := ()
def PySem.W.Fast.tw3069688111227685762 : Unit := ()
def PySem.W.Fast.tw3088545859426705070 : Unit := ()
def PySem.W.Fast.tw6485045766533943628 : Unit := ()
def PySem.W.Fast.tw6529000298226588565 : Unit := ()
def PySem.W.Fast.tw7632626862293102659 : Unit := ()
def PySem.W.Fast.tw8516790595155097271 : Unit := ()
def PySem.W.Fast.tw8724146482464981969 : Unit := ()
def PySem.W.Fast.tw8883506826074847406 : Unit := ()
def PySem.W.Fast.tw8997895124056004900 : Unit := ()
def PySem.W.Fast.tw9259530970568336463 : Unit := ()
def PySem.W.Fast.tw9524526949802181377 : Unit := ()
def PySem.W.Fast.tw9751973741072978490 : Unit := ()
open PySem PySem.W PyProof.Rows
set_option maxRecDepth 100000 in
set_option maxHeartbeats 0 in
theorem PySem.Challenge.cw_stairseek_k35_texts_that_write_no_table_holds : PySem.Challenge.rw_stairseek_k35_texts_that_write_no_table.Holds := by
  w_on; o_law; k_head; (case hw => w_witness2)
  k_fill
  refine Seek.walk (l := PySem.Challenge.rw_stairseek_k35_texts_that_write_no_table) rfl rfl (fun w h Y => PySem.W.kIn_of Y) ?F
  case F =>
    intro w mg fa h KX G hmg
    refine' Seek.all_mk hmg ?T ?x_min ?x_str ?x_sorted ?x_tuple ?x_repr ?x_ValueError ?x_fig ?zN ?zS ?zE0 ?zE9 ?d_is_whole ?d_all_whole ?d_never_falls ?d_is_row ?d_has_table_shape ?d_numbers_at_place ?d_is_sorted_both_ways ?d_is_table ?d_need_table ?d_writes_count ?d_writes_number ?d_show_row ?d_show_table ?d_read_row ?d_read_table ?d__law_cell ?d__law_mixed ?d__law_table ?d__law_written ?d__law_number ?d__law_sorted ?d__law_writes ?d__law_odd ?d__law_given ?d__law_asked ?d__law_bad ?d_law
    case T =>
      refine' Seek.blt_mk KX G ?e1 ?e2 ?e3 ?e4 ?e5 ?e6 ?e7 ?e8 ?e9 ?e10 ?e11 ?e12
      (case e1 => k_is); (case e2 => k_is); (case e3 => k_is); (case e4 => k_is); (case e5 => k_is); (case e6 => k_is); (case e7 => k_is); (case e8 => k_is); (case e9 => k_is); (case e10 => k_is); (case e11 => k_is); (case e12 => k_is)
    case x_min =>
      refine' PySem.W.mg_none_of KX G ?e
      (case e => k_is)
    case x_str =>
      refine' PySem.W.mg_none_of KX G ?e
      (case e => k_is)
    case x_sorted =>
      refine' PySem.W.mg_none_of KX G ?e
      (case e => k_is)
    case x_tuple =>
      refine' PySem.W.mg_none_of KX G ?e
      (case e => k_is)
    case x_repr =>
      refine' PySem.W.mg_none_of KX G ?e
      (case e => k_is)
    case x_ValueError =>
      refine' PySem.W.mg_none_of KX G ?e
      (case e => k_is)
    case x_fig =>
      refine' Seek.fig_mk KX G ?e
      (case e => k_is)
    case zN =>
      refine' Seek.nms_mk KX G ?e ?e0 ?e1 ?e2 ?e3 ?e4 ?e5 ?e6 ?e7 ?e8 ?e9 ?e10 ?e11
      (case e => k_is); (case e0 => k_is); (case e1 => k_is); (case e2 => k_is); (case e3 => k_is); (case e4 => k_is); (case e5 => k_is); (case e6 => k_is); (case e7 => k_is); (case e8 => k_is); (case e9 => k_is); (case e10 => k_is); (case e11 => k_is)
    case zS =>
      refine' L2.ExcK.mk ?exc ?ga ?gt ?cl ?ob ?bx
      (case exc => k_exc); (case ga => k_is); (case gt => k_is); (case cl => k_is); (case ob => k_is); (case bx => k_is)
    case zE0 =>
      refine' Seek.err_mk (L2.ExcK.mk ?exc ?ga ?gt ?cl ?ob ?bx) ?sk ?kv ?k0 ?k1 ?k2 ?k3 ?k4 ?k5 ?k6 ?k7 ?k8 ?k9 ?k10 ?k11
      (case exc => k_exc); (case ga => k_is); (case gt => k_is); (case cl => k_is); (case ob => k_is); (case bx => k_is)
      (case sk => k_is); (case kv => kit_is); (case k0 => kit_is); (case k1 => kit_is); (case k2 => kit_is); (case k3 => kit_is); (case k4 => kit_is); (case k5 => kit_is); (case k6 => kit_is); (case k7 => kit_is); (case k8 => kit_is); (case k9 => kit_is); (case k10 => kit_is); (case k11 => kit_is)
    case zE9 =>
      refine' Seek.err_mk (L2.ExcK.mk ?exc ?ga ?gt ?cl ?ob ?bx) ?sk ?kv ?k0 ?k1 ?k2 ?k3 ?k4 ?k5 ?k6 ?k7 ?k8 ?k9 ?k10 ?k11
      (case exc => k_exc); (case ga => k_is); (case gt => k_is); (case cl => k_is); (case ob => k_is); (case bx => k_is)
      (case sk => k_is); (case kv => kit_is); (case k0 => kit_is); (case k1 => kit_is); (case k2 => kit_is); (case k3 => kit_is); (case k4 => kit_is); (case k5 => kit_is); (case k6 => kit_is); (case k7 => kit_is); (case k8 => kit_is); (case k9 => kit_is); (case k10 => kit_is); (case k11 => kit_is)
    case d_is_whole =>
      refine' Seek.defAt_mk KX G ?a ?l ?c ?k ?b
      (case a => k_is); (case l => k_is); (case c => k_is); (case k => k_is)
      case b => exact fun _ _ _ _ _ _ us hl => match us, hl with | [_], _ => rfl
    case d_all_whole =>
      refine' Seek.defAt_mk KX G ?a ?l ?c ?k ?b
      (case a => k_is); (case l => k_is); (case c => k_is); (case k => k_is)
      case b => exact fun _ _ _ _ _ _ us hl => match us, hl with | [_], _ => rfl
    case d_never_falls =>
      refine' Seek.defAt_mk KX G ?a ?l ?c ?k ?b
      (case a => k_is); (case l => k_is); (case c => k_is); (case k => k_is)
      case b => exact fun _ _ _ _ _ _ us hl => match us, hl with | [_], _ => rfl
    case d_is_row =>
      refine' Seek.defAt_mk KX G ?a ?l ?c ?k ?b
      (case a => k_is); (case l => k_is); (case c => k_is); (case k => k_is)
      case b => exact fun _ _ _ _ _ _ us hl => match us, hl with | [_], _ => rfl
    case d_has_table_shape =>
      refine' Seek.defAt_mk KX G ?a ?l ?c ?k ?b
      (case a => k_is); (case l => k_is); (case c => k_is); (case k => k_is)
      case b => exact fun _ _ _ _ _ _ us hl => match us, hl with | [_], _ => rfl
    case d_numbers_at_place =>
      refine' Seek.defAt_mk KX G ?a ?l ?c ?k ?b
      (case a => k_is); (case l => k_is); (case c => k_is); (case k => k_is)
      case b => exact fun _ _ _ _ _ _ us hl => match us, hl with | [_, _], _ => rfl
    case d_is_sorted_both_ways =>
      refine' Seek.defAt_mk KX G ?a ?l ?c ?k ?b
      (case a => k_is); (case l => k_is); (case c => k_is); (case k => k_is)
      case b => exact fun _ _ _ _ _ _ us hl => match us, hl with | [_], _ => rfl
    case d_is_table =>
      refine' Seek.defAt_mk KX G ?a ?l ?c ?k ?b
      (case a => k_is); (case l => k_is); (case c => k_is); (case k => k_is)
      case b => exact fun _ _ _ _ _ _ us hl => match us, hl with | [_], _ => rfl
    case d_need_table =>
      refine' Seek.defAt_mk KX G ?a ?l ?c ?k ?b
      (case a => k_is); (case l => k_is); (case c => k_is); (case k => k_is)
      case b => exact fun _ _ _ _ _ _ us hl => match us, hl with | [_], _ => rfl
    case d_writes_count =>
      refine' Seek.defAt_mk KX G ?a ?l ?c ?k ?b
      (case a => k_is); (case l => k_is); (case c => k_is); (case k => k_is)
      case b => exact fun _ _ _ _ _ _ us hl => match us, hl with | [_], _ => rfl
    case d_writes_number =>
      refine' Seek.defAt_mk KX G ?a ?l ?c ?k ?b
      (case a => k_is); (case l => k_is); (case c => k_is); (case k => k_is)
      case b => exact fun _ _ _ _ _ _ us hl => match us, hl with | [_], _ => rfl
    case d_show_row =>
      refine' Seek.defAt_mk KX G ?a ?l ?c ?k ?b
      (case a => k_is); (case l => k_is); (case c => k_is); (case k => k_is)
      case b => exact fun _ _ _ _ _ _ us hl => match us, hl with | [_], _ => rfl
    case d_show_table =>
      refine' Seek.defAt_mk KX G ?a ?l ?c ?k ?b
      (case a => k_is); (case l => k_is); (case c => k_is); (case k => k_is)
      case b => exact fun _ _ _ _ _ _ us hl => match us, hl with | [_], _ => rfl
    case d_read_row =>
      refine' Seek.defAt_mk KX G ?a ?l ?c ?k ?b
      (case a => k_is); (case l => k_is); (case c => k_is); (case k => k_is)
      case b => exact fun _ _ _ _ _ _ us hl => match us, hl with | [_], _ => rfl
    case d_read_table =>
      refine' Seek.defAt_mk KX G ?a ?l ?c ?k ?b
      (case a => k_is); (case l => k_is); (case c => k_is); (case k => k_is)
      case b => exact fun _ _ _ _ _ _ us hl => match us, hl with | [_], _ => rfl
    case d__law_cell =>
      refine' Seek.defAt_mk KX G ?a ?l ?c ?k ?b
      (case a => k_is); (case l => k_is); (case c => k_is); (case k => k_is)
      case b => exact fun _ _ _ _ _ _ us hl => match us, hl with | [_, _], _ => rfl
    case d__law_mixed =>
      refine' Seek.defAt_mk KX G ?a ?l ?c ?k ?b
      (case a => k_is); (case l => k_is); (case c => k_is); (case k => k_is)
      case b => exact fun _ _ _ _ _ _ us hl => match us, hl with | [_, _], _ => rfl
    case d__law_table =>
      refine' Seek.defAt_mk KX G ?a ?l ?c ?k ?b
      (case a => k_is); (case l => k_is); (case c => k_is); (case k => k_is)
      case b => exact fun _ _ _ _ _ _ us hl => match us, hl with | [_, _], _ => rfl
    case d__law_written =>
      refine' Seek.defAt_mk KX G ?a ?l ?c ?k ?b
      (case a => k_is); (case l => k_is); (case c => k_is); (case k => k_is)
      case b => exact fun _ _ _ _ _ _ us hl => match us, hl with | [_], _ => rfl
    case d__law_number =>
      refine' Seek.defAt_mk KX G ?a ?l ?c ?k ?b
      (case a => k_is); (case l => k_is); (case c => k_is); (case k => k_is)
      case b => exact fun _ _ _ _ _ _ us hl => match us, hl with | [_], _ => rfl
    case d__law_sorted =>
      refine' Seek.defAt_mk KX G ?a ?l ?c ?k ?b
      (case a => k_is); (case l => k_is); (case c => k_is); (case k => k_is)
      case b => exact fun _ _ _ _ _ _ us hl => match us, hl with | [_], _ => rfl
    case d__law_writes =>
      refine' Seek.defAt_mk KX G ?a ?l ?c ?k ?b
      (case a => k_is); (case l => k_is); (case c => k_is); (case k => k_is)
      case b => exact fun _ _ _ _ _ _ us hl => match us, hl with | [_], _ => rfl
    case d__law_odd =>
      refine' Seek.defAt_mk KX G ?a ?l ?c ?k ?b
      (case a => k_is); (case l => k_is); (case c => k_is); (case k => k_is)
      case b => exact fun _ _ _ _ _ _ us hl => match us, hl with | [_], _ => rfl
    case d__law_given =>
      refine' Seek.defAt_mk KX G ?a ?l ?c ?k ?b
      (case a => k_is); (case l => k_is); (case c => k_is); (case k => k_is)
      case b => exact fun _ _ _ _ _ _ us hl => match us, hl with | [_], _ => rfl
    case d__law_asked =>
      refine' Seek.defAt_mk KX G ?a ?l ?c ?k ?b
      (case a => k_is); (case l => k_is); (case c => k_is); (case k => k_is)
      case b => exact fun _ _ _ _ _ _ us hl => match us, hl with | [_, _], _ => rfl
    case d__law_bad =>
      refine' Seek.defAt_mk KX G ?a ?l ?c ?k ?b
      (case a => k_is); (case l => k_is); (case c => k_is); (case k => k_is)
      case b => exact fun _ _ _ _ _ _ us hl => match us, hl with | [_, _], _ => rfl
    case d_law =>
      refine' Seek.defAt_mk KX G ?a ?l ?c ?k ?b
      (case a => k_is); (case l => k_is); (case c => k_is); (case k => k_is)
      case b => exact fun _ _ _ _ _ _ us hl => match us, hl with | [_], _ => rfl

