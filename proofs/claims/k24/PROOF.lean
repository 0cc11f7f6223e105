import PyProof.Rows.All
import Wide.All
import OpenK.AllK
import Wide.FinOn
import Lean
import PyProof.EqAt
import PyProof.EqKinds
import PyProof.TupleCall
import PySem.Challenge.RW_stairseek_k24_whole_order_together
set_option Elab.async false
set_option linter.all false
set_option maxRecDepth 100000
namespace L2
open PySem PySem.Spec PyProof.Rows
abbrev Key := Sum Int Str
def keyIs : Key → Value → Bool
  | .inl k, v => Value.isInt k v
  | .inr x, v => Value.isStrOf x v
def keyH (w : World) : Key → Int
  | .inl k => hashInt k
  | .inr x => hashStr w x
theorem keyIs_shape : ∀ {k : Key} {v : Value}, keyIs k v = true → (∃ i t, k = Sum.inl i ∧ v = Value.int i t) ∨ (∃ x t, k = Sum.inr x ∧ v = Value.str x t)
  | .inl i, v, h => by
    obtain ⟨t, e⟩ := Value.isInt_shape (k := i) (v := v) h
    exact .inl ⟨i, t, rfl, e⟩
  | .inr x, v, h => by
    obtain ⟨t, e⟩ := Value.isStrOf_shape (x := x) (v := v) h
    exact .inr ⟨x, t, rfl, e⟩
theorem key_ll (a b : Int) : decide ((Sum.inl a : Key) = Sum.inl b) = (a == b) := by
  by_cases e : a = b
  · subst e; simp
  · have h : ¬ (Sum.inl a : Key) = Sum.inl b := fun q => e (Sum.inl.inj q)
    rw [decide_eq_false h]
    exact (beq_eq_false_iff_ne.mpr e).symm
theorem key_rr (a b : Str) : decide ((Sum.inr a : Key) = Sum.inr b) = decide (a = b) := by
  by_cases e : a = b
  · subst e; simp
  · have h : ¬ (Sum.inr a : Key) = Sum.inr b := fun q => e (Sum.inr.inj q)
    rw [decide_eq_false h, decide_eq_false e]
theorem key_lr (a : Int) (b : Str) : decide ((Sum.inl a : Key) = Sum.inr b) = false := decide_eq_false (fun q => nomatch q)
theorem key_rl (a : Str) (b : Int) : decide ((Sum.inr a : Key) = Sum.inl b) = false := decide_eq_false (fun q => nomatch q)
def mixKind (prog : Program) (w : World) : PySem.KeyKind prog w Key where
  is := keyIs
  hash := keyH w
  inj := fun v a b ha hb => by
    rcases keyIs_shape ha with ⟨i, t, rfl, rfl⟩ | ⟨x, t, rfl, rfl⟩
    · rcases keyIs_shape hb with ⟨j, u, rfl, e⟩ | ⟨y, u, rfl, e⟩
      · injection e with e1 _; rw [e1]
      · exact nomatch e
    · rcases keyIs_shape hb with ⟨j, u, rfl, e⟩ | ⟨y, u, rfl, e⟩
      · exact nomatch e
      · injection e with e1 _; rw [e1]
  byValue := fun k v h => by
    rcases keyIs_shape h with ⟨i, t, rfl, rfl⟩ | ⟨x, t, rfl, rfl⟩ <;> rfl
  pyHash := fun hv h => by
    rcases keyIs_shape hv with ⟨i, t, rfl, rfl⟩ | ⟨x, t, rfl, rfl⟩
    · exact wpAny_pyHash_int h
    · exact wpAny_pyHash_str h
  eqBool := fun hu hv h => by
    rcases keyIs_shape hu with ⟨i, t, rfl, rfl⟩ | ⟨x, t, rfl, rfl⟩
    · rcases keyIs_shape hv with ⟨j, u, rfl, rfl⟩ | ⟨y, u, rfl, rfl⟩
      · rw [key_ll] at h; exact wpAny_eqBool_int h
      · rw [key_lr] at h; exact SeqAt.EqAt.int_str i t y u _ _ _ _ h
    · rcases keyIs_shape hv with ⟨j, u, rfl, rfl⟩ | ⟨y, u, rfl, rfl⟩
      · rw [key_rl] at h; exact SeqAt.EqAt.str_int x t j u _ _ _ _ h
      · rw [key_rr] at h; exact wpAny_eqBool_str h
  «strs» := fun k x t v h => by
    rcases keyIs_shape h with ⟨i, u, rfl, e⟩ | ⟨y, u, rfl, e⟩
    · exact nomatch e
    · injection e with e1 _
      subst e1
      cases v <;> rfl
open PySem PySem.Spec PyProof.Rows
inductive V where
  | non | bl (b : Bool) | int (i : Int) | str (x : Str) | byt (b : Array UInt8) | flt (b : UInt64) | ref (a : Addr) | ty (n : String)
  deriving DecidableEq
def RelV : V → Value → Prop
  | .non, u => u = Value.none
  | .bl b, u => u = Value.bool b
  | .int i, u => ∃ t, u = Value.int i t
  | .str x, u => ∃ t, u = Value.str x t
  | .byt b, u => ∃ t, u = Value.bytes b t
  | .flt b, u => ∃ t, u = Value.float b t
  | .ref a, u => u = Value.ref a
  | .ty n, u => u = Value.type n
abbrev Vals : List V → List Value → Prop := Paired RelV
theorem Vals.length {xs : List V} {us : List Value} (r : Vals xs us) : xs.length = us.length := Paired.length r
theorem Vals.get : ∀ {xs : List V} {us : List Value} {i : Nat} {x : V}, Vals xs us → xs[i]? = some x → ∃ u, us[i]? = some u ∧ RelV x u
  | _, _, _, _, .nil, e => by simp at e
  | _, _, 0, _, .cons r _, e => by simp at e; subst e; exact ⟨_, rfl, r⟩
  | _, _, i + 1, x, .cons _ t, e => by
    obtain ⟨u, h1, h2⟩ := Vals.get (i := i) (x := x) t (by simpa using e)
    exact ⟨u, by simpa using h1, h2⟩
theorem Vals.set {x : V} {u : Value} (r : RelV x u) : ∀ {xs : List V} {us : List Value} (i : Nat), Vals xs us → Vals (xs.set i x) (us.set i u)
  | _, _, _, .nil => .nil
  | _, _, 0, .cons _ t => .cons r t
  | _, _, i + 1, .cons q t => .cons q (Vals.set r i t)
theorem Vals.append : ∀ {xs ys : List V} {us ws : List Value}, Vals xs us → Vals ys ws → Vals (xs ++ ys) (us ++ ws)
  | _, _, _, _, .nil, s => s
  | _, _, _, _, .cons r t, s => .cons r (Vals.append t s)
theorem Vals.take : ∀ {xs : List V} {us : List Value} (n : Nat), Vals xs us → Vals (xs.take n) (us.take n)
  | _, _, 0, _ => .nil
  | _, _, _ + 1, .nil => .nil
  | _, _, n + 1, .cons r t => .cons r (Vals.take n t)
theorem Vals.drop : ∀ {xs : List V} {us : List Value} (n : Nat), Vals xs us → Vals (xs.drop n) (us.drop n)
  | _, _, 0, r => r
  | _, _, _ + 1, .nil => .nil
  | _, _, n + 1, .cons _ t => Vals.drop n t
def RelO : Option V → Option Value → Prop
  | some v, some u => RelV v u
  | none, none => True
  | _, _ => False
def KV {κ : Type} : List (κ × V) → List (κ × Value) → Prop := Paired fun (p : κ × V) (q : κ × Value) => p.1 = q.1 ∧ RelV p.2 q.2
def kV : Key → V
  | .inl i => .int i
  | .inr x => .str x
inductive HO where
  | lst (xs : List V)
  | tup (xs : List V)
  | dK (kvs : List (Key × V)) | dT (kvs : List (List Key × V))
  | set (S : Int → Bool) (n : Nat)
  | ins (C dx : Addr) (fs : List (Str × V))
  | own (x : Addr)
  | xd (fs : List (Str × V))
  | met (f x : Addr)
  | rng (lo hi : Int)
  | frz (o : Obj) (u : HO)
  | tbl (ps : Array Value)
  | ext (φ : Heap → Prop)
abbrev Hp := Addr → Option HO
def upd (H : Hp) (a : Addr) (o : HO) : Hp := fun b => if b = a then some o else H b
theorem upd_same {H : Hp} {a : Addr} {o : HO} : upd H a o a = some o := by unfold upd; rw [if_pos rfl]
theorem upd_ne {H : Hp} {a b : Addr} {o : HO} (h : b ≠ a) : upd H a o b = H b := by unfold upd; rw [if_neg h]
theorem ne_of {H : Hp} {a b : Addr} {o u : HO} (h : H a = some o) (h' : H b = some u) (d : o ≠ u) : a ≠ b := by
  intro e; subst e; rw [h] at h'; exact d (Option.some.inj h')
theorem ne_of_none {H : Hp} {a b : Addr} {o : HO} (h : H a = some o) (h' : H b = none) : a ≠ b := by
  intro e; subst e; rw [h] at h'; cases h'
section
variable (P : Program) (w : World)
def ObjOk (H : Hp) (h : Heap) (a : Addr) : HO → Prop
  | .lst xs => xs.length ≤ sizeLine ∧ ∃ (its : List Value) (n : Nat), Vals xs its ∧ h.get? a = some { cls := .type "list", data := .seq its.toArray n }
  | .tup xs => xs.length ≤ sizeLine ∧ ∃ its : List Value, Vals xs its ∧ IsTup h a its.toArray
  | .dK kvs => kvs.length ≤ sizeLine ∧ (a == sysModules) = false ∧ ∃ vs, KV kvs vs ∧ h.DictOf (mixKind P w) a vs
  | .dT kvs => kvs.length ≤ sizeLine ∧ (a == sysModules) = false ∧ ∃ xs : List (List Key × Addr × Value),
      Paired (fun (p : List Key × V) (q : List Key × Addr × Value) => p.1 = q.1 ∧ H q.2.1 = some (.tup (p.1.map kV)) ∧ RelV p.2 q.2.2) kvs xs ∧
      ∃ o es ep, h.get? a = some o ∧ o.ExactDict ∧ o.data = .dict es ep ∧ es.toList = xs.map (entryOfKey (tupleKind (mixKind P w))) ∧ (xs.map (·.1)).Nodup
  | .set S n => h.SetOf (intKind P w) a S n
  | .ins C dx fs => H dx = some (.own a) ∧ fs.length ≤ 1000 ∧ dx ≠ a ∧ h.get? a = some (PySem.W.instObj C dx) ∧
      ∃ mA, h.Ns1 dx mA ∧ (∀ f, RelO (fs.lookup f) (mA f)) ∧ PySem.Within mA (fs.map (·.1))
  | .own _ => ∃ o, h.get? a = some o
  | .xd fs => ∃ mA, h.Ns1 a mA ∧ ∀ f, RelO (fs.lookup f) (mA f)
  | .rng lo hi => ∃ t u v, h.get? a = some { cls := .type "range", data := .fields #[.int lo t, .int hi u, .int 1 v] }
  | .frz o u => h.get? a = some o ∧ ObjOk H h a u
  | .tbl ps => h.get? a = some { cls := .none, data := .fields ps }
  | .met f x => h.get? a = some (PySem.W.methodObj (.ref f) (.ref x))
  | .ext φ => φ h ∧ (∃ o, h.get? a = some o) ∧ ∀ h1 h2 : Heap, φ h1 → (∀ o, h1.get? a = some o → h2.get? a = some o) → φ h2
def HOk (H : Hp) (h : Heap) : Prop := ∀ a o, H a = some o → ObjOk P w H h a o
end
section
variable {P : Program} {w : World} {H H' : Hp} {h h' : Heap} {a : Addr} {o : HO}
theorem ObjOk.lt (x : ObjOk P w H h a o) : a < h.objs.size := by
  cases o with
  | lst xs => obtain ⟨_, _, _, _, e⟩ := x; exact Heap.lt_size e
  | tup xs => obtain ⟨_, _, _, p⟩ := x; exact p.lt
  | dK kvs => obtain ⟨_, _, _, _, o, _, _, e, _⟩ := x; exact Heap.lt_size e
  | dT kvs => obtain ⟨_, _, _, _, o, _, _, e, _⟩ := x; exact Heap.lt_size e
  | set S n => obtain ⟨o, _, _, _, e, _⟩ := x; exact Heap.lt_size e
  | ins C dx fs => obtain ⟨_, _, _, e, _⟩ := x; exact Heap.lt_size e
  | own y => obtain ⟨_, e⟩ := x; exact Heap.lt_size e
  | xd fs => obtain ⟨_, ⟨_, _, _, e, _⟩, _⟩ := x; exact Heap.lt_size e
  | rng lo hi => obtain ⟨_, _, _, e⟩ := x; exact Heap.lt_size e
  | frz ob u => obtain ⟨e, _⟩ := x; exact Heap.lt_size e
  | tbl ps => exact Heap.lt_size (show h.get? a = some _ from x)
  | met f y => exact Heap.lt_size (show h.get? a = some _ from x)
  | ext φ => obtain ⟨_, ⟨_, e⟩, _⟩ := x; exact Heap.lt_size e
theorem Paired.mapP {α β : Type} {F G : α → β → Prop} : ∀ {l₁ : List α} {l₂ : List β}, Paired F l₁ l₂ → (∀ a b, F a b → G a b) → Paired G l₁ l₂
  | _, _, .nil, _ => .nil
  | _, _, .cons r t, f => .cons (f _ _ r) (Paired.mapP t f)
theorem ObjOk.stay (x : ObjOk P w H h a o) (k : ∀ b u, (b = a ∨ H b = some (.own a)) → h.get? b = some u → h'.get? b = some u)
    (ho : ∀ b, H b = some (.own a) → H' b = some (.own a)) (ht : ∀ b xs, H b = some (.tup xs) → H' b = some (.tup xs)) : ObjOk P w H' h' a o := by
  induction o with
  | lst xs => obtain ⟨z, its, n, r, e⟩ := x; exact ⟨z, its, n, r, k _ _ (.inl rfl) e⟩
  | tup xs => obtain ⟨z, its, r, ob, e, c⟩ := x; exact ⟨z, its, r, ob, k _ _ (.inl rfl) e, c⟩
  | dK kvs => obtain ⟨z, y, vs, r, ob, es, ep, e, c⟩ := x; exact ⟨z, y, vs, r, ob, es, ep, k _ _ (.inl rfl) e, c⟩
  | dT kvs =>
    obtain ⟨z, y, xs, r, ob, es, ep, e, c⟩ := x
    exact ⟨z, y, xs, Paired.mapP r fun p q z => ⟨z.1, ht _ _ z.2.1, z.2.2⟩, ob, es, ep, k _ _ (.inl rfl) e, c⟩
  | set S n => obtain ⟨ob, es, ep, t, e, c⟩ := x; exact ⟨ob, es, ep, t, k _ _ (.inl rfl) e, c⟩
  | ins C dx fs =>
    obtain ⟨d, z, ne, e, mA, ⟨od, es, ep, e2, c⟩, r⟩ := x
    exact ⟨ho _ d, z, ne, k _ _ (.inl rfl) e, mA, ⟨od, es, ep, k _ _ (.inr d) e2, c⟩, r⟩
  | own y => obtain ⟨ob, e⟩ := x; exact ⟨ob, k _ _ (.inl rfl) e⟩
  | xd fs => obtain ⟨mA, ⟨od, es, ep, e, c⟩, r⟩ := x; exact ⟨mA, ⟨od, es, ep, k _ _ (.inl rfl) e, c⟩, r⟩
  | rng lo hi => obtain ⟨t, u, v, e⟩ := x; exact ⟨t, u, v, k _ _ (.inl rfl) e⟩
  | frz ob u ih => obtain ⟨e, q⟩ := x; exact ⟨k _ _ (.inl rfl) e, ih q⟩
  | tbl ps =>
    have e : h.get? a = some { cls := .none, data := .fields ps } := x
    show h'.get? a = some { cls := .none, data := .fields ps }
    exact k a _ (.inl rfl) e
  | met f y =>
    have e : h.get? a = some (PySem.W.methodObj (.ref f) (.ref y)) := x
    show h'.get? a = some (PySem.W.methodObj (.ref f) (.ref y))
    exact k a _ (.inl rfl) e
  | ext φ => obtain ⟨p, ⟨o, e⟩, st⟩ := x; exact ⟨st _ _ p fun o q => k _ _ (.inl rfl) q, ⟨o, k _ _ (.inl rfl) e⟩, st⟩
theorem HOk.lt (x : HOk P w H h) (e : H a = some o) : a < h.objs.size := (x a o e).lt
theorem HOk.fresh (x : HOk P w H h) (e : h.objs.size ≤ a) : H a = none := by
  cases q : H a with
  | none => rfl
  | some u => exact absurd (Nat.lt_of_lt_of_le (x.lt q) e) (Nat.lt_irrefl _)
theorem HOk.kept (x : HOk P w H h) (k : ∀ b u, h.get? b = some u → h'.get? b = some u) : HOk P w H h' := fun a o e =>
  (x a o e).stay (fun b u _ q => k b u q) (fun _ q => q) fun _ _ q => q
theorem HOk.laid (x : HOk P w H h) (k : ∀ b u, h.get? b = some u → h'.get? b = some u) (hp : h.objs.size ≤ a) (new : ObjOk P w (upd H a o) h' a o) : HOk P w (upd H a o) h' := fun b u e => by
  have hn := x.fresh hp
  by_cases hb : b = a
  · subst hb; rw [upd_same] at e; cases e; exact new
  · rw [upd_ne hb] at e
    exact (x b u e).stay (fun c v _ q => k c v q) (fun c q => by rw [upd_ne (ne_of_none q hn)]; exact q) fun c xs q => by rw [upd_ne (ne_of_none q hn)]; exact q
end
def Rd (H : Hp) (a : Addr) (u : HO) : Prop := H a = some u ∨ ∃ o, H a = some (.frz o u)
theorem Rd.ok {P : Program} {w : World} {H : Hp} {h : Heap} {a : Addr} {u : HO} (r : Rd H a u) (x : HOk P w H h) : ObjOk P w H h a u := by
  rcases r with r | ⟨o, r⟩
  · exact x a u r
  · obtain ⟨_, q⟩ := x a _ r
    exact q
def Mut : Option HO → Prop
  | some (.lst _) => True
  | some (.dK _) => True
  | some (.dT _) => True
  | some (.set _ _) => True
  | some (.ins _ _ _) => True
  | some (.ext _) => True
  | _ => False
section
variable {P : Program} {w : World} {H : Hp} {h h' : Heap} {x e : Addr} {o' : HO}
theorem HOk.write (ok : HOk P w H h) (mu : Mut (H x)) (he : e = x ∨ H e = some (.own x)) (k : ∀ b u, b ≠ e → h.get? b = some u → h'.get? b = some u) (heo : ∃ u, h'.get? e = some u)
    (new : ObjOk P w (upd H x o') h' x o') : HOk P w (upd H x o') h' := fun b u q => by
  have nown : ∀ c y, H c = some (.own y) → c ≠ x := fun c y r z => by subst z; rw [r] at mu; exact mu
  have ntup : ∀ c xs, H c = some (.tup xs) → c ≠ x := fun c xs r z => by subst z; rw [r] at mu; exact mu
  by_cases hb : b = x
  · subst hb; rw [upd_same] at q; cases q; exact new
  · rw [upd_ne hb] at q
    by_cases hbe : b = e
    · have q' : H b = some (.own x) := by
        rcases he with z | z
        · exact absurd (hbe.trans z) hb
        · rw [hbe]; exact z
      rw [q] at q'; cases q'
      obtain ⟨v, hv⟩ := heo
      exact ⟨v, by rw [hbe]; exact hv⟩
    · refine (ok b u q).stay (fun c v hc r => k c v ?_ r) (fun c r => by rw [upd_ne (nown c b r)]; exact r) fun c xs r => by rw [upd_ne (ntup c xs r)]; exact r
      rcases hc with rfl | hc
      · exact hbe
      · rintro rfl
        rcases he with z | z
        · exact nown c b hc z
        · rw [hc] at z; cases z; exact hb rfl
end
structure Un (fs ex : List Addr) (H H' : Hp) (h h' : Heap) : Prop where
  keep : ∀ b o, h.get? b = some o → H b = none → b ∉ fs → b ∉ ex → h'.get? b = some o
  slot : ∀ b o, h.get? b = some o → H b = none → b ∈ fs → b ∉ ex → ∃ sl, h'.get? b = some { o with slots := sl }
  free : ∀ b o, h.get? b = some o → H b = none → b ∉ ex → H' b = none
  there : ∀ b o, h.get? b = some o → b ∉ ex → ∃ o', h'.get? b = some o'
  tups : ∀ b xs, H b = some (.tup xs) → H' b = some (.tup xs)
  frzs : ∀ b o u, H b = some (.frz o u) → H' b = some (.frz o u)
  tbls : ∀ b ps, H b = some (.tbl ps) → ∃ more, H' b = some (.tbl (ps ++ more))
section
variable {fs fs' ex ex' : List Addr} {H H1 H2 : Hp} {h h1 h2 h' : Heap} {a x e : Addr} {o : HO}
theorem Un.any (u : Un fs ex H H1 h h1) {b : Addr} {ob : Obj} (q : h.get? b = some ob) (n : H b = none) (hx : b ∉ ex) : ∃ sl, h1.get? b = some { ob with slots := sl } := by
  by_cases hb : b ∈ fs
  · exact u.slot b ob q n hb hx
  · exact ⟨ob.slots, u.keep b ob q n hb hx⟩
theorem Un.kept (k : ∀ b u, h.get? b = some u → h'.get? b = some u) : Un fs ex H H h h' :=
  ⟨fun b ob q _ _ _ => k b ob q, fun b ob q _ _ _ => ⟨ob.slots, k b ob q⟩, fun _ _ _ n _ => n, fun b ob q _ => ⟨ob, k b ob q⟩, fun _ _ q => q, fun _ _ _ q => q, fun _ ps q => ⟨#[], by rw [q]; simp⟩⟩
theorem Un.refl : Un fs ex H H h h := Un.kept fun _ _ q => q
theorem Un.laid (k : ∀ b u, h.get? b = some u → h'.get? b = some u) (hp : h.objs.size ≤ a) (hn : H a = none) : Un fs ex H (upd H a o) h h' where
  keep := fun b u q _ _ _ => k b u q
  slot := fun b u q _ _ _ => ⟨u.slots, k b u q⟩
  free := fun b u q n _ => by rw [upd_ne (Nat.ne_of_lt (Nat.lt_of_lt_of_le (Heap.lt_size q) hp))]; exact n
  there := fun b u q _ => ⟨u, k b u q⟩
  tups := fun b xs q => by rw [upd_ne (ne_of_none q hn)]; exact q
  frzs := fun b u xs q => by rw [upd_ne (ne_of_none q hn)]; exact q
  tbls := fun b ps q => ⟨#[], by rw [upd_ne (ne_of_none q hn), q]; simp⟩
theorem Un.write (mu : Mut (H x)) (he : e = x ∨ H e = some (.own x)) (k : ∀ b u, b ≠ e → h.get? b = some u → h'.get? b = some u) (heo : ∃ u, h'.get? e = some u) : Un fs ex H (upd H x o) h h' := by
  have hx : ∀ b, H b = none → b ≠ x := fun b n z => by subst z; rw [n] at mu; exact mu
  have hb : ∀ b, H b = none → b ≠ e := fun b n z => by
    subst z
    rcases he with r | r
    · exact hx b n r
    · rw [n] at r; cases r
  have hm : ∀ b u, H b = some u → ¬ Mut (some u) → b ≠ x := fun b u q nm z => by subst z; rw [q] at mu; exact nm mu
  refine ⟨fun b u q n _ _ => k b u (hb b n) q, fun b u q n _ _ => ⟨u.slots, k b u (hb b n) q⟩, fun b u q n _ => by rw [upd_ne (hx b n)]; exact n, fun b u q _ => ?_,
    fun b xs q => by rw [upd_ne (hm b _ q fun z => z)]; exact q, fun b u xs q => by rw [upd_ne (hm b _ q fun z => z)]; exact q, fun b ps q => ⟨#[], by rw [upd_ne (hm b _ q fun z => z), q]; simp⟩⟩
  by_cases hbe : b = e
  · subst hbe; exact heo
  · exact ⟨u, k b u hbe q⟩
theorem Un.mono (u : Un fs ex H H1 h h1) (hs : ∀ b ∈ fs, b ∈ fs') (hx : ∀ b ∈ ex, b ∈ ex') : Un fs' ex' H H1 h h1 :=
  ⟨fun b ob q n hb he => u.keep b ob q n (fun z => hb (hs b z)) fun z => he (hx b z), fun _ _ q n _ he => u.any q n fun z => he (hx _ z), fun b ob q n he => u.free b ob q n fun z => he (hx b z), fun b ob q he => u.there b ob q fun z => he (hx b z), u.tups, u.frzs, u.tbls⟩
end
def trk (h : Heap) (H : Hp) : List Addr := (List.range h.objs.size).filter fun a => (H a).isSome
def hidT (h : Heap) (H : Hp) : Heap := PySem.W.hideAll h (trk h H)
theorem hidT_size (h : Heap) (H : Hp) : (hidT h H).objs.size = h.objs.size := PySem.W.hideAll_size _ _
theorem hidT_get {h : Heap} {H : Hp} {b : Addr} {o : Obj} (e : h.get? b = some o) (n : H b = none) : (hidT h H).get? b = some o :=
  PySem.W.hideAll_get _ e fun hm => by
    have q : (H b).isSome = true := (List.mem_filter.mp hm).2
    rw [n] at q; simp at q
theorem of_hidT {h : Heap} {H : Hp} {b : Addr} {o : Obj} (e : (hidT h H).get? b = some o) : h.get? b = some o ∧ H b = none := by
  have e' : h.get? b = some o := PySem.W.of_hideAll (trk h H) e
  refine ⟨e', ?_⟩
  cases q : H b with
  | none => rfl
  | some x =>
    have hm : b ∈ trk h H := List.mem_filter.mpr ⟨List.mem_range.mpr (Heap.lt_size e'), by simp [q]⟩
    have z : (hidT h H).get? b = none := PySem.W.hideAll_none (trk h H) hm
    rw [z] at e; cases e
def allNews (g h : Heap) (L : Addr) : List (Addr × Obj) := (List.range h.objs.size).filterMap fun a => if a = L ∨ (g.get? a).isSome = true then none else (h.get? a).map fun o => (a, o)
def rest (g h : Heap) (L d : Addr) : List (Addr × Obj) := (allNews g h L).filter fun p => decide (p.1 ≠ d)
open PySem PySem.Spec PyProof.Rows
structure Mod (K : PySem.W.Frag) (mg : Str → Option Value) (base : Heap) : Prop where
  kin : K.In base
  glob : base.Ns mainGlobals mg
  blt : ∃ mb, base.Ns builtinsNs mb ∧ ∀ x : Str, x ≠ "__name__" → mb x = bootBuiltins x
  nolimit : base.NoLimit
structure Cx where
  prog : Program
  w : World
  K : PySem.W.Frag
  mg : Str → Option Value
  base : Heap
  A : Around
  N : List Str
  s₀ : Shared
  H₀ : Hp
  env : Env
  outer : List Env
  stack : List Env
  ex : List Addr
  fn : Str → Bool
  calm : Bool
  pn : List (Addr × Obj)
  xe : Value → Shared → Prop
def frs (l : List Env) : List Addr := l.filterMap (·.frame)
abbrev Cx.fs (X : Cx) : List Addr := frs X.outer
def Vis (sc : Scope) (x : Str) : Prop := sc.names.lookup x = some .local ∨ sc.names.lookup x = some .cell ∨ sc.names.lookup x = some .free
def Loc (sc : Scope) (x : Str) : Prop := sc.names.lookup x = some .local ∨ sc.names.lookup x = some .cell
def Look (env : Env) (h : Heap) (m : Str → Option Value) (x : Str) (u : Value) : Prop :=
  (env.kindOf x = some .local ∧ m x = some u) ∨ ((env.kindOf x = some .cell ∨ env.kindOf x = some .free) ∧ ∃ c, env.cells.lookup x = some c ∧ h.IsCell c (some u))
structure Cx.Ok (X : Cx) : Prop where
  mod : Mod X.K X.mg X.base
  kind : X.env.scope.kind = .function
  glob : X.env.globals = mainGlobals
  blt : X.env.builtins = builtinsNs
  above : X.s₀.heap.objs.size ≤ X.env.locals
  inj : ∀ x y c, X.env.cells.lookup x = some c → X.env.cells.lookup y = some c → x = y
  has : ∀ x, (X.env.kindOf x = some .cell ∨ X.env.kindOf x = some .free) → ∃ c, X.env.cells.lookup x = some c
  cab : ∀ x c, X.fn x = true → X.env.cells.lookup x = some c → X.s₀.heap.objs.size ≤ c
  hd : X.calm = true → X.A.handled = none
  frames : X.A.frames = some X.stack
  stk : X.stack = X.outer ∨ (X.stack = X.env :: X.outer ∧ X.env.frame = some X.env.locals)
  exf : ∀ b ∈ X.ex, b ≠ X.env.locals ∧ ∀ x c, X.env.cells.lookup x = some c → c ≠ b
  bs : ∀ b o, X.base.get? b = some o → X.s₀.heap.get? b = some o ∧ X.H₀ b = none
  bsz : X.base.objs.size ≤ X.s₀.heap.objs.size
  noex : ∀ b o, X.base.get? b = some o → b ∉ X.ex
  exfs : ∀ b ∈ X.ex, b ∉ X.fs
  funs : X.s₀.heap.FunFrames X.base X.outer
  frf : ∀ b ∈ X.fs, X.H₀ b = none
structure Inv (X : Cx) (pins : List (Addr × Obj)) (σ : List (Option V)) (H : Hp) (s : Shared) : Prop where
  ok : X.Ok
  os : s.os = X.s₀.os
  bare : AllBare s.gens
  base : Un X.fs X.ex X.H₀ H X.s₀.heap s.heap
  loc : ∃ m, s.heap.Ns X.env.locals m ∧ ∀ (i : Nat) (x : Str) (v : V), X.N[i]? = some x → σ[i]? = some (some v) → Vis X.env.scope x → ∃ u, RelV v u ∧ Look X.env s.heap m x u
  cell : ∀ x c, X.env.cells.lookup x = some c → ∃ v, s.heap.IsCell c v
  free : H X.env.locals = none
  freeC : ∀ x c, X.env.cells.lookup x = some c → H c = none
  pin : ∀ p ∈ X.pn ++ pins, s.heap.get? p.1 = some p.2 ∧ H p.1 = none ∧ p.1 ≠ X.env.locals ∧ p.1 ∉ X.fs ∧ ∀ v, p.2.data ≠ .cell v
  hok : HOk X.prog X.w H s.heap
  len : σ.length = X.N.length
section
variable {X : Cx} {pins : List (Addr × Obj)} {σ : List (Option V)} {H H' : Hp} {s : Shared} {h' : Heap}
theorem Cx.Ok.nofr (ok : X.Ok) {b : Addr} {o : Obj} (e : X.base.get? b = some o) : b ∉ X.fs := fun hb => by
  have := (ok.funs.mem hb).1
  rw [e] at this; cases this
theorem Inv.bs (I : Inv X pins σ H s) : ∀ b o, X.base.get? b = some o → s.heap.get? b = some o ∧ H b = none := fun b o e =>
  ⟨I.base.keep b o (I.ok.bs b o e).1 (I.ok.bs b o e).2 (I.ok.nofr e) (I.ok.noex b o e), I.base.free b o (I.ok.bs b o e).1 (I.ok.bs b o e).2 (I.ok.noex b o e)⟩
theorem Inv.bk (I : Inv X pins σ H s) : ∀ b o, X.base.get? b = some o → s.heap.get? b = some o := fun b o e => (I.bs b o e).1
theorem Inv.mod (I : Inv X pins σ H s) : Mod X.K X.mg X.base := I.ok.mod
theorem Inv.kIn (I : Inv X pins σ H s) : X.K.In s.heap := I.ok.mod.kin.keeps I.bk
theorem Inv.fr (I : Inv X pins σ H s) : ∃ m, Fr X.base X.env.locals s.heap m :=
  let ⟨m, hn, _⟩ := I.loc
  ⟨m, hn, I.bk, Nat.le_trans I.ok.bsz I.ok.above⟩
theorem Inv.lt (I : Inv X pins σ H s) : X.env.locals < s.heap.objs.size := let ⟨_, hn, _⟩ := I.loc; hn.lt
theorem Inv.sz (I : Inv X pins σ H s) : X.s₀.heap.objs.size ≤ s.heap.objs.size := Nat.le_trans I.ok.above (Nat.le_of_lt I.lt)
theorem Inv.nofs (I : Inv X pins σ H s) {a : Addr} (h : s.heap.objs.size ≤ a) : a ∉ X.fs := fun hb => by
  obtain ⟨_, o, ho, _⟩ := I.ok.funs.mem hb
  exact absurd (Nat.lt_of_lt_of_le (Heap.lt_size ho) (Nat.le_trans I.sz h)) (Nat.lt_irrefl _)
theorem Inv.cne (I : Inv X pins σ H s) : ∀ x c, X.env.cells.lookup x = some c → c ≠ X.env.locals := fun x c e z => by
  obtain ⟨v, o, ho, hd⟩ := I.cell x c e
  obtain ⟨m, ⟨o', es, ep, ho', hd', _⟩, _⟩ := I.loc
  rw [z, ho'] at ho; cases ho; rw [hd'] at hd; cases hd
theorem Inv.funs (I : Inv X pins σ H s) : s.heap.FunFrames X.base X.outer := by
  have all : ∀ (l : List Env), (∀ b ∈ frs l, b ∈ X.fs) → X.s₀.heap.FunFrames X.base l → s.heap.FunFrames X.base l := by
    intro l
    induction l with
    | nil => intro _ _; trivial
    | cons env r ih =>
      intro hs hl
      obtain ⟨hk, ⟨L, o, hf, hn, ho, hd⟩, hr⟩ := hl
      have hL : L ∈ X.fs := hs L (by unfold frs; rw [List.filterMap_cons, hf]; exact List.mem_cons_self)
      obtain ⟨sl, e⟩ := I.base.slot L o ho (I.ok.frf L hL) hL fun z => I.ok.exfs L z hL
      exact ⟨hk, ⟨L, _, hf, hn, e, hd⟩, ih (fun b hb => hs b (by unfold frs; rw [List.filterMap_cons, hf]; exact List.mem_cons_of_mem _ hb)) hr⟩
  exact all X.outer (fun _ hb => hb) I.ok.funs
theorem Inv.stack (I : Inv X pins σ H s) : s.heap.FunFrames X.base X.stack := by
  rcases I.ok.stk with e | ⟨e, hf⟩
  · rw [e]; exact I.funs
  · rw [e]
    obtain ⟨m, hn, _⟩ := I.loc
    refine .cons (by rw [I.ok.kind]; decide) hf hn ?_ I.funs
    exact Heap.get?_none_of_le (Nat.le_trans I.ok.bsz I.ok.above)
theorem Inv.stkSub (I : Inv X pins σ H s) : ∀ b ∈ frs X.stack, b ∈ X.env.locals :: X.fs := fun b hb => by
  rcases I.ok.stk with e | ⟨e, hf⟩
  · rw [e] at hb; exact List.mem_cons_of_mem _ hb
  · rw [e] at hb
    unfold frs at hb
    rw [List.filterMap_cons, hf] at hb
    exact hb
theorem Inv.stkFree (I : Inv X pins σ H s) : ∀ b ∈ frs X.stack, H b = none := fun b hb => by
  rcases List.mem_cons.mp (I.stkSub b hb) with e | hb
  · rw [e]; exact I.free
  · obtain ⟨_, o, ho, _⟩ := I.ok.funs.mem hb
    exact I.base.free b o ho (I.ok.frf b hb) fun z => I.ok.exfs b z hb
theorem Inv.step {g' : Array GenState} {t' : Nat} {d' : Drawn} {ch : List Addr} (I : Inv X pins σ H s)
    (hch : ∀ b ∈ ch, (b ∈ X.ex ∨ X.s₀.heap.objs.size ≤ b) ∧ b ≠ X.env.locals ∧ (∀ x c, X.env.cells.lookup x = some c → c ≠ b) ∧ ∀ p ∈ X.pn ++ pins, p.1 ≠ b)
    (keep : ∀ b o, b ≠ X.env.locals → b ∉ X.fs → b ∉ ch → s.heap.get? b = some o → H b = none → h'.get? b = some o)
    (slot : ∀ b o, b ≠ X.env.locals → b ∈ X.fs → b ∉ ch → s.heap.get? b = some o → H b = none → ∃ sl, h'.get? b = some { o with slots := sl }) (free : ∀ b o, b ∉ ch → s.heap.get? b = some o → H b = none → H' b = none)
    (there : ∀ b o, b ∉ ch → s.heap.get? b = some o → ∃ o', h'.get? b = some o')
    (tups : ∀ b xs, H b = some (.tup xs) → H' b = some (.tup xs)) (frzs : ∀ b o u, H b = some (.frz o u) → H' b = some (.frz o u)) (tbls : ∀ b ps, H b = some (.tbl ps) → ∃ more, H' b = some (.tbl (ps ++ more)))
    (ns : ∀ m, s.heap.Ns X.env.locals m → h'.Ns X.env.locals m) (hok : HOk X.prog X.w H' h') (hg : AllBare g') :
    Inv X pins σ H' { s with heap := h', gens := g', drawn := d', toks := t' } := by
  have neL : ∀ b o, X.s₀.heap.get? b = some o → b ≠ X.env.locals := fun b o e => Nat.ne_of_lt (Nat.lt_of_lt_of_le (Heap.lt_size e) I.ok.above)
  have neC : ∀ b o, X.s₀.heap.get? b = some o → b ∉ X.ex → b ∉ ch := fun b o e hx hb => by
    rcases (hch b hb).1 with z | z
    · exact hx z
    · exact absurd (Nat.lt_of_lt_of_le (Heap.lt_size e) z) (Nat.lt_irrefl _)
  have cellK : ∀ x c, X.env.cells.lookup x = some c → ∀ v, s.heap.IsCell c v → h'.IsCell c v := fun x c e v ⟨o, ho, hd⟩ => by
    have nch : c ∉ ch := fun z => (hch c z).2.2.1 x c e rfl
    by_cases hc : c ∈ X.fs
    · obtain ⟨sl, q⟩ := slot c o (I.cne x c e) hc nch ho (I.freeC x c e)
      exact ⟨_, q, hd⟩
    · exact ⟨o, keep c o (I.cne x c e) hc nch ho (I.freeC x c e), hd⟩
  refine ⟨I.ok, I.os, hg, ⟨fun b o e n hb hx => ?_, fun b o e n hb hx => ?_, fun b o e n hx => ?_, fun b o e hx => ?_, fun b xs e => tups b xs (I.base.tups b xs e), fun b o xs e => frzs b o xs (I.base.frzs b o xs e), fun b ps e => ?_⟩, ?_, fun x c e => ?_, ?_, fun x c e => ?_, fun p hp => ?_, hok, I.len⟩
  · exact keep b o (neL b o e) hb (neC b o e hx) (I.base.keep b o e n hb hx) (I.base.free b o e n hx)
  · obtain ⟨sl, e1⟩ := I.base.slot b o e n hb hx
    obtain ⟨sl', e2⟩ := slot b _ (neL b o e) hb (neC b o e hx) e1 (I.base.free b o e n hx)
    exact ⟨sl', e2⟩
  · obtain ⟨o', e1⟩ := I.base.there b o e hx
    exact free b o' (neC b o e hx) e1 (I.base.free b o e n hx)
  · obtain ⟨o', e1⟩ := I.base.there b o e hx
    exact there b o' (neC b o e hx) e1
  · obtain ⟨m1, e1⟩ := I.base.tbls b ps e
    obtain ⟨m2, e2⟩ := tbls b _ e1
    exact ⟨m1 ++ m2, by rw [e2, Array.append_assoc]⟩
  · obtain ⟨m, hn, hl⟩ := I.loc
    refine ⟨m, ns m hn, fun i x v e1 e2 e3 => ?_⟩
    obtain ⟨u, r, l⟩ := hl i x v e1 e2 e3
    refine ⟨u, r, ?_⟩
    rcases l with l | ⟨k, c, e, z⟩
    · exact .inl l
    · exact .inr ⟨k, c, e, cellK x c e _ z⟩
  · obtain ⟨v, z⟩ := I.cell x c e
    exact ⟨v, cellK x c e v z⟩
  · obtain ⟨m, ⟨o, _, _, ho, _⟩, _⟩ := I.loc
    exact free _ o (fun z => (hch _ z).2.1 rfl) ho I.free
  · obtain ⟨v, o, ho, hd⟩ := I.cell x c e
    exact free c o (fun z => (hch c z).2.2.1 x c e rfl) ho (I.freeC x c e)
  · obtain ⟨e, n, ne, nf, d⟩ := I.pin p hp
    have nch : p.1 ∉ ch := fun z => (hch p.1 z).2.2.2 p hp rfl
    exact ⟨keep p.1 p.2 ne nf nch e n, free p.1 p.2 nch e n, ne, nf, d⟩
theorem Inv.un {t' : Nat} (I : Inv X pins σ H s) (u : Un X.fs [] H H' s.heap h') (hok : HOk X.prog X.w H' h') : Inv X pins σ H' { s with heap := h', toks := t' } := by
  obtain ⟨m, ⟨o, es, ep, ho, r⟩, _⟩ := id I.loc
  obtain ⟨sl, hL⟩ := u.any ho I.free (by simp)
  exact I.step (g' := s.gens) (d' := s.drawn) (ch := []) (fun _ z => nomatch z) (fun b o _ hb _ e n => u.keep b o e n hb (by simp)) (fun b o _ hb _ e n => u.slot b o e n hb (by simp)) (fun b o _ e n => u.free b o e n (by simp)) (fun b o _ e => u.there b o e (by simp)) u.tups u.frzs u.tbls (fun m' hm => by
    obtain ⟨o', es', ep', ho', r'⟩ := hm
    rw [ho] at ho'; cases ho'
    exact ⟨_, es', ep', hL, r'⟩) hok I.bare
theorem Inv.call {g' : Array GenState} {t' : Nat} {d' : Drawn} {ch : List Addr} (I : Inv X pins σ H s) (u : Un (frs X.stack) ch H H' s.heap h') (hok : HOk X.prog X.w H' h') (hg : AllBare g')
    (hch : ∀ b ∈ ch, (b ∈ X.ex ∨ X.s₀.heap.objs.size ≤ b) ∧ b ≠ X.env.locals ∧ (∀ x c, X.env.cells.lookup x = some c → c ≠ b) ∧ ∀ p ∈ X.pn ++ pins, p.1 ≠ b) :
    Inv X pins σ H' { s with heap := h', gens := g', drawn := d', toks := t' } := by
  obtain ⟨m, ⟨o, es, ep, ho, r⟩, _⟩ := id I.loc
  obtain ⟨sl, hL⟩ := u.any ho I.free fun z => (hch _ z).2.1 rfl
  exact I.step (ch := ch) hch (fun b o hL hb hc e n => u.keep b o e n (fun z => (List.mem_cons.mp (I.stkSub b z)).elim hL hb) hc) (fun b o _ _ hc e n => u.any e n hc) (fun b o hc e n => u.free b o e n hc) (fun b o hc e => u.there b o e hc) u.tups u.frzs u.tbls (fun m' hm => by
    obtain ⟨o', es', ep', ho', r'⟩ := hm
    rw [ho] at ho'; cases ho'
    exact ⟨_, es', ep', hL, r'⟩) hok hg
theorem Inv.turned {t' : Nat} {it : Addr} (I : Inv X pins σ H s) (k : ∀ b o, b ≠ it → s.heap.get? b = some o → h'.get? b = some o) (hn : H it = none) (hL : it ≠ X.env.locals)
    (h1 : it ∈ X.ex ∨ X.s₀.heap.objs.size ≤ it) (h2 : ∀ x c, X.env.cells.lookup x = some c → c ≠ it) (h3 : ∀ p ∈ X.pn ++ pins, p.1 ≠ it) : Inv X pins σ H { s with heap := h', toks := t' } := by
  have nit : ∀ b u, H b = some u → b ≠ it := fun b u e z => by rw [z, hn] at e; cases e
  refine I.step (g' := s.gens) (d' := s.drawn) (ch := [it]) (fun b hb => ?_) (fun b o _ _ hc e _ => k b o (fun z => hc (by simp [z])) e) (fun b o _ _ hc e _ => ⟨o.slots, k b o (fun z => hc (by simp [z])) e⟩) (fun _ _ _ _ n => n)
    (fun b o hc e => ⟨o, k b o (fun z => hc (by simp [z])) e⟩) (fun _ _ e => e) (fun _ _ _ e => e) (fun b ps e => ⟨#[], by rw [e]; simp⟩) (fun m hm => ?_) (fun b u e => ?_) I.bare
  · have e : b = it := by simpa using hb
    subst e
    exact ⟨h1, hL, h2, h3⟩
  · obtain ⟨o, es, ep, ho, r⟩ := hm
    exact ⟨o, es, ep, k _ o (Ne.symm hL) ho, r⟩
  · refine (I.hok b u e).stay (fun c v hc q => k c v ?_ q) (fun _ q => q) fun _ _ q => q
    rcases hc with z | z
    · rw [z]; exact nit b u e
    · exact nit c _ z
theorem Inv.tok (I : Inv X pins σ H s) (t : Nat) : Inv X pins σ H { s with toks := t } := I.un (h' := s.heap) (t' := t) Un.refl I.hok
theorem Inv.kept {t' : Nat} (I : Inv X pins σ H s) (k : ∀ b u, s.heap.get? b = some u → h'.get? b = some u) : Inv X pins σ H { s with heap := h', toks := t' } := I.un (Un.kept k) (I.hok.kept k)
theorem Inv.laid {a : Addr} {o : HO} {t' : Nat} (I : Inv X pins σ H s) (k : ∀ b u, s.heap.get? b = some u → h'.get? b = some u) (hp : s.heap.objs.size ≤ a) (new : ObjOk X.prog X.w (upd H a o) h' a o) :
    Inv X pins σ (upd H a o) { s with heap := h', toks := t' } := I.un (Un.laid k hp (I.hok.fresh hp)) (I.hok.laid k hp new)
theorem Inv.write {x e : Addr} {o : HO} {t' : Nat} (I : Inv X pins σ H s) (mu : Mut (H x)) (he : e = x ∨ H e = some (.own x)) (k : ∀ b u, b ≠ e → s.heap.get? b = some u → h'.get? b = some u) (heo : ∃ u, h'.get? e = some u)
    (new : ObjOk X.prog X.w (upd H x o) h' x o) : Inv X pins σ (upd H x o) { s with heap := h', toks := t' } := I.un (Un.write mu he k heo) (I.hok.write mu he k heo new)
theorem Inv.pins_of {pins' : List (Addr × Obj)} (I : Inv X pins σ H s) (h : ∀ p ∈ pins', s.heap.get? p.1 = some p.2 ∧ H p.1 = none ∧ p.1 ≠ X.env.locals ∧ p.1 ∉ X.fs ∧ ∀ v, p.2.data ≠ .cell v) : Inv X pins' σ H s :=
  ⟨I.ok, I.os, I.bare, I.base, I.loc, I.cell, I.free, I.freeC, fun p hp => (List.mem_append.mp hp).elim (fun z => I.pin p (List.mem_append_left _ z)) (h p), I.hok, I.len⟩
theorem nodup_ix {N : List Str} (hN : N.Nodup) {i j : Nat} {x : Str} (a : N[i]? = some x) (b : N[j]? = some x) : i = j := by
  obtain ⟨h1, e1⟩ := List.getElem?_eq_some_iff.mp a
  obtain ⟨h2, e2⟩ := List.getElem?_eq_some_iff.mp b
  exact (List.getElem_inj hN).mp (e1.trans e2.symm)
theorem store_ok2 {M : Model} {A : Around} {E : Value → Shared → Prop} {i : Nat} {x : Str} {v : V} {u : Value} {Q : Unit → Shared → Prop} (I : Inv X pins σ H s) (hN : X.N.Nodup) (hi : X.N[i]? = some x) (hx : Loc X.env.scope x) (r : RelV v u)
    (h : ∀ s', Inv X pins (σ.set i (some v)) H s' → (∃ a, Heap.SameBut a s.heap s'.heap ∧ (a = X.env.locals ∨ X.env.cells.lookup x = some a)) → Q () s') (hf : X.fn x = true ∨ X.env.scope.names.lookup x = some .local := by first | exact .inl rfl | exact .inr rfl | assumption) : wpAny M A (storeName X.env x u) Q E s := by
  obtain ⟨m, hn, hl⟩ := id I.loc
  have hcls : (X.env.scope.kind == .class || (X.env.scope.kind == .module && X.env.locals != X.env.globals)) = false := by rw [I.ok.kind]; rfl
  have hiσ : i < σ.length := by rw [I.len]; exact (List.getElem?_eq_some_iff.mp hi).1
  have cne := I.cne
  have tracked : ∀ {a : Addr} {h' : Heap}, (∃ o, s.heap.get? a = some o ∧ H a = none) → Heap.SameBut a s.heap h' → HOk X.prog X.w H h' := fun {a h'} ha hs b ob e => by
    obtain ⟨_, _, hfree⟩ := ha
    refine (I.hok b ob e).stay (fun c w' hc q => (hs.2 c ?_).trans q) (fun _ q => q) fun _ _ q => q
    rintro rfl
    rcases hc with rfl | hc
    · rw [hfree] at e; cases e
    · rw [hfree] at hc; cases hc
  rcases hx with hk | hk
  · refine wpAny_storeName_local hk hn (fun h' hn' hs => ?_) hcls
    obtain ⟨oL, _, _, hoL, _⟩ := id hn
    refine h _ ⟨I.ok, I.os, I.bare, ⟨fun b o e n hb hx => ?_, fun b o e n hb hx => ?_, I.base.free, fun b o e hx => ?_, I.base.tups, I.base.frzs, I.base.tbls⟩, ⟨_, hn', fun j y v' e1 e2 e3 => ?_⟩, fun y c e => ?_, I.free, I.freeC, fun p hp => ?_, tracked ⟨oL, hoL, I.free⟩ hs, by simpa using I.len⟩ ⟨_, hs, .inl rfl⟩
    · exact (hs.2 b (Nat.ne_of_lt (Nat.lt_of_lt_of_le (Heap.lt_size e) I.ok.above))).trans (I.base.keep b o e n hb hx)
    · obtain ⟨sl, e1⟩ := I.base.slot b o e n hb hx
      exact ⟨sl, (hs.2 b (Nat.ne_of_lt (Nat.lt_of_lt_of_le (Heap.lt_size e) I.ok.above))).trans e1⟩
    · obtain ⟨o', e1⟩ := I.base.there b o e hx
      exact ⟨o', (hs.2 b (Nat.ne_of_lt (Nat.lt_of_lt_of_le (Heap.lt_size e) I.ok.above))).trans e1⟩
    · by_cases hj : j = i
      · subst hj
        rw [hi] at e1; cases e1
        rw [List.getElem?_set_self hiσ] at e2
        cases e2
        exact ⟨u, r, .inl ⟨hk, by simp⟩⟩
      · rw [List.getElem?_set_ne (Ne.symm hj)] at e2
        obtain ⟨u', r', q⟩ := hl j y v' e1 e2 e3
        refine ⟨u', r', ?_⟩
        rcases q with ⟨k, e⟩ | ⟨k, c, e, z⟩
        · refine .inl ⟨k, ?_⟩
          have : y ≠ x := fun e => hj (nodup_ix hN e1 (e ▸ hi))
          simp [this, e]
        · exact .inr ⟨k, c, e, z.sameBut hs (cne y c e)⟩
    · obtain ⟨w', z⟩ := I.cell y c e
      exact ⟨w', z.sameBut hs (cne y c e)⟩
    · obtain ⟨e, n, ne, nf, d⟩ := I.pin p hp
      exact ⟨(hs.2 p.1 ne).trans e, n, ne, nf, d⟩
  · have hfn : X.fn x = true := by
      rcases hf with z | z
      · exact z
      · rw [z] at hk; cases hk
    obtain ⟨c, hc⟩ := I.ok.has x (.inl hk)
    obtain ⟨w', z⟩ := I.cell x c hc
    refine wpAny_storeName_cell I.ok.kind hk hc z (fun h' hc' hs => ?_)
    obtain ⟨oc, hoc, hocd⟩ := id z
    refine h { s with heap := h' } ⟨I.ok, I.os, I.bare, ⟨fun b o e n hb hx => ?_, fun b o e n hb hx => ?_, I.base.free, fun b o e hx => ?_, I.base.tups, I.base.frzs, I.base.tbls⟩, ⟨m, hn.sameBut hs (Ne.symm (cne x c hc)), fun j y v' e1 e2 e3 => ?_⟩, fun y c' e => ?_, I.free, I.freeC, fun p hp => ?_, tracked ⟨oc, hoc, I.freeC x c hc⟩ hs, by simpa using I.len⟩ ⟨c, hs, .inr hc⟩
    · exact (hs.2 b (Nat.ne_of_lt (Nat.lt_of_lt_of_le (Heap.lt_size e) (I.ok.cab x c hfn hc)))).trans (I.base.keep b o e n hb hx)
    · obtain ⟨sl, e1⟩ := I.base.slot b o e n hb hx
      exact ⟨sl, (hs.2 b (Nat.ne_of_lt (Nat.lt_of_lt_of_le (Heap.lt_size e) (I.ok.cab x c hfn hc)))).trans e1⟩
    · obtain ⟨o', e1⟩ := I.base.there b o e hx
      exact ⟨o', (hs.2 b (Nat.ne_of_lt (Nat.lt_of_lt_of_le (Heap.lt_size e) (I.ok.cab x c hfn hc)))).trans e1⟩
    · by_cases hj : j = i
      · subst hj
        rw [hi] at e1; cases e1
        rw [List.getElem?_set_self hiσ] at e2
        cases e2
        exact ⟨u, r, .inr ⟨.inl hk, c, hc, hc'⟩⟩
      · rw [List.getElem?_set_ne (Ne.symm hj)] at e2
        obtain ⟨u', r', q⟩ := hl j y v' e1 e2 e3
        refine ⟨u', r', ?_⟩
        rcases q with q | ⟨k, c', e, z'⟩
        · exact .inl q
        · refine .inr ⟨k, c', e, z'.sameBut hs ?_⟩
          rintro rfl
          exact hj (nodup_ix hN e1 (I.ok.inj _ _ _ e hc ▸ hi))
    · by_cases hcc : c' = c
      · subst hcc; exact ⟨_, hc'⟩
      · obtain ⟨w2, z2⟩ := I.cell y c' e
        exact ⟨w2, z2.sameBut hs hcc⟩
    · obtain ⟨e, n, ne, nf, d⟩ := I.pin p hp
      refine ⟨(hs.2 p.1 ?_).trans e, n, ne, nf, d⟩
      intro q
      rw [q, hoc] at e
      have q' : oc = p.2 := Option.some.inj e
      exact d w' (by rw [← q']; exact hocd)
theorem store_ok {M : Model} {A : Around} {E : Value → Shared → Prop} {i : Nat} {x : Str} {v : V} {u : Value} {Q : Unit → Shared → Prop} (I : Inv X pins σ H s) (hN : X.N.Nodup) (hi : X.N[i]? = some x) (hx : Loc X.env.scope x) (r : RelV v u)
    (h : ∀ s', Inv X pins (σ.set i (some v)) H s' → Q () s') (hf : X.fn x = true ∨ X.env.scope.names.lookup x = some .local := by first | exact .inl rfl | exact .inr rfl | assumption) : wpAny M A (storeName X.env x u) Q E s :=
  store_ok2 I hN hi hx r (fun s' I' _ => h s' I') hf
theorem Inv.call' {s' : Shared} {ch : List Addr} (I : Inv X pins σ H s) (ho : s'.os = s.os) (u : Un (frs X.stack) ch H H' s.heap s'.heap) (hok : HOk X.prog X.w H' s'.heap) (hg : AllBare s'.gens)
    (hch : ∀ b ∈ ch, (b ∈ X.ex ∨ X.s₀.heap.objs.size ≤ b) ∧ b ≠ X.env.locals ∧ (∀ x c, X.env.cells.lookup x = some c → c ≠ b) ∧ ∀ p ∈ X.pn ++ pins, p.1 ≠ b) : Inv X pins σ H' s' := by
  obtain ⟨h', g', d', t', o'⟩ := s'
  have e : o' = s.os := ho
  subst e
  exact I.call (g' := g') (t' := t') (d' := d') u hok hg hch
end
abbrev XK := Value → Option Addr → Hp → Prop
abbrev St := List (Option V)
abbrev VK := V → Hp → Prop
abbrev TE := St → Hp → VK → Prop
abbrev TT := St → Hp → (Bool → Hp → Prop) → Prop
abbrev TA := St → Hp → (List V → Hp → Prop) → Prop
structure Ends where
  nx : St → Hp → Prop
  rt : VK
  bk : St → Hp → Prop := fun _ _ => False
  ct : St → Hp → Prop := fun _ _ => False
abbrev TS := Ends → St → Hp → Prop
def EP (X : Cx) (pins : List (Addr × Obj)) (σ : St) (Q : VK) (u : Value) (s' : Shared) : Prop := ∃ v H', Inv X pins σ H' s' ∧ RelV v u ∧ Q v H'
def TP (X : Cx) (pins : List (Addr × Obj)) (σ : St) (Q : Bool → Hp → Prop) (b : Bool) (s' : Shared) : Prop := ∃ H', Inv X pins σ H' s' ∧ Q b H'
def AP (X : Cx) (pins : List (Addr × Obj)) (σ : St) (Q : List V → Hp → Prop) (us : List Value) (s' : Shared) : Prop := ∃ vs H', Inv X pins σ H' s' ∧ Vals vs us ∧ Q vs H'
def SP (X : Cx) (pins : List (Addr × Obj)) (D : Ends) (f : Flow) (s' : Shared) : Prop :=
  match f with
  | .next => ∃ σ' H', Inv X pins σ' H' s' ∧ D.nx σ' H'
  | .brk => ∃ σ' H', Inv X pins σ' H' s' ∧ D.bk σ' H'
  | .cont => ∃ σ' H', Inv X pins σ' H' s' ∧ D.ct σ' H'
  | .ret u => ∃ v σ' H', Inv X pins σ' H' s' ∧ RelV v u ∧ D.rt v H'
def PE (X : Cx) (e : Expr) (t : TE) : Prop :=
  ∀ (pins : List (Addr × Obj)) (s : Shared) (σ : St) (H : Hp) (Q : VK), Inv X pins σ H s → t σ H Q → wpAny (model X.prog X.w) X.A (eval e X.env) (EP X pins σ Q) X.xe s
def PT (X : Cx) (e : Expr) (t : TT) : Prop :=
  ∀ (pins : List (Addr × Obj)) (s : Shared) (σ : St) (H : Hp) (Q : Bool → Hp → Prop), Inv X pins σ H s → t σ H Q → wpAny (model X.prog X.w) X.A (isTrue e X.env (eval e X.env)) (TP X pins σ Q) X.xe s
def PW (X : Cx) (e : Expr) (t : TT) : Prop :=
  ∀ (whole : Sem Value) (pins : List (Addr × Obj)) (s : Shared) (σ : St) (H : Hp) (Q : Bool → Hp → Prop), Inv X pins σ H s → t σ H Q → wpAny (model X.prog X.w) X.A (isTrue e X.env whole) (TP X pins σ Q) X.xe s
theorem PW.pt {X : Cx} {e : Expr} {t : TT} (h : PW X e t) : PT X e t := h _
def PA (X : Cx) (es : List Expr) (t : TA) : Prop :=
  ∀ (pos : Pos) (pins : List (Addr × Obj)) (s : Shared) (σ : St) (H : Hp) (Q : List V → Hp → Prop), Inv X pins σ H s → t σ H Q → wpAny (model X.prog X.w) X.A (spliced (backTo pos (starEach es X.env))) (AP X pins σ Q) X.xe s
def PS (X : Cx) (st : Stmt) (t : TS) : Prop :=
  ∀ (pins : List (Addr × Obj)) (s : Shared) (σ : St) (H : Hp) (D : Ends), Inv X pins σ H s → t D σ H → wpAny (model X.prog X.w) X.A (exec st X.env) (SP X pins D) X.xe s
def PSs (X : Cx) (st : List Stmt) (t : TS) : Prop :=
  ∀ (pins : List (Addr × Obj)) (s : Shared) (σ : St) (H : Hp) (D : Ends), Inv X pins σ H s → t D σ H → wpAny (model X.prog X.w) X.A (execs st X.env) (SP X pins D) X.xe s
theorem thn {α : Type} {t : Sem α} {Q Q' : α → Shared → Prop} {M : Model} {A : Around} {E : Value → Shared → Prop} {s : Shared} (h : wpAny M A t Q E s) (hQ : ∀ a s, Q a s → Q' a s) : wpAny M A t Q' E s := wpAny_mono h hQ fun _ _ x => x
open PySem PySem.Spec PyProof.Rows
section
variable {X : Cx}
theorem bin {a b : Expr} {ta tb : TE} (ha : PE X a ta) (hb : PE X b tb) {pins : List (Addr × Obj)} {s : Shared} {σ : St} {H : Hp} {R : V → V → Hp → Prop} (I : Inv X pins σ H s) (h : ta σ H fun x H1 => tb σ H1 fun y H2 => R x y H2)
    {α : Type} {Q : α → Shared → Prop} {f : Value → Value → Sem α}
    (hf : ∀ v u s2 x y H2, Inv X pins σ H2 s2 → RelV x v → RelV y u → R x y H2 → wpAny (model X.prog X.w) X.A (f v u) Q X.xe s2) :
    wpAny (model X.prog X.w) X.A (eval a X.env) (fun v s₁ => wpAny (model X.prog X.w) X.A (eval b X.env) (fun u s₂ => wpAny (model X.prog X.w) X.A (f v u) Q X.xe s₂) X.xe s₁) X.xe s := by
  refine thn (ha pins s σ H _ I h) fun v s1 ⟨x, H1, I1, r1, q1⟩ => ?_
  refine thn (hb pins s1 σ H1 _ I1 q1) fun u s2 ⟨y, H2, I2, r2, q2⟩ => ?_
  exact hf v u s2 x y H2 I2 r1 r2 q2
def tVar (i : Nat) : TE := fun σ H Q => ∃ v, σ[i]? = some (some v) ∧ Q v H
def tC (v : V) : TE := fun _ H Q => Q v H
theorem pe_var {i : Nat} {x : Str} {pos : Pos} (hN : X.N[i]? = some x) (hv : Vis X.env.scope x) (hd : (x == ("__debug__" : Str)) = false := by decide) (hcd : (x == ("__classdict__" : Str)) = false := by decide) : PE X (.Name x pos) (tVar i) := by
  intro pins s σ H Q I h
  obtain ⟨v, e, h⟩ := h
  obtain ⟨m, hn, hl⟩ := I.loc
  obtain ⟨u, r, l⟩ := hl i x v hN e hv
  have fin : EP X pins σ Q u s := ⟨v, H, I, r, h⟩
  rcases l with ⟨hk, hm⟩ | ⟨hk, c, hc, hcell⟩
  · exact wpAny_Name (wpAny_loadName_local I.ok.kind hk hn hm fin) hd
  · rcases hk with hk | hk
    · exact wpAny_Name (wpAny_loadName_cell I.ok.kind hk hc hcell fin) hd
    · exact wpAny_Name (wpAny_loadName_free I.ok.kind hk hc hcell fin hcd) hd
theorem pe_int {i j pos} : PE X (.Constant (.int i) j pos) (tC (.int i)) := fun _ _ _ H _ I h => wpAny_Constant_int ⟨.int i, H, I.tok _, ⟨_, rfl⟩, h⟩
theorem pe_bl {b j pos} : PE X (.Constant (.bool b) j pos) (tC (.bl b)) := fun _ _ _ H _ I h => Constant_bool ⟨.bl b, H, I, rfl, h⟩
def Gl (X : Cx) (x : Str) : Prop := X.env.kindOf x = some .globalImplicit
theorem ld_glob {E : Value → Shared → Prop} {pins : List (Addr × Obj)} {s : Shared} {σ : St} {H : Hp} {x : Str} {u : Value} {pos : Pos} {Q : Value → Shared → Prop} (I : Inv X pins σ H s) (hg : Gl X x) (hm : X.mg x = some u) (h : Q u s)
    (hd : (x == ("__debug__" : Str)) = false := by decide) : wpAny (model X.prog X.w) X.A (eval (.Name x pos) X.env) Q E s :=
  Calls.Name_function_global I.ok.kind hg (Calls.loadGlobal_global (by rw [I.ok.glob]; exact I.mod.glob.keeps I.bk) hm h) hd
theorem ld_blt {E : Value → Shared → Prop} {pins : List (Addr × Obj)} {s : Shared} {σ : St} {H : Hp} {x : Str} {u : Value} {pos : Pos} {Q : Value → Shared → Prop} (I : Inv X pins σ H s) (hg : Gl X x) (hm : X.mg x = none) (hv : bootBuiltins x = some u) (h : Q u s)
    (hn : x ≠ "__name__" := by decide) (hd : (x == ("__debug__" : Str)) = false := by decide) : wpAny (model X.prog X.w) X.A (eval (.Name x pos) X.env) Q E s := by
  obtain ⟨mb, h1, h2⟩ := I.mod.blt
  exact Calls.Name_function_global I.ok.kind hg (Calls.loadGlobal_builtin (by rw [I.ok.glob]; exact I.mod.glob.keeps I.bk) hm (by rw [I.ok.blt]; exact h1.keeps I.bk) ((h2 x hn).trans hv) h) hd
theorem pe_glob {x : Str} {v : V} {u : Value} {pos : Pos} (hg : Gl X x) (hm : X.mg x = some u) (r : RelV v u) (hd : (x == ("__debug__" : Str)) = false := by decide) : PE X (.Name x pos) (tC v) :=
  fun _ _ _ H _ I h => ld_glob I hg hm ⟨v, H, I, r, h⟩ hd
theorem pe_bltn {x : Str} {v : V} {u : Value} {pos : Pos} (hg : Gl X x) (hm : X.mg x = none) (hv : bootBuiltins x = some u) (r : RelV v u) (hn : x ≠ "__name__" := by decide) (hd : (x == ("__debug__" : Str)) = false := by decide) : PE X (.Name x pos) (tC v) :=
  fun _ _ _ H _ I h => ld_blt I hg hm hv ⟨v, H, I, r, h⟩ hn hd
variable {a b : Expr} {ta tb : TE} {pos : Pos}
def tB (t : TE) : TT := fun σ H Q => t σ H fun x H1 => ∃ c, x = .bl c ∧ Q c H1
theorem pt_val {e : Expr} {t : TE} (h : PE X e t) (he : ∀ whole, isTrue e X.env whole = (do let v ← whole; standAt e.pos; holding [v] (truthy v)) := by intro _; rfl) : PT X e (tB t) := by
  intro pins s σ H Q I hw
  refine isTrue_plain (thn (h pins s σ H _ I hw) fun v s1 ⟨x, H1, I1, r1, q1⟩ => ?_) (he _)
  obtain ⟨d, rfl, q⟩ := q1
  cases r1
  exact wpAny_truthy_bool ⟨H1, I1, q⟩
variable {tA tB' : TT} {rest : List Expr}
def tAnd (t u : TT) : TT := fun σ H Q => t σ H fun c H1 => if c = true then u σ H1 Q else Q false H1
def tOr (t u : TT) : TT := fun σ H Q => t σ H fun c H1 => if c = true then Q true H1 else u σ H1 Q
def tNot (t : TT) : TT := fun σ H Q => t σ H fun c H1 => Q (!c) H1
theorem pw_and1 (ha : PT X a tA) : PW X (.BoolOp .And [a] pos) tA := by
  intro wh pins s σ H Q I h
  refine isTrue_and (thn (ha pins s σ H Q I h) fun c s1 e => ?_)
  cases c with
  | true => exact isTrue_and_nil e
  | false => exact e
theorem pw_or1 (ha : PT X a tA) : PW X (.BoolOp .Or [a] pos) tA := by
  intro wh pins s σ H Q I h
  refine isTrue_or (thn (ha pins s σ H Q I h) fun c s1 e => ?_)
  cases c with
  | false => exact isTrue_or_nil e
  | true => exact e
theorem pw_and (ha : PT X a tA) (hb : PW X (.BoolOp .And (b :: rest) pos) tB') : PW X (.BoolOp .And (a :: b :: rest) pos) (tAnd tA tB') := by
  intro wh pins s σ H Q I h
  refine isTrue_and (thn (ha pins s σ H _ I h) fun c s1 ⟨H1, I1, q1⟩ => ?_)
  cases c with
  | true => exact hb wh pins s1 σ H1 Q I1 q1
  | false => exact ⟨H1, I1, q1⟩
theorem pw_or (ha : PT X a tA) (hb : PW X (.BoolOp .Or (b :: rest) pos) tB') : PW X (.BoolOp .Or (a :: b :: rest) pos) (tOr tA tB') := by
  intro wh pins s σ H Q I h
  refine isTrue_or (thn (ha pins s σ H _ I h) fun c s1 ⟨H1, I1, q1⟩ => ?_)
  cases c with
  | true => exact ⟨H1, I1, q1⟩
  | false => exact hb wh pins s1 σ H1 Q I1 q1
theorem pt_not (ha : PT X a tA) : PT X (.UnaryOp .Not a pos) (tNot tA) := by
  intro pins s σ H Q I h
  exact isTrue_not (ha pins s σ H (fun c H1 => Q (!c) H1) I h)
def tAndV (ta tb : TE) : TE := fun σ H Q => ta σ H fun x H1 => ∃ c, x = .bl c ∧ if c = true then tb σ H1 Q else Q (.bl false) H1
def tNotV (ta : TE) : TE := fun σ H Q => ta σ H fun x H1 => ∃ c, x = .bl c ∧ Q (.bl (!c)) H1
theorem pe_one {op} {t : TE} (h : PE X a t) : PE X (.BoolOp op [a] pos) t := fun pins s σ H Q I hw => BoolOp_one (h pins s σ H Q I hw)
theorem pe_and (ha : PE X a ta) (hb : PE X (.BoolOp .And (b :: rest) pos) tb) : PE X (.BoolOp .And (a :: b :: rest) pos) (tAndV ta tb) := by
  intro pins s σ H Q I h
  refine BoolOp_and (thn (ha pins s σ H _ I h) fun v s1 ⟨x, H1, I1, r1, q1⟩ => ?_)
  obtain ⟨c, rfl, q1⟩ := q1
  cases r1
  refine wpAny_truthy_bool ?_
  cases c with
  | true => exact hb pins s1 σ H1 Q I1 q1
  | false => exact ⟨.bl false, H1, I1, rfl, q1⟩
theorem pe_not (ha : PE X a ta) : PE X (.UnaryOp .Not a pos) (tNotV ta) := by
  intro pins s σ H Q I h
  refine UnaryOp_ (thn (ha pins s σ H _ I h) fun v s1 ⟨x, H1, I1, r1, q1⟩ => ?_)
  obtain ⟨c, rfl, q1⟩ := q1
  cases r1
  exact not_of (wpAny_truthy_bool ⟨.bl (!c), H1, I1, rfl, q1⟩)
end
open PySem PySem.Spec PyProof.Rows
def SqL (K : PySem.W.Frag) (H : Hp) (a : Addr) (xs : List V) : Prop :=
  Rd H a (.lst xs) ∨
    ∃ (o : Obj) (its : Array Value) (n : Nat), K.lookup a = some o ∧ o.cls = .type "list" ∧ o.dict = none ∧ o.data = .seq its n ∧ its.size ≤ sizeLine ∧ Vals xs its.toList
def SqT (K : PySem.W.Frag) (H : Hp) (a : Addr) (xs : List V) : Prop :=
  Rd H a (.tup xs) ∨
    ∃ (o : Obj) (its : Array Value) (n : Nat), K.lookup a = some o ∧ o.cls = .type "tuple" ∧ o.data = .seq its n ∧ its.size ≤ sizeLine ∧ Vals xs its.toList
def absV : Value → Option V
  | .none => some .non
  | .bool b => some (.bl b)
  | .int i _ => some (.int i)
  | .str x _ => some (.str x)
  | .bytes b _ => some (.byt b)
  | .float b _ => some (.flt b)
  | .ref a => some (.ref a)
  | .type n => some (.ty n)
  | _ => none
theorem RelV.abs {x : V} {u : Value} (r : RelV x u) : absV u = some x := by
  cases x with
  | non => cases r; rfl
  | bl _ => cases r; rfl
  | int _ => obtain ⟨t, rfl⟩ := r; rfl
  | str _ => obtain ⟨t, rfl⟩ := r; rfl
  | byt _ => obtain ⟨t, rfl⟩ := r; rfl
  | flt _ => obtain ⟨t, rfl⟩ := r; rfl
  | ref _ => cases r; rfl
  | ty _ => cases r; rfl
theorem RelV.inj {x y : V} {u : Value} (r : RelV x u) (q : RelV y u) : x = y := Option.some.inj (r.abs.symm.trans q.abs)
theorem Vals.inj : ∀ {xs ys : List V} {us : List Value}, Vals xs us → Vals ys us → xs = ys
  | _, _, _, .nil, .nil => rfl
  | _, _, _, .cons r t, .cons r' t' => by rw [r.inj r', Vals.inj t t']
section
variable {X : Cx} {pins : List (Addr × Obj)} {σ : St} {H : Hp} {s : Shared} {a : Addr} {xs ys : List V}
theorem SqL.of {K : PySem.W.Frag} (h : H a = some (.lst xs)) : SqL K H a xs := .inl (.inl h)
theorem SqT.of {K : PySem.W.Frag} (h : H a = some (.tup xs)) : SqT K H a xs := .inl (.inl h)
theorem Inv.list (I : Inv X pins σ H s) (h : SqL X.K H a xs) : ∃ its : List Value, Vals xs its ∧ PlainL s.heap a its.toArray ∧ xs.length ≤ sizeLine := by
  rcases h with h | ⟨o, its, n, hk, hc, hd, hs, hz, r⟩
  · obtain ⟨z, its, n, r, e⟩ := h.ok I.hok
    exact ⟨its, r, ⟨_, n, e, rfl, rfl, rfl⟩, z⟩
  · refine ⟨its.toList, r, ⟨o, n, I.kIn a o hk, hc, hd, by simpa using hs⟩, ?_⟩
    have e := r.length
    simp only [Array.length_toList] at e
    omega
theorem Inv.tuple (I : Inv X pins σ H s) (h : SqT X.K H a xs) : ∃ its : List Value, Vals xs its ∧ IsTup s.heap a its.toArray ∧ xs.length ≤ sizeLine := by
  rcases h with h | ⟨o, its, n, hk, hc, hs, hz, r⟩
  · obtain ⟨z, its, r, p⟩ := h.ok I.hok
    exact ⟨its, r, p, z⟩
  · refine ⟨its.toList, r, ⟨o, I.kIn a o hk, hc, n, by simpa using hs⟩, ?_⟩
    have e := r.length
    simp only [Array.length_toList] at e
    omega
theorem Inv.list_inj (I : Inv X pins σ H s) (h : SqL X.K H a xs) (h' : SqL X.K H a ys) : xs = ys := by
  obtain ⟨its, r, ⟨o, n, e, _, _, d⟩, _⟩ := I.list h
  obtain ⟨its', r', ⟨o', n', e', _, _, d'⟩, _⟩ := I.list h'
  rw [e] at e'; cases e'
  rw [d] at d'
  injection d' with d1 _
  have : its = its' := by simpa using congrArg Array.toList d1
  subst this
  exact r.inj r'
theorem Inv.tuple_inj (I : Inv X pins σ H s) (h : SqT X.K H a xs) (h' : SqT X.K H a ys) : xs = ys := by
  obtain ⟨its, r, ⟨o, e, _, n, d⟩, _⟩ := I.tuple h
  obtain ⟨its', r', ⟨o', e', _, n', d'⟩, _⟩ := I.tuple h'
  rw [e] at e'; cases e'
  rw [d] at d'
  injection d' with d1 _
  have : its = its' := by simpa using congrArg Array.toList d1
  subst this
  exact r.inj r'
end
abbrev Cx.wish (X : Cx) (E : Value → Shared → Prop) : Cx := { X with xe := E }
abbrev Cx.nox (X : Cx) : Cx := X.wish fun _ _ => False
theorem Cx.Ok.wish {X : Cx} (ok : X.Ok) (E : Value → Shared → Prop) : (X.wish E).Ok :=
  ⟨ok.mod, ok.kind, ok.glob, ok.blt, ok.above, ok.inj, ok.has, ok.cab, ok.hd, ok.frames, ok.stk, ok.exf, ok.bs, ok.bsz, ok.noex, ok.exfs, ok.funs, ok.frf⟩
theorem Cx.Ok.unwish {X : Cx} {E : Value → Shared → Prop} (ok : (X.wish E).Ok) : X.Ok :=
  ⟨ok.mod, ok.kind, ok.glob, ok.blt, ok.above, ok.inj, ok.has, ok.cab, ok.hd, ok.frames, ok.stk, ok.exf, ok.bs, ok.bsz, ok.noex, ok.exfs, ok.funs, ok.frf⟩
section
variable {X : Cx} {pins : List (Addr × Obj)} {σ : St} {H : Hp} {s : Shared} {E : Value → Shared → Prop}
theorem Inv.wish (I : Inv X pins σ H s) (E : Value → Shared → Prop) : Inv (X.wish E) pins σ H s := ⟨I.ok.wish E, I.os, I.bare, I.base, I.loc, I.cell, I.free, I.freeC, I.pin, I.hok, I.len⟩
theorem Inv.unwish (I : Inv (X.wish E) pins σ H s) : Inv X pins σ H s := ⟨I.ok.unwish, I.os, I.bare, I.base, I.loc, I.cell, I.free, I.freeC, I.pin, I.hok, I.len⟩
theorem SP.unwish {D : Ends} {f : Flow} {s' : Shared} (h : SP (X.wish E) pins D f s') : SP X pins D f s' := by
  cases f with
  | next => obtain ⟨σ', H', I, q⟩ := h; exact ⟨σ', H', I.unwish, q⟩
  | brk => obtain ⟨σ', H', I, q⟩ := h; exact ⟨σ', H', I.unwish, q⟩
  | cont => obtain ⟨σ', H', I, q⟩ := h; exact ⟨σ', H', I.unwish, q⟩
  | ret u => obtain ⟨v, σ', H', I, r, q⟩ := h; exact ⟨v, σ', H', I.unwish, r, q⟩
theorem PSs.nox {st : List Stmt} {t : TS} (h : PSs X.nox st t) : PSs X st t := fun pins s σ H D I hw =>
  wpAny_mono (h pins s σ H D (I.wish _) hw) (fun _ _ q => q.unwish) fun _ _ z => False.elim z
end
section
variable {X : Cx} {st : Stmt} {rest : List Stmt} {t u : TS} {e : Expr} {te : TE} {pos : Pos}
def tNext : TS := fun D σ H => D.nx σ H
def tSeq (t u : TS) : TS := fun D σ H => t { D with nx := u D } σ H
theorem pss_nil : PSs X [] tNext := fun _ _ σ H _ I h => wpAny_execs_nil ⟨σ, H, I, h⟩
theorem pss_cons (h1 : PS X st t) (h2 : PSs X rest u) : PSs X (st :: rest) (tSeq t u) := by
  intro pins s σ H D I h
  refine wpAny_execs_cons (thn (h1 pins s σ H { D with nx := u D } I h) fun f s1 q => ?_)
  cases f with
  | next =>
    obtain ⟨σ', H', I', q⟩ := q
    exact h2 pins s1 σ' H' D I' q
  | ret v => exact q
  | brk => exact q
  | cont => exact q
theorem pss_one (h1 : PS X st t) : PSs X [st] t := by
  intro pins s σ H D I h
  refine wpAny_execs_cons (thn (h1 pins s σ H D I h) fun f s1 q => ?_)
  cases f with
  | next => exact wpAny_execs_nil q
  | ret v => exact q
  | brk => exact q
  | cont => exact q
theorem Inv.quiet {pins : List (Addr × Obj)} {σ : St} {H : Hp} {s : Shared} (I : Inv X pins σ H s) : interactive X.env = false := by simp [interactive, I.ok.kind]
def tDrop (te : TE) : TS := fun D σ H => te σ H fun _ H1 => D.nx σ H1
theorem ps_expr (he : PE X e te) (hs : swapsWith e none pos.line X.env = pure false := by rfl) : PS X (.Expr e pos) (tDrop te) := by
  intro pins s σ H D I h
  exact wpAny_Expr_any (thn (he pins s σ H _ I h) fun v s1 ⟨x, H1, I1, r1, q1⟩ => ⟨σ, H1, I1, q1⟩) I.quiet hs
def tRet (te : TE) : TS := fun D σ H => te σ H D.rt
theorem ps_ret (he : PE X e te) : PS X (.Return (some e) pos) (tRet te) := by
  intro pins s σ H D I h
  exact wpAny_Return_some (thn (he pins s σ H _ I h) fun v s1 ⟨x, H1, I1, r1, q1⟩ => ⟨x, σ, H1, I1, r1, q1⟩)
def tIfS (c : TT) (t u : TS) : TS := fun D σ H => c σ H fun b H1 => if b = true then t D σ H1 else u D σ H1
theorem ps_if {c : Expr} {a b : List Stmt} {tc : TT} (hc : PT X c tc) (ha : PSs X a t) (hb : PSs X b u) : PS X (.If c a b pos) (tIfS tc t u) := by
  intro pins s σ H D I h
  refine wpAny_If (thn (hc pins s σ H _ I h) fun d s1 ⟨H1, I1, q1⟩ => ?_)
  cases d with
  | true => exact ha pins s1 σ H1 D I1 q1
  | false => exact hb pins s1 σ H1 D I1 q1
def tNever : TS := fun _ _ _ => False
theorem pss_never {sts : List Stmt} : PSs X sts tNever := fun _ _ _ _ _ _ h => h.elim
end
abbrev TG := V → St → Hp → (St → Hp → Prop) → Prop
abbrev TGs := List V → St → Hp → (St → Hp → Prop) → Prop
def PG (X : Cx) (target : Expr) (t : TG) : Prop :=
  ∀ (pins : List (Addr × Obj)) (s : Shared) (σ : St) (H : Hp) (v : V) (u : Value) (Q : St → Hp → Prop), Inv X pins σ H s → RelV v u → t v σ H Q →
    wpAny (model X.prog X.w) X.A (assign target X.env u) (fun _ s' => ∃ σ' H', Inv X pins σ' H' s' ∧ Q σ' H') X.xe s
def PGs (X : Cx) (ts : List Expr) (t : TGs) : Prop :=
  ∀ (pins : List (Addr × Obj)) (s : Shared) (σ : St) (H : Hp) (vs : List V) (us : List Value) (Q : St → Hp → Prop), Inv X pins σ H s → Vals vs us → t vs σ H Q →
    wpAny (model X.prog X.w) X.A (assignInOrder ((assignEach ts X.env).map (·.2)) us) (fun _ s' => ∃ σ' H', Inv X pins σ' H' s' ∧ Q σ' H') X.xe s
abbrev TSet := V → V → V → Hp → (Hp → Prop) → Prop
def PSet (X : Cx) (t : TSet) : Prop :=
  ∀ (pins : List (Addr × Obj)) (s : Shared) (σ : St) (H : Hp) (o i v : V) (ov iv u : Value) (Q : Hp → Prop), Inv X pins σ H s → RelV o ov → RelV i iv → RelV v u → t o i v H Q →
    wpAny (model X.prog X.w) X.A (setItem ov iv u) (fun _ s' => ∃ H', Inv X pins σ H' s' ∧ Q H') X.xe s
section
variable {X : Cx} {pos : Pos}
def gName (i : Nat) : TG := fun v σ H Q => Q (σ.set i (some v)) H
theorem pg_name {i : Nat} {x : Str} (hN : X.N.Nodup) (hi : X.N[i]? = some x) (hx : Loc X.env.scope x) (hf : X.fn x = true ∨ X.env.scope.names.lookup x = some .local := by first | exact .inl rfl | exact .inr rfl | assumption) : PG X (.Name x pos) (gName i) := by
  intro pins s σ H v u Q I r h
  exact wpAny_assign_Name (store_ok I hN hi hx r (fun s' I' => ⟨_, H, I', h⟩) hf)
def gNil : TGs := fun vs σ H Q => vs = [] ∧ Q σ H
def gCons (t : TG) (u : TGs) : TGs := fun vs σ H Q => ∃ v r, vs = v :: r ∧ t v σ H fun σ' H' => u r σ' H' Q
theorem pgs_nil : PGs X [] gNil := by
  intro pins s σ H vs us Q I r h
  obtain ⟨e, h⟩ := h
  subst e
  cases r
  exact assignInOrder_nil ⟨σ, H, I, h⟩
theorem pgs_cons {e : Expr} {es : List Expr} {t : TG} {u : TGs} (h1 : PG X e t) (h2 : PGs X es u)
    (hs : (assignEach (e :: es) X.env).map (·.2) = assign e X.env :: (assignEach es X.env).map (·.2) := by rfl) : PGs X (e :: es) (gCons t u) := by
  intro pins s σ H vs us Q I r h
  obtain ⟨v, vr, e1, h⟩ := h
  subst e1
  cases r with
  | cons r rr =>
    rw [hs]
    refine assignInOrder_cons (thn (h1 pins s σ H _ _ _ I r h) fun _ s1 ⟨σ1, H1, I1, q1⟩ => ?_)
    exact h2 pins s1 σ1 H1 _ _ Q I1 rr q1
def gTup (K : PySem.W.Frag) (n : Nat) (t : TGs) : TG := fun v σ H Q => ∃ a xs, v = .ref a ∧ SqT K H a xs ∧ xs.length = n ∧ t xs σ H Q
theorem pg_tup {es : List Expr} {k : Nat} {t : TGs} {n : Nat} (hc : X.calm = true) (h : PGs X es t)
    (hn : (assignEach es X.env).length = n := by rfl) (hst : (assignEach es X.env).findIdx? (·.1) = none := by rfl) : PG X (.Tuple es k pos) (gTup X.K n t) := by
  intro pins s σ H v u Q I r hw
  obtain ⟨a, xs, e1, hq, hl, hw⟩ := hw
  subst e1
  cases r
  obtain ⟨its, rv, ht, hz⟩ := I.tuple hq
  refine assign_Tuple_tuple (I.ok.hd hc) ht (by simp [hn, ← hl, rv.length]) hst fun h' hx => ?_
  have I1 : Inv X pins σ H { s with heap := h' } := I.kept (t' := s.toks) fun b o e => hx b o (Nat.ne_of_lt (Heap.lt_size e)) e
  exact h pins _ σ H xs _ Q I1 (by simpa using rv) hw
def gSub (to ti : TE) (t : TSet) : TG := fun v σ H Q => to σ H fun o H1 => ti σ H1 fun i H2 => t o i v H2 fun H3 => Q σ H3
theorem pg_sub {o i : Expr} {to ti : TE} {t : TSet} (ho : PE X o to) (hi : PE X i ti) (hs : PSet X t)
    (ha : ∀ v, assign (.Subscript o i pos) X.env v = (do
      let ov ← holding [v] (eval o X.env)
      let iv ← holding [v, ov] (eval i X.env)
      standAt pos
      holding [v, ov, iv] (setItem ov iv v)
      release [v, ov, iv] []) := by intro _; rfl) : PG X (.Subscript o i pos) (gSub to ti t) := by
  intro pins s σ H v u Q I r h
  rw [ha]
  refine wpAny_bind (wpAny_holding (thn (ho pins s σ H _ I h) fun ov s1 ⟨x, H1, I1, r1, q1⟩ => ?_))
  refine wpAny_bind (wpAny_holding (thn (hi pins s1 σ H1 _ I1 q1) fun iv s2 ⟨y, H2, I2, r2, q2⟩ => ?_))
  refine wpAny_bind (wpAny_standAt (wpAny_bind (wpAny_holding (thn (hs pins s2 σ H2 x y v ov iv u _ I2 r1 r2 r q2) fun _ s3 ⟨H3, I3, q3⟩ => ?_))))
  exact wpAny_release ⟨σ, H3, I3, q3⟩
def tAsg (te : TE) (g : TG) : TS := fun D σ H => te σ H fun x H1 => g x σ H1 D.nx
theorem ps_asg {tg e : Expr} {te : TE} {g : TG} (he : PE X e te) (hg : PG X tg g) (hs : swapsWithSole [tg] e pos.line X.env = pure false := by rfl) (hw : swappedStores [tg] e X.env = pure none := by rfl)
    (h1 : (assignEach [tg] X.env).map (·.2) = [assign tg X.env] := by rfl) : PS X (.Assign [tg] e pos) (tAsg te g) := by
  intro pins s σ H D I h
  refine wpAny_Assign_stores (thn (he pins s σ H _ I h) fun v s1 ⟨x, H1, I1, r1, q1⟩ => ?_) hs hw
  rw [h1]
  exact thn (hg pins s1 σ H1 x v _ I1 r1 q1) fun _ s2 q => q
theorem ps_set {i : Nat} {x : Str} {e : Expr} {te : TE} {pos' : Pos} (hN : X.N.Nodup) (hi : X.N[i]? = some x) (hx : Loc X.env.scope x) (he : PE X e te) (hs : swapsWith e (some (.Name x pos')) pos.line X.env = pure false := by rfl) (hf : X.fn x = true ∨ X.env.scope.names.lookup x = some .local := by first | exact .inl rfl | exact .inr rfl | assumption) :
    PS X (.Assign [.Name x pos'] e pos) (tAsg te (gName i)) := by
  intro pins s σ H D I h
  refine wpAny_Assign_Name (thn (he pins s σ H _ I h) fun v s1 ⟨y, H1, I1, r1, q1⟩ => ?_) hs
  exact store_ok I1 hN hi hx r1 (fun s2 I2 => ⟨_, H1, I2, q1⟩) hf
def tWhile (c : TT) (tb : TS) : TS := fun D σ H => ∃ W : Nat → St → Hp → Prop, (∃ m, W m σ H) ∧ ∀ m σ H, W m σ H →
  c σ H fun b H1 => if b = true then ∃ N : St → Hp → Prop, (∀ σ' H', N σ' H' → ∃ m', m' < m ∧ W m' σ' H') ∧ tb { D with nx := N, ct := N, bk := D.nx } σ H1 else D.nx σ H1
theorem ps_while {c : Expr} {body : List Stmt} {tc : TT} {tb : TS} (hp : PassesOwn (model X.prog X.w) X.A X.env X.xe) (hc : PT X c tc) (hb : PSs X body tb) : PS X (.While c body [] pos) (tWhile tc tb) := by
  intro pins s σ H D I h
  obtain ⟨W, ⟨m0, w0⟩, turn⟩ := h
  refine wpAny_While (codeAny_whileLoop (fun n s' => ∃ σ' H', Inv X pins σ' H' s' ∧ W n σ' H') ?_ m0 ⟨σ, H, I, w0⟩)
  rintro n s1 ⟨σ1, H1, I1, w1⟩
  refine wpAny_passesOwn hp (thn (hc pins s1 σ1 H1 _ I1 (turn n σ1 H1 w1)) fun b s2 ⟨H2, I2, q2⟩ => ?_)
  cases b with
  | true =>
    obtain ⟨N, hN, q2⟩ := q2
    rw [if_pos rfl]
    refine wpAny_passesOwn hp (thn (hb pins s2 σ1 H2 _ I2 q2) fun f s3 q3 => ?_)
    cases f with
    | next =>
      obtain ⟨σ3, H3, I3, n3⟩ := q3
      obtain ⟨m', hm, w3⟩ := hN σ3 H3 n3
      exact ⟨m', hm, σ3, H3, I3, w3⟩
    | cont =>
      obtain ⟨σ3, H3, I3, n3⟩ := q3
      obtain ⟨m', hm, w3⟩ := hN σ3 H3 n3
      exact ⟨m', hm, σ3, H3, I3, w3⟩
    | brk => exact q3
    | ret v => exact q3
  | false =>
    rw [if_neg Bool.false_ne_true]
    exact wpAny_execs_nil ⟨σ1, H2, I2, q2⟩
end
structure It where
  go : Nat → Hp → Prop
  yld : Nat → Hp → V → Hp → Prop
  stop : Nat → Hp → Prop
def FpOk (X : Cx) (pins : List (Addr × Obj)) (H : Hp) (b : Addr) : Prop :=
  H b = none ∧ b ≠ X.env.locals ∧ b ∉ X.fs ∧ (b ∈ X.ex ∨ X.s₀.heap.objs.size ≤ b) ∧ (∀ x c, X.env.cells.lookup x = some c → c ≠ b) ∧ ∀ p ∈ X.pn ++ pins, p.1 ≠ b
theorem Inv.fpOk {X : Cx} {pins : List (Addr × Obj)} {σ : St} {H H' : Hp} {s : Shared} {b : Addr} (I : Inv X pins σ H s) (hb : s.heap.objs.size ≤ b) (hn : H' b = none) : FpOk X pins H' b := by
  refine ⟨hn, Nat.ne_of_gt (Nat.lt_of_lt_of_le I.lt hb), I.nofs hb, .inr (Nat.le_trans I.sz hb), fun x c e z => ?_, fun p hp z => ?_⟩
  · obtain ⟨v, q⟩ := I.cell x c e
    exact absurd (Nat.lt_of_lt_of_le q.lt (by rw [z]; exact hb)) (Nat.lt_irrefl _)
  · exact absurd (Nat.lt_of_lt_of_le (Heap.lt_size (I.pin p hp).1) (by rw [z]; exact hb)) (Nat.lt_irrefl _)
structure Turn (P : Program) (w : World) (K : PySem.W.Frag) (tg : Expr) (J : It) (fp : List Addr) (it : Addr) (tn : Nat → Heap → Prop) : Prop where
  mem : it ∈ fp
  obj : ∀ i h, tn i h → ∀ b ∈ fp, ∃ o, h.get? b = some o ∧ ∀ v, o.data ≠ .cell v
  keep : ∀ i h h', tn i h → (∀ b ∈ fp, ∀ o, h.get? b = some o → h'.get? b = some o) → tn i h'
  item : ∀ (X : Cx), X.prog = P → X.w = w → X.K = K → X.calm = true → ∀ (i : Nat) (pins : List (Addr × Obj)) (s : Shared) (σ : St) (H : Hp) (E : Value → Shared → Prop), Inv X pins σ H s → (∀ b ∈ fp, FpOk X pins H b) → tn i s.heap → J.go i H →
    wpAny (model P w) X.A (pyNext (.ref it)) (fun r s1 => ∃ u, r = some u ∧
      wpAny (model P w) X.A (letOwnedTupleGo tg (.ref it) u) (fun _ s2 => ∃ x H', Inv X pins σ H' s2 ∧ RelV x u ∧ J.yld i H x H' ∧ tn (i + 1) s2.heap ∧ ∀ b ∈ fp, H' b = none) E s1) E s
  done : ∀ (X : Cx), X.prog = P → X.w = w → X.K = K → X.calm = true → ∀ (i : Nat) (pins : List (Addr × Obj)) (s : Shared) (σ : St) (H : Hp) (E : Value → Shared → Prop), Inv X pins σ H s → (∀ b ∈ fp, FpOk X pins H b) → tn i s.heap → J.stop i H →
    wpAny (model P w) X.A (pyNext (.ref it)) (fun r s1 => r = none ∧ Inv X pins σ H s1) E s
  self : ∀ (A : Around) (i : Nat) (s : Shared) (Q : Value → Shared → Prop) (E : Value → Shared → Prop), tn i s.heap → Q (.ref it) s → wpAny (model P w) A (pyIter (.ref it)) Q E s
abbrev TI := St → Hp → (It → Hp → Prop) → Prop
def PIE (X : Cx) (pins : List (Addr × Obj)) (σ : St) (tg : Expr) (R : It → Hp → Prop) (itv : Value) (s2 : Shared) : Prop :=
  ∃ (it : Addr) (fp : List Addr) (tn : Nat → Heap → Prop) (J : It) (H' : Hp), itv = .ref it ∧ Inv X pins σ H' s2 ∧ Turn X.prog X.w X.K tg J fp it tn ∧ tn 0 s2.heap ∧ (∀ b ∈ fp, FpOk X pins H' b) ∧ R J H'
def PI (X : Cx) (tg iter : Expr) (wi : TI) : Prop :=
  ∀ (pins : List (Addr × Obj)) (s : Shared) (σ : St) (H : Hp) (R : It → Hp → Prop), Inv X pins σ H s → wi σ H R →
    wpAny (model X.prog X.w) X.A (eval iter X.env) (fun v s1 => wpAny (model X.prog X.w) X.A (pyIter v) (PIE X pins σ tg R) X.xe s1) X.xe s
theorem go_of {M : Model} {A : Around} {E : Value → Shared → Prop} {s : Shared} {tg : Expr} {it : Addr} {u : Value} {o : Obj} {n : String} {vs : Array Value} {Q : Unit → Shared → Prop} (ho : s.heap.get? it = some o) (hc : o.cls = .type n) (hd : o.data = .fields vs)
    (hn : ["enumerate", "zip", "dict_itemiterator", "dict_reverseitemiterator", "odict_iterator", "itertools.zip_longest", "itertools.pairwise"].contains n = false) (hQ : Q () s) : wpAny M A (letOwnedTupleGo tg (.ref it) u) Q E s := by
  unfold letOwnedTupleGo
  cases tg <;> first
    | exact wpAny_pure hQ
    | (cases u <;> first
        | exact wpAny_pure hQ
        | (refine wpAny_bind (wpAny_load ho ?_)
           rw [hc, hd]
           show wpAny M A (if (["enumerate", "zip", "dict_itemiterator", "dict_reverseitemiterator", "odict_iterator", "itertools.zip_longest", "itertools.pairwise"].contains n && vs[0]? == some (rawInt _)) = true then _ else _) Q E s
           rw [if_neg (by intro h; rw [hn, Bool.false_and] at h; cases h)]
           exact wpAny_pure hQ))
def Itl (K : PySem.W.Frag) (a : Addr) : It :=
  ⟨fun i H => ∃ xs x, SqL K H a xs ∧ xs[i]? = some x, fun i H x H' => H' = H ∧ ∀ xs, SqL K H a xs → xs[i]? = some x, fun i H => ∃ xs, SqL K H a xs ∧ xs.length ≤ i⟩
def Itt (K : PySem.W.Frag) (a : Addr) : It :=
  ⟨fun i H => ∃ xs x, SqT K H a xs ∧ xs[i]? = some x, fun i H x H' => H' = H ∧ ∀ xs, SqT K H a xs → xs[i]? = some x, fun i H => ∃ xs, SqT K H a xs ∧ xs.length ≤ i⟩
def Itr (lo : Int) (n : Nat) : It := ⟨fun i _ => i < n, fun i H x H' => H' = H ∧ x = .int (lo + i), fun i _ => n ≤ i⟩
theorem turn_list {P : Program} {w : World} {K : PySem.W.Frag} {tg : Expr} (a it : Addr) : Turn P w K tg (Itl K a) [it] it (fun i h => h.IsListIter it a i) where
  mem := by simp
  obj := fun i h st b hb => by
    have e : b = it := by simpa using hb
    subst e
    obtain ⟨o, e, c, d⟩ := st
    exact ⟨o, e, fun v z => by rw [d] at z; cases z⟩
  keep := fun i h h' st k => st.at fun o e => k it (by simp) o e
  item := by
    intro X hP hw hK hc i pins s σ H E I hf st hg
    subst hP hw hK
    obtain ⟨xs, x, hq, hx⟩ := hg
    obtain ⟨its, rv, p, hz⟩ := I.list hq
    obtain ⟨u, hu, ru⟩ := rv.get hx
    obtain ⟨f0, f1, f2, f3, f4, f5⟩ := hf it (by simp)
    refine wpAny_pyNext_list_item st p.isList (x := u) (by simpa using hu) fun h' st' sb => ?_
    have I1 : Inv X pins σ H { s with heap := h' } := I.turned (t' := s.toks) (fun b o hb e => (sb.2 b hb).trans e) f0 f1 f3 f4 f5
    obtain ⟨o, e, c, d⟩ := id st'
    exact ⟨u, rfl, go_of (s := { s with heap := h' }) e c d (by decide) ⟨x, H, I1, ru, ⟨rfl, fun ys hy => by rw [I.list_inj hy hq]; exact hx⟩, st', fun b hb => (hf b hb).1⟩⟩
  done := by
    intro X hP hw hK hc i pins s σ H E I hf st hg
    subst hP hw hK
    obtain ⟨xs, hq, hx⟩ := hg
    obtain ⟨its, rv, p, hz⟩ := I.list hq
    obtain ⟨f0, f1, f2, f3, f4, f5⟩ := hf it (by simp)
    have hl := rv.length
    exact wpAny_pyNext_list_end (I.ok.hd hc) st p.isList (by simp; omega) fun h' eb => ⟨rfl, I.turned (t' := s.toks) (fun b o hb e => eb b o hb e) f0 f1 f3 f4 f5⟩
  self := fun _ _ _ _ _ st h => wpAny_pyIter_listiter st h
theorem turn_tuple {P : Program} {w : World} {K : PySem.W.Frag} {tg : Expr} (a it : Addr) : Turn P w K tg (Itt K a) [it] it (fun i h => h.IsTupleIter it a i) where
  mem := by simp
  obj := fun i h st b hb => by
    have e : b = it := by simpa using hb
    subst e
    obtain ⟨o, e, c, d⟩ := st
    exact ⟨o, e, fun v z => by rw [d] at z; cases z⟩
  keep := fun i h h' st k => st.at fun o e => k it (by simp) o e
  item := by
    intro X hP hw hK hc i pins s σ H E I hf st hg
    subst hP hw hK
    obtain ⟨xs, x, hq, hx⟩ := hg
    obtain ⟨its, rv, p, hz⟩ := I.tuple hq
    obtain ⟨u, hu, ru⟩ := rv.get hx
    obtain ⟨f0, f1, f2, f3, f4, f5⟩ := hf it (by simp)
    refine wpAny_pyNext_tuple_item st (show s.heap.IsTuple a its.toArray from p) (x := u) (by simpa using hu) fun h' st' sb => ?_
    have I1 : Inv X pins σ H { s with heap := h' } := I.turned (t' := s.toks) (fun b o hb e => (sb.2 b hb).trans e) f0 f1 f3 f4 f5
    obtain ⟨o, e, c, d⟩ := id st'
    exact ⟨u, rfl, go_of (s := { s with heap := h' }) e c d (by decide) ⟨x, H, I1, ru, ⟨rfl, fun ys hy => by rw [I.tuple_inj hy hq]; exact hx⟩, st', fun b hb => (hf b hb).1⟩⟩
  done := by
    intro X hP hw hK hc i pins s σ H E I hf st hg
    subst hP hw hK
    obtain ⟨xs, hq, hx⟩ := hg
    obtain ⟨its, rv, p, hz⟩ := I.tuple hq
    obtain ⟨f0, f1, f2, f3, f4, f5⟩ := hf it (by simp)
    have hl := rv.length
    exact wpAny_pyNext_tuple_end (I.ok.hd hc) st (show s.heap.IsTuple a its.toArray from p) (by simp; omega) fun h' eb => ⟨rfl, I.turned (t' := s.toks) (fun b o hb e => eb b o hb e) f0 f1 f3 f4 f5⟩
  self := fun _ _ _ _ _ st h => wpAny_pyIter_tupleiter st h
theorem turn_range {P : Program} {w : World} {K : PySem.W.Frag} {tg : Expr} (it : Addr) (lo : Int) (n : Nat) : Turn P w K tg (Itr lo n) [it] it (fun i h => IsRangeIter h it (lo + (i : Nat) * 1) ((n : Int) - (i : Nat)) 1) where
  mem := by simp
  obj := fun i h st b hb => by
    have e : b = it := by simpa using hb
    subst e
    exact ⟨_, st, fun v z => by
      have z' : Data.fields _ = Data.cell v := z
      cases z'⟩
  keep := fun i h h' st k => k it (by simp) _ st
  item := by
    intro X hP hw hK hc i pins s σ H E I hf st hg
    subst hP hw hK
    obtain ⟨f0, f1, f2, f3, f4, f5⟩ := hf it (by simp)
    have W := Walks.range (prog := X.prog) (w := X.w) (I.ok.hd hc) it lo 1 n
    refine W.item i s _ _ hg st fun v h' tk hv st' kk => ?_
    obtain ⟨t, rfl⟩ := hv
    have I1 : Inv X pins σ H { s with heap := h', toks := tk } := I.turned (fun b o hb e => kk b o (by simpa using hb) e) f0 f1 f3 f4 f5
    refine ⟨_, rfl, go_of (s := { s with heap := h', toks := tk }) (n := "range_iterator") st' rfl rfl (by decide) ⟨.int (lo + i), H, I1, ⟨t, ?_⟩, ⟨rfl, rfl⟩, st', fun b hb => (hf b hb).1⟩⟩
    rw [Int.mul_one]
  done := by
    intro X hP hw hK hc i pins s σ H E I hf st hg
    subst hP hw hK
    obtain ⟨f0, f1, f2, f3, f4, f5⟩ := hf it (by simp)
    exact wpAny_pyNext_range_end (I.ok.hd hc) st (by have : n ≤ i := hg; omega) fun h' eb => ⟨rfl, I.turned (t' := s.toks) (fun b o hb e => eb b o hb e) f0 f1 f3 f4 f5⟩
  self := fun _ _ _ _ _ st h => wpAny_pyIter_rangeiter st h
open PySem PySem.Spec PyProof.Rows
section
variable {X : Cx} {tg : Expr}
def iList (K : PySem.W.Frag) (tl : TE) : TI := fun σ H R => tl σ H fun x H1 => ∃ a, x = .ref a ∧ (∃ xs, SqL K H1 a xs) ∧ R (Itl K a) H1
def iTup (K : PySem.W.Frag) (tl : TE) : TI := fun σ H R => tl σ H fun x H1 => ∃ a, x = .ref a ∧ (∃ xs, SqT K H1 a xs) ∧ R (Itt K a) H1
theorem pi_list {l : Expr} {tl : TE} (hl : PE X l tl) : PI X tg l (iList X.K tl) := by
  intro pins s σ H R I h
  refine thn (hl pins s σ H _ I h) fun v s1 ⟨x, H1, I1, r1, q1⟩ => ?_
  obtain ⟨a, e, ⟨xs, hq⟩, q⟩ := q1
  subst e
  cases r1
  obtain ⟨its, rv, p, hz⟩ := I1.list hq
  refine wpAny_pyIter_list p.isList ?_
  refine ⟨s1.heap.objs.size, [s1.heap.objs.size], _, _, H1, rfl, I1.kept (t' := s1.toks) fun b o e => Heap.get?_push_of_some _ e, turn_list a _, ⟨_, Heap.get?_push_size _ rfl, rfl, rfl⟩, fun b hb => ?_, q⟩
  have e : b = s1.heap.objs.size := by simpa using hb
  subst e
  exact I1.fpOk (Nat.le_refl _) (I1.hok.fresh (Nat.le_refl _))
theorem pi_tup {l : Expr} {tl : TE} (hl : PE X l tl) : PI X tg l (iTup X.K tl) := by
  intro pins s σ H R I h
  refine thn (hl pins s σ H _ I h) fun v s1 ⟨x, H1, I1, r1, q1⟩ => ?_
  obtain ⟨a, e, ⟨xs, hq⟩, q⟩ := q1
  subst e
  cases r1
  obtain ⟨its, rv, p, hz⟩ := I1.tuple hq
  refine wpAny_pyIter_tuple (show s1.heap.IsTuple a its.toArray from p) ?_
  refine ⟨s1.heap.objs.size, [s1.heap.objs.size], _, _, H1, rfl, I1.kept (t' := s1.toks) fun b o e => Heap.get?_push_of_some _ e, turn_tuple a _, ⟨_, Heap.get?_push_size _ rfl, rfl, rfl⟩, fun b hb => ?_, q⟩
  have e : b = s1.heap.objs.size := by simpa using hb
  subst e
  exact I1.fpOk (Nat.le_refl _) (I1.hok.fresh (Nat.le_refl _))
theorem range_it {pins : List (Addr × Obj)} {σ : St} {H : Hp} {s : Shared} {R : It → Hp → Prop} {E : Value → Shared → Prop} {lo hi : Int} {t u v : Tok} {tk : Nat} (I : Inv X pins σ H s) (h1 : -(2 ^ 62) ≤ lo) (h2 : lo < 2 ^ 62) (h3 : -(2 ^ 62) ≤ hi) (h4 : hi < 2 ^ 62)
    (q : R (Itr lo (hi - lo).toNat) H) : wpAny (model X.prog X.w) X.A (pyIter (.ref s.heap.objs.size)) (PIE X pins σ tg R) E { s with heap := s.heap.push { cls := .type "range", data := .fields #[.int lo t, .int hi u, .int 1 v] }, toks := tk } := by
  refine wpAny_pyIter_range (IsRange.new ..) (small_one h1 h2 h3 h4) ?_
  have I1 : Inv X pins σ H { s with heap := s.heap.push { cls := .type "range", data := .fields #[.int lo t, .int hi u, .int 1 v] }, toks := tk } := I.kept fun b o e => Heap.get?_push_of_some _ e
  refine ⟨(s.heap.push { cls := .type "range", data := .fields #[.int lo t, .int hi u, .int 1 v] }).objs.size, [(s.heap.push { cls := .type "range", data := .fields #[.int lo t, .int hi u, .int 1 v] }).objs.size], _, _, H, rfl,
    I1.kept (t' := tk) fun b o e => Heap.get?_push_of_some _ e, turn_range _ lo (hi - lo).toNat, ?_, fun b hb => ?_, q⟩
  · have e1 : lo + ((0 : Nat) : Int) * 1 = lo := by simp
    have e2 : (((hi - lo).toNat : Nat) : Int) - ((0 : Nat) : Int) = Builtin.Range.rangeSize lo hi 1 := by rw [rangeSize_one]; split <;> omega
    show IsRangeIter _ _ (lo + ((0 : Nat) : Int) * 1) ((((hi - lo).toNat : Nat) : Int) - ((0 : Nat) : Int)) 1
    rw [e1, e2]
    exact Heap.get?_push_size _ rfl
  · have e : b = (s.heap.push { cls := .type "range", data := .fields #[.int lo t, .int hi u, .int 1 v] }).objs.size := by simpa using hb
    subst e
    exact I1.fpOk (Nat.le_refl _) (I1.hok.fresh (Nat.le_refl _))
def iRng1 (ta : TA) : TI := fun σ H R => ta σ H fun vs H1 => ∃ j : Int, vs = [.int j] ∧ -(2 ^ 62) ≤ j ∧ j < 2 ^ 62 ∧ R (Itr 0 j.toNat) H1
def iRng2 (ta : TA) : TI := fun σ H R => ta σ H fun vs H1 => ∃ i j : Int, vs = [.int i, .int j] ∧ (-(2 ^ 62) ≤ i ∧ i < 2 ^ 62 ∧ -(2 ^ 62) ≤ j ∧ j < 2 ^ 62) ∧ R (Itr i (j - i).toNat) H1
theorem pi_range1 {a : Expr} {ta : TA} {p pos : Pos} (hg : Gl X "range") (hm : X.mg "range" = none) (ha : PA X [a] ta) (hs : starEach [a] X.env = [(false, eval a X.env)] := by rfl) : PI X tg (.Call (.Name "range" p) [a] [] pos) (iRng1 ta) := by
  intro pins s σ H R I h
  refine Call_ (ld_blt I hg hm boot_range (PyProof.Rows.callWith_type1 (thn (ha pos pins s σ H _ I h) fun us s1 ⟨vs, H1, I1, r1, q1⟩ => ?_) hs rfl))
  obtain ⟨j, e, q1, q2, q⟩ := q1
  subst e
  cases r1 with
  | cons r rr =>
    cases rr
    obtain ⟨t, rfl⟩ := r
    exact call_range_1 (range_it I1 (by omega) (by omega) q1 q2 (by simpa using q))
theorem pi_range2 {a b : Expr} {ta : TA} {p pos : Pos} (hg : Gl X "range") (hm : X.mg "range" = none) (ha : PA X [a, b] ta) (hs : starEach [a, b] X.env = [(false, eval a X.env), (false, eval b X.env)] := by rfl) (hs2 : starEach [b] X.env = [(false, eval b X.env)] := by rfl) :
    PI X tg (.Call (.Name "range" p) [a, b] [] pos) (iRng2 ta) := by
  intro pins s σ H R I h
  refine Call_ (ld_blt I hg hm boot_range (PyProof.Rows.callWith_type1 (thn (ha pos pins s σ H _ I h) fun us s1 ⟨vs, H1, I1, r1, q1⟩ => ?_) (by rw [hs, hs2]) (by rw [hs2]; rfl)))
  obtain ⟨i, j, e, ⟨q1, q2, q3, q4⟩, q⟩ := q1
  subst e
  cases r1 with
  | cons r rr =>
    cases rr with
    | cons r' rr =>
      cases rr
      obtain ⟨t, rfl⟩ := r
      obtain ⟨t', rfl⟩ := r'
      exact call_range_2 (range_it I1 q1 q2 q3 q4 q)
def tFor (wi : TI) (g : TG) (tb : TS) : TS := fun D σ H => wi σ H fun J H1 => ∃ W : Nat → Nat → St → Hp → Prop, (∃ m, W 0 m σ H1) ∧ ∀ i m σ H, W i m σ H →
  (J.stop i H ∧ D.nx σ H) ∨ (J.go i H ∧ ∃ N : St → Hp → Prop, (∀ σ' H', N σ' H' → ∃ m', m' < m ∧ W (i + 1) m' σ' H') ∧ ∀ x H', J.yld i H x H' → g x σ H' fun σ2 H2 => tb { D with nx := N, ct := N, bk := D.nx } σ2 H2)
def pinsAt (fp : List Addr) (h : Heap) : List (Addr × Obj) := fp.filterMap fun b => (h.get? b).map fun o => (b, o)
theorem mem_pinsAt {fp : List Addr} {h : Heap} {b : Addr} {o : Obj} (hb : b ∈ fp) (e : h.get? b = some o) : (b, o) ∈ pinsAt fp h := List.mem_filterMap.mpr ⟨b, hb, by rw [e]; rfl⟩
theorem of_pinsAt {fp : List Addr} {h : Heap} {p : Addr × Obj} (hp : p ∈ pinsAt fp h) : p.1 ∈ fp ∧ h.get? p.1 = some p.2 := by
  obtain ⟨b, hb, e⟩ := List.mem_filterMap.mp hp
  cases q : h.get? b with
  | none => rw [q] at e; cases e
  | some o =>
    rw [q] at e
    have e' : (b, o) = p := Option.some.inj e
    subst e'
    exact ⟨hb, q⟩
theorem Inv.pinned {pins : List (Addr × Obj)} {σ : St} {H : Hp} {s : Shared} {fp : List Addr} (I : Inv X pins σ H s) (hf : ∀ b ∈ fp, FpOk X pins H b) (ho : ∀ b ∈ fp, ∃ o, s.heap.get? b = some o ∧ ∀ v, o.data ≠ .cell v) : Inv X (pins ++ pinsAt fp s.heap) σ H s :=
  I.pins_of fun p hp => (List.mem_append.mp hp).elim (fun z => I.pin p (List.mem_append_right _ z)) fun z => by
    obtain ⟨hb, e⟩ := of_pinsAt z
    obtain ⟨f0, f1, f2, _⟩ := hf p.1 hb
    obtain ⟨o, e', d⟩ := ho p.1 hb
    rw [e] at e'; cases e'
    exact ⟨e, f0, f1, f2, d⟩
theorem Inv.unpinned {pins pl : List (Addr × Obj)} {σ : St} {H : Hp} {s : Shared} (I : Inv X (pins ++ pl) σ H s) : Inv X pins σ H s := I.pins_of fun p hp => I.pin p (List.mem_append_right _ (List.mem_append_left _ hp))
theorem ps_for {iter : Expr} {body : List Stmt} {wi : TI} {g : TG} {tb : TS} {pos : Pos} (hp : PassesOwn (model X.prog X.w) X.A X.env X.xe) (hc : X.calm = true) (hi : PI X tg iter wi) (hg : PG X tg g) (hb : PSs X body tb)
    (hs : ∀ x, foldedSetIterable iter X.env x = pure x := by intro _; rfl) : PS X (.For tg iter body [] pos) (tFor wi g tb) := by
  intro pins s σ H D I h
  refine wpAny_For (thn (hi pins s σ H _ I h) fun v s1 h1 => thn h1 fun itv s2 h2 => ?_) hs
  obtain ⟨it, fp, tn, J, H2, e, I2, T, st2, f2, W, ⟨m0, w0⟩, turn⟩ := h2
  subst e
  have stat : ∀ {H' : Hp}, (∀ b ∈ fp, H' b = none) → ∀ b ∈ fp, FpOk X pins H' b := fun hn b hb => ⟨hn b hb, (f2 b hb).2⟩
  refine codeAny_forLoop_any (fun n s' => ∃ i σ' H', Inv X pins σ' H' s' ∧ tn i s'.heap ∧ (∀ b ∈ fp, H' b = none) ∧ W i n σ' H') ?_ m0 ⟨0, σ, H2, I2, st2, fun b hb => (f2 b hb).1, w0⟩
  rintro n s3 ⟨i, σ3, H3, I3, st3, fr3, w3⟩
  rcases turn i n σ3 H3 w3 with ⟨stop, qn⟩ | ⟨go, N, hN, step⟩
  · refine wpAny_passesOwn hp (thn (T.done X rfl rfl rfl hc i pins s3 σ3 H3 X.xe I3 (stat fr3) st3 stop) fun r s4 ⟨hr, I4⟩ => ?_)
    subst hr
    exact wpAny_execs_nil ⟨σ3, H3, I4, qn⟩
  · refine wpAny_passesOwn hp (thn (T.item X rfl rfl rfl hc i pins s3 σ3 H3 X.xe I3 (stat fr3) st3 go) fun r s4 ⟨u, hr, h4⟩ => ?_)
    subst hr
    refine wpAny_passesOwn hp (thn h4 fun _ s5 ⟨x, H5, I5, r5, y5, st5, fr5⟩ => ?_)
    have I5' := I5.pinned (stat fr5) (T.obj _ _ st5)
    refine wpAny_passesOwn hp (thn (hg _ s5 σ3 H5 x u _ I5' r5 (step x H5 y5)) fun _ s6 ⟨σ6, H6, I6, q6⟩ => ?_)
    refine wpAny_passesOwn hp (thn (hb _ s6 σ6 H6 _ I6 q6) fun f s7 q7 => ?_)
    have again : ∀ {σ7 : St} {H7 : Hp}, Inv X (pins ++ pinsAt fp s5.heap) σ7 H7 s7 → N σ7 H7 → ∃ m, m < n ∧ ∃ i σ' H', Inv X pins σ' H' s7 ∧ tn i s7.heap ∧ (∀ b ∈ fp, H' b = none) ∧ W i m σ' H' := fun {σ7 H7} I7 n7 => by
      obtain ⟨m', hm, w7⟩ := hN σ7 H7 n7
      refine ⟨m', hm, i + 1, σ7, H7, I7.unpinned, T.keep _ _ _ st5 fun b hb o e => (I7.pin (b, o) (List.mem_append_right _ (List.mem_append_right _ (mem_pinsAt hb e)))).1, fun b hb => ?_, w7⟩
      obtain ⟨o, e, d⟩ := T.obj _ _ st5 b hb
      exact (I7.pin (b, o) (List.mem_append_right _ (List.mem_append_right _ (mem_pinsAt hb e)))).2.1
    cases f with
    | next => obtain ⟨σ7, H7, I7, n7⟩ := q7; exact again I7 n7
    | cont => obtain ⟨σ7, H7, I7, n7⟩ := q7; exact again I7 n7
    | brk => obtain ⟨σ7, H7, I7, q7⟩ := q7; exact ⟨σ7, H7, I7.unpinned, q7⟩
    | ret v => obtain ⟨x7, σ7, H7, I7, r7, q7⟩ := q7; exact ⟨x7, σ7, H7, I7.unpinned, r7, q7⟩
end
theorem for_range {lo : Int} {n : Nat} {g : TG} {tb : TS} {D : Ends} {σ : St} {H : Hp} (Pv : Nat → St → Hp → Prop) (h0 : Pv 0 σ H)
    (hs : ∀ i σ H, i < n → Pv i σ H → g (.int (lo + i)) σ H fun σ2 H2 => tb { D with nx := Pv (i + 1), ct := Pv (i + 1), bk := D.nx } σ2 H2) (hd : ∀ σ H, Pv n σ H → D.nx σ H) :
    ∃ W : Nat → Nat → St → Hp → Prop, (∃ m, W 0 m σ H) ∧ ∀ i m σ H, W i m σ H →
      ((Itr lo n).stop i H ∧ D.nx σ H) ∨ ((Itr lo n).go i H ∧ ∃ N : St → Hp → Prop, (∀ σ' H', N σ' H' → ∃ m', m' < m ∧ W (i + 1) m' σ' H') ∧ ∀ x H', (Itr lo n).yld i H x H' → g x σ H' fun σ2 H2 => tb { D with nx := N, ct := N, bk := D.nx } σ2 H2) := by
  refine ⟨fun i m σ H => m = n - i ∧ i ≤ n ∧ Pv i σ H, ⟨n, by simp, Nat.zero_le _, h0⟩, ?_⟩
  rintro i m σ H ⟨rfl, hi, p⟩
  by_cases hlt : i < n
  · refine .inr ⟨hlt, Pv (i + 1), fun σ' H' p' => ⟨n - (i + 1), by omega, rfl, hlt, p'⟩, fun x H' y => ?_⟩
    obtain ⟨e, y⟩ := y
    subst e y
    exact hs i σ _ hlt p
  · have e : i = n := by omega
    subst e
    exact .inl ⟨Nat.le_refl _, hd σ H p⟩
open PySem PySem.Spec PyProof.Rows
abbrev R2 := V → V → Hp → VK → Prop
def OpR (X : Cx) (f : Value → Value → Sem Value) (r : R2) : Prop :=
  ∀ (pins : List (Addr × Obj)) (s : Shared) (σ : St) (H : Hp) (x y : V) (v u : Value) (Q : VK), Inv X pins σ H s → RelV x v → RelV y u → r x y H Q →
    wpAny (model X.prog X.w) X.A (f v u) (EP X pins σ Q) X.xe s
def UnR (X : Cx) (f : Value → Sem Value) (r : V → Hp → VK → Prop) : Prop :=
  ∀ (pins : List (Addr × Obj)) (s : Shared) (σ : St) (H : Hp) (x : V) (v : Value) (Q : VK), Inv X pins σ H s → RelV x v → r x H Q →
    wpAny (model X.prog X.w) X.A (f v) (EP X pins σ Q) X.xe s
def CallR (X : Cx) (f : Value) (r : List V → Hp → VK → Prop) : Prop :=
  ∀ (pins : List (Addr × Obj)) (s : Shared) (σ : St) (H : Hp) (xs : List V) (us : List Value) (Q : VK), Inv X pins σ H s → Vals xs us → r xs H Q →
    wpAny (model X.prog X.w) X.A (call f us) (EP X pins σ Q) X.xe s
def tOp (r : R2) (ta tb : TE) : TE := fun σ H Q => ta σ H fun x H1 => tb σ H1 fun y H2 => r x y H2 Q
def tUn (r : V → Hp → VK → Prop) (ta : TE) : TE := fun σ H Q => ta σ H fun x H1 => r x H1 Q
def rI (C : Int → Int → Prop) (g : Int → Int → V) : R2 := fun x y H Q => ∃ i j, x = .int i ∧ y = .int j ∧ C i j ∧ Q (g i j) H
def rI0 (g : Int → Int → V) : R2 := fun x y H Q => ∃ i j, x = .int i ∧ y = .int j ∧ Q (g i j) H
def rU (g : Int → V) : V → Hp → VK → Prop := fun x H Q => ∃ i, x = .int i ∧ Q (g i) H
section
variable {X : Cx} {a b c : Expr} {ta tb tc : TE} {pos : Pos}
theorem binT (ha : PE X a ta) (hb : PE X b tb) {pins : List (Addr × Obj)} {s : Shared} {σ : St} {H : Hp} {R : V → V → Hp → Prop} (I : Inv X pins σ H s)
    (h : ta σ H fun x H1 => tb σ H1 fun y H2 => R x y H2) {Q : Value → Shared → Prop} {f : Value → Value → Sem Value}
    (hf : ∀ v u s2 x y H2, Inv X pins σ H2 s2 → RelV x v → RelV y u → R x y H2 → wpAny (model X.prog X.w) X.A (f v u) Q X.xe s2) :
    wpAny (model X.prog X.w) X.A (eval a X.env) (fun v s₁ => wpAny (model X.prog X.w) X.A (eval b X.env) (fun u s₂ => wpAny (model X.prog X.w) X.A (f v u) Q X.xe s₂) X.xe s₁) X.xe s := by
  refine thn (ha pins s σ H _ I h) fun v s1 ⟨x, H1, I1, r1, q1⟩ => ?_
  refine thn (hb pins s1 σ H1 _ I1 q1) fun u s2 ⟨y, H2, I2, r2, q2⟩ => ?_
  exact hf v u s2 x y H2 I2 r1 r2 q2
theorem pe_op {op : Operator} {r : R2} (ho : OpR X (binaryOp op) r) (ha : PE X a ta) (hb : PE X b tb) : PE X (.BinOp a op b pos) (tOp r ta tb) := by
  intro pins s σ H Q I h
  exact wpAny_BinOp (binT ha hb I h fun v u s2 x y H2 I2 rx ry q => ho pins s2 σ H2 x y v u Q I2 rx ry q)
theorem pe_un {op : UnaryOp} {r : V → Hp → VK → Prop} (ho : UnR X (unaryOp op) r) (ha : PE X a ta) : PE X (.UnaryOp op a pos) (tUn r ta) := by
  intro pins s σ H Q I h
  exact UnaryOp_ (thn (ha pins s σ H _ I h) fun v s1 ⟨x, H1, I1, r1, q1⟩ => ho pins s1 σ H1 x v Q I1 r1 q1)
theorem opI {f : Value → Value → Sem Value} {C : Int → Int → Prop} {g : Int → Int → Int}
    (rule : ∀ (i j : Int) (t u : Tok) (s : Shared) (Q : Value → Shared → Prop) (E : Value → Shared → Prop), C i j → Q (.int (g i j) s.toks) { s with toks := s.toks + 1 } → wpAny (model X.prog X.w) X.A (f (.int i t) (.int j u)) Q E s) :
    OpR X f (rI C fun i j => .int (g i j)) := by
  intro pins s σ H x y v u Q I rx ry h
  obtain ⟨i, j, rfl, rfl, hc, q⟩ := h
  obtain ⟨t, rfl⟩ := rx
  obtain ⟨t', rfl⟩ := ry
  exact rule i j t t' s _ _ hc ⟨.int (g i j), H, I.tok _, ⟨_, rfl⟩, q⟩
theorem opI0 {f : Value → Value → Sem Value} {g : Int → Int → Int}
    (rule : ∀ (i j : Int) (t u : Tok) (s : Shared) (Q : Value → Shared → Prop) (E : Value → Shared → Prop), Q (.int (g i j) s.toks) { s with toks := s.toks + 1 } → wpAny (model X.prog X.w) X.A (f (.int i t) (.int j u)) Q E s) :
    OpR X f (rI0 fun i j => .int (g i j)) := by
  intro pins s σ H x y v u Q I rx ry h
  obtain ⟨i, j, rfl, rfl, q⟩ := h
  obtain ⟨t, rfl⟩ := rx
  obtain ⟨t', rfl⟩ := ry
  exact rule i j t t' s _ _ ⟨.int (g i j), H, I.tok _, ⟨_, rfl⟩, q⟩
theorem opB0 {f : Value → Value → Sem Value} {g : Int → Int → Bool}
    (rule : ∀ (i j : Int) (t u : Tok) (s : Shared) (Q : Value → Shared → Prop) (E : Value → Shared → Prop), Q (.bool (g i j)) s → wpAny (model X.prog X.w) X.A (f (.int i t) (.int j u)) Q E s) :
    OpR X f (rI0 fun i j => .bl (g i j)) := by
  intro pins s σ H x y v u Q I rx ry h
  obtain ⟨i, j, rfl, rfl, q⟩ := h
  obtain ⟨t, rfl⟩ := rx
  obtain ⟨t', rfl⟩ := ry
  exact rule i j t t' s _ _ ⟨.bl (g i j), H, I, rfl, q⟩
def CDiv (i j : Int) : Prop := 0 < j ∧ j < 1073741824
def CPow (i j : Int) : Prop := 0 ≤ j ∧ j ≤ 1000000 ∧ i.natAbs < 2 ^ 64
def CMul (i j : Int) : Prop := (-(2 ^ 64) < i ∧ i < 2 ^ 64) ∨ (-(2 ^ 64) < j ∧ j < 2 ^ 64)
theorem CMul.ok {i j : Int} (h : CMul i j) : IntMulOk i j := by
  rcases h with ⟨h1, h2⟩ | ⟨h1, h2⟩
  · exact .of_left (intBits_le_64 h1 h2)
  · exact .of_right (intBits_le_64 h1 h2)
theorem op_add : OpR X (binaryOp .Add) (rI0 fun i j => .int (i + j)) := opI0 fun _ _ _ _ _ _ _ q => add_int q
theorem op_sub : OpR X (binaryOp .Sub) (rI0 fun i j => .int (i - j)) := opI0 fun _ _ _ _ _ _ _ q => sub_int q
theorem op_mul : OpR X (binaryOp .Mult) (rI CMul fun i j => .int (i * j)) := opI fun _ _ _ _ _ _ _ hc q => mul_int q hc.ok
theorem op_fdiv : OpR X (binaryOp .FloorDiv) (rI CDiv fun i j => .int (i / j)) := opI fun i j _ _ _ _ _ hc q => by
  have h1 : (0 : Int) < j := hc.1
  have h2 : j < 1073741824 := hc.2
  exact floordiv_int (by omega) (by rw [Int.fdiv_eq_ediv_of_nonneg i (by omega)]; exact q) (.inl (PyProof.noPylong_small (by omega)))
theorem op_mod : OpR X (binaryOp .Mod) (rI (fun _ j => 0 < j) fun i j => .int (i % j)) := opI fun i j _ _ _ _ _ hc q => by
  have h1 : (0 : Int) < j := hc
  exact mod_int' (by omega) (by rw [Int.fmod_eq_emod_of_nonneg i (by omega)]; exact q)
theorem op_pow : OpR X (binaryOp .Pow) (rI CPow fun i j => .int (i ^ j.toNat)) := opI fun _ _ _ _ _ _ _ hc q => pow_int_small hc.1 hc.2.1 hc.2.2 q
theorem unI {f : Value → Sem Value} {g : Int → Int}
    (rule : ∀ (i : Int) (t : Tok) (s : Shared) (Q : Value → Shared → Prop) (E : Value → Shared → Prop), Q (.int (g i) s.toks) { s with toks := s.toks + 1 } → wpAny (model X.prog X.w) X.A (f (.int i t)) Q E s) :
    UnR X f (rU fun i => .int (g i)) := by
  intro pins s σ H x v Q I rx h
  obtain ⟨i, rfl, q⟩ := h
  obtain ⟨t, rfl⟩ := rx
  exact rule i t s _ _ ⟨.int (g i), H, I.tok _, ⟨_, rfl⟩, q⟩
theorem un_neg : UnR X (unaryOp .USub) (rU fun i => .int (-i)) := unI fun _ _ _ _ _ q => neg_int q
end
def scal : V → V → Bool
  | .non, .non => true | .non, .int _ => true | .int _, .non => true | .non, .bl _ => true | .bl _, .non => true | .non, .str _ => true | .str _, .non => true
  | .int _, .int _ => true | .bl _, .bl _ => true | .str _, .str _ => true | .byt _, .byt _ => true
  | .int _, .str _ => true | .str _, .int _ => true | .bl _, .str _ => true | .str _, .bl _ => true
  | _, _ => false
def rEq : R2 := fun x y H Q => scal x y = true ∧ Q (.bl (decide (x = y))) H
def rNe : R2 := fun x y H Q => scal x y = true ∧ Q (.bl (!decide (x = y))) H
theorem dec_int {i j : Int} : decide (V.int i = V.int j) = (i == j) := by
  rw [Bool.eq_iff_iff]
  simp
theorem dec_bl {i j : Bool} : decide (V.bl i = V.bl j) = (i == j) := by
  rw [Bool.eq_iff_iff]
  simp
theorem dec_str {i j : Str} : decide (V.str i = V.str j) = (i == j) := by
  rw [Bool.eq_iff_iff]
  simp
theorem dec_byt {i j : Array UInt8} : decide (V.byt i = V.byt j) = (i.toList == j.toList) := by
  rw [Bool.eq_iff_iff]
  cases i
  cases j
  simp
section
variable {X : Cx} {a b c : Expr} {ta tb tc : TE} {pos : Pos}
theorem fin_bl {pins : List (Addr × Obj)} {σ : St} {H : Hp} {s : Shared} {Q : VK} {k k' : Bool} (I : Inv X pins σ H s) (q : Q (.bl k) H) (e : k = k') : EP X pins σ Q (.bool k') s := by
  subst e
  exact ⟨.bl k, H, I, rfl, q⟩
theorem op_eq : OpR X (compareOp .Eq) rEq := by
  intro pins s σ H x y v u Q I rx ry h
  obtain ⟨hs, q⟩ := h
  cases x with
  | non =>
    cases rx
    cases y with
    | non => cases ry; exact PySem.EqNone.eq_none_none (fin_bl I q (by simp))
    | bl j => cases ry; exact PySem.EqNone.eq_none_bool (fin_bl I q (by simp))
    | int j => obtain ⟨t', rfl⟩ := ry; exact PySem.EqNone.eq_none_int (fin_bl I q (by simp))
    | str j => obtain ⟨t', rfl⟩ := ry; exact PySem.EqNone.eq_none_str (fin_bl I q (by simp))
    | _ => exact absurd (show false = true from hs) Bool.false_ne_true
  | bl i =>
    cases rx
    cases y with
    | non => cases ry; exact PySem.EqNone.eq_bool_none (fin_bl I q (by simp))
    | bl j => cases ry; exact eq_bool (fin_bl I q dec_bl)
    | str j => obtain ⟨t', rfl⟩ := ry; exact PySem.EqMixed.eq_bool_str (fin_bl I q (by simp))
    | _ => exact absurd (show false = true from hs) Bool.false_ne_true
  | int i =>
    obtain ⟨t, rfl⟩ := rx
    cases y with
    | non => cases ry; exact PySem.EqNone.eq_int_none (fin_bl I q (by simp))
    | int j => obtain ⟨t', rfl⟩ := ry; exact eq_int (fin_bl I q dec_int)
    | str j => obtain ⟨t', rfl⟩ := ry; exact PySem.EqMixed.eq_int_str (fin_bl I q (by simp))
    | _ => exact absurd (show false = true from hs) Bool.false_ne_true
  | str i =>
    obtain ⟨t, rfl⟩ := rx
    cases y with
    | non => cases ry; exact PySem.EqNone.eq_str_none (fin_bl I q (by simp))
    | bl j => cases ry; exact PySem.EqMixed.eq_str_bool (fin_bl I q (by simp))
    | int j => obtain ⟨t', rfl⟩ := ry; exact PySem.EqMixed.eq_str_int (fin_bl I q (by simp))
    | str j => obtain ⟨t', rfl⟩ := ry; exact eq_str (fin_bl I q dec_str)
    | _ => exact absurd (show false = true from hs) Bool.false_ne_true
  | byt i =>
    obtain ⟨t, rfl⟩ := rx
    cases y with
    | byt j => obtain ⟨t', rfl⟩ := ry; exact PySem.W.eq_bytes (fin_bl I q dec_byt)
    | _ => exact absurd (show false = true from hs) Bool.false_ne_true
  | _ => cases y <;> exact absurd (show false = true from hs) Bool.false_ne_true
theorem op_ne : OpR X (compareOp .NotEq) rNe := by
  intro pins s σ H x y v u Q I rx ry h
  obtain ⟨hs, q⟩ := h
  cases x with
  | non =>
    cases rx
    cases y with
    | non => cases ry; exact PySem.EqNone.ne_none_none (fin_bl I q (by simp))
    | bl j => cases ry; exact PySem.EqNone.ne_none_bool (fin_bl I q (by simp))
    | int j => obtain ⟨t', rfl⟩ := ry; exact PySem.EqNone.ne_none_int (fin_bl I q (by simp))
    | str j => obtain ⟨t', rfl⟩ := ry; exact PySem.EqNone.ne_none_str (fin_bl I q (by simp))
    | _ => exact absurd (show false = true from hs) Bool.false_ne_true
  | bl i =>
    cases rx
    cases y with
    | non => cases ry; exact PySem.EqNone.ne_bool_none (fin_bl I q (by simp))
    | bl j => cases ry; exact ne_bool (fin_bl I q (congrArg not dec_bl))
    | str j => obtain ⟨t', rfl⟩ := ry; exact PySem.EqMixed.ne_bool_str (fin_bl I q (by simp))
    | _ => exact absurd (show false = true from hs) Bool.false_ne_true
  | int i =>
    obtain ⟨t, rfl⟩ := rx
    cases y with
    | non => cases ry; exact PySem.EqNone.ne_int_none (fin_bl I q (by simp))
    | int j => obtain ⟨t', rfl⟩ := ry; exact ne_int (fin_bl I q (congrArg not dec_int))
    | str j => obtain ⟨t', rfl⟩ := ry; exact PySem.EqMixed.ne_int_str (fin_bl I q (by simp))
    | _ => exact absurd (show false = true from hs) Bool.false_ne_true
  | str i =>
    obtain ⟨t, rfl⟩ := rx
    cases y with
    | non => cases ry; exact PySem.EqNone.ne_str_none (fin_bl I q (by simp))
    | bl j => cases ry; exact PySem.EqMixed.ne_str_bool (fin_bl I q (by simp))
    | int j => obtain ⟨t', rfl⟩ := ry; exact PySem.EqMixed.ne_str_int (fin_bl I q (by simp))
    | str j => obtain ⟨t', rfl⟩ := ry; exact ne_str (fin_bl I q (congrArg not dec_str))
    | _ => exact absurd (show false = true from hs) Bool.false_ne_true
  | byt i =>
    obtain ⟨t, rfl⟩ := rx
    cases y with
    | byt j => obtain ⟨t', rfl⟩ := ry; exact PySem.W.ne_bytes (fin_bl I q (congrArg not dec_byt))
    | _ => exact absurd (show false = true from hs) Bool.false_ne_true
  | _ => cases y <;> exact absurd (show false = true from hs) Bool.false_ne_true
theorem op_lt : OpR X (compareOp .Lt) (rI0 fun i j => .bl (decide (i < j))) := opB0 fun _ _ _ _ _ _ _ q => lt_int q
theorem op_le : OpR X (compareOp .LtE) (rI0 fun i j => .bl (decide (i ≤ j))) := opB0 fun _ _ _ _ _ _ _ q => le_int q
theorem op_gt : OpR X (compareOp .Gt) (rI0 fun i j => .bl (decide (j < i))) := opB0 fun _ _ _ _ _ _ _ q => gt_int q
theorem op_ge : OpR X (compareOp .GtE) (rI0 fun i j => .bl (decide (j ≤ i))) := opB0 fun _ _ _ _ _ _ _ q => ge_int q
theorem nomark (b : Expr) {op : CmpOp} (h : op ≠ .In := by decide) (h2 : op ≠ .NotIn := by decide) : behindInMarks op b = false := by
  have e1 : (op == CmpOp.In) = false := by cases op <;> first | rfl | exact absurd rfl h
  have e2 : (op == CmpOp.NotIn) = false := by cases op <;> first | rfl | exact absurd rfl h2
  cases b <;> simp [behindInMarks, e1, e2]
theorem pe_cmpR {op : CmpOp} {r : R2} (ho : OpR X (compareOp op) r) (ha : PE X a ta) (hb : PE X b tb) (hm : behindInMarks op b = false) : PE X (.Compare a [op] [b] pos) (tOp r ta tb) := by
  intro pins s σ H Q I h
  exact wpAny_Compare1 (binT ha hb I h fun v u s2 x y H2 I2 rx ry q => ho pins s2 σ H2 x y v u Q I2 rx ry q) hm
def tTest (t : TE) : TT := fun σ H Q => t σ H fun x H' => ∃ k, x = .bl k ∧ Q k H'
theorem pt_cmpR {op : CmpOp} {r : R2} (ho : OpR X (compareOp op) r) (ha : PE X a ta) (hb : PE X b tb) (hm : behindInMarks op b = false) : PT X (.Compare a [op] [b] pos) (tTest (tOp r ta tb)) := by
  intro pins s σ H Q I h
  refine wpAny_isTrue_Compare1 (thn (ha pins s σ H _ I h) fun v s1 ⟨x, H1, I1, r1, q1⟩ => thn (hb pins s1 σ H1 _ I1 q1) fun u s2 ⟨y, H2, I2, r2, q2⟩ =>
    thn (ho pins s2 σ H2 x y v u _ I2 r1 r2 q2) fun c s3 ⟨z, H3, I3, r3, k, e, q3⟩ => ?_) hm
  subst e
  cases r3
  exact wpAny_truthy_bool ⟨H3, I3, q3⟩
def tChain (r r' : R2) (ta tb tc : TE) : TE := fun σ H Q => ta σ H fun x H1 => tb σ H1 fun y H2 => r x y H2 fun z H3 => ∃ k, z = .bl k ∧
  (if k = true then tc σ H3 fun w' H4 => r' y w' H4 Q else Q (.bl false) H3)
theorem pe_chain {op op' : CmpOp} {r r' : R2} (ho : OpR X (compareOp op) r) (ho' : OpR X (compareOp op') r') (ha : PE X a ta) (hb : PE X b tb) (hc : PE X c tc)
    (hm : lastMarks [op, op'] [b, c] = false := by with_unfolding_all rfl) : PE X (.Compare a [op, op'] [b, c] pos) (tChain r r' ta tb tc) := by
  intro pins s σ H Q I h
  refine Compare_chain (thn (ha pins s σ H _ I h) fun v s1 ⟨x, H1, I1, r1, q1⟩ => chain_link (thn (hb pins s1 σ H1 _ I1 q1) fun u s2 ⟨y, H2, I2, r2, q2⟩ =>
    thn (ho pins s2 σ H2 x y v u _ I2 r1 r2 q2) fun d s3 ⟨z, H3, I3, r3, k, e, q3⟩ => ?_)) hm
  subst e
  cases r3
  refine wpAny_truthy_bool ?_
  cases k with
  | false => exact ite_ff ⟨.bl false, H3, I3, rfl, q3⟩
  | true => exact ite_tt (chain_last (thn (hc pins s3 σ H3 _ I3 q3) fun w' s4 ⟨z', H4, I4, r4, q4⟩ => ho' pins s4 σ H4 y z' u w' Q I4 r2 r4 q4))
theorem pt_chain {op op' : CmpOp} {r r' : R2} (ho : OpR X (compareOp op) r) (ho' : OpR X (compareOp op') r') (ha : PE X a ta) (hb : PE X b tb) (hc : PE X c tc)
    (hm : lastMarks [op, op'] [b, c] = false := by with_unfolding_all rfl) : PT X (.Compare a [op, op'] [b, c] pos) (tTest (tChain r r' ta tb tc)) := by
  intro pins s σ H Q I h
  refine isTrue_chain (thn (ha pins s σ H _ I h) fun v s1 ⟨x, H1, I1, r1, q1⟩ => test_link (thn (hb pins s1 σ H1 _ I1 q1) fun u s2 ⟨y, H2, I2, r2, q2⟩ =>
    thn (ho pins s2 σ H2 x y v u _ I2 r1 r2 q2) fun d s3 ⟨z, H3, I3, r3, k, e, q3⟩ => ?_)) hm
  subst e
  cases r3
  refine wpAny_truthy_bool ?_
  cases k with
  | false =>
    obtain ⟨k', e', q'⟩ := q3
    cases e'
    exact ite_ff ⟨H3, I3, q'⟩
  | true =>
    refine ite_tt (test_last (thn (hc pins s3 σ H3 _ I3 q3) fun w' s4 ⟨z', H4, I4, r4, q4⟩ => thn (ho' pins s4 σ H4 y z' u w' _ I4 r2 r4 q4) fun d' s5 ⟨z2, H5, I5, r5, k2, e2, q5⟩ => ?_))
    subst e2
    cases r5
    exact wpAny_truthy_bool ⟨H5, I5, q5⟩
theorem line63 : (sizeLine : Nat) < 2 ^ 63 := by rw [sizeLine_eq]; decide
theorem vals1 {x : V} {us : List Value} (r : Vals [x] us) : ∃ u, us = [u] ∧ RelV x u := by
  cases r with
  | cons r1 r2 => cases r2; exact ⟨_, rfl, r1⟩
theorem vals2 {x y : V} {us : List Value} (r : Vals [x, y] us) : ∃ u w', us = [u, w'] ∧ RelV x u ∧ RelV y w' := by
  cases r with
  | cons r1 r2 =>
    cases r2 with
    | cons r3 r4 => cases r4; exact ⟨_, _, rfl, r1, r3⟩
theorem call_abs : CallR X (.builtin "abs") (fun xs H Q => ∃ i, xs = [.int i] ∧ Q (.int (if i < 0 then -i else i)) H) := by
  intro pins s σ H xs us Q I r h
  obtain ⟨i, rfl, q⟩ := h
  obtain ⟨u, rfl, t, rfl⟩ := vals1 r
  exact call_abs_int fun u tk => ⟨.int (if i < 0 then -i else i), H, I.tok _, ⟨_, rfl⟩, q⟩
theorem call_max2 (hc : X.calm = true) : CallR X (.builtin "max") (fun xs H Q => ∃ i j, xs = [.int i, .int j] ∧ Q (.int (if j > i then j else i)) H) := by
  intro pins s σ H xs us Q I r h
  obtain ⟨i, j, rfl, q⟩ := h
  obtain ⟨u, w', rfl, ⟨t, rfl⟩, ⟨t', rfl⟩⟩ := vals2 r
  refine max_two_ints (I.ok.hd hc) fun h' tk k => ⟨_, H, I.kept k, ?_, q⟩
  by_cases hj : j > i
  · rw [if_pos hj, if_pos hj]; exact ⟨_, rfl⟩
  · rw [if_neg hj, if_neg hj]; exact ⟨_, rfl⟩
end
open PySem PySem.Spec PyProof.Rows
structure ObjM (h : Heap) (x dx C : Addr) (mA : Str → Option Value) : Prop where
  obj : h.get? x = some (PySem.W.instObj C dx)
  ns : h.Ns1 dx mA
  ne : dx ≠ x
theorem lookIn_ns {h : Heap} {dx : Addr} {mA : Str → Option Value} (n : h.Ns1 dx mA) : ∃ od, h.get? dx = some od ∧ ∀ name, PySem.W.lookIn name od = some (mA name) := by
  obtain ⟨o, es, ep, ho, hd, hk, _, hm⟩ := n
  refine ⟨o, ho, fun name => ?_⟩
  have e := hm name
  unfold nsFind findBy at e
  rw [← Array.find?_toList] at e
  unfold PySem.W.lookIn
  rw [hd]
  dsimp only
  split
  · rename_i y q
    rw [q] at e
    exact congrArg some e
  · rename_i q
    rw [q] at e
    have a : es.toList.any (·.refKey) = false := by
      rw [List.any_eq_false]
      intro y hy
      obtain ⟨z, t, hkey⟩ := hk y (Array.mem_toList_iff.mp hy)
      simp [DictEntry.refKey, hkey]
    have a' : ¬ es.toList.any (·.refKey) = true := by rw [a]; exact Bool.false_ne_true
    rw [if_neg a']
    exact congrArg some e
theorem ObjM.look {h : Heap} {x dx C : Addr} {mA : Str → Option Value} (I : ObjM h x dx C mA) : ∃ od, PySem.W.InstAt h x (PySem.W.instObj C dx) C (some od) ∧ ∀ name, PySem.W.lookIn name od = some (mA name) :=
  let ⟨od, ho, hl⟩ := lookIn_ns I.ns
  ⟨od, ⟨I.obj, rfl, rfl, ho⟩, hl⟩
section
variable {prog : Program} {w : World} {A : Around} {E : Value → Shared → Prop} {s : Shared} {K : PySem.W.Frag} {x dx C f : Addr} {mA : Str → Option Value} {name : Str} {v : Value}
end
section
variable {P : Program} {w : World} {H H' : Hp} {h h' : Heap} {a C dx : Addr} {fs fs' : List (Str × V)}
theorem ins_get (hok : HOk P w H h) (e : H a = some (.ins C dx fs)) : ∃ mA, ObjM h a dx C mA ∧ (∀ f, RelO (fs.lookup f) (mA f)) ∧ PySem.Within mA (fs.map (·.1)) ∧ fs.length ≤ 1000 ∧ H dx = some (.own a) := by
  obtain ⟨d, z, ne, ob, mA, n, r, q⟩ := (show ObjOk P w H h a (.ins C dx fs) from hok a _ e)
  exact ⟨mA, ⟨ob, n, ne⟩, r, q, z, d⟩
end
structure Cls (K : PySem.W.Frag) (C : Addr) : Prop where
  pg : PySem.W.plainGet K C Str.empty = true
  hd : PySem.W.hasDictIn K C = true
  po : PySem.W.plainOver K C = true
  sa : PySem.W.findIn K (.ref C) "__setattr__" = some (some (.builtin "object.__setattr__"))
theorem Cls.get {K : PySem.W.Frag} {C : Addr} (c : Cls K C) (f : Str) : PySem.W.plainGet K C f = true := c.pg
section
variable {X : Cx} {pins : List (Addr × Obj)} {σ : St} {H : Hp} {s : Shared} {a C dx : Addr} {fs : List (Str × V)} {f : Str} {v : V} {A : Around} {E : Value → Shared → Prop}
end
section
variable {X : Cx} {o e value : Expr} {f : Str} {pos pos' tpos : Pos} {ta tv : TE}
end
section
variable {X : Cx} {pins : List (Addr × Obj)} {σ : St} {H : Hp} {s : Shared} {A : Around} {E : Value → Shared → Prop} {Q : Value → Shared → Prop} {c : Value} {b : Bool}
inductive TyOf (K : PySem.W.Frag) (H : Hp) : V → Value → Prop where
  | non : TyOf K H .non (.type "NoneType")
  | bl (x : Bool) : TyOf K H (.bl x) (.type "bool")
  | int (i : Int) : TyOf K H (.int i) (.type "int")
  | str (x : Str) : TyOf K H (.str x) (.type "str")
  | flt (x : UInt64) : TyOf K H (.flt x) (.type "float")
  | lst {a : Addr} {xs : List V} (e : H a = some (.lst xs)) : TyOf K H (.ref a) (.type "list")
  | frz {a : Addr} {o : Obj} {xs : List V} (e : H a = some (.frz o (.lst xs))) : TyOf K H (.ref a) (.type "list")
  | tup {a : Addr} {xs : List V} (e : H a = some (.tup xs)) : TyOf K H (.ref a) (.type "tuple")
  | dK {a : Addr} {kvs : List (Key × V)} (e : H a = some (.dK kvs)) : TyOf K H (.ref a) (.type "dict")
  | dT {a : Addr} {kvs : List (List Key × V)} (e : H a = some (.dT kvs)) : TyOf K H (.ref a) (.type "dict")
  | ins {a C dx : Addr} {fs : List (Str × V)} (e : H a = some (.ins C dx fs)) (cl : Cls K C) (ha : PySem.W.findIn K (.ref C) "__class__" = some (some (.builtin "object.__class__")))
      (hn : PySem.W.specialIn K (.builtin "object.__class__") "__get__" = some (some (.builtin "getset_descriptor.__get__"))) (htk : PySem.W.takesIn K (.builtin "object.__class__") = some true)
      (hm : PySem.W.mroIn K C (.type "object") = some true) : TyOf K H (.ref a) (.ref C)
theorem isinst_ok {x : V} {u t : Value} (I : Inv X pins σ H s) (rx : RelV x u) (ty : TyOf X.K H x t) (e : PySem.W.kitOne X.K t c = some b) (h : ∀ tk, Q (.bool b) { s with toks := tk }) :
    wpAny (model X.prog X.w) A (call (.builtin "isinstance") [u, c]) Q E s := by
  cases ty with
  | non => cases (show u = Value.none from rx); exact PySem.W.kia_one PySem.W.kitx_none I.kIn True.intro e (fun z => nomatch z) h
  | bl y => cases (show u = Value.bool y from rx); exact PySem.W.kia_one PySem.W.kitx_bool I.kIn True.intro e (fun z => nomatch z) h
  | int i => obtain ⟨t, q⟩ := (show ∃ t, u = Value.int i t from rx); cases q; exact PySem.W.kia_one PySem.W.kitx_int I.kIn True.intro e (fun z => nomatch z) h
  | str y => obtain ⟨t, q⟩ := (show ∃ t, u = Value.str y t from rx); cases q; exact PySem.W.kia_one PySem.W.kitx_str I.kIn True.intro e (fun z => nomatch z) h
  | flt y => obtain ⟨t, q⟩ := (show ∃ t, u = Value.float y t from rx); cases q; exact PySem.W.kia_one PySem.W.kitx_float I.kIn True.intro e (fun z => nomatch z) h
  | @lst a xs ea =>
    cases (show u = Value.ref a from rx)
    obtain ⟨_, _, n, _, h1⟩ := (show ObjOk X.prog X.w H s.heap a (.lst xs) from I.hok a _ ea)
    exact PySem.W.kia_one PySem.W.kitx_list I.kIn ⟨_, h1, rfl⟩ e (fun z => nomatch z) h
  | @frz a ob xs ea =>
    cases (show u = Value.ref a from rx)
    obtain ⟨_, _, _, n, _, h1⟩ := (show ObjOk X.prog X.w H s.heap a (.frz ob (.lst xs)) from I.hok a _ ea)
    exact PySem.W.kia_one PySem.W.kitx_list I.kIn ⟨_, h1, rfl⟩ e (fun z => nomatch z) h
  | @tup a xs ea =>
    cases (show u = Value.ref a from rx)
    obtain ⟨_, _, _, p⟩ := (show ObjOk X.prog X.w H s.heap a (.tup xs) from I.hok a _ ea)
    obtain ⟨o, h1, h2, _⟩ := p
    exact PySem.W.kia_one PySem.W.kitx_tuple I.kIn ⟨o, h1, h2⟩ e (fun z => nomatch z) h
  | @dK a kvs ea =>
    cases (show u = Value.ref a from rx)
    obtain ⟨_, _, vs, _, p⟩ := (show ObjOk X.prog X.w H s.heap a (.dK kvs) from I.hok a _ ea)
    obtain ⟨o, es, ep, h1, h2, _⟩ := p
    exact PySem.W.kia_one PySem.W.kitx_dict I.kIn ⟨o, h1, h2.1⟩ e (fun z => nomatch z) h
  | @dT a kvs ea =>
    cases (show u = Value.ref a from rx)
    obtain ⟨_, _, xs, _, o, es, ep, h1, h2, _⟩ := (show ObjOk X.prog X.w H s.heap a (.dT kvs) from I.hok a _ ea)
    exact PySem.W.kia_one PySem.W.kitx_dict I.kIn ⟨o, h1, h2.1⟩ e (fun z => nomatch z) h
  | @ins a C dx fs ea cl ha hn htk hm =>
    cases (show u = Value.ref a from rx)
    obtain ⟨mA, O, _⟩ := ins_get I.hok ea
    obtain ⟨od, J, _⟩ := O.look
    exact PySem.W.kia_one (PySem.W.kitx_own (cl.get _) cl.hd ha hn htk hm) I.kIn J e (fun z => nomatch z) h
end
open PySem PySem.Spec PyProof.Rows
structure Room (k : Nat) (A : Around) : Prop where
  hd : A.handled = none
  dp : A.depth + 3 * k + 5 < recursionLimit
  un : A.units + 16 * k + 200 < cLine
  gd : A.guards = some []
theorem Room.mono {j k : Nat} {A : Around} (r : Room k A) (h : j ≤ k) : Room j A := ⟨r.hd, by have := r.dp; omega, by have := r.un; omega, r.gd⟩
theorem Room.deeper {k : Nat} {A : Around} (r : Room (k + 1) A) (env : Env) : Room k (A.deeper env) :=
  ⟨r.hd, by have := r.dp; show A.depth + 1 + 3 * k + 5 < _; omega, by have := r.un; show A.units + 3 + 16 * k + 200 < _; omega, r.gd⟩
theorem Room.depth {k : Nat} {A : Around} (r : Room k A) : A.depth < recursionLimit := by have := r.dp; omega
theorem Room.units {k : Nat} {A : Around} (r : Room k A) : A.units + 64 < cLine := by have := r.un; omega
def tNil : TA := fun _ H Q => Q [] H
def tCons (ta : TE) (tr : TA) : TA := fun σ H Q => ta σ H fun x H1 => tr σ H1 fun xs H2 => Q (x :: xs) H2
section
variable {X : Cx} {e : Expr} {es : List Expr} {te : TE} {t : TA} {pos : Pos}
theorem pa_nil : PA X [] tNil := fun _ _ _ _ H Q I h => Calls.spliced_nil ⟨[], H, I, .nil, h⟩
theorem pa_cons (ha : PE X e te) (hr : PA X es t) (hs : starEach (e :: es) X.env = (false, eval e X.env) :: starEach es X.env := by rfl) : PA X (e :: es) (tCons te t) := by
  intro pos pins s σ H Q I h
  rw [hs]
  show wpAny _ _ (spliced ((false, eval e X.env) :: backTo pos (starEach es X.env))) _ _ s
  refine Calls.spliced_cons (thn (ha pins s σ H _ I h) fun u s1 ⟨x, H1, I1, r1, q1⟩ => ?_)
  exact thn (hr pos pins s1 σ H1 _ I1 q1) fun us s2 ⟨xs, H2, I2, r2, q2⟩ => ⟨x :: xs, H2, I2, .cons r1 r2, q2⟩
def tTup (t : TA) : TE := fun σ H Q => t σ H fun xs H1 => xs.length ≤ sizeLine ∧ ∀ p, H1 p = none → Q (.ref p) (upd H1 p (.tup xs))
def tLst (t : TA) : TE := fun σ H Q => t σ H fun xs H1 => xs.length ≤ sizeLine ∧ ∀ p, H1 p = none → Q (.ref p) (upd H1 p (.lst xs))
theorem pe_tup {x1} (h : PA X es t) : PE X (.Tuple es x1 pos) (tTup t) := by
  intro pins s σ H Q I hq
  refine wpAny_Tuple_spliced (thn (h pos pins s σ H _ I hq) fun us s1 ⟨xs, H1, I1, r, z, q⟩ => ⟨by rw [← r.length]; exact z, ?_⟩)
  have hf : H1 s1.heap.objs.size = none := I1.hok.fresh (Nat.le_refl _)
  refine ⟨.ref s1.heap.objs.size, upd H1 s1.heap.objs.size (.tup xs), I1.laid (t' := s1.toks) (fun b u e => Heap.get?_push_of_some _ e) (Nat.le_refl _) ?_, rfl, q _ hf⟩
  exact ⟨z, us, r, ⟨_, Heap.get?_push_size _ rfl, rfl, _, rfl⟩⟩
theorem pe_lst (h : PA X es t) : PE X (.List es pos) (tLst t) := by
  intro pins s σ H Q I hq
  refine wpAny_List_spliced (thn (h pos pins s σ H _ I hq) fun us s1 ⟨xs, H1, I1, r, z, q⟩ => ⟨by rw [← r.length]; exact z, ?_⟩)
  have hf : H1 s1.heap.objs.size = none := I1.hok.fresh (Nat.le_refl _)
  refine ⟨.ref s1.heap.objs.size, upd H1 s1.heap.objs.size (.lst xs), I1.laid (t' := s1.toks) (fun b u e => Heap.get?_push_of_some _ e) (Nat.le_refl _) ?_, rfl, q _ hf⟩
  exact ⟨z, us, 0, r, Heap.get?_push_size _ rfl⟩
end
abbrev Sp := List V → Hp → VK → XK → Prop
abbrev CXT := List Env → Hp → Shared → XK → Value → Shared → Prop
structure Env0 (P : Program) (w : World) (K : PySem.W.Frag) (mg : Str → Option Value) (base : Heap) (A : Around) (outer : List Env) (s : Shared) (H : Hp) : Prop where
  frames : A.frames = some outer
  mod : Mod K mg base
  bs : ∀ b o, base.get? b = some o → s.heap.get? b = some o ∧ H b = none
  bsz : base.objs.size ≤ s.heap.objs.size
  funs : s.heap.FunFrames base outer
  frf : ∀ b ∈ frs outer, H b = none
  hok : HOk P w H s.heap
  bare : AllBare s.gens
def CE (outer : List Env) (P : Program) (w : World) (H : Hp) (s : Shared) (Q : VK) (u : Value) (s' : Shared) : Prop :=
  ∃ v H', s'.os = s.os ∧ AllBare s'.gens ∧ Un (frs outer) [] H H' s.heap s'.heap ∧ HOk P w H' s'.heap ∧ RelV v u ∧ Q v H'
def CR (CX : CXT) (outer : List Env) (P : Program) (w : World) (H : Hp) (s : Shared) (Q : VK) (E : XK) (r : Result) (s' : Shared) : Prop :=
  match r with
  | .ok (.ret u) => CE outer P w H s Q u s'
  | .ok _ => False
  | .error e => CX outer H s E e s'
structure FnOk (P : Program) (w : World) (K : PySem.W.Frag) (mg : Str → Option Value) (base : Heap) (CX : CXT) (k : Nat) (f : Addr) (fd : FuncData) (ps : List Str) (sp : Sp) : Prop where
  len : ∀ vs H Q E, sp vs H Q E → vs.length = ps.length
  run : ∀ (A : Around) (outer : List Env) (s : Shared) (H : Hp) (args : Args) (us : List Value) (vs : List V) (Q : VK) (E : XK), Room k A → Env0 P w K mg base A outer s H → BindsTo s fd args (ps.zip us) → Vals vs us → sp vs H Q E →
    codeAny (model P w) A (.call (.ref f) args) (CR CX outer P w H s Q E) s
theorem FnOk.mono {P : Program} {w : World} {K : PySem.W.Frag} {mg : Str → Option Value} {base : Heap} {CX : CXT} {j k : Nat} {f : Addr} {fd : FuncData} {ps : List Str} {sp : Sp} (F : FnOk P w K mg base CX j f fd ps sp) (h : j ≤ k) :
    FnOk P w K mg base CX k f fd ps sp := ⟨F.len, fun A outer s H args us vs Q E hr => F.run A outer s H args us vs Q E (hr.mono h)⟩
section
variable {X : Cx} {pins : List (Addr × Obj)} {σ : St} {H : Hp} {s s' : Shared}
theorem Inv.env0 (I : Inv X pins σ H s) : Env0 X.prog X.w X.K X.mg X.base X.A X.stack s H :=
  ⟨I.ok.frames, I.ok.mod, I.bs, Nat.le_trans I.ok.bsz I.sz, I.stack, I.stkFree, I.hok, I.bare⟩
theorem Inv.after {Q : VK} {u : Value} (I : Inv X pins σ H s) (h : CE X.stack X.prog X.w H s Q u s') : EP X pins σ Q u s' := by
  obtain ⟨v, H', os, bare, un, hok, r, q⟩ := h
  obtain ⟨hh, g, d, t, os'⟩ := s'
  obtain rfl : os' = s.os := os
  exact ⟨v, H', I.call (h' := hh) (g' := g) (d' := d) (t' := t) (ch := []) un hok bare (fun b z => absurd z (by simp)), r, q⟩
end
def tCall (sp : Sp) (dvs : List V) (E : XK) (t : TA) : TE := fun σ H Q => t σ H fun vs H1 => sp (vs ++ dvs) H1 Q E
def Binds (K : PySem.W.Frag) (fd : FuncData) (ps : List Str) (ds : List Value) : Prop :=
  ∀ (s : Shared) (us : List Value), K.In s.heap → (us ++ ds).length = ps.length → BindsTo s fd ⟨us, []⟩ (ps.zip (us ++ ds))
theorem Binds.all {K : PySem.W.Frag} {fd : FuncData} {ps : List Str} (h : ∀ us : List Value, us.length = ps.length → bindArgs fd ⟨us, []⟩ = pure (ps.zip us)) : Binds K fd ps [] := fun s us _ hl => by
  rw [List.append_nil] at hl ⊢
  exact .of_eq (h us hl)
def Passes (CX : CXT) (X : Cx) (E : XK) : Prop := ∀ (pins : List (Addr × Obj)) (σ : St) (H : Hp) (s : Shared) (e : Value) (s' : Shared), Inv X pins σ H s → CX X.stack H s E e s' → X.xe e s'
section
variable {X : Cx} {CX : CXT} {k : Nat} {f C : Addr} {fd : FuncData} {ps : List Str} {sp : Sp} {dvs : List V} {ds : List Value} {E : XK} {x m : Str} {p pos apos : Pos} {e o : Expr} {es : List Expr} {ta : TE} {t : TA}
theorem run_fn {pins : List (Addr × Obj)} {σ : St} {H : Hp} {s : Shared} {Q : VK} {us : List Value} {vs : List V} (F : FnOk X.prog X.w X.K X.mg X.base CX k f fd ps sp) (hr : Room k X.A) (hb : Binds X.K fd ps ds) (hd : Vals dvs ds) (hx : Passes CX X E)
    (I : Inv X pins σ H s) (r : Vals vs us) (h : sp (vs ++ dvs) H Q E) : wpAny (model X.prog X.w) X.A (call (.ref f) us) (EP X pins σ Q) X.xe s := by
  have r2 : Vals (vs ++ dvs) (us ++ ds) := r.append hd
  have hl : (us ++ ds).length = ps.length := by rw [← r2.length]; exact F.len _ _ _ _ h
  refine wpAny_call (codeAny_mono (F.run X.A X.stack s H ⟨us, []⟩ (us ++ ds) (vs ++ dvs) Q E hr I.env0 (hb s us I.kIn hl) r2 h) fun r s' hq => ?_)
  cases r with
  | error e => exact hx pins σ H s e s' I hq
  | ok fl =>
    cases fl with
    | ret u => exact I.after hq
    | next => exact False.elim hq
    | brk => exact False.elim hq
    | cont => exact False.elim hq
theorem pe_call (F : FnOk X.prog X.w X.K X.mg X.base CX k f fd ps sp) (hr : Room k X.A) (hg : Gl X x) (hm : X.mg x = some (.ref f)) (hk : PySem.W.keepIn X.K (.ref f) = true) (hb : Binds X.K fd ps ds) (hd : Vals dvs ds) (hx : Passes CX X E)
    (ha : PA X (e :: es) t) (hdb : (x == ("__debug__" : Str)) = false := by decide) (he : starEach (e :: es) X.env = (false, eval e X.env) :: starEach es X.env := by rfl) (hpl : (backTo pos (starEach es X.env)).any (·.1) = false := by rfl) :
    PE X (.Call (.Name x p) (e :: es) [] pos) (tCall sp dvs E t) := by
  intro pins s σ H Q I h
  refine wpAny_Call_Name_kw (ld_glob I hg hm ?_ hdb)
  refine PySem.W.callWith_K (h₀ := X.base) I.ok.mod.kin hk (thn (ha pos pins s σ H _ I h) fun us s1 ⟨vs, H1, I1, r, q⟩ => ⟨I1.kIn, ?_⟩) he hpl
  exact run_fn F hr hb hd hx I1 r q
end
section
variable {X : Cx} {CX : CXT} {k : Nat} {f C : Addr} {fd : FuncData} {ps ks : List Str} {sp : Sp} {E : XK} {x m : Str} {p pos apos kpos : Pos} {e o : Expr} {es : List Expr} {kws : List Keyword} {te ta : TE} {t tk : TA} {nm : Option Str}
variable {g : List Value → List Value → List Value} {gV : List V → List V → List V}
end
structure FnScope (N P : List Str) (sc : Scope) : Prop where
  kind : sc.kind = .function
  co : sc.isCoroutine = false
  gen : sc.isGenerator = false
  nd : N.Nodup
  pre : N.take P.length = P
  par : ∀ x ∈ P, sc.names.lookup x = some .local ∨ sc.names.lookup x = some .cell
  nofree : ∀ y ∈ sc.names, y.2 ≠ .free
theorem bindL_out {kindOf : Str → Option NameKind} {x : Str} : ∀ {binds : List (Str × Value)} {m : Str → Option Value}, (∀ v, (x, v) ∉ binds) → bindL kindOf binds m x = m x
  | [], _, _ => rfl
  | (n, v) :: r, m, h => by
    unfold bindL
    rw [bindL_out fun w hw => h w (List.mem_cons_of_mem _ hw)]
    split
    · have : x ≠ n := by rintro rfl; exact h v List.mem_cons_self
      simp [this]
    · rfl
theorem bindC_out {kindOf : Str → Option NameKind} {x : Str} : ∀ {binds : List (Str × Value)} {m : Str → Option Value}, (∀ v, (x, v) ∉ binds) → bindC kindOf binds m x = m x
  | [], _, _ => rfl
  | (n, v) :: r, m, h => by
    unfold bindC
    rw [bindC_out fun w hw => h w (List.mem_cons_of_mem _ hw)]
    split
    · rfl
    · have : x ≠ n := by rintro rfl; exact h v List.mem_cons_self
      simp [this]
theorem bindL_get {kindOf : Str → Option NameKind} {x : Str} {v : Value} : ∀ {P : List Str} {vs : List Value} {i : Nat} {m : Str → Option Value}, P.Nodup → P[i]? = some x → vs[i]? = some v → kindOf x = some .local →
    bindL kindOf (P.zip vs) m x = some v
  | [], _, _, _, _, h, _, _ => by simp at h
  | _ :: _, [], _, _, _, _, h, _ => by simp at h
  | p :: P, w :: vs, 0, m, nd, h1, h2, hk => by
    simp at h1 h2; subst h1; subst h2
    show bindL kindOf ((p, w) :: P.zip vs) m p = _
    unfold bindL
    rw [bindL_out fun v hv => (List.nodup_cons.mp nd).1 (List.of_mem_zip hv).1, if_pos hk]
    simp
  | p :: P, w :: vs, i + 1, m, nd, h1, h2, hk => by
    show bindL kindOf ((p, w) :: P.zip vs) m x = _
    unfold bindL
    exact bindL_get (i := i) (List.nodup_cons.mp nd).2 (by simpa using h1) (by simpa using h2) hk
theorem bindC_get {kindOf : Str → Option NameKind} {x : Str} {v : Value} : ∀ {P : List Str} {vs : List Value} {i : Nat} {m : Str → Option Value}, P.Nodup → P[i]? = some x → vs[i]? = some v → kindOf x ≠ some .local →
    bindC kindOf (P.zip vs) m x = some v
  | [], _, _, _, _, h, _, _ => by simp at h
  | _ :: _, [], _, _, _, _, h, _ => by simp at h
  | p :: P, w :: vs, 0, m, nd, h1, h2, hk => by
    simp at h1 h2; subst h1; subst h2
    show bindC kindOf ((p, w) :: P.zip vs) m p = _
    unfold bindC
    rw [bindC_out fun v hv => (List.nodup_cons.mp nd).1 (List.of_mem_zip hv).1, if_neg hk]
    simp
  | p :: P, w :: vs, i + 1, m, nd, h1, h2, hk => by
    show bindC kindOf ((p, w) :: P.zip vs) m x = _
    unfold bindC
    exact bindC_get (i := i) (List.nodup_cons.mp nd).2 (by simpa using h1) (by simpa using h2) hk
def start (N : List Str) (vs : List V) : St := vs.map some ++ List.replicate (N.length - vs.length) none
def cxOf (CX : CXT) (P : Program) (w : World) (K : PySem.W.Frag) (mg : Str → Option Value) (base : Heap) (N : List Str) (qual : Str) (scope : Scope) (f : Addr) (cd : Value) (A : Around) (outer : List Env) (s : Shared) (H : Hp) (E : XK) : Cx where
  prog := P
  w := w
  K := K
  mg := mg
  base := base
  A := A.deeper (envOfC qual scope s.heap.objs.size f cd)
  N := N
  s₀ := s
  H₀ := H
  env := envOfC qual scope s.heap.objs.size f cd
  outer := outer
  stack := envOfC qual scope s.heap.objs.size f cd :: outer
  ex := []
  calm := true
  fn := fun _ => true
  pn := []
  xe := fun e s' => wpAny (model P w) (A.deeper (envOfC qual scope s.heap.objs.size f cd)) (leaving (envOfC qual scope s.heap.objs.size f cd) e) (fun _ s'' => CX outer H s E e s'') (fun e' s'' => CX outer H s E e' s'') s'
theorem cell_has {sc : Scope} {n : Nat} {x : Str} (h : sc.names.lookup x = some .cell) : ∃ c, (cellsFrom n sc.names []).lookup x = some c := by
  have q := PySem.W.cellsFrom_some sc.names n [] (.inl h)
  exact Option.isSome_iff_exists.mp q
theorem inv_start {CX : CXT} {P : Program} {w : World} {K : PySem.W.Frag} {mg : Str → Option Value} {base : Heap} {N ps : List Str} {qual : Str} {scope : Scope} {f : Addr} {cd : Value} {A : Around} {outer : List Env} {s s1 : Shared} {H : Hp} {E : XK} {us : List Value} {vs : List V}
    (S : FnScope N ps scope) (hd : A.handled = none) (e0 : Env0 P w K mg base A outer s H) (hl : vs.length = ps.length) (r : Vals vs us)
    (x : InCallC s s.heap.objs.size (bindL (envOfC qual scope s.heap.objs.size f cd).kindOf (ps.zip us) fun _ => none) (cellsFrom (s.heap.objs.size + 1) scope.names []) (bindC (envOfC qual scope s.heap.objs.size f cd).kindOf (ps.zip us) fun _ => none) s1) :
    Inv (cxOf CX P w K mg base N qual scope f cd A outer s H E) [] (start N vs) H s1 := by
  have hpl : ps.length ≤ N.length := by have := congrArg List.length S.pre; rw [List.length_take] at this; omega
  obtain ⟨h1, tk, rfl, hk⟩ := x.done
  have noA : ∀ b : Addr, b ∉ (cxOf CX P w K mg base N qual scope f cd A outer s H E).ex := fun b z => absurd (show b ∈ ([] : List Addr) from z) (by simp)
  refine ⟨⟨e0.mod, S.kind, rfl, rfl, Nat.le_refl _, fun y z c h1 h2 => ?_, fun y hy => ?_, fun y c _ h => ?_, fun _ => hd, Around.frames_deeper e0.frames, .inr ⟨rfl, rfl⟩, fun b z => absurd z (noA b), e0.bs, e0.bsz, fun b _ _ => noA b, fun b z => absurd z (noA b), e0.funs, e0.frf⟩,
    rfl, e0.bare, Un.kept hk, ⟨_, x.toInCall.ns, fun i y v h1 h2 h3 => ?_⟩, fun y c h => ⟨_, x.cell y c h⟩, e0.hok.fresh (Nat.le_refl _), fun y c h => ?_, fun p hp => absurd (show p ∈ ([] : List (Addr × Obj)) from hp) (by simp), e0.hok.kept hk, ?_⟩
  · exact name_of_addr x.apart (PySem.mem_of_lookup h1) (PySem.mem_of_lookup h2)
  · have hy : scope.names.lookup y = some .cell ∨ scope.names.lookup y = some .free := hy
    rcases hy with hy | hy
    · exact cell_has hy
    · exact absurd rfl (S.nofree _ (PySem.mem_of_lookup hy))
  · exact Nat.le_of_lt (x.above y c (PySem.mem_of_lookup h))
  · have hi : i < vs.length := by
      unfold start at h2
      by_cases hi : i < vs.length
      · exact hi
      · rw [List.getElem?_append_right (by simpa using hi)] at h2
        rw [List.getElem?_replicate] at h2
        split at h2 <;> cases h2
    have ha : vs[i]? = some v := by
      unfold start at h2
      rw [List.getElem?_append_left (by simpa using hi), List.getElem?_map] at h2
      cases e : vs[i]? with
      | none => rw [e] at h2; cases h2
      | some a => rw [e] at h2; cases h2; rfl
    obtain ⟨u, hu, rv⟩ := r.get ha
    have hp : ps[i]? = some y := by
      rw [← S.pre, List.getElem?_take_of_lt (by omega)]; exact h1
    have ndP : ps.Nodup := by rw [← S.pre]; exact S.nd.sublist (List.take_sublist _ _)
    refine ⟨u, rv, ?_⟩
    rcases S.par y (List.mem_of_getElem? hp) with k | k
    · exact .inl ⟨k, bindL_get ndP hp hu k⟩
    · obtain ⟨c, e⟩ := cell_has (n := s.heap.objs.size + 1) k
      refine .inr ⟨.inl k, c, e, ?_⟩
      have q := x.cell y c e
      rw [bindC_get ndP hp hu (by show scope.names.lookup y ≠ _; rw [k]; decide)] at q
      exact q
  · exact e0.hok.fresh (Nat.le_of_lt (x.above y c (PySem.mem_of_lookup h)))
  · unfold start
    show _ = N.length
    rw [List.length_append, List.length_map, List.length_replicate]
    omega
theorem fn_of {CX : CXT} {P : Program} {w : World} {K : PySem.W.Frag} {mg : Str → Option Value} {base : Heap} {k : Nat} {f : Addr} {name qual : Str} {params : Arguments} {body : List Stmt} {scope : Scope} {dV kV doc pm cdv ct oc : Value} {an od : Option Addr}
    {osl : Array (Option Value)} {N ps : List Str} {sp : Sp} (lk : K.lookup f = some ⟨oc, od, .func (PySem.W.fnOf name qual params body scope dV kV doc pm an cdv ct), osl⟩) (hcd : PySem.W.codeIn K cdv qual = true) (S : FnScope N ps scope)
    (len : ∀ vs H Q E, sp vs H Q E → vs.length = ps.length)
    (hbody : ∀ (A : Around) (outer : List Env) (s : Shared) (H : Hp) (vs : List V) (Q : VK) (E : XK), Room k (A.deeper (envOfC qual scope s.heap.objs.size f cdv)) → sp vs H Q E →
      ∃ t, PSs (cxOf CX P w K mg base N qual scope f cdv A outer s H E) body t ∧ t { nx := fun _ H' => Q .non H', rt := Q } (start N vs) H) :
    FnOk P w K mg base CX (k + 1) f (PySem.W.fnOf name qual params body scope dV kV doc pm an cdv ct) ps sp := by
  refine ⟨len, fun A outer s H args us vs Q E hr e0 hb r hsp => ?_⟩
  have hl := len _ _ _ _ hsp
  have KX : K.In s.heap := e0.mod.kin.keeps fun b o e => (e0.bs b o e).1
  have lim : s.heap.NoLimit := e0.mod.nolimit.keeps fun b o e => (e0.bs b o e).1
  have hkind : ∀ y ∈ ps.zip us, scope.names.lookup y.1 = some .local ∨ (scope.names.lookup y.1 = some .cell ∧ ((cellsFrom (s.heap.objs.size + 1) scope.names []).lookup y.1).isSome = true) := fun ⟨n, v⟩ hy => by
    rcases S.par n (List.of_mem_zip hy).1 with q | q
    · exact .inl q
    · exact .inr ⟨q, PySem.W.cellsFrom_some _ _ _ (.inl q)⟩
  refine codeAny_call_function hr.depth (KX _ _ lk) rfl S.co S.gen rfl (PySem.W.codeRec_of KX hcd) (hb _ _ _ _ ?_)
  refine wpAny_newFunctionEnv_cells S.kind hkind fun env he s1 x => ?_
  subst he
  refine ⟨lim.keeps x.toInCall.keep, codeAny_func ?_⟩
  obtain ⟨t, ht, hq⟩ := hbody A outer s H vs Q E (hr.deeper _) hsp
  have I : Inv (cxOf CX P w K mg base N qual scope f cdv A outer s H E) [] (start N vs) H s1 := inv_start S hr.hd e0 hl r x
  refine wpAny_mono (ht [] s1 (start N vs) H _ I hq) (fun fl s' hs => ?_) fun e s' hs => hs
  have fin : ∀ {σ' : St} {H' : Hp} {v : V} {u : Value}, Inv (cxOf CX P w K mg base N qual scope f cdv A outer s H E) [] σ' H' s' → RelV v u → Q v H' → CE outer P w H s Q u s' :=
    fun {σ' H' v u} J rv q => ⟨v, H', J.os, J.bare, J.base, J.hok, rv, q⟩
  cases fl with
  | ret u =>
    obtain ⟨v, σ', H', J, rv, q⟩ := hs
    exact fin J rv q
  | next =>
    obtain ⟨σ', H', J, q⟩ := hs
    exact fin (v := V.non) (u := Value.none) J rfl q
  | brk =>
    obtain ⟨_, _, _, q⟩ := hs
    exact False.elim q
  | cont =>
    obtain ⟨_, _, _, q⟩ := hs
    exact False.elim q
open PySem PySem.Spec PyProof.Rows
section
variable {X : Cx} {x : Str} {p pos : Pos} {e : Expr} {es : List Expr} {t : TA} {id T : String} {r : List V → Hp → VK → Prop}
def tCB (r : List V → Hp → VK → Prop) (t : TA) : TE := fun σ H Q => t σ H fun vs H1 => r vs H1 Q
theorem pe_callB (hc : CallR X (.builtin id) r) (hg : Gl X x) (hm : X.mg x = none) (hv : bootBuiltins x = some (.builtin id)) (ha : PA X (e :: es) t) (hn : x ≠ "__name__" := by decide) (hdb : (x == ("__debug__" : Str)) = false := by decide)
    (he : starEach (e :: es) X.env = (false, eval e X.env) :: starEach es X.env := by rfl) (hpl : (backTo pos (starEach es X.env)).any (·.1) = false := by rfl) : PE X (.Call (.Name x p) (e :: es) [] pos) (tCB r t) := by
  intro pins s σ H Q I h
  refine wpAny_Call_Name_kw (ld_blt I hg hm hv ?_ hn hdb)
  exact PyProof.Rows.callWith_builtin1 (thn (ha pos pins s σ H _ I h) fun us s1 ⟨vs, H1, I1, r1, q1⟩ => hc pins s1 σ H1 vs us Q I1 r1 q1) he hpl
theorem pe_callTy (hc : CallR X (.type T) r) (hg : Gl X x) (hm : X.mg x = none) (hv : bootBuiltins x = some (.type T)) (ha : PA X (e :: es) t) (hn : x ≠ "__name__" := by decide) (hdb : (x == ("__debug__" : Str)) = false := by decide)
    (he : starEach (e :: es) X.env = (false, eval e X.env) :: starEach es X.env := by rfl) (hpl : (backTo pos (starEach es X.env)).any (·.1) = false := by rfl) : PE X (.Call (.Name x p) (e :: es) [] pos) (tCB r t) := by
  intro pins s σ H Q I h
  refine wpAny_Call_Name_kw (ld_blt I hg hm hv ?_ hn hdb)
  exact PyProof.Rows.callWith_type1 (thn (ha pos pins s σ H _ I h) fun us s1 ⟨vs, H1, I1, r1, q1⟩ => hc pins s1 σ H1 vs us Q I1 r1 q1) he hpl
end
end L2
namespace HT
open PySem PyProof.Rows
def lexLt : List Int → List Int → Bool
  | [], [] => false
  | [], _ :: _ => true
  | _ :: _, [] => false
  | x :: xs, y :: ys => if x = y then lexLt xs ys else decide (x < y)
theorem lexLt_cons (x y : Int) (xs ys : List Int) : lexLt (x :: xs) (y :: ys) = if x = y then lexLt xs ys else decide (x < y) := rfl
theorem lexLt_nil_nil : lexLt [] [] = false := rfl
theorem lexLt_nil_cons (y : Int) (ys : List Int) : lexLt [] (y :: ys) = true := rfl
theorem lexLt_cons_nil (x : Int) (xs : List Int) : lexLt (x :: xs) [] = false := rfl
section
open PySem.SeqAt
open PySem.AutoSeq1 (wpAny_loadPart')
open PySem.MeetsSeq PySem.MeetsSeq2 PySem.MeetsSeq3
end
section
variable {prog : Program} {w : World} {A : Around} {E : Value → Shared → Prop} {s : Shared}
def sIx (n d : Nat) : Option Int → Nat
  | none => d
  | some v => if v < 0 then (v + (n : Int)).toNat else min v.toNat n
theorem sIx_none (n d : Nat) : sIx n d none = d := rfl
theorem sIx_nat (n d k : Nat) : sIx n d (some (k : Int)) = min k n := by
  show (if (k : Int) < 0 then ((k : Int) + (n : Int)).toNat else min (k : Int).toNat n) = min k n
  rw [if_neg (by omega), Int.toNat_natCast]
theorem sIx_le (n d : Nat) (hd : d ≤ n) (o : Option Int) : sIx n d o ≤ n := by
  cases o with
  | none => exact hd
  | some v =>
    show (if v < 0 then (v + (n : Int)).toNat else min v.toNat n) ≤ n
    by_cases hv : v < 0
    · rw [if_pos hv]; omega
    · rw [if_neg hv]; exact Nat.min_le_right _ _
theorem clip_eq (v : Int) (n d : Nat) : (if v < 0 then max (v + (n : Int)) 0 else min v (n : Int)) = ((sIx n d (some v) : Nat) : Int) := by
  show (if v < 0 then max (v + (n : Int)) 0 else min v (n : Int)) = (((if v < 0 then (v + (n : Int)).toNat else min v.toNat n) : Nat) : Int)
  by_cases hv : v < 0
  · simp only [if_pos hv]; omega
  · simp only [if_neg hv]; omega
theorem adjust_gen (lo hi : Option Int) (n : Nat) : Builtin.Slice.sliceAdjust lo hi 1 (n : Int) = (((sIx n 0 lo : Nat) : Int), ((sIx n n hi : Nat) : Int)) := by
  have h1 : ¬ ((1 : Int) < 0) := by omega
  unfold Builtin.Slice.sliceAdjust
  simp only [h1, if_false]
  refine Prod.ext ?_ ?_
  · cases lo with
    | none => rfl
    | some v => exact clip_eq v n 0
  · cases hi with
    | none => rfl
    | some v => exact clip_eq v n n
theorem places_gen (i j : Nat) : Builtin.Slice.slicePlaces (i : Int) (j : Int) 1 = j - i := by
  unfold Builtin.Slice.slicePlaces
  have h1 : (1 : Int) > 0 := by omega
  simp only [h1, if_true, Int.ediv_one]
  split <;> omega
theorem slicePart_ {v : Value} {o : Option Int} {Q : Option Int → Shared → Prop} (p : IsPart v o) (h : Q o s) : wpAny (model prog w) A (Builtin.Slice.slicePartIndex v) Q E s := by
  cases p with
  | none => exact slicePart_none h
  | int i t => exact slicePart_int h
theorem sliceApplied_gen {sl : Addr} {vl vu : Value} {lo hi : Option Int} {n : Nat} {Q : Int × Int × Nat → Shared → Prop} (hs : s.heap.IsSliceOf sl vl vu .none) (pl : IsPart vl lo) (pu : IsPart vu hi)
    (h : Q (((sIx n 0 lo : Nat) : Int), 1, sIx n n hi - sIx n 0 lo) s) : wpAny (model prog w) A (Builtin.Slice.sliceApplied (.ref sl) (pure (n : Int))) Q E s := by
  obtain ⟨os, hos, hcs, hds⟩ := id hs
  unfold Builtin.Slice.sliceApplied Builtin.Slice.sliceFields
  refine wpAny_bind (wpAny_bind (wpAny_field hos hds (x := vl) rfl (wpAny_bind (wpAny_field hos hds (x := vu) rfl (wpAny_bind (wpAny_field hos hds (x := .none) rfl (wpAny_pure ?_)))))))
  refine wpAny_bind (slicePart_none ?_)
  show wpAny _ _ (if ((1 : Int) == 0) = true then _ else _) _ _ s
  rw [if_neg (by decide)]
  refine wpAny_bind (slicePart_ pl (wpAny_bind (slicePart_ pu (wpAny_bind (wpAny_pure ?_)))))
  show wpAny _ _ (match Builtin.Slice.sliceAdjust lo hi 1 (n : Int) with | (lo, hi) => pure (lo, (1 : Int), Builtin.Slice.slicePlaces lo hi 1)) _ _ s
  rw [adjust_gen lo hi n]
  show wpAny _ _ (pure (((sIx n 0 lo : Nat) : Int), (1 : Int), Builtin.Slice.slicePlaces ((sIx n 0 lo : Nat) : Int) ((sIx n n hi : Nat) : Int) 1)) _ _ s
  rw [places_gen]
  exact wpAny_pure h
theorem pick_gen (xs : Array Value) (i k : Nat) : ((List.range k).filterMap fun (m : Nat) => xs[((i : Int) + (m : Int) * 1).toNat]?).toArray = ((xs.toList.drop i).take k).toArray := by
  have e : (fun (m : Nat) => xs[((i : Int) + (m : Int) * 1).toNat]?) = fun m => xs[i + m]? := by
    funext m
    have : ((i : Int) + (m : Int) * 1).toNat = i + m := by omega
    rw [this]
  rw [e]
  have := pick_run xs i k
  rw [List.filterMap_map] at this
  have e2 : ((fun x => xs[x]?) ∘ fun x => i + x) = fun m => xs[i + m]? := rfl
  rw [e2] at this
  rw [this]
theorem getItem_tuple_cut {t sl : Addr} {items : Array Value} {vl vu : Value} {lo hi : Option Int} {Q : Value → Shared → Prop} (ht : IsTup s.heap t items) (hs : s.heap.IsSliceOf sl vl vu .none) (pl : IsPart vl lo) (pu : IsPart vu hi)
    (hw : ¬ (sIx items.size 0 lo = 0 ∧ sIx items.size items.size hi = items.size))
    (h : Q (.ref s.heap.objs.size) { s with heap := s.heap.push { cls := .type "tuple", data := .seq ((items.toList.drop (sIx items.size 0 lo)).take (sIx items.size items.size hi - sIx items.size 0 lo)).toArray } })
    (hsz : items.size ≤ sizeLine) : wpAny (model prog w) A (getItem (.ref t) (.ref sl)) Q E s := by
  have htake : sizeOk (.seq ((items.toList.drop (sIx items.size 0 lo)).take (sIx items.size items.size hi - sIx items.size 0 lo)).toArray) := by
    show ((items.toList.drop (sIx items.size 0 lo)).take (sIx items.size items.size hi - sIx items.size 0 lo)).toArray.size ≤ sizeLine
    rw [List.size_toArray, List.length_take, List.length_drop, Array.length_toList]
    omega
  have hj : sIx items.size items.size hi ≤ items.size := sIx_le _ _ (Nat.le_refl _) hi
  obtain ⟨os, hos, hcs, hds⟩ := id hs
  have hTs : s.TypeIs (.ref sl) "slice" := ⟨os, hos, hcs⟩
  unfold getItem
  try with_reducible refine wpAny_holding ?_
  first | refine wpAny_bind (wpAny_pure ?_) | skip
  refine wpAny_bind (wpAny_sequenceKey ht.typeIs (by decide) ?_)
  refine wpAny_bind (wpAny_callSpecial?_slot (name := Str.ofString "__getitem__") ht.typeIs PyProof.Rows.slot_tuple_getitem
    (wpAny_call_entry PyProof.Rows.slot_tuple_getitem ht.typeIs entry_tuple_getitem ?_ (args_tuple_getitem _ _)))
  show wpAny _ _ (Builtin.Tuple.tupleItemsOf (.ref t) >>= _) _ _ s
  refine wpAny_bind (tupleItemsOf_ ht ?_)
  refine wpAny_bind (wpAny_typeOf hTs ?_)
  rw [if_pos (by decide)]
  refine wpAny_bind (sliceApplied_gen hs pl pu ?_)
  have hno : ¬ ((((sIx items.size 0 lo : Nat) : Int) == 0 && (1 : Int) == 1 && (sIx items.size items.size hi - sIx items.size 0 lo) == items.size) = true) := by
    intro q
    rw [Bool.and_eq_true, Bool.and_eq_true] at q
    have q1 : ((sIx items.size 0 lo : Nat) : Int) = 0 := eq_of_beq q.1.1
    have q2 : sIx items.size items.size hi - sIx items.size 0 lo = items.size := eq_of_beq q.2
    exact hw ⟨by omega, by omega⟩
  show wpAny _ _ (if (((sIx items.size 0 lo : Nat) : Int) == 0 && (1 : Int) == 1 && (sIx items.size items.size hi - sIx items.size 0 lo) == items.size) = true then _ else _) _ _ s
  rw [if_neg hno, pick_gen]
  first
    | exact wpAny_bind (m := Builtin.Tuple.tupleExact _) (wpAny_newObj_type (wpAny_pure ⟨_, rfl, wpAny_pure h⟩) htake)
    | exact wpAny_bind (m := Builtin.Tuple.tupleExact _) (wpAny_newObj_type (wpAny_bind (wpAny_pure (wpAny_pure ⟨_, rfl, wpAny_pure h⟩))) htake)
    | exact wpAny_bind (wpAny_bind (m := Builtin.Tuple.tupleExact _) (wpAny_newObj_type (wpAny_pure (wpAny_pure ⟨_, rfl, wpAny_pure h⟩)) htake))
    | exact wpAny_bind (wpAny_bind (m := Builtin.Tuple.tupleExact _) (wpAny_newObj_type (wpAny_pure ⟨_, rfl, wpAny_pure h⟩) htake))
end
end HT
namespace L2
open PySem PySem.Spec PyProof.Rows
abbrev TO := St → Hp → (Option Int → Hp → Prop) → Prop
def PO (X : Cx) (e : Option Expr) (t : TO) : Prop :=
  ∀ (pins : List (Addr × Obj)) (s : Shared) (σ : St) (H : Hp) (Q : Option Int → Hp → Prop), Inv X pins σ H s → t σ H Q →
    wpAny (model X.prog X.w) X.A (evalPart e X.env) (fun u s' => ∃ o H', Inv X pins σ H' s' ∧ IsPart u o ∧ Q o H') X.xe s
def tNoPart : TO := fun _ H Q => Q none H
def tPart (t : TE) : TO := fun σ H Q => t σ H fun x H1 => ∃ i, x = .int i ∧ Q (some i) H1
section
variable {X : Cx} {e : Expr} {te : TE} {lo hi : Option Expr} {tl th : TO} {pos p2 : Pos}
theorem po_none : PO X none tNoPart := by
  intro pins s σ H Q I h
  rw [evalPart_none]
  exact wpAny_pure ⟨none, H, I, .none, h⟩
theorem po_some (h : PE X e te) : PO X (some e) (tPart te) := by
  intro pins s σ H Q I hw
  rw [evalPart_some]
  refine thn (h pins s σ H _ I hw) fun u s1 ⟨x, H1, I1, r1, q1⟩ => ?_
  obtain ⟨i, rfl, q⟩ := q1
  obtain ⟨t, rfl⟩ := r1
  exact ⟨some i, H1, I1, .int i t, q⟩
def SlR (X : Cx) (r : V → Option Int → Option Int → Hp → VK → Prop) : Prop :=
  ∀ (pins : List (Addr × Obj)) (s : Shared) (σ : St) (H : Hp) (x : V) (v vl vu : Value) (lo hi : Option Int) (sl : Addr) (Q : VK), Inv X pins σ H s → RelV x v → s.heap.IsSliceOf sl vl vu .none → IsPart vl lo → IsPart vu hi → r x lo hi H Q →
    ∃ T id, typeLookup (.type T) "__getitem__" = pure (some (.builtin id)) ∧ s.TypeIs v T ∧ wpAny (model X.prog X.w) X.A (getItem v (.ref sl)) (EP X pins σ Q) X.xe s
def tSl (r : V → Option Int → Option Int → Hp → VK → Prop) (te : TE) (tl th : TO) : TE := fun σ H Q => te σ H fun x H1 => tl σ H1 fun l H2 => th σ H2 fun u H3 => r x l u H3 Q
theorem pe_slice {r : V → Option Int → Option Int → Hp → VK → Prop} (hr : SlR X r) (he : PE X e te) (hl : PO X lo tl) (hu : PO X hi th) : PE X (.Subscript e (.Slice lo hi none p2) pos) (tSl r te tl th) := by
  intro pins s σ H Q I h
  refine Subscript_ (thn (he pins s σ H _ I h) fun v s1 ⟨x, H1, I1, r1, q1⟩ => ?_)
  refine wpAny_Slice (thn (hl pins s1 σ H1 _ I1 q1) fun vl s2 ⟨l, H2, I2, pl, q2⟩ => thn (hu pins s2 σ H2 _ I2 q2) fun vu s3 ⟨u, H3, I3, pu, q3⟩ => ?_)
  rw [evalPart_none]
  refine wpAny_pure ?_
  have I4 : Inv X pins σ H3 { s3 with heap := s3.heap.push { cls := .type "slice", data := .fields #[vl, vu, .none] } } := I3.kept (t' := s3.toks) fun b ob q => Heap.get?_push_of_some _ q
  obtain ⟨T, id, hT, ht, hg⟩ := hr pins { s3 with heap := s3.heap.push { cls := .type "slice", data := .fields #[vl, vu, .none] } } σ H3 x v vl vu l u s3.heap.objs.size Q I4 r1 (Heap.IsSliceOf.new ..) pl pu q3
  show wpAny (model X.prog X.w) X.A (subscriptTail e (.Slice lo hi none p2) v (.ref s3.heap.objs.size)) (EP X pins σ Q) X.xe { s3 with heap := s3.heap.push { cls := .type "slice", data := .fields #[vl, vu, .none] } }
  exact tail_any (ops := [.ref s3.heap.objs.size, v]) ht hT hg (by with_unfolding_all rfl)
def cutV (xs : List V) (lo hi : Option Int) : List V := (xs.drop (HT.sIx xs.length 0 lo)).take (HT.sIx xs.length xs.length hi - HT.sIx xs.length 0 lo)
theorem cutV_length (xs : List V) (lo hi : Option Int) : (cutV xs lo hi).length ≤ xs.length := by
  unfold cutV
  rw [List.length_take, List.length_drop]
  omega
def rSlT (K : PySem.W.Frag) : V → Option Int → Option Int → Hp → VK → Prop := fun x lo hi H Q => ∃ a xs, x = .ref a ∧ SqT K H a xs ∧
  ¬ (HT.sIx xs.length 0 lo = 0 ∧ HT.sIx xs.length xs.length hi = xs.length) ∧ ∀ p, H p = none → Q (.ref p) (upd H p (.tup (cutV xs lo hi)))
theorem sl_tup : SlR X (rSlT X.K) := by
  intro pins s σ H x v vl vu lo hi sl Q I rx hs pl pu h
  obtain ⟨a, xs, rfl, hx, hw, q⟩ := h
  cases rx
  obtain ⟨its, r, ht, hz⟩ := I.tuple hx
  have hlen : its.toArray.size = xs.length := by rw [List.size_toArray]; exact r.length.symm
  refine ⟨"tuple", _, PyProof.Rows.slot_tuple_getitem.lookup, ht.typeIs, ?_⟩
  refine HT.getItem_tuple_cut ht hs pl pu (by rw [hlen]; exact hw) ?_ (by rw [hlen]; exact hz)
  rw [hlen]
  refine ⟨.ref s.heap.objs.size, _, I.laid (t' := s.toks) (o := .tup (cutV xs lo hi)) (fun b ob q => Heap.get?_push_of_some _ q) (Nat.le_refl _) ?_, rfl, q _ (I.hok.fresh (Nat.le_refl _))⟩
  exact ⟨Nat.le_trans (cutV_length xs lo hi) hz, _, (r.drop (HT.sIx xs.length 0 lo)).take (HT.sIx xs.length xs.length hi - HT.sIx xs.length 0 lo), IsTup.new _ _⟩
end
open PySem PySem.Spec PyProof.Rows
def ixN (n : Nat) (i : Int) : Option Nat := if 0 ≤ i then (if i < n then some i.toNat else none) else if -(n : Int) ≤ i then some (i + n).toNat else none
def atI {α : Type} (xs : List α) (i : Int) : Option α := (ixN xs.length i).bind fun j => xs[j]?
theorem ixN_seq {n : Nat} {i : Int} {j : Nat} (h : ixN n i = some j) : seqIndex? i n = some j ∧ j < n ∧ -(n : Int) ≤ i ∧ i < n := by
  unfold ixN at h
  by_cases h0 : 0 ≤ i
  · rw [if_pos h0] at h
    by_cases h1 : i < n
    · rw [if_pos h1] at h
      have e : i.toNat = j := Option.some.inj h
      exact ⟨by rw [seqIndex_of h0 h1, e], by omega, by omega, h1⟩
    · rw [if_neg h1] at h; cases h
  · rw [if_neg h0] at h
    by_cases h1 : -(n : Int) ≤ i
    · rw [if_pos h1] at h
      have e : (i + n).toNat = j := Option.some.inj h
      exact ⟨by rw [seqIndex_neg (by omega) h1, e], by omega, h1, by omega⟩
    · rw [if_neg h1] at h; cases h
theorem atI_get {α : Type} {xs : List α} {i : Int} {v : α} (h : atI xs i = some v) : ∃ j, seqIndex? i xs.length = some j ∧ xs[j]? = some v ∧ j < xs.length ∧ -(xs.length : Int) ≤ i ∧ i < xs.length := by
  unfold atI at h
  cases e : ixN xs.length i with
  | none => rw [e] at h; cases h
  | some j =>
    rw [e] at h
    obtain ⟨h1, h2, h3, h4⟩ := ixN_seq e
    exact ⟨j, h1, h, h2, h3, h4⟩
theorem atI_nat {α : Type} {xs : List α} {j : Nat} {v : α} (h : xs[j]? = some v) : atI xs (j : Int) = some v := by
  have hj : j < xs.length := (List.getElem?_eq_some_iff.mp h).1
  have e : ixN xs.length (j : Int) = some j := by
    unfold ixN
    rw [if_pos (by omega), if_pos (by omega)]; simp
  unfold atI; rw [e]; exact h
def PlainIx (b : Expr) : Prop := ∀ o i, subscripted b false o i = operate [o, i] (getItem o i)
def IxR (X : Cx) (r : R2) : Prop :=
  ∀ (value slice : Expr) (pins : List (Addr × Obj)) (s : Shared) (σ : St) (H : Hp) (x y : V) (v u : Value) (Q : VK), Inv X pins σ H s → RelV x v → RelV y u → r x y H Q →
    subscripted slice false v u = operate [v, u] (getItem v u) → wpAny (model X.prog X.w) X.A (subscriptTail value slice v u) (EP X pins σ Q) X.xe s
def MtR (X : Cx) (id : String) (r : V → List V → Hp → VK → Prop) : Prop :=
  ∀ (pins : List (Addr × Obj)) (s : Shared) (σ : St) (H : Hp) (x : V) (xs : List V) (v : Value) (us : List Value) (Q : VK), Inv X pins σ H s → RelV x v → Vals xs us → r x xs H Q →
    wpAny (model X.prog X.w) X.A (call (.builtin id) (v :: us)) (EP X pins σ Q) X.xe s
section
variable {X : Cx} {a b : Expr} {ta tb : TE} {pos : Pos}
theorem pe_ix {r : R2} (hr : IxR X r) (ha : PE X a ta) (hb : PE X b tb) (hs : PlainIx b) : PE X (.Subscript a b pos) (tOp r ta tb) := by
  intro pins s σ H Q I h
  exact Subscript_ (binT ha hb I h fun v u s2 x y H2 I2 rx ry q => hr a b pins s2 σ H2 x y v u Q I2 rx ry q (hs _ _))
def rIxL (K : PySem.W.Frag) : R2 := fun x y H Q => ∃ p xs i v, x = .ref p ∧ y = .int i ∧ SqL K H p xs ∧ atI xs i = some v ∧ Q v H
def rIxT (K : PySem.W.Frag) : R2 := fun x y H Q => ∃ p xs i v, x = .ref p ∧ y = .int i ∧ SqT K H p xs ∧ atI xs i = some v ∧ Q v H
theorem ix_list : IxR X (rIxL X.K) := by
  intro value slice pins s σ H x y v u Q I rx ry h hs
  obtain ⟨p, xs, i, z, rfl, rfl, hq, he, q⟩ := h
  cases rx
  obtain ⟨t, rfl⟩ := ry
  obtain ⟨its, r, pl, hz⟩ := I.list hq
  obtain ⟨j, h1, h2, h3, h4, h5⟩ := atI_get he
  obtain ⟨w, ew, rw'⟩ := r.get h2
  have hl := r.length
  have hn := line63
  have fin : EP X pins σ Q w s := ⟨z, H, I, rw', q⟩
  by_cases h0 : 0 ≤ i
  · have hj : i.toNat = j := by
      rw [seqIndex_of h0 h5] at h1
      exact Option.some.inj h1
    exact item_listR pl.isList h0 (by omega) (by rw [hj]; simpa using ew) fin hs
  · have hj : (i + (its.toArray.size : Int)).toNat = j := by
      rw [seqIndex_neg (by omega) h4] at h1
      rw [List.size_toArray, ← hl]
      exact Option.some.inj h1
    exact subscriptTail_builtinR (x := w) pl.isList.typeIs slot_list_getitem.lookup
      (wpAny_getItem_list_neg (Q := fun r s' => r = w ∧ EP X pins σ Q r s') pl.isList (by omega) (by rw [List.size_toArray] <;> omega) (by omega) (by rw [hj]; simpa using ew) ⟨rfl, fin⟩) hs
theorem ix_tup : IxR X (rIxT X.K) := by
  intro value slice pins s σ H x y v u Q I rx ry h hs
  obtain ⟨p, xs, i, z, rfl, rfl, hq, he, q⟩ := h
  cases rx
  obtain ⟨t, rfl⟩ := ry
  obtain ⟨its, r, pl, hz⟩ := I.tuple hq
  obtain ⟨j, h1, h2, h3, h4, h5⟩ := atI_get he
  obtain ⟨w, ew, rw'⟩ := r.get h2
  have hl := r.length
  have hn := line63
  have fin : EP X pins σ Q w s := ⟨z, H, I, rw', q⟩
  exact subscriptTail_builtinR (x := w) pl.typeIs slot_tuple_getitem.lookup
    (getItem_tuple (j := j) (Q := fun r s' => r = w ∧ EP X pins σ Q r s') pl (by omega) (by omega) (by rw [List.size_toArray, ← hl]; exact h1) (by simpa using ew) ⟨rfl, fin⟩) hs
theorem mapSeq_set (its : List Value) (n j : Nat) (u : Value) : Obj.mapSeq (·.setIfInBounds j u) { cls := .type "list", data := .seq its.toArray n } = { cls := .type "list", data := .seq (its.set j u).toArray n } := by
  simp [Obj.mapSeq]
theorem Inv.lst {pins : List (Addr × Obj)} {σ : St} {H : Hp} {s : Shared} {p : Addr} {xs : List V} (I : Inv X pins σ H s) (h : H p = some (.lst xs)) :
    ∃ (its : List Value) (n : Nat), Vals xs its ∧ s.heap.get? p = some { cls := .type "list", data := .seq its.toArray n } ∧ xs.length ≤ sizeLine := by
  obtain ⟨z, its, n, r, e⟩ := I.hok p _ h
  exact ⟨its, n, r, e, z⟩
theorem Inv.lstUpd {pins : List (Addr × Obj)} {σ : St} {H : Hp} {s : Shared} {p : Addr} {xs ys : List V} {its its' : List Value} {n n' : Nat} {f : Obj → Obj} (I : Inv X pins σ H s) (h : H p = some (.lst xs))
    (ho : s.heap.get? p = some { cls := .type "list", data := .seq its.toArray n }) (hf : f { cls := .type "list", data := .seq its.toArray n } = { cls := .type "list", data := .seq its'.toArray n' }) (r : Vals ys its') (hz : ys.length ≤ sizeLine) (t : Nat) :
    Inv X pins σ (upd H p (.lst ys)) { s with heap := s.heap.update p f, toks := t } := by
  have e : (s.heap.update p f).get? p = some { cls := .type "list", data := .seq its'.toArray n' } := by
    rw [Heap.get?_update_self f ho (by rw [hf] <;> rfl), hf]
  refine I.write (x := p) (e := p) (by rw [h]; trivial) (.inl rfl) (fun b u hb q => (Heap.get?_update_other _ _ (Ne.symm hb)).trans q) ⟨_, e⟩ ?_
  exact ⟨hz, its', n', r, e⟩
def rSetL : V → V → V → Hp → (Hp → Prop) → Prop := fun o i v H Q => ∃ p xs k j, o = .ref p ∧ i = .int k ∧ H p = some (.lst xs) ∧ ixN xs.length k = some j ∧ Q (upd H p (.lst (xs.set j v)))
theorem set_list : PSet X rSetL := by
  intro pins s σ H o i v ov iv u Q I ro ri rv h
  obtain ⟨p, xs, k, j, rfl, rfl, hp, hj, q⟩ := h
  cases ro
  obtain ⟨t, rfl⟩ := ri
  obtain ⟨its, n, r, ho, hz⟩ := I.lst hp
  obtain ⟨h1, h2, h3, h4⟩ := ixN_seq hj
  have hl := r.length
  have hn := line63
  have I' : Inv X pins σ (upd H p (.lst (xs.set j v))) { s with heap := s.heap.update p (Obj.mapSeq (·.setIfInBounds j u)) } :=
    I.lstUpd hp ho (mapSeq_set its n j u) (r.set rv j) (by rw [List.length_set]; exact hz) s.toks
  by_cases h0 : 0 ≤ k
  · have hk : k.toNat = j := by
      rw [seqIndex_of h0 h4] at h1
      exact Option.some.inj h1
    exact PySem.W.ki_setAt ho h0 (by omega) (by rw [List.size_toArray, ← hl]; exact h4) (by rw [hk]; exact ⟨_, I', q⟩)
  · have hk : (k + (its.toArray.size : Int)).toNat = j := by
      rw [seqIndex_neg (by omega) h3] at h1
      rw [List.size_toArray, ← hl]
      exact Option.some.inj h1
    exact PySem.W.ki_setBack ho (by omega) (by rw [List.size_toArray, ← hl]; exact h3) (by omega) (by rw [hk]; exact ⟨_, I', q⟩)
theorem slice_bounds (lo hi : Option Int) (n : Nat) : (sliceBounds lo hi none n).1 = ((HT.sIx n 0 lo : Nat) : Int) ∧ (sliceBounds lo hi none n).2.1 = ((HT.sIx n n hi : Nat) : Int) ∧ (sliceBounds lo hi none n).2.2 = 1 := by
  refine ⟨?_, ?_, rfl⟩
  · cases lo with
    | none => simp [sliceBounds, HT.sIx]
    | some i =>
      simp only [sliceBounds, HT.sIx, Option.getD_none, show (1 : Int) > 0 by decide, if_true]
      by_cases h : i < 0
      · simp only [h, if_true] <;> omega
      · simp only [h, if_false] <;> omega
  · cases hi with
    | none => simp [sliceBounds, HT.sIx]
    | some i =>
      simp only [sliceBounds, HT.sIx, Option.getD_none, show (1 : Int) > 0 by decide, if_true]
      by_cases h : i < 0
      · simp only [h, if_true] <;> omega
      · simp only [h, if_false] <;> omega
theorem slicePick_cut (its : List Value) (lo hi : Option Int) : slicePick its.toArray lo hi none = ((its.drop (HT.sIx its.length 0 lo)).take (HT.sIx its.length its.length hi - HT.sIx its.length 0 lo)).toArray := by
  obtain ⟨h1, h2, h3⟩ := slice_bounds lo hi its.toArray.size
  unfold slicePick
  rw [h1, h2, h3]
  simp only [sliceRange_one, pick_run, List.size_toArray] <;> rfl
def rSlL (K : PySem.W.Frag) : V → Option Int → Option Int → Hp → VK → Prop := fun x lo hi H Q => ∃ a xs, x = .ref a ∧ SqL K H a xs ∧ ∀ p, H p = none → Q (.ref p) (upd H p (.lst (cutV xs lo hi)))
theorem sl_list : SlR X (rSlL X.K) := by
  intro pins s σ H x v vl vu lo hi sl Q I rx hs pl pu h
  obtain ⟨a, xs, rfl, hx, q⟩ := h
  cases rx
  obtain ⟨its, r, ht, hz⟩ := I.list hx
  have hlen := r.length
  refine ⟨"list", _, slot_list_getitem.lookup, ht.isList.typeIs, ?_⟩
  refine wpAny_getItem_list_slice ht.isList hs pl pu .none (by simp) ?_ (by rw [List.size_toArray] <;> omega)
  rw [slicePick_cut, ← hlen]
  refine ⟨.ref s.heap.objs.size, _, I.laid (t' := s.toks) (o := .lst (cutV xs lo hi)) (fun b ob q => Heap.get?_push_of_some _ q) (Nat.le_refl _) ?_, rfl, q _ (I.hok.fresh (Nat.le_refl _))⟩
  exact ⟨Nat.le_trans (cutV_length xs lo hi) hz, _, 0, (r.drop (HT.sIx xs.length 0 lo)).take (HT.sIx xs.length xs.length hi - HT.sIx xs.length 0 lo), Heap.get?_push_size _ rfl⟩
theorem call_len_seq : CallR X (.builtin "len") (fun xs H Q => ∃ p ys, xs = [.ref p] ∧ (SqL X.K H p ys ∨ SqT X.K H p ys) ∧ Q (.int ys.length) H) := by
  intro pins s σ H xs us Q I r h
  obtain ⟨p, ys, rfl, hq, q⟩ := h
  obtain ⟨u, rfl, rx⟩ := vals1 r
  cases rx
  have hn := line63
  rcases hq with hq | hq
  · obtain ⟨its, r', pl, hz⟩ := I.list hq
    have hlen := r'.length
    exact Calls.call_len_list pl.isList (by simp only [List.size_toArray] <;> omega) ⟨.int ys.length, H, I.tok _, ⟨s.toks + 1, by rw [List.size_toArray, hlen]⟩, q⟩
  · obtain ⟨its, r', pl, hz⟩ := I.tuple hq
    have hlen := r'.length
    exact len_tuple pl (by simp only [List.size_toArray] <;> omega) ⟨.int ys.length, H, I.tok _, ⟨s.toks + 1, by rw [List.size_toArray, hlen]⟩, q⟩
def tyV (K : PySem.W.Frag) (T : String) (x : V) (H : Hp) : Prop := match x with
  | .str _ => T = "str"
  | .int _ => T = "int"
  | .ref p => (T = "list" ∧ ∃ xs, SqL K H p xs) ∨ (T = "tuple" ∧ ∃ o, K.lookup p = some o ∧ o.cls = .type "tuple" ∧ o.dict = none) ∨
      (T = "dict" ∧ ((∃ kvs, H p = some (.dK kvs)) ∨ ∃ kvs, H p = some (.dT kvs))) ∨ (T = "set" ∧ ∃ S n, H p = some (.set S n))
  | _ => False
theorem tyV_is {pins : List (Addr × Obj)} {σ : St} {H : Hp} {s : Shared} {T : String} {x : V} {v : Value} (I : Inv X pins σ H s) (r : RelV x v) (ty : tyV X.K T x H) :
    s.TypeIs v T ∧ ∀ a, v = .ref a → ∃ ob, s.heap.get? a = some ob ∧ ob.dict = none := by
  cases x with
  | str z =>
    obtain ⟨t, rfl⟩ := r
    cases (show T = "str" from ty)
    exact ⟨typeIs_str s z t, fun _ e => nomatch e⟩
  | int i =>
    obtain ⟨t, rfl⟩ := r
    cases (show T = "int" from ty)
    exact ⟨typeIs_int s i t, fun _ e => nomatch e⟩
  | ref p =>
    cases r
    rcases ty with ⟨rfl, xs, hq⟩ | ⟨rfl, o, hk, hc, hd⟩ | ⟨rfl, hk⟩ | ⟨rfl, S, n, hk⟩
    · obtain ⟨its, _, pl, _⟩ := I.list hq
      refine ⟨pl.isList.typeIs, fun a e => ?_⟩
      cases e
      obtain ⟨o, n, e, c, hd, _⟩ := pl
      exact ⟨o, e, hd⟩
    · refine ⟨⟨o, I.kIn p o hk, hc⟩, fun a e => ?_⟩
      cases e
      exact ⟨o, I.kIn _ o hk, hd⟩
    · have z : ∃ o, s.heap.get? p = some o ∧ o.ExactDict := by
        rcases hk with ⟨kvs, hk⟩ | ⟨kvs, hk⟩
        · obtain ⟨_, _, _, _, o, _, _, e, ex, _⟩ := I.hok p _ hk
          exact ⟨o, e, ex⟩
        · obtain ⟨_, _, _, _, o, _, _, e, ex, _⟩ := I.hok p _ hk
          exact ⟨o, e, ex⟩
      obtain ⟨o, e, ex⟩ := z
      refine ⟨⟨o, e, ex.1⟩, fun a e2 => ?_⟩
      cases e2
      exact ⟨o, e, ex.2.1⟩
    · obtain ⟨o, _, _, _, e, ex, _⟩ := I.hok p _ hk
      refine ⟨⟨o, e, ex.1⟩, fun a e2 => ?_⟩
      cases e2
      exact ⟨o, e, ex.2.1⟩
  | _ => exact False.elim ty
def tBM (K : PySem.W.Frag) (T : String) (r : V → List V → Hp → VK → Prop) (to : TE) (t : TA) : TE := fun σ H Q => to σ H fun x H1 => tyV K T x H1 ∧ t σ H1 fun xs H2 => r x xs H2 Q
variable {o e : Expr} {es : List Expr} {to : TE} {t : TA} {name : Str} {apos cpos : Pos} {T id : String} {r : V → List V → Hp → VK → Prop}
theorem pe_bm (pa : PlainAttrs T) (slot : Slot T name id) (hty : typeOf (.builtin id) = pure (.type "method_descriptor")) (hm : MtR X id r) (ho : PE X o to) (ha : PA X (e :: es) t)
    (hbase : attributeBase o name X.env (eval o X.env) = eval o X.env := by rfl)
    (hfew : ((backTo cpos (starEach (e :: es) X.env)).all (fun x => !x.1) && (backToKw cpos (keywordEach [] X.env)).all (fun x => x.1.isSome)
      && decide ((e :: es).length + ([] : List Keyword).length + (if ([] : List Keyword).isEmpty then 0 else 1) < 30)) = true := by rfl)
    (hline : (apos.endLine == cpos.line) = true := by rfl) (hs : starEach (e :: es) X.env = (false, eval e X.env) :: starEach es X.env := by rfl) (hplain : (backTo cpos (starEach es X.env)).any (·.1) = false := by rfl) :
    PE X (.Call (.Attribute o name apos) (e :: es) [] cpos) (tBM X.K T r to t) := by
  intro pins s σ H Q I h
  refine wpAny_Call_method_late hbase hfew hline rfl (thn (ho pins s σ H _ I h) fun v s1 ⟨x, H1, I1, r1, ty, q1⟩ => ?_)
  obtain ⟨h1, h2⟩ := tyV_is I1 r1 ty
  refine ⟨T, id, pa, slot, hty, h1, h2, ?_⟩
  have hA := ha cpos pins s1 σ H1 _ I1 q1
  rw [hs] at hA ⊢
  refine Calls.callWith_builtin (by show (false || (backTo cpos (starEach es X.env)).any (·.1)) = false; rw [hplain] <;> rfl) (Calls.evalArgs_plain ?_)
  exact thn hA fun us s2 ⟨vs, H2, I2, r2, q2⟩ => hm pins s2 σ H2 x vs v us Q I2 r1 r2 q2
end
open PySem PySem.Spec PyProof.Rows
def MtM (X : Cx) (id : String) (r : V → List V → Hp → VK → Prop) : Prop :=
  ∀ (pins : List (Addr × Obj)) (s : Shared) (σ : St) (H : Hp) (x : V) (xs : List V) (v : Value) (us : List Value) (Q : VK), Inv X pins σ H s → RelV x v → Vals xs us → r x xs H Q →
    wpAny (model X.prog X.w) X.A (call (.builtin id) (v :: us)) (EP X pins σ Q) X.xe s
theorem Vals.one : ∀ {x : V} {us : List Value}, Vals [x] us → ∃ u, us = [u] ∧ RelV x u
  | _, _, .cons r .nil => ⟨_, rfl, r⟩
theorem Vals.two : ∀ {x y : V} {us : List Value}, Vals [x, y] us → ∃ u v, us = [u, v] ∧ RelV x u ∧ RelV y v
  | _, _, _, .cons r (.cons q .nil) => ⟨_, _, rfl, r, q⟩
section
variable {X : Cx} {pins : List (Addr × Obj)} {σ : St} {H : Hp} {s : Shared} {l b : Addr} {xs ys zs : List V}
theorem Inv.lset {its its' : List Value} {n : Nat} {f : Array Value → Array Value} {t' : Nat} (I : Inv X pins σ H s) (hH : H l = some (.lst xs))
    (e : s.heap.get? l = some { cls := .type "list", data := .seq its.toArray n }) (hf : f its.toArray = its'.toArray) (hv : Vals ys its') (hz : ys.length ≤ sizeLine) :
    Inv X pins σ (upd H l (.lst ys)) { s with heap := s.heap.update l (Obj.mapSeq f), toks := t' } := by
  have q := PySem.IsL.update e f
  rw [hf] at q
  refine I.write (x := l) (e := l) (by rw [hH]; exact trivial) (.inl rfl) (fun b' u hb hu => (Heap.get?_update_other s.heap (Obj.mapSeq f) (Ne.symm hb)).trans hu) ⟨_, q⟩ ?_
  exact ⟨hz, its', _, hv, q⟩
theorem Inv.lnew {its : List Value} {t' : Nat} (I : Inv X pins σ H s) (hv : Vals ys its) (hz : ys.length ≤ sizeLine) :
    Inv X pins σ (upd H s.heap.objs.size (.lst ys)) { s with heap := s.heap.push { cls := .type "list", data := .seq its.toArray }, toks := t' } :=
  I.laid (fun _ _ q => Heap.get?_push_of_some _ q) (Nat.le_refl _) ⟨hz, its, 0, hv, Heap.get?_push_size _ rfl⟩
theorem Inv.fresh (I : Inv X pins σ H s) : H s.heap.objs.size = none := I.hok.fresh (Nat.le_refl _)
theorem Inv.lstM (I : Inv X pins σ H s) (hH : H l = some (.lst xs)) : xs.length ≤ sizeLine ∧ ∃ (its : List Value) (n : Nat), Vals xs its ∧ xs.length = its.length ∧ s.heap.get? l = some { cls := .type "list", data := .seq its.toArray n } := by
  obtain ⟨z, its, n, r, e⟩ := I.hok l _ hH
  exact ⟨z, its, n, r, r.length, e⟩
theorem notLongL {n : Nat} (h : n ≤ sizeLine) : Builtin.List.listTooLong n = false := by
  unfold Builtin.List.listTooLong
  exact decide_eq_false (by omega)
end
section
variable {X : Cx}
def rAppend : V → List V → Hp → VK → Prop := fun x vs H Q => ∃ l xs y, x = .ref l ∧ vs = [y] ∧ H l = some (.lst xs) ∧ xs.length < sizeLine ∧ Q .non (upd H l (.lst (xs ++ [y])))
theorem mt_append : MtM X "list.append" rAppend := by
  intro pins s σ H x vs v us Q I rx rv h
  obtain ⟨l, xs, y, rfl, rfl, hH, hz, q⟩ := h
  cases rx
  obtain ⟨u, rfl, ru⟩ := rv.one
  obtain ⟨z, its, n, r, hl, e⟩ := I.lstM hH
  refine call_meets F.slot_list_append ⟨_, e, rfl⟩ F.entry_list_append (F.args_list_append_2 _ _) (PySem.list_append l its.toArray n u (by rw [List.size_toArray]; omega)) ⟨e, ?_⟩
  refine ⟨.non, _, I.lset (its' := its ++ [u]) hH e (by simp) (r.append (.cons ru .nil)) ?_, rfl, q⟩
  rw [List.length_append, List.length_singleton]
  omega
def rExtend : V → List V → Hp → VK → Prop := fun x vs H Q => ∃ l b xs zs, x = .ref l ∧ vs = [.ref b] ∧ H l = some (.lst xs) ∧ H b = some (.lst zs) ∧ xs.length + zs.length ≤ sizeLine ∧ Q .non (upd H l (.lst (xs ++ zs)))
theorem mt_extend : MtM X "list.extend" rExtend := by
  intro pins s σ H x vs v us Q I rx rv h
  obtain ⟨l, b, xs, zs, rfl, rfl, hH, hB, hz, q⟩ := h
  cases rx
  obtain ⟨u, rfl, ru⟩ := rv.one
  cases ru
  obtain ⟨z, its, n, r, hl, e⟩ := I.lstM hH
  obtain ⟨z2, its2, n2, r2, hl2, e2⟩ := I.lstM hB
  have hsz : its.toArray.size + its2.toArray.size ≤ sizeLine := by rw [List.size_toArray, List.size_toArray]; omega
  have hlong : ¬ (!its.toArray.isEmpty && Builtin.List.listTooLong (its.toArray.size + its2.toArray.size)) = true := by
    rw [notLongL hsz, Bool.and_false]
    exact Bool.false_ne_true
  refine call_meets F.slot_list_extend ⟨_, e, rfl⟩ F.entry_list_extend (F.args_list_extend_2 _ _)
    (AutoSeq1.list_extend_list_list_0 l its.toArray n b its2.toArray n2 hlong (by rw [List.size_toArray]; omega) (by omega)) ⟨e, e2, ?_⟩
  refine ⟨.non, _, I.lset (its' := its ++ its2) hH e (by simp) (r.append r2) ?_, rfl, q⟩
  rw [List.length_append]
  omega
def rCat : R2 := fun x y H Q => ∃ l b xs zs, x = .ref l ∧ y = .ref b ∧ H l = some (.lst xs) ∧ H b = some (.lst zs) ∧ xs.length + zs.length ≤ sizeLine ∧ ∀ p, H p = none → Q (.ref p) (upd H p (.lst (xs ++ zs)))
theorem op_cat : OpR X (binaryOp .Add) rCat := by
  intro pins s σ H x y v u Q I rx ry h
  obtain ⟨l, b, xs, zs, rfl, rfl, hH, hB, hz, q⟩ := h
  cases rx
  cases ry
  obtain ⟨z, its, n, r, hl, e⟩ := I.lstM hH
  obtain ⟨z2, its2, n2, r2, hl2, e2⟩ := I.lstM hB
  refine PySem.P.add_list e e2 ?_ (by rw [List.size_toArray, List.size_toArray]; omega)
  have ea : its.toArray ++ its2.toArray = (its ++ its2).toArray := by simp
  rw [ea]
  exact ⟨.ref _, _, I.lnew (t' := s.toks) (r.append r2) (by rw [List.length_append]; omega), rfl, q _ I.fresh⟩
end
section
variable {prog : Program} {w : World} {A : Around} {E : Value → Shared → Prop} {s : Shared}
end
section
variable {X : Cx}
end
end L2
namespace Att
open PySem PySem.W PySem.Calls PyProof.Rows
theorem ints_of_wellAll {P : Params} {h : Heap} : ∀ (ns : List Int) (vs : List Value), WellAll P h vs (ns.map WData.int) → IntsAre vs ns := by
  intro ns
  induction ns with
  | nil =>
    intro vs w
    rw [List.map_nil] at w
    cases w
    exact .nil
  | cons n ns ih =>
    intro vs w
    rw [List.map_cons] at w
    cases w with
    | cons a b =>
      cases a
      exact .cons _ _ (ih _ b)
theorem script_of {l : OpenLaw} {n : Nat} (hn : l.most = some n) {P : Params} {h : Heap} {args : List WData} {vals : List Value}
    (hpre : l.row.toRowW.claim.pre args = true) (hwl : WellAll P h vals args) :
    ∃ a vs ns, vals = [Value.ref a] ∧ args = [WData.list (ns.map WData.int)] ∧ h.get? a = some { cls := .type "list", data := .seq vs.toArray } ∧ IntsAre vs ns ∧ ns.length ≤ n := by
  have hsh : WShape.hasAll [] args [.list .int] = true := (pre_splitW hpre).1
  have hc : l.pre.holds [] { args := args } = true := (pre_splitW hpre).2
  obtain ⟨d, r, rfl, h1, h2⟩ := hasAllW_cons hsh
  obtain rfl := hasAllW_nil h2
  obtain ⟨xs, rfl, h3⟩ := hasW_list h1
  obtain ⟨ns, rfl⟩ := items_int h3
  have hlen : ns.length ≤ n := by
    unfold OpenLaw.pre at hc
    have h4 : (WTm.not (.lt (.lit (.int (n : Int))) (.len (.arg 0)))).holds [] { args := [.list (ns.map .int)] } = true := by
      have h4 := (holds_andW hc).1
      rw [hn] at h4
      exact h4
    have h5 := condW_of h4 (w_not (w_lt w_lit (w_len_list (w_arg rfl))))
    rw [List.length_map] at h5
    refine Nat.le_of_not_lt fun q => ?_
    have q' : (n : Int) < ((ns.length : Nat) : Int) := by omega
    first
      | (rw [decide_eq_true q'] at h5; exact absurd h5 (by decide))
      | (simp at h5; omega)
  cases hwl with
  | cons w1 w2 =>
    cases w2
    cases w1 with
    | list ho hall => exact ⟨_, _, ns, rfl, rfl, ho, ints_of_wellAll ns _ hall, hlen⟩
theorem post_true (l : OpenLaw) (args : List WData) : l.row.toRowW.claim.post args (.bool true) args = true :=
  postW_of (r := l.row.toRowW) (X := (true == true))
    (show WShape.has [] (.bool true) .bool = true by first | rfl | decide | simp [WShape.has, WShape.arms, WShape.armsAll])
    (show (WTm.eq .res (.lit (.bool true))).value [] { args := args, res := some (.bool true), after := args } = some (.bool (true == true)) from w_eq_bool (w_res rfl) w_lit) rfl
theorem attach_call {l : OpenLaw} {n : Nat} {q : Program} {loose : List Str} {XP : (Str → Option Value) → Heap → Prop} {YP : World → Heap → Prop} {d : DefRec}
    (hn : l.most = some n) (hdf : d.params.defaults = [])
    (call : ∀ (w : World) (s₀ s₁ : Shared) (mg mb : Str → Option Value) (fa : Addr) (o : Obj) (pm cd doc : Value) (a : Addr) (vs : List Value) (ns : List Int),
      Ground q loose [] XP w s₀ mg mb s₁.heap → YP w s₁.heap →
      s₁.heap.get? fa = some o → o.data = .func (docDef d.name d.params d.body d.scope pm cd doc) → s₁.heap.CodeRec cd d.name → mg d.name = some (.ref fa) →
      s₁.heap.get? a = some { cls := .type "list", data := .seq vs.toArray } → IntsAre vs ns → ns.length ≤ n → s₁.gens = #[] →
      codeAny (model l.prog w) callerA (.call (.ref fa) ⟨[.ref a], []⟩) (fun r s' => r = .ok (.ret (.bool true)) ∧ OldK s₁.heap s'.heap ∧ s'.os = s₁.os ∧ AllBare s'.gens) s₁) :
    WalkO q loose XP YP l.row.toRowW d [] (fun f vs => PySem.call f vs) := by
  intro w s₀ s₁ mg mb G Y fa o pm cd doc dV kV ho hd hcd hD hmg hg args vals as hpre hlay hrd hwl hlo
  obtain rfl : dV = .none := Dflts.none hD hdf
  obtain rfl : kV = .none := Dflts.noKw hD
  obtain ⟨a, vs, ns, rfl, rfl, hobj, hints, hlen⟩ := script_of hn hpre hwl
  refine enter_call (codeAny_mono (call w s₀ s₁ mg mb fa o pm cd doc a vs ns G Y ho (fd_plain hd) hcd hmg hobj hints hlen hg) fun r s' hq => ?_)
  obtain ⟨rfl, h2, h3, h4⟩ := hq
  exact ⟨.inl ⟨.bool true, .bool true, [], rfl, fun _ => rfl, .bool true, post_true l _, fun _ => ⟨List.Pairwise.nil, fun _ hm => (nomatch hm)⟩⟩, h2, h3, h4⟩
section
variable {prog : Program} {w : World} {A : Around} {E : Value → Shared → Prop} {s : Shared} {K : Frag}
end
end Att
namespace L2
open PySem PySem.Spec PyProof.Rows
theorem vals_ints : ∀ {vs : List Value} {ns : List Int}, IntsAre vs ns → Vals (ns.map V.int) vs
  | _, _, .nil => .nil
  | _, _, .cons n t h => .cons ⟨t, rfl⟩ (vals_ints h)
def Only (H : Hp) : Prop := ∀ b, H b = none ∨ ∃ o xs, H b = some (.frz o (.lst xs))
theorem law_call {P : Program} {w : World} {K : PySem.W.Frag} {mg mb : Str → Option Value} {CX : CXT} {k : Nat} {fa a : Addr} {fd : FuncData} {x : Str} {sp : Sp} {s₁ : Shared} {vs : List Value} {ns : List Int}
    (KX : K.In s₁.heap) (hns : s₁.heap.Ns mainGlobals mg) (hb : s₁.heap.Ns builtinsNs mb) (hbb : ∀ x : Str, x ≠ "__name__" → mb x = bootBuiltins x) (hlim : s₁.heap.NoLimit) (hg : s₁.gens = #[])
    (ha : s₁.heap.get? a = some { cls := .type "list", data := .seq vs.toArray }) (hi : IntsAre vs ns) (hl : ns.length ≤ sizeLine) (hr : Room k callerA)
    (F : ∀ base : Heap, K.In base → base.Ns mainGlobals mg → FnOk P w K mg base CX k fa fd [x] sp) (hbind : ∀ (s : Shared) (u : Value), BindsTo s fd ⟨[u], []⟩ [(x, u)])
    (hsp : ∀ H : Hp, Only H → SqL K H a (ns.map V.int) → sp [.ref a] H (fun v _ => v = .bl true) fun _ _ _ => False)
    (hCX : ∀ H e s', CX [] H s₁ (fun _ _ _ => False) e s' → False) :
    codeAny (model P w) callerA (.call (.ref fa) ⟨[.ref a], []⟩) (fun r s' => r = .ok (.ret (.bool true)) ∧ OldK s₁.heap s'.heap ∧ s'.os = s₁.os ∧ AllBare s'.gens) s₁ := by
  have rv := vals_ints hi
  have lenV := hi.length
  have core : ∀ H : Hp, Only H → SqL K H a (ns.map V.int) → HOk P w H s₁.heap → (∀ b, H b ≠ none → b = a) → (H a ≠ none → K.lookup a = none) →
      codeAny (model P w) callerA (.call (.ref fa) ⟨[.ref a], []⟩) (fun r s' => r = .ok (.ret (.bool true)) ∧ OldK s₁.heap s'.heap ∧ s'.os = s₁.os ∧ AllBare s'.gens) s₁ := by
    intro H hO hS hok hA hK
    have base_of : ∀ {b : Addr} {o : Obj}, s₁.heap.get? b = some o → H b = none → (hidT s₁.heap H).get? b = some o := fun e n => hidT_get e n
    have noA : ∀ {b : Addr} {o : Obj} {es : Array DictEntry} {ep : Nat}, s₁.heap.get? b = some o → o.data = .dict es ep → H b = none := fun {b o es ep} e d => by
      cases q : H b with
      | none => rfl
      | some u =>
        have e' : b = a := hA b (by rw [q]; simp)
        subst e'
        rw [ha] at e; cases e
        have d' : Data.seq vs.toArray _ = Data.dict es ep := d
        cases d'
    have nsK : ∀ {b : Addr} {m : Str → Option Value}, s₁.heap.Ns b m → (hidT s₁.heap H).Ns b m := fun {b m} ⟨o, es, ep, e, d, r⟩ => ⟨o, es, ep, base_of e (noA e d), d, r⟩
    have hKb : K.In (hidT s₁.heap H) := fun b o e => base_of (KX b o e) (by
      cases q : H b with
      | none => rfl
      | some u =>
        have e' : b = a := hA b (by rw [q]; simp)
        subst e'
        rw [hK (by rw [q]; simp)] at e; cases e)
    have hM : Mod K mg (hidT s₁.heap H) := ⟨hKb, nsK hns, ⟨mb, nsK hb, hbb⟩, let ⟨mc, h1, h2⟩ := hlim; ⟨mc, nsK h1, h2⟩⟩
    have e0 : Env0 P w K mg (hidT s₁.heap H) callerA [] s₁ H := ⟨rfl, hM, fun b o e => of_hidT e, Nat.le_of_eq (hidT_size _ _), trivial, fun b hb => absurd (show b ∈ ([] : List Addr) from hb) (by simp), hok, .of_eq hg⟩
    refine codeAny_mono ((F _ hKb (nsK hns)).run callerA [] s₁ H ⟨[.ref a], []⟩ [.ref a] [.ref a] _ _ hr e0 (hbind s₁ (.ref a)) (.cons rfl .nil) (hsp H hO hS)) fun r s' h => ?_
    cases r with
    | error e => exact (hCX H e s' h).elim
    | ok fl =>
      cases fl with
      | next => exact False.elim h
      | brk => exact False.elim h
      | cont => exact False.elim h
      | ret u =>
        obtain ⟨v, H', os, bare, un, hok', r', q⟩ := h
        have q' : v = .bl true := q
        subst q'
        obtain rfl : u = Value.bool true := r'
        refine ⟨rfl, OldK.of_keep fun b o e => ?_, os, bare⟩
        cases q : H b with
        | none => exact un.keep b o e q (by intro z; exact absurd (show b ∈ ([] : List Addr) from z) (by simp)) (by simp)
        | some u =>
          rcases hO b with z | ⟨ob, xs, z⟩
          · rw [q] at z; cases z
          · have z2 := un.frzs b ob _ z
            obtain ⟨e1, _⟩ := hok b _ z
            obtain ⟨e2, _⟩ := hok' b _ z2
            rw [e] at e1; cases e1
            exact e2
  cases hk : K.lookup a with
  | some o =>
    have e := KX a o hk
    rw [ha] at e
    cases e
    refine core (fun _ => none) (fun _ => .inl rfl) (.inr ⟨_, vs.toArray, _, hk, rfl, rfl, rfl, by rw [List.size_toArray, lenV]; exact hl, by simpa using rv⟩) (fun b u z => by have z' : (none : Option HO) = some u := z; cases z') (fun b z => absurd rfl z) fun z => absurd rfl z
  | none =>
    refine core (fun b => if b = a then some (.frz { cls := .type "list", data := .seq vs.toArray } (.lst (ns.map V.int))) else none) (fun b => ?_) (.inl (.inr ⟨{ cls := .type "list", data := .seq vs.toArray }, if_pos rfl⟩)) (fun b u z => ?_) (fun b z => ?_) fun _ => hk
    · by_cases hb : b = a
      · exact .inr ⟨_, _, if_pos hb⟩
      · exact .inl (if_neg hb)
    · by_cases hb : b = a
      · have z' := (if_pos hb).symm.trans z
        cases z'
        subst hb
        exact ⟨ha, by rw [List.length_map]; exact hl, vs, _, rv, ha⟩
      · have z' := (if_neg hb).symm.trans z
        cases z'
    · by_cases hb : b = a
      · exact hb
      · exact absurd (if_neg hb) z
open PySem PySem.Spec PyProof.Rows
theorem walk_of {l : PySem.W.OpenLaw} {n k : Nat} {q : Program} {loose : List Str} {XP : (Str → Option Value) → Heap → Prop} {YP : World → Heap → Prop} {d : DefRec} {K : Params → PySem.W.Frag} {CX : World → CXT} {sp : World → Sp} {x : Str}
    (hn : l.most = some n) (hn2 : n ≤ sizeLine) (hdf : d.params.defaults = []) (hr : Room k callerA)
    (hY : ∀ (w : World) (h : Heap), YP w h → (K w.params).In h)
    (F : ∀ (w : World) (mg : Str → Option Value) (fa : Addr) (h : Heap), (K w.params).In h → h.Ns mainGlobals mg → mg d.name = some (.ref fa) →
      ∃ fd : FuncData, (∀ (s : Shared) (u : Value), BindsTo s fd ⟨[u], []⟩ [(x, u)]) ∧
        ∀ base : Heap, (K w.params).In base → base.Ns mainGlobals mg → FnOk l.prog w (K w.params) mg base (CX w) k fa fd [x] (sp w))
    (hsp : ∀ (w : World) (H : Hp) (a : Addr) (ns : List Int), ns.length ≤ n → Only H → SqL (K w.params) H a (ns.map V.int) → sp w [.ref a] H (fun v _ => v = .bl true) fun _ _ _ => False)
    (hCX : ∀ (w : World) (H : Hp) (s : Shared) (e : Value) (s' : Shared), CX w [] H s (fun _ _ _ => False) e s' → False) :
    PySem.W.WalkO q loose XP YP l.row.toRowW d [] (fun f vs => PySem.call f vs) := by
  refine Att.attach_call hn hdf fun w s₀ s₁ mg mb fa o pm cd doc a vs ns G Y ho hd hcd hmg hobj hints hlen hg => ?_
  have KX := hY w _ Y
  obtain ⟨fd, hb, hF⟩ := F w mg fa _ KX G.T.g hmg
  exact law_call KX G.T.g G.T.b G.T.builtins G.T.nolimit hg hobj hints (Nat.le_trans hlen hn2) hr hF hb (fun H hO hS => hsp w H a ns hlen hO hS) fun H e s' => hCX w H s₁ e s'
open PySem PySem.Spec PyProof.Rows
def defArgs (s : Stmt) : Arguments := match s with
  | .FunctionDef _ a _ _ _ _ _ _ _ _ => a
  | _ => { posonlyargs := [], args := [], vararg := none, kwonlyargs := [], kw_defaults := [], kwarg := none, defaults := [] }
def defBody (s : Stmt) : List Stmt := match s with
  | .FunctionDef _ _ b _ _ _ _ _ _ _ => b
  | _ => []
def defScope (s : Stmt) : Scope := match s with
  | .FunctionDef _ _ _ _ _ _ sc _ _ _ => sc
  | _ => { kind := .function, names := [], isGenerator := false, isCoroutine := false }
abbrev CX0 : CXT := fun _ _ _ _ _ _ => False
abbrev E0 : XK := fun _ _ _ => False
theorem pass0 {X : Cx} : Passes CX0 X E0 := fun _ _ _ _ _ _ _ h => h.elim
structure Fun (K : PySem.W.Frag) (x qual : Str) (st : Stmt) (f : Addr) (fd : FuncData) : Prop where
  ex : ∃ (oc : Value) (od : Option Addr) (kV doc pm : Value) (an : Option Addr) (cdv ct : Value) (osl : Array (Option Value)),
    fd = PySem.W.fnOf x qual (defArgs st) (defBody st) (defScope st) .none kV doc pm an cdv ct ∧ K.lookup f = some ⟨oc, od, .func fd, osl⟩ ∧ PySem.W.codeIn K cdv qual = true
  kp : PySem.W.keepIn K (.ref f) = true
section
variable {P : Program} {w : World} {K : PySem.W.Frag} {mg : Str → Option Value} {base : Heap}
theorem Fun.ok {x qual : Str} {st : Stmt} {f : Addr} {fd : FuncData} {N ps : List Str} {k : Nat} {sp : Sp} (F : Fun K x qual st f fd) (S : FnScope N ps (defScope st)) (len : ∀ vs H Q E, sp vs H Q E → vs.length = ps.length)
    (hbody : ∀ (cdv : Value) (A : Around) (outer : List Env) (s : Shared) (H : Hp) (vs : List V) (Q : VK) (E : XK), Room k (A.deeper (envOfC qual (defScope st) s.heap.objs.size f cdv)) → sp vs H Q E →
      ∃ t, PSs (cxOf CX0 P w K mg base N qual (defScope st) f cdv A outer s H E).nox (defBody st) t ∧ t { nx := fun _ H' => Q .non H', rt := Q } (start N vs) H) : FnOk P w K mg base CX0 (k + 1) f fd ps sp := by
  obtain ⟨oc, od, kV, doc, pm, an, cdv, ct, osl, rfl, lk, hcd⟩ := F.ex
  refine fn_of lk hcd S len fun A outer s H vs Q E hr hsp => ?_
  obtain ⟨t, h, q⟩ := hbody cdv A outer s H vs Q E hr hsp
  exact ⟨t, h.nox, q⟩
theorem Fun.binds {x qual : Str} {st : Stmt} {f : Addr} {fd : FuncData} {ps : List Str} (F : Fun K x qual st f fd)
    (h : ∀ (kV doc pm : Value) (an : Option Addr) (cdv ct : Value) (us : List Value), us.length = ps.length → bindArgs (PySem.W.fnOf x qual (defArgs st) (defBody st) (defScope st) .none kV doc pm an cdv ct) ⟨us, []⟩ = pure (ps.zip us)) : Binds K fd ps [] := by
  obtain ⟨oc, od, kV, doc, pm, an, cdv, ct, osl, rfl, lk, hcd⟩ := F.ex
  exact .all (h kV doc pm an cdv ct)
theorem fun_mk {x qual : Str} {st : Stmt} {f : Addr} {oc : Value} {od an : Option Addr} {osl : Array (Option Value)} {kV doc pm cdv ct : Value} (l : K.lookup f = some ⟨oc, od, .func (PySem.W.fnOf x qual (defArgs st) (defBody st) (defScope st) .none kV doc pm an cdv ct), osl⟩)
    (c : PySem.W.codeIn K cdv qual = true) (k : PySem.W.keepIn K (.ref f) = true) : Fun K x qual st f (PySem.W.fnOf x qual (defArgs st) (defBody st) (defScope st) .none kV doc pm an cdv ct) := ⟨⟨oc, od, kV, doc, pm, an, cdv, ct, osl, rfl, l, c⟩, k⟩
end
theorem small1000 {n : Nat} (h : n ≤ 1000) : n < sizeLine := Nat.lt_of_le_of_lt h (by decide)
section
variable {X : Cx}
theorem pv (i : Nat) {x : Str} {pos : Pos} (hN : X.N[i]? = some x := by rfl) (hv : Vis X.env.scope x := by first | exact Or.inl rfl | exact Or.inr (Or.inl rfl) | exact Or.inr (Or.inr rfl)) (hd : (x == ("__debug__" : Str)) = false := by decide)
    (hcd : (x == ("__classdict__" : Str)) = false := by decide) : PE X (.Name x pos) (tVar i) := pe_var hN hv hd hcd
end
theorem iteF {A B : Prop} (h : B) : if false = true then A else B := by
  rw [if_neg Bool.false_ne_true]
  exact h
theorem iteT {A B : Prop} (h : A) : if true = true then A else B := by
  rw [if_pos rfl]
  exact h
theorem ite2 {c A B : Prop} [Decidable c] (h1 : c → A) (h2 : ¬ c → B) : if c then A else B := by
  by_cases h : c
  · rw [if_pos h]
    exact h1 h
  · rw [if_neg h]
    exact h2 h
def Same (H H' : Hp) : Prop := ∀ b o, H b = some o → H' b = some o
theorem Same.refl (H : Hp) : Same H H := fun _ _ h => h
theorem Same.trans {H H1 H2 : Hp} (a : Same H H1) (b : Same H1 H2) : Same H H2 := fun c o h => b c o (a c o h)
theorem Same.free {H H' : Hp} (e : Same H H') {l : Addr} (h : H' l = Option.none) : H l = Option.none := by
  cases q : H l with
  | none => rfl
  | some o =>
    rw [e l o q] at h
    cases h
theorem Same.seq {K : PySem.W.Frag} {H H' : Hp} {a : Addr} {xs : List V} (e : Same H H') (h : SqL K H a xs) : SqL K H' a xs := by
  rcases h with (h | ⟨o, h⟩) | h
  · exact .inl (.inl (e _ _ h))
  · exact .inl (.inr ⟨o, e _ _ h⟩)
  · exact .inr h
end L2
set_option Elab.async false
set_option linter.all false
set_option maxRecDepth 100000
set_option maxHeartbeats 4000000
namespace L2
open PySem PySem.Spec PyProof.Rows
def Cx.comp (X : Cx) (N' : List Str) (scope : Scope) (cl : List (Str × Addr)) (C : Addr) (s2 : Shared) (H2 : Hp) (ex : List Addr) : Cx :=
  { X with N := N', s₀ := s2, H₀ := H2, env := compEnvC scope cl C X.env, outer := X.stack, ex := ex, fn := fun _ => false, pn := [], xe := fun _ _ => False }
theorem closure_go {env : Env} : ∀ (names : List (Str × NameKind)) (acc : List (Str × Addr)), (∀ y ∈ names, y.2 = .free → ∃ c, env.cells.lookup y.1 = some c) →
    (∀ x c, acc.lookup x = some c → env.cells.lookup x = some c) →
    ∃ cl, (forIn names acc fun (x : Str × NameKind) (cs : List (Str × Addr)) => (match x with
      | (name, kind) => if (kind == NameKind.free) = true then do let c ← cellOf env name; pure (ForInStep.yield ((name, c) :: cs)) else pure (ForInStep.yield cs) : Sem (ForInStep (List (Str × Addr))))) = pure cl ∧
      (∀ x c, cl.lookup x = some c → env.cells.lookup x = some c) ∧ (∀ x c, acc.lookup x = some c → cl.lookup x = some c) ∧
      (∀ x, (x, NameKind.free) ∈ names → ∃ c, cl.lookup x = some c)
  | [], acc, _, h2 => ⟨acc, rfl, h2, fun _ _ h => h, fun _ h => nomatch h⟩
  | (n, k) :: r, acc, h1, h2 => by
    rw [List.forIn_cons]
    dsimp only
    by_cases hk : (k == NameKind.free) = true
    · have hk' : k = NameKind.free := by simpa using hk
      obtain ⟨c, hc⟩ := h1 (n, k) List.mem_cons_self hk'
      have e : cellOf env n = pure c := by unfold cellOf; rw [hc]
      obtain ⟨cl, e1, e2, e3, e4⟩ := closure_go r ((n, c) :: acc) (fun y hy => h1 y (List.mem_cons_of_mem _ hy)) (fun x d hd => by
        rw [List.lookup_cons] at hd
        cases hx : x == n with
        | true =>
          rw [hx] at hd
          have : x = n := by simpa using hx
          subst this
          cases hd
          exact hc
        | false =>
          rw [hx] at hd
          exact h2 x d hd)
      have self : cl.lookup n = some c := e3 n c (by rw [List.lookup_cons]; simp)
      refine ⟨cl, ?_, e2, fun x d hd => ?_, fun x hx => ?_⟩
      · rw [if_pos hk, e, pure_bind, pure_bind]
        exact e1
      · by_cases hx : x = n
        · subst hx
          have := h2 x d hd
          rw [hc] at this
          cases this
          exact self
        · exact e3 x d (by rw [List.lookup_cons]; simp only [show (x == n) = false by simpa using hx]; exact hd)
      · rcases List.mem_cons.mp hx with z | z
        · cases z
          exact ⟨c, self⟩
        · exact e4 x z
    · obtain ⟨cl, e1, e2, e3, e4⟩ := closure_go r acc (fun y hy => h1 y (List.mem_cons_of_mem _ hy)) h2
      refine ⟨cl, ?_, e2, e3, fun x hx => ?_⟩
      · rw [if_neg hk, pure_bind]
        exact e1
      · rcases List.mem_cons.mp hx with z | z
        · cases z
          exact absurd rfl hk
        · exact e4 x z
theorem closure_of {scope : Scope} {env : Env} (h : ∀ y ∈ scope.names, y.2 = .free → ∃ c, env.cells.lookup y.1 = some c) :
    ∃ cl, closureFor scope env = pure cl ∧ (∀ x c, cl.lookup x = some c → env.cells.lookup x = some c) ∧ (∀ x, (x, NameKind.free) ∈ scope.names → ∃ c, cl.lookup x = some c) := by
  obtain ⟨cl, e1, e2, e3, e4⟩ := closure_go (env := env) scope.names [] h (fun x c hc => by simp at hc)
  refine ⟨cl, ?_, e2, e4⟩
  unfold closureFor
  simp only [bind_pure]
  exact e1
theorem relabel_lookup {env : Env} {x : Str} {k : NameKind} : ∀ {names : List (Str × NameKind)},
    (names.map fun (n, k) => if (k == NameKind.free && env.scope.kind == .function && env.kindOf n == some .cell) then (n, NameKind.cell) else (n, k)).lookup x = some k →
    ∃ k', names.lookup x = some k' ∧ (k' = k ∨ k' = .free ∧ k = .cell)
  | [], h => by simp at h
  | (n, j) :: r, h => by
    rw [List.map_cons] at h
    dsimp only at h
    have ih := @relabel_lookup env x k r
    by_cases hc : (j == NameKind.free && env.scope.kind == .function && env.kindOf n == some .cell) = true
    · rw [if_pos hc, List.lookup_cons] at h
      rw [List.lookup_cons]
      cases hx : x == n with
      | true =>
        rw [hx] at h
        cases h
        simp only [Bool.and_eq_true] at hc
        exact ⟨j, rfl, .inr ⟨by simpa using hc.1.1, rfl⟩⟩
      | false =>
        rw [hx] at h
        exact ih h
    · rw [if_neg hc, List.lookup_cons] at h
      rw [List.lookup_cons]
      cases hx : x == n with
      | true =>
        rw [hx] at h
        cases h
        exact ⟨_, rfl, .inl rfl⟩
      | false =>
        rw [hx] at h
        exact ih h
theorem relabel_free {env : Env} {x : Str} : ∀ {names : List (Str × NameKind)}, names.lookup x = some .free →
    (names.map fun (n, k) => if (k == NameKind.free && env.scope.kind == .function && env.kindOf n == some .cell) then (n, NameKind.cell) else (n, k)).lookup x = some .cell ∨
    (names.map fun (n, k) => if (k == NameKind.free && env.scope.kind == .function && env.kindOf n == some .cell) then (n, NameKind.cell) else (n, k)).lookup x = some .free
  | [], h => by simp at h
  | (n, j) :: r, h => by
    rw [List.map_cons]
    dsimp only
    have ih := @relabel_free env x r
    rw [List.lookup_cons] at h
    by_cases hc : (j == NameKind.free && env.scope.kind == .function && env.kindOf n == some .cell) = true
    · rw [if_pos hc, List.lookup_cons]
      cases hx : x == n with
      | true => exact .inl rfl
      | false => rw [hx] at h; exact ih h
    · rw [if_neg hc, List.lookup_cons]
      cases hx : x == n with
      | true => rw [hx] at h; cases h; exact .inr rfl
      | false => rw [hx] at h; exact ih h
theorem compLoop_any {prog : Program} {w : World} {A : Around} {R : Result → Shared → Prop} {s : Shared} {elt target iter : Expr} {ifs : List Expr} {scope : Scope} {pos : Pos} {it acc : Value} {env : Env} (I : Nat → Shared → Prop)
    (turn : ∀ n s, I n s → wpAny (model prog w) A (pyNext it) (fun r s₁ => match r with
      | none => R (.ok .next) s₁
      | some v => wpAny (model prog w) A (letOwnedTupleGo target it v) (fun _ s₁' => wpAny (model prog w) A (assign target env v) (fun _ s₂ =>
          wpAny (model prog w) A (forIn ifs true fun c r => if r = true then do let ok ← isTrue c env (eval c env); pure (ForInStep.yield ok) else pure (ForInStep.yield r)) (fun ok s₃ =>
            if ok = true then wpAny (model prog w) A (eval elt env) (fun x s₄ =>
              wpAny (model prog w) A (call (.builtin "list.append") [acc, x]) (fun _ s₅ => ∃ m, m < n ∧ I m s₅) (fun _ _ => False) s₄) (fun _ _ => False) s₃
            else ∃ m, m < n ∧ I m s₃) (fun _ _ => False) s₂) (fun _ _ => False) s₁') (fun _ _ => False) s₁) (fun _ _ => False) s)
    (n : Nat) (h : I n s) :
    codeAny (model prog w) A (.compLoop (.ListComp elt [⟨target, iter, ifs, 0⟩] scope pos) 0 it acc env) R s := by
  refine codeAny_loop rfl I (fun n s hI => ?_) n h
  show wpAny _ A ((compTurn (.ListComp elt [⟨target, iter, ifs, 0⟩] scope pos) 0 it acc env).onRaise (fun x => do noteFrame x env; theTreesLotGoes x)) _ _ s
  refine wpAny_noted ?_
  rw [compTurn_list]
  refine wpAny_bind (wpAny_standAt (wpAny_bind (wpAny_mono (turn n s hI) (fun r s₁ h₁ => ?_) fun _ _ h' => h'.elim)))
  cases r with
  | none => exact wpAny_pure h₁
  | some v =>
    refine wpAny_bind (wpAny_mono h₁ (fun _ s₁' h₁' => ?_) fun _ _ h' => h'.elim)
    refine wpAny_bind (wpAny_mono h₁' (fun _ s₂ h₂ => wpAny_bind (wpAny_mono h₂ (fun ok s₃ h₃ => ?_) fun _ _ h' => h'.elim)) fun _ _ h' => h'.elim)
    cases ok with
    | false => exact wpAny_pure ⟨rfl, h₃⟩
    | true =>
      exact wpAny_bind (wpAny_bind (wpAny_mono h₃ (fun x s₄ h₄ => wpAny_bind (wpAny_mono h₄ (fun _ s₅ h₅ => wpAny_pure (wpAny_pure ⟨rfl, h₅⟩)) fun _ _ h' => h'.elim)) fun _ _ h' => h'.elim))
end L2
set_option Elab.async false
set_option linter.all false
set_option maxRecDepth 100000
set_option maxHeartbeats 4000000
namespace L2
open PySem PySem.Spec PyProof.Rows
def pick (σ : St) : Option Nat → Option V
  | none => none
  | some i => (σ[i]?).getD none
theorem pick_some {σ : St} {j : Nat} {v : V} (h : pick σ (some j) = some v) : σ[j]? = some (some v) := by
  have h : (σ[j]?).getD none = some v := h
  cases e : σ[j]? with
  | none => rw [e] at h; cases h
  | some o => rw [e] at h; exact congrArg some h
def compOk (osc scope : Scope) (N Nb : List Str) (ix : List (Option Nat)) : Bool :=
  decide (scope.kind = .function) && scope.names.all (fun y => decide (y.2 ≠ .cell)) &&
  scope.names.all (fun y => decide (y.2 = .local → scope.names.lookup y.1 = some .local)) &&
  scope.names.all (fun y => decide (y.2 = .free → osc.names.lookup y.1 = some .cell ∨ osc.names.lookup y.1 = some .free)) &&
  decide (ix.length = Nb.length) &&
  (List.range Nb.length).all (fun i => match ix[i]? with
    | some (some j) => match Nb[i]? with
      | some x => decide (N[j]? = some x ∧ scope.names.lookup x = some .free)
      | none => true
    | _ => true)
structure CompOk (osc scope : Scope) (N Nb : List Str) (ix : List (Option Nat)) : Prop where
  kind : scope.kind = .function
  nocell : ∀ y ∈ scope.names, y.2 ≠ .cell
  names : ∀ y ∈ scope.names, y.2 = .local → scope.names.lookup y.1 = some .local
  fr : ∀ y ∈ scope.names, y.2 = .free → osc.names.lookup y.1 = some .cell ∨ osc.names.lookup y.1 = some .free
  len : ix.length = Nb.length
  src : ∀ (i j : Nat) (x : Str), Nb[i]? = some x → ix[i]? = some (some j) → N[j]? = some x ∧ scope.names.lookup x = some .free
theorem compOk_of {osc scope : Scope} {N Nb : List Str} {ix : List (Option Nat)} (h : compOk osc scope N Nb ix = true) : CompOk osc scope N Nb ix := by
  unfold compOk at h
  simp only [Bool.and_eq_true] at h
  obtain ⟨⟨⟨⟨⟨h1, h2⟩, h3⟩, h4⟩, h5⟩, h6⟩ := h
  refine ⟨of_decide_eq_true h1, fun y hy => of_decide_eq_true (List.all_eq_true.mp h2 y hy), fun y hy => of_decide_eq_true (List.all_eq_true.mp h3 y hy), fun y hy => of_decide_eq_true (List.all_eq_true.mp h4 y hy), of_decide_eq_true h5, fun i j x e1 e2 => ?_⟩
  have hi : i < Nb.length := (List.getElem?_eq_some_iff.mp e1).1
  have q := List.all_eq_true.mp h6 i (List.mem_range.mpr hi)
  rw [e2] at q
  simp only [e1] at q
  exact of_decide_eq_true q
def PIfs (X : Cx) (ifs : List Expr) (t : TT) : Prop :=
  ∀ (pins : List (Addr × Obj)) (s : Shared) (σ : St) (H : Hp) (Q : Bool → Hp → Prop), Inv X pins σ H s → t σ H Q →
    wpAny (model X.prog X.w) X.A (forIn ifs true fun c r => if r = true then do let ok ← isTrue c X.env (eval c X.env); pure (ForInStep.yield ok) else pure (ForInStep.yield r)) (TP X pins σ Q) X.xe s
def tTrue : TT := fun _ H Q => Q true H
theorem pifs_nil {X : Cx} : PIfs X [] tTrue := fun _ _ _ H _ I h => wpAny_tests_nil ⟨H, I, h⟩
theorem pifs_one {X : Cx} {c : Expr} {t : TT} (h : PT X c t) : PIfs X [c] t := fun pins s σ H Q I hq => wpAny_tests_one (h pins s σ H Q I hq)
def CompRun (J : It) (g : TG) (tc : TT) (te : TE) (σ0 : St) (H1 : Hp) (Q : VK) : Prop := ∀ D, H1 D = none →
  ∃ W : Nat → Nat → List V → St → Hp → Prop, (∃ m, W 0 m [] σ0 (upd H1 D (.lst []))) ∧
    ∀ i m ys σ' H', W i m ys σ' H' → H' D = some (.lst ys) ∧ ((J.stop i H' ∧ Q (.ref D) H') ∨ (J.go i H' ∧ ∀ x H2, J.yld i H' x H2 → g x σ' H2 fun σ2 H3 => tc σ2 H3 fun b H4 =>
      if b = true then te σ2 H4 fun y H5 => H5 D = some (.lst ys) ∧ ys.length < sizeLine ∧ ∃ m', m' < m ∧ W (i + 1) m' (ys ++ [y]) σ2 (upd H5 D (.lst (ys ++ [y])))
      else ∃ m', m' < m ∧ W (i + 1) m' ys σ2 H4))
def tComp (wi : TI) (g : TG) (tc : TT) (te : TE) (ix : List (Option Nat)) : TE := fun σ H Q => wi σ H fun J H1 => CompRun J g tc te (ix.map (pick σ)) H1 Q
section
variable {X : Cx} {N' : List Str} {scope osc : Scope} {cl : List (Str × Addr)} {C : Addr} {ex : List Addr} {ix : List (Option Nat)} {pins : List (Addr × Obj)} {σ : St} {H2 : Hp} {s2 : Shared}
theorem comp_ok (I2 : Inv X pins σ H2 s2) (K : CompOk X.env.scope scope X.N N' ix) (e2 : ∀ x c, cl.lookup x = some c → X.env.cells.lookup x = some c) (e3 : ∀ x, (x, NameKind.free) ∈ scope.names → ∃ c, cl.lookup x = some c)
    (hC : s2.heap.objs.size ≤ C) (f2 : ∀ b ∈ ex, FpOk X pins H2 b) (hex : ∀ b ∈ ex, b < s2.heap.objs.size) : (X.comp N' scope cl C s2 H2 ex).Ok where
  mod := I2.ok.mod
  kind := K.kind
  glob := I2.ok.glob
  blt := I2.ok.blt
  above := hC
  inj := fun x y c h1 h2 => I2.ok.inj x y c (e2 x c h1) (e2 y c h2)
  has := fun x hx => by
    have key : ∀ k, (relabel scope X.env).names.lookup x = some k → k = .cell ∨ k = .free → ∃ c, cl.lookup x = some c := fun k hk hk2 => by
      obtain ⟨k', h1, h2⟩ := relabel_lookup hk
      have hm := PySem.mem_of_lookup h1
      rcases h2 with rfl | ⟨rfl, rfl⟩
      · rcases hk2 with rfl | rfl
        · exact absurd rfl (K.nocell _ hm)
        · exact e3 x hm
      · exact e3 x hm
    rcases hx with hx | hx
    · exact key _ hx (.inl rfl)
    · exact key _ hx (.inr rfl)
  cab := fun x c h => by cases h
  hd := I2.ok.hd
  frames := I2.ok.frames
  stk := .inl rfl
  exf := fun b hb => ⟨Nat.ne_of_lt (Nat.lt_of_lt_of_le (hex b hb) hC), fun x c h => (f2 b hb).2.2.2.2.1 x c (e2 x c h)⟩
  bs := I2.bs
  bsz := Nat.le_trans I2.ok.bsz I2.sz
  noex := fun b o e hb => by
    rcases (f2 b hb).2.2.2.1 with z | z
    · exact I2.ok.noex b o e z
    · exact absurd (Nat.lt_of_lt_of_le (Heap.lt_size (I2.ok.bs b o e).1) z) (Nat.lt_irrefl _)
  exfs := fun b hb hf => by
    rcases List.mem_cons.mp (I2.stkSub b hf) with z | z
    · exact (f2 b hb).2.1 z
    · exact (f2 b hb).2.2.1 z
  funs := I2.stack
  frf := I2.stkFree
theorem comp_out (I2 : Inv X pins σ H2 s2) (f2 : ∀ b ∈ ex, FpOk X pins H2 b) (hC : s2.heap.objs.size ≤ C) {σ3 : St} {H3 : Hp} {s4 : Shared} {h' : Heap}
    (J : Inv (X.comp N' scope cl C s2 H2 ex) [] σ3 H3 s4) (sb : Heap.SameBut C s4.heap h') : Inv X pins σ H3 { s4 with heap := h' } := by
  have ne : ∀ b o, s2.heap.get? b = some o → b ≠ C := fun b o e => Nat.ne_of_lt (Nat.lt_of_lt_of_le (Heap.lt_size e) hC)
  have B := J.base
  have fr : H3 C = none := J.free
  refine I2.call' (s' := { s4 with heap := h' }) (ch := ex) J.os ⟨fun b o e n hb hx => ?_, fun b o e n hb hx => ?_, B.free, fun b o e hx => ?_, B.tups, B.frzs, B.tbls⟩ ?_ J.bare fun b hb => ?_
  · exact (sb.2 b (ne b o e)).trans (B.keep b o e n hb hx)
  · obtain ⟨sl, q⟩ := B.slot b o e n hb hx
    exact ⟨sl, (sb.2 b (ne b o e)).trans q⟩
  · obtain ⟨o', q⟩ := B.there b o e hx
    exact ⟨o', (sb.2 b (ne b o e)).trans q⟩
  · intro b ob e
    refine (J.hok b ob e).stay (fun c w' hc q => (sb.2 c ?_).trans q) (fun _ q => q) fun _ _ q => q
    rintro rfl
    rcases hc with rfl | hc
    · rw [fr] at e; cases e
    · rw [fr] at hc; cases hc
  · obtain ⟨_, f1, _, f3, f4, f5⟩ := f2 b hb
    exact ⟨f3, f1, f4, f5⟩
end
theorem comp_block {X : Cx} {tg iter elt : Expr} {ifs : List Expr} {scope : Scope} {pos : Pos} {g : TG} {tc : TT} {te : TE} {N' : List Str} {ix : List (Option Nat)} {pins : List (Addr × Obj)} {σ : St} {s2 : Shared} {itv : Value} {Q : VK} {cl : List (Str × Addr)}
    {RR : Value → Addr → Result → Shared → Prop} (hc : X.calm = true) (K : CompOk X.env.scope scope X.N N' ix) (e2 : ∀ x c, cl.lookup x = some c → X.env.cells.lookup x = some c) (e3 : ∀ x, (x, NameKind.free) ∈ scope.names → ∃ c, cl.lookup x = some c)
    (hg : ∀ cl C s2 H2 ex, PG (X.comp N' scope cl C s2 H2 ex) tg g) (ht : ∀ cl C s2 H2 ex, PIfs (X.comp N' scope cl C s2 H2 ex) ifs tc) (he : ∀ cl C s2 H2 ex, PE (X.comp N' scope cl C s2 H2 ex) elt te)
    (h2 : PIE X pins σ tg (fun J H1 => CompRun J g tc te (ix.map (pick σ)) H1 Q) itv s2)
    (hRR : ∀ H2 fp C D σ3 H3 s4, Inv X pins σ H2 s2 → (∀ b ∈ fp, FpOk X pins H2 b) → s2.heap.objs.size ≤ C → Inv (X.comp N' scope cl C s2 H2 fp) [] σ3 H3 s4 → Q (.ref D) H3 → RR (.ref D) C (.ok .next) s4) :
    wpAny (model X.prog X.w) X.A (newList []) (fun acc s₃ => wpAny (model X.prog X.w) X.A (newFunctionEnv scope X.env.globals cl [] X.env.qual none .none (some X.env)) (fun cenv s₄ =>
      codeAny (model X.prog X.w) X.A (.compStart (.ListComp elt [⟨tg, iter, ifs, 0⟩] scope pos) 0 itv acc { cenv with scope := relabel scope X.env }) (RR acc cenv.locals) s₄) X.xe s₃) X.xe s2 := by
  obtain ⟨it, fp, tn, J, H2, rfl, I2, T, st2, f2, q⟩ := h2
  refine wpAny_newObj_type (wpAny_newFunctionEnv K.nocell (by intro y hy; simp at hy) (fun h1 hns1 hsb1 => ?_) K.kind)
  dsimp only at hns1 hsb1 ⊢
  generalize hP : s2.heap.push { cls := .type "list", dict := none, data := .seq ([] : List Value).toArray } = P2 at hns1 hsb1 ⊢
  have hCs : P2.objs.size = s2.heap.objs.size + 1 := by rw [← hP, Heap.size_push]
  have hC : s2.heap.objs.size ≤ P2.objs.size := by omega
  have hDC : s2.heap.objs.size ≠ P2.objs.size := by omega
  have old : ∀ b o, s2.heap.get? b = some o → h1.get? b = some o := fun b o e =>
    hsb1.extBut b o (Nat.ne_of_lt (Nat.lt_of_lt_of_le (Heap.lt_size e) hC)) (Heap.get?_push_of_some _ (hP ▸ Heap.get?_push_of_some _ e))
  have hacc : h1.get? s2.heap.objs.size = some { cls := .type "list", dict := none, data := .seq ([] : List Value).toArray } :=
    hsb1.extBut _ _ hDC (Heap.get?_push_of_some _ (hP ▸ Heap.get?_push_size _ rfl))
  have hD : H2 s2.heap.objs.size = none := I2.hok.fresh (Nat.le_refl _)
  have hCn : H2 P2.objs.size = none := I2.hok.fresh hC
  obtain ⟨W, ⟨m0, w0⟩, turn⟩ := q s2.heap.objs.size hD
  have hex : ∀ b ∈ fp, b < s2.heap.objs.size := fun b hb => by
    obtain ⟨o, e, _⟩ := T.obj 0 _ st2 b hb
    exact Heap.lt_size e
  have YOk := comp_ok (cl := cl) (C := P2.objs.size) (ex := fp) I2 K e2 e3 hC f2 hex
  have hok1 : HOk X.prog X.w (upd H2 s2.heap.objs.size (.lst [])) h1 := I2.hok.laid old (Nat.le_refl _) ⟨Nat.zero_le _, [], 0, .nil, hacc⟩
  have IY : Inv (X.comp N' scope cl P2.objs.size s2 H2 fp) [] (ix.map (pick σ)) (upd H2 s2.heap.objs.size (.lst [])) { s2 with heap := h1, toks := s2.toks + ([] : List (Str × Value)).length } := by
    refine ⟨YOk, rfl, I2.bare, ?_, ⟨_, hns1, fun i x v e1 e4 e5 => ?_⟩, fun x c e => ?_, ?_, fun x c e => ?_, fun p hp => absurd (show p ∈ ([] : List (Addr × Obj)) from hp) (by simp), hok1, ?_⟩
    · exact (Un.laid old (Nat.le_refl _) hD).mono (fun _ z => z) (fun _ z => z)
    · rw [List.getElem?_map] at e4
      cases e6 : ix[i]? with
      | none => rw [e6] at e4; cases e4
      | some o =>
        rw [e6] at e4
        cases o with
        | none => cases (Option.some.inj e4)
        | some j =>
          have e7 : σ[j]? = some (some v) := pick_some (Option.some.inj e4)
          obtain ⟨n1, n2⟩ := K.src i j x e1 e6
          have hm := PySem.mem_of_lookup n2
          have kx := K.fr _ hm rfl
          obtain ⟨m, hn, hl⟩ := I2.loc
          obtain ⟨u, r, l⟩ := hl j x v n1 e7 (kx.elim (fun z => .inr (.inl z)) fun z => .inr (.inr z))
          refine ⟨u, r, .inr ⟨?_, ?_⟩⟩
          · exact relabel_free n2
          · rcases l with ⟨k1, _⟩ | ⟨_, c, hc1, hc2⟩
            · exfalso
              have k1' : X.env.scope.names.lookup x = some .local := k1
              rcases kx with z | z
              · rw [k1'] at z; cases z
              · rw [k1'] at z; cases z
            · obtain ⟨c', hc'⟩ := e3 x hm
              have e8 := e2 x c' hc'
              rw [hc1] at e8
              cases e8
              obtain ⟨o, ho, hd⟩ := hc2
              exact ⟨c, hc', o, old _ _ ho, hd⟩
    · obtain ⟨v, o, ho, hd⟩ := I2.cell x c (e2 x c e)
      exact ⟨v, o, old _ _ ho, hd⟩
    · show upd H2 s2.heap.objs.size (.lst []) P2.objs.size = none
      rw [upd_ne (Ne.symm hDC)]
      exact hCn
    · obtain ⟨v, z⟩ := I2.cell x c (e2 x c e)
      rw [upd_ne (Nat.ne_of_lt z.lt)]
      exact I2.freeC x c (e2 x c e)
    · rw [List.length_map]
      exact K.len
  have hnf : ∀ b ∈ fp, b ≠ P2.objs.size := fun b hb => Nat.ne_of_lt (Nat.lt_of_lt_of_le (hex b hb) hC)
  have stat : ∀ {H' : Hp}, (∀ b ∈ fp, H' b = none) → ∀ b ∈ fp, FpOk (X.comp N' scope cl P2.objs.size s2 H2 fp) [] H' b := fun hn b hb =>
    ⟨hn b hb, hnf b hb, YOk.exfs b hb, .inl hb, fun x c e => (f2 b hb).2.2.2.2.1 x c (e2 x c e), fun p hp => absurd (show p ∈ ([] : List (Addr × Obj)) from hp) (by simp)⟩
  have loop : ∀ s₃ : Shared, s₃ = { s2 with heap := h1, toks := s2.toks + ([] : List (Str × Value)).length } →
      codeAny (model X.prog X.w) X.A (.compLoop (.ListComp elt [⟨tg, iter, ifs, 0⟩] scope pos) 0 (.ref it) (.ref s2.heap.objs.size) (compEnvC scope cl P2.objs.size X.env))
        (RR (.ref s2.heap.objs.size) P2.objs.size) s₃ := by
    rintro s₃ rfl
    refine compLoop_any (fun n s' => ∃ i ys σ' H', Inv (X.comp N' scope cl P2.objs.size s2 H2 fp) [] σ' H' s' ∧ tn i s'.heap ∧ (∀ b ∈ fp, H' b = none) ∧ W i n ys σ' H') ?_ m0
      ⟨0, [], _, _, IY, T.keep _ _ _ st2 (fun b hb o e => old b o e), fun b hb => ?_, w0⟩
    · rintro n s3 ⟨i, ys, σ3, H3, I3, st3, fr3, w3⟩
      obtain ⟨hDl, tt⟩ := turn i n ys σ3 H3 w3
      rcases tt with ⟨stop, qn⟩ | ⟨go, step⟩
      · refine thn (T.done (X.comp N' scope cl P2.objs.size s2 H2 fp) rfl rfl rfl hc i [] s3 σ3 H3 (fun _ _ => False) I3 (stat fr3) st3 stop) fun r s4 ⟨hr, I4⟩ => ?_
        subst hr
        exact hRR H2 fp P2.objs.size s2.heap.objs.size σ3 H3 s4 I2 f2 hC I4 qn
      · refine thn (T.item (X.comp N' scope cl P2.objs.size s2 H2 fp) rfl rfl rfl hc i [] s3 σ3 H3 (fun _ _ => False) I3 (stat fr3) st3 go) fun r s4 ⟨u, hr, h4⟩ => ?_
        subst hr
        refine thn h4 fun _ s5 ⟨x, H5, I5, r5, y5, st5, fr5⟩ => ?_
        have I5' := I5.pinned (stat fr5) (T.obj _ _ st5)
        refine thn (hg cl P2.objs.size s2 H2 fp _ s5 σ3 H5 x u _ I5' r5 (step x H5 y5)) fun _ s6 ⟨σ6, H6, I6, q6⟩ => ?_
        refine thn (ht cl P2.objs.size s2 H2 fp _ s6 σ6 H6 _ I6 q6) fun b s7 ⟨H7, I7, q7⟩ => ?_
        have again : ∀ {s8 : Shared} {H8 : Hp} {ys' : List V} {m' : Nat}, Inv (X.comp N' scope cl P2.objs.size s2 H2 fp) ([] ++ pinsAt fp s5.heap) σ6 H8 s8 → m' < n → W (i + 1) m' ys' σ6 H8 →
            ∃ m, m < n ∧ ∃ i ys σ' H', Inv (X.comp N' scope cl P2.objs.size s2 H2 fp) [] σ' H' s8 ∧ tn i s8.heap ∧ (∀ b ∈ fp, H' b = none) ∧ W i m ys σ' H' := fun {s8 H8 ys' m'} I8 hm w8 => by
          refine ⟨m', hm, i + 1, ys', σ6, H8, I8.unpinned, T.keep _ _ _ st5 fun b hb o e => (I8.pin (b, o) (List.mem_append_right _ (List.mem_append_right _ (mem_pinsAt hb e)))).1, fun b hb => ?_, w8⟩
          obtain ⟨o, e, d⟩ := T.obj _ _ st5 b hb
          exact (I8.pin (b, o) (List.mem_append_right _ (List.mem_append_right _ (mem_pinsAt hb e)))).2.1
        cases b with
        | false =>
          obtain ⟨m', hm, w7⟩ : ∃ m', m' < n ∧ W (i + 1) m' ys σ6 H7 := q7
          exact again I7 hm w7
        | true =>
          have q7' : te σ6 H7 _ := q7
          show wpAny _ _ (eval elt (compEnvC scope cl P2.objs.size X.env)) _ _ _
          refine thn (he cl P2.objs.size s2 H2 fp _ s7 σ6 H7 _ I7 q7') fun yv s8 ⟨y, H8, I8, r8, hD8, hz8, m', hm, w8⟩ => ?_
          refine thn (mt_append (X := X.comp N' scope cl P2.objs.size s2 H2 fp) _ s8 σ6 H8 (.ref s2.heap.objs.size) [y] (.ref s2.heap.objs.size) [yv] (fun _ H9 => H9 = upd H8 s2.heap.objs.size (.lst (ys ++ [y]))) I8 rfl (.cons r8 .nil)
            ⟨_, ys, y, rfl, rfl, hD8, hz8, rfl⟩) fun _ s9 ⟨_, H9, I9, _, e9⟩ => ?_
          subst e9
          exact again I9 hm w8
    · show upd H2 s2.heap.objs.size (.lst []) b = none
      rw [upd_ne (Nat.ne_of_lt (hex b hb))]
      exact (f2 b hb).1
  exact codeAny_compStart_list (loop _ rfl) (T.self X.A 0 _ _ _ (T.keep _ _ _ st2 (fun b hb o e => old b o e)) (loop _ rfl))
theorem pe_comp {X : Cx} {tg iter elt : Expr} {ifs : List Expr} {scope : Scope} {pos : Pos} {wi : TI} {g : TG} {tc : TT} {te : TE} (N' : List Str) (ix : List (Option Nat)) (osc : Scope) (N : List Str)
    (hc : X.calm = true) (hi : PI X tg iter wi) (ok : compOk osc scope N N' ix = true)
    (hg : ∀ cl C s2 H2 ex, PG (X.comp N' scope cl C s2 H2 ex) tg g) (ht : ∀ cl C s2 H2 ex, PIfs (X.comp N' scope cl C s2 H2 ex) ifs tc) (he : ∀ cl C s2 H2 ex, PE (X.comp N' scope cl C s2 H2 ex) elt te)
    (hsc : X.env.scope = osc := by rfl) (hN : X.N = N := by rfl) (hs : ∀ x, foldedSetIterable iter X.env x = pure x := by intro _; rfl) : PE X (.ListComp elt [⟨tg, iter, ifs, 0⟩] scope pos) (tComp wi g tc te ix) := by
  intro pins s σ H Q I h
  have K0 := compOk_of ok
  have K : CompOk X.env.scope scope X.N N' ix := by rw [hsc, hN]; exact K0
  obtain ⟨cl, hclos, e2, e3⟩ := closure_of (scope := scope) (env := X.env) (fun y hy hf => I.ok.has y.1 (K.fr y hy hf))
  rw [eval_ListComp]
  refine wpAny_comprehension_free (use := none) rfl hs hclos K.kind K.names (wpAny_mono (hi pins s σ H _ I h) (fun v s1 h1 => thn h1 fun itv s2 h2 => ?_) fun _ _ e => e)
  refine comp_block hc K e2 e3 hg ht he h2 fun H2 fp C D σ3 H3 s4 I2 f2 hC I4 qn => ?_
  obtain ⟨m, hn, _⟩ := I4.loc
  exact ⟨m, hn, fun h' sb => ⟨.ref D, H3, comp_out I2 f2 hC I4 sb, rfl, qn⟩⟩
theorem ps_setC {X : Cx} {tg iter elt : Expr} {ifs : List Expr} {scope : Scope} {pos spos py : Pos} {y : Str} {wi : TI} {g : TG} {tc : TT} {te : TE} (N' : List Str) (ix : List (Option Nat)) (osc : Scope) (N : List Str) {i : Nat} (nd : X.N.Nodup) (hiy : X.N[i]? = some y) (hxy : Loc X.env.scope y)
    (hc : X.calm = true) (hi : PI X tg iter wi) (ok : compOk osc scope N N' ix = true)
    (hg : ∀ cl C s2 H2 ex, PG (X.comp N' scope cl C s2 H2 ex) tg g) (ht : ∀ cl C s2 H2 ex, PIfs (X.comp N' scope cl C s2 H2 ex) ifs tc) (he : ∀ cl C s2 H2 ex, PE (X.comp N' scope cl C s2 H2 ex) elt te)
    (hsc : X.env.scope = osc := by rfl) (hN : X.N = N := by rfl) (hs : ∀ x, foldedSetIterable iter X.env x = pure x := by intro _; rfl)
    (hsw : swapsWith (.ListComp elt [⟨tg, iter, ifs, 0⟩] scope pos) (some (.Name y py)) spos.line X.env = pure true := by rfl) (hf : X.fn y = true ∨ X.env.scope.names.lookup y = some .local := by first | exact .inl rfl | exact .inr rfl | assumption) :
    PS X (.Assign [.Name y py] (.ListComp elt [⟨tg, iter, ifs, 0⟩] scope pos) spos) (tAsg (tComp wi g tc te ix) (gName i)) := by
  intro pins s σ H D I h
  have K0 := compOk_of ok
  have K : CompOk X.env.scope scope X.N N' ix := by rw [hsc, hN]; exact K0
  obtain ⟨cl, hclos, e2, e3⟩ := closure_of (scope := scope) (env := X.env) (fun y hy hf => I.ok.has y.1 (K.fr y hy hf))
  rw [exec_Assign_Name_used _ _ _ _ hsw]
  refine wpAny_bind (wpAny_standAt (wpAny_bind ?_))
  show wpAny _ X.A (do let _ ← comprehension (.ListComp elt [⟨tg, iter, ifs, 0⟩] scope pos) scope X.env _ (newList []) false (eval iter X.env) (some (assign (.Name y py) X.env))) _ _ s
  refine wpAny_bind (wpAny_mono (wpAny_comprehension_free (use := some (assign (.Name y py) X.env)) (Q := fun _ s' => SP X pins D .next s') rfl hs hclos K.kind K.names
    (wpAny_mono (hi pins s σ H _ I h) (fun v s1 h1 => thn h1 fun itv s2 h2 => ?_) fun _ _ e => e)) (fun _ s' hq => wpAny_pure (wpAny_pure hq)) fun _ _ e => e)
  refine comp_block hc K e2 e3 hg ht he h2 fun H2 fp C L σ3 H3 s4 I2 f2 hC I4 qn => ?_
  have I5 : Inv X pins σ H3 s4 := comp_out I2 f2 hC I4 (Heap.SameBut.refl ..)
  obtain ⟨m, hn, _⟩ := I4.loc
  have hn : s4.heap.Ns C m := hn
  have fC : FpOk X pins H3 C := I2.fpOk hC I4.free
  show wpAny _ X.A (assign (.Name y py) X.env (.ref L)) _ _ s4
  refine wpAny_assign_Name (store_ok2 I5 nd hiy hxy (v := .ref L) rfl (fun s5 I6 hch => ?_) hf)
  obtain ⟨a, sb, ha⟩ := hch
  have nCa : C ≠ a := by
    rcases ha with rfl | ha
    · exact fC.2.1
    · exact fun z => fC.2.2.2.2.1 y a ha z.symm
  refine ⟨m, hn.sameBut sb nCa, fun h' sb' => ⟨_, H3, ?_, qn⟩⟩
  obtain ⟨f0, f1, f2', f3, f4, f5⟩ := fC
  exact I6.turned (t' := s5.toks) (fun b o hb e => (sb'.2 b hb).trans e) f0 f1 f3 f4 f5
end L2
set_option Elab.async false
set_option linter.all false
set_option maxRecDepth 100000
set_option maxHeartbeats 4000000
namespace L2
open PySem PySem.Spec PyProof.Rows
section
variable {X : Cx}
theorem bools_of : ∀ {bs : List Bool} {us : List Value}, Vals (bs.map V.bl) us → LSm.BoolsAre us bs
  | [], _, .nil => .nil
  | b :: bs, _, .cons r t => by
    cases r
    exact .cons b (bools_of t)
theorem call_all (hc : X.calm = true) : CallR X (.builtin "all") (fun xs H Q => ∃ (p : Addr) (bs : List Bool), xs = [.ref p] ∧ SqL X.K H p (bs.map V.bl) ∧ Q (.bl (bs.all id)) H) := by
  intro pins s σ H xs us Q I rv h
  obtain ⟨p, bs, rfl, hq, q⟩ := h
  obtain ⟨u, rfl, ru⟩ := rv.one
  cases ru
  obtain ⟨its, r, pl, hz⟩ := I.list hq
  have hb := bools_of r
  obtain ⟨m, F⟩ := I.fr
  have hl := pl.isList
  have hlt : p < s.heap.objs.size := by obtain ⟨_, e, _⟩ := hl; exact Heap.lt_size e
  have hh := I.ok.hd hc
  refine call_all_walk (wpAny_pyIter_list hl ?_)
  refine ⟨s.heap.objs.size, [s.heap.objs.size, p], [s.heap.objs.size], its.toArray.size, _, _, fun i => (bs[i]?).getD true, rfl, Walks.list (A := X.A.in1) hh _ p (Nat.ne_of_lt hlt) its.toArray,
    ⟨⟨_, Heap.get?_push_size _ rfl, rfl, rfl⟩, hl.push _⟩, fun i v s' Q' E' hP hQ => ?_, fun h' tk hk => ?_⟩
  · obtain ⟨b, e, rfl⟩ := hb.get i v (by simpa using hP)
    simp only [e, Option.getD_some] at hQ
    exact wpAny_truthy_bool hQ
  · have e : ((List.range its.toArray.size).all fun i => (bs[i]?).getD true) = bs.all id := by
      rw [List.size_toArray, hb.length]; exact LSm.range_all bs
    rw [e]
    exact ⟨.bl _, H, I.kept (LSm.kept_iter hk), rfl, q⟩
theorem call_isinst : CallR X (.builtin "isinstance") (fun xs H Q => ∃ x T t b, xs = [x, .ty T] ∧ TyOf X.K H x t ∧ PySem.W.kitOne X.K t (.type T) = some b ∧ Q (.bl b) H) := by
  intro pins s σ H xs us Q I rv h
  obtain ⟨x, T, t, b, rfl, ty, e, q⟩ := h
  obtain ⟨u, v, rfl, ru, rv⟩ := rv.two
  cases rv
  exact isinst_ok I ru ty e fun tk => ⟨.bl b, H, I.tok tk, rfl, q⟩
theorem ints_of : ∀ {ns : List Int} {us : List Value}, Vals (ns.map V.int) us → IntsAre us ns
  | [], _, .nil => .nil
  | b :: bs, _, .cons r t => by
    obtain ⟨tk, rfl⟩ := r
    exact .cons _ _ (ints_of t)
end
mutual
inductive RdD (K : PySem.W.Frag) (H : Hp) : V → PyData → Prop
  | non : RdD K H .non .none
  | bl (b : Bool) : RdD K H (.bl b) (.bool b)
  | int (i : Int) : RdD K H (.int i) (.int i)
  | str (x : Str) : RdD K H (.str x) (.str x)
  | lst {a : Addr} {xs : List V} {ds : List PyData} : SqL K H a xs → RdAll K H xs ds → RdD K H (.ref a) (.list ds)
  | tup {a : Addr} {xs : List V} {ds : List PyData} : SqT K H a xs → RdAll K H xs ds → RdD K H (.ref a) (.tuple ds)
inductive RdAll (K : PySem.W.Frag) (H : Hp) : List V → List PyData → Prop
  | nil : RdAll K H [] []
  | cons {x : V} {d : PyData} {xs : List V} {ds : List PyData} : RdD K H x d → RdAll K H xs ds → RdAll K H (x :: xs) (d :: ds)
end
section
variable {X : Cx} {pins : List (Addr × Obj)} {σ : St} {H : Hp} {s : Shared}
mutual
theorem Inv.reads (I : Inv X pins σ H s) : ∀ {x : V} {d : PyData} {u : Value}, RdD X.K H x d → RelV x u → ∃ as, Reads s.heap u d as
  | _, _, _, .non, r => by cases r; exact ⟨_, .none⟩
  | _, _, _, .bl b, r => by cases r; exact ⟨_, .bool b⟩
  | _, _, _, .int i, r => by obtain ⟨t, rfl⟩ := r; exact ⟨_, .int i t⟩
  | _, _, _, .str x, r => by obtain ⟨t, rfl⟩ := r; exact ⟨_, .str x t⟩
  | _, _, _, .lst hq ha, r => by
    cases r
    obtain ⟨its, rv, ⟨o, n, e, c, dd, dt⟩, _⟩ := I.list hq
    obtain ⟨as, q⟩ := Inv.readsAll I ha rv
    exact ⟨_, .list e c dt (by simpa using q)⟩
  | _, _, _, .tup hq ha, r => by
    cases r
    obtain ⟨its, rv, ⟨o, e, c, n, dt⟩, _⟩ := I.tuple hq
    obtain ⟨as, q⟩ := Inv.readsAll I ha rv
    exact ⟨_, .tuple e c dt (by simpa using q)⟩
theorem Inv.readsAll (I : Inv X pins σ H s) : ∀ {xs : List V} {ds : List PyData} {us : List Value}, RdAll X.K H xs ds → Vals xs us → ∃ as, ReadsAll s.heap us ds as
  | _, _, _, .nil, .nil => ⟨_, .nil⟩
  | _, _, _, .cons h t, .cons r rr => by
    obtain ⟨as, q⟩ := Inv.reads I h r
    obtain ⟨bs, p⟩ := Inv.readsAll I t rr
    exact ⟨_, .cons q p⟩
end
def rEqD (K : PySem.W.Frag) (neg : Bool) : R2 := fun x y H Q => ∃ dx dy, RdD K H x dx ∧ RdD K H y dy ∧ SeqAt.shaped dx = true ∧ SeqAt.shaped dy = true ∧ Q (.bl (if neg then !PyData.eqv dx dy else PyData.eqv dx dy)) H
theorem op_eqD (hu : X.A.units + 64 < cLine) : OpR X (compareOp .Eq) (rEqD X.K false) := by
  intro pins s σ H x y v u Q I rx ry h
  obtain ⟨dx, dy, h1, h2, s1, s2, q⟩ := h
  obtain ⟨as, r1⟩ := I.reads h1 rx
  obtain ⟨bs, r2⟩ := I.reads h2 ry
  exact eq_dataH r1 r2 s1 s2 hu ⟨.bl _, H, I, rfl, q⟩
theorem op_neD (hu : X.A.units + 64 < cLine) : OpR X (compareOp .NotEq) (rEqD X.K true) := by
  intro pins s σ H x y v u Q I rx ry h
  obtain ⟨dx, dy, h1, h2, s1, s2, q⟩ := h
  obtain ⟨as, r1⟩ := I.reads h1 rx
  obtain ⟨bs, r2⟩ := I.reads h2 ry
  exact ne_dataH r1 r2 s1 s2 hu ⟨.bl _, H, I, rfl, q⟩
end
end L2
set_option Elab.async false
set_option linter.all false
set_option maxRecDepth 100000
set_option maxHeartbeats 4000000
namespace L2
open PySem PySem.Spec PyProof.Rows
def Ite (K : PySem.W.Frag) (a : Addr) : It :=
  ⟨fun i H => ∃ xs x, SqL K H a xs ∧ xs[i]? = some x, fun i H y H' => ∃ T x, y = .ref T ∧ H T = none ∧ H' = upd H T (.tup [.int (i : Nat), x]) ∧ ∀ xs, SqL K H a xs → xs[i]? = some x, fun i H => ∃ xs, SqL K H a xs ∧ xs.length ≤ i⟩
theorem Inv.tupNew {X : Cx} {pins : List (Addr × Obj)} {σ : St} {H : Hp} {s : Shared} {h' : Heap} {t' : Nat} {fp : List Addr} {T : Addr} {xs : List V} {its : List Value} {n : Nat} (I : Inv X pins σ H s) (hf : ∀ b ∈ fp, FpOk X pins H b)
    (hT : s.heap.objs.size ≤ T) (k : ∀ b o, b ∉ fp → s.heap.get? b = some o → h'.get? b = some o) (hz : xs.length ≤ sizeLine) (rv : Vals xs its) (e : h'.get? T = some { cls := .type "tuple", data := .seq its.toArray n })
    (tr : ∀ b ∈ fp, ∃ o, h'.get? b = some o) : Inv X pins σ (upd H T (.tup xs)) { s with heap := h', toks := t' } := by
  have hTn : H T = none := I.hok.fresh hT
  have nT : ∀ b o, s.heap.get? b = some o → b ≠ T := fun b o q => Nat.ne_of_lt (Nat.lt_of_lt_of_le (Heap.lt_size q) hT)
  have nfp : ∀ b o, H b = some o → b ∉ fp := fun b o q hb => by have := (hf b hb).1; rw [q] at this; cases this
  refine I.step (g' := s.gens) (d' := s.drawn) (ch := fp) (fun b hb => ?_) (fun b o _ _ hc q _ => k b o hc q) (fun b o _ _ hc q _ => ⟨o.slots, k b o hc q⟩) (fun b o _ q n => by rw [upd_ne (nT b o q)]; exact n)
    (fun b o hc q => ⟨o, k b o hc q⟩) (fun b ys q => by rw [upd_ne (ne_of_none q hTn)]; exact q) (fun b o u q => by rw [upd_ne (ne_of_none q hTn)]; exact q) (fun b ps q => ⟨#[], by rw [upd_ne (ne_of_none q hTn), q]; simp⟩) (fun m hm => ?_) (fun b u q => ?_) I.bare
  · obtain ⟨_, f1, _, f3, f4, f5⟩ := hf b hb
    exact ⟨f3, f1, f4, f5⟩
  · obtain ⟨o, es, ep, ho, r⟩ := hm
    exact ⟨o, es, ep, k _ o (fun z => (hf _ z).2.1 rfl) ho, r⟩
  · by_cases hb : b = T
    · subst hb
      rw [upd_same] at q
      cases q
      exact ⟨hz, its, rv, _, e, rfl, n, rfl⟩
    · rw [upd_ne hb] at q
      refine (I.hok b u q).stay (fun c v hc w => k c v ?_ w) (fun c w => by rw [upd_ne (ne_of_none w hTn)]; exact w) fun c ys w => by rw [upd_ne (ne_of_none w hTn)]; exact w
      rcases hc with rfl | hc
      · exact nfp _ _ q
      · exact nfp _ _ hc
theorem turn_enum {P : Program} {w : World} {K : PySem.W.Frag} {es : List Expr} {k1} {ps : Pos} (a e it : Addr) : Turn P w K (.Tuple es k1 ps) (Ite K a) [e, it] e (fun i h => (∃ old, IsEnum h e it (i : Nat) old) ∧ h.IsListIter it a i ∧ e ≠ it) where
  mem := by simp
  obj := fun i h st b hb => by
    obtain ⟨⟨old, he⟩, hit, hne⟩ := st
    rcases List.mem_cons.mp hb with rfl | hb
    · exact ⟨_, he, fun v z => by
        have z' : Data.fields _ = Data.cell v := z
        cases z'⟩
    · have z : b = it := by simpa using hb
      subst z
      obtain ⟨o, e, c, d⟩ := hit
      exact ⟨o, e, fun v z => by rw [d] at z; cases z⟩
  keep := fun i h h' st k => by
    obtain ⟨⟨old, he⟩, hit, hne⟩ := st
    exact ⟨⟨old, k e (by simp) _ he⟩, hit.at fun o q => k it (by simp) o q, hne⟩
  item := by
    intro X hP hw hK hc i pins s σ H E I hf st hg
    subst hP hw hK
    obtain ⟨⟨old, he⟩, hit, hne⟩ := st
    obtain ⟨xs, x, hq, hx⟩ := hg
    obtain ⟨its, rv, p, hz⟩ := I.list hq
    obtain ⟨u, hu, ru⟩ := rv.get hx
    refine wpAny_pyNext_enum_item he hit p.isList (x := u) (by simpa using hu) hne fun h' heo hit' hT hsz hk => ?_
    refine ⟨_, rfl, wpAny_letOwnedTupleGo_enum heo fun h2 he2 hs2 => ?_⟩
    have elt : e ≠ s.heap.objs.size := Nat.ne_of_lt (Heap.lt_size he)
    have ilt : it ≠ s.heap.objs.size := by obtain ⟨o, q, _⟩ := hit; exact Nat.ne_of_lt (Heap.lt_size q)
    have hs2' : Heap.SameBut e h' h2 := hs2
    have hT2 : h2.get? s.heap.objs.size = some { cls := .type "tuple", data := .seq #[.int i s.toks, u] } := (hs2'.2 _ (Ne.symm elt)).trans hT
    have hit2 : h2.IsListIter it a (i + 1) := hit'.at fun o q => (hs2'.2 it (Ne.symm hne)).trans q
    have hfr : H s.heap.objs.size = none := I.hok.fresh (Nat.le_refl _)
    have I2 : Inv X pins σ (upd H s.heap.objs.size (.tup [.int (i : Nat), x])) { s with heap := h2, toks := s.toks + 1 } := by
      refine I.tupNew (its := [.int i s.toks, u]) hf (Nat.le_refl _) (fun b o hb q => ?_) (by show 2 ≤ sizeLine; decide) (.cons ⟨_, rfl⟩ (.cons ru .nil)) hT2 (fun b hb => ?_)
      · simp only [List.mem_cons, not_or] at hb
        exact (hs2'.2 b hb.1).trans (hk b o hb.1 hb.2.1 q)
      · rcases List.mem_cons.mp hb with rfl | hb
        · exact ⟨_, he2⟩
        · have z : b = it := by simpa using hb
          subst z
          obtain ⟨o, q, _⟩ := hit2
          exact ⟨o, q⟩
    refine ⟨.ref s.heap.objs.size, _, I2, rfl, ⟨_, x, rfl, hfr, rfl, fun ys hy => by rw [I.list_inj hy hq]; exact hx⟩, ⟨⟨_, by simpa using he2⟩, hit2, hne⟩, fun b hb => ?_⟩
    rw [upd_ne (fun z => ?_)]
    · exact (hf b hb).1
    · rcases List.mem_cons.mp hb with rfl | hb
      · exact elt z
      · have z' : b = it := by simpa using hb
        subst z'
        exact ilt z
  done := by
    intro X hP hw hK hc i pins s σ H E I hf st hg
    subst hP hw hK
    obtain ⟨⟨old, he⟩, hit, hne⟩ := st
    obtain ⟨xs, hq, hx⟩ := hg
    obtain ⟨its, rv, p, hz⟩ := I.list hq
    obtain ⟨f0, f1, f2, f3, f4, f5⟩ := hf it (by simp)
    have hl := rv.length
    exact wpAny_pyNext_enum_end (I.ok.hd hc) he hit p.isList (by simp; omega) fun h' eb => ⟨rfl, I.turned (t' := s.toks) (fun b o hb e => eb b o hb e) f0 f1 f3 f4 f5⟩
  self := fun _ _ _ _ _ st h => by
    obtain ⟨⟨old, he⟩, hit, hne⟩ := st
    exact wpAny_pyIter_enum he h
def iEnum (K : PySem.W.Frag) (ta : TA) : TI := fun σ H R => ta σ H fun vs H1 => ∃ a, vs = [.ref a] ∧ (∃ xs, SqL K H1 a xs) ∧ R (Ite K a) H1
theorem pi_enum {X : Cx} {a : Expr} {ta : TA} {es : List Expr} {k1} {ps p pos : Pos} (hg : Gl X "enumerate") (hm : X.mg "enumerate" = none) (ha : PA X [a] ta) (hs : starEach [a] X.env = [(false, eval a X.env)] := by rfl) :
    PI X (.Tuple es k1 ps) (.Call (.Name "enumerate" p) [a] [] pos) (iEnum X.K ta) := by
  intro pins s σ H R I h
  refine Call_ (ld_blt I hg hm boot_enumerate (PyProof.Rows.callWith_type1 (thn (ha pos pins s σ H _ I h) fun us s1 ⟨vs, H1, I1, r1, q1⟩ => ?_) hs rfl))
  obtain ⟨a, e, ⟨xs, hq⟩, q⟩ := q1
  subst e
  obtain ⟨u, rfl, ru⟩ := r1.one
  cases ru
  obtain ⟨its, rv, pl, hz⟩ := I1.list hq
  refine call_enumerate_list pl.isList fun h' he hit hsz hk => wpAny_pyIter_enum he ?_
  have I2 : Inv X pins σ H1 { s1 with heap := h' } := I1.kept (t' := s1.toks) hk
  refine ⟨s1.heap.objs.size + 1, [s1.heap.objs.size + 1, s1.heap.objs.size], _, _, H1, rfl, I2, turn_enum a _ _, ⟨⟨_, he⟩, hit, Nat.ne_of_gt (Nat.lt_succ_self _)⟩, fun b hb => ?_, q⟩
  rcases List.mem_cons.mp hb with rfl | hb
  · exact I1.fpOk (Nat.le_succ _) (I1.hok.fresh (Nat.le_succ _))
  · have z : b = s1.heap.objs.size := by simpa using hb
    subst z
    exact I1.fpOk (Nat.le_refl _) (I1.hok.fresh (Nat.le_refl _))
theorem for_enum {K : PySem.W.Frag} {a : Addr} {xs : List V} {g : TG} {tb : TS} {D : Ends} {σ : St} {H : Hp} (Pv : Nat → St → Hp → Prop) (h0 : Pv 0 σ H) (hl : ∀ i σ H, i ≤ xs.length → Pv i σ H → SqL K H a xs)
    (hs : ∀ i x σ H T, xs[i]? = some x → Pv i σ H → H T = none → g (.ref T) σ (upd H T (.tup [.int (i : Nat), x])) fun σ2 H2 => tb { D with nx := Pv (i + 1), ct := Pv (i + 1), bk := D.nx } σ2 H2) (hd : ∀ σ H, Pv xs.length σ H → D.nx σ H) :
    ∃ W : Nat → Nat → St → Hp → Prop, (∃ m, W 0 m σ H) ∧ ∀ i m σ H, W i m σ H →
      ((Ite K a).stop i H ∧ D.nx σ H) ∨ ((Ite K a).go i H ∧ ∃ N : St → Hp → Prop, (∀ σ' H', N σ' H' → ∃ m', m' < m ∧ W (i + 1) m' σ' H') ∧ ∀ x H', (Ite K a).yld i H x H' → g x σ H' fun σ2 H2 => tb { D with nx := N, ct := N, bk := D.nx } σ2 H2) := by
  refine ⟨fun i m σ H => m = xs.length - i ∧ i ≤ xs.length ∧ Pv i σ H, ⟨xs.length, by simp, Nat.zero_le _, h0⟩, ?_⟩
  rintro i m σ H ⟨rfl, hi, p⟩
  have q := hl i σ H hi p
  by_cases hlt : i < xs.length
  · refine .inr ⟨⟨xs, xs[i], q, by simp [hlt]⟩, Pv (i + 1), fun σ' H' p' => ⟨xs.length - (i + 1), by omega, rfl, hlt, p'⟩, fun x H' y => ?_⟩
    obtain ⟨T, z, rfl, hT, rfl, y⟩ := y
    exact hs i z σ _ T (y xs q) p hT
  · have e : i = xs.length := by omega
    subst e
    exact .inl ⟨⟨xs, q, Nat.le_refl _⟩, hd σ H p⟩
end L2
set_option Elab.async false
set_option linter.all false
set_option maxRecDepth 100000
set_option maxHeartbeats 4000000
namespace L2
open PySem PySem.Spec PyProof.Rows
def Pu (te : TE) (σ : St) (H : Hp) (v : V) : Prop := ∀ (H' : Hp) (Q : VK), Same H H' → (∀ H'', Same H' H'' → Q v H'') → te σ H' Q
def PuT (tc : TT) (σ : St) (H : Hp) (b : Bool) : Prop := ∀ (H' : Hp) (Q : Bool → Hp → Prop), Same H H' → (∀ H'', Same H' H'' → Q b H'') → tc σ H' Q
theorem puT_true {σ : St} {H : Hp} : PuT tTrue σ H true := fun H' Q _ q => q H' (Same.refl _)
theorem Same.upd {H H' : Hp} {D : Addr} {o : HO} (e : Same H H') (hD : H D = none) : Same H (upd H' D o) := fun b u q => by
  rw [upd_ne (ne_of_none q hD)]
  exact e b u q
theorem Same.new {H : Hp} {D : Addr} {o : HO} (hD : H D = none) : Same H (L2.upd H D o) := (Same.refl H).upd hD
theorem Same.tup {K : PySem.W.Frag} {H H' : Hp} {a : Addr} {xs : List V} (e : Same H H') (h : SqT K H a xs) : SqT K H' a xs := by
  rcases h with (h | ⟨o, h⟩) | h
  · exact .inl (.inl (e _ _ h))
  · exact .inl (.inr ⟨o, e _ _ h⟩)
  · exact .inr h
theorem comp_by {J : It} {n : Nat} {σ0 : St} {H1 : Hp} {D : Addr} {tc : TT} {te : TE} {Q : VK} (Pv : Nat → List V → Hp → Prop) (h0 : Pv 0 [] (upd H1 D (.lst [])))
    (hl : ∀ i ys H', i ≤ n → Pv i ys H' → H' D = some (.lst ys)) (hgo : ∀ i ys H', i < n → Pv i ys H' → J.go i H') (hst : ∀ ys H', Pv n ys H' → J.stop n H')
    (step : ∀ i ys H' x H2, i < n → Pv i ys H' → J.yld i H' x H2 → tc (σ0.set 0 (some x)) H2 fun b H4 => if b = true then te (σ0.set 0 (some x)) H4 fun y H5 => H5 D = some (.lst ys) ∧ ys.length < sizeLine ∧ Pv (i + 1) (ys ++ [y]) (upd H5 D (.lst (ys ++ [y]))) else Pv (i + 1) ys H4)
    (fin : ∀ ys H', Pv n ys H' → Q (.ref D) H') :
    ∃ W : Nat → Nat → List V → St → Hp → Prop, (∃ m, W 0 m [] σ0 (upd H1 D (.lst []))) ∧
      ∀ i m ys σ' H', W i m ys σ' H' → H' D = some (.lst ys) ∧ ((J.stop i H' ∧ Q (.ref D) H') ∨ (J.go i H' ∧ ∀ x H2, J.yld i H' x H2 → gName 0 x σ' H2 fun σ2 H3 => tc σ2 H3 fun b H4 =>
        if b = true then te σ2 H4 fun y H5 => H5 D = some (.lst ys) ∧ ys.length < sizeLine ∧ ∃ m', m' < m ∧ W (i + 1) m' (ys ++ [y]) σ2 (upd H5 D (.lst (ys ++ [y])))
        else ∃ m', m' < m ∧ W (i + 1) m' ys σ2 H4)) := by
  refine ⟨fun i m ys σ' H' => m = n - i ∧ i ≤ n ∧ (∀ x, σ'.set 0 x = σ0.set 0 x) ∧ Pv i ys H', ⟨n, by simp, Nat.zero_le _, fun _ => rfl, h0⟩, ?_⟩
  rintro i m ys σ' H' ⟨rfl, hi, es, p⟩
  refine ⟨hl i ys H' hi p, ?_⟩
  by_cases hlt : i < n
  · refine .inr ⟨hgo i ys H' hlt p, fun x H2 y => ?_⟩
    have st := step i ys H' x H2 hlt p y
    show tc (σ'.set 0 (some x)) H2 _
    rw [es]
    have e1 : ∀ z, (σ0.set 0 (some x)).set 0 z = σ0.set 0 z := fun z => by rw [List.set_set]
    have e2 : ∀ ys' H5, (∃ m', m' < n - i ∧ m' = n - (i + 1) ∧ i + 1 ≤ n ∧ (∀ z, (σ0.set 0 (some x)).set 0 z = σ0.set 0 z) ∧ Pv (i + 1) ys' H5) ↔ Pv (i + 1) ys' H5 := fun ys' H5 =>
      ⟨fun ⟨_, _, _, _, _, q⟩ => q, fun q => ⟨n - (i + 1), by omega, rfl, hlt, e1, q⟩⟩
    simp only [e2]
    exact st
  · have e : i = n := by omega
    subst e
    exact .inl ⟨hst ys H' p, fin ys H' p⟩
theorem comp_of {α : Type} {K : PySem.W.Frag} {a : Addr} {ms : List α} {σ0 : St} {H1 : Hp} {tc : TT} {te : TE} {Q : VK} (u : α → V) (p : α → Bool) (f : α → V) (hq : SqL K H1 a (ms.map u)) (hn : ms.length ≤ sizeLine)
    (ht : ∀ x ∈ ms, PuT tc (σ0.set 0 (some (u x))) H1 (p x)) (he : ∀ x ∈ ms, p x = true → Pu te (σ0.set 0 (some (u x))) H1 (f x))
    (fin : ∀ D H', H1 D = none → Same H1 H' → H' D = some (.lst ((ms.filter p).map f)) → Q (.ref D) H') :
    CompRun (Itl K a) (gName 0) tc te σ0 H1 Q := by
  intro D hD
  refine comp_by (n := ms.length) (fun i ys H' => Same H1 H' ∧ H' D = some (.lst ys) ∧ ys = ((ms.take i).filter p).map f) ⟨Same.new hD, upd_same, by simp⟩ (fun i ys H' _ q => q.2.1) (fun i ys H' hi q => ⟨ms.map u, u ms[i], q.1.seq hq, by simp [hi]⟩)
    (fun ys H' q => ⟨ms.map u, q.1.seq hq, by simp⟩) ?_ (fun ys H' q => ?_)
  · rintro i ys H' x H2 hi ⟨sm, hDl, hys⟩ ⟨rfl, hy⟩
    have hx : (ms.map u)[i]? = some x := hy _ (sm.seq hq)
    obtain ⟨z, hz, rfl⟩ : ∃ z, ms[i]? = some z ∧ u z = x := by
      rw [List.getElem?_map] at hx
      cases e : ms[i]? with
      | none => rw [e] at hx; cases hx
      | some z => rw [e] at hx; exact ⟨z, rfl, Option.some.inj hx⟩
    have hm : z ∈ ms := List.mem_of_getElem? hz
    have tk : ms.take (i + 1) = ms.take i ++ [z] := by
      rw [List.take_add_one, hz]
      simp only [Option.toList]
    have hlen : ys.length ≤ i := by
      rw [hys, List.length_map]
      exact Nat.le_trans (List.length_filter_le _ _) (by rw [List.length_take]; omega)
    refine ht z hm _ _ sm fun H4 s4 => ?_
    cases hp : p z with
    | true =>
      refine iteT ?_
      refine he z hm hp _ _ (sm.trans s4) fun H5 s5 => ⟨s5 _ _ (s4 _ _ hDl), by omega, ((sm.trans s4).trans s5).upd hD, upd_same, ?_⟩
      rw [tk, List.filter_append, List.map_append, ← hys]
      simp [hp]
    | false =>
      refine iteF ⟨sm.trans s4, s4 _ _ hDl, ?_⟩
      rw [tk, List.filter_append, List.map_append, ← hys]
      simp [hp]
  · obtain ⟨sm, hDl, hys⟩ := q
    rw [List.take_length] at hys
    exact fin D H' hD sm (by rw [← hys]; exact hDl)
theorem comp_map {α : Type} {K : PySem.W.Frag} {a : Addr} {ms : List α} {σ0 : St} {H1 : Hp} {te : TE} {Q : VK} (u : α → V) (f : α → V) (hq : SqL K H1 a (ms.map u)) (hn : ms.length ≤ sizeLine)
    (he : ∀ x ∈ ms, Pu te (σ0.set 0 (some (u x))) H1 (f x))
    (fin : ∀ D H', H1 D = none → Same H1 H' → H' D = some (.lst (ms.map f)) → Q (.ref D) H') :
    CompRun (Itl K a) (gName 0) tTrue te σ0 H1 Q :=
  comp_of u (fun _ => true) f hq hn (fun _ _ => puT_true) (fun x hx _ => he x hx) fun D H' hD sm e => fin D H' hD sm (by rw [List.filter_eq_self.mpr (fun _ _ => rfl)] at e; exact e)
theorem comp_range {lo : Int} {n : Nat} {σ0 : St} {H1 : Hp} {te : TE} {Q : VK} (f : Nat → V) (hn : n ≤ sizeLine)
    (he : ∀ i, i < n → Pu te (σ0.set 0 (some (.int (lo + i)))) H1 (f i))
    (fin : ∀ D H', H1 D = none → Same H1 H' → H' D = some (.lst ((List.range n).map f)) → Q (.ref D) H') :
    CompRun (Itr lo n) (gName 0) tTrue te σ0 H1 Q := by
  intro D hD
  refine comp_by (n := n) (fun i ys H' => Same H1 H' ∧ H' D = some (.lst ys) ∧ ys = (List.range i).map f) ⟨Same.new hD, upd_same, by simp⟩ (fun i ys H' _ q => q.2.1) (fun i ys H' hi q => hi)
    (fun ys H' q => Nat.le_refl _) ?_ (fun ys H' q => ?_)
  · rintro i ys H' x H2 hi ⟨sm, hDl, hys⟩ ⟨rfl, rfl⟩
    unfold tTrue
    refine iteT ?_
    refine he i hi _ _ sm fun H5 s5 => ⟨s5 _ _ hDl, ?_, (sm.trans s5).upd hD, upd_same, ?_⟩
    · rw [hys, List.length_map, List.length_range]
      omega
    · rw [List.range_succ, List.map_append, ← hys]
      simp
  · obtain ⟨sm, hDl, hys⟩ := q
    exact fin D H' hD sm (by rw [← hys]; exact hDl)
def DefAt (K : PySem.W.Frag) (mg : Str → Option Value) (x : Str) (st : Stmt) (ps : List Str) : Prop := ∃ f fd, Fun K x x st f fd ∧ mg x = some (.ref f) ∧ Binds K fd ps []
def FnAt (P : Program) (w : World) (K : PySem.W.Frag) (mg : Str → Option Value) (base : Heap) (k : Nat) (x : Str) (ps : List Str) (sp : Sp) : Prop :=
  ∃ f fd, FnOk P w K mg base CX0 k f fd ps sp ∧ mg x = some (.ref f) ∧ PySem.W.keepIn K (.ref f) = true ∧ Binds K fd ps []
theorem FnAt.of {P : Program} {w : World} {K : PySem.W.Frag} {mg : Str → Option Value} {base : Heap} {k : Nat} {x : Str} {st : Stmt} {N ps : List Str} {sp : Sp} (D : DefAt K mg x st ps) (S : FnScope N ps (defScope st)) (len : ∀ vs H Q E, sp vs H Q E → vs.length = ps.length)
    (hbody : ∀ (f : Addr) (cdv : Value) (A : Around) (outer : List Env) (s : Shared) (H : Hp) (vs : List V) (Q : VK) (E : XK), Room k (A.deeper (envOfC x (defScope st) s.heap.objs.size f cdv)) → sp vs H Q E →
      ∃ t, PSs (cxOf CX0 P w K mg base N x (defScope st) f cdv A outer s H E).nox (defBody st) t ∧ t { nx := fun _ H' => Q .non H', rt := Q } (start N vs) H) : FnAt P w K mg base (k + 1) x ps sp := by
  obtain ⟨f, fd, F, hm, hb⟩ := D
  exact ⟨f, fd, F.ok S len fun cdv A outer s H vs Q E hr h => hbody f cdv A outer s H vs Q E hr h, hm, F.kp, hb⟩
def tF (sp : Sp) (t : TA) : TE := fun σ H Q => t σ H fun vs H1 => sp vs H1 Q E0
section
variable {X : Cx} {k : Nat} {x : Str} {ps : List Str} {sp : Sp} {e : Expr} {es : List Expr} {t : TA} {p pos : Pos}
theorem pe_f (F : FnAt X.prog X.w X.K X.mg X.base k x ps sp) (hr : Room k X.A) (ha : PA X (e :: es) t) (hg : Gl X x := by rfl) (hdb : (x == ("__debug__" : Str)) = false := by decide)
    (he : starEach (e :: es) X.env = (false, eval e X.env) :: starEach es X.env := by rfl) (hpl : (backTo pos (starEach es X.env)).any (·.1) = false := by rfl) : PE X (.Call (.Name x p) (e :: es) [] pos) (tF sp t) := by
  obtain ⟨f, fd, F, hm, hk, hb⟩ := F
  have q := pe_call (p := p) (pos := pos) F hr hg hm hk hb .nil (pass0 (X := X)) ha hdb he hpl
  have e : tCall sp [] E0 t = tF sp t := by
    unfold tCall tF
    simp only [List.append_nil]
  rw [e] at q
  exact q
theorem pe_b {id : String} {r : List V → Hp → VK → Prop} (hc : CallR X (.builtin id) r) (hm : X.mg x = none) (hv : bootBuiltins x = some (.builtin id)) (ha : PA X (e :: es) t) (hg : Gl X x := by rfl) (hn : x ≠ "__name__" := by decide) (hdb : (x == ("__debug__" : Str)) = false := by decide)
    (he : starEach (e :: es) X.env = (false, eval e X.env) :: starEach es X.env := by rfl) (hpl : (backTo pos (starEach es X.env)).any (·.1) = false := by rfl) : PE X (.Call (.Name x p) (e :: es) [] pos) (tCB r t) := pe_callB hc hg hm hv ha hn hdb he hpl
theorem pe_t {T : String} {r : List V → Hp → VK → Prop} (hc : CallR X (.type T) r) (hm : X.mg x = none) (hv : bootBuiltins x = some (.type T)) (ha : PA X (e :: es) t) (hg : Gl X x := by rfl) (hn : x ≠ "__name__" := by decide) (hdb : (x == ("__debug__" : Str)) = false := by decide)
    (he : starEach (e :: es) X.env = (false, eval e X.env) :: starEach es X.env := by rfl) (hpl : (backTo pos (starEach es X.env)).any (·.1) = false := by rfl) : PE X (.Call (.Name x p) (e :: es) [] pos) (tCB r t) := pe_callTy hc hg hm hv ha hn hdb he hpl
theorem pe_ty {T : String} {pos : Pos} (hm : X.mg x = none) (hv : bootBuiltins x = some (.type T)) (hg : Gl X x := by rfl) (hn : x ≠ "__name__" := by decide) (hd : (x == ("__debug__" : Str)) = false := by decide) : PE X (.Name x pos) (tC (.ty T)) :=
  pe_bltn hg hm hv rfl hn hd
theorem pg_c {N' : List Str} {scope : Scope} {cl : List (Str × Addr)} {C : Addr} {s2 : Shared} {H2 : Hp} {ex : List Addr} (i : Nat) {y : Str} (nd : N'.Nodup) (hi : N'[i]? = some y := by rfl) (hx : (relabel scope X.env).names.lookup y = some .local := by rfl) :
    PG (X.comp N' scope cl C s2 H2 ex) (.Name y pos) (gName i) := pg_name (X := X.comp N' scope cl C s2 H2 ex) nd hi (.inl hx) (.inr hx)
end
section
variable {X : Cx}
theorem ixL (K : PySem.W.Frag) (hK : X.K = K := by rfl) : IxR X (rIxL K) := by subst hK; exact ix_list
theorem ixT (K : PySem.W.Frag) (hK : X.K = K := by rfl) : IxR X (rIxT K) := by subst hK; exact ix_tup
theorem lenK (K : PySem.W.Frag) (hK : X.K = K := by rfl) : CallR X (.builtin "len") (fun xs H Q => ∃ p ys, xs = [.ref p] ∧ (SqL K H p ys ∨ SqT K H p ys) ∧ Q (.int ys.length) H) := by subst hK; exact call_len_seq
end
theorem kit_ii (K : PySem.W.Frag) : PySem.W.kitOne K (.type "int") (.type "int") = some true := by kernel_rfl
theorem kit_ib (K : PySem.W.Frag) : PySem.W.kitOne K (.type "int") (.type "bool") = some false := by kernel_rfl
theorem kit_ll (K : PySem.W.Frag) : PySem.W.kitOne K (.type "list") (.type "list") = some true := by kernel_rfl
theorem kit_tt (K : PySem.W.Frag) : PySem.W.kitOne K (.type "tuple") (.type "tuple") = some true := by kernel_rfl
end L2
set_option Elab.async false
set_option linter.all false
set_option maxRecDepth 100000
set_option maxHeartbeats 4000000
namespace L2
open PySem PySem.Spec PyProof.Rows
section
variable {X : Cx}
def rAddI : R2 := fun x y H Q => ∃ i j : Int, x = .int i ∧ y = .int j ∧ Q (.int (i + j)) H
def rSubI : R2 := fun x y H Q => ∃ i j : Int, x = .int i ∧ y = .int j ∧ Q (.int (i - j)) H
def rMulI : R2 := fun x y H Q => ∃ i j : Int, x = .int i ∧ y = .int j ∧ CMul i j ∧ Q (.int (i * j)) H
def rModI : R2 := fun x y H Q => ∃ i j : Int, x = .int i ∧ y = .int j ∧ 0 < j ∧ Q (.int (i % j)) H
def rDivI : R2 := fun x y H Q => ∃ i j : Int, x = .int i ∧ y = .int j ∧ CDiv i j ∧ Q (.int (i / j)) H
def rPowI : R2 := fun x y H Q => ∃ i j : Int, x = .int i ∧ y = .int j ∧ CPow i j ∧ Q (.int (i ^ j.toNat)) H
def rLtI : R2 := fun x y H Q => ∃ i j : Int, x = .int i ∧ y = .int j ∧ Q (.bl (decide (i < j))) H
def rLeI : R2 := fun x y H Q => ∃ i j : Int, x = .int i ∧ y = .int j ∧ Q (.bl (decide (i ≤ j))) H
def rGtI : R2 := fun x y H Q => ∃ i j : Int, x = .int i ∧ y = .int j ∧ Q (.bl (decide (j < i))) H
def rGeI : R2 := fun x y H Q => ∃ i j : Int, x = .int i ∧ y = .int j ∧ Q (.bl (decide (j ≤ i))) H
def rNegI : V → Hp → VK → Prop := fun x H Q => ∃ i : Int, x = .int i ∧ Q (.int (-i)) H
theorem o_add : OpR X (binaryOp .Add) rAddI := op_add
theorem o_sub : OpR X (binaryOp .Sub) rSubI := op_sub
theorem o_mul : OpR X (binaryOp .Mult) rMulI := op_mul
theorem o_mod : OpR X (binaryOp .Mod) rModI := op_mod
theorem o_div : OpR X (binaryOp .FloorDiv) rDivI := op_fdiv
theorem o_pow : OpR X (binaryOp .Pow) rPowI := op_pow
theorem o_lt : OpR X (compareOp .Lt) rLtI := op_lt
theorem o_le : OpR X (compareOp .LtE) rLeI := op_le
theorem o_gt : OpR X (compareOp .Gt) rGtI := op_gt
theorem o_ge : OpR X (compareOp .GtE) rGeI := op_ge
theorem o_neg : UnR X (unaryOp .USub) rNegI := un_neg
end
end L2
set_option Elab.async false
set_option linter.all false
set_option maxRecDepth 100000
set_option maxHeartbeats 4000000
namespace L2
open PySem PySem.Spec PyProof.Rows
theorem set2 {σ : St} {a b u v : Option V} : ((((σ.set 0 a).set 1 b).set 0 u).set 1 v) = (σ.set 0 u).set 1 v := by
  rw [List.set_comm b u (by decide : (1 : Nat) ≠ 0), List.set_set, List.set_set]
theorem compE_by {K : PySem.W.Frag} {a : Addr} {xs : List V} {σ0 : St} {H1 : Hp} {D : Addr} {tc : TT} {te : TE} {Q : VK} (Pv : Nat → List V → Hp → Prop) (h0 : Pv 0 [] (upd H1 D (.lst [])))
    (hl : ∀ i ys H', i ≤ xs.length → Pv i ys H' → H' D = some (.lst ys) ∧ SqL K H' a xs)
    (step : ∀ i x ys H' T, xs[i]? = some x → Pv i ys H' → H' T = none → tc ((σ0.set 0 (some (.int (i : Nat)))).set 1 (some x)) (upd H' T (.tup [.int (i : Nat), x])) fun b H4 =>
      if b = true then te ((σ0.set 0 (some (.int (i : Nat)))).set 1 (some x)) H4 fun y H5 => H5 D = some (.lst ys) ∧ ys.length < sizeLine ∧ Pv (i + 1) (ys ++ [y]) (upd H5 D (.lst (ys ++ [y]))) else Pv (i + 1) ys H4)
    (fin : ∀ ys H', Pv xs.length ys H' → Q (.ref D) H') :
    ∃ W : Nat → Nat → List V → St → Hp → Prop, (∃ m, W 0 m [] σ0 (upd H1 D (.lst []))) ∧
      ∀ i m ys σ' H', W i m ys σ' H' → H' D = some (.lst ys) ∧ (((Ite K a).stop i H' ∧ Q (.ref D) H') ∨ ((Ite K a).go i H' ∧ ∀ x H2, (Ite K a).yld i H' x H2 → gTup K 2 (gCons (gName 0) (gCons (gName 1) gNil)) x σ' H2 fun σ2 H3 => tc σ2 H3 fun b H4 =>
        if b = true then te σ2 H4 fun y H5 => H5 D = some (.lst ys) ∧ ys.length < sizeLine ∧ ∃ m', m' < m ∧ W (i + 1) m' (ys ++ [y]) σ2 (upd H5 D (.lst (ys ++ [y])))
        else ∃ m', m' < m ∧ W (i + 1) m' ys σ2 H4)) := by
  refine ⟨fun i m ys σ' H' => m = xs.length - i ∧ i ≤ xs.length ∧ (∀ u v, (σ'.set 0 u).set 1 v = (σ0.set 0 u).set 1 v) ∧ Pv i ys H', ⟨xs.length, by simp, Nat.zero_le _, fun _ _ => rfl, h0⟩, ?_⟩
  rintro i m ys σ' H' ⟨rfl, hi, es, p⟩
  obtain ⟨hD, hq⟩ := hl i ys H' hi p
  refine ⟨hD, ?_⟩
  by_cases hlt : i < xs.length
  · refine .inr ⟨⟨xs, xs[i], hq, by simp [hlt]⟩, fun x H2 y => ?_⟩
    obtain ⟨T, z, rfl, hT, rfl, y⟩ := y
    have st := step i z ys H' T (y xs hq) p hT
    refine ⟨T, _, rfl, SqT.of upd_same, rfl, _, _, rfl, _, _, rfl, rfl, ?_⟩
    rw [es]
    have e2 : ∀ ys' H5, (∃ m', m' < xs.length - i ∧ m' = xs.length - (i + 1) ∧ i + 1 ≤ xs.length ∧ (∀ u v, ((((σ0.set 0 (some (.int (i : Nat)))).set 1 (some z)).set 0 u).set 1 v) = (σ0.set 0 u).set 1 v) ∧ Pv (i + 1) ys' H5) ↔ Pv (i + 1) ys' H5 := fun ys' H5 =>
      ⟨fun ⟨_, _, _, _, _, q⟩ => q, fun q => ⟨xs.length - (i + 1), by omega, rfl, hlt, fun _ _ => set2, q⟩⟩
    simp only [e2]
    exact st
  · have e : i = xs.length := by omega
    subst e
    exact .inl ⟨⟨xs, hq, Nat.le_refl _⟩, fin ys H' p⟩
theorem compE_run {K : PySem.W.Frag} {a : Addr} {xs : List V} {σ0 : St} {H1 : Hp} {tc : TT} {te : TE} {Q : VK} (Pv : Addr → Nat → List V → Hp → Prop) (h0 : ∀ D, H1 D = none → Pv D 0 [] (upd H1 D (.lst [])))
    (hl : ∀ D i ys H', H1 D = none → i ≤ xs.length → Pv D i ys H' → H' D = some (.lst ys) ∧ SqL K H' a xs)
    (step : ∀ D i x ys H' T, H1 D = none → xs[i]? = some x → Pv D i ys H' → H' T = none → tc ((σ0.set 0 (some (.int (i : Nat)))).set 1 (some x)) (upd H' T (.tup [.int (i : Nat), x])) fun b H4 =>
      if b = true then te ((σ0.set 0 (some (.int (i : Nat)))).set 1 (some x)) H4 fun y H5 => H5 D = some (.lst ys) ∧ ys.length < sizeLine ∧ Pv D (i + 1) (ys ++ [y]) (upd H5 D (.lst (ys ++ [y]))) else Pv D (i + 1) ys H4)
    (fin : ∀ D ys H', H1 D = none → Pv D xs.length ys H' → Q (.ref D) H') : CompRun (Ite K a) (gTup K 2 (gCons (gName 0) (gCons (gName 1) gNil))) tc te σ0 H1 Q :=
  fun D hD => compE_by (Pv D) (h0 D hD) (fun i ys H' hi p => hl D i ys H' hD hi p) (fun i x ys H' T hx p hT => step D i x ys H' T hD hx p hT) fun ys H' p => fin D ys H' hD p
theorem pg_c2 {X : Cx} {N' : List Str} {scope : Scope} {cl : List (Str × Addr)} {C : Addr} {s2 : Shared} {H2 : Hp} {ex : List Addr} {y z : Str} {p1 p2 pos : Pos} {k : Nat} (K : PySem.W.Frag) (hc : X.calm = true) (nd : N'.Nodup) (h0 : N'[0]? = some y := by rfl) (h1 : N'[1]? = some z := by rfl)
    (hy : (relabel scope X.env).names.lookup y = some .local := by rfl) (hz : (relabel scope X.env).names.lookup z = some .local := by rfl) (hK : X.K = K := by rfl) :
    PG (X.comp N' scope cl C s2 H2 ex) (.Tuple [.Name y p1, .Name z p2] k pos) (gTup K 2 (gCons (gName 0) (gCons (gName 1) gNil))) := by
  subst hK
  exact pg_tup (X := X.comp N' scope cl C s2 H2 ex) hc (pgs_cons (pg_name (X := X.comp N' scope cl C s2 H2 ex) nd h0 (.inl hy) (.inr hy)) (pgs_cons (pg_name (X := X.comp N' scope cl C s2 H2 ex) nd h1 (.inl hz) (.inr hz)) pgs_nil))
end L2
set_option Elab.async false
set_option linter.all false
set_option maxRecDepth 100000
set_option maxHeartbeats 4000000
namespace L2
open PySem PySem.Spec PyProof.Rows
open PySem PySem.Spec PyProof.Rows
theorem comp_tup {α : Type} {K : PySem.W.Frag} {a : Addr} {σ0 : St} {H1 : Hp} {te : TE} {Q : VK} (u : α → V) {ms : List α} (f : α → V) (hq : SqT K H1 a (ms.map u)) (hn : ms.length ≤ sizeLine)
    (he : ∀ x ∈ ms, Pu te (σ0.set 0 (some (u x))) H1 (f x))
    (fin : ∀ D H', H1 D = none → Same H1 H' → H' D = some (.lst (ms.map f)) → Q (.ref D) H') :
    CompRun (Itt K a) (gName 0) tTrue te σ0 H1 Q := by
  intro D hD
  refine comp_by (n := ms.length) (fun i ys H' => Same H1 H' ∧ H' D = some (.lst ys) ∧ ys = (ms.take i).map f) ⟨Same.new hD, upd_same, by simp⟩ (fun i ys H' _ q => q.2.1) (fun i ys H' hi q => ⟨ms.map u, u ms[i], q.1.tup hq, by simp [hi]⟩)
    (fun ys H' q => ⟨ms.map u, q.1.tup hq, by simp⟩) ?_ (fun ys H' q => ?_)
  · rintro i ys H' x H2 hi ⟨sm, hDl, hys⟩ ⟨rfl, hy⟩
    have hx := hy _ (sm.tup hq)
    rw [List.getElem?_map, List.getElem?_eq_getElem hi] at hx
    have hx : u ms[i] = x := Option.some.inj hx
    subst hx
    unfold tTrue
    refine iteT ?_
    refine he ms[i] (List.getElem_mem hi) _ _ sm fun H5 s5 => ⟨s5 _ _ hDl, ?_, (sm.trans s5).upd hD, upd_same, ?_⟩
    · rw [hys, List.length_map, List.length_take]
      omega
    · rw [List.take_add_one, List.getElem?_eq_getElem hi, List.map_append, ← hys]
      rfl
  · obtain ⟨sm, hDl, hys⟩ := q
    rw [List.take_length] at hys
    exact fin D H' hD sm (by rw [← hys]; exact hDl)
end L2
set_option Elab.async false
set_option linter.all false
set_option maxRecDepth 100000
set_option maxHeartbeats 4000000
namespace SrtT
open PySem PySem.W PyProof.Rows
section
variable {O : KeyOrd} {key : Nat → O.α} {N : Nat} {cmp : Nat → Nat → (Bool → Shared → Prop) → Shared → Prop} {s : Shared}
def kk (key : Nat → O.α) (p : Array Nat) (i : Nat) : O.α := key (p.getD i 0)
def Up (key : Nat → O.α) (p : Array Nat) (k : Nat) : Prop := ∀ i j, i ≤ j → j < k → O.kle (kk key p i) (kk key p j)
def Dn (key : Nat → O.α) (p : Array Nat) (k : Nat) : Prop := ∀ i j, i ≤ j → j < k → O.kle (kk key p j) (kk key p i)
def Fair (key : Nat → O.α) (N : Nat) (cmp : Nat → Nat → (Bool → Shared → Prop) → Shared → Prop) (s : Shared) : Prop := ∀ i j C, i < N → j < N → C (O.blt (key i) (key j)) s → cmp i j C s
def Pm (N : Nat) (p : Array Nat) : Prop := p.Perm (List.toArray (List.range N))
theorem Pm.size {p : Array Nat} (h : Pm N p) : p.size = N := by
  have e := h.size_eq
  simpa using e
theorem Pm.lt {p : Array Nat} (h : Pm N p) {i : Nat} (hi : i < N) : p.getD i 0 < N := by
  have hz := h.size
  have hip : i < p.size := by omega
  have e : p.getD i 0 = p[i] := by simp [Array.getD, hip]
  rw [e]
  have hm : p[i] ∈ (List.range N) := by
    have h1 := (Array.perm_iff_toList_perm.mp h).mem_iff (a := p[i])
    have h2 : p[i] ∈ p.toList := by simp
    simpa using h1.mp h2
  exact List.mem_range.mp hm
theorem Pm.of {p q : Array Nat} (h : Pm N p) (e : q.Perm p) : Pm N q := e.trans h
theorem kk_get {p q : Array Nat} {i j : Nat} (h : p[i]? = q[j]?) : kk key p i = kk key q j := by
  unfold kk
  have e : p.getD i 0 = q.getD j 0 := by
    rw [Array.getD_eq_getD_getElem?, Array.getD_eq_getD_getElem?, h]
  rw [e]
theorem kk_bub {p : Array Nat} {a d : Nat} (ha : a < p.size) (hd : d ≤ a) (k : Nat) :
    kk key (bubble p a d) k = if k = a - d then kk key p a else if a - d < k ∧ k ≤ a then kk key p (k - 1) else kk key p k := by
  have e := getElem?_bubble ha d hd k
  split at e
  · rename_i h1
    rw [if_pos h1]
    exact kk_get e
  · rename_i h1
    rw [if_neg h1]
    split at e
    · rename_i h2
      rw [if_pos h2]
      exact kk_get e
    · rename_i h2
      rw [if_neg h2]
      exact kk_get e
theorem kk_rev {p : Array Nat} {i j : Nat} (hj : j ≤ p.size) (k : Nat) : kk key (kas_rev p i j) k = if i ≤ k ∧ k < j then kk key p (i + j - 1 - k) else kk key p k := by
  have e := getElem?_mirror_all (xs := p) (i := i) hj k
  split at e
  · rename_i h1
    rw [if_pos h1]
    exact kk_get e
  · rename_i h1
    rw [if_neg h1]
    exact kk_get e
theorem kk_alike {p : Array Nat} {i j : Nat} (hj : j ≤ p.size) (he : ∀ k, i ≤ k → k < j → kk key p k = kk key p (j - 1)) (k : Nat) : kk key (kas_rev p i j) k = kk key p k := by
  rw [kk_rev hj]
  by_cases h : i ≤ k ∧ k < j
  · rw [if_pos h, he (i + j - 1 - k) (by omega) (by omega), he k h.1 h.2]
  · rw [if_neg h]
theorem ask {α : Type} {p : Array Nat} {i j : Nat} {k : Bool → KasT α} {Q : α → Shared → Prop} (hf : Fair key N cmp s) (hp : Pm N p) (hi : i < N) (hj : j < N)
    (h : (k (O.blt (kk key p i) (kk key p j))).kasWp cmp Q s) : (KasT.ask (p.getD i 0) (p.getD j 0) k).kasWp cmp Q s := hf _ _ _ (hp.lt hi) (hp.lt hj) h
theorem Up.one {p : Array Nat} : Up key p 1 := fun i j hij hj => by
  have : i = j := by omega
  subst this
  exact KeyOrd.kle_refl _
theorem Up.more {p : Array Nat} {n : Nat} (h1 : 1 ≤ n) (h : Up key p n) (hn : O.kle (kk key p (n - 1)) (kk key p n)) : Up key p (n + 1) := fun i j hij hj => by
  by_cases hjn : j < n
  · exact h i j hij hjn
  · have e : j = n := by omega
    subst e
    by_cases hi : i = j
    · subst hi; exact KeyOrd.kle_refl _
    · exact KeyOrd.kle_trans (h i (j - 1) (by omega) (by omega)) hn
theorem Dn.more {p : Array Nat} {n : Nat} (h1 : 1 ≤ n) (h : Dn key p n) (hn : O.kle (kk key p n) (kk key p (n - 1))) : Dn key p (n + 1) := fun i j hij hj => by
  by_cases hjn : j < n
  · exact h i j hij hjn
  · have e : j = n := by omega
    subst e
    by_cases hi : i = j
    · subst hi; exact KeyOrd.kle_refl _
    · exact KeyOrd.kle_trans hn (h i (j - 1) (by omega) (by omega))
theorem asc {p : Array Nat} {Q : Nat → Shared → Prop} (hf : Fair key N cmp s) (hp : Pm N p) : ∀ f n, 1 ≤ n → n + f ≤ N → Up key p n →
    (∀ m, n ≤ m → m ≤ n + f → Up key p m → (m = n + f ∨ O.klt (kk key p m) (kk key p (m - 1))) → Q m s) → (kas_asc p f n).kasWp cmp Q s
  | 0, n, _, _, hu, q => q n (Nat.le_refl _) (Nat.le_refl _) hu (.inl rfl)
  | f + 1, n, h1, hN, hu, q => by
    refine ask hf hp (by omega) (by omega) ?_
    cases hb : O.blt (kk key p n) (kk key p (n - 1)) with
    | true =>
      rw [if_pos rfl]
      exact q n (Nat.le_refl _) (by omega) hu (.inr hb)
    | false =>
      rw [if_neg (by simp)]
      exact asc hf hp f (n + 1) (by omega) (by omega) (hu.more h1 hb) fun m a b c d => q m (by omega) (by omega) c (d.imp (fun z => by omega) id)
theorem dsc {Q : Array Nat × Nat × Nat → Shared → Prop} (hf : Fair key N cmp s) : ∀ f p n q, Pm N p → 1 ≤ n → n + f ≤ N → Dn key p n → q + 1 ≤ n → (∀ i, n - (q + 1) ≤ i → i < n → kk key p i = kk key p (n - 1)) →
    (∀ p' m q', Pm N p' → n ≤ m → m ≤ n + f → Dn key p' m → q' + 1 ≤ m → (∀ i, m - (q' + 1) ≤ i → i < m → kk key p' i = kk key p' (m - 1)) → Q (p', m, q') s) → (kas_desc f p n q).kasWp cmp Q s
  | 0, p, n, q, hp, h1, hN, hd, hq, he, k => k p n q hp (Nat.le_refl _) (Nat.le_refl _) hd hq he
  | f + 1, p, n, q, hp, h1, hN, hd, hq, he, k => by
    refine ask hf hp (by omega) (by omega) ?_
    have hz := hp.size
    have z0 : ∀ p' : Array Nat, ∀ i, n + 1 - (0 + 1) ≤ i → i < n + 1 → kk key p' i = kk key p' (n + 1 - 1) := fun p' i a b => by
      have : i = n := by omega
      subst this
      rfl
    cases hb : O.blt (kk key p n) (kk key p (n - 1)) with
    | true =>
      rw [if_pos rfl]
      have hle := KeyOrd.kle_of_klt (O := O) hb
      by_cases hq0 : q > 0
      · rw [if_pos hq0]
        have ea := kk_alike (key := key) (p := p) (i := n - (q + 1)) (j := n) (by omega) he
        have hd' : Dn key (kas_rev p (n - (q + 1)) n) (n + 1) := fun i j a b => by
          rw [ea, ea]
          exact (hd.more h1 hle) i j a b
        exact dsc hf f _ (n + 1) 0 (hp.of (mirror_perm _ _ _ _)) (by omega) (by omega) hd' (by omega) (z0 _) fun p' m q' a b c d e g => k p' m q' a (by omega) (by omega) d e g
      · rw [if_neg hq0]
        exact dsc hf f _ (n + 1) 0 hp (by omega) (by omega) (hd.more h1 hle) (by omega) (z0 _) fun p' m q' a b c d e g => k p' m q' a (by omega) (by omega) d e g
    | false =>
      rw [if_neg (by simp)]
      refine ask hf hp (by omega) (by omega) ?_
      cases hb2 : O.blt (kk key p (n - 1)) (kk key p n) with
      | true =>
        rw [if_pos rfl]
        exact k p n q hp (Nat.le_refl _) (by omega) hd hq he
      | false =>
        rw [if_neg (by simp)]
        have ex : kk key p n = kk key p (n - 1) := KeyOrd.kle_antisymm hb2 hb
        have hle : O.kle (kk key p n) (kk key p (n - 1)) := by rw [ex]; exact KeyOrd.kle_refl _
        refine dsc hf f _ (n + 1) (q + 1) hp (by omega) (by omega) (hd.more h1 hle) (by omega) (fun i a b => ?_) fun p' m q' a b c d e g => k p' m q' a (by omega) (by omega) d e g
        show kk key p i = kk key p n
        by_cases hi : i = n
        · rw [hi]
        · rw [ex]
          exact he i (by omega) (by omega)
theorem tl3 {n r : Nat} {p : Array Nat} {Q : Nat × Array Nat → Shared → Prop} (hf : Fair key N cmp s) (hp : Pm N p) (h1 : 1 ≤ n) (hn : n ≤ r) (hr : r ≤ N) (hd : Dn key p n)
    (k : ∀ m p', Pm N p' → 1 ≤ m → m ≤ r → Up key p' m → Q (m, p') s) : (kas_tail3 n r p).kasWp cmp Q s := by
  unfold kas_tail3
  rw [KasT.kasWp_bind]
  have hz := hp.size
  have hp' : Pm N (kas_rev p 0 n) := hp.of (mirror_perm _ _ _ _)
  refine asc hf hp' (r - n) n h1 (by omega) (fun i j a b => ?_) fun m a b c _ => k m _ hp' (by omega) (by omega) c
  rw [kk_rev (by omega), kk_rev (by omega), if_pos (by omega), if_pos (by omega)]
  exact hd _ _ (by omega) (by omega)
theorem dpart {n r : Nat} {p : Array Nat} {Q : Nat × Array Nat → Shared → Prop} (hf : Fair key N cmp s) (hp : Pm N p) (hn : n + 1 ≤ r) (hr : r ≤ N) (hd : Dn key p (n + 1))
    (k : ∀ m p', Pm N p' → 1 ≤ m → m ≤ r → Up key p' m → Q (m, p') s) : (kas_descPart n r p).kasWp cmp Q s := by
  unfold kas_descPart
  rw [KasT.kasWp_bind]
  refine dsc hf (r - (n + 1)) p (n + 1) 0 hp (by omega) (by omega) hd (by omega) (fun i a b => ?_) fun p' m q hp' a b c d e => ?_
  · have : i = n := by omega
    subst this
    rfl
  · have hz := hp'.size
    show (if q > 0 then kas_tail3 m r (kas_rev p' (m - (q + 1)) m) else kas_tail3 m r p').kasWp cmp Q s
    by_cases hq : q > 0
    · rw [if_pos hq]
      have ea := kk_alike (key := key) (p := p') (i := m - (q + 1)) (j := m) (by omega) e
      exact tl3 hf (hp'.of (mirror_perm _ _ _ _)) (by omega) (by omega) hr (fun i j x y => by rw [ea, ea]; exact c i j x y) k
    · rw [if_neg hq]
      exact tl3 hf hp' (by omega) (by omega) hr c k
theorem cnt {r : Nat} {p : Array Nat} {Q : Nat × Array Nat → Shared → Prop} (hf : Fair key N cmp s) (hp : Pm N p) (h1 : 1 ≤ r) (hr : r ≤ N)
    (k : ∀ m p', Pm N p' → 1 ≤ m → m ≤ r → Up key p' m → Q (m, p') s) : (kas_count r p).kasWp cmp Q s := by
  unfold kas_count
  rw [KasT.kasWp_bind]
  have hz := hp.size
  refine asc hf hp (r - 1) 1 (Nat.le_refl _) (by omega) Up.one fun n a b c d => ?_
  by_cases hn : n = r
  · rw [if_pos (by simpa using hn)]
    exact k n p hp a (by omega) c
  · rw [if_neg (by simpa using hn)]
    have hlt : O.klt (kk key p n) (kk key p (n - 1)) := d.resolve_left (by omega)
    by_cases hg : n > 1
    · rw [if_pos hg]
      refine ask hf hp (by omega) (by omega) ?_
      cases hb : O.blt (kk key p 0) (kk key p (n - 1)) with
      | true =>
        rw [if_pos rfl]
        exact k n p hp a (by omega) c
      | false =>
        rw [if_neg (by simp)]
        have all : ∀ i, 0 ≤ i → i < n → kk key p i = kk key p (n - 1) := fun i _ hi =>
          KeyOrd.kle_antisymm (c i (n - 1) (by omega) (by omega)) (KeyOrd.kle_trans (show O.kle _ _ from hb) (c 0 i (Nat.zero_le _) hi))
        have ea := kk_alike (key := key) (p := p) (i := 0) (j := n) (by omega) all
        refine dpart hf (hp.of (mirror_perm _ _ _ _)) (by omega) hr (fun i j x y => ?_) k
        rw [ea, ea]
        refine Dn.more a (fun i j x y => ?_) (KeyOrd.kle_of_klt hlt) i j x y
        rw [all i (by omega) (by omega), all j (by omega) y]
        exact KeyOrd.kle_refl _
    · rw [if_neg hg]
      have e : n = 1 := by omega
      subst e
      refine dpart hf hp (by omega) hr (Dn.more (Nat.le_refl _) (fun i j x y => ?_) (KeyOrd.kle_of_klt hlt)) k
      have : i = j := by omega
      subst this
      exact KeyOrd.kle_refl _
theorem plc {p : Array Nat} {k : Nat} {Q : Nat → Shared → Prop} (hf : Fair key N cmp s) (hp : Pm N p) (hk : k < N) (hu : Up key p k) : ∀ f l r, l ≤ r → r ≤ k → r - l ≤ f → (∀ i, i < l → O.kle (kk key p i) (kk key p k)) → (∀ i, r ≤ i → i < k → O.klt (kk key p k) (kk key p i)) →
    (∀ l, l ≤ k → (∀ i, i < l → O.kle (kk key p i) (kk key p k)) → (∀ i, l ≤ i → i < k → O.klt (kk key p k) (kk key p i)) → Q l s) → (kas_place p k f l r).kasWp cmp Q s
  | 0, l, r, h1, h2, h3, lo, hi, q => by
    have : l = r := by omega
    subst this
    exact q l h2 lo hi
  | f + 1, l, r, h1, h2, h3, lo, hi, q => by
    unfold kas_place
    by_cases hg : l ≥ r
    · rw [if_pos hg]
      have : l = r := by omega
      subst this
      exact q l h2 lo hi
    · rw [if_neg hg]
      refine ask hf hp hk (by omega) ?_
      cases hb : O.blt (kk key p k) (kk key p ((l + r) / 2)) with
      | true =>
        rw [if_pos rfl]
        exact plc hf hp hk hu f l _ (by omega) (by omega) (by omega) lo (fun i a b => KeyOrd.klt_of_klt_of_kle hb (hu _ _ a b)) q
      | false =>
        rw [if_neg (by simp)]
        exact plc hf hp hk hu f _ r (by omega) h2 (by omega) (fun i a => KeyOrd.kle_trans (hu i ((l + r) / 2) (by omega) (by omega)) (show O.kle _ _ from hb)) hi q
theorem bin {Q : Array Nat → Shared → Prop} (hf : Fair key N cmp s) : ∀ f p k, Pm N p → k + f ≤ N → Up key p k → (∀ p', Pm N p' → Up key p' (k + f) → Q p' s) → (kas_bin f p k).kasWp cmp Q s
  | 0, p, k, hp, _, hu, q => q p hp hu
  | f + 1, p, k, hp, hN, hu, q => by
    unfold kas_bin
    rw [KasT.kasWp_bind]
    refine plc hf hp (by omega) hu k 0 k (Nat.zero_le _) (Nat.le_refl _) (by omega) (fun i z => by omega) (fun i a b => by omega) fun l hl lo hi => ?_
    have hz := hp.size
    refine bin hf f _ (k + 1) (hp.of (bubble_perm _ _ _)) (by omega) (fun i j a b => ?_) fun p' hp' hu' => q p' hp' (by rw [show k + (f + 1) = k + 1 + f by omega]; exact hu')
    rw [kk_bub (by omega) (by omega), kk_bub (by omega) (by omega), show k - (k - l) = l by omega]
    by_cases i1 : i = l
    · rw [if_pos i1]
      by_cases j1 : j = l
      · rw [if_pos j1]; exact KeyOrd.kle_refl _
      · rw [if_neg j1, if_pos (by omega)]
        exact KeyOrd.kle_of_klt (hi _ (by omega) (by omega))
    · rw [if_neg i1]
      by_cases i2 : l < i ∧ i ≤ k
      · rw [if_pos i2, if_neg (by omega), if_pos (by omega)]
        exact hu _ _ (by omega) (by omega)
      · rw [if_neg i2]
        by_cases j1 : j = l
        · rw [if_pos j1]; exact lo _ (by omega)
        · rw [if_neg j1]
          by_cases j2 : l < j ∧ j ≤ k
          · rw [if_pos j2]
            exact hu _ _ (by omega) (by omega)
          · rw [if_neg j2]
            exact hu _ _ a (by omega)
theorem srt {Q : Array Nat → Shared → Prop} (hf : Fair key N cmp s) (h2 : 1 ≤ N) (q : ∀ p, Pm N p → Up key p N → Q p s) : (kas_sort N).kasWp cmp Q s := by
  unfold kas_sort
  rw [KasT.kasWp_bind]
  refine cnt hf (Array.Perm.refl _) h2 (Nat.le_refl _) fun m p hp h1 hm hu => ?_
  show (if m < N then kas_bin (N - max m 1) p (max m 1) else KasT.ret p).kasWp cmp Q s
  have e : max m 1 = m := by omega
  rw [e]
  by_cases hlt : m < N
  · rw [if_pos hlt]
    exact bin hf _ _ _ hp (by omega) hu fun p' a b => q p' a (by rw [show m + (N - m) = N by omega] at b; exact b)
  · rw [if_neg hlt]
    have : m = N := by omega
    subst this
    exact q p hp hu
end
end SrtT
set_option Elab.async false
set_option linter.all false
set_option maxRecDepth 100000
set_option maxHeartbeats 4000000
namespace SrtT
open PySem PyProof.Rows
section
open PySem.SeqAt
open PySem.AutoSeq1 (wpAny_loadPart')
open PySem.MeetsSeq PySem.MeetsSeq2 PySem.MeetsSeq3
theorem ints_get : ∀ {vs : List Value} {ns : List Int} {i : Nat}, IntsAre vs ns → i < ns.length → ∃ t, vs[i]? = some (.int (ns.getD i 0) t)
  | _, _, i, .nil, h => by simp at h
  | _, _, 0, .cons n t r, h => ⟨t, by simp⟩
  | _, _, i + 1, .cons n t r, h => by
    obtain ⟨u, e⟩ := ints_get (i := i) r (by simpa using h)
    exact ⟨u, by simpa using e⟩
end
section
variable {prog : Program} {w : World} {A : Around} {E : Value → Shared → Prop} {s : Shared}
end
end SrtT
set_option Elab.async false
set_option linter.all false
set_option maxRecDepth 100000
set_option maxHeartbeats 4000000
namespace SrtT
open PySem PySem.W PyProof.Rows
def outOf (vs : List Value) (p : Array Nat) : List Value := p.toList.map fun i => vs.getD i Value.none
section
variable {prog : Program} {w : World} {A : Around} {E : Value → Shared → Prop} {s : Shared} {O : KeyOrd} {key : Nat → O.α} {vs : List Value}
def Look (prog : Program) (w : World) (A : Around) (O : KeyOrd) (key : Nat → O.α) (vs : List Value) (s : Shared) : Prop :=
  ∀ h' : Heap, (∀ b o, s.heap.get? b = some o → h'.get? b = some o) → ∃ κ, (2 ≤ vs.length → ∀ (Q : SortKind → Shared → Prop) (E : Value → Shared → Prop), Q κ { s with heap := h' } → wpAny (model prog w) A (keyKind' vs.toArray) Q E { s with heap := h' }) ∧
    Fair key vs.length (kas_ask prog w A κ vs) { s with heap := h' }
theorem upd_hole {h : Heap} {a : Addr} {n : Nat} (qa : h.get? a = some (seqObj "list" vs.toArray n)) : ∃ m, (h.update a (Obj.mapSeq fun _ => (#[] : Array Value))).get? a = some (seqObj "list" #[] m) := ⟨_, get?_update_seq qa fun _ => #[]⟩
theorem sortIn {a : Addr} {n : Nat} {P : PySem.Fin → Shared → Prop} (qa : s.heap.get? a = some (seqObj "list" vs.toArray n)) (hk : ∀ h' : Heap, (∀ b o, b ≠ a → s.heap.get? b = some o → h'.get? b = some o) →
      ∃ κ, (2 ≤ vs.length → ∀ (Q : SortKind → Shared → Prop) (E : Value → Shared → Prop), Q κ { s with heap := h' } → wpAny (model prog w) A (keyKind' vs.toArray) Q E { s with heap := h' }) ∧ Fair key vs.length (kas_ask prog w A κ vs) { s with heap := h' }) (h64 : vs.length < 64)
    (q : ∀ p, Pm vs.length p → Up key p vs.length → P (.done (.ret .none)) { s with heap := sortedHeap s.heap a vs (outOf vs p).toArray }) : wpAny (model prog w) A (Builtin.«list.sort» ⟨[.ref a], []⟩) P E s := by
  have la : a < s.heap.objs.size := Heap.lt_size qa
  obtain ⟨m, q1⟩ := upd_hole qa
  have q6 : (((s.heap.update a (Obj.mapSeq fun _ => (#[] : Array Value))).push (seqObj "tuple" vs.toArray 0)).push (seqObj "list" #[] 0)).get? a = some (seqObj "list" #[] m) := Heap.get?_push_of_some _ (Heap.get?_push_of_some _ q1)
  have keep : ∀ b o, b ≠ a → s.heap.get? b = some o → (((s.heap.update a (Obj.mapSeq fun _ => (#[] : Array Value))).push (seqObj "tuple" vs.toArray 0)).push (seqObj "list" #[] 0)).get? b = some o := fun b o hb e =>
    Heap.get?_push_of_some _ (Heap.get?_push_of_some _ ((Heap.get?_update_ne _ _ _ _ hb).trans e))
  obtain ⟨κ, k1, k2⟩ := hk _ keep
  rw [list_sort_plain]
  refine wpAny_bind (listItems_at qa rfl ?_)
  refine wpAny_bind (listUpdate_at qa rfl ?_ (by rw [List.size_toArray, sizeLine_eq]; omega) (Nat.zero_le _))
  refine wpAny_bind (seqEpoch_at q1 rfl (wpAny_bind (wpAny_newTuple ?_ (by show vs.length ≤ _; rw [sizeLine_eq]; omega))))
  refine wpAny_bind (wpAny_newList (wpAny_holding ?_) (Nat.zero_le _))
  show wpAny (model prog w) A _ P E { s with heap := (((s.heap.update a (Obj.mapSeq fun _ => (#[] : Array Value))).push (seqObj "tuple" vs.toArray 0)).push (seqObj "list" #[] 0)) }
  dsimp only
  have hout : ∀ p, Pm vs.length p → ((p.map (kas_item (pairsOf vs))).map (·.2)) = (outOf vs p).toArray := fun p hp => by
    apply Array.toList_inj.mp
    rw [Array.map_map, Array.toList_map]
    exact List.map_congr_left fun i _ => by show (kas_item (pairsOf vs) i).2 = _; rw [kas_item_eq]
  have hlen : ∀ p, Pm vs.length p → (outOf vs p).toArray.size ≤ sizeLine + 1 := fun p hp => by
    have z := hp.size
    rw [List.size_toArray, outOf, List.length_map, Array.length_toList, z, sizeLine_eq]
    omega
  by_cases h2 : vs.toArray.size < 2
  · rw [if_pos h2, if_pos h2]
    rw [List.size_toArray] at h2
    refine wpAny_bind (wpAny_pure ?_)
    rw [StateT.run_pure]
    refine wpAny_bind (wpAny_pure ?_)
    dsimp only
    have hp : Pm vs.length (List.toArray (List.range vs.length)) := Array.Perm.refl _
    have e0 : (arrOf (SortSt.mk' general' (vs.toArray.zip vs.toArray) #[] 7 none)).map (·.2) = (outOf vs (List.toArray (List.range vs.length))).toArray := by
      rw [← hout _ hp]
      have e := kas_range (pairsOf vs)
      rw [pairsOf_size] at e
      rw [e]
      rfl
    rw [e0]
    refine wpAny_bind (seqEpoch_at q6 rfl (wpAny_bind (listUpdate_at q6 rfl ?_ (Nat.zero_le _) (hlen _ hp))))
    simp only [bne_self_eq_false, Bool.false_eq_true, if_false]
    refine wpAny_pure (q _ hp fun i j a b => ?_)
    have : i = j := by omega
    subst this
    exact KeyOrd.kle_refl _
  · rw [if_neg h2, if_neg h2]
    rw [List.size_toArray] at h2
    refine wpAny_bind (k1 (by omega) _ _ ?_)
    refine wpAny_bind (wpAny_mono (kat_run (κ := κ) (Q := fun st s' => s' = { s with heap := ((s.heap.update a (Obj.mapSeq fun _ => (#[] : Array Value))).push (seqObj "tuple" vs.toArray 0)).push (seqObj "list" #[] 0) } ∧
        ∃ p, Pm vs.length p ∧ Up key p vs.length ∧ arrOf st = p.map (kas_item (pairsOf vs)) ∧ failedOf st = none) (G := fun p s' => s' = { s with heap := ((s.heap.update a (Obj.mapSeq fun _ => (#[] : Array Value))).push (seqObj "tuple" vs.toArray 0)).push (seqObj "list" #[] 0) } ∧ Pm vs.length p ∧ Up key p vs.length)
      rfl (by omega) h64 (fun p st s' _ a1 a2 a3 => ⟨a3.1, p, a3.2.1, a3.2.2, a1, a2⟩) (srt k2 (by omega) fun p a b => ⟨rfl, a, b⟩)) ?_ fun _ _ e => e)
    rintro ⟨⟨⟩, st⟩ s' ⟨rfl, p, hp, hu, har, hfa⟩
    dsimp only
    rw [har, hout p hp]
    refine wpAny_bind (seqEpoch_at q6 rfl (wpAny_bind (listUpdate_at q6 rfl ?_ (Nat.zero_le _) (hlen _ hp))))
    rw [hfa]
    simp only [bne_self_eq_false, Bool.false_eq_true, if_false]
    exact wpAny_pure (q p hp hu)
theorem sortedBy {l : Addr} {Q : Value → Shared → Prop} (hl : s.heap.IsList l vs.toArray) (hk : Look prog w A.in1.in1 O key vs s) (h64 : vs.length < 64)
    (q : ∀ p, Pm vs.length p → Up key p vs.length → Q (.ref (s.heap.objs.size + 1)) { s with heap := sortedAll s.heap vs (outOf vs p).toArray }) : wpAny (model prog w) A (call (.builtin "sorted") [.ref l]) Q E s := by
  refine Calls.call_function_entry kind_sorted plain_sorted entry_sorted (args_sorted1 _) ?_
  unfold Builtin.«sorted»
  refine wpAny_bind (m := checkCount "sorted" 1 1 _) (wpAny_pure (wpAny_bind (collect_list hl (wpAny_bind (wpAny_newList ?_ (by rw [sizeLine_eq]; omega))) (by rw [sizeLine_eq]; omega))))
  have z1 : ((s.heap.push (seqObj "list" #[] 0)).update s.heap.objs.size (Obj.mapSeq (· ++ vs.toArray))).objs.size = s.heap.objs.size + 1 := by rw [Heap.size_update, size_push']
  have q1 : (((s.heap.push (seqObj "list" #[] 0)).update s.heap.objs.size (Obj.mapSeq (· ++ vs.toArray))).push (seqObj "list" vs.toArray 0)).get? (s.heap.objs.size + 1) = some (seqObj "list" vs.toArray 0) := by
    rw [← z1]; exact Heap.get?_push_size _ rfl
  have keep : ∀ b o, s.heap.get? b = some o → (((s.heap.push (seqObj "list" #[] 0)).update s.heap.objs.size (Obj.mapSeq (· ++ vs.toArray))).push (seqObj "list" vs.toArray 0)).get? b = some o := fun b o e => by
    have hlt : b < s.heap.objs.size := Heap.lt_size e
    have n0 : b ≠ s.heap.objs.size := Nat.ne_of_lt hlt
    rw [Heap.get?_push_ne _ _ _ (by rw [z1]; exact Nat.ne_of_lt (Nat.lt_succ_of_lt hlt)), Heap.get?_update_ne _ _ _ _ n0, Heap.get?_push_ne _ _ _ n0]
    exact e
  show wpAny _ _ _ _ _ { s with heap := (((s.heap.push (seqObj "list" #[] 0)).update s.heap.objs.size (Obj.mapSeq (· ++ vs.toArray))).push (seqObj "list" vs.toArray 0)) }
  rw [z1]
  refine wpAny_bind (wpAny_holding (wpAny_call_entry slot_list_sort ⟨_, q1, rfl⟩ entry_list_sort (sortIn (key := key) q1 (fun h' k => hk h' fun b o e => k b o (Nat.ne_of_lt (Nat.lt_succ_of_lt (Heap.lt_size e))) (keep b o e)) h64 fun p a b => ⟨_, rfl, wpAny_pure ⟨_, rfl, q p a b⟩⟩) (args_list_sort _)))
end
theorem lex_irr : ∀ a : List Int, HT.lexLt a a = false
  | [] => rfl
  | x :: xs => by rw [HT.lexLt_cons, if_pos rfl, lex_irr xs]
theorem lex_tr : ∀ a b c : List Int, HT.lexLt a b = true → HT.lexLt b c = true → HT.lexLt a c = true
  | [], [], _, h, _ => by simp [HT.lexLt_nil_nil] at h
  | [], _ :: _, [], _, h => by simp [HT.lexLt_cons_nil] at h
  | [], _ :: _, _ :: _, _, _ => rfl
  | _ :: _, [], _, h, _ => by simp [HT.lexLt_cons_nil] at h
  | _ :: _, _ :: _, [], _, h => by simp [HT.lexLt_cons_nil] at h
  | x :: xs, y :: ys, z :: zs, h1, h2 => by
    rw [HT.lexLt_cons] at h1 h2 ⊢
    by_cases e1 : x = y
    · subst e1
      rw [if_pos rfl] at h1
      by_cases e2 : x = z
      · rw [if_pos e2] at h2 ⊢
        exact lex_tr xs ys zs h1 h2
      · rw [if_neg e2] at h2 ⊢
        exact h2
    · rw [if_neg e1] at h1
      by_cases e2 : y = z
      · subst e2
        rw [if_neg e1]
        exact h1
      · rw [if_neg e2] at h2
        have a1 := of_decide_eq_true h1
        have a2 := of_decide_eq_true h2
        rw [if_neg (by omega)]
        exact decide_eq_true (by omega)
theorem lex_nt : ∀ a b c : List Int, HT.lexLt a c = true → HT.lexLt a b = true ∨ HT.lexLt b c = true
  | [], [], [], h => by simp [HT.lexLt_nil_nil] at h
  | [], [], _ :: _, _ => .inr rfl
  | [], _ :: _, _, _ => .inl rfl
  | _ :: _, _, [], h => by simp [HT.lexLt_cons_nil] at h
  | _ :: _, [], _ :: _, _ => .inr rfl
  | x :: xs, y :: ys, z :: zs, h => by
    rw [HT.lexLt_cons] at h
    rw [HT.lexLt_cons, HT.lexLt_cons]
    by_cases e : x = z
    · subst e
      rw [if_pos rfl] at h
      by_cases e1 : x = y
      · subst e1
        rw [if_pos rfl, if_pos rfl]
        exact lex_nt xs ys zs h
      · rw [if_neg e1, if_neg (Ne.symm e1)]
        simp only [decide_eq_true_eq]
        omega
    · rw [if_neg e] at h
      have h := of_decide_eq_true h
      by_cases e1 : x = y
      · subst e1
        rw [if_neg e]
        exact .inr (decide_eq_true h)
      · rw [if_neg e1]
        by_cases h2 : x < y
        · exact .inl (decide_eq_true h2)
        · right
          rw [if_neg (by omega)]
          exact decide_eq_true (by omega)
theorem lex_tot : ∀ a b : List Int, HT.lexLt a b = false → HT.lexLt b a = false → a = b
  | [], [], _, _ => rfl
  | [], _ :: _, h, _ => by simp [HT.lexLt_nil_cons] at h
  | _ :: _, [], _, h => by simp [HT.lexLt_nil_cons] at h
  | x :: xs, y :: ys, h1, h2 => by
    rw [HT.lexLt_cons] at h1 h2
    by_cases e : x = y
    · subst e
      rw [if_pos rfl] at h1 h2
      rw [lex_tot xs ys h1 h2]
    · rw [if_neg e] at h1
      rw [if_neg (Ne.symm e)] at h2
      have a1 := of_decide_eq_false h1
      have a2 := of_decide_eq_false h2
      omega
def lexO : KeyOrd := ⟨List Int, HT.lexLt, lex_irr, lex_tr, lex_nt, lex_tot⟩
end SrtT
namespace L2
open PySem PySem.Spec PyProof.Rows
section
variable {X : Cx}
def mvd {α : Type} (xs : List α) (d : α) (p : Array Nat) : List α := p.toList.map fun i => xs.getD i d
theorem getD_lt' {α : Type} {xs : List α} {i : Nat} {d : α} (h : i < xs.length) : xs.getD i d = xs[i] := by simp [h]
theorem vals_mvd {xs : List V} {us : List Value} (r : Vals xs us) : ∀ is : List Nat, (∀ i ∈ is, i < xs.length) → Vals (is.map fun i => xs.getD i .non) (is.map fun i => us.getD i Value.none)
  | [], _ => .nil
  | i :: is, h => by
    refine .cons ?_ (vals_mvd r is fun j hj => h j (by simp [hj]))
    have hi := h i (by simp)
    obtain ⟨u, e, ru⟩ := r.get (i := i) (x := xs[i]) (by simp [hi])
    have e2 : us.getD i Value.none = u := by rw [List.getD_eq_getElem?_getD, e]; rfl
    show RelV (xs.getD i .non) (us.getD i Value.none)
    rw [getD_lt' hi, e2]
    exact ru
end
end L2
namespace SrtT
open PySem PySem.W PyProof.Rows
section
variable {prog : Program} {w : World} {A : Around} {E : Value → Shared → Prop} {s : Shared}
theorem lexK {b : Bool} {Q : Bool → Shared → Prop} : ∀ {xs ys : List Value} {ns ms : List Int} (fin : Bool) (i : Nat), IntsAre xs ns → IntsAre ys ms → (fin = true ↔ ns.length < ms.length) → Q (HT.lexLt ns ms) s → KatLex prog w A b fin Q (xs.zip ys) i s
  | _, _, _, _, fin, i, .nil, .nil, hf, q => by
    have : fin = false := by
      cases fin with
      | false => rfl
      | true => simp at hf
    subst this
    exact kat_nil q
  | _, _, _, _, fin, i, .nil, .cons m t r, hf, q => by
    have : fin = true := hf.mpr (by simp)
    subst this
    exact kat_nil q
  | _, _, _, _, fin, i, .cons m t r, .nil, hf, q => by
    have : fin = false := by
      cases fin with
      | false => rfl
      | true => simp at hf
    subst this
    exact kat_nil q
  | _, _, _, _, fin, i, .cons n t r, .cons m u r', hf, q => by
    rw [HT.lexLt_cons] at q
    refine kat_cons (wpAny_eqBool_int ?_)
    by_cases e : n = m
    · subst e
      rw [if_pos rfl] at q
      rw [show (n == n) = true by simp]
      exact kat_yes (lexK fin (i + 1) r r' (by simpa using hf) q)
    · rw [if_neg e] at q
      rw [show (n == m) = false by simp [e]]
      refine kat_no ?_
      cases b && i == 0 with
      | true => exact oneLt_int q
      | false => exact kat_one _ _ (lt_int q)
end
end SrtT
namespace L2
open PySem PySem.Spec PyProof.Rows
section
variable {X : Cx}
theorem tups_of {h : Heap} : ∀ {vs fs : List Value}, vs.length = fs.length → (∀ i, i < vs.length → ∃ a o xs n, vs.getD i Value.none = .ref a ∧ h.get? a = some o ∧ o.cls = .type "tuple" ∧ o.data = .seq xs n ∧ xs[0]? = some (fs.getD i Value.none)) → PySem.W.KatTups h vs fs
  | [], [], _, _ => .nil
  | v :: vs, f :: fs, hl, hg => by
    obtain ⟨a, o, xs, n, e1, e2, e3, e4, e5⟩ := hg 0 (by simp)
    have e1 : v = .ref a := by simpa using e1
    subst e1
    refine .cons e2 e3 e4 (by simpa using e5) (tups_of (by simpa using hl) fun i hi => ?_)
    simpa using hg (i + 1) (by simpa using hi)
theorem call_sortedT (hu : X.A.units + 64 < cLine) : CallR X (.builtin "sorted") (fun xs H Q => ∃ (a : Addr) (rs : List (Addr × List Int)), xs = [.ref a] ∧ SqL X.K H a (rs.map fun r => V.ref r.1) ∧ rs.length < 64 ∧ (∀ r ∈ rs, SqT X.K H r.1 (r.2.map V.int) ∧ 0 < r.2.length) ∧
    ∀ (D : Addr) (rs' : List (Addr × List Int)), H D = none → rs'.Perm rs → rs'.Pairwise (fun r q => HT.lexLt q.2 r.2 = false) → Q (.ref D) (upd H D (.lst (rs'.map fun r => V.ref r.1)))) := by
  intro pins s σ H xs us Q I rv h
  obtain ⟨a, rs, rfl, hq, h64, hrs, q⟩ := h
  obtain ⟨u, rfl, ru⟩ := rv.one
  cases ru
  obtain ⟨its, r, pl, hz⟩ := I.list hq
  have hlen : its.length = rs.length := by rw [← r.length, List.length_map]
  have hat : ∀ i, i < rs.length → its.getD i Value.none = .ref (rs.getD i (0, [])).1 := fun i hi => by
    obtain ⟨v, e, rv⟩ := r.get (i := i) (x := .ref rs[i].1) (by simp [hi])
    cases rv
    rw [List.getD_eq_getElem?_getD, e, getD_lt' hi]
    rfl
  have hrow : ∀ i, i < rs.length → ∃ vs, IsTup s.heap (rs.getD i (0, [])).1 vs.toArray ∧ IntsAre vs (rs.getD i (0, [])).2 ∧ 0 < vs.length := fun i hi => by
    rw [getD_lt' hi]
    obtain ⟨h1, h2⟩ := hrs rs[i] (List.getElem_mem hi)
    obtain ⟨vs, r1, p1, _⟩ := I.tuple h1
    exact ⟨vs, p1, ints_of r1, by rw [← r1.length, List.length_map]; exact h2⟩
  refine SrtT.sortedBy (O := SrtT.lexO) (key := fun i => (rs.getD i (0, [])).2) pl.isList (fun h' k => ⟨tuples' (Value.type "int" != Value.type "tuple"), fun h2 Q' E' q' => ?_, fun i j C hi hj c => ?_⟩) (by omega) fun p hp hup => ?_
  · have hf : ∀ i, ∃ f : Value, i < rs.length → ∃ t, f = .int ((rs.getD i (0, [])).2.getD 0 0) t ∧ ∃ a o xs n, its.getD i Value.none = .ref a ∧ h'.get? a = some o ∧ o.cls = .type "tuple" ∧ o.data = .seq xs n ∧ xs[0]? = some f := fun i => by
      by_cases hi : i < rs.length
      · obtain ⟨vs, ⟨o, e1, e2, n, e3⟩, i2, l2⟩ := hrow i hi
        obtain ⟨t, e4⟩ := SrtT.ints_get (i := 0) i2 (by rw [← i2.length]; exact l2)
        exact ⟨_, fun _ => ⟨t, rfl, _, o, _, n, hat i hi, k _ _ e1, e2, e3, by simpa using e4⟩⟩
      · exact ⟨.none, fun z => absurd z hi⟩
    let fs := (List.range rs.length).map fun i => Classical.choose (hf i)
    have hfs : ∀ i, i < rs.length → fs.getD i Value.none = Classical.choose (hf i) := fun i hi => by simp [fs, hi]
    refine PySem.W.kat_kind (vs := its) (fs := fs) (T := .type "int") (tups_of (by simp [fs, hlen]) fun i hi => ?_) (by simp [fs]; omega) (fun v hv => ?_) (by rfl) q'
    · rw [hfs i (by omega)]
      obtain ⟨t, _, z⟩ := Classical.choose_spec (hf i) (by omega)
      exact z
    · obtain ⟨i, hi, rfl⟩ := List.mem_map.mp hv
      obtain ⟨t, e, _⟩ := Classical.choose_spec (hf i) (List.mem_range.mp hi)
      rw [e]
      exact .of_pure rfl
  · unfold PySem.W.kas_ask
    rw [hat i (by omega), hat j (by omega)]
    obtain ⟨vi, ⟨o1, a1, b1, n1, c1⟩, ii, _⟩ := hrow i (by omega)
    obtain ⟨vj, ⟨o2, a2, b2, n2, c2⟩, ij, _⟩ := hrow j (by omega)
    refine PySem.W.kat_lt (k _ _ a1) c1 (k _ _ a2) c2 (SrtT.lexK _ 0 (by simpa using ii) (by simpa using ij) ?_ c)
    rw [decide_eq_true_eq, List.size_toArray, List.size_toArray, ii.length, ij.length]
  · rw [hlen] at hp hup
    have hin : ∀ i ∈ p.toList, i < rs.length := fun i hi => by
      obtain ⟨k, hk, rfl⟩ := List.getElem_of_mem hi
      rw [Array.length_toList, hp.size] at hk
      have e := hp.lt hk
      simpa [Array.getD, hp.size, hk] using e
    obtain ⟨e, he⟩ := sortedAll_at s.heap its (SrtT.outOf its p).toArray
    refine ⟨.ref _, _, I.laid (t' := s.toks) (o := .lst ((mvd rs (0, []) p).map fun r => V.ref r.1)) (fun b o => sortedAll_old) (Nat.le_succ _) ⟨?_, SrtT.outOf its p, e, ?_, he⟩, rfl, q _ (mvd rs (0, []) p) (I.hok.fresh (Nat.le_succ _)) ?_ ?_⟩
    · rw [List.length_map, mvd, List.length_map, Array.length_toList, hp.size, sizeLine_eq]
      omega
    · have hv := vals_mvd r p.toList (fun i hi => by rw [List.length_map]; exact hin i hi)
      unfold SrtT.outOf mvd
      rw [List.map_map]
      refine cast (congrArg (fun z => Vals z _) (List.map_congr_left fun i hi => ?_)) hv
      have := hin i hi
      simp [this]
    · have h1 := (Array.perm_iff_toList_perm.mp hp).map fun i => rs.getD i (0, [])
      have h2 : (List.range rs.length).map (fun i => rs.getD i (0, [])) = rs := by
        apply List.ext_getElem (by simp)
        intro i a b
        simp [b]
      unfold mvd
      rw [show (List.toArray (List.range rs.length)).toList = List.range rs.length from rfl, h2] at h1
      exact h1
    · rw [List.pairwise_iff_getElem]
      intro i j hi hj hij
      unfold mvd at hi hj ⊢
      rw [List.length_map, Array.length_toList, hp.size] at hi hj
      have := hup i j (by omega) hj
      unfold SrtT.kk at this
      simp [Array.getD, hp.size, hi, hj] at this ⊢
      exact this
end
end L2
set_option Elab.async false
set_option linter.all false
set_option maxRecDepth 100000
set_option maxHeartbeats 4000000
namespace L2
open PySem PySem.Spec PyProof.Rows
theorem comp_objs {α : Type} {J : It} {ms : List α} {σ0 : St} {H1 : Hp} {te : TE} {Q : VK} (u : α → V) (o : α → HO) (hn : ms.length ≤ 1000)
    (hgo : ∀ i H', i < ms.length → Same H1 H' → J.go i H') (hst : ∀ H', Same H1 H' → J.stop ms.length H') (hy : ∀ i H' x H2 (h : i < ms.length), Same H1 H' → J.yld i H' x H2 → H2 = H' ∧ x = u ms[i])
    (he : ∀ x ∈ ms, ∀ (H' : Hp) (Q' : VK), Same H1 H' → (∀ l H'', H' l = none → Same H' H'' → H'' l = some (o x) → Q' (.ref l) H'') → te (σ0.set 0 (some (u x))) H' Q')
    (fin : ∀ (D : Addr) (qs : List (Addr × α)) (H' : Hp), H1 D = none → qs.map (·.2) = ms → (qs.map (·.1)).Nodup → (∀ q ∈ qs, H' q.1 = some (o q.2) ∧ H1 q.1 = none ∧ q.1 ≠ D) → Same H1 H' → H' D = some (.lst (qs.map fun q => V.ref q.1)) → Q (.ref D) H') :
    CompRun J (gName 0) tTrue te σ0 H1 Q := by
  intro D hD
  refine comp_by (n := ms.length) (fun i ys H' => ∃ qs : List (Addr × α), Same H1 H' ∧ H' D = some (.lst ys) ∧ ys = (qs.map fun q => V.ref q.1) ∧ qs.map (·.2) = ms.take i ∧ (qs.map (·.1)).Nodup ∧ ∀ q ∈ qs, H' q.1 = some (o q.2) ∧ H1 q.1 = none ∧ q.1 ≠ D)
    ⟨[], Same.new hD, upd_same, rfl, by simp, List.nodup_nil, fun q hq => nomatch hq⟩ (fun i ys H' _ ⟨_, _, e, _⟩ => e) (fun i ys H' hi ⟨_, sm, _⟩ => hgo i H' hi sm) (fun ys H' ⟨_, sm, _⟩ => hst H' sm) ?_ (fun ys H' h => ?_)
  · rintro i ys H' x H2 hi ⟨qs, sm, hDl, hys, hqm, hnd, hq⟩ y
    obtain ⟨rfl, rfl⟩ := hy i H' x H2 hi sm y
    unfold tTrue
    refine iteT (he ms[i] (List.getElem_mem hi) _ _ sm fun l H5 hl s5 el => ?_)
    have nlD : D ≠ l := ne_of_none hDl hl
    have ql : qs.length = i := by
      have := congrArg List.length hqm
      rw [List.length_map, List.length_take] at this
      omega
    refine ⟨s5 _ _ hDl, ?_, qs ++ [(l, ms[i])], (sm.trans s5).upd hD, upd_same, ?_, ?_, ?_, ?_⟩
    · rw [hys, List.length_map, ql]
      exact small1000 (by omega)
    · rw [hys, List.map_append]
      rfl
    · rw [List.map_append, hqm, List.take_add_one, List.getElem?_eq_getElem hi]
      rfl
    · rw [List.map_append, List.nodup_append]
      refine ⟨hnd, by simp, fun a ha b hb e => ?_⟩
      obtain ⟨q, hq1, rfl⟩ := List.mem_map.mp ha
      have hb : b = l := by simpa using hb
      subst hb
      have := (hq q hq1).1
      rw [e, hl] at this
      cases this
    · intro q hq1
      rcases List.mem_append.mp hq1 with z | z
      · obtain ⟨z1, z2, z3⟩ := hq q z
        exact ⟨by rw [upd_ne z3]; exact s5 _ _ z1, z2, z3⟩
      · have : q = (l, ms[i]) := by simpa using z
        subst this
        exact ⟨by rw [upd_ne (Ne.symm nlD)]; exact el, sm.free hl, Ne.symm nlD⟩
  · obtain ⟨qs, sm, hDl, hys, hqm, hnd, hq⟩ := h
    rw [List.take_length] at hqm
    exact fin D qs H' hD hqm hnd hq sm (by rw [← hys]; exact hDl)
theorem comp_objsL {α : Type} {K : PySem.W.Frag} {a : Addr} {ms : List α} {σ0 : St} {H1 : Hp} {te : TE} {Q : VK} (u : α → V) (o : α → HO) (hq : SqL K H1 a (ms.map u)) (hn : ms.length ≤ 1000)
    (he : ∀ x ∈ ms, ∀ (H' : Hp) (Q' : VK), Same H1 H' → (∀ l H'', H' l = none → Same H' H'' → H'' l = some (o x) → Q' (.ref l) H'') → te (σ0.set 0 (some (u x))) H' Q')
    (fin : ∀ (D : Addr) (qs : List (Addr × α)) (H' : Hp), H1 D = none → qs.map (·.2) = ms → (qs.map (·.1)).Nodup → (∀ q ∈ qs, H' q.1 = some (o q.2) ∧ H1 q.1 = none ∧ q.1 ≠ D) → Same H1 H' → H' D = some (.lst (qs.map fun q => V.ref q.1)) → Q (.ref D) H') :
    CompRun (Itl K a) (gName 0) tTrue te σ0 H1 Q :=
  comp_objs u o hn (fun i H' hi sm => ⟨ms.map u, u ms[i], sm.seq hq, by simp [hi]⟩) (fun H' sm => ⟨ms.map u, sm.seq hq, by simp⟩) (fun i H' x H2 hi sm y => ⟨y.1, by
    have := y.2 _ (sm.seq hq)
    rw [List.getElem?_map, List.getElem?_eq_getElem hi] at this
    exact (Option.some.inj this).symm⟩) he fin
theorem comp_objsR {lo : Int} {n : Nat} {σ0 : St} {H1 : Hp} {te : TE} {Q : VK} (o : Nat → HO) (hn : n ≤ 1000)
    (he : ∀ i, i < n → ∀ (H' : Hp) (Q' : VK), Same H1 H' → (∀ l H'', H' l = none → Same H' H'' → H'' l = some (o i) → Q' (.ref l) H'') → te (σ0.set 0 (some (.int (lo + i)))) H' Q')
    (fin : ∀ (D : Addr) (qs : List (Addr × Nat)) (H' : Hp), H1 D = none → qs.map (·.2) = List.range n → (qs.map (·.1)).Nodup → (∀ q ∈ qs, H' q.1 = some (o q.2) ∧ H1 q.1 = none ∧ q.1 ≠ D) → Same H1 H' → H' D = some (.lst (qs.map fun q => V.ref q.1)) → Q (.ref D) H') :
    CompRun (Itr lo n) (gName 0) tTrue te σ0 H1 Q :=
  comp_objs (ms := List.range n) (fun i => .int (lo + i)) o (by simpa using hn) (fun i H' hi sm => by show i < n; simpa using hi) (fun H' sm => by show n ≤ _; simp) (fun i H' x H2 hi sm y => ⟨y.1, by rw [y.2, List.getElem_range]⟩)
    (fun x hx => he x (List.mem_range.mp hx)) fin
section
variable {X : Cx}
end
end L2
set_option Elab.async false
set_option linter.all false
set_option maxRecDepth 100000
set_option maxHeartbeats 4000000
namespace L2
open PySem PySem.Spec PyProof.Rows
mutual
inductive RdS (S : List Addr) (H : Hp) : V → PyData → Prop
  | non : RdS S H .non .none
  | bl (b : Bool) : RdS S H (.bl b) (.bool b)
  | int (i : Int) : RdS S H (.int i) (.int i)
  | str (x : Str) : RdS S H (.str x) (.str x)
  | lst {a : Addr} {xs : List V} {ds : List PyData} : H a = some (.lst xs) → a ∉ S → RdSs S H xs ds → RdS S H (.ref a) (.list ds)
  | tup {a : Addr} {xs : List V} {ds : List PyData} : H a = some (.tup xs) → a ∉ S → RdSs S H xs ds → RdS S H (.ref a) (.tuple ds)
  | dct {a : Addr} : H a = some (.dK []) → a ∉ S → RdS S H (.ref a) (.dict [])
inductive RdSs (S : List Addr) (H : Hp) : List V → List PyData → Prop
  | nil : RdSs S H [] []
  | cons {x : V} {d : PyData} {xs : List V} {ds : List PyData} : RdS S H x d → RdSs S H xs ds → RdSs S H (x :: xs) (d :: ds)
end
mutual
theorem RdS.move {S S' : List Addr} {H H' : Hp} (k : ∀ b o, b ∉ S → H b = some o → H' b = some o) (ss : ∀ b, b ∉ S → b ∉ S') : ∀ {x : V} {d : PyData}, RdS S H x d → RdS S' H' x d
  | _, _, .non => .non
  | _, _, .bl b => .bl b
  | _, _, .int i => .int i
  | _, _, .str x => .str x
  | _, _, .lst e n r => .lst (k _ _ n e) (ss _ n) (RdSs.move k ss r)
  | _, _, .tup e n r => .tup (k _ _ n e) (ss _ n) (RdSs.move k ss r)
  | _, _, .dct e n => .dct (k _ _ n e) (ss _ n)
theorem RdSs.move {S S' : List Addr} {H H' : Hp} (k : ∀ b o, b ∉ S → H b = some o → H' b = some o) (ss : ∀ b, b ∉ S → b ∉ S') : ∀ {xs : List V} {ds : List PyData}, RdSs S H xs ds → RdSs S' H' xs ds
  | _, _, .nil => .nil
  | _, _, .cons h t => .cons (RdS.move k ss h) (RdSs.move k ss t)
end
section
variable {P : Program} {w : World} {H : Hp} {h : Heap} {S : List Addr}
theorem dict_empty (ok : HOk P w H h) {a : Addr} (e : H a = some (.dK [])) : (a == sysModules) = false ∧ ∃ o n, h.get? a = some o ∧ o.cls = .type "dict" ∧ o.data = .dict #[] n := by
  obtain ⟨_, y, vs, r, o, es, ep, e1, c, d, _, pr, _⟩ := (show ObjOk P w H h a (.dK []) from ok a _ e)
  cases r
  have hl : es.toList.length = 0 := pr.length
  have he : es = #[] := by
    cases es with
    | mk l =>
      have : l = [] := List.length_eq_zero_iff.mp hl
      rw [this]
  rw [he] at d
  exact ⟨y, o, ep, e1, c.1, d⟩
mutual
theorem RdS.shows (ok : HOk P w H h) : ∀ {x : V} {d : PyData} {u : Value}, RdS S H x d → RelV x u → d.showable = true → d.shown.length ≤ sizeLine →
    (∃ as, Reads h u d as) ∧ ∃ bs, ReadAtMost h d.depth bs ∧ ReprK P w bs h d.depth u d.shown
  | _, _, _, .non, r, _, _ => by cases r; exact ⟨⟨_, .none⟩, [], (fun _ h => nomatch h), by simp only [PyData.shown]; exact .of_is ReprIs.none _ _ _⟩
  | _, _, _, .bl b, r, _, _ => by cases r; exact ⟨⟨_, .bool b⟩, [], (fun _ h => nomatch h), by simp only [PyData.shown]; exact .of_is (ReprIs.bool b) _ _ _⟩
  | _, _, _, .int i, r, hs, _ => by obtain ⟨t, rfl⟩ := r; exact ⟨⟨_, .int i t⟩, [], (fun _ h => nomatch h), by simp only [PyData.shown]; exact .of_is (ReprIs.int t (by simpa [PyData.showable] using hs)) _ _ _⟩
  | _, _, _, .str x, r, _, hz => by obtain ⟨t, rfl⟩ := r; exact ⟨⟨_, .str x t⟩, [], (fun _ h => nomatch h), by simp only [PyData.shown]; exact .of_is (ReprIs.str x t (by simpa only [PyData.shown] using hz)) _ _ _⟩
  | _, _, _, .lst (a := a) (ds := ds) e _ ra, r, hs, hz => by
    cases r
    obtain ⟨_, its, n, rv, e1⟩ := (show ObjOk P w H h a (.lst _) from ok a _ e)
    have hz' : (listText (PyData.shownAll ds)).length ≤ sizeLine := by simpa only [PyData.shown] using hz
    obtain ⟨⟨as, rr⟩, bs, hb, hk⟩ := RdSs.shows ok ra rv (by simpa [PyData.showable] using hs) (fun t ht => Nat.le_trans (listText_mem_le ht) hz')
    have rd : Reads h (.ref a) (.list ds) (a :: as) := .list e1 rfl rfl (by simpa using rr)
    have hna : a ∉ bs := not_mem_of_deeper rd (by simp only [PyData.depth]; omega) hb
    refine ⟨⟨_, rd⟩, a :: bs, ReadAtMost.cons rd (by simp only [PyData.depth]; omega) hb, ?_⟩
    simp only [PyData.depth, PyData.shown]
    cases its with
    | nil =>
      cases rr
      simp only [PyData.shownAll, listText_nil]
      exact ReprK.listEmpty e1 rfl rfl
    | cons x l => exact ReprK.list e1 rfl rfl hna (by simpa using hk.length_eq) (fun i y e => hk.item i y (by simpa using e))
  | _, _, _, .tup (a := a) (ds := ds) e _ ra, r, hs, hz => by
    cases r
    obtain ⟨_, its, rv, o, e1, c, n, dt⟩ := (show ObjOk P w H h a (.tup _) from ok a _ e)
    have hz' : (tupleText (PyData.shownAll ds)).length ≤ sizeLine := by simpa only [PyData.shown] using hz
    obtain ⟨⟨as, rr⟩, bs, hb, hk⟩ := RdSs.shows ok ra rv (by simpa [PyData.showable] using hs) (fun t ht => Nat.le_trans (tupleText_mem_le ht) hz')
    have rd : Reads h (.ref a) (.tuple ds) as := .tuple e1 c dt (by simpa using rr)
    have hna : a ∉ bs := not_mem_of_deeper rd (by simp only [PyData.depth]; omega) hb
    refine ⟨⟨_, rd⟩, a :: bs, ReadAtMost.cons rd (by simp only [PyData.depth]; omega) hb, ?_⟩
    simp only [PyData.depth, PyData.shown]
    exact ReprK.tuple e1 c dt hna (by simpa using hk)
  | _, _, _, .dct (a := a) e _, r, hs, hz => by
    cases r
    obtain ⟨hsys, o, n, e1, c, dt⟩ := dict_empty ok e
    have rd : Reads h (.ref a) (.dict []) (a :: [] ++ []) := .dict (kvs := []) e1 c dt .nil .nil
    refine ⟨⟨_, rd⟩, a :: [], ReadAtMost.cons (n := 0) rd (Nat.zero_le _) (fun _ h => nomatch h), ?_⟩
    simp only [PyData.depth, PyData.depthKv, PyData.shown, PyData.shownKv]
    exact ReprK.dict e1 c dt hsys (by simp) .nil
theorem RdSs.shows (ok : HOk P w H h) : ∀ {xs : List V} {ds : List PyData} {us : List Value}, RdSs S H xs ds → Vals xs us → PyData.showableAll ds = true → (∀ t ∈ PyData.shownAll ds, t.length ≤ sizeLine) →
    (∃ as, ReadsAll h us ds as) ∧ ∃ bs, ReadAtMost h (PyData.depthAll ds) bs ∧ ReprAllK P w bs h (PyData.depthAll ds) us (PyData.shownAll ds)
  | _, _, _, .nil, .nil, _, _ => ⟨⟨_, .nil⟩, [], (fun _ h => nomatch h), by simp only [PyData.shownAll]; exact .nil⟩
  | _, _, _, .cons (d := d) (ds := ds) r rs, .cons v vs, hs, hz => by
    have hs' : d.showable = true ∧ PyData.showableAll ds = true := by simpa [PyData.showableAll] using hs
    obtain ⟨⟨a1, r1⟩, b1, hb1, k1⟩ := RdS.shows ok r v hs'.1 (hz _ (by simp only [PyData.shownAll]; exact List.mem_cons_self ..))
    obtain ⟨⟨a2, r2⟩, b2, hb2, k2⟩ := RdSs.shows ok rs vs hs'.2 (fun t ht => hz t (by simp only [PyData.shownAll]; exact List.mem_cons_of_mem _ ht))
    refine ⟨⟨_, .cons r1 r2⟩, b1 ++ b2, ?_, ?_⟩
    · simp only [PyData.depthAll]
      exact (hb1.mono (Nat.le_max_left _ _)).append (hb2.mono (Nat.le_max_right _ _))
    · simp only [PyData.depthAll, PyData.shownAll]
      exact .cons ((k1.more fun b hb => List.mem_append_left _ hb).level_le (Nat.le_max_left _ _)) (k2.more_le (fun b hb => List.mem_append_right _ hb) (Nat.le_max_right _ _))
end
end
open PySem PySem.Spec PyProof.Rows
section
variable {X : Cx}
def tRev (te : TE) (ts : TO) : TE := fun σ H Q => te σ H fun x H1 => ts σ H1 fun st H2 => ∃ a xs, st = some (-1) ∧ x = .ref a ∧ H2 a = some (.lst xs) ∧ ∀ p, H2 p = none → Q (.ref p) (upd H2 p (.lst xs.reverse))
theorem vals_rev {xs : List V} {us : List Value} (r : Vals xs us) : Vals xs.reverse us.reverse := by
  induction r with
  | nil => exact .nil
  | cons h t ih =>
    rw [List.reverse_cons, List.reverse_cons]
    exact ih.append (.cons h .nil)
theorem pe_rev {e se : Expr} {te : TE} {ts : TO} {p2 pos : Pos} (he : PE X e te) (hs : PO X (some se) ts) : PE X (.Subscript e (.Slice none none (some se) p2) pos) (tRev te ts) := by
  intro pins s σ H Q I h
  refine Subscript_ (thn (he pins s σ H _ I h) fun v s1 ⟨x, H1, I1, r1, q1⟩ => ?_)
  refine wpAny_Slice ?_
  rw [evalPart_none]
  refine wpAny_pure ?_
  refine wpAny_pure ?_
  refine thn (hs pins s1 σ H1 _ I1 q1) fun vs s2 ⟨st, H2, I2, pst, q2⟩ => ?_
  obtain ⟨a, xs, rfl, rfl, hx, q⟩ := q2
  cases r1
  have I4 : Inv X pins σ H2 { s2 with heap := s2.heap.push { cls := .type "slice", data := .fields #[.none, .none, vs] } } := I2.kept (t' := s2.toks) fun b ob q => Heap.get?_push_of_some _ q
  obtain ⟨its, r, ht, hz⟩ := I4.list (SqL.of hx)
  have hlen := r.length
  show wpAny (model X.prog X.w) X.A (subscriptTail e (.Slice none none (some se) p2) (.ref a) (.ref s2.heap.objs.size)) (EP X pins σ Q) X.xe { s2 with heap := s2.heap.push { cls := .type "slice", data := .fields #[.none, .none, vs] } }
  refine tail_any (ops := [.ref a, .ref s2.heap.objs.size]) ht.isList.typeIs slot_list_getitem.lookup ?_ rfl
  refine wpAny_getItem_list_slice ht.isList (Heap.IsSliceOf.new ..) .none .none pst (by simp) ?_ (by rw [List.size_toArray] <;> omega)
  rw [PySem.W.krv_pick]
  refine ⟨.ref _, _, I4.laid (t' := s2.toks) (o := .lst xs.reverse) (fun b ob q => Heap.get?_push_of_some _ q) (Nat.le_refl _) ?_, rfl, q _ (I4.hok.fresh (Nat.le_refl _))⟩
  have e : its.toArray.toList.reverse.toArray = its.reverse.toArray := by simp
  rw [e]
  exact ⟨by rw [List.length_reverse]; exact hz, its.reverse, 0, vals_rev r, Heap.get?_push_size _ rfl⟩
end
end L2
set_option Elab.async false
set_option linter.all false
set_option maxRecDepth 100000
set_option maxHeartbeats 4000000
namespace L2
open PySem PySem.Spec PyProof.Rows
theorem call_sum {X : Cx} (hc : X.calm = true) : CallR X (.builtin "sum") (fun xs H Q => ∃ (p : Addr) (ns : List Int), xs = [.ref p] ∧ SqL X.K H p (ns.map V.int) ∧ Q (.int ns.sum) H) := by
  intro pins s σ H xs us Q I rv h
  obtain ⟨p, ns, rfl, hq, q⟩ := h
  obtain ⟨u, rfl, ru⟩ := rv.one
  cases ru
  obtain ⟨its, r, pl, _⟩ := I.list hq
  have hi := ints_of r
  obtain ⟨ys, e⟩ := hi.allInts.items
  have hl := pl.isList
  have en : ns = ys.toList.map (·.1) := by
    have e1 := hi.numsOf
    have e2 := nums_intItems ys
    rw [← e] at e2
    exact e1.symm.trans e2
  have es : preSum (numAt ys) ys.size = ns.sum := by
    rw [preSum_eq, List.take_of_length_le (by simp), en]
  rw [e] at hl
  refine sum_intListG (I.ok.hd hc) hl fun h' tk t' hk => ?_
  rw [es]
  exact ⟨.int _, H, I.kept hk, ⟨_, rfl⟩, q⟩
end L2
set_option Elab.async false
set_option linter.all false
set_option maxRecDepth 100000
set_option maxHeartbeats 4000000
namespace L2
open PySem PySem.Spec PyProof.Rows PySem.Calls
section
variable {prog : Program} {w : World} {A : Around} {E : Value → Shared → Prop} {s : Shared}
end
open PySem PySem.Spec PyProof.Rows
theorem call_sortedI {X : Cx} : CallR X (.builtin "sorted") (fun xs H Q => ∃ (a : Addr) (ns : List Int), xs = [.ref a] ∧ SqL X.K H a (ns.map V.int) ∧ ns.length < 64 ∧ ∀ (D : Addr) (ms : List Int), H D = none → ms.Perm ns → ms.Pairwise (· ≤ ·) → Q (.ref D) (upd H D (.lst (ms.map V.int)))) := by
  intro pins s σ H xs us Q I rv h
  obtain ⟨a, ns, rfl, hq, h64, q⟩ := h
  obtain ⟨u, rfl, ru⟩ := rv.one
  cases ru
  obtain ⟨its, r, pl, hz⟩ := I.list hq
  have hlen := r.length
  rw [List.length_map] at hlen
  refine sorted_ints pl.isList (ints_of r) (by omega) fun out ms hi hp hs => ?_
  obtain ⟨e, he⟩ := sortedAll_at s.heap its out
  refine ⟨.ref _, _, I.laid (t' := s.toks) (o := .lst (ms.map V.int)) (fun b o => sortedAll_old) (Nat.le_succ _) ⟨?_, out.toList, e, vals_ints hi, ?_⟩, rfl, q _ ms (I.hok.fresh (Nat.le_succ _)) hp hs⟩
  · rw [List.length_map, hp.length_eq]
    exact Nat.le_of_lt (small1000 (by omega))
  · rw [Array.toArray_toList]
    exact he
open PySem PySem.Spec PyProof.Rows
end L2
set_option Elab.async false
set_option linter.all false
set_option maxRecDepth 100000
set_option maxHeartbeats 4000000
namespace L2
open PySem PySem.Spec PyProof.Rows
def Itv (K : PySem.W.Frag) (a : Addr) (n : Nat) : It :=
  ⟨fun i H => i < n ∧ ∃ xs x, SqL K H a xs ∧ xs[n - 1 - i]? = some x, fun i H x H' => H' = H ∧ ∀ xs, SqL K H a xs → xs[n - 1 - i]? = some x, fun i _ => i = n⟩
theorem turn_rev {P : Program} {w : World} {K : PySem.W.Frag} {tg : Expr} (a it : Addr) (n : Nat) : Turn P w K tg (Itv K a n) [it] it (fun i h => h.IsRevIter it a ((n : Int) - 1 - (i : Nat))) where
  mem := by simp
  obj := fun i h st b hb => by
    have e : b = it := by simpa using hb
    subst e
    obtain ⟨o, e, c, d⟩ := st
    exact ⟨o, e, fun v z => by rw [d] at z; cases z⟩
  keep := fun i h h' st k => Heap.IsRevIter.at st fun o e => k it (by simp) o e
  item := by
    intro X hP hw hK hc i pins s σ H E I hf st hg
    subst hP hw hK
    obtain ⟨hin, xs, x, hq, hx⟩ := hg
    obtain ⟨its, rv, p, hz⟩ := I.list hq
    obtain ⟨u, hu, ru⟩ := rv.get hx
    obtain ⟨f0, f1, f2, f3, f4, f5⟩ := hf it (by simp)
    have e1 : ((n : Int) - 1 - (i : Nat)) = ((n - 1 - i : Nat) : Int) := by omega
    have st1 : s.heap.IsRevIter it a ((n - 1 - i : Nat) : Int) := by rw [← e1]; exact st
    refine wpAny_pyNext_rev_item st1 p.isList (x := u) (by simpa using hu) fun h' st' sb => ?_
    have e2 : (((n - 1 - i : Nat) : Int) - 1) = ((n : Int) - 1 - ((i + 1 : Nat) : Int)) := by omega
    rw [e2] at st'
    have I1 : Inv X pins σ H { s with heap := h' } := I.turned (t' := s.toks) (fun b o hb e => (sb.2 b hb).trans e) f0 f1 f3 f4 f5
    obtain ⟨o, e, c, d⟩ := id st'
    exact ⟨u, rfl, go_of (s := { s with heap := h' }) e c d (by decide) ⟨x, H, I1, ru, ⟨rfl, fun ys hy => by rw [I.list_inj hy hq]; exact hx⟩, st', fun b hb => (hf b hb).1⟩⟩
  done := by
    intro X hP hw hK hc i pins s σ H E I hf st hg
    subst hP hw hK
    have hi : i = n := hg
    subst hi
    obtain ⟨f0, f1, f2, f3, f4, f5⟩ := hf it (by simp)
    have e1 : ((i : Int) - 1 - (i : Nat)) = -1 := by omega
    have st1 : s.heap.IsRevIter it a (-1) := by rw [← e1]; exact st
    exact wpAny_pyNext_rev_end (I.ok.hd hc) st1 fun h' eb => ⟨rfl, I.turned (t' := s.toks) (fun b o hb e => eb b o hb e) f0 f1 f3 f4 f5⟩
  self := fun _ _ _ _ _ st h => wpAny_pyIter_revIter st h
def iRev (K : PySem.W.Frag) (ta : TA) : TI := fun σ H R => ta σ H fun vs H1 => ∃ a xs, vs = [.ref a] ∧ SqL K H1 a xs ∧ R (Itv K a xs.length) H1
theorem pi_rev {X : Cx} {tg a : Expr} {ta : TA} {p pos : Pos} (hg : Gl X "reversed") (hm : X.mg "reversed" = none) (ha : PA X [a] ta) (hs : starEach [a] X.env = [(false, eval a X.env)] := by rfl) :
    PI X tg (.Call (.Name "reversed" p) [a] [] pos) (iRev X.K ta) := by
  intro pins s σ H R I h
  refine Call_ (ld_blt I hg hm boot_reversed (PyProof.Rows.callWith_type1 (thn (ha pos pins s σ H _ I h) fun us s1 ⟨vs, H1, I1, r1, q1⟩ => ?_) hs rfl))
  obtain ⟨a, xs, e, hq, q⟩ := q1
  subst e
  obtain ⟨u, rfl, ru⟩ := r1.one
  cases ru
  obtain ⟨its, rv, pl, hz⟩ := I1.list hq
  have hl := rv.length
  have st : (s1.heap.push (revObj a ((its.toArray.size : Int) - 1))).IsRevIter s1.heap.objs.size a ((xs.length : Int) - 1 - ((0 : Nat) : Int)) := by
    refine ⟨_, Heap.get?_push_size _ rfl, rfl, ?_⟩
    have e : ((its.toArray.size : Int) - 1) = ((xs.length : Int) - 1 - ((0 : Nat) : Int)) := by
      rw [List.size_toArray]
      omega
    rw [← e]
    rfl
  refine call_reversed_list pl.isList (wpAny_pyIter_revIter st ?_)
  refine ⟨s1.heap.objs.size, [s1.heap.objs.size], _, _, H1, rfl, I1.kept (t' := s1.toks) fun b o e => Heap.get?_push_of_some _ e, turn_rev a _ xs.length, st, fun b hb => ?_, q⟩
  have e : b = s1.heap.objs.size := by simpa using hb
  subst e
  exact I1.fpOk (Nat.le_refl _) (I1.hok.fresh (Nat.le_refl _))
theorem comp_pureJ {α : Type} {J : It} {ms : List α} {σ0 : St} {H1 : Hp} {te : TE} {Q : VK} (u : α → V) (f : α → V) (hn : ms.length ≤ sizeLine)
    (hgo : ∀ i H', i < ms.length → Same H1 H' → J.go i H') (hst : ∀ H', Same H1 H' → J.stop ms.length H') (hy : ∀ i H' x H2 (h : i < ms.length), Same H1 H' → J.yld i H' x H2 → H2 = H' ∧ x = u ms[i])
    (he : ∀ x ∈ ms, Pu te (σ0.set 0 (some (u x))) H1 (f x))
    (fin : ∀ D H', H1 D = none → Same H1 H' → H' D = some (.lst (ms.map f)) → Q (.ref D) H') :
    CompRun J (gName 0) tTrue te σ0 H1 Q := by
  intro D hD
  refine comp_by (n := ms.length) (fun i ys H' => Same H1 H' ∧ H' D = some (.lst ys) ∧ ys = (ms.take i).map f) ⟨Same.new hD, upd_same, by simp⟩ (fun i ys H' _ q => q.2.1) (fun i ys H' hi q => hgo i H' hi q.1)
    (fun ys H' q => hst H' q.1) ?_ (fun ys H' q => ?_)
  · rintro i ys H' x H2 hi ⟨sm, hDl, hys⟩ y
    obtain ⟨rfl, rfl⟩ := hy i H' x H2 hi sm y
    unfold tTrue
    refine iteT ?_
    refine he ms[i] (List.getElem_mem hi) _ _ sm fun H5 s5 => ⟨s5 _ _ hDl, ?_, (sm.trans s5).upd hD, upd_same, ?_⟩
    · rw [hys, List.length_map, List.length_take]
      omega
    · rw [List.take_add_one, List.getElem?_eq_getElem hi, List.map_append, ← hys]
      rfl
  · obtain ⟨sm, hDl, hys⟩ := q
    rw [List.take_length] at hys
    exact fin D H' hD sm (by rw [← hys]; exact hDl)
theorem rev_item {α : Type} {ms : List α} {u : α → V} {i : Nat} (h : i < ms.reverse.length) : (ms.map u)[(ms.map u).length - 1 - i]? = some (u ms.reverse[i]) := by
  have h2 : i < ms.length := by rw [List.length_reverse] at h; exact h
  rw [List.getElem?_map, List.length_map, List.getElem?_eq_getElem (by omega), List.getElem_reverse]
  rfl
theorem comp_revP {α : Type} {K : PySem.W.Frag} {a : Addr} {ms : List α} {σ0 : St} {H1 : Hp} {te : TE} {Q : VK} (u : α → V) (f : α → V) (hq : SqL K H1 a (ms.map u)) (hn : ms.length ≤ sizeLine)
    (he : ∀ x ∈ ms.reverse, Pu te (σ0.set 0 (some (u x))) H1 (f x))
    (fin : ∀ D H', H1 D = none → Same H1 H' → H' D = some (.lst (ms.reverse.map f)) → Q (.ref D) H') :
    CompRun (Itv K a (ms.map u).length) (gName 0) tTrue te σ0 H1 Q :=
  comp_pureJ (ms := ms.reverse) u f (by rw [List.length_reverse]; exact hn) (fun i H' hi sm => ⟨by simpa using hi, _, _, sm.seq hq, rev_item hi⟩) (fun H' sm => by show ms.reverse.length = (ms.map u).length; simp)
    (fun i H' x H2 hi sm y => ⟨y.1, by
      have := y.2 _ (sm.seq hq)
      rw [rev_item hi] at this
      exact (Option.some.inj this).symm⟩) he fin
theorem comp_revO {α : Type} {K : PySem.W.Frag} {a : Addr} {ms : List α} {σ0 : St} {H1 : Hp} {te : TE} {Q : VK} (u : α → V) (o : α → HO) (hq : SqL K H1 a (ms.map u)) (hn : ms.length ≤ 1000)
    (he : ∀ x ∈ ms.reverse, ∀ (H' : Hp) (Q' : VK), Same H1 H' → (∀ l H'', H' l = none → Same H' H'' → H'' l = some (o x) → Q' (.ref l) H'') → te (σ0.set 0 (some (u x))) H' Q')
    (fin : ∀ (D : Addr) (qs : List (Addr × α)) (H' : Hp), H1 D = none → qs.map (·.2) = ms.reverse → (qs.map (·.1)).Nodup → (∀ q ∈ qs, H' q.1 = some (o q.2) ∧ H1 q.1 = none ∧ q.1 ≠ D) → Same H1 H' → H' D = some (.lst (qs.map fun q => V.ref q.1)) → Q (.ref D) H') :
    CompRun (Itv K a (ms.map u).length) (gName 0) tTrue te σ0 H1 Q :=
  comp_objs (ms := ms.reverse) u o (by rw [List.length_reverse]; exact hn) (fun i H' hi sm => ⟨by simpa using hi, _, _, sm.seq hq, rev_item hi⟩) (fun H' sm => by show ms.reverse.length = (ms.map u).length; simp)
    (fun i H' x H2 hi sm y => ⟨y.1, by
      have := y.2 _ (sm.seq hq)
      rw [rev_item hi] at this
      exact (Option.some.inj this).symm⟩) he fin
end L2
set_option Elab.async false
set_option linter.all false
set_option maxRecDepth 100000
set_option maxHeartbeats 4000000
namespace L2
open PySem PySem.Spec PyProof.Rows
section
variable {X : Cx} {N' : List Str} {scope osc : Scope} {cl : List (Str × Addr)} {C : Addr} {ex : List Addr} {ix : List (Option Nat)} {pins : List (Addr × Obj)} {σ : St} {H2 : Hp} {s2 : Shared}
end
end L2
set_option maxRecDepth 100000
namespace L2
open PySem PySem.Spec PyProof.Rows
section
variable {P : Program} {w : World} {l : List Env} {H H' : Hp} {s s1 : Shared} {e : Addr} {cls fl : Value}
end
section
variable {X : Cx} {pins : List (Addr × Obj)} {σ : St} {H H' : Hp} {s s' : Shared} {e : Addr} {cls fl : Value}
end
section
variable {P : Program} {w : World} {K : PySem.W.Frag} {mg : Str → Option Value} {base : Heap} {N : List Str} {qual : Str} {scope : Scope} {f : Addr} {cd : Value} {A : Around} {outer : List Env} {s : Shared} {H : Hp} {E : XK}
end
section
variable {P : Program} {w : World} {K : PySem.W.Frag} {mg : Str → Option Value} {base : Heap} {j k : Nat} {x : Str} {ps : List Str} {sp sp' : Sp}
end
section
variable {X : Cx} {k : Nat} {x : Str} {ps : List Str} {sp : Sp} {e : Expr} {es : List Expr} {t : TA} {p pos : Pos} {R : St → Value → Hp → Prop}
end
end L2
set_option maxRecDepth 100000
namespace L2
open PySem PySem.Spec PySem.Calls PyProof.Rows
open Builtin Builtin.ObjectAttr Builtin.Getset_descriptor
section
variable {K : PySem.W.Frag} {C e : Addr}
end
end L2
set_option maxRecDepth 100000
namespace L2
open PySem PySem.Spec PySem.Calls PyProof.Rows
section
variable {X : Cx} {pins pn : List (Addr × Obj)} {W : Value → Shared → Prop} {σ : St} {H : Hp} {s : Shared} {v : Value}
end
section
variable {X : Cx}
end
end L2
set_option Elab.async false
set_option linter.all false
set_option maxRecDepth 100000
set_option maxHeartbeats 4000000
namespace L2
open PySem PySem.Spec PyProof.Rows
section
variable {P : Program} {w : World} {K : PySem.W.Frag} {mg : Str → Option Value} {base : Heap} {j k : Nat} {C : Addr} {m qual : Str} {ps : List Str} {sp sp' : Sp}
end
section
variable {X : Cx} {k : Nat} {C : Addr} {m : Str} {ps : List Str} {sp : Sp} {e o : Expr} {es : List Expr} {ta : TE} {t : TA} {apos pos : Pos} {R : St → Value → Hp → Prop}
end
end L2
set_option Elab.async false
set_option linter.all false
set_option maxRecDepth 100000
set_option maxHeartbeats 4000000
namespace L2
open PySem PySem.Spec PyProof.Rows
section
variable {prog : Program} {w : World} {A : Around} {R : Result → Shared → Prop} {I : Addr} {fp wr : List Addr} {n : Nat} {P : Nat → Value → Prop} {St : Nat → Heap → Prop}
end
end L2
set_option Elab.async false
set_option linter.all false
set_option maxRecDepth 100000
set_option maxHeartbeats 4000000
namespace L2
open PySem PySem.Spec PyProof.Rows
section
variable {prog : Program} {w : World} {A : Around} {E : Value → Shared → Prop} {s : Shared}
end
end L2
set_option Elab.async false
set_option linter.all false
set_option maxRecDepth 100000
set_option maxHeartbeats 4000000
namespace L2
open PySem PySem.Spec PyProof.Rows
section
variable {X : Cx} {tg : Expr}
end
end L2
set_option Elab.async false
set_option linter.all false
set_option maxRecDepth 100000
set_option maxHeartbeats 4000000
namespace L2
open PySem PySem.Spec PyProof.Rows
section
variable {X : Cx}
end
end L2
set_option Elab.async false
set_option linter.all false
set_option maxRecDepth 100000
set_option maxHeartbeats 4000000
namespace L2
open PySem PySem.Spec PyProof.Rows
section
variable {X : Cx} {tg : Expr}
end
end L2
set_option Elab.async false
set_option linter.all false
set_option maxRecDepth 100000
set_option maxHeartbeats 4000000
namespace L2
open PySem PySem.Spec PyProof.Rows
section
variable {κ : Type} [DecidableEq κ]
end
section
variable {P : Program} {w : World} {H : Hp} {h : Heap} {a : Addr}
end
section
variable {X : Cx} {pins : List (Addr × Obj)} {σ : St} {H : Hp} {s : Shared} {a : Addr} {y v : V} {u r : Value} {o : Option V} {A : Around} {E : Value → Shared → Prop}
end
section
variable {X : Cx} {pins : List (Addr × Obj)} {σ : St} {H : Hp} {s : Shared} {a : Addr} {kvs : List (Key × V)} {k : Key} {u : Value} {A : Around} {E : Value → Shared → Prop}
end
section
variable {X : Cx} {o i e value : Expr} {pos pos' tpos : Pos} {td ty tv : TE}
end
section
variable {X : Cx} {pos : Pos}
end
section
variable {X : Cx} {pins : List (Addr × Obj)} {σ : St} {H : Hp} {s : Shared} {a : Addr} {y d : V} {u r : Value} {o : Option V} {A : Around} {E : Value → Shared → Prop}
end
section
variable {X : Cx} {o e f : Expr} {apos cpos : Pos} {td ty tx : TE}
end
section
variable {X : Cx} {pins : List (Addr × Obj)} {σ : St} {H : Hp} {s : Shared} {a : Addr} {kvs : List (Key × V)} {A : Around} {E : Value → Shared → Prop}
end
section
variable {X : Cx} {pins : List (Addr × Obj)} {σ : St} {H : Hp} {s : Shared} {a : Addr} {y : V} {u : Value} {A : Around} {E : Value → Shared → Prop}
end
section
variable {X : Cx}
end
section
variable {κ : Type} [DecidableEq κ]
end
end L2
set_option Elab.async false
set_option linter.all false
set_option maxRecDepth 100000
set_option maxHeartbeats 4000000
namespace L2
open PySem PySem.Spec PyProof.Rows
section
variable {X : Cx}
end
section
variable {prog : Program} {w : World} {A : Around} {E : Value → Shared → Prop} {s : Shared} {d it : Addr} {od : Obj} {es : Array DictEntry} {ep i : Nat}
end
section
variable {X : Cx} {tg : Expr}
end
end L2
set_option Elab.async false
set_option linter.all false
set_option maxRecDepth 100000
set_option maxHeartbeats 4000000
namespace L2
open PySem PySem.Spec PyProof.Rows
def cellH (r c : Nat) : Int := reduceHash (Builtin.Tuple.tupleHashOf [hashInt (r : Int), hashInt (c : Int)])
theorem cellH_nd : ((List.range 36).map fun i => cellH (i / 6) (i % 6)).Nodup := by decide +kernel
theorem cellH_inj {r c r' c' : Nat} (h1 : r < 6) (h2 : c < 6) (h3 : r' < 6) (h4 : c' < 6) (h : cellH r c = cellH r' c') : r = r' ∧ c = c' := by
  have hp := List.pairwise_iff_getElem.mp cellH_nd
  have key : ∀ i j : Nat, i < j → j < 36 → cellH (i / 6) (i % 6) ≠ cellH (j / 6) (j % 6) := fun i j hij hj => by
    have := hp i j (by simp; omega) (by simpa using hj) hij
    simpa using this
  have d1 : (6 * r + c) / 6 = r ∧ (6 * r + c) % 6 = c := by omega
  have d2 : (6 * r' + c') / 6 = r' ∧ (6 * r' + c') % 6 = c' := by omega
  rcases Nat.lt_trichotomy (6 * r + c) (6 * r' + c') with z | z | z
  · have := key _ _ z (by omega)
    rw [d1.1, d1.2, d2.1, d2.2] at this
    exact absurd h this
  · omega
  · have := key _ _ z (by omega)
    rw [d1.1, d1.2, d2.1, d2.2] at this
    exact absurd h.symm this
def ddp : List Nat → List Nat
  | [] => []
  | a :: l => if a ∈ ddp l then ddp l else a :: ddp l
theorem ddp_sub : ∀ {l : List Nat} {a : Nat}, a ∈ ddp l → a ∈ l
  | [], _, h => h
  | b :: l, a, h => by
    unfold ddp at h
    split at h
    · exact .tail _ (ddp_sub h)
    · rcases List.mem_cons.mp h with z | z
      · subst z; exact .head _
      · exact .tail _ (ddp_sub z)
theorem ddp_nd : ∀ l : List Nat, (ddp l).Nodup
  | [] => .nil
  | b :: l => by
    unfold ddp
    split
    · exact ddp_nd l
    · rename_i h
      exact List.nodup_cons.mpr ⟨h, ddp_nd l⟩
theorem nd_le : ∀ {M P : List Nat}, M.Nodup → (∀ a ∈ M, a ∈ P) → M.length ≤ P.length
  | [], _, _, _ => Nat.zero_le _
  | a :: M, P, hn, hs => by
    have hn := List.nodup_cons.mp hn
    have ha := hs a (.head _)
    have h1 := nd_le (P := P.erase a) hn.2 (fun b hb => (List.mem_erase_of_ne (fun z => hn.1 (by rw [← z]; exact hb))).mpr (hs b (.tail _ hb)))
    rw [List.length_erase_of_mem ha] at h1
    have : 0 < P.length := List.length_pos_of_mem ha
    rw [List.length_cons]
    omega
theorem some_free {L P : List Nat} (h : P.length < (ddp L).length) : ∃ j ∈ L, j ∉ P := by
  refine Classical.byContradiction fun no => ?_
  have := nd_le (ddp_nd L) (P := P) fun a ha => Classical.byContradiction fun z => no ⟨a, ddp_sub ha, z⟩
  omega
def advM (mask : Nat) (p : SetTable.Probe) : SetTable.Probe := if p.more > 0 then { p with j := p.j + 1, more := p.more - 1 } else { p with j := (SetTable.leap mask p.i p.perturb).1, more := SetTable.runEnd mask (SetTable.leap mask p.i p.perturb).1 - (SetTable.leap mask p.i p.perturb).1, i := (SetTable.leap mask p.i p.perturb).1, perturb := (SetTable.leap mask p.i p.perturb).2 }
def posL (mask : Nat) : Nat → SetTable.Probe → List Nat
  | 0, _ => []
  | n + 1, p => p.j :: posL mask n (advM mask p)
def startM (mask : Nat) (h : Int) : SetTable.Probe := ⟨SetTable.bits h % (mask + 1), SetTable.runEnd mask (SetTable.bits h % (mask + 1)) - SetTable.bits h % (mask + 1), SetTable.bits h % (mask + 1), SetTable.bits h, none⟩
theorem adv_eq (t : SetTable) (p : SetTable.Probe) : t.advance p = advM t.mask p := rfl
theorem start_eq (t : SetTable) (h : Int) : t.probeStart h = startM t.mask h := rfl
theorem adv_dummy (mask : Nat) (p : SetTable.Probe) : (advM mask p).dummy = p.dummy := by
  unfold advM
  split <;> rfl
theorem probe_finds {t : SetTable} {hashAt : Nat → Int} {h : Int} (hdm : t.dummies = #[]) (hh : ∀ i, i < t.place.size → hashAt i ≠ h) : ∀ (n fuel : Nat) (p : SetTable.Probe), n ≤ fuel → p.dummy = none → (∃ j ∈ posL t.mask n p, j ∉ t.place.toList) → ∃ j, SetTable.probe.go t hashAt h fuel p = some (.empty j none)
  | 0, _, _, _, _, ⟨_, hj, _⟩ => nomatch hj
  | n + 1, 0, _, hn, _, _ => absurd hn (by omega)
  | n + 1, fuel + 1, p, hn, hd, ⟨j, hj, hjp⟩ => by
    unfold SetTable.probe.go
    by_cases hs : t.place[SetTable.below t.place p.j]? = some p.j
    · have es : t.slot p.j = .live (SetTable.below t.place p.j) := by
        unfold SetTable.slot
        dsimp only
        rw [hs]
        simp
      rw [es]
      dsimp only
      obtain ⟨hlt, hv⟩ := Array.getElem?_eq_some_iff.mp hs
      have hne : (hashAt (SetTable.below t.place p.j) == h) = false := beq_eq_false_iff_ne.mpr (hh _ hlt)
      rw [hne]
      simp only [Bool.false_eq_true, if_false]
      rw [adv_eq]
      refine probe_finds hdm hh n fuel (advM t.mask p) (by omega) (by rw [adv_dummy]; exact hd) ?_
      unfold posL at hj
      rcases List.mem_cons.mp hj with z | z
      · exfalso
        refine hjp ?_
        rw [z, ← hv]
        exact Array.getElem_mem_toList hlt
      · exact ⟨j, z, hjp⟩
    · have es : t.slot p.j = .empty := by
        unfold SetTable.slot
        dsimp only
        rw [hdm]
        have h1 : (t.place[SetTable.below t.place p.j]? == some p.j) = false := by simpa using hs
        rw [h1]
        have h2 : SetTable.has #[] p.j = false := by rfl
        rw [h2]
        rfl
      rw [es]
      dsimp only
      rw [hd]
      exact ⟨_, rfl⟩
def winL (mask : Nat) : Nat → Nat → Nat → List Nat
  | 0, _, _ => []
  | n + 1, i, pt => ((List.range (SetTable.runEnd mask i + 1 - i)).map fun k => i + k) ++ winL mask n (SetTable.leap mask i pt).1 (SetTable.leap mask i pt).2
theorem free_finds {mask : Nat} {owner : Array (Option Nat)} : ∀ (n fuel i pt : Nat), n ≤ fuel → (∃ j ∈ winL mask n i pt, (owner.getD j (some 0)).isNone = true) → ∃ j, SetTable.layClean.free mask owner fuel i pt = some j ∧ (owner.getD j (some 0)).isNone = true
  | 0, _, _, _, _, ⟨_, hj, _⟩ => nomatch hj
  | n + 1, 0, _, _, hn, _ => absurd hn (by omega)
  | n + 1, fuel + 1, i, pt, hn, ⟨j, hj, hjn⟩ => by
    unfold SetTable.layClean.free
    cases e : (List.range (SetTable.runEnd mask i + 1 - i)).find? fun k => (owner.getD (i + k) (some 0)).isNone with
    | some k =>
      dsimp only
      exact ⟨_, rfl, by simpa using List.find?_some e⟩
    | none =>
      dsimp only
      refine free_finds n fuel _ _ (by omega) ?_
      unfold winL at hj
      rcases List.mem_append.mp hj with z | z
      · obtain ⟨k, hk, rfl⟩ := List.mem_map.mp z
        have := List.find?_eq_none.mp e k hk
        exact absurd hjn this
      · exact ⟨j, z, hjn⟩
theorem probes : ∀ i : Fin 36, 5 ≤ (ddp (posL 7 20 (startM 7 (cellH (i.val / 6) (i.val % 6))))).length ∧ 19 ≤ (ddp (posL 31 100 (startM 31 (cellH (i.val / 6) (i.val % 6))))).length ∧ 37 ≤ (ddp (posL 127 80 (startM 127 (cellH (i.val / 6) (i.val % 6))))).length := by decide +kernel
theorem windows : ∀ i : Fin 36, (5 ≤ (ddp (winL 31 6 (SetTable.bits (cellH (i.val / 6) (i.val % 6)) % 32) (SetTable.bits (cellH (i.val / 6) (i.val % 6))))).length ∧ (winL 31 6 (SetTable.bits (cellH (i.val / 6) (i.val % 6)) % 32) (SetTable.bits (cellH (i.val / 6) (i.val % 6)))).all (fun j => decide (j < 32)) = true) ∧
    (19 ≤ (ddp (winL 127 6 (SetTable.bits (cellH (i.val / 6) (i.val % 6)) % 128) (SetTable.bits (cellH (i.val / 6) (i.val % 6))))).length ∧ (winL 127 6 (SetTable.bits (cellH (i.val / 6) (i.val % 6)) % 128) (SetTable.bits (cellH (i.val / 6) (i.val % 6)))).all (fun j => decide (j < 128)) = true) := by decide +kernel
end L2
set_option Elab.async false
set_option linter.all false
set_option maxRecDepth 100000
set_option maxHeartbeats 4000000
namespace L2
open PySem PySem.Spec PyProof.Rows
theorem fm_congr {β : Type} {f g : Nat → Option β} : ∀ {l : List Nat}, (∀ j ∈ l, f j = g j) → l.filterMap f = l.filterMap g
  | [], _ => rfl
  | a :: l, h => by
    have ih := fm_congr (f := f) (g := g) (l := l) fun j hj => h j (.tail _ hj)
    rw [List.filterMap_cons, List.filterMap_cons, h a (.head _), ih]
theorem fm_len {β : Type} {f f' : Nat → Option β} {j0 : Nat} {v : β} : ∀ {l : List Nat}, l.Nodup → j0 ∈ l → f j0 = none → f' j0 = some v → (∀ j ∈ l, j ≠ j0 → f' j = f j) → (l.filterMap f').length = (l.filterMap f).length + 1 ∧ ∀ p ∈ l.filterMap f', p = v ∨ p ∈ l.filterMap f
  | [], _, h, _, _, _ => nomatch h
  | a :: l, hn, hm, h1, h2, h3 => by
    have hn := List.nodup_cons.mp hn
    by_cases e : a = j0
    · subst e
      have el : l.filterMap f' = l.filterMap f := fm_congr fun j hj => h3 j (.tail _ hj) (fun z => hn.1 (by rw [← z]; exact hj))
      rw [List.filterMap_cons_some h2, List.filterMap_cons_none h1, el]
      refine ⟨rfl, fun p hp => ?_⟩
      rcases List.mem_cons.mp hp with z | z
      · exact .inl z
      · exact .inr z
    · have hm : j0 ∈ l := by
        rcases List.mem_cons.mp hm with z | z
        · exact absurd z.symm e
        · exact z
      obtain ⟨i1, i2⟩ := fm_len hn.2 hm h1 h2 fun j hj => h3 j (.tail _ hj)
      have ea := h3 a (.head _) e
      cases q : f a with
      | none =>
        rw [q] at ea
        rw [List.filterMap_cons_none ea, List.filterMap_cons_none q]
        exact ⟨i1, i2⟩
      | some b =>
        rw [q] at ea
        rw [List.filterMap_cons_some ea, List.filterMap_cons_some q, List.length_cons, List.length_cons, i1]
        refine ⟨rfl, fun p hp => ?_⟩
        rcases List.mem_cons.mp hp with z | z
        · exact .inr (by rw [z]; exact .head _)
        · rcases i2 p z with y | y
          · exact .inl y
          · exact .inr (.tail _ y)
def liveL (mask : Nat) (owner : Array (Option Nat)) : List (Nat × Nat) := (List.range (mask + 1)).filterMap fun j => (owner.getD j none).map (j, ·)
structure LayI (mask : Nat) (owner : Array (Option Nat)) (k : Nat) : Prop where
  sz : owner.size = mask + 1
  ln : (liveL mask owner).length = k
  lt : ∀ p ∈ liveL mask owner, p.2 < k
theorem getD_in {owner : Array (Option Nat)} {j : Nat} (h : j < owner.size) (d : Option Nat) : owner.getD j d = owner[j] := by
  unfold Array.getD
  rw [dif_pos h]
  rfl
theorem LayI.step {mask k j : Nat} {owner : Array (Option Nat)} (I : LayI mask owner k) (h : (owner.getD j (some 0)).isNone = true) : LayI mask (owner.setIfInBounds j (some k)) (k + 1) := by
  have hj : j < owner.size := by
    rcases Nat.lt_or_ge j owner.size with z | z
    · exact z
    · exfalso
      unfold Array.getD at h
      rw [dif_neg (by omega)] at h
      simp at h
  rw [getD_in hj] at h
  have h : owner[j] = none := by simpa using h
  have hsz : (owner.setIfInBounds j (some k)).size = owner.size := Array.size_setIfInBounds
  obtain ⟨f1, f2⟩ := fm_len (f := fun i => (owner.getD i none).map (i, ·)) (f' := fun i => ((owner.setIfInBounds j (some k)).getD i none).map (i, ·)) (j0 := j) (v := (j, k)) (l := List.range (mask + 1)) List.nodup_range (List.mem_range.mpr (by rw [← I.sz]; exact hj)) (by show (owner.getD j none).map _ = none; rw [getD_in hj, h]; rfl)
    (by show ((owner.setIfInBounds j (some k)).getD j none).map _ = _; rw [getD_in (by rw [hsz]; exact hj), Array.getElem_setIfInBounds hj, if_pos rfl]; rfl) (fun i hi ne => by
      have hi : i < owner.size := by rw [I.sz]; exact List.mem_range.mp hi
      show ((owner.setIfInBounds j (some k)).getD i none).map _ = (owner.getD i none).map _
      rw [getD_in (by rw [hsz]; exact hi), getD_in hi, Array.getElem_setIfInBounds hi, if_neg (Ne.symm ne)])
  refine ⟨by rw [hsz]; exact I.sz, by show List.length _ = _; rw [show (liveL mask (owner.setIfInBounds j (some k))).length = _ from f1]; show (liveL mask owner).length + 1 = _; rw [I.ln], fun p hp => ?_⟩
  rcases f2 p hp with z | z
  · rw [z]; show k < k + 1; omega
  · have := I.lt p z
    omega
def WinOk (mask n : Nat) (h : Int) : Prop := ∃ m, m ≤ SetTable.turns mask ∧ n ≤ (ddp (winL mask m (SetTable.bits h % (mask + 1)) (SetTable.bits h))).length ∧ ∀ j ∈ winL mask m (SetTable.bits h % (mask + 1)) (SetTable.bits h), j < mask + 1
theorem LayI.free {mask k n : Nat} {owner : Array (Option Nat)} {h : Int} (I : LayI mask owner k) (W : WinOk mask n h) (hk : k < n) : ∃ j, SetTable.layClean.free mask owner (SetTable.turns mask) (SetTable.bits h % (mask + 1)) (SetTable.bits h) = some j ∧ (owner.getD j (some 0)).isNone = true := by
  obtain ⟨m, hm, hn, hb⟩ := W
  obtain ⟨j, hj, hjp⟩ := some_free (L := winL mask m (SetTable.bits h % (mask + 1)) (SetTable.bits h)) (P := (liveL mask owner).map (·.1)) (by rw [List.length_map, I.ln]; omega)
  refine free_finds m _ _ _ hm ⟨j, hj, ?_⟩
  have hjm := hb j hj
  have hjs : j < owner.size := by rw [I.sz]; exact hjm
  rw [getD_in hjs]
  cases e : owner[j] with
  | none => rfl
  | some v =>
    exfalso
    refine hjp (List.mem_map.mpr ⟨(j, v), ?_, rfl⟩)
    unfold liveL
    exact List.mem_filterMap.mpr ⟨j, List.mem_range.mpr hjm, by rw [getD_in hjs, e]; rfl⟩
theorem lay_fold {mask n : Nat} : ∀ (hs : List Int) (owner : Array (Option Nat)) (k : Nat), LayI mask owner k → k + hs.length ≤ n → (∀ h ∈ hs, WinOk mask n h) → ∃ owner', (hs.foldl (fun (acc : Option (Array (Option Nat) × Nat)) h => do
      let (owner, k) ← acc
      let j ← SetTable.layClean.free mask owner (SetTable.turns mask) (SetTable.bits h % (mask + 1)) (SetTable.bits h)
      pure (owner.setIfInBounds j (some k), k + 1)) (some (owner, k))) = some (owner', k + hs.length) ∧ LayI mask owner' (k + hs.length)
  | [], owner, k, I, _, _ => ⟨owner, rfl, I⟩
  | h :: hs, owner, k, I, hn, hw => by
    rw [List.length_cons] at hn
    obtain ⟨j, ej, hj⟩ := I.free (hw h (.head _)) (by omega)
    obtain ⟨o2, e2, I2⟩ := lay_fold hs (owner.setIfInBounds j (some k)) (k + 1) (I.step hj) (by omega) (fun g hg => hw g (.tail _ hg))
    rw [List.foldl_cons]
    refine ⟨o2, ?_, by rw [List.length_cons, show k + (hs.length + 1) = k + 1 + hs.length by omega]; exact I2⟩
    rw [List.length_cons, show k + (hs.length + 1) = k + 1 + hs.length by omega, ← e2]
    congr 1
    show (SetTable.layClean.free mask owner (SetTable.turns mask) (SetTable.bits h % (mask + 1)) (SetTable.bits h)).bind _ = _
    rw [ej]
    rfl
theorem lay_start (mask : Nat) : LayI mask (Array.replicate (mask + 1) none) 0 := by
  have e : liveL mask (Array.replicate (mask + 1) none) = [] := by
    unfold liveL
    rw [List.filterMap_eq_nil_iff]
    intro j hj
    rw [getD_in (by rw [Array.size_replicate]; exact List.mem_range.mp hj), Array.getElem_replicate]
    rfl
  exact ⟨Array.size_replicate, by rw [e]; rfl, by rw [e]; exact fun p hp => nomatch hp⟩
theorem laid_ok {mask fin mv : Nat} {led pl : Bool} {hs : Array Int} (hw : ∀ h ∈ hs.toList, WinOk mask hs.size h) : ∃ (t : SetTable) (order : Array Nat), SetTable.laid mask fin mv led pl hs = some (t, order) ∧ t.mask = mask ∧ t.dummies = #[] ∧ t.place.size = hs.size ∧ order.size = hs.size ∧ ∀ i ∈ order.toList, i < hs.size := by
  obtain ⟨o, e, I⟩ := lay_fold hs.toList (Array.replicate (mask + 1) none) 0 (lay_start mask) (by simp) hw
  rw [Nat.zero_add, Array.length_toList] at e I
  have ec : SetTable.layClean mask hs = some o := by
    unfold SetTable.layClean
    rw [← Array.foldl_toList]
    exact congrArg (Option.map (·.1)) e
  refine ⟨⟨mask, ((liveL mask o).map (·.1)).toArray, #[], fin, led, mv, pl⟩, ((liveL mask o).map (·.2)).toArray, ?_, rfl, rfl, ?_, ?_, fun i hi => ?_⟩
  · unfold SetTable.laid
    rw [ec]
    rfl
  · rw [List.size_toArray, List.length_map, I.ln]
  · rw [List.size_toArray, List.length_map, I.ln]
  · have hi : i ∈ (liveL mask o).map (·.2) := hi
    obtain ⟨p, hp, rfl⟩ := List.mem_map.mp hi
    exact I.lt p hp
end L2
set_option Elab.async false
set_option linter.all false
set_option maxRecDepth 100000
set_option maxHeartbeats 4000000
namespace L2
open PySem PySem.Spec PyProof.Rows
def mkM (n : Nat) : Nat := if n < 5 then 7 else if n < 19 then 31 else 127
def SetAt (h : Heap) (a : Addr) (cs : List (Nat × Nat)) : Prop := ∃ o es ep t, h.get? a = some o ∧ o.ExactSet ∧ o.data = .set es ep t ∧ es.size = cs.length ∧ t.place.size = cs.length ∧ t.dummies = #[] ∧ t.mask = mkM cs.length ∧ ∀ e ∈ es.toList, ∃ c ∈ cs, e.1 = cellH c.1 c.2
theorem mk_le {n : Nat} (h : n ≤ 36) : n ≤ mkM n := by
  unfold mkM
  split
  · omega
  · split <;> omega
theorem fits_of {t : SetTable} {n : Nat} (h1 : t.place.size = n) (h2 : t.dummies = #[]) (h3 : t.mask = mkM n) (hn : n ≤ 36) : t.fits n = true := by
  unfold SetTable.fits SetTable.fill
  rw [h1, h2, h3]
  have := mk_le hn
  simp
  exact this
theorem probe_free {t : SetTable} {n r c : Nat} {es : Array (Int × Value)} (h1 : t.place.size = n) (h2 : t.dummies = #[]) (h3 : t.mask = mkM n) (hn : n < 36) (hr : r < 6) (hc : c < 6) (he : es.size = n) (hne : ∀ e ∈ es.toList, e.1 ≠ cellH r c) :
    ∃ j, t.probe (fun i => (es[i]?.map (·.1)).getD 0) (cellH r c) (t.probeStart (cellH r c)) = some (.empty j none) := by
  have ei : (6 * r + c) / 6 = r ∧ (6 * r + c) % 6 = c := by omega
  have hp := probes ⟨6 * r + c, by omega⟩
  dsimp only at hp
  rw [ei.1, ei.2] at hp
  have hh : ∀ i, i < t.place.size → (fun i => (es[i]?.map (·.1)).getD 0) i ≠ cellH r c := fun i hi => by
    have hi : i < es.size := by omega
    show (es[i]?.map (·.1)).getD 0 ≠ _
    rw [Array.getElem?_eq_getElem hi]
    exact hne es[i] (Array.getElem_mem_toList hi)
  have hl : t.place.toList.length = n := by rw [Array.length_toList, h1]
  unfold SetTable.probe
  rw [start_eq]
  have key : ∀ k, k ≤ 10 * SetTable.turns t.mask → n < (ddp (posL t.mask k (startM t.mask (cellH r c)))).length → ∃ j, SetTable.probe.go t (fun i => (es[i]?.map (·.1)).getD 0) (cellH r c) (10 * SetTable.turns t.mask) (startM t.mask (cellH r c)) = some (.empty j none) := fun k hk hd =>
    probe_finds h2 hh k _ _ hk rfl (some_free (by rw [hl]; exact hd))
  unfold mkM at h3
  unfold SetTable.turns at key
  split at h3
  · rw [h3] at key
    have h := key 20 (by decide) (by omega)
    unfold SetTable.turns
    rw [h3]
    exact h
  · split at h3
    · rw [h3] at key
      have h := key 100 (by decide) (by omega)
      unfold SetTable.turns
      rw [h3]
      exact h
    · rw [h3] at key
      have h := key 80 (by decide) (by omega)
      unfold SetTable.turns
      rw [h3]
      exact h
section
variable {prog : Program} {w : World} {A : Around} {E : Value → Shared → Prop} {s : Shared}
theorem search_T {a x : Addr} {o : Obj} {es : Array (Int × Value)} {ep n r c : Nat} {t : SetTable} {Q : SetFound → Shared → Prop} (ho : s.heap.get? a = some o) (hd : o.data = .set es ep t) (he : es.size = n) (h1 : t.place.size = n) (h2 : t.dummies = #[]) (h3 : t.mask = mkM n) (hn : n < 36) (hr : r < 6) (hc : c < 6) (hne : ∀ e ∈ es.toList, e.1 ≠ cellH r c)
    (q : ∀ j, Q (.free j false) s) : wpAny (model prog w) A (setSearch a (.ref x) (cellH r c) true) Q E s := by
  have hf : t.fits es.size = true := by rw [he]; exact fits_of h1 h2 h3 (by omega)
  obtain ⟨j, hj⟩ := probe_free h1 h2 h3 hn hr hc he hne
  have hg : t.gaveWay = false := by
    unfold SetTable.gaveWay
    rw [h3]
    unfold mkM
    split
    · rfl
    · split <;> rfl
  unfold setSearch setSearchFrom
  refine wpAny_bind (wpAny_setState_of ho hd hf ?_)
  dsimp only
  rw [hg]
  simp only [Bool.false_eq_true, if_false]
  generalize hpr : SetTable.probe t _ (cellH r c) _ = pr
  have : pr = some (.empty j none) := hpr.symm.trans hj
  subst this
  dsimp only
  exact wpAny_pure (q j)
theorem byVal_T {x : Addr} {Q : Bool → Shared → Prop} {i j : Int} {t u : Tok} (hx : PyProof.Rows.IsTup s.heap x #[.int i t, .int j u]) (q : Q true s) : wpAny (model prog w) A (hashByValue 8 (.ref x)) Q E s := by
  obtain ⟨o, ho, hc, n, hd⟩ := hx
  have hT : s.TypeIs (.ref x) "tuple" := ⟨o, ho, hc⟩
  unfold hashByValue
  refine wpAny_bind (wpAny_specialOf hT F.slot_tuple_hash.lookup ?_)
  dsimp only
  show wpAny _ _ (seqItems? (Value.ref x) >>= _) _ _ _
  refine wpAny_bind ?_
  unfold seqItems?
  refine wpAny_bind (wpAny_load ho ?_)
  rw [hd]
  dsimp only
  refine wpAny_pure ?_
  dsimp only [Option.getD]
  refine wpAny_bind ?_
  rw [← Array.forIn_toList]
  refine wpAny_forIn_list _ (fun rest r s' => r.1 = none ∧ s' = s ∧ ∀ v ∈ rest, ∃ (i : Int) (t : Tok), v = .int i t) _ ?_ ?_ _ _ ⟨rfl, rfl, fun v hv => ?_⟩
  · rintro v rest r s' ⟨hr, rfl, hall⟩
    obtain ⟨k, tk, rfl⟩ := hall v List.mem_cons_self
    refine wpAny_bind ?_
    show wpAny _ _ (pure true) _ _ _
    refine wpAny_pure ?_
    simp only [Bool.not_true, Bool.false_eq_true, if_false]
    exact wpAny_pure ⟨rfl, rfl, fun u hu => hall u (List.mem_cons_of_mem _ hu)⟩
  · rintro ⟨r1, r2⟩ s' ⟨hr, rfl, _⟩
    simp only at hr
    subst hr
    exact wpAny_pure q
  · simp only [List.mem_cons, List.not_mem_nil, or_false] at hv
    rcases hv with rfl | rfl <;> exact ⟨_, _, rfl⟩
theorem ins_size {α : Type} (xs : Array α) (p : Nat) (v : α) : (SetTable.insertAt xs p v).size = xs.size + 1 := by
  unfold SetTable.insertAt
  simp only [Array.size_append, Array.size_push, Array.size_extract]
  omega
theorem ins_mem {α : Type} {xs : Array α} {p : Nat} {v e : α} (h : e ∈ (SetTable.insertAt xs p v).toList) : e = v ∨ e ∈ xs.toList := by
  unfold SetTable.insertAt at h
  rw [Array.toList_append, List.mem_append, Array.toList_push, List.mem_append, Array.toList_extract, Array.toList_extract] at h
  rcases h with (z | z) | z
  · exact .inr (List.mem_of_mem_drop (List.mem_of_mem_take z))
  · exact .inl (by simpa using z)
  · exact .inr (List.mem_of_mem_drop (List.mem_of_mem_take z))
theorem relay_T {a : Addr} {o : Obj} {es : Array (Int × Value)} {ep : Nat} {t : SetTable} {wanted mask : Nat} {Q : Unit → Shared → Prop} (ho : s.heap.get? a = some o) (hex : o.ExactSet) (hd : o.data = .set es ep t) (hf : t.fits es.size = true) (hm : SetTable.sizeAbove wanted = mask + 1) (hm2 : mask + 1 ≤ sizeLine) (hz : es.size ≤ sizeLine)
    (hw : ∀ e ∈ es.toList, WinOk mask es.size e.1)
    (q : ∀ h' o' es' ep' t', Heap.SameBut a s.heap h' → h'.get? a = some o' → o'.ExactSet → o'.data = .set es' ep' t' → es'.size = es.size → t'.place.size = es.size → t'.dummies = #[] → t'.mask = mask → (∀ e ∈ es'.toList, e ∈ es.toList) → Q () { s with heap := h' }) : wpAny (model prog w) A (setRelay a wanted) Q E s := by
  unfold setRelay
  refine wpAny_bind (wpAny_setState_of ho hd hf ?_)
  dsimp only
  rw [hm, if_neg (by omega)]
  obtain ⟨t', order, el, m1, m2, m3, m4, m5⟩ := laid_ok (mask := mask) (fin := t.finger) (mv := t.movedTo mask) (led := t.led) (pl := t.plain) (hs := es.map (·.1)) (fun h hh => by
    rw [Array.toList_map] at hh
    obtain ⟨e, he, rfl⟩ := List.mem_map.mp hh
    rw [Array.size_map]
    exact hw e he)
  rw [Array.size_map] at m3 m4 m5
  generalize er : SetTable.relaid t _ wanted = rl
  have : rl = some (t', order) := by
    rw [← er]
    unfold SetTable.relaid
    rw [hm]
    exact el
  subst this
  refine wpAny_bind ?_
  show wpAny (model prog w) A (do
    let zs := order.filterMap (es[·]?)
    if zs.size != es.size then unsupported "internal:set-table-lost-an-element"
    pure (zs, t') : Sem (Array (Int × Value) × SetTable)) _ E s
  have hsz : (order.filterMap (es[·]?)).size = es.size := by
    rw [← Array.length_toList, Array.toList_filterMap, ← m4, ← Array.length_toList (xs := order)]
    have : ∀ l : List Nat, (∀ i ∈ l, i < es.size) → (l.filterMap (es[·]?)).length = l.length := fun l => by
      induction l with
      | nil => intro _; rfl
      | cons b l ih =>
        intro h
        rw [List.filterMap_cons_some (Array.getElem?_eq_getElem (h b (.head _))), List.length_cons, List.length_cons, ih fun i hi => h i (.tail _ hi)]
    exact this _ m5
  have hb : ((order.filterMap (es[·]?)).size != es.size) = false := by rw [hsz]; simp
  dsimp only
  rw [hb]
  simp only [Bool.false_eq_true, if_false]
  refine wpAny_pure ?_
  dsimp only
  have hg := Heap.get?_update_self (Obj.putSet (order.filterMap (es[·]?)) t') ho (by rw [putSet_of _ t' hd]; rfl)
  rw [putSet_of _ t' hd] at hg
  refine wpAny_storeSet_of ho hd (q _ _ _ _ _ (Heap.SameBut.update s.heap a _) hg ⟨hex.1, hex.2.1, hex.2.2⟩ rfl hsz m3 m2 m1 fun e he => ?_) (by rw [hsz]; exact hz)
  rw [Array.toList_filterMap] at he
  obtain ⟨i, _, hi⟩ := List.mem_filterMap.mp he
  obtain ⟨hlt, rfl⟩ := Array.getElem?_eq_some_iff.mp hi
  exact Array.getElem_mem_toList hlt
theorem win_ok {r c : Nat} (hr : r < 6) (hc : c < 6) : WinOk 31 5 (cellH r c) ∧ WinOk 127 19 (cellH r c) := by
  have ei : (6 * r + c) / 6 = r ∧ (6 * r + c) % 6 = c := by omega
  have hp := windows ⟨6 * r + c, by omega⟩
  dsimp only at hp
  rw [ei.1, ei.2] at hp
  obtain ⟨⟨a1, a2⟩, b1, b2⟩ := hp
  rw [List.all_eq_true] at a2 b2
  exact ⟨⟨6, by decide, a1, fun j hj => of_decide_eq_true (a2 j hj)⟩, ⟨6, by decide, b1, fun j hj => of_decide_eq_true (b2 j hj)⟩⟩
theorem put_facts {t : SetTable} (h : t.dummies = #[]) (j : Nat) : (t.put j).1.place.size = t.place.size + 1 ∧ (t.put j).1.dummies = #[] ∧ (t.put j).1.mask = t.mask := by
  unfold SetTable.put
  dsimp only
  refine ⟨ins_size _ _ _, ?_, rfl⟩
  rw [h]
  have h2 : SetTable.has #[] j = false := rfl
  rw [h2]
  rfl
theorem add_T {a x : Addr} {cs : List (Nat × Nat)} {r c : Nat} {t1 t2 : Tok} {Q : Bool → Shared → Prop} (hS : SetAt s.heap a cs) (hx : PyProof.Rows.IsTup s.heap x #[.int (r : Int) t1, .int (c : Int) t2]) (hr : r < 6) (hc : c < 6) (hb : ∀ d ∈ cs, d.1 < 6 ∧ d.2 < 6) (hn : cs.length < 36) (hnew : (r, c) ∉ cs)
    (q : ∀ h', Heap.SameBut a s.heap h' → SetAt h' a (cs ++ [(r, c)]) → Q true { s with heap := h' }) : wpAny (model prog w) A (setAddHashed a (.ref x) (cellH r c)) Q E s := by
  obtain ⟨o, es, ep, t, ho, hex, hd, he, h1, h2, h3, h4⟩ := hS
  have hf : t.fits es.size = true := by rw [he]; exact fits_of h1 h2 h3 (by omega)
  have hne : ∀ e ∈ es.toList, e.1 ≠ cellH r c := fun e hee z => by
    obtain ⟨d, hd1, hd2⟩ := h4 e hee
    obtain ⟨b1, b2⟩ := hb d hd1
    obtain ⟨e1, e2⟩ := cellH_inj b1 b2 hr hc (hd2.symm.trans z)
    exact hnew (by rw [← e1, ← e2]; exact hd1)
  unfold setAddHashed setAddHashedIn
  refine wpAny_holding (wpAny_bind (wpAny_setState_of ho hd hf ?_))
  dsimp only
  have hbs : byScan (.ref x) es = false := rfl
  rw [hbs]
  simp only [Bool.false_eq_true, if_false]
  refine wpAny_bind (search_T ho hd he h1 h2 h3 hn hr hc hne fun j => ?_)
  dsimp only
  refine wpAny_bind (wpAny_setState_of ho hd hf ?_)
  dsimp only
  obtain ⟨p1, p2, p3⟩ := put_facts h2 j
  generalize t.put j = tp at p1 p2 p3 ⊢
  obtain ⟨T1, pp⟩ := tp
  dsimp only at p1 p2 p3 ⊢
  have hes : (SetTable.insertAt es pp (cellH r c, Value.ref x)).size = cs.length + 1 := by rw [ins_size, he]
  have hem : ∀ e ∈ (SetTable.insertAt es pp (cellH r c, Value.ref x)).toList, ∃ d ∈ cs ++ [(r, c)], e.1 = cellH d.1 d.2 := fun e hee => by
    rcases ins_mem hee with z | z
    · exact ⟨(r, c), by simp, by rw [z]⟩
    · obtain ⟨d, d1, d2⟩ := h4 e z
      exact ⟨d, List.mem_append_left _ d1, d2⟩
  have hb' : ∀ d ∈ cs ++ [(r, c)], d.1 < 6 ∧ d.2 < 6 := fun d hd' => by
    rcases List.mem_append.mp hd' with z | z
    · exact hb d z
    · have : d = (r, c) := by simpa using z
      subst this
      exact ⟨hr, hc⟩
  have hl' : (cs ++ [(r, c)]).length = cs.length + 1 := by simp
  generalize SetTable.insertAt es pp (cellH r c, Value.ref x) = es1 at hes hem ⊢
  have hz : es1.size ≤ sizeLine := by rw [hes, sizeLine_eq]; omega
  have tail : wpAny (model prog w) A (do { storeSet a es1 T1; if (!false && T1.tooFull) = true then do { setRelay a (SetTable.grown (es.size + 1)); pure true } else pure true }) Q E s := by
    have hg := Heap.get?_update_self (Obj.putSet es1 T1) ho (by rw [putSet_of _ T1 hd]; rfl)
    rw [putSet_of _ T1 hd] at hg
    have sb := Heap.SameBut.update s.heap a (Obj.putSet es1 T1)
    refine wpAny_bind (wpAny_storeSet_of ho hd ?_ hz)
    have hfull : T1.tooFull = decide ((cs.length + 1) * 5 ≥ mkM cs.length * 3) := by
      unfold SetTable.tooFull SetTable.fill
      rw [p1, p2, p3, h1, h3]
      rfl
    rw [Bool.not_false, Bool.true_and, hfull]
    by_cases hq : (cs.length + 1) * 5 ≥ mkM cs.length * 3
    · rw [if_pos (decide_eq_true hq), he]
      have hcase : (cs.length = 4 ∧ mkM cs.length = 7) ∨ (cs.length = 18 ∧ mkM cs.length = 31) := by
        unfold mkM at hq ⊢
        split at hq
        · rw [if_pos (by assumption)]; omega
        · rw [if_neg (by assumption)]
          split at hq
          · rw [if_pos (by assumption)]; omega
          · omega
      have hf1 : T1.fits es1.size = true := by
        unfold SetTable.fits SetTable.fill
        rw [p1, p2, p3, h1, h3, hes]
        simp
        omega
      obtain ⟨mask, hm1, hm2, hm3, hm4⟩ : ∃ mask, SetTable.sizeAbove (SetTable.grown (cs.length + 1)) = mask + 1 ∧ mask + 1 ≤ sizeLine ∧ mask = mkM (cs.length + 1) ∧ ∀ d ∈ cs ++ [(r, c)], WinOk mask (cs.length + 1) (cellH d.1 d.2) := by
        rcases hcase with ⟨z, _⟩ | ⟨z, _⟩
        · rw [z]
          exact ⟨31, rfl, by decide, rfl, fun d hd' => (win_ok (hb' d hd').1 (hb' d hd').2).1⟩
        · rw [z]
          exact ⟨127, rfl, by decide, rfl, fun d hd' => (win_ok (hb' d hd').1 (hb' d hd').2).2⟩
      refine wpAny_bind (relay_T (s := { s with heap := s.heap.update a (Obj.putSet es1 T1) }) hg ⟨hex.1, hex.2.1, hex.2.2⟩ rfl hf1 hm1 hm2 hz (fun e hee => ?_) fun h' o' es' ep' t' sb' ho' hex' hd' g1 g2 g3 g4 g5 => ?_)
      · obtain ⟨d, d1, d2⟩ := hem e hee
        rw [hes, d2]
        exact hm4 d d1
      · refine wpAny_pure (q h' (sb.trans sb') ⟨o', es', ep', t', ho', hex', hd', by rw [g1, hes, hl'], by rw [g2, hes, hl'], g3, by rw [g4, hl', hm3], fun e hee => hem e (g5 e hee)⟩)
    · rw [if_neg (by simpa using hq)]
      refine wpAny_pure (q _ sb ⟨_, es1, _, T1, hg, ⟨hex.1, hex.2.1, hex.2.2⟩, rfl, by rw [hes, hl'], by rw [p1, h1, hl'], p2, ?_, hem⟩)
      rw [p3, h3, hl']
      unfold mkM at hq ⊢
      split at hq
      · rw [if_pos (by assumption), if_pos (by omega)]
      · rw [if_neg (by assumption)]
        split at hq
        · rw [if_pos (by assumption), if_neg (by omega), if_pos (by omega)]
        · rw [if_neg (by assumption), if_neg (by omega), if_neg (by omega)]
  split
  · refine wpAny_bind (byVal_T hx ?_)
    simp only [↓reduceIte]
    exact tail
  · refine wpAny_bind (wpAny_pure ?_)
    simp only [↓reduceIte]
    exact tail
end
end L2
set_option Elab.async false
set_option linter.all false
set_option maxRecDepth 100000
set_option maxHeartbeats 4000000
namespace L2
open PySem PySem.Spec PyProof.Rows
theorem SetAt.keep {h h' : Heap} {a : Addr} {cs : List (Nat × Nat)} (x : SetAt h a cs) (k : ∀ o, h.get? a = some o → h'.get? a = some o) : SetAt h' a cs := by
  obtain ⟨o, es, ep, t, ho, r⟩ := x
  exact ⟨o, es, ep, t, k o ho, r⟩
section
variable {prog : Program} {w : World} {A : Around} {R : Result → Shared → Prop} {I : Addr} {fp wr : List Addr} {G : Array GenState → Array GenState → Prop} {n : Nat} {P : Nat → Value → Prop} {St : Nat → Shared → Prop}
def TupsAt (h : Heap) (no : List Addr) (ad : Nat → Addr) (cs : List (Nat × Nat)) : Prop := ∀ j d, cs[j]? = some d → ad j ∉ no ∧ ∃ t u, PyProof.Rows.IsTup h (ad j) #[.int (d.1 : Int) t, .int (d.2 : Int) u]
theorem set_loop (W : WalksS prog w A.in1 I fp wr G n P St) (S : Addr) (hSf : S ∉ fp) {cs : List (Nat × Nat)} (hcs : cs.length = n) (nd : cs.Nodup) (hb : ∀ d ∈ cs, d.1 < 6 ∧ d.2 < 6) (hn : n ≤ 36) {ad : Nat → Addr} (hP : ∀ i v, P i v → v = .ref (ad i)) (hu : A.in1.units < cLine) :
    ∀ (k i : Nat) (s : Shared), n - i = k → i ≤ n → St i s → SetAt s.heap S (cs.take i) → TupsAt s.heap (S :: wr) ad cs → (∀ s', Moved (S :: wr) G s s' → SetAt s'.heap S cs → R (.ok (.ret .none)) s') → codeAny (model prog w) A (.builtin "set.update.loop" ⟨[.ref S, .ref I], []⟩) R s := by
  have hSw : S ∉ wr := fun h => hSf (W.sub _ h)
  have hsub : ∀ b ∈ wr, b ∈ S :: wr := fun b hb => .tail _ hb
  intro k
  induction k with
  | zero =>
    intro i s hk hi hst hS hT hR
    obtain rfl : i = n := by omega
    refine codeAny_builtin F.entry_set_update_loop ?_
    rw [Around.under_plainId F.plain_set_update_loop _]; show wpAny _ A.in1 (pyNext (.ref I) >>= _) _ _ s
    refine wpAny_bind (W.done s _ _ hst fun s' hm => ?_)
    show wpAny _ A.in1 (ret Value.none) _ _ s'
    refine wpAny_pure (hR s' (hm.mono hsub) ?_)
    rw [← hcs, List.take_length] at hS; exact hS.keep fun o ho => hm.heap S o hSw ho
  | succ k ih =>
    intro i s hk hi hst hS hT hR
    have hlt : i < n := by omega
    refine codeAny_builtin F.entry_set_update_loop ?_
    rw [Around.under_plainId F.plain_set_update_loop _]; show wpAny _ A.in1 (pyNext (.ref I) >>= _) _ _ s
    refine wpAny_bind (W.item i s _ _ hlt hst fun v s' hPv hst' hm => ?_)
    have hv := hP i v hPv
    subst hv
    have hS' : SetAt s'.heap S (cs.take i) := hS.keep fun o ho => hm.heap S o hSw ho
    have hil : i < cs.length := by omega
    have hT' : TupsAt s'.heap (S :: wr) ad cs := fun j d hj => by
      obtain ⟨h1, t, u, o, ho, r⟩ := hT j d hj
      exact ⟨h1, t, u, o, hm.heap _ _ (fun z => h1 (.tail _ z)) ho, r⟩
    obtain ⟨hno, t, u, htp⟩ := hT' i cs[i] (List.getElem?_eq_getElem hil)
    obtain ⟨hb1, hb2⟩ := hb cs[i] (List.getElem_mem hil)
    show wpAny _ A.in1 (holding [Value.ref (ad i)] (setAdd S (.ref (ad i))) >>= _) _ _ s'
    refine wpAny_bind (wpAny_holding ?_)
    unfold setAdd
    have hkey : IsTupleKey (intKind prog w) s'.heap [((cs[i].1 : Nat) : Int), ((cs[i].2 : Nat) : Int)] (ad i) := by
      obtain ⟨o, ho, hc, m, hd⟩ := htp
      exact ⟨o, _, m, ho, hc, hd, .cons (intKind_is _ _ _ _) (.cons (intKind_is _ _ _ _) .nil)⟩
    refine wpAny_holding (wpAny_bind (wpAny_pyHash_tuple hu hkey ?_))
    have hnew : cs[i] ∉ cs.take i := fun z => by
      obtain ⟨j, hj, e⟩ := List.getElem_of_mem z
      rw [List.getElem_take] at e
      rw [List.length_take] at hj
      exact (List.pairwise_iff_getElem.mp nd j i (by omega) hil (by omega)) e
    refine add_T (s := { s' with toks := _ }) (cs := cs.take i) (r := cs[i].1) (c := cs[i].2) (t1 := t) (t2 := u) hS' htp hb1 hb2 (fun d hd => hb d (List.mem_of_mem_take hd)) (by rw [List.length_take]; omega) hnew fun h' hsb hS2 => ?_
    have hS2 : SetAt h' S (cs.take (i + 1)) := by
      rw [List.take_add_one, List.getElem?_eq_getElem hil]; exact hS2
    refine wpAny_pure ⟨plainId_quiet F.plain_set_update_loop _, ih (i + 1) _ (by omega) hlt (W.frame _ s' _ _ hst' (Nat.le_add_right _ _) fun b hb' o e => ?_) hS2 (fun j d hj => ?_) fun s'' hm'' hS'' => ?_⟩
    · rw [hsb.2 b (fun z : b = S => hSf (z ▸ hb'))]; exact e
    · obtain ⟨h1, t, u, o, ho, r⟩ := hT' j d hj
      exact ⟨h1, t, u, o, by rw [hsb.2 _ (fun z => h1 (z ▸ .head _))]; exact ho, r⟩
    · refine hR s'' (Moved.trans W.gtrans ((hm.mono hsub).then_heap (Nat.le_add_right _ _) fun b o hb' e => ?_) hm'') hS''
      rw [hsb.2 b (fun z : b = S => hb' (z ▸ .head _))]; exact e
end
section
variable {prog : Program} {w : World} {A : Around} {E : Value → Shared → Prop} {s : Shared}
abbrev setObj0 (led : Bool) : Obj := { cls := .type "set", dict := none, data := .set #[] 0 (.fresh 0 0 led) }
set_option maxHeartbeats 6400000 in
theorem call_set_T {l : Addr} {items : Array Value} {cs : List (Nat × Nat)} {ad : Nat → Addr} {Q : Value → Shared → Prop} (hh : A.handled = none) (hu : A.units + 64 < cLine) (hl : s.heap.IsList l items) (hsz : items.size = cs.length) (hit : ∀ (i : Nat) (v : Value), items[i]? = some v → v = Value.ref (ad i)) (nd : cs.Nodup) (hb : ∀ d ∈ cs, d.1 < 6 ∧ d.2 < 6) (hn : cs.length ≤ 36)
    (hT : TupsAt s.heap [] ad cs) (h : ∀ (h' : Heap) (tk : Nat), SetAt h' s.heap.objs.size cs → (∀ b o, b < s.heap.objs.size → s.heap.get? b = some o → h'.get? b = some o) → Q (.ref s.heap.objs.size) { s with heap := h', toks := tk }) : wpAny (model prog w) A (call (.type "set") [.ref l]) Q E s := by
  obtain ⟨c, tl, hmro⟩ := F.called_set.mro
  have hmade := F.called_set.made; have hsub := F.called_set.sub
  refine wpAny_call (codeAny_of_tree ?_); show wpAny _ _ (callAny (.type "set") _) _ _ _
  refine wpAny_pure ⟨Code.quiet_builtin _ (by decide +kernel), codeAny_builtin F.entry_type_call ?_⟩; rw [Around.under_plain (weight_type_call_type "set" [.ref l] []) rfl]
  have h1 := F.called_set.notType; have h2 := F.called_set.canCreate; have hct := F.typeCall_set_1 (.ref l)
  repeat (any_goals (first | assumption | wp_step))
  refine codeAny_mono (code_set_new_1 (.ref l) (E := E) (Q₁ := fun obj s₁ => ∃ led : Bool, obj = .ref s.heap.objs.size ∧ s₁ = { s with heap := s.heap.push (setObj0 led) }) fun led => ⟨led, rfl, rfl⟩) fun r s₁ hr => ?_
  cases r with
  | error e => exact hr
  | ok fl =>
    cases fl with
    | ret obj =>
      obtain ⟨led, rfl, rfl⟩ := hr
      have hS : (s.heap.push (setObj0 led)).get? s.heap.objs.size = some (setObj0 led) := Heap.get?_push_size _ rfl
      have hTy : Shared.TypeIs { s with heap := s.heap.push (setObj0 led) } (.ref s.heap.objs.size) "set" := ⟨_, hS, rfl⟩
      have hli := F.called_set.init.lookup; have hbi := F.called_set.init.bind (.ref s.heap.objs.size)
      repeat (any_goals (first | assumption | wp_step))
      refine codeAny_mono (codeAny_call_builtin (R := wants (fun r s₂ => r = .none ∧ ∃ h' tk, s₂ = { s with heap := h', toks := tk } ∧ SetAt h' s.heap.objs.size cs ∧ (∀ b o, b < s.heap.objs.size → s.heap.get? b = some o → h'.get? b = some o)) E) F.called_set.init.plain F.entry_set_init (check_set_init_1 hTy ?_)) fun r₂ s₂ hr₂ => ?_
      · obtain ⟨⟨ocls, odict, odata, oslots⟩, hol, hcl, nl, hdl⟩ := hl
        simp only at hcl hdl
        subst hcl hdl
        have hol' : (s.heap.push (setObj0 led)).get? l = some { cls := .type "list", dict := odict, data := .seq items nl, slots := oslots } := Heap.get?_push_of_some _ hol
        have hsls := F.sub_list_set; have hslf := F.sub_list_frozenset; have hne : (Value.type "list" == Value.type "dict") = false := by decide
        have hl1 : (s.heap.push (setObj0 led)).IsList l items := ⟨_, hol', rfl, nl, rfl⟩
        unfold Builtin.«set.__init__» noKeywords Builtin.Frozenset.updateFrom
        generalize hPI : pyIter = PI
        wp_walk
        subst hPI
        refine wpAny_pyIter_list hl1 (wpAny_bind (wpAny_runValue ?_))
        have hlS : l < s.heap.objs.size := Heap.lt_size hol
        have hh3 : A.in1.in1.in1.handled = none := by simp [hh]
        have hneI : l ≠ (s.heap.push (setObj0 led)).objs.size := by rw [Heap.size_push]; exact Nat.ne_of_lt (Nat.lt_succ_of_lt hlS)
        have hSf : s.heap.objs.size ∉ [(s.heap.push (setObj0 led)).objs.size, l] := by
          rw [Heap.size_push]; simp only [List.mem_cons, List.not_mem_nil, or_false, not_or]; exact ⟨Nat.ne_of_lt (Nat.lt_succ_self _), Nat.ne_of_gt hlS⟩
        refine set_loop ((Walks.list hh3 _ l hneI items).toS) s.heap.objs.size hSf hsz.symm nd hb (by rw [hsz]; exact hn) (ad := ad) hit ?hu (items.size - 0) 0 _ (by omega) (Nat.zero_le _) ⟨⟨_, Heap.get?_push_size _ rfl, rfl, rfl⟩, (hl1.push _)⟩ ?hS0 ?hT0 ?hR
        case hu => show A.units + 1 + 1 + 1 < cLine; omega
        case hS0 =>
          exact ⟨_, #[], 0, .fresh 0 0 led, Heap.get?_push_of_some _ hS, ⟨rfl, rfl, rfl⟩, rfl, rfl, rfl, rfl, rfl, fun e he => by simp at he⟩
        case hT0 =>
          intro j d hj
          obtain ⟨_, t, u, o, ho, r⟩ := hT j d hj
          have := Heap.lt_size ho
          refine ⟨?_, t, u, o, Heap.get?_push_of_some _ (Heap.get?_push_of_some _ ho), r⟩
          rw [Heap.size_push]; simp only [List.mem_cons, List.not_mem_nil, or_false, not_or]; exact ⟨Nat.ne_of_lt this, Nat.ne_of_lt (Nat.lt_succ_of_lt this)⟩
        case hR =>
          intro s' hm hS'
          obtain ⟨h', g', d', tk', os'⟩ := s'
          have eg : g' = s.gens := hm.gens; have ed : d' = s.drawn := hm.drawn; have eo : os' = s.os := hm.os
          subst eg ed eo
          show wpAny _ _ _ _ _ _
          refine wpAny_pure ?_
          show wpAny _ _ (ret Value.none) _ _ _
          refine wpAny_pure ⟨rfl, h', tk', rfl, hS', fun b o hb e => ?_⟩
          refine hm.heap b o ?_ (Heap.get?_push_of_some _ (Heap.get?_push_of_some _ e))
          rw [Heap.size_push]; simp only [List.mem_cons, List.not_mem_nil, or_false, not_or]; exact ⟨Nat.ne_of_lt hb, Nat.ne_of_lt (Nat.lt_succ_of_lt hb)⟩
      · cases r₂ with
        | error e => exact hr₂
        | ok fl₂ =>
          cases fl₂ with
          | ret r =>
            obtain ⟨rfl, h', tk, rfl, hS', hk'⟩ := hr₂
            repeat (any_goals (first | assumption | wp_step))
            exact h _ _ hS' hk'
          | _ => exact hr₂.elim
    | _ => exact hr.elim
end
end L2
set_option Elab.async false
set_option linter.all false
set_option maxRecDepth 100000
set_option maxHeartbeats 4000000
namespace L2
open PySem PySem.Spec PyProof.Rows
def setO (S : Addr) (cs : List (Nat × Nat)) : HO := .ext (fun h => SetAt h S cs)
section
variable {X : Cx}
theorem call_setC (hc : X.calm = true) (hu : X.A.units + 64 < cLine) : CallR X (.type "set") (fun xs H Q => ∃ (p : Addr) (qs : List (Addr × Nat × Nat)), xs = [.ref p] ∧ SqL X.K H p (qs.map fun q => V.ref q.1) ∧ (∀ q ∈ qs, H q.1 = some (.tup [.int (q.2.1 : Nat), .int (q.2.2 : Nat)])) ∧ (qs.map (·.2)).Nodup ∧ (∀ q ∈ qs, q.2.1 < 6 ∧ q.2.2 < 6) ∧ qs.length ≤ 36 ∧
    ∀ S, H S = none → Q (.ref S) (upd H S (setO S (qs.map (·.2))))) := by
  intro pins s σ H xs us Q I r h
  obtain ⟨p, qs, rfl, hq, ht, nd, hb, hn, q⟩ := h
  obtain ⟨u, rfl, rx⟩ := vals1 r
  cases rx
  obtain ⟨its, rv, pl, hz⟩ := I.list hq
  have hlen : its.length = qs.length := by
    have := rv.length
    rw [List.length_map] at this
    exact this.symm
  have hat : ∀ (i : Nat) (v : Value), its.toArray[i]? = some v → ∃ z, qs[i]? = some z ∧ v = .ref z.1 := fun i v hv => by
    have hv : its[i]? = some v := by simpa using hv
    have hi : i < qs.length := by
      have := (List.getElem?_eq_some_iff.mp hv).1
      omega
    obtain ⟨u, e, ru⟩ := rv.get (i := i) (x := V.ref qs[i].1) (by rw [List.getElem?_map, List.getElem?_eq_getElem hi]; rfl)
    rw [hv] at e
    cases e
    cases ru
    exact ⟨qs[i], List.getElem?_eq_getElem hi, rfl⟩
  refine call_set_T (items := its.toArray) (cs := qs.map (·.2)) (ad := fun i => ((qs[i]?).map (·.1)).getD 0) (I.ok.hd hc) hu pl.isList (by rw [List.size_toArray, List.length_map, hlen]) (fun i v hv => ?_) nd (fun d hd => ?_) (by rw [List.length_map]; exact hn) (fun j d hj => ?_) fun h' tk hS hk => ?_
  · obtain ⟨z, hz1, rfl⟩ := hat i v hv
    rw [hz1]
    rfl
  · obtain ⟨z, hz1, rfl⟩ := List.mem_map.mp hd
    exact hb z hz1
  · rw [List.getElem?_map] at hj
    cases e : qs[j]? with
    | none => rw [e] at hj; cases hj
    | some z =>
      rw [e] at hj
      have hj : z.2 = d := Option.some.inj hj
      subst hj
      have hz1 : z ∈ qs := List.mem_of_getElem? e
      obtain ⟨_, its2, r2, tp⟩ := (show ObjOk X.prog X.w H s.heap z.1 (.tup [.int (z.2.1 : Nat), .int (z.2.2 : Nat)]) from I.hok _ _ (ht z hz1))
      obtain ⟨u1, u2, rfl, ⟨t1, rfl⟩, ⟨t2, rfl⟩⟩ := vals2 r2
      refine ⟨by simp, t1, t2, ?_⟩
      show PyProof.Rows.IsTup s.heap (((qs[j]?).map (·.1)).getD 0) _
      rw [e]
      exact tp
  · refine ⟨.ref s.heap.objs.size, _, I.laid (t' := tk) (fun b o e => hk b o (Heap.lt_size e) e) (Nat.le_refl _) ?_, rfl, q _ (I.hok.fresh (Nat.le_refl _))⟩
    refine ⟨hS, ?_, fun h1 h2 hp k => SetAt.keep hp k⟩
    obtain ⟨o, _, _, _, ho, _⟩ := hS
    exact ⟨o, ho⟩
theorem call_lenS : CallR X (.builtin "len") (fun xs H Q => ∃ (S : Addr) (cs : List (Nat × Nat)), xs = [.ref S] ∧ H S = some (setO S cs) ∧ cs.length ≤ 36 ∧ Q (.int (cs.length : Nat)) H) := by
  intro pins s σ H xs us Q I r h
  obtain ⟨S, cs, rfl, hS, hn, q⟩ := h
  obtain ⟨u, rfl, rx⟩ := vals1 r
  cases rx
  obtain ⟨⟨o, es, ep, t, ho, hex, hd, he, h1, h2, h3, h4⟩, _⟩ := (show ObjOk X.prog X.w H s.heap S (setO S cs) from I.hok _ _ hS)
  have hf : t.fits es.size = true := by rw [he]; exact fits_of h1 h2 h3 hn
  refine call_len_set ho hex hd hf (by rw [he]; omega) ?_
  rw [he]
  exact ⟨.int _, H, I.tok _, ⟨_, rfl⟩, q⟩
end
end L2
set_option Elab.async false
set_option linter.all false
set_option maxRecDepth 100000
set_option maxHeartbeats 4000000
namespace Seek
open PySem L2 PyProof.Rows
def top (i : Nat) : Stmt := PySem.Challenge.pw_stairseek_k24_whole_order_together.main.body.getD i (.Pass ⟨0, 0, 0, 0⟩)
abbrev dIsWhole : Stmt := top 9
abbrev dAllWhole : Stmt := top 10
abbrev dNeverFalls : Stmt := top 11
abbrev dIsRow : Stmt := top 12
abbrev dShape : Stmt := top 13
abbrev dAtPlace : Stmt := top 14
abbrev dSorted : Stmt := top 15
abbrev dIsTable : Stmt := top 16
abbrev dNeedTable : Stmt := top 19
abbrev dNeedNumber : Stmt := top 21
abbrev dLess : Stmt := top 25
abbrev dMost : Stmt := top 26
abbrev dStair : Stmt := top 27
abbrev dHigh : Stmt := top 28
abbrev dDraws : Stmt := top 43
abbrev dTake : Stmt := top 44
abbrev dTable : Stmt := top 45
abbrev dX : Stmt := top 47
abbrev dLaw : Stmt := top 51
abbrev dCells : Stmt := top 23
abbrev dIsCell : Stmt := top 18
abbrev dNeedCell : Stmt := top 20
abbrev dNumberAt : Stmt := top 22
abbrev dCellSz : Stmt := top 17
abbrev dCless : Stmt := top 35
abbrev dCmost : Stmt := top 36
abbrev dCfrom : Stmt := top 37
abbrev dMany : Stmt := top 30
abbrev dMerged : Stmt := top 31
abbrev dNeedPlace : Stmt := top 32
abbrev dNumberBy : Stmt := top 33
abbrev dMiddle : Stmt := top 34
abbrev dOver : Stmt := top 39
abbrev dTRow : Stmt := top 40
abbrev dAbout : Stmt := top 41
abbrev dTurR : Stmt := top 50
abbrev dPlR : Stmt := top 48
abbrev dCoR : Stmt := top 49
open PySem L2 PyProof.Rows
def Row (H : Hp) (a : Addr) (ns : List Int) : Prop := H a = some (.lst (ns.map V.int))
def nfB (ns : List Int) : Bool := ((List.range (ns.length - 1)).map fun i => decide (ns.getD i 0 ≤ ns.getD (i + 1) 0)).all id
theorem Row.same {H H' : Hp} {a : Addr} {ns : List Int} (e : Same H H') (h : Row H a ns) : Row H' a ns := e _ _ h
theorem Row.sq {K : PySem.W.Frag} {H : Hp} {a : Addr} {ns : List Int} (h : Row H a ns) : SqL K H a (ns.map V.int) := SqL.of h
structure Blt (mg : Str → Option Value) : Prop where
  len : mg "len" = none
  all : mg "all" = none
  isinst : mg "isinstance" = none
  rng : mg "range" = none
  int : mg "int" = none
  bool : mg "bool" = none
  list : mg "list" = none
  enum : mg "enumerate" = none
  abs : mg "abs" = none
  max : mg "max" = none
  mr : ∃ t, mg "MOST_ROWS" = some (.int 6 t)
  mp : ∃ t, mg "MOST_PLACES" = some (.int 6 t)
theorem sl6 {n : Nat} (h : n ≤ 1000) : n ≤ sizeLine := Nat.le_of_lt (small1000 h)
section
variable {P : Program} {w : World} {K : PySem.W.Frag} {mg : Str → Option Value} {base : Heap}
def spIsWhole : Sp := fun vs H Q _ => ∃ i : Int, vs = [.int i] ∧ Q (.bl true) H
theorem sc_isWhole : FnScope ["thing"] ["thing"] (defScope dIsWhole) := ⟨rfl, rfl, rfl, by decide +kernel, rfl, by decide +kernel, by decide +kernel⟩
theorem ok_isWhole (T : Blt mg) (D : DefAt K mg "is_whole" dIsWhole ["thing"]) : FnAt P w K mg base 1 "is_whole" ["thing"] spIsWhole := by
  refine FnAt.of D sc_isWhole (fun vs H Q E h => ?_) (fun f cdv A outer s H vs Q E hr h => ?_)
  · obtain ⟨i, rfl, _⟩ := h
    rfl
  · obtain ⟨i, rfl, q⟩ := h
    refine ⟨_, pss_one (ps_ret (pe_and (pe_b call_isinst T.isinst boot_isinstance (pa_cons (pv 0) (pa_cons (pe_ty T.int boot_int) pa_nil)))
      (pe_one (pe_not (pe_b call_isinst T.isinst boot_isinstance (pa_cons (pv 0) (pa_cons (pe_ty T.bool boot_bool) pa_nil))))))), ?_⟩
    exact ⟨_, rfl, _, _, _, _, rfl, .int i, kit_ii _, _, rfl, iteT ⟨_, rfl, _, _, _, _, rfl, .int i, kit_ib _, _, rfl, q⟩⟩
def spAllWhole (K : PySem.W.Frag) : Sp := fun vs H Q _ => ∃ (a : Addr) (ns : List Int), vs = [.ref a] ∧ Row H a ns ∧ ns.length ≤ 1000 ∧ ∀ H', Same H H' → Q (.bl true) H'
theorem sc_allWhole : FnScope ["things"] ["things"] (defScope dAllWhole) := ⟨rfl, rfl, rfl, by decide +kernel, rfl, by decide +kernel, by decide +kernel⟩
theorem all_true {α : Type} (xs : List α) : (xs.map fun _ => true).all id = true := by simp
theorem ok_allWhole (T : Blt mg) (D : DefAt K mg "all_whole" dAllWhole ["things"]) (G1 : FnAt P w K mg base 1 "is_whole" ["thing"] spIsWhole) : FnAt P w K mg base 2 "all_whole" ["things"] (spAllWhole K) := by
  refine FnAt.of D sc_allWhole (fun vs H Q E h => ?_) (fun f cdv A outer s H vs Q E hr h => ?_)
  · obtain ⟨a, ns, rfl, _⟩ := h
    rfl
  · obtain ⟨a, ns, rfl, hR, hn, q⟩ := h
    have nd1 : (["thing"] : List Str).Nodup := by decide +kernel
    refine ⟨_, pss_one (ps_ret (pe_b (call_all rfl) T.all boot_all (pa_cons (pe_comp ["thing"] [none] (defScope dAllWhole) ["things"] rfl (pi_list (pv 0)) (by decide +kernel)
      (fun cl C s2 H2 ex => pg_c 0 nd1) (fun cl C s2 H2 ex => pifs_nil) (fun cl C s2 H2 ex => pe_f G1 hr (pa_cons (pv 0) pa_nil))) pa_nil))), ?_⟩
    refine ⟨_, rfl, a, rfl, ⟨_, hR.sq⟩, comp_map V.int (fun _ => .bl true) hR.sq (sl6 hn) (fun i hx H' Q' sm q' => ?_) fun D H' hD sm hDl => ?_⟩
    · exact ⟨_, rfl, i, rfl, q' _ (Same.refl _)⟩
    · refine ⟨D, ns.map fun _ => true, rfl, SqL.of ?_, ?_⟩
      · rw [hDl]
        simp [Function.comp]
      · rw [all_true]
        exact q H' sm
def spNF : Sp := fun vs H Q _ => ∃ (a : Addr) (ns : List Int), vs = [.ref a] ∧ Row H a ns ∧ ns.length ≤ 1000 ∧ ∀ H', Same H H' → Q (.bl (nfB ns)) H'
theorem sc_nf : FnScope ["numbers"] ["numbers"] (defScope dNeverFalls) := ⟨rfl, rfl, rfl, by decide +kernel, rfl, by decide +kernel, by decide +kernel⟩
theorem at_row {ns : List Int} {i : Nat} (h : i < ns.length) : atI (ns.map V.int) (i : Int) = some (.int (ns.getD i 0)) := atI_nat (by simp [h])
theorem ok_nf (T : Blt mg) (D : DefAt K mg "never_falls" dNeverFalls ["numbers"]) : FnAt P w K mg base 1 "never_falls" ["numbers"] spNF := by
  refine FnAt.of D sc_nf (fun vs H Q E h => ?_) (fun f cdv A outer s H vs Q E hr h => ?_)
  · obtain ⟨a, ns, rfl, _⟩ := h
    rfl
  · obtain ⟨a, ns, rfl, hR, hn, q⟩ := h
    have nd1 : (["k", "numbers"] : List Str).Nodup := by decide +kernel
    refine ⟨_, pss_one (ps_ret (pe_b (call_all rfl) T.all boot_all (pa_cons (pe_comp ["k", "numbers"] [none, some 0] (defScope dNeverFalls) ["numbers"] rfl
      (pi_range2 rfl T.rng (pa_cons pe_int (pa_cons (pe_b call_len_seq T.len boot_len (pa_cons (pv 0) pa_nil)) pa_nil))) (by decide +kernel)
      (fun cl C s2 H2 ex => pg_c 0 nd1) (fun cl C s2 H2 ex => pifs_nil)
      (fun cl C s2 H2 ex => pe_cmpR op_le (pe_ix (ixL K) (pv 1) (pe_op op_sub (pv 0) pe_int) (fun _ _ => rfl)) (pe_ix (ixL K) (pv 1) (pv 0) (fun _ _ => rfl)) (nomark _))) pa_nil))), ?_⟩
    refine ⟨_, rfl, a, _, rfl, .inl hR.sq, 1, _, rfl, ⟨by omega, by omega, ?_, ?_⟩, ?_⟩
    · omega
    · rw [List.length_map]
      omega
    · rw [List.length_map, show ((ns.length : Int) - 1).toNat = ns.length - 1 by omega]
      refine comp_range (fun i => .bl (decide (ns.getD i 0 ≤ ns.getD (i + 1) 0))) (sl6 (by omega)) (fun i hi H' Q' sm q' => ?_) fun D H' hD sm hDl => ?_
      · have h1 : (1 : Int) + (i : Int) - 1 = ((i : Nat) : Int) := by omega
        have h2 : (1 : Int) + (i : Int) = ((i + 1 : Nat) : Int) := by omega
        refine ⟨_, rfl, _, rfl, _, _, rfl, rfl, a, _, _, _, rfl, rfl, (hR.same sm).sq, (by rw [h1]; exact at_row (by omega)), _, rfl, _, rfl, a, _, _, _, rfl, rfl, (hR.same sm).sq, (by rw [h2]; exact at_row (by omega)), _, _, rfl, rfl, ?_⟩
        exact q' _ (Same.refl _)
      · refine ⟨D, (List.range (ns.length - 1)).map fun i => decide (ns.getD i 0 ≤ ns.getD (i + 1) 0), rfl, SqL.of ?_, q H' sm⟩
        rw [hDl]
        simp [Function.comp]
end
open PySem L2 PyProof.Rows
abbrev Prs := List (Addr × List Int)
structure Tab (H : Hp) (t : Addr) (prs : Prs) : Prop where
  l : H t = some (.lst (prs.map fun p => V.ref p.1))
  r : ∀ p ∈ prs, Row H p.1 p.2
theorem Tab.same {H H' : Hp} {t : Addr} {prs : Prs} (e : Same H H') (h : Tab H t prs) : Tab H' t prs := ⟨e _ _ h.l, fun p hp => (h.r p hp).same e⟩
theorem Tab.sq {K : PySem.W.Frag} {H : Hp} {t : Addr} {prs : Prs} (h : Tab H t prs) : SqL K H t (prs.map fun p => V.ref p.1) := SqL.of h.l
def Sm (prs : Prs) : Prop := prs.length ≤ 1000 ∧ ∀ p ∈ prs, p.2.length ≤ 1000
def rowB (ns : List Int) : Bool := decide (1 ≤ ns.length) && decide (ns.length ≤ 6)
def w0 (prs : Prs) : Nat := (prs.head?.map (·.2.length)).getD 0
def shB (prs : Prs) : Bool := (decide (1 ≤ prs.length) && decide (prs.length ≤ 6)) && ((prs.map fun p => rowB p.2).all id && (prs.map fun p => decide (p.2.length = w0 prs)).all id)
def col (prs : Prs) (j : Nat) : List Int := prs.map fun p => p.2.getD j 0
def srB (prs : Prs) : Bool := (prs.map fun p => nfB p.2).all id && ((List.range (w0 prs)).map fun j => nfB (col prs j)).all id
def tabB (prs : Prs) : Bool := shB prs && srB prs
theorem map_bl {α : Type} (xs : List α) (f : α → Bool) : xs.map (fun x => V.bl (f x)) = (xs.map f).map V.bl := by simp [Function.comp]
theorem dec_nat {i j : Nat} : decide (V.int (i : Int) = V.int (j : Int)) = decide (i = j) := by
  rw [decide_eq_decide]
  constructor
  · intro h
    injection h with h
    omega
  · rintro rfl
    rfl
theorem head_at {prs : Prs} (h : 1 ≤ prs.length) : ∃ p, prs.head? = some p ∧ p ∈ prs ∧ prs[0]? = some p := by
  cases prs with
  | nil => simp at h
  | cons p r => exact ⟨p, rfl, by simp, rfl⟩
section
variable {P : Program} {w : World} {K : PySem.W.Frag} {mg : Str → Option Value} {base : Heap}
def spIsRow : Sp := fun vs H Q _ => ∃ (a : Addr) (ns : List Int), vs = [.ref a] ∧ Row H a ns ∧ ns.length ≤ 1000 ∧ ∀ H', Same H H' → Q (.bl (rowB ns)) H'
theorem sc_isRow : FnScope ["thing"] ["thing"] (defScope dIsRow) := ⟨rfl, rfl, rfl, by decide +kernel, rfl, by decide +kernel, by decide +kernel⟩
theorem ok_isRow (T : Blt mg) (D : DefAt K mg "is_row" dIsRow ["thing"]) (G : FnAt P w K mg base 2 "all_whole" ["things"] (spAllWhole K)) : FnAt P w K mg base 3 "is_row" ["thing"] spIsRow := by
  refine FnAt.of D sc_isRow (fun vs H Q E h => ?_) (fun f cdv A outer s H vs Q E hr h => ?_)
  · obtain ⟨a, ns, rfl, _⟩ := h
    rfl
  · obtain ⟨a, ns, rfl, hR, hn, q⟩ := h
    obtain ⟨tk, mp⟩ := T.mp
    refine ⟨_, pss_one (ps_ret (pe_and (pe_b call_isinst T.isinst boot_isinstance (pa_cons (pv 0) (pa_cons (pe_ty T.list boot_list) pa_nil)))
      (pe_and (pe_chain op_le op_le pe_int (pe_b call_len_seq T.len boot_len (pa_cons (pv 0) pa_nil)) (pe_glob (v := .int 6) rfl mp ⟨_, rfl⟩))
      (pe_one (pe_f G hr (pa_cons (pv 0) pa_nil)))))), ?_⟩
    refine ⟨_, rfl, _, _, _, _, rfl, .lst hR, kit_ll _, _, rfl, iteT ⟨_, rfl, a, _, rfl, .inl hR.sq, 1, _, rfl, rfl, _, rfl, ?_⟩⟩
    rw [List.length_map]
    refine ite2 (fun h1 => ?_) (fun h1 => ?_)
    · have h1 := of_decide_eq_true h1
      refine ⟨_, _, rfl, rfl, _, rfl, ite2 (fun h2 => ?_) (fun h2 => ?_)⟩
      · have h2 := of_decide_eq_true h2
        refine ⟨_, rfl, a, ns, rfl, hR, hn, fun H' sm => ?_⟩
        have e : rowB ns = true := by
          unfold rowB
          rw [decide_eq_true (by omega), decide_eq_true (by omega)]
          rfl
        rw [← e]
        exact q H' sm
      · have e : rowB ns = false := by
          unfold rowB
          rw [decide_eq_false (p := ns.length ≤ 6) (by intro z; exact h2 (decide_eq_true (by omega)))]
          simp
        rw [← e]
        exact q H (Same.refl _)
    · refine ⟨_, rfl, iteF ?_⟩
      have e : rowB ns = false := by
        unfold rowB
        rw [decide_eq_false (p := 1 ≤ ns.length) (by intro z; exact h1 (decide_eq_true (by omega)))]
        simp
      rw [← e]
      exact q H (Same.refl _)
def spShape : Sp := fun vs H Q _ => ∃ (t : Addr) (prs : Prs), vs = [.ref t] ∧ Tab H t prs ∧ Sm prs ∧ ∀ H', Same H H' → Q (.bl (shB prs)) H'
theorem sc_shape : FnScope ["thing", "row"] ["thing"] (defScope dShape) := ⟨rfl, rfl, rfl, by decide +kernel, rfl, by decide +kernel, by decide +kernel⟩
theorem ok_shape (T : Blt mg) (D : DefAt K mg "has_table_shape" dShape ["thing"]) (G : FnAt P w K mg base 3 "is_row" ["thing"] spIsRow) : FnAt P w K mg base 4 "has_table_shape" ["thing"] spShape := by
  refine FnAt.of D sc_shape (fun vs H Q E h => ?_) (fun f cdv A outer s H vs Q E hr h => ?_)
  · obtain ⟨t, prs, rfl, _⟩ := h
    rfl
  · obtain ⟨t, prs, rfl, hT, ⟨hn, hw⟩, q⟩ := h
    obtain ⟨tk, mr⟩ := T.mr
    have nd1 : (["row"] : List Str).Nodup := by decide +kernel
    have nd2 : (["row", "thing"] : List Str).Nodup := by decide +kernel
    refine ⟨_, pss_cons (ps_if (PW.pt (pw_or (pt_not (pt_val (pe_b call_isinst T.isinst boot_isinstance (pa_cons (pv 0) (pa_cons (pe_ty T.list boot_list) pa_nil)))))
        (pw_or1 (pt_not (pt_chain op_le op_le pe_int (pe_b call_len_seq T.len boot_len (pa_cons (pv 0) pa_nil)) (pe_glob (v := .int 6) rfl mr ⟨_, rfl⟩)))))) (pss_one (ps_ret pe_bl)) pss_nil)
      (pss_cons (ps_if (pt_not (pt_val (pe_b (call_all rfl) T.all boot_all (pa_cons (pe_comp ["row"] [none] (defScope dShape) ["thing", "row"] rfl (pi_list (pv 0)) (by decide +kernel)
        (fun cl C s2 H2 ex => pg_c 0 nd1) (fun cl C s2 H2 ex => pifs_nil) (fun cl C s2 H2 ex => pe_f G hr (pa_cons (pv 0) pa_nil))) pa_nil)))) (pss_one (ps_ret pe_bl)) pss_nil)
      (pss_one (ps_ret (pe_b (call_all rfl) T.all boot_all (pa_cons (pe_comp ["row", "thing"] [none, some 0] (defScope dShape) ["thing", "row"] rfl (pi_list (pv 0)) (by decide +kernel)
        (fun cl C s2 H2 ex => pg_c 0 nd2) (fun cl C s2 H2 ex => pifs_nil)
        (fun cl C s2 H2 ex => pe_cmpR op_eq (pe_b (lenK K) T.len boot_len (pa_cons (pv 0) pa_nil)) (pe_b (lenK K) T.len boot_len (pa_cons (pe_ix (ixL K) (pv 1) pe_int (fun _ _ => rfl)) pa_nil)) (nomark _))) pa_nil))))), ?_⟩
    refine ⟨_, rfl, _, _, _, _, rfl, .lst hT.l, kit_ll _, _, rfl, iteF ⟨_, rfl, t, _, rfl, .inl hT.sq, 1, _, rfl, rfl, _, rfl, ?_⟩⟩
    rw [List.length_map]
    have bad : ¬ (1 ≤ prs.length ∧ prs.length ≤ 6) → shB prs = false := fun z => by
      unfold shB
      rw [← Bool.decide_and, decide_eq_false z]
      rfl
    refine ite2 (fun h1 => ?_) (fun h1 => ?_)
    · have h1 := of_decide_eq_true h1
      refine ⟨_, _, rfl, rfl, _, rfl, ?_⟩
      by_cases h2 : prs.length ≤ 6
      · rw [decide_eq_true (show (prs.length : Int) ≤ 6 by omega)]
        refine iteF ?_
        refine ⟨_, rfl, t, rfl, ⟨_, hT.sq⟩, comp_map (fun p => V.ref p.1) (fun p => .bl (rowB p.2)) hT.sq (sl6 hn) (fun p hp H' Q' sm q' => ?_) fun D H' hD sm hDl => ?_⟩
        · exact ⟨_, rfl, p.1, p.2, rfl, (hT.r p hp).same sm, hw p hp, q'⟩
        · refine ⟨D, prs.map fun p => rowB p.2, rfl, SqL.of (by rw [hDl, map_bl]), _, rfl, ?_⟩
          cases e1 : (prs.map fun p => rowB p.2).all id with
          | false =>
            refine iteT ?_
            have e : shB prs = false := by
              unfold shB
              rw [e1]
              simp
            have q1 := q H' sm
            rw [e] at q1
            exact q1
          | true =>
            refine iteF ?_
            have hT1 := hT.same sm
            obtain ⟨p0, hp0, hm0, hx0⟩ := head_at (prs := prs) (by omega)
            have hw0 : w0 prs = p0.2.length := by
              unfold w0
              rw [hp0]
              rfl
            refine ⟨_, rfl, t, rfl, ⟨_, hT1.sq⟩, comp_map (fun p => V.ref p.1) (fun p => .bl (decide (p.2.length = w0 prs))) hT1.sq (sl6 hn) (fun p hp H2 Q' sm2 q' => ?_) fun D2 H2 hD2 sm2 hDl2 => ?_⟩
            · have hT2 := hT1.same sm2
              refine ⟨_, rfl, p.1, _, rfl, .inl (hT2.r p hp).sq, _, rfl, t, _, 0, .ref p0.1, rfl, rfl, hT2.sq, atI_nat (j := 0) (by rw [List.getElem?_map, hx0]; rfl), p0.1, _, rfl, .inl (hT2.r p0 hm0).sq, rfl, ?_⟩
              rw [List.length_map, List.length_map, dec_nat, ← hw0]
              exact q' _ (Same.refl _)
            · refine ⟨D2, prs.map fun p => decide (p.2.length = w0 prs), rfl, SqL.of (by rw [hDl2, map_bl]), ?_⟩
              have q1 := q H2 (sm.trans sm2)
              unfold shB at q1
              rw [e1, decide_eq_true (show 1 ≤ prs.length by omega), decide_eq_true h2] at q1
              exact q1
      · rw [decide_eq_false (show ¬ (prs.length : Int) ≤ 6 by omega)]
        refine iteT ?_
        have q1 := q H (Same.refl _)
        rw [bad (by omega)] at q1
        exact q1
    · refine ⟨_, rfl, iteT ?_⟩
      have q1 := q H (Same.refl _)
      rw [bad (by
        intro z
        exact h1 (decide_eq_true (by omega)))] at q1
      exact q1
end
open PySem L2 PyProof.Rows
section
variable {P : Program} {w : World} {K : PySem.W.Frag} {mg : Str → Option Value} {base : Heap}
def spAtPlace : Sp := fun vs H Q _ => ∃ (t : Addr) (prs : Prs) (j : Nat), vs = [.ref t, .int j] ∧ Tab H t prs ∧ prs.length ≤ 1000 ∧ (∀ p ∈ prs, j < p.2.length) ∧ ∀ D H', H D = none → Same H H' → Row H' D (col prs j) → Q (.ref D) H'
theorem sc_atPlace : FnScope ["table", "place"] ["table", "place"] (defScope dAtPlace) := ⟨rfl, rfl, rfl, by decide +kernel, rfl, by decide +kernel, by decide +kernel⟩
theorem ok_atPlace (D : DefAt K mg "numbers_at_place" dAtPlace ["table", "place"]) : FnAt P w K mg base 1 "numbers_at_place" ["table", "place"] spAtPlace := by
  refine FnAt.of D sc_atPlace (fun vs H Q E h => ?_) (fun f cdv A outer s H vs Q E hr h => ?_)
  · obtain ⟨t, prs, j, rfl, _⟩ := h
    rfl
  · obtain ⟨t, prs, j, rfl, hT, hn, hj, q⟩ := h
    have nd1 : (["row", "place"] : List Str).Nodup := by decide +kernel
    refine ⟨_, pss_one (ps_ret (pe_comp ["row", "place"] [none, some 1] (defScope dAtPlace) ["table", "place"] rfl (pi_list (pv 0)) (by decide +kernel)
        (fun cl C s2 H2 ex => pg_c 0 nd1) (fun cl C s2 H2 ex => pifs_nil) (fun cl C s2 H2 ex => pe_ix (ixL K) (pv 0) (pv 1) (fun _ _ => rfl)))), ?_⟩
    refine ⟨_, rfl, t, rfl, ⟨_, hT.sq⟩, comp_map (fun p => V.ref p.1) (fun p => .int (p.2.getD j 0)) hT.sq (sl6 hn) (fun p hp H' Q' sm q' => ?_) fun D H' hD sm hDl => ?_⟩
    · exact ⟨_, rfl, _, rfl, p.1, _, _, _, rfl, rfl, ((hT.r p hp).same sm).sq, at_row (hj p hp), q' _ (Same.refl _)⟩
    · refine q D H' hD sm ?_
      unfold Row col
      rw [hDl, List.map_map]
      rfl
def spSorted : Sp := fun vs H Q _ => ∃ (t : Addr) (prs : Prs), vs = [.ref t] ∧ Tab H t prs ∧ Sm prs ∧ 1 ≤ prs.length ∧ (∀ p ∈ prs, p.2.length = w0 prs) ∧ ∀ H', Same H H' → Q (.bl (srB prs)) H'
theorem sc_sorted : FnScope ["table", "row", "place"] ["table"] (defScope dSorted) := ⟨rfl, rfl, rfl, by decide +kernel, rfl, by decide +kernel, by decide +kernel⟩
theorem ok_sorted (T : Blt mg) (D : DefAt K mg "is_sorted_both_ways" dSorted ["table"]) (G : FnAt P w K mg base 1 "never_falls" ["numbers"] spNF) (G2 : FnAt P w K mg base 1 "numbers_at_place" ["table", "place"] spAtPlace) : FnAt P w K mg base 2 "is_sorted_both_ways" ["table"] spSorted := by
  refine FnAt.of D sc_sorted (fun vs H Q E h => ?_) (fun f cdv A outer s H vs Q E hr h => ?_)
  · obtain ⟨t, prs, rfl, _⟩ := h
    rfl
  · obtain ⟨t, prs, rfl, hT, ⟨hn, hw⟩, h1, hv, q⟩ := h
    have nd1 : (["row"] : List Str).Nodup := by decide +kernel
    have nd2 : (["place", "table"] : List Str).Nodup := by decide +kernel
    obtain ⟨p0, hp0, hm0, hx0⟩ := head_at (prs := prs) h1
    have hw0 : w0 prs = p0.2.length := (hv p0 hm0).symm
    refine ⟨_, pss_cons (ps_if (pt_not (pt_val (pe_b (call_all rfl) T.all boot_all (pa_cons (pe_comp ["row"] [none] (defScope dSorted) ["table", "row", "place"] rfl (pi_list (pv 0)) (by decide +kernel)
        (fun cl C s2 H2 ex => pg_c 0 nd1) (fun cl C s2 H2 ex => pifs_nil) (fun cl C s2 H2 ex => pe_f G hr (pa_cons (pv 0) pa_nil))) pa_nil)))) (pss_one (ps_ret pe_bl)) pss_nil)
      (pss_one (ps_ret (pe_b (call_all rfl) T.all boot_all (pa_cons (pe_comp ["place", "table"] [none, some 0] (defScope dSorted) ["table", "row", "place"] rfl
        (pi_range1 rfl T.rng (pa_cons (pe_b call_len_seq T.len boot_len (pa_cons (pe_ix ix_list (pv 0) pe_int (fun _ _ => rfl)) pa_nil)) pa_nil)) (by decide +kernel)
        (fun cl C s2 H2 ex => pg_c 0 nd2) (fun cl C s2 H2 ex => pifs_nil)
        (fun cl C s2 H2 ex => pe_f G hr (pa_cons (pe_f G2 hr (pa_cons (pv 1) (pa_cons (pv 0) pa_nil))) pa_nil))) pa_nil)))), ?_⟩
    refine ⟨_, rfl, t, rfl, ⟨_, hT.sq⟩, comp_map (fun p => V.ref p.1) (fun p => .bl (nfB p.2)) hT.sq (sl6 hn) (fun p hp H' Q' sm q' => ?_) fun D H' hD sm hDl => ?_⟩
    · exact ⟨_, rfl, p.1, p.2, rfl, (hT.r p hp).same sm, hw p hp, q'⟩
    · refine ⟨D, prs.map fun p => nfB p.2, rfl, SqL.of (by rw [hDl, map_bl]), _, rfl, ?_⟩
      cases e1 : (prs.map fun p => nfB p.2).all id with
      | false =>
        refine iteT ?_
        have q1 := q H' sm
        unfold srB at q1
        rw [e1] at q1
        exact q1
      | true =>
        refine iteF ?_
        have hT1 := hT.same sm
        refine ⟨_, rfl, t, _, 0, .ref p0.1, rfl, rfl, hT1.sq, atI_nat (j := 0) (by rw [List.getElem?_map, hx0]; rfl), p0.1, _, rfl, .inl (hT1.r p0 hm0).sq, _, rfl, ?_, ?_, ?_⟩
        · omega
        · have := hw p0 hm0
          rw [List.length_map]
          omega
        · rw [List.length_map, ← hw0, Int.toNat_natCast]
          have hb : w0 prs ≤ 1000 := by rw [hw0]; exact hw p0 hm0
          refine comp_range (fun j => .bl (nfB (col prs j))) (sl6 hb) (fun j hj H2 Q' sm2 q' => ?_) fun D2 H2 hD2 sm2 hDl2 => ?_
          · have hT2 := hT1.same sm2
            refine ⟨_, rfl, _, rfl, t, prs, j, by rw [Int.zero_add], hT2, hn, fun p hp => by rw [hv p hp]; exact hj, fun D3 H3 hD3 sm3 r3 => ⟨D3, col prs j, rfl, r3, ?_, fun H4 sm4 => q' H4 (sm3.trans sm4)⟩⟩
            unfold col
            rw [List.length_map]
            exact hn
          · refine ⟨D2, (List.range (w0 prs)).map fun j => nfB (col prs j), rfl, SqL.of (by rw [hDl2, map_bl]), ?_⟩
            have q1 := q H2 (sm.trans sm2)
            unfold srB at q1
            rw [e1] at q1
            exact q1
def spIsTable : Sp := fun vs H Q _ => ∃ (t : Addr) (prs : Prs), vs = [.ref t] ∧ Tab H t prs ∧ Sm prs ∧ ∀ H', Same H H' → Q (.bl (tabB prs)) H'
theorem sc_isTable : FnScope ["thing"] ["thing"] (defScope dIsTable) := ⟨rfl, rfl, rfl, by decide +kernel, rfl, by decide +kernel, by decide +kernel⟩
theorem shB_of {prs : Prs} (h : shB prs = true) : 1 ≤ prs.length ∧ prs.length ≤ 6 ∧ (∀ p ∈ prs, 1 ≤ p.2.length ∧ p.2.length ≤ 6) ∧ ∀ p ∈ prs, p.2.length = w0 prs := by
  unfold shB rowB at h
  simp only [Bool.and_eq_true, decide_eq_true_eq, List.all_eq_true, List.mem_map, id] at h
  obtain ⟨⟨h1, h2⟩, h3, h4⟩ := h
  exact ⟨h1, h2, fun p hp => by simpa using h3 _ ⟨p, hp, rfl⟩, fun p hp => by simpa using h4 _ ⟨p, hp, rfl⟩⟩
theorem ok_isTable (D : DefAt K mg "is_table" dIsTable ["thing"]) (G : FnAt P w K mg base 4 "has_table_shape" ["thing"] spShape) (G2 : FnAt P w K mg base 2 "is_sorted_both_ways" ["table"] spSorted) : FnAt P w K mg base 5 "is_table" ["thing"] spIsTable := by
  refine FnAt.of D sc_isTable (fun vs H Q E h => ?_) (fun f cdv A outer s H vs Q E hr h => ?_)
  · obtain ⟨t, prs, rfl, _⟩ := h
    rfl
  · obtain ⟨t, prs, rfl, hT, hs, q⟩ := h
    refine ⟨_, pss_one (ps_ret (pe_and (pe_f G hr (pa_cons (pv 0) pa_nil)) (pe_one (pe_f G2 (hr.mono (by decide)) (pa_cons (pv 0) pa_nil))))), ?_⟩
    refine ⟨_, rfl, t, prs, rfl, hT, hs, fun H' sm => ⟨_, rfl, ?_⟩⟩
    cases e : shB prs with
    | false =>
      refine iteF ?_
      have q1 := q H' sm
      unfold tabB at q1
      rw [e] at q1
      exact q1
    | true =>
      obtain ⟨a1, a2, a3, a4⟩ := shB_of e
      refine iteT ⟨_, rfl, t, prs, rfl, hT.same sm, hs, a1, a4, fun H2 sm2 => ?_⟩
      have q1 := q H2 (sm.trans sm2)
      unfold tabB at q1
      rw [e] at q1
      exact q1
def spNeedTable : Sp := fun vs H Q _ => ∃ (t : Addr) (prs : Prs), vs = [.ref t] ∧ Tab H t prs ∧ Sm prs ∧ tabB prs = true ∧ ∀ H', Same H H' → Q .non H'
theorem sc_needTable : FnScope ["thing"] ["thing"] (defScope dNeedTable) := ⟨rfl, rfl, rfl, by decide +kernel, rfl, by decide +kernel, by decide +kernel⟩
theorem ok_needTable (D : DefAt K mg "need_table" dNeedTable ["thing"]) (G : FnAt P w K mg base 5 "is_table" ["thing"] spIsTable) : FnAt P w K mg base 6 "need_table" ["thing"] spNeedTable := by
  refine FnAt.of D sc_needTable (fun vs H Q E h => ?_) (fun f cdv A outer s H vs Q E hr h => ?_)
  · obtain ⟨t, prs, rfl, _⟩ := h
    rfl
  · obtain ⟨t, prs, rfl, hT, hs, hg, q⟩ := h
    refine ⟨_, pss_one (ps_if (pt_not (pt_val (pe_f G hr (pa_cons (pv 0) pa_nil)))) pss_never pss_nil), ?_⟩
    refine ⟨_, rfl, t, prs, rfl, hT, hs, fun H' sm => ⟨_, rfl, ?_⟩⟩
    rw [hg]
    exact iteF (q H' sm)
def spNeedNumber : Sp := fun vs H Q _ => ∃ i : Int, vs = [.int i] ∧ Q .non H
theorem sc_needNumber : FnScope ["thing"] ["thing"] (defScope dNeedNumber) := ⟨rfl, rfl, rfl, by decide +kernel, rfl, by decide +kernel, by decide +kernel⟩
theorem ok_needNumber (D : DefAt K mg "need_number" dNeedNumber ["thing"]) (G : FnAt P w K mg base 1 "is_whole" ["thing"] spIsWhole) : FnAt P w K mg base 2 "need_number" ["thing"] spNeedNumber := by
  refine FnAt.of D sc_needNumber (fun vs H Q E h => ?_) (fun f cdv A outer s H vs Q E hr h => ?_)
  · obtain ⟨i, rfl, _⟩ := h
    rfl
  · obtain ⟨i, rfl, q⟩ := h
    refine ⟨_, pss_one (ps_if (pt_not (pt_val (pe_f G hr (pa_cons (pv 0) pa_nil)))) pss_never pss_nil), ?_⟩
    exact ⟨_, rfl, i, rfl, _, rfl, iteF q⟩
end
open PySem L2 PyProof.Rows
def lessN (x : Int) (ns : List Int) : Nat := (ns.filter fun n => decide (n < x)).length
def mostN (x : Int) (ns : List Int) : Nat := (ns.filter fun n => decide (n ≤ x)).length
section
variable {P : Program} {w : World} {K : PySem.W.Frag} {mg : Str → Option Value} {base : Heap}
def spLess : Sp := fun vs H Q _ => ∃ (a : Addr) (ns : List Int) (x : Int), vs = [.ref a, .int x] ∧ Row H a ns ∧ ns.length ≤ 1000 ∧ ∀ H', Same H H' → Q (.int (lessN x ns : Nat)) H'
theorem sc_less : FnScope ["row", "x"] ["row", "x"] (defScope dLess) := ⟨rfl, rfl, rfl, by decide +kernel, rfl, by decide +kernel, by decide +kernel⟩
theorem ok_less (T : Blt mg) (D : DefAt K mg "how_many_less" dLess ["row", "x"]) : FnAt P w K mg base 1 "how_many_less" ["row", "x"] spLess := by
  refine FnAt.of D sc_less (fun vs H Q E h => ?_) (fun f cdv A outer s H vs Q E hr h => ?_)
  · obtain ⟨a, ns, x, rfl, _⟩ := h
    rfl
  · obtain ⟨a, ns, x, rfl, hR, hn, q⟩ := h
    have nd1 : (["number", "x"] : List Str).Nodup := by decide +kernel
    refine ⟨_, pss_one (ps_ret (pe_b call_len_seq T.len boot_len (pa_cons (pe_comp ["number", "x"] [none, some 1] (defScope dLess) ["row", "x"] rfl (pi_list (pv 0)) (by decide +kernel)
        (fun cl C s2 H2 ex => pg_c 0 nd1) (fun cl C s2 H2 ex => pifs_one (pt_cmpR op_lt (pv 0) (pv 1) (nomark _))) (fun cl C s2 H2 ex => pv 0)) pa_nil))), ?_⟩
    refine ⟨_, rfl, a, rfl, ⟨_, hR.sq⟩, comp_of V.int (fun n => decide (n < x)) V.int hR.sq (sl6 hn) (fun n hx H' Q' sm q' => ?_) (fun n hx _ H' Q' sm q' => ?_) fun D H' hD sm hDl => ?_⟩
    · exact ⟨_, rfl, _, rfl, _, _, rfl, rfl, _, rfl, q' _ (Same.refl _)⟩
    · exact ⟨_, rfl, q' _ (Same.refl _)⟩
    · refine ⟨D, _, rfl, .inl (SqL.of hDl), ?_⟩
      rw [List.length_map]
      exact q H' sm
def spStair (f : Int → List Int → Nat) : Sp := fun vs H Q _ => ∃ (t : Addr) (prs : Prs) (x : Int), vs = [.ref t, .int x] ∧ Tab H t prs ∧ Sm prs ∧ tabB prs = true ∧
  ∀ D H', H D = none → Same H H' → Row H' D (prs.map fun p => (f x p.2 : Int)) → Q (.ref D) H'
theorem sc_stair : FnScope ["table", "x"] ["table", "x"] (defScope dStair) := ⟨rfl, rfl, rfl, by decide +kernel, rfl, by decide +kernel, by decide +kernel⟩
theorem ok_stair (D : DefAt K mg "stair_of" dStair ["table", "x"]) (G1 : FnAt P w K mg base 6 "need_table" ["thing"] spNeedTable) (G2 : FnAt P w K mg base 2 "need_number" ["thing"] spNeedNumber) (G3 : FnAt P w K mg base 1 "how_many_less" ["row", "x"] spLess) :
    FnAt P w K mg base 7 "stair_of" ["table", "x"] (spStair lessN) := by
  refine FnAt.of D sc_stair (fun vs H Q E h => ?_) (fun f cdv A outer s H vs Q E hr h => ?_)
  · obtain ⟨t, prs, x, rfl, _⟩ := h
    rfl
  · obtain ⟨t, prs, x, rfl, hT, hs, hg, q⟩ := h
    have nd1 : (["row", "x"] : List Str).Nodup := by decide +kernel
    refine ⟨_, pss_cons (ps_expr (pe_f G1 hr (pa_cons (pv 0) pa_nil))) (pss_cons (ps_expr (pe_f G2 (hr.mono (by decide)) (pa_cons (pv 1) pa_nil)))
      (pss_one (ps_ret (pe_comp ["row", "x"] [none, some 1] (defScope dStair) ["table", "x"] rfl (pi_list (pv 0)) (by decide +kernel)
        (fun cl C s2 H2 ex => pg_c 0 nd1) (fun cl C s2 H2 ex => pifs_nil) (fun cl C s2 H2 ex => pe_f G3 (hr.mono (by decide)) (pa_cons (pv 0) (pa_cons (pv 1) pa_nil))))))), ?_⟩
    refine ⟨_, rfl, t, prs, rfl, hT, hs, hg, fun H1 s1 => ⟨_, rfl, x, rfl, ?_⟩⟩
    have hT1 := hT.same s1
    refine ⟨_, rfl, t, rfl, ⟨_, hT1.sq⟩, comp_map (fun p => V.ref p.1) (fun p => .int (lessN x p.2 : Nat)) hT1.sq (sl6 hs.1) (fun p hp H' Q' sm q' => ?_) fun D H' hD sm hDl => ?_⟩
    · exact ⟨_, rfl, _, rfl, p.1, p.2, x, rfl, (hT1.r p hp).same sm, hs.2 p hp, q'⟩
    · refine q D H' (s1.free hD) (s1.trans sm) ?_
      unfold Row
      rw [hDl, List.map_map]
      rfl
end
open PySem L2 PyProof.Rows
section
variable {P : Program} {w : World} {K : PySem.W.Frag} {mg : Str → Option Value} {base : Heap}
def spMost : Sp := fun vs H Q _ => ∃ (a : Addr) (ns : List Int) (x : Int), vs = [.ref a, .int x] ∧ Row H a ns ∧ ns.length ≤ 1000 ∧ ∀ H', Same H H' → Q (.int (mostN x ns : Nat)) H'
theorem sc_most : FnScope ["row", "x"] ["row", "x"] (defScope dMost) := ⟨rfl, rfl, rfl, by decide +kernel, rfl, by decide +kernel, by decide +kernel⟩
theorem ok_most (T : Blt mg) (D : DefAt K mg "how_many_at_most" dMost ["row", "x"]) : FnAt P w K mg base 1 "how_many_at_most" ["row", "x"] spMost := by
  refine FnAt.of D sc_most (fun vs H Q E h => ?_) (fun f cdv A outer s H vs Q E hr h => ?_)
  · obtain ⟨a, ns, x, rfl, _⟩ := h
    rfl
  · obtain ⟨a, ns, x, rfl, hR, hn, q⟩ := h
    have nd1 : (["number", "x"] : List Str).Nodup := by decide +kernel
    refine ⟨_, pss_one (ps_ret (pe_b call_len_seq T.len boot_len (pa_cons (pe_comp ["number", "x"] [none, some 1] (defScope dMost) ["row", "x"] rfl (pi_list (pv 0)) (by decide +kernel)
        (fun cl C s2 H2 ex => pg_c 0 nd1) (fun cl C s2 H2 ex => pifs_one (pt_cmpR op_le (pv 0) (pv 1) (nomark _))) (fun cl C s2 H2 ex => pv 0)) pa_nil))), ?_⟩
    refine ⟨_, rfl, a, rfl, ⟨_, hR.sq⟩, comp_of V.int (fun n => decide (n ≤ x)) V.int hR.sq (sl6 hn) (fun n hx H' Q' sm q' => ?_) (fun n hx _ H' Q' sm q' => ?_) fun D H' hD sm hDl => ?_⟩
    · exact ⟨_, rfl, _, rfl, _, _, rfl, rfl, _, rfl, q' _ (Same.refl _)⟩
    · exact ⟨_, rfl, q' _ (Same.refl _)⟩
    · refine ⟨D, _, rfl, .inl (SqL.of hDl), ?_⟩
      rw [List.length_map]
      exact q H' sm
theorem sc_high : FnScope ["table", "x"] ["table", "x"] (defScope dHigh) := ⟨rfl, rfl, rfl, by decide +kernel, rfl, by decide +kernel, by decide +kernel⟩
theorem ok_high (D : DefAt K mg "high_stair" dHigh ["table", "x"]) (G1 : FnAt P w K mg base 6 "need_table" ["thing"] spNeedTable) (G2 : FnAt P w K mg base 2 "need_number" ["thing"] spNeedNumber) (G3 : FnAt P w K mg base 1 "how_many_at_most" ["row", "x"] spMost) :
    FnAt P w K mg base 7 "high_stair" ["table", "x"] (spStair mostN) := by
  refine FnAt.of D sc_high (fun vs H Q E h => ?_) (fun f cdv A outer s H vs Q E hr h => ?_)
  · obtain ⟨t, prs, x, rfl, _⟩ := h
    rfl
  · obtain ⟨t, prs, x, rfl, hT, hs, hg, q⟩ := h
    have nd1 : (["row", "x"] : List Str).Nodup := by decide +kernel
    refine ⟨_, pss_cons (ps_expr (pe_f G1 hr (pa_cons (pv 0) pa_nil))) (pss_cons (ps_expr (pe_f G2 (hr.mono (by decide)) (pa_cons (pv 1) pa_nil)))
      (pss_one (ps_ret (pe_comp ["row", "x"] [none, some 1] (defScope dHigh) ["table", "x"] rfl (pi_list (pv 0)) (by decide +kernel)
        (fun cl C s2 H2 ex => pg_c 0 nd1) (fun cl C s2 H2 ex => pifs_nil) (fun cl C s2 H2 ex => pe_f G3 (hr.mono (by decide)) (pa_cons (pv 0) (pa_cons (pv 1) pa_nil))))))), ?_⟩
    refine ⟨_, rfl, t, prs, rfl, hT, hs, hg, fun H1 s1 => ⟨_, rfl, x, rfl, ?_⟩⟩
    have hT1 := hT.same s1
    refine ⟨_, rfl, t, rfl, ⟨_, hT1.sq⟩, comp_map (fun p => V.ref p.1) (fun p => .int (mostN x p.2 : Nat)) hT1.sq (sl6 hs.1) (fun p hp H' Q' sm q' => ?_) fun D H' hD sm hDl => ?_⟩
    · exact ⟨_, rfl, _, rfl, p.1, p.2, x, rfl, (hT1.r p hp).same sm, hs.2 p hp, q'⟩
    · refine q D H' (s1.free hD) (s1.trans sm) ?_
      unfold Row
      rw [hDl, List.map_map]
      rfl
end
open PySem L2 PyProof.Rows
def nfP (ns : List Int) : Prop := ∀ i, i + 1 < ns.length → ns.getD i 0 ≤ ns.getD (i + 1) 0
theorem nfB_iff {ns : List Int} : nfB ns = true ↔ nfP ns := by
  unfold nfB nfP
  simp only [List.all_map, List.all_eq_true, List.mem_range, Function.comp, id, decide_eq_true_eq]
  constructor
  · intro h i hi
    exact h i (by omega)
  · intro h i hi
    exact h i (by omega)
def rowAt (prs : Prs) (i : Nat) : List Int := ((prs[i]?).map (·.2)).getD []
theorem rowAt_mem {prs : Prs} {i : Nat} (h : i < prs.length) : ∃ p ∈ prs, prs[i]? = some p ∧ rowAt prs i = p.2 := by
  refine ⟨prs[i], List.getElem_mem h, by simp [h], ?_⟩
  unfold rowAt
  rw [List.getElem?_eq_getElem h]
  rfl
theorem col_len (prs : Prs) (j : Nat) : (col prs j).length = prs.length := by
  unfold col
  rw [List.length_map]
theorem col_at {prs : Prs} {i j : Nat} (h : i < prs.length) : (col prs j).getD i 0 = (rowAt prs i).getD j 0 := by
  unfold col rowAt
  rw [List.getD_eq_getElem?_getD, List.getElem?_map, List.getElem?_eq_getElem h]
  rfl
structure GoodP (wide : Nat) (prs : Prs) : Prop where
  len : ∀ p ∈ prs, p.2.length = wide
  row : ∀ p ∈ prs, nfP p.2
  down : ∀ i, i + 1 < prs.length → ∀ j, j < wide → (rowAt prs i).getD j 0 ≤ (rowAt prs (i + 1)).getD j 0
theorem w0_of {wide : Nat} {prs : Prs} (h : 1 ≤ prs.length) (hl : ∀ p ∈ prs, p.2.length = wide) : w0 prs = wide := by
  obtain ⟨p, h1, h2, _⟩ := head_at h
  unfold w0
  rw [h1]
  exact hl p h2
theorem tabB_of {wide : Nat} {prs : Prs} (g : GoodP wide prs) (h1 : 1 ≤ prs.length) (h2 : prs.length ≤ 6) (h3 : 1 ≤ wide) (h4 : wide ≤ 6) : tabB prs = true := by
  have hw := w0_of h1 g.len
  unfold tabB shB srB rowB
  simp only [Bool.and_eq_true, decide_eq_true_eq, List.all_eq_true, List.mem_map, id]
  refine ⟨⟨⟨h1, h2⟩, ?_, ?_⟩, ?_, ?_⟩
  · rintro b ⟨p, hp, rfl⟩
    have := g.len p hp
    simp only [Bool.and_eq_true, decide_eq_true_eq]
    omega
  · rintro b ⟨p, hp, rfl⟩
    rw [decide_eq_true_eq, hw]
    exact g.len p hp
  · rintro b ⟨p, hp, rfl⟩
    exact nfB_iff.mpr (g.row p hp)
  · rintro b ⟨j, hj, rfl⟩
    rw [List.mem_range, hw] at hj
    refine nfB_iff.mpr fun i hi => ?_
    rw [col_len] at hi
    rw [col_at (by omega), col_at hi]
    exact g.down i hi j hj
theorem good_of {prs : Prs} (h : tabB prs = true) : GoodP (w0 prs) prs ∧ 1 ≤ prs.length ∧ prs.length ≤ 6 ∧ 1 ≤ w0 prs ∧ w0 prs ≤ 6 := by
  unfold tabB at h
  rw [Bool.and_eq_true] at h
  obtain ⟨h1, h2, h3, h4⟩ := shB_of h.1
  obtain ⟨p, e1, e2, _⟩ := head_at h1
  have h5 := h3 p e2
  have h6 := h4 p e2
  have hs := h.2
  unfold srB at hs
  simp only [Bool.and_eq_true, List.all_eq_true, List.mem_map, id] at hs
  refine ⟨⟨h4, fun p hp => nfB_iff.mp (hs.1 _ ⟨p, hp, rfl⟩), fun i hi j hj => ?_⟩, h1, h2, by omega, by omega⟩
  have := nfB_iff.mp (hs.2 _ ⟨j, List.mem_range.mpr hj, rfl⟩) i (by rw [col_len]; exact hi)
  rw [col_at (by omega), col_at hi] at this
  exact this
theorem getD_push {ns : List Int} {v : Int} {i : Nat} : (ns ++ [v]).getD i 0 = if i < ns.length then ns.getD i 0 else if i = ns.length then v else 0 := by
  rw [List.getD_eq_getElem?_getD, List.getD_eq_getElem?_getD]
  by_cases h : i < ns.length
  · rw [if_pos h, List.getElem?_append_left h]
  · rw [if_neg h, List.getElem?_append_right (by omega)]
    by_cases h2 : i = ns.length
    · subst h2
      simp
    · rw [if_neg h2, List.getElem?_eq_none (by simp; omega)]
      rfl
theorem nfP_push {ns : List Int} {v : Int} (h : nfP ns) (hl : ∀ k, k + 1 = ns.length → ns.getD k 0 ≤ v) : nfP (ns ++ [v]) := fun i hi => by
  rw [List.length_append, List.length_singleton] at hi
  rw [getD_push, getD_push, if_pos (by omega)]
  by_cases h2 : i + 1 < ns.length
  · rw [if_pos h2]
    exact h i h2
  · rw [if_neg h2, if_pos (by omega)]
    exact hl i (by omega)
theorem rowAt_push {prs : Prs} {p : Addr × List Int} {i : Nat} (h : i ≤ prs.length) : rowAt (prs ++ [p]) i = if i < prs.length then rowAt prs i else p.2 := by
  unfold rowAt
  by_cases h2 : i < prs.length
  · rw [if_pos h2, List.getElem?_append_left h2]
  · have : i = prs.length := by omega
    subst this
    rw [if_neg h2]
    simp
theorem good_push {wide : Nat} {prs : Prs} {a : Addr} {cur : List Int} (g : GoodP wide prs) (hl : cur.length = wide) (hn : nfP cur) (hd : prs.length = 0 ∨ ∀ j, j < wide → (rowAt prs (prs.length - 1)).getD j 0 ≤ cur.getD j 0) : GoodP wide (prs ++ [(a, cur)]) where
  len := fun p hp => by
    rcases List.mem_append.mp hp with z | z
    · exact g.len p z
    · have : p = (a, cur) := by simpa using z
      subst this
      exact hl
  row := fun p hp => by
    rcases List.mem_append.mp hp with z | z
    · exact g.row p z
    · have : p = (a, cur) := by simpa using z
      subst this
      exact hn
  down := fun i hi j hj => by
    rw [List.length_append, List.length_singleton] at hi
    rw [rowAt_push (by omega), rowAt_push (by omega), if_pos (by omega)]
    by_cases h2 : i + 1 < prs.length
    · rw [if_pos h2]
      exact g.down i h2 j hj
    · rw [if_neg h2]
      rcases hd with z | z
      · omega
      · have := z j hj
        rw [show prs.length - 1 = i by omega] at this
        exact this
theorem at_mem {ns : List Int} {d : Int} (h0 : 0 ≤ d) (h1 : d < ns.length) : ∃ r ∈ ns, atI (ns.map V.int) d = some (.int r) := by
  obtain ⟨k, rfl⟩ : ∃ k : Nat, d = k := ⟨d.toNat, by omega⟩
  have hk : k < ns.length := by omega
  exact ⟨ns[k], List.getElem_mem hk, atI_nat (by simp [hk])⟩
theorem atI_last {α : Type} {xs : List α} {v : α} (h : xs[xs.length - 1]? = some v) : atI xs (-1) = some v := by
  have hl : 0 < xs.length := by
    have := (List.getElem?_eq_some_iff.mp h).1
    omega
  unfold atI ixN
  rw [if_neg (by decide), if_pos (by omega)]
  show xs[((-1 : Int) + (xs.length : Int)).toNat]? = some v
  rw [show ((-1 : Int) + (xs.length : Int)).toNat = xs.length - 1 by omega]
  exact h
theorem at_last {ns : List Int} (h : 0 < ns.length) : atI (ns.map V.int) (-1) = some (.int (ns.getD (ns.length - 1) 0)) := by
  refine atI_last ?_
  rw [List.length_map, List.getElem?_map, List.getD_eq_getElem?_getD, List.getElem?_eq_getElem (by omega)]
  rfl
open PySem L2 PyProof.Rows
theorem Row.push {H : Hp} {D : Addr} {ds : List Int} {v : Int} : Row (upd H D (.lst (ds.map V.int ++ [.int v]))) D (ds ++ [v]) := by
  unfold Row
  rw [upd_same, List.map_append]
  rfl
theorem Row.new {H : Hp} {D : Addr} : Row (upd H D (.lst [])) D [] := upd_same
def Drw (ds : List Int) : Prop := ∀ d ∈ ds, 0 ≤ d ∧ d < 10007
theorem Drw.push {ds : List Int} {v : Int} (h : Drw ds) (h0 : 0 ≤ v) (h1 : v < 10007) : Drw (ds ++ [v]) := fun d hd => by
  rcases List.mem_append.mp hd with z | z
  · exact h d z
  · have : d = v := by simpa using z
    subst this
    exact ⟨h0, h1⟩
theorem mod_b (x : Int) : 0 ≤ x % 10007 ∧ x % 10007 < 10007 := ⟨Int.emod_nonneg _ (by decide), Int.emod_lt_of_pos _ (by decide)⟩
theorem cut_ints (ns : List Int) (lo hi : Option Int) : ∃ ms : List Int, cutV (ns.map V.int) lo hi = ms.map V.int ∧ ms.length ≤ ns.length := by
  refine ⟨(ns.drop (HT.sIx (ns.map V.int).length 0 lo)).take (HT.sIx (ns.map V.int).length (ns.map V.int).length hi - HT.sIx (ns.map V.int).length 0 lo), ?_, ?_⟩
  · unfold cutV
    rw [List.map_take, List.map_drop]
  · rw [List.length_take, List.length_drop]
    omega
section
variable {P : Program} {w : World} {K : PySem.W.Frag} {mg : Str → Option Value} {base : Heap}
def spDraws (K : PySem.W.Frag) : Sp := fun vs H Q _ => ∃ (a : Addr) (ns : List Int), vs = [.ref a, .int 300] ∧ SqL K H a (ns.map V.int) ∧ ns.length ≤ 63 ∧
  ∀ D H' ds, H D = none → Same H H' → Row H' D ds → 300 ≤ ds.length → ds.length ≤ 1000 → Drw ds → Q (.ref D) H'
theorem sc_draws : FnScope ["script", "many", "drawn", "base", "k", "cell", "number", "one"] ["script", "many"] (defScope dDraws) := ⟨rfl, rfl, rfl, by decide +kernel, rfl, by decide +kernel, by decide +kernel⟩
set_option maxHeartbeats 16000000 in
theorem ok_draws (T : Blt mg) (D : DefAt K mg "_law_draws" dDraws ["script", "many"]) : FnAt P w K mg base 1 "_law_draws" ["script", "many"] (spDraws K) := by
  refine FnAt.of D sc_draws (fun vs H Q E h => ?_) (fun f cdv A outer s H vs Q E hr h => ?_)
  · obtain ⟨a, ns, rfl, _⟩ := h
    rfl
  · obtain ⟨a, ns, rfl, hS, hn, q⟩ := h
    refine ⟨_, pss_cons (ps_set (i := 2) sc_draws.nd rfl (Or.inl rfl) (pe_lst pa_nil))
      (pss_cons (ps_set (i := 3) sc_draws.nd rfl (Or.inl rfl) pe_int)
      (pss_cons (ps_for PassesOwn.never rfl (pi_enum rfl T.enum (pa_cons (pe_slice sl_list (pv 0) po_none (po_some pe_int)) pa_nil)) (pg_tup rfl (pgs_cons (pg_name (i := 4) sc_draws.nd rfl (Or.inl rfl)) (pgs_cons (pg_name (i := 5) sc_draws.nd rfl (Or.inl rfl)) pgs_nil)))
        (pss_cons (ps_set (i := 6) sc_draws.nd rfl (Or.inl rfl) (pe_b call_abs T.abs boot_abs (pa_cons (pv 5) pa_nil)))
        (pss_cons (ps_set (i := 3) sc_draws.nd rfl (Or.inl rfl) (pe_op o_mod (pe_op o_add (pe_op o_mul (pv 3) pe_int) (pv 6)) pe_int))
        (pss_one (ps_if (pt_cmpR o_ge (pv 6) (pe_op o_pow pe_int pe_int) (nomark _))
          (pss_one (ps_while PassesOwn.never (PW.pt (pw_and (pt_cmpR o_gt (pv 6) pe_int (nomark _)) (pw_and1 (pt_cmpR o_lt (pe_b call_len_seq T.len boot_len (pa_cons (pv 2) pa_nil)) (pv 1) (nomark _)))))
            (pss_cons (ps_expr (pe_bm PySem.F.plainAttrs_list PySem.F.slot_list_append PySem.F.type_list_append mt_append (pv 2) (pa_cons (pe_op o_mod (pv 6) pe_int) pa_nil)))
            (pss_one (ps_set (i := 6) sc_draws.nd rfl (Or.inl rfl) (pe_op o_div (pv 6) pe_int))))))
          (pss_cons (ps_set (i := 7) sc_draws.nd rfl (Or.inl rfl) (pe_op o_mod (pe_op o_mul (pe_op o_add (pe_op o_add (pe_op o_mod (pv 6) pe_int) (pv 4)) pe_int) pe_int) pe_int))
          (pss_cons (ps_set (i := 7) sc_draws.nd rfl (Or.inl rfl) (pe_op o_mod (pe_op o_mul (pv 7) (pv 7)) pe_int))
          (pss_cons (ps_expr (pe_bm PySem.F.plainAttrs_list PySem.F.slot_list_append PySem.F.type_list_append mt_append (pv 2) (pa_cons (pe_op o_mod (pe_op o_div (pv 7) pe_int) pe_int) pa_nil)))
          (pss_cons (ps_set (i := 7) sc_draws.nd rfl (Or.inl rfl) (pe_op o_mod (pe_op o_add (pe_op o_add (pe_op o_mul (pv 7) pe_int) (pe_op o_mul pe_int (pv 4))) pe_int) pe_int))
          (pss_cons (ps_set (i := 7) sc_draws.nd rfl (Or.inl rfl) (pe_op o_mod (pe_op o_mul (pv 7) (pv 7)) pe_int))
          (pss_one (ps_expr (pe_bm PySem.F.plainAttrs_list PySem.F.slot_list_append PySem.F.type_list_append mt_append (pv 2) (pa_cons (pe_op o_mod (pe_op o_div (pv 7) pe_int) pe_int) pa_nil))))))))))))))
      (pss_cons (ps_for PassesOwn.never rfl (pi_range1 rfl T.rng (pa_cons (pe_op o_sub (pv 1) (pe_b call_len_seq T.len boot_len (pa_cons (pv 2) pa_nil))) pa_nil)) (pg_name (i := 4) sc_draws.nd rfl (Or.inl rfl))
        (pss_cons (ps_set (i := 7) sc_draws.nd rfl (Or.inl rfl) (pe_op o_mod (pe_op o_add (pe_op o_add (pv 3) (pe_op o_mul pe_int (pv 4))) pe_int) pe_int))
        (pss_cons (ps_set (i := 7) sc_draws.nd rfl (Or.inl rfl) (pe_op o_mod (pe_op o_mul (pv 7) (pv 7)) pe_int))
        (pss_cons (ps_set (i := 7) sc_draws.nd rfl (Or.inl rfl) (pe_op o_mod (pe_op o_add (pe_op o_mul (pv 7) pe_int) (pv 4)) pe_int))
        (pss_one (ps_expr (pe_bm PySem.F.plainAttrs_list PySem.F.slot_list_append PySem.F.type_list_append mt_append (pv 2) (pa_cons (pe_op o_mod (pe_op o_div (pe_op o_mod (pe_op o_mul (pv 7) (pv 7)) pe_int) pe_int) pe_int) pa_nil))))))))
      (pss_one (ps_ret (pv 2)))))), ?_⟩
    refine ⟨by decide, fun D hD => ?_⟩
    refine ⟨_, rfl, _, rfl, a, _, rfl, (Same.new hD).seq hS, fun S hSn => ?_⟩
    obtain ⟨ms, ems, hms⟩ := cut_ints ns none (some 63)
    rw [ems]
    have nSD : S ≠ D := fun z => by rw [z, upd_same] at hSn; cases hSn
    refine ⟨S, rfl, ⟨_, SqL.of upd_same⟩, for_enum (K := K) (a := S) (xs := ms.map V.int) (fun i σ H2 => ∃ (ds : List Int) (b : Int) (k c n o : Option V), σ = [some (.ref a), some (.int 300), some (.ref D), some (.int b), k, c, n, o] ∧ Same H H2 ∧ Row H2 D ds ∧
      H2 S = some (.lst (ms.map V.int)) ∧ ds.length ≤ 300 + 2 * i ∧ Drw ds) ?_ (fun i σ H2 _ ⟨_, _, _, _, _, _, _, _, _, h, _⟩ => SqL.of h) ?_ ?_⟩
    · refine ⟨[], 7, none, none, none, none, rfl, ((Same.new hD).trans (Same.new hSn)), ?_, upd_same, by simp, fun d hd => nomatch hd⟩
      unfold Row
      rw [upd_ne (Ne.symm nSD)]
      exact upd_same
    · rintro i y σ H2 T hi ⟨ds, b, k, c, n, o, rfl, sm, hR, hSl, hl, hd⟩ hT
      have hil : i < ms.length := by
        have := (List.getElem?_eq_some_iff.mp hi).1
        rw [List.length_map] at this
        exact this
      obtain ⟨z, rfl⟩ : ∃ z, y = V.int z := by
        rw [List.getElem?_map] at hi
        cases e : ms[i]? with
        | none => rw [e] at hi; cases hi
        | some z => rw [e] at hi; exact ⟨z, (Option.some.inj hi).symm⟩
      have smT : Same H2 (upd H2 T (.tup [.int (i : Nat), .int z])) := Same.new hT
      have sm1 := sm.trans smT
      have hR1 := hR.same smT
      have hS1 := smT _ _ hSl
      have hTt : (upd H2 T (.tup [.int (i : Nat), .int z])) T = some (.tup [.int (i : Nat), .int z]) := upd_same
      generalize upd H2 T (.tup [.int (i : Nat), .int z]) = H3 at sm1 hR1 hS1 smT hTt ⊢
      refine ⟨T, _, rfl, SqT.of hTt, rfl, _, _, rfl, _, _, rfl, rfl, ?_⟩
      refine ⟨_, rfl, _, rfl, _, rfl, _, _, rfl, rfl, .inr ⟨by decide, by decide⟩, _, rfl, _, _, rfl, rfl, _, _, rfl, rfl, (by decide), ?_⟩
      have habs : 0 ≤ (if z < 0 then -z else z) := by split <;> omega
      generalize (if z < 0 then -z else z) = nb at habs ⊢
      generalize (b * 31 + nb) % 2147483629 = b1
      refine ⟨_, rfl, _, _, rfl, rfl, ⟨by decide, by decide, by decide⟩, _, _, rfl, rfl, _, rfl, ?_⟩
      refine ite2 (fun _ => ?_) (fun _ => ?_)
      ·
        refine ⟨fun m σ' H' => ∃ (ds : List Int) (n : Int), m = n.toNat ∧ 0 ≤ n ∧ σ' = [some (.ref a), some (.int 300), some (.ref D), some (.int b1), some (.int (i : Nat)), some (.int z), some (.int n), o] ∧ Same H H' ∧ Row H' D ds ∧
          H' S = some (.lst (ms.map V.int)) ∧ ds.length ≤ 300 + 2 * i ∧ Drw ds, ⟨_, ds, nb, rfl, habs, rfl, sm1, hR1, hS1, hl, hd⟩, ?_⟩
        rintro m σ' H' ⟨ds, n, rfl, h0, rfl, sm2, hR2, hS2, hl2, hd2⟩
        refine ⟨_, rfl, _, _, rfl, rfl, _, rfl, ite2 (fun h1 => ?_) (fun h1 => ?_)⟩
        · have h1 := of_decide_eq_true h1
          refine ⟨_, rfl, D, _, rfl, .inl hR2.sq, _, rfl, _, _, rfl, rfl, _, rfl, ite2 (fun h2 => ?_) (fun h2 => ?_)⟩
          · have h2 := of_decide_eq_true h2
            rw [List.length_map] at h2
            refine ⟨_, fun _ _ hh => hh, ⟨_, rfl, .inl ⟨rfl, _, hR2.sq⟩, _, rfl, _, _, rfl, rfl, (by decide), D, _, _, rfl, rfl, hR2, ?_, ?_⟩⟩
            · rw [List.length_map]
              exact small1000 (by omega)
            · refine ⟨_, rfl, _, _, rfl, rfl, ⟨by decide, by decide⟩, (n / 10007).toNat, ?_, ds ++ [n % 10007], n / 10007, rfl, ?_, rfl, sm2.upd hD, Row.push, ?_, ?_, hd2.push (mod_b n).1 (mod_b n).2⟩
              · omega
              · omega
              · rw [upd_ne nSD]
                exact hS2
              · rw [List.length_append, List.length_singleton]
                omega
          · exact ⟨ds, b1, _, _, _, _, rfl, sm2, hR2, hS2, by omega, hd2⟩
        · refine iteF ?_
          exact ⟨ds, b1, _, _, _, _, rfl, sm2, hR2, hS2, by omega, hd2⟩
      ·
        refine ⟨_, rfl, _, _, rfl, rfl, (by decide), _, rfl, _, _, rfl, rfl, _, _, rfl, rfl, _, _, rfl, rfl, .inr ⟨by decide, by decide⟩, _, _, rfl, rfl, (by decide), ?_⟩
        generalize (nb % 2147483647 + ((i : Nat) : Int) + 1) * 48271 = e1
        have b1' : 0 ≤ e1 % 2147483647 ∧ e1 % 2147483647 < 2147483647 := ⟨Int.emod_nonneg _ (by decide), Int.emod_lt_of_pos _ (by decide)⟩
        generalize e1 % 2147483647 = o1 at b1' ⊢
        refine ⟨_, rfl, _, rfl, _, _, rfl, rfl, .inl ⟨by omega, by omega⟩, _, _, rfl, rfl, (by decide), ?_⟩
        have b2' : 0 ≤ (o1 * o1) % 2147483629 ∧ (o1 * o1) % 2147483629 < 2147483629 := ⟨Int.emod_nonneg _ (by decide), Int.emod_lt_of_pos _ (by decide)⟩
        generalize (o1 * o1) % 2147483629 = o2 at b2' ⊢
        refine ⟨_, rfl, .inl ⟨rfl, _, hR1.sq⟩, _, rfl, _, _, rfl, rfl, ⟨by decide, by decide⟩, _, _, rfl, rfl, (by decide), D, _, _, rfl, rfl, hR1, ?_, ?_⟩
        · rw [List.length_map]
          exact small1000 (by omega)
        have hR4 : Row (upd H3 D (.lst (ds.map V.int ++ [.int (o2 / 8 % 10007)]))) D (ds ++ [o2 / 8 % 10007]) := Row.push
        have sm4 := sm1.upd (o := .lst (ds.map V.int ++ [.int (o2 / 8 % 10007)])) hD
        have hS4 : (upd H3 D (.lst (ds.map V.int ++ [.int (o2 / 8 % 10007)]))) S = some (.lst (ms.map V.int)) := by
          rw [upd_ne nSD]
          exact hS1
        generalize upd H3 D (.lst (ds.map V.int ++ [.int (o2 / 8 % 10007)])) = H4 at hR4 sm4 hS4 ⊢
        have hd4 := hd.push (mod_b (o2 / 8)).1 (mod_b (o2 / 8)).2
        refine ⟨_, rfl, _, _, rfl, rfl, .inr ⟨by decide, by decide⟩, _, rfl, _, _, rfl, rfl, .inl ⟨by decide, by decide⟩, _, _, rfl, rfl, _, _, rfl, rfl, _, _, rfl, rfl, (by decide), ?_⟩
        generalize (o2 * 40692 + 2 * ((i : Nat) : Int) + 1) = e3
        have b3' : 0 ≤ e3 % 2147483563 ∧ e3 % 2147483563 < 2147483563 := ⟨Int.emod_nonneg _ (by decide), Int.emod_lt_of_pos _ (by decide)⟩
        generalize e3 % 2147483563 = o3 at b3' ⊢
        refine ⟨_, rfl, _, rfl, _, _, rfl, rfl, .inl ⟨by omega, by omega⟩, _, _, rfl, rfl, (by decide), ?_⟩
        generalize (o3 * o3) % 2147483647 = o4
        refine ⟨_, rfl, .inl ⟨rfl, _, hR4.sq⟩, _, rfl, _, _, rfl, rfl, ⟨by decide, by decide⟩, _, _, rfl, rfl, (by decide), D, _, _, rfl, rfl, hR4, ?_, ?_⟩
        · rw [List.length_map, List.length_append, List.length_singleton]
          exact small1000 (by omega)
        · refine ⟨_, b1, _, _, _, _, rfl, sm4.upd hD, Row.push, ?_, ?_, hd4.push (mod_b (o4 / 8)).1 (mod_b (o4 / 8)).2⟩
          · rw [upd_ne nSD]
            exact hS4
          · rw [List.length_append, List.length_append, List.length_singleton, List.length_singleton]
            omega
    ·
      rintro σ H2 ⟨ds, b, k, c, n, o, rfl, sm, hR, hSl, hl, hd⟩
      rw [List.length_map] at hl
      refine ⟨_, rfl, _, rfl, D, _, rfl, .inl hR.sq, _, _, rfl, rfl, _, rfl, ?_, ?_, ?_⟩
      · rw [List.length_map]
        omega
      · rw [List.length_map]
        omega
      rw [List.length_map]
      refine for_range (fun j σ H3 => ∃ (ds' : List Int) (k o : Option V), σ = [some (.ref a), some (.int 300), some (.ref D), some (.int b), k, c, n, o] ∧ Same H H3 ∧ Row H3 D ds' ∧ ds'.length = ds.length + j ∧ Drw ds')
        ⟨ds, k, o, rfl, sm, hR, rfl, hd⟩ ?_ ?_
      · rintro j σ H3 hj ⟨ds', k, o, rfl, sm3, hR3, hl3, hd3⟩
        refine ⟨_, rfl, _, rfl, _, _, rfl, rfl, .inl ⟨by decide, by decide⟩, _, _, rfl, rfl, _, _, rfl, rfl, _, _, rfl, rfl, (by decide), ?_⟩
        generalize (b + 7919 * (0 + ((j : Nat) : Int)) + 13) = e1
        have b1' : 0 ≤ e1 % 2147483629 ∧ e1 % 2147483629 < 2147483629 := ⟨Int.emod_nonneg _ (by decide), Int.emod_lt_of_pos _ (by decide)⟩
        generalize e1 % 2147483629 = o1 at b1' ⊢
        refine ⟨_, rfl, _, rfl, _, _, rfl, rfl, .inl ⟨by omega, by omega⟩, _, _, rfl, rfl, (by decide), ?_⟩
        generalize (o1 * o1) % 2147483647 = o2
        refine ⟨_, rfl, _, _, rfl, rfl, .inr ⟨by decide, by decide⟩, _, rfl, _, _, rfl, rfl, _, _, rfl, rfl, (by decide), ?_⟩
        generalize (o2 * 69621 + (0 + ((j : Nat) : Int))) = e3
        have b3' : 0 ≤ e3 % 2147483563 ∧ e3 % 2147483563 < 2147483563 := ⟨Int.emod_nonneg _ (by decide), Int.emod_lt_of_pos _ (by decide)⟩
        generalize e3 % 2147483563 = o3 at b3' ⊢
        refine ⟨_, rfl, .inl ⟨rfl, _, hR3.sq⟩, _, rfl, _, rfl, _, _, rfl, rfl, .inl ⟨by omega, by omega⟩, _, _, rfl, rfl, (by decide), _, _, rfl, rfl, ⟨by decide, by decide⟩, _, _, rfl, rfl, (by decide), D, _, _, rfl, rfl, hR3, ?_, ?_⟩
        · rw [List.length_map]
          exact small1000 (by omega)
        · refine ⟨_, _, _, rfl, sm3.upd hD, Row.push, ?_, hd3.push (mod_b _).1 (mod_b _).2⟩
          rw [List.length_append, List.length_singleton]
          omega
      · rintro σ H3 ⟨ds', k, o, rfl, sm3, hR3, hl3, hd3⟩
        exact ⟨_, rfl, q D H3 ds' hD sm3 hR3 (by omega) (by omega) hd3⟩
end
open PySem L2 PyProof.Rows
def StoreOk (H : Hp) (s D : Addr) : Prop := ∃ (c : Int) (ds : List Int), H s = some (.lst [.ref D, .int c]) ∧ Row H D ds ∧ 1 ≤ ds.length ∧ Drw ds
def But (s : Addr) (H H' : Hp) : Prop := ∀ b o, b ≠ s → H b = some o → H' b = some o
theorem But.trans {s : Addr} {H H1 H2 : Hp} (a : But s H H1) (b : But s H1 H2) : But s H H2 := fun c o n e => b c o n (a c o n e)
theorem Same.but {s : Addr} {H H' : Hp} (a : Same H H') : But s H H' := fun c o _ e => a c o e
theorem StoreOk.same {H H' : Hp} {s D : Addr} (e : Same H H') (h : StoreOk H s D) : StoreOk H' s D :=
  let ⟨c, ds, h1, h2, h3⟩ := h
  ⟨c, ds, e _ _ h1, h2.same e, h3⟩
theorem StoreOk.row {H : Hp} {s D a : Addr} {ns : List Int} (h : StoreOk H s D) (r : Row H a ns) : a ≠ s := fun z => by
  obtain ⟨c, ds, h1, _⟩ := h
  subst z
  unfold Row at r
  rw [h1] at r
  cases ns with
  | nil => simp at r
  | cons n ns => simp at r
theorem Row.but {H H' : Hp} {s D a : Addr} {ns : List Int} (r : Row H a ns) (h : StoreOk H s D) (e : But s H H') : Row H' a ns := e _ _ (h.row r) r
theorem StoreOk.tab {H : Hp} {s D t : Addr} {prs : Prs} (h : StoreOk H s D) (r : H t = some (.lst (prs.map fun p => V.ref p.1))) : t ≠ s := fun z => by
  obtain ⟨c, ds, h1, _⟩ := h
  subst z
  rw [h1] at r
  cases prs with
  | nil => simp at r
  | cons p prs =>
    cases prs with
    | nil => simp at r
    | cons q prs => simp at r
theorem Tab.but {H H' : Hp} {s D t : Addr} {prs : Prs} (r : Tab H t prs) (h : StoreOk H s D) (e : But s H H') : Tab H' t prs := ⟨e _ _ (h.tab r.l) r.l, fun p hp => (r.r p hp).but h e⟩
theorem StoreOk.ne {H : Hp} {s D a : Addr} (h : StoreOk H s D) (n : H a = none) : s ≠ a := let ⟨_, _, h1, _⟩ := h; ne_of_none h1 n
theorem StoreOk.neD {H : Hp} {s D a : Addr} (h : StoreOk H s D) (n : H a = none) : D ≠ a := let ⟨_, _, _, h2, _⟩ := h; ne_of_none h2 n
theorem But.free {s D a : Addr} {H H' : Hp} (b : But s H H') (S : StoreOk H' s D) (h : H' a = none) : H a = none := by
  cases e : H a with
  | none => rfl
  | some o =>
    by_cases hz : a = s
    · obtain ⟨_, _, z, _⟩ := S
      rw [hz, z] at h
      cases h
    · rw [b a o hz e] at h
      cases h
theorem len0 : 0 ≤ sizeLine := Nat.zero_le _
theorem len1 : 1 ≤ sizeLine := by decide
theorem len2 : 2 ≤ sizeLine := by decide
theorem len3 : 3 ≤ sizeLine := by decide
theorem len6 : 6 ≤ sizeLine := by decide
theorem len4 : 4 ≤ sizeLine := by decide
theorem len10 : 10 ≤ sizeLine := by decide
section
variable {P : Program} {w : World} {K : PySem.W.Frag} {mg : Str → Option Value} {base : Heap}
def spTake : Sp := fun vs H Q _ => ∃ (s D : Addr) (m : Int), vs = [.ref s, .int m] ∧ 0 < m ∧ StoreOk H s D ∧ ∀ d H', 0 ≤ d → d < m → d < 10007 → But s H H' → StoreOk H' s D → Q (.int d) H'
theorem sc_take : FnScope ["store", "many"] ["store", "many"] (defScope dTake) := ⟨rfl, rfl, rfl, by decide +kernel, rfl, by decide +kernel, by decide +kernel⟩
theorem ok_take (T : Blt mg) (D : DefAt K mg "_law_take" dTake ["store", "many"]) : FnAt P w K mg base 1 "_law_take" ["store", "many"] spTake := by
  refine FnAt.of D sc_take (fun vs H Q E h => ?_) (fun f cdv A outer s H vs Q E hr h => ?_)
  · obtain ⟨st, D, m, rfl, _⟩ := h
    rfl
  · obtain ⟨st, D, m, rfl, hm, hS, q⟩ := h
    have hS0 := hS
    obtain ⟨c, ds, h1, h2, h3, h4⟩ := hS
    have hne : D ≠ st := hS0.row h2
    refine ⟨_, pss_cons (ps_asg (pe_op o_add (pe_ix ix_list (pv 0) pe_int (fun _ _ => rfl)) pe_int) (pg_sub (pv 0) pe_int set_list))
      (pss_one (ps_ret (pe_op o_mod (pe_ix ix_list (pe_ix ix_list (pv 0) pe_int (fun _ _ => rfl))
        (pe_op o_mod (pe_op o_sub (pe_ix ix_list (pv 0) pe_int (fun _ _ => rfl)) pe_int) (pe_b call_len_seq T.len boot_len (pa_cons (pe_ix ix_list (pv 0) pe_int (fun _ _ => rfl)) pa_nil))) (fun _ _ => rfl)) (pv 1)))), ?_⟩
    refine ⟨_, rfl, st, _, 1, .int c, rfl, rfl, SqL.of h1, rfl, _, _, rfl, rfl, _, rfl, st, _, 1, 1, rfl, rfl, h1, rfl, ?_⟩
    have e1 : (upd H st (.lst ([V.ref D, .int c].set 1 (.int (c + 1))))) st = some (.lst [.ref D, .int (c + 1)]) := upd_same
    have hb : But st H (upd H st (.lst ([V.ref D, .int c].set 1 (.int (c + 1))))) := fun b o n e => by rw [upd_ne n]; exact e
    have r1 : Row (upd H st (.lst ([V.ref D, .int c].set 1 (.int (c + 1))))) D ds := hb _ _ hne h2
    generalize upd H st (.lst ([V.ref D, .int c].set 1 (.int (c + 1)))) = H1 at e1 hb r1 ⊢
    have hx : (c + 1 - 1) % (ds.length : Int) = (((c + 1 - 1) % (ds.length : Int)).toNat : Nat) := by
      have := Int.emod_nonneg (c + 1 - 1) (show (ds.length : Int) ≠ 0 by omega)
      omega
    have hlt : ((c + 1 - 1) % (ds.length : Int)).toNat < ds.length := by
      have := Int.emod_lt_of_pos (c + 1 - 1) (show (0 : Int) < ds.length by omega)
      omega
    refine ⟨_, rfl, st, _, 0, .ref D, rfl, rfl, SqL.of e1, rfl, _, rfl, st, _, 1, .int (c + 1), rfl, rfl, SqL.of e1, rfl, _, _, rfl, rfl, _, rfl, st, _, 0, .ref D, rfl, rfl, SqL.of e1, rfl, D, _, rfl, .inl r1.sq, _, _, rfl, rfl, ?_, D, _, _, .int (ds.getD ((c + 1 - 1) % (ds.length : Int)).toNat 0), rfl, rfl, r1.sq, ?_, _, rfl, _, _, rfl, rfl, hm, ?_⟩
    · rw [List.length_map]
      omega
    · rw [List.length_map, hx]
      exact at_row hlt
    · have hd := h4 (ds.getD ((c + 1 - 1) % (ds.length : Int)).toNat 0) (by
        rw [List.getD_eq_getElem?_getD, List.getElem?_eq_getElem hlt]
        exact List.getElem_mem hlt)
      generalize ds.getD ((c + 1 - 1) % (ds.length : Int)).toNat 0 = v at hd ⊢
      refine q _ H1 (Int.emod_nonneg _ (by omega)) (Int.emod_lt_of_pos _ hm) ?_ hb ⟨_, ds, e1, r1, h3, h4⟩
      by_cases hv : v < m
      · rw [Int.emod_eq_of_lt hd.1 hv]
        exact hd.2
      · have := Int.emod_lt_of_pos v hm
        omega
end
open PySem L2 PyProof.Rows
section
variable {P : Program} {w : World} {K : PySem.W.Frag} {mg : Str → Option Value} {base : Heap}
def spTable : Sp := fun vs H Q _ => ∃ (s D : Addr), vs = [.ref s] ∧ StoreOk H s D ∧ ∀ t prs H', H t = none → (∀ p ∈ prs, H p.1 = none) → (prs.map (·.1)).Nodup → But s H H' → StoreOk H' s D → Tab H' t prs → tabB prs = true → Q (.ref t) H'
theorem sc_table : FnScope ["store", "x", "rows", "wide", "way", "low", "table", "row", "numbers", "place", "ahead", "more", "some"] ["store"] (defScope dTable) := ⟨rfl, rfl, rfl, by decide +kernel, rfl, by decide +kernel, by decide +kernel⟩
set_option maxHeartbeats 16000000 in
theorem ok_table (T : Blt mg) (D : DefAt K mg "_law_table" dTable ["store"]) (G : FnAt P w K mg base 1 "_law_take" ["store", "many"] spTake) : FnAt P w K mg base 2 "_law_table" ["store"] spTable := by
  refine FnAt.of D sc_table (fun vs H Q E h => ?_) (fun f cdv A outer s H vs Q E hr h => ?_)
  · obtain ⟨st, D, rfl, _⟩ := h
    rfl
  · obtain ⟨st, D, rfl, hS, q⟩ := h
    have nd := sc_table.nd
    refine ⟨_, pss_cons (ps_set (i := 1) nd rfl (Or.inl rfl) (pe_f G hr (pa_cons (pv 0) (pa_cons pe_int pa_nil))))
      (pss_cons (ps_set (i := 2) nd rfl (Or.inl rfl) (pe_ix ix_list (pe_lst (pa_cons (pe_op o_add pe_int (pe_op o_mod (pv 1) pe_int)) (pa_cons pe_int (pa_cons (pe_op o_add pe_int (pe_op o_mod (pe_op o_div (pv 1) pe_int) pe_int)) pa_nil))))
        (pe_f G hr (pa_cons (pv 0) (pa_cons pe_int pa_nil))) (fun _ _ => rfl)))
      (pss_cons (ps_set (i := 3) nd rfl (Or.inl rfl) (pe_ix ix_list (pe_lst (pa_cons (pe_op o_add pe_int (pe_op o_mod (pe_op o_div (pv 1) pe_int) pe_int)) (pa_cons pe_int (pa_cons (pe_op o_add pe_int (pe_op o_mod (pe_op o_div (pv 1) pe_int) pe_int)) pa_nil))))
        (pe_f G hr (pa_cons (pv 0) (pa_cons pe_int pa_nil))) (fun _ _ => rfl)))
      (pss_cons (ps_set (i := 4) nd rfl (Or.inl rfl) (pe_f G hr (pa_cons (pv 0) (pa_cons pe_int pa_nil))))
      (pss_cons (ps_set (i := 5) nd rfl (Or.inl rfl) (pe_ix ix_list (pe_lst (pa_cons pe_int (pa_cons pe_int (pa_cons (pe_un o_neg pe_int) (pa_cons (pe_op o_sub pe_int (pe_f G hr (pa_cons (pv 0) (pa_cons pe_int pa_nil)))) (pa_cons (pe_op o_sub pe_int (pe_op o_pow pe_int pe_int)) (pa_cons (pe_op o_pow pe_int pe_int) pa_nil)))))))
        (pe_f G hr (pa_cons (pv 0) (pa_cons pe_int pa_nil))) (fun _ _ => rfl)))
      (pss_cons (ps_set (i := 6) nd rfl (Or.inl rfl) (pe_lst pa_nil))
      (pss_cons (ps_for PassesOwn.never rfl (pi_range1 rfl T.rng (pa_cons (pv 2) pa_nil)) (pg_name (i := 7) nd rfl (Or.inl rfl))
        (pss_cons (ps_set (i := 8) nd rfl (Or.inl rfl) (pe_lst pa_nil))
        (pss_cons (ps_for PassesOwn.never rfl (pi_range1 rfl T.rng (pa_cons (pv 3) pa_nil)) (pg_name (i := 9) nd rfl (Or.inl rfl))
          (pss_cons (ps_set (i := 10) nd rfl (Or.inl rfl) (pe_ix ix_list (pe_op op_cat (pe_lst (pa_cons (pv 5) pa_nil)) (pv 8)) (pe_un o_neg pe_int) (fun _ _ => rfl)))
          (pss_cons (ps_if (pt_cmpR o_gt (pv 7) pe_int (nomark _))
            (pss_one (ps_set (i := 10) nd rfl (Or.inl rfl) (pe_b (call_max2 rfl) T.max boot_max (pa_cons (pv 10) (pa_cons (pe_ix ix_list (pe_ix ix_list (pv 6) (pe_op o_sub (pv 7) pe_int) (fun _ _ => rfl)) (pv 9) (fun _ _ => rfl)) pa_nil))))) pss_nil)
          (pss_cons (ps_set (i := 11) nd rfl (Or.inl rfl) (pe_f G hr (pa_cons (pv 0) (pa_cons pe_int pa_nil))))
          (pss_cons (ps_set (i := 12) nd rfl (Or.inl rfl) (pe_lst (pa_cons (pe_op o_mod (pv 11) pe_int) (pa_cons (pe_op o_mod (pv 11) pe_int) (pa_cons (pe_op o_mod (pv 11) pe_int) (pa_cons (pv 11) (pa_cons (pe_op o_add (pe_op o_mul (pv 11) (pe_op o_pow pe_int pe_int)) (pe_op o_mod (pv 11) pe_int)) (pa_cons pe_int pa_nil))))))))
          (pss_one (ps_expr (pe_bm PySem.F.plainAttrs_list PySem.F.slot_list_append PySem.F.type_list_append mt_append (pv 8) (pa_cons (pe_op o_add (pv 10) (pe_ix ix_list (pv 12) (pv 4) (fun _ _ => rfl))) pa_nil)))))))))
        (pss_one (ps_expr (pe_bm PySem.F.plainAttrs_list PySem.F.slot_list_append PySem.F.type_list_append mt_append (pv 6) (pa_cons (pv 8) pa_nil)))))))
      (pss_one (ps_ret (pv 6))))))))), ?_⟩
    refine ⟨_, rfl, st, D, _, rfl, by decide, hS, fun x H1 x0 x1 _ b1 S1 => ?_⟩
    refine ⟨_, rfl, _, _, rfl, rfl, by decide, _, _, rfl, rfl, _, rfl, _, _, rfl, rfl, ⟨by decide, by decide⟩, _, _, rfl, rfl, by decide, _, _, rfl, rfl, len3, fun l hl => ?_⟩
    have S1' := S1.same (Same.new (o := .lst [.int (1 + x % 6), .int 6, .int (2 + x / 6 % 5)]) hl)
    refine ⟨_, rfl, st, D, _, rfl, by decide, S1', fun d H2 d0 d1 _ b2 S2 => ?_⟩
    obtain ⟨rows, hr1, hr2⟩ := at_mem (ns := [1 + x % 6, 6, 2 + x / 6 % 5]) d0 d1
    refine ⟨l, _, _, .int rows, rfl, rfl, SqL.of (b2 _ _ (Ne.symm (S1.ne hl)) upd_same), hr2, ?_⟩
    have hrows : 1 ≤ rows ∧ rows ≤ 6 := by
      simp only [List.mem_cons, List.not_mem_nil, or_false] at hr1
      omega
    have B2 : But st H H2 := b1.trans ((Same.but (Same.new hl)).trans b2)
    clear hr1 hr2 b1 b2 S1 S1'
    refine ⟨_, rfl, _, _, rfl, rfl, ⟨by decide, by decide⟩, _, _, rfl, rfl, by decide, _, _, rfl, rfl, _, rfl, _, _, rfl, rfl, ⟨by decide, by decide⟩, _, _, rfl, rfl, by decide, _, _, rfl, rfl, len3, fun l2 hl2 => ?_⟩
    have S2' := S2.same (Same.new (o := .lst [.int (1 + x / 30 % 6), .int 6, .int (2 + x / 180 % 5)]) hl2)
    refine ⟨_, rfl, st, D, _, rfl, by decide, S2', fun d2 H3 d20 d21 _ b3 S3 => ?_⟩
    obtain ⟨wide, hw1, hw2⟩ := at_mem (ns := [1 + x / 30 % 6, 6, 2 + x / 180 % 5]) d20 d21
    refine ⟨l2, _, _, .int wide, rfl, rfl, SqL.of (b3 _ _ (Ne.symm (S2.ne hl2)) upd_same), hw2, ?_⟩
    have hwide : 1 ≤ wide ∧ wide ≤ 6 := by
      simp only [List.mem_cons, List.not_mem_nil, or_false] at hw1
      omega
    have B3 : But st H H3 := B2.trans ((Same.but (Same.new hl2)).trans b3)
    clear hw1 hw2 b3 S2 S2' B2
    refine ⟨_, rfl, st, D, _, rfl, by decide, S3, fun way H4 way0 way1 _ b4 S4 => ?_⟩
    have B4 := B3.trans b4
    clear b4 S3 B3
    refine ⟨_, rfl, _, rfl, st, D, _, rfl, by decide, S4, fun dl H5 dl0 dl1 _ b5 S5 => ?_⟩
    refine ⟨_, _, rfl, rfl, _, _, rfl, rfl, ⟨by decide, by decide, by decide⟩, _, _, rfl, rfl, _, _, rfl, rfl, ⟨by decide, by decide, by decide⟩, len6, fun l3 hl3 => ?_⟩
    have S5' := S5.same (Same.new (o := .lst [.int 0, .int 1, .int (-5), .int (0 - dl), .int (0 - 10 ^ (25 : Int).toNat), .int (10 ^ (25 : Int).toNat)]) hl3)
    refine ⟨_, rfl, st, D, _, rfl, by decide, S5', fun d3 H6 d30 d31 _ b6 S6 => ?_⟩
    obtain ⟨low, hlo1, hlo2⟩ := at_mem (ns := [0, 1, -5, 0 - dl, 0 - 10 ^ (25 : Int).toNat, 10 ^ (25 : Int).toNat]) d30 d31
    refine ⟨l3, _, _, .int low, rfl, rfl, SqL.of (b6 _ _ (Ne.symm (S5.ne hl3)) upd_same), hlo2, ?_⟩
    have B6 : But st H H6 := B4.trans (b5.trans ((Same.but (Same.new hl3)).trans b6))
    clear hlo1 hlo2 b5 b6 S5 S5' B4 S4
    refine ⟨len0, fun tb htb => ?_⟩
    have tb0 : H tb = none := B6.free S6 htb
    have hbt := S6.ne htb
    refine ⟨_, rfl, rows, rfl, by omega, by omega, for_range (fun i σ H2 => ∃ (prs : Prs) (o7 o8 o9 o10 o11 o12 : Option V), σ = [some (.ref st), some (.int x), some (.int rows), some (.int wide), some (.int way), some (.int low), some (.ref tb), o7, o8, o9, o10, o11, o12] ∧
      But st H H2 ∧ StoreOk H2 st D ∧ Tab H2 tb prs ∧ prs.length = i ∧ GoodP wide.toNat prs ∧ (prs.map (·.1)).Nodup ∧ ∀ p ∈ prs, H p.1 = none)
      ⟨[], none, none, none, none, none, none, rfl, B6.trans (Same.but (Same.new htb)), S6.same (Same.new htb), ⟨upd_same, fun p hp => nomatch hp⟩, rfl, ⟨fun p hp => (nomatch hp), fun p hp => (nomatch hp), fun i hi => absurd hi (by simp)⟩, by simp, fun p hp => nomatch hp⟩ ?_ ?_⟩
    · rintro i σ H2 hi ⟨prs, o7, o8, o9, o10, o11, o12, rfl, B, S, hT, hlen, hg, hnd, hfr⟩
      refine ⟨len0, fun nn hnn => ?_⟩
      have nn0 : H nn = none := B.free S hnn
      have nnt : tb ≠ nn := ne_of_none hT.l hnn
      have nnp : ∀ p ∈ prs, p.1 ≠ nn := fun p hp => ne_of_none (hT.r p hp) hnn
      have nns : st ≠ nn := S.ne hnn
      have nnD : D ≠ nn := S.neD hnn
      refine ⟨_, rfl, wide, rfl, by omega, by omega, for_range (fun j σ H3 => ∃ (cur : List Int) (o9 o10 o11 o12 : Option V), σ = [some (.ref st), some (.int x), some (.int rows), some (.int wide), some (.int way), some (.int low), some (.ref tb), some (.int (0 + (i : Nat))), some (.ref nn), o9, o10, o11, o12] ∧
        But st H H3 ∧ StoreOk H3 st D ∧ Tab H3 tb prs ∧ Row H3 nn cur ∧ cur.length = j ∧ nfP cur ∧ (i = 0 ∨ ∀ k, k < j → (rowAt prs (i - 1)).getD k 0 ≤ cur.getD k 0))
        ⟨[], o9, o10, o11, o12, rfl, B.trans (Same.but (Same.new hnn)), S.same (Same.new hnn), hT.same (Same.new hnn), Row.new, rfl, fun k hk => absurd hk (by simp), .inr fun k hk => absurd hk (by simp)⟩ ?_ ?_⟩
      · rintro j σ H3 hj ⟨cur, o9, o10, o11, o12, rfl, B3, S3, hT3, hR3, hcl, hnf, hab⟩
        refine ⟨_, rfl, len1, fun la hla => ?_⟩
        have nla : nn ≠ la := ne_of_none hR3 hla
        refine ⟨_, rfl, la, nn, _, _, rfl, rfl, upd_same, (by rw [upd_ne nla]; exact hR3), ?_, fun lb hlb => ?_⟩
        · rw [List.length_map]
          exact sl6 (by simp; omega)
        have sab : Same H3 (upd (upd H3 la (.lst [.int low])) lb (.lst ([.int low] ++ cur.map V.int))) := (Same.new hla).trans (Same.new hlb)
        have hlb2 : (upd (upd H3 la (.lst [.int low])) lb (.lst ([.int low] ++ cur.map V.int))) lb = some (.lst ((low :: cur).map V.int)) := upd_same
        generalize upd (upd H3 la (.lst [.int low])) lb (.lst ([.int low] ++ cur.map V.int)) = H4 at sab hlb2 ⊢
        refine ⟨_, rfl, lb, _, _, _, rfl, rfl, SqL.of hlb2, at_last (by simp), ?_⟩
        have ha0 : ∀ k, k + 1 = cur.length → cur.getD k 0 ≤ (low :: cur).getD ((low :: cur).length - 1) 0 := fun k hk => by
          rw [List.length_cons, show cur.length + 1 - 1 = k + 1 by omega, List.getD_cons_succ]
          exact Int.le_refl _
        generalize (low :: cur).getD ((low :: cur).length - 1) 0 = a0 at ha0 ⊢
        have S4 := S3.same sab
        have hT4 := hT3.same sab
        have hR4 := hR3.same sab
        have B4 := B3.trans (Same.but sab)
        clear S3 hT3 hR3 B3 sab hlb2 hlb hla nla
        refine ⟨_, rfl, _, _, rfl, rfl, _, rfl, ite2 (fun hrow => ?_) (fun hrow => ?_)⟩
        have hrow := of_decide_eq_true hrow
        have hi0 : 0 < i := by omega
        obtain ⟨p, hp1, hp2, hp3⟩ := rowAt_mem (prs := prs) (i := i - 1) (by omega)
        have hpl := hg.len p hp1
        refine ⟨_, rfl, _, rfl, _, rfl, _, _, rfl, rfl, tb, _, _, .ref p.1, rfl, rfl, hT4.sq, ?_, _, rfl, p.1, _, _, .int (p.2.getD j 0), rfl, rfl, (hT4.r p hp1).sq, ?_, _, _, rfl, ?_⟩
        · rw [show (0 : Int) + (i : Int) - 1 = ((i - 1 : Nat) : Int) by omega]
          exact atI_nat (by rw [List.getElem?_map, hp2]; rfl)
        · rw [Int.zero_add]
          exact at_row (by omega)
        have hmx : a0 ≤ (if p.2.getD j 0 > a0 then p.2.getD j 0 else a0) ∧ (i = 0 ∨ (rowAt prs (i - 1)).getD j 0 ≤ (if p.2.getD j 0 > a0 then p.2.getD j 0 else a0)) := by
          rw [hp3]
          split <;> omega
        generalize (if p.2.getD j 0 > a0 then p.2.getD j 0 else a0) = ah at hmx ⊢
        rotate_left
        have hmx : a0 ≤ a0 ∧ (i = 0 ∨ (rowAt prs (i - 1)).getD j 0 ≤ a0) := by
          refine ⟨Int.le_refl _, .inl ?_⟩
          by_cases z : i = 0
          · exact z
          · exact absurd (decide_eq_true (by omega)) hrow
        have ha1 := ha0
        clear ha0
        generalize hah : a0 = ah at hmx ha1 ⊢
        have ha0 : ∀ k, k + 1 = cur.length → cur.getD k 0 ≤ a0 := by rw [hah]; exact ha1
        have hmx : a0 ≤ ah ∧ (i = 0 ∨ (rowAt prs (i - 1)).getD j 0 ≤ ah) := ⟨by omega, hmx.2⟩
        clear hah ha1
        all_goals
          refine ⟨_, rfl, st, D, _, rfl, by decide, S4, fun mo H5 m0 m1 _ b5 S5 => ?_⟩
          have hT5 := hT4.but S4 b5
          have hR5 := hR4.but S4 b5
          have B5 := B4.trans b5
          refine ⟨_, rfl, _, _, rfl, rfl, by decide, _, rfl, _, _, rfl, rfl, by decide, _, rfl, _, _, rfl, rfl, by decide, _, rfl, _, rfl, _, _, rfl, rfl, ⟨by decide, by decide, by decide⟩, _, _, rfl, rfl, .inl ⟨by omega, by omega⟩, _, rfl, _, _, rfl, rfl, by decide, _, _, rfl, rfl, len6, fun ls hls => ?_⟩
          have sls : Same H5 (upd H5 ls (.lst [.int (mo % 2), .int (mo % 4), .int (mo % 10), .int mo, .int (mo * 10 ^ (20 : Int).toNat + mo % 3), .int 0])) := Same.new hls
          have hls2 : (upd H5 ls (.lst [.int (mo % 2), .int (mo % 4), .int (mo % 10), .int mo, .int (mo * 10 ^ (20 : Int).toNat + mo % 3), .int 0])) ls = some (.lst ([mo % 2, mo % 4, mo % 10, mo, mo * 10 ^ (20 : Int).toNat + mo % 3, 0].map V.int)) := upd_same
          generalize upd H5 ls (.lst [.int (mo % 2), .int (mo % 4), .int (mo % 10), .int mo, .int (mo * 10 ^ (20 : Int).toNat + mo % 3), .int 0]) = H6' at sls hls2 ⊢
          have hT6 := hT5.same sls
          have hR6 := hR5.same sls
          have S6' := S5.same sls
          have B6' := B5.trans (Same.but sls)
          obtain ⟨r, hr1, hr2⟩ := at_mem (ns := [mo % 2, mo % 4, mo % 10, mo, mo * 10 ^ (20 : Int).toNat + mo % 3, 0]) way0 way1
          have hr0 : 0 ≤ r := by
            have hm20 : 0 ≤ mo * 10 ^ (20 : Int).toNat := Int.mul_nonneg m0 (by decide)
            simp only [List.mem_cons, List.not_mem_nil, or_false] at hr1
            generalize mo * 10 ^ (20 : Int).toNat = mm at hr1 hm20
            omega
          refine ⟨_, rfl, .inl ⟨rfl, _, hR6.sq⟩, _, rfl, _, rfl, _, rfl, ls, _, _, .int r, rfl, rfl, SqL.of hls2, hr2, _, _, rfl, rfl, nn, _, _, rfl, rfl, hR6, ?_, ?_⟩
          · rw [List.length_map]
            exact small1000 (by omega)
          · refine ⟨cur ++ [ah + r], _, _, _, _, rfl, ?_, ?_, ?_, Row.push, ?_, ?_, ?_⟩
            · intro b o hb e
              rw [upd_ne (ne_of_none e nn0)]
              exact B6' b o hb e
            · obtain ⟨c, ds, z1, z2, z3⟩ := S6'
              refine ⟨c, ds, by rw [upd_ne nns]; exact z1, ?_, z3⟩
              unfold Row
              rw [upd_ne nnD]
              exact z2
            · refine ⟨by rw [upd_ne nnt]; exact hT6.l, fun p hp => ?_⟩
              unfold Row
              rw [upd_ne (nnp p hp)]
              exact hT6.r p hp
            · rw [List.length_append, List.length_singleton, hcl]
            · refine nfP_push hnf fun k hk => ?_
              have := ha0 k hk
              omega
            · rcases hab with z | z
              · exact .inl z
              · rcases hmx.2 with z2 | z2
                · exact .inl z2
                · refine .inr fun k hk => ?_
                  rw [getD_push]
                  by_cases hkj : k < cur.length
                  · rw [if_pos hkj]
                    exact z k (by omega)
                  · rw [if_neg hkj, if_pos (by omega), show k = j by omega]
                    omega
      ·
        rintro σ H3 ⟨cur, o9, o10, o11, o12, rfl, B3, S3, hT3, hR3, hcl, hnf, hab⟩
        refine ⟨_, rfl, .inl ⟨rfl, _, hT3.sq⟩, _, rfl, tb, _, _, rfl, rfl, hT3.l, ?_, ?_⟩
        · rw [List.length_map]
          exact small1000 (by omega)
        · have key : ∀ b o, b ≠ tb → H3 b = some o → (upd H3 tb (.lst ((prs.map fun p => V.ref p.1) ++ [.ref nn]))) b = some o := fun b o hb e => by
            rw [upd_ne hb]
            exact e
          have ntb : ∀ p ∈ prs, p.1 ≠ tb := fun p hp z => by
            have h1 := hT3.r p hp
            rw [z] at h1
            have h2 := hT3.l
            unfold Row at h1
            rw [h1] at h2
            have h3 := hg.len p hp
            cases e : p.2 with
            | nil => rw [e] at h3; simp at h3; omega
            | cons u v =>
              rw [e] at h2
              cases prs with
              | nil => simp at h2
              | cons a b => simp at h2
          refine ⟨prs ++ [(nn, cur)], _, _, _, _, _, _, rfl, ?_, ?_, ?_, ?_, ?_, ?_, ?_⟩
          · intro b o hb e
            exact key b o (ne_of_none e tb0) (B3 b o hb e)
          · obtain ⟨c, ds, z1, z2, z3⟩ := S3
            exact ⟨c, ds, key _ _ hbt z1, key _ _ (fun z => by
              unfold Row at z2
              have z4 := hT3.l
              rw [z] at z2
              rw [z2] at z4
              cases ds with
              | nil => simp at z3
              | cons u v =>
                cases prs with
                | nil => simp at z4
                | cons a b => simp at z4) z2, z3⟩
          · refine ⟨by rw [upd_same, List.map_append]; rfl, fun p hp => ?_⟩
            rcases List.mem_append.mp hp with z | z
            · exact key _ _ (ntb p z) (hT3.r p z)
            · have : p = (nn, cur) := by simpa using z
              subst this
              exact key _ _ (Ne.symm nnt) hR3
          · rw [List.length_append, List.length_singleton, hlen]
          · refine good_push hg (by omega) hnf ?_
            rcases hab with z | z
            · exact .inl (by omega)
            · refine .inr fun k hk => ?_
              rw [hlen]
              exact z k (by omega)
          · rw [List.map_append, List.nodup_append]
            refine ⟨hnd, by simp, fun a ha b hb => ?_⟩
            obtain ⟨p, hp, rfl⟩ := List.mem_map.mp ha
            have : b = nn := by simpa using hb
            subst this
            exact nnp p hp
          · intro p hp
            rcases List.mem_append.mp hp with z | z
            · exact hfr p z
            · have : p = (nn, cur) := by simpa using z
              subst this
              exact nn0
    · rintro σ H2 ⟨prs, o7, o8, o9, o10, o11, o12, rfl, B, S, hT, hlen, hg, hnd, hfr⟩
      exact ⟨_, rfl, q tb prs H2 tb0 hfr hnd B S hT (tabB_of hg (by omega) (by omega) (by omega) (by omega))⟩
end
open PySem L2 PyProof.Rows
theorem good_bounds {prs : Prs} (h : tabB prs = true) : Sm prs := by
  obtain ⟨g, h1, h2, h3, h4⟩ := good_of h
  exact ⟨by omega, fun p hp => by rw [g.len p hp]; omega⟩
section
variable {P : Program} {w : World} {K : PySem.W.Frag} {mg : Str → Option Value} {base : Heap}
end
open PySem L2 PyProof.Rows
def dRow (ns : List Int) : PyData := .list (ns.map PyData.int)
theorem rdAll_ints {K : PySem.W.Frag} {H : Hp} : ∀ ns : List Int, RdAll K H (ns.map V.int) (ns.map PyData.int)
  | [] => .nil
  | n :: r => .cons (.int n) (rdAll_ints r)
theorem Row.rd {K : PySem.W.Frag} {H : Hp} {a : Addr} {ns : List Int} (h : Row H a ns) : RdD K H (.ref a) (dRow ns) := .lst h.sq (rdAll_ints ns)
theorem lay_ints : ∀ ns : List Int, PyData.canLayAll0 (ns.map PyData.int) = true ∧ PyData.depthAll (ns.map PyData.int) ≤ 0
  | [] => by simp [PyData.canLayAll0, PyData.depthAll]
  | n :: r => by
    have h := lay_ints r
    simp only [List.map_cons, PyData.canLayAll0, PyData.canLay0, PyData.depthAll, PyData.depth, h.1, Bool.and_self, true_and]
    have := h.2
    omega
theorem shaped_row (ns : List Int) : SeqAt.shaped (dRow ns) = true := by
  have h := lay_ints ns
  have h2 := h.2
  show (PyData.canLay0 (.list (ns.map PyData.int)) && decide (PyData.depth (.list (ns.map PyData.int)) ≤ 64)) = true
  rw [Bool.and_eq_true]
  exact ⟨by simp only [PyData.canLay0]; exact h.1, decide_eq_true (by simp only [PyData.depth]; omega)⟩
theorem eqv_ints : ∀ ns : List Int, PyData.eqvAll (ns.map PyData.int) (ns.map PyData.int) = true
  | [] => by simp [PyData.eqvAll]
  | n :: r => by simp [PyData.eqvAll, PyData.eqv, eqv_ints r]
theorem eqv_row (ns : List Int) : PyData.eqv (dRow ns) (dRow ns) = true := by
  unfold dRow
  simp only [PyData.eqv]
  exact eqv_ints ns
theorem at_pr {prs : Prs} {d : Int} (h0 : 0 ≤ d) (h1 : d < prs.length) : ∃ p ∈ prs, atI (prs.map fun p => V.ref p.1) d = some (.ref p.1) := by
  obtain ⟨k, rfl⟩ : ∃ k : Nat, d = k := ⟨d.toNat, by omega⟩
  have hk : k < prs.length := by omega
  exact ⟨prs[k], List.getElem_mem hk, atI_nat (by simp [hk])⟩
theorem at_pr_last {prs : Prs} (h : 1 ≤ prs.length) : ∃ p ∈ prs, atI (prs.map fun p => V.ref p.1) (-1) = some (.ref p.1) := by
  have hk : prs.length - 1 < prs.length := by omega
  refine ⟨prs[prs.length - 1], List.getElem_mem hk, atI_last ?_⟩
  rw [List.length_map, List.getElem?_map, List.getElem?_eq_getElem hk]
  rfl
open PySem L2 PyProof.Rows
section
variable {P : Program} {w : World} {K : PySem.W.Frag} {mg : Str → Option Value} {base : Heap}
def spX : Sp := fun vs H Q _ => ∃ (s D t : Addr) (prs : Prs), vs = [.ref s, .ref t] ∧ StoreOk H s D ∧ Tab H t prs ∧ tabB prs = true ∧ ∀ x H', But s H H' → StoreOk H' s D → Q (.int x) H'
theorem sc_x : FnScope ["store", "table", "row", "one", "other", "x", "some"] ["store", "table"] (defScope dX) := ⟨rfl, rfl, rfl, by decide +kernel, rfl, by decide +kernel, by decide +kernel⟩
set_option maxHeartbeats 16000000 in
theorem ok_x (T : Blt mg) (D : DefAt K mg "_law_x" dX ["store", "table"]) (G : FnAt P w K mg base 1 "_law_take" ["store", "many"] spTake) : FnAt P w K mg base 2 "_law_x" ["store", "table"] spX := by
  refine FnAt.of D sc_x (fun vs H Q E h => ?_) (fun f cdv A outer s H vs Q E hr h => ?_)
  · obtain ⟨st, D, t, prs, rfl, _⟩ := h
    rfl
  · obtain ⟨st, D, t, prs, rfl, S, hT, hg, q⟩ := h
    obtain ⟨g, g1, g2, g3, g4⟩ := good_of hg
    have nd := sc_x.nd
    refine ⟨_, pss_cons (ps_set (i := 2) nd rfl (Or.inl rfl) (pe_ix ix_list (pv 1) (pe_f G hr (pa_cons (pv 0) (pa_cons (pe_b call_len_seq T.len boot_len (pa_cons (pv 1) pa_nil)) pa_nil))) (fun _ _ => rfl)))
      (pss_cons (ps_set (i := 3) nd rfl (Or.inl rfl) (pe_ix ix_list (pv 2) (pe_f G hr (pa_cons (pv 0) (pa_cons (pe_b call_len_seq T.len boot_len (pa_cons (pv 2) pa_nil)) pa_nil))) (fun _ _ => rfl)))
      (pss_cons (ps_set (i := 4) nd rfl (Or.inl rfl) (pe_ix ix_list (pe_ix ix_list (pv 1) (pe_f G hr (pa_cons (pv 0) (pa_cons (pe_b call_len_seq T.len boot_len (pa_cons (pv 1) pa_nil)) pa_nil))) (fun _ _ => rfl)) (pe_f G hr (pa_cons (pv 0) (pa_cons (pe_b call_len_seq T.len boot_len (pa_cons (pv 2) pa_nil)) pa_nil))) (fun _ _ => rfl)))
      (pss_cons (ps_set (i := 5) nd rfl (Or.inl rfl) (pe_f G hr (pa_cons (pv 0) (pa_cons pe_int pa_nil))))
      (pss_cons (ps_set (i := 6) nd rfl (Or.inl rfl) (pe_lst (pa_cons (pv 3) (pa_cons (pv 3) (pa_cons (pe_op o_add (pv 3) pe_int) (pa_cons (pe_op o_sub (pv 3) pe_int) (pa_cons (pe_op o_div (pe_op o_add (pv 3) (pv 4)) pe_int)
        (pa_cons (pe_op o_sub (pe_op o_sub (pe_ix ix_list (pe_ix ix_list (pv 1) pe_int (fun _ _ => rfl)) pe_int (fun _ _ => rfl)) pe_int) (pe_op o_mod (pv 5) pe_int)) pa_nil))))))))
      (pss_one (ps_ret (pe_ix ix_list (pe_op op_cat (pv 6) (pe_lst (pa_cons (pe_op o_add (pe_op o_add (pe_ix ix_list (pe_ix ix_list (pv 1) (pe_un o_neg pe_int) (fun _ _ => rfl)) (pe_un o_neg pe_int) (fun _ _ => rfl)) pe_int) (pe_op o_mod (pv 5) pe_int))
        (pa_cons (pv 5) (pa_cons (pe_op o_sub (pe_op o_pow pe_int pe_int) pe_int) (pa_cons (pe_op o_sub pe_int (pe_op o_pow pe_int pe_int)) pa_nil))))))
        (pe_f G hr (pa_cons (pv 0) (pa_cons pe_int pa_nil))) (fun _ _ => rfl)))))))), ?_⟩
    refine ⟨_, rfl, _, rfl, _, rfl, t, _, rfl, .inl hT.sq, st, D, _, rfl, by rw [List.length_map]; omega, S, fun d1 H1 a1 b1 _ B1 S1 => ?_⟩
    rw [List.length_map] at b1
    have hT1 := hT.but S B1
    obtain ⟨p, hp, ep⟩ := at_pr a1 b1
    have hpl := g.len p hp
    refine ⟨t, _, _, _, rfl, rfl, hT1.sq, ep, ?_⟩
    refine ⟨_, rfl, _, rfl, _, rfl, p.1, _, rfl, .inl (hT1.r p hp).sq, st, D, _, rfl, by rw [List.length_map]; omega, S1, fun d2 H2 a2 b2 _ B2 S2 => ?_⟩
    rw [List.length_map] at b2
    have hT2 := hT1.but S1 B2
    obtain ⟨one, _, eo⟩ := at_mem a2 b2
    refine ⟨p.1, _, _, _, rfl, rfl, (hT2.r p hp).sq, eo, ?_⟩
    refine ⟨_, rfl, _, rfl, _, rfl, t, _, rfl, .inl hT2.sq, st, D, _, rfl, by rw [List.length_map]; omega, S2, fun d3 H3 a3 b3 _ B3 S3 => ?_⟩
    rw [List.length_map] at b3
    have hT3 := hT2.but S2 B3
    obtain ⟨p', hp', ep'⟩ := at_pr a3 b3
    have hpl' := g.len p' hp'
    refine ⟨t, _, _, _, rfl, rfl, hT3.sq, ep', _, rfl, _, rfl, p.1, _, rfl, .inl (hT3.r p hp).sq, st, D, _, rfl, by rw [List.length_map]; omega, S3, fun d4 H4 a4 b4 _ B4 S4 => ?_⟩
    rw [List.length_map] at b4
    have hT4 := hT3.but S3 B4
    obtain ⟨other, _, eo'⟩ := at_mem (ns := p'.2) a4 (by omega)
    refine ⟨p'.1, _, _, _, rfl, rfl, (hT4.r p' hp').sq, eo', ?_⟩
    refine ⟨_, rfl, st, D, _, rfl, by decide, S4, fun x H5 a5 b5 _ B5 S5 => ?_⟩
    have hT5 := hT4.but S4 B5
    obtain ⟨p0, hp0, ep0⟩ := at_pr (prs := prs) (d := 0) (by omega) (by omega)
    have hpl0 := g.len p0 hp0
    obtain ⟨v0, _, ev0⟩ := at_mem (ns := p0.2) (d := 0) (by omega) (by omega)
    refine ⟨_, rfl, _, rfl, _, rfl, _, _, rfl, rfl, _, rfl, _, _, rfl, rfl, _, rfl, _, rfl, _, _, rfl, rfl, _, _, rfl, rfl, ⟨by decide, by decide⟩, _, rfl, t, _, _, _, rfl, rfl, hT5.sq, ep0, p0.1, _, _, _, rfl, rfl, (hT5.r p0 hp0).sq, ev0, _, _, rfl, rfl, _, rfl, _, _, rfl, rfl, by decide, _, _, rfl, rfl, len6, fun ls hls => ?_⟩
    have sls := Same.new (o := .lst [.int one, .int one, .int (one + 1), .int (one - 1), .int ((one + other) / 2), .int (v0 - 1 - x % 9)]) hls
    have els : (upd H5 ls (.lst [.int one, .int one, .int (one + 1), .int (one - 1), .int ((one + other) / 2), .int (v0 - 1 - x % 9)])) ls = some (.lst ([one, one, one + 1, one - 1, (one + other) / 2, v0 - 1 - x % 9].map V.int)) := upd_same
    have hT6 := hT5.same sls
    have S6 := S5.same sls
    have B6 : But st H5 _ := Same.but sls
    generalize upd H5 ls (.lst [.int one, .int one, .int (one + 1), .int (one - 1), .int ((one + other) / 2), .int (v0 - 1 - x % 9)]) = H6 at els hT6 S6 B6 ⊢
    obtain ⟨pz, hpz, epz⟩ := at_pr_last (prs := prs) g1
    have hplz := g.len pz hpz
    refine ⟨_, rfl, _, rfl, _, rfl, t, _, _, _, rfl, rfl, hT6.sq, epz, _, rfl, pz.1, _, _, _, rfl, rfl, (hT6.r pz hpz).sq, at_last (by omega), _, _, rfl, rfl, _, rfl, _, _, rfl, rfl, by decide, _, _, rfl, rfl, _, rfl, _, _, rfl, rfl, ⟨by decide, by decide, by decide⟩, _, _, rfl, rfl, _, _, rfl, rfl, ⟨by decide, by decide, by decide⟩, _, _, rfl, rfl, len4, fun lm hlm => ?_⟩
    generalize pz.2.getD (pz.2.length - 1) 0 = vz
    have nlm : ls ≠ lm := ne_of_none els hlm
    refine ⟨ls, lm, [one, one, one + 1, one - 1, (one + other) / 2, v0 - 1 - x % 9].map V.int, _, rfl, rfl, by rw [upd_ne nlm]; exact els, upd_same, len10, fun lc hlc => ?_⟩
    have slm := Same.new (o := .lst [.int (vz + 1 + x % 9), .int x, .int (10 ^ (26 : Int).toNat - 1), .int (1 - 10 ^ (26 : Int).toNat)]) hlm
    have slc := Same.new (o := .lst ([one, one, one + 1, one - 1, (one + other) / 2, v0 - 1 - x % 9].map V.int ++ [.int (vz + 1 + x % 9), .int x, .int (10 ^ (26 : Int).toNat - 1), .int (1 - 10 ^ (26 : Int).toNat)])) hlc
    have S7 := (S6.same slm).same slc
    refine ⟨_, rfl, st, D, _, rfl, by decide, S7, fun d6 H7 a6 b6 _ B7 S8 => ?_⟩
    obtain ⟨r, _, er⟩ := at_mem (ns := [one, one, one + 1, one - 1, (one + other) / 2, v0 - 1 - x % 9, vz + 1 + x % 9, x, 10 ^ (26 : Int).toNat - 1, 1 - 10 ^ (26 : Int).toNat]) a6 b6
    refine ⟨lc, _, _, .int r, rfl, rfl, SqL.of (B7 _ _ (Ne.symm ((S6.same slm).ne hlc)) upd_same), er, ?_⟩
    exact q r H7 (B1.trans (B2.trans (B3.trans (B4.trans (B5.trans (B6.trans ((Same.but slm).trans ((Same.but slc).trans B7)))))))) S8
end
open PySem L2 PyProof.Rows
def Cell (H : Hp) (c : Addr) (i j : Nat) : Prop := H c = some (.tup [.int (i : Nat), .int (j : Nat)])
section
variable {P : Program} {w : World} {K : PySem.W.Frag} {mg : Str → Option Value} {base : Heap}
def spAllWholeT : Sp := fun vs H Q _ => ∃ (c : Addr) (i j : Nat), vs = [.ref c] ∧ Cell H c i j ∧ ∀ H', Same H H' → Q (.bl true) H'
theorem ok_allWholeT (T : Blt mg) (D : DefAt K mg "all_whole" dAllWhole ["things"]) (G1 : FnAt P w K mg base 1 "is_whole" ["thing"] spIsWhole) : FnAt P w K mg base 2 "all_whole" ["things"] spAllWholeT := by
  refine FnAt.of D sc_allWhole (fun vs H Q E h => ?_) (fun f cdv A outer s H vs Q E hr h => ?_)
  · obtain ⟨c, i, j, rfl, _⟩ := h
    rfl
  · obtain ⟨c, i, j, rfl, hC, q⟩ := h
    have nd1 : (["thing"] : List Str).Nodup := by decide +kernel
    refine ⟨_, pss_one (ps_ret (pe_b (call_all rfl) T.all boot_all (pa_cons (pe_comp ["thing"] [none] (defScope dAllWhole) ["things"] rfl (pi_tup (pv 0)) (by decide +kernel)
      (fun cl C s2 H2 ex => pg_c 0 nd1) (fun cl C s2 H2 ex => pifs_nil) (fun cl C s2 H2 ex => pe_f G1 hr (pa_cons (pv 0) pa_nil))) pa_nil))), ?_⟩
    refine ⟨_, rfl, c, rfl, ⟨_, SqT.of hC⟩, comp_tup V.int (ms := [(i : Int), (j : Int)]) (fun _ => .bl true) (SqT.of hC) (by show 2 ≤ sizeLine; decide) (fun n _ H' Q' sm q' => ?_) fun L H' hL sm hLl => ?_⟩
    · exact ⟨_, rfl, n, rfl, q' _ (Same.refl _)⟩
    · exact ⟨L, [true, true], rfl, SqL.of hLl, q H' sm⟩
def spCellSz : Sp := fun vs H Q _ => ∃ (c : Addr) (r p i j : Nat), vs = [.int (r : Nat), .int (p : Nat), .ref c] ∧ Cell H c i j ∧ i < r ∧ j < p ∧ ∀ H', Same H H' → Q (.bl true) H'
theorem sc_cellSz : FnScope ["rows", "places", "thing"] ["rows", "places", "thing"] (defScope dCellSz) := ⟨rfl, rfl, rfl, by decide +kernel, rfl, by decide +kernel, by decide +kernel⟩
theorem ok_cellSz (T : Blt mg) (htup : mg "tuple" = none) (D : DefAt K mg "is_cell_of_size" dCellSz ["rows", "places", "thing"]) (G : FnAt P w K mg base 2 "all_whole" ["things"] spAllWholeT) : FnAt P w K mg base 3 "is_cell_of_size" ["rows", "places", "thing"] spCellSz := by
  refine FnAt.of D sc_cellSz (fun vs H Q E h => ?_) (fun f cdv A outer s H vs Q E hr h => ?_)
  · obtain ⟨c, r, p, i, j, rfl, _⟩ := h
    rfl
  · obtain ⟨c, r, p, i, j, rfl, hC, hi, hj, q⟩ := h
    refine ⟨_, pss_cons (ps_if (PW.pt (pw_or (pt_not (pt_val (pe_b call_isinst T.isinst boot_isinstance (pa_cons (pv 2) (pa_cons (pe_ty htup boot_tuple) pa_nil))))) (pw_or (pt_cmpR op_ne (pe_b call_len_seq T.len boot_len (pa_cons (pv 2) pa_nil)) pe_int (nomark _)) (pw_or1 (pt_not (pt_val (pe_f G hr (pa_cons (pv 2) pa_nil)))))))) (pss_one (ps_ret pe_bl)) pss_nil)
      (pss_one (ps_ret (pe_and (pe_chain o_le o_lt pe_int (pe_ix ix_tup (pv 2) pe_int (fun _ _ => rfl)) (pv 0))
        (pe_one (pe_chain o_le o_lt pe_int (pe_ix ix_tup (pv 2) pe_int (fun _ _ => rfl)) (pv 1)))))), ?_⟩
    refine ⟨_, rfl, _, _, _, _, rfl, .tup hC, kit_tt _, _, rfl, iteF ⟨_, rfl, c, _, rfl, .inr (SqT.of hC), rfl, _, rfl, ?_⟩⟩
    refine iteF ⟨_, rfl, c, i, j, rfl, hC, fun H1 s1 => ⟨_, rfl, iteF ?_⟩⟩
    have hC1 : Cell H1 c i j := s1 _ _ hC
    refine ⟨_, rfl, c, _, 0, .int (i : Nat), rfl, rfl, SqT.of hC1, rfl, _, _, rfl, rfl, _, rfl, ?_⟩
    rw [decide_eq_true (show (0 : Int) ≤ (i : Nat) by omega)]
    refine iteT ⟨_, rfl, _, _, rfl, rfl, _, rfl, ?_⟩
    rw [decide_eq_true (show ((i : Nat) : Int) < (r : Nat) by omega)]
    refine iteT ⟨_, rfl, c, _, 1, .int (j : Nat), rfl, rfl, SqT.of hC1, rfl, _, _, rfl, rfl, _, rfl, ?_⟩
    rw [decide_eq_true (show (0 : Int) ≤ (j : Nat) by omega)]
    refine iteT ⟨_, rfl, _, _, rfl, rfl, ?_⟩
    rw [decide_eq_true (show ((j : Nat) : Int) < (p : Nat) by omega)]
    exact q H1 s1
def spIsCell : Sp := fun vs H Q _ => ∃ (t c : Addr) (prs : Prs) (i j : Nat), vs = [.ref t, .ref c] ∧ Tab H t prs ∧ tabB prs = true ∧ Cell H c i j ∧ i < prs.length ∧ j < w0 prs ∧ ∀ H', Same H H' → Q (.bl true) H'
theorem sc_isCell : FnScope ["table", "thing"] ["table", "thing"] (defScope dIsCell) := ⟨rfl, rfl, rfl, by decide +kernel, rfl, by decide +kernel, by decide +kernel⟩
theorem ok_isCell (T : Blt mg) (D : DefAt K mg "is_cell" dIsCell ["table", "thing"]) (G : FnAt P w K mg base 3 "is_cell_of_size" ["rows", "places", "thing"] spCellSz) : FnAt P w K mg base 4 "is_cell" ["table", "thing"] spIsCell := by
  refine FnAt.of D sc_isCell (fun vs H Q E h => ?_) (fun f cdv A outer s H vs Q E hr h => ?_)
  · obtain ⟨t, c, prs, i, j, rfl, _⟩ := h
    rfl
  · obtain ⟨t, c, prs, i, j, rfl, hT, hg, hC, hi, hj, q⟩ := h
    obtain ⟨g, g1, g2, g3, g4⟩ := good_of hg
    obtain ⟨p0, hp0, hm0, hx0⟩ := head_at (prs := prs) g1
    refine ⟨_, pss_one (ps_ret (pe_f G hr (pa_cons (pe_b call_len_seq T.len boot_len (pa_cons (pv 0) pa_nil)) (pa_cons (pe_b call_len_seq T.len boot_len (pa_cons (pe_ix ix_list (pv 0) pe_int (fun _ _ => rfl)) pa_nil)) (pa_cons (pv 1) pa_nil))))), ?_⟩
    exact ⟨_, rfl, t, _, rfl, .inl hT.sq, _, rfl, t, _, 0, .ref p0.1, rfl, rfl, hT.sq, atI_nat (j := 0) (by rw [List.getElem?_map, hx0]; rfl), p0.1, _, rfl, .inl (hT.r p0 hm0).sq, _, rfl, c, prs.length, w0 prs, i, j, by rw [List.length_map, List.length_map, g.len p0 hm0], hC, hi, hj, q⟩
def spNeedCell : Sp := fun vs H Q _ => ∃ (t c : Addr) (prs : Prs) (i j : Nat), vs = [.ref t, .ref c] ∧ Tab H t prs ∧ tabB prs = true ∧ Cell H c i j ∧ i < prs.length ∧ j < w0 prs ∧ ∀ H', Same H H' → Q .non H'
theorem sc_needCell : FnScope ["table", "thing"] ["table", "thing"] (defScope dNeedCell) := ⟨rfl, rfl, rfl, by decide +kernel, rfl, by decide +kernel, by decide +kernel⟩
theorem ok_needCell (D : DefAt K mg "need_cell" dNeedCell ["table", "thing"]) (G : FnAt P w K mg base 4 "is_cell" ["table", "thing"] spIsCell) : FnAt P w K mg base 5 "need_cell" ["table", "thing"] spNeedCell := by
  refine FnAt.of D sc_needCell (fun vs H Q E h => ?_) (fun f cdv A outer s H vs Q E hr h => ?_)
  · obtain ⟨t, c, prs, i, j, rfl, _⟩ := h
    rfl
  · obtain ⟨t, c, prs, i, j, rfl, hT, hg, hC, hi, hj, q⟩ := h
    refine ⟨_, pss_one (ps_if (pt_not (pt_val (pe_f G hr (pa_cons (pv 0) (pa_cons (pv 1) pa_nil))))) pss_never pss_nil), ?_⟩
    exact ⟨_, rfl, _, rfl, t, c, prs, i, j, rfl, hT, hg, hC, hi, hj, fun H' sm => ⟨_, rfl, iteF (q H' sm)⟩⟩
def spNumberAt : Sp := fun vs H Q _ => ∃ (t c : Addr) (prs : Prs) (i j : Nat), vs = [.ref t, .ref c] ∧ Tab H t prs ∧ tabB prs = true ∧ Cell H c i j ∧ i < prs.length ∧ j < w0 prs ∧ ∀ H', Same H H' → Q (.int ((rowAt prs i).getD j 0)) H'
theorem sc_numberAt : FnScope ["table", "cell"] ["table", "cell"] (defScope dNumberAt) := ⟨rfl, rfl, rfl, by decide +kernel, rfl, by decide +kernel, by decide +kernel⟩
theorem ok_numberAt (D : DefAt K mg "number_at" dNumberAt ["table", "cell"]) (G1 : FnAt P w K mg base 6 "need_table" ["thing"] spNeedTable) (G2 : FnAt P w K mg base 5 "need_cell" ["table", "thing"] spNeedCell) : FnAt P w K mg base 7 "number_at" ["table", "cell"] spNumberAt := by
  refine FnAt.of D sc_numberAt (fun vs H Q E h => ?_) (fun f cdv A outer s H vs Q E hr h => ?_)
  · obtain ⟨t, c, prs, i, j, rfl, _⟩ := h
    rfl
  · obtain ⟨t, c, prs, i, j, rfl, hT, hg, hC, hi, hj, q⟩ := h
    obtain ⟨g, g1, g2, g3, g4⟩ := good_of hg
    have hsm : Sm prs := ⟨by omega, fun p hp => by rw [g.len p hp]; omega⟩
    refine ⟨_, pss_cons (ps_expr (pe_f G1 hr (pa_cons (pv 0) pa_nil))) (pss_cons (ps_expr (pe_f G2 (hr.mono (by decide)) (pa_cons (pv 0) (pa_cons (pv 1) pa_nil))))
      (pss_one (ps_ret (pe_ix ix_list (pe_ix ix_list (pv 0) (pe_ix ix_tup (pv 1) pe_int (fun _ _ => rfl)) (fun _ _ => rfl)) (pe_ix ix_tup (pv 1) pe_int (fun _ _ => rfl)) (fun _ _ => rfl))))), ?_⟩
    refine ⟨_, rfl, t, prs, rfl, hT, hsm, hg, fun H1 s1 => ⟨_, rfl, _, rfl, t, c, prs, i, j, rfl, hT.same s1, hg, s1 _ _ hC, hi, hj, fun H2 s2 => ?_⟩⟩
    have s12 := s1.trans s2
    have hT2 := hT.same s12
    have hC2 : Cell H2 c i j := s12 _ _ hC
    obtain ⟨p, hp1, hp2, hp3⟩ := rowAt_mem hi
    have hpl := g.len p hp1
    refine ⟨_, rfl, _, rfl, c, _, 0, .int (i : Nat), rfl, rfl, SqT.of hC2, rfl, t, _, _, .ref p.1, rfl, rfl, hT2.sq, atI_nat (by rw [List.getElem?_map, hp2]; rfl), _, rfl, c, _, 1, .int (j : Nat), rfl, rfl, SqT.of hC2, rfl, p.1, _, _, .int (p.2.getD j 0), rfl, rfl, (hT2.r p hp1).sq, at_row (by omega), ?_⟩
    rw [← hp3]
    exact q H2 s12
end
open PySem L2 PyProof.Rows
theorem lessN_cons (x n : Int) (ns : List Int) : lessN x (n :: ns) = (if n < x then 1 else 0) + lessN x ns := by
  unfold lessN
  rw [List.filter_cons]
  by_cases h : n < x
  · simp [h]
    omega
  · simp [h]
def rc (i : Nat) (ns : List Int) (x : Int) (k : Nat) : List (Nat × Nat) := ((List.range k).filter fun j => decide (ns.getD j 0 = x)).map fun j => (i, j)
def cellsUp (prs : Prs) (x : Int) (n : Nat) : List (Nat × Nat) := (List.range n).flatMap fun i => rc i (rowAt prs i) x (rowAt prs i).length
theorem rc_succ (i : Nat) (ns : List Int) (x : Int) (k : Nat) : rc i ns x (k + 1) = rc i ns x k ++ (if ns.getD k 0 = x then [(i, k)] else []) := by
  unfold rc
  rw [List.range_succ, List.filter_append, List.map_append]
  by_cases h : ns.getD k 0 = x
  · rw [if_pos h, List.filter_cons, decide_eq_true h]
    rfl
  · rw [if_neg h, List.filter_cons, decide_eq_false h]
    rfl
theorem rc_len (i : Nat) (ns : List Int) (x : Int) (k : Nat) : (rc i ns x k).length ≤ k := by
  unfold rc
  rw [List.length_map]
  exact Nat.le_trans (List.length_filter_le _ _) (by rw [List.length_range]; omega)
theorem cellsUp_succ (prs : Prs) (x : Int) (n : Nat) : cellsUp prs x (n + 1) = cellsUp prs x n ++ rc n (rowAt prs n) x (rowAt prs n).length := by
  unfold cellsUp
  rw [List.range_succ, List.flatMap_append]
  simp
theorem dec_v {i j : Int} : decide (V.int i = V.int j) = decide (i = j) := by
  rw [decide_eq_decide]
  constructor
  · intro h
    injection h
  · rintro rfl
    rfl
open PySem L2 PyProof.Rows
abbrev Cs := List (Addr × Nat × Nat)
def cellV (c : Addr × Nat × Nat) : V := .ref c.1
def CellAt (H : Hp) (c : Addr × Nat × Nat) : Prop := H c.1 = some (.tup [.int (c.2.1 : Nat), .int (c.2.2 : Nat)])
section
variable {P : Program} {w : World} {K : PySem.W.Frag} {mg : Str → Option Value} {base : Heap}
def spCells : Sp := fun vs H Q _ => ∃ (t : Addr) (prs : Prs) (x : Int), vs = [.ref t, .int x] ∧ Tab H t prs ∧ tabB prs = true ∧
  ∀ L (cs : Cs) H', H L = none → Same H H' → H' L = some (.lst (cs.map cellV)) → (∀ c ∈ cs, CellAt H' c ∧ H c.1 = none) → cs.map (·.2) = cellsUp prs x prs.length → cs.length ≤ 36 → Q (.ref L) H'
theorem sc_cells : FnScope ["table", "x", "cells", "row", "numbers"] ["table", "x"] (defScope dCells) := ⟨rfl, rfl, rfl, by decide +kernel, rfl, by decide +kernel, by decide +kernel⟩
set_option maxHeartbeats 16000000 in
theorem ok_cells (T : Blt mg) (D : DefAt K mg "cells_of" dCells ["table", "x"]) (G1 : FnAt P w K mg base 6 "need_table" ["thing"] spNeedTable) (G2 : FnAt P w K mg base 2 "need_number" ["thing"] spNeedNumber) : FnAt P w K mg base 7 "cells_of" ["table", "x"] spCells := by
  refine FnAt.of D sc_cells (fun vs H Q E h => ?_) (fun f cdv A outer s H vs Q E hr h => ?_)
  · obtain ⟨t, prs, x, rfl, _⟩ := h
    rfl
  · obtain ⟨t, prs, x, rfl, hT, hg, q⟩ := h
    obtain ⟨g, g1, g2, g3, g4⟩ := good_of hg
    have hs := good_bounds hg
    have nd := sc_cells.nd
    have nd1 : (["place", "number", "row", "x"] : List Str).Nodup := by decide +kernel
    refine ⟨_, pss_cons (ps_expr (pe_f G1 hr (pa_cons (pv 0) pa_nil))) (pss_cons (ps_expr (pe_f G2 (hr.mono (by decide)) (pa_cons (pv 1) pa_nil)))
      (pss_cons (ps_set (i := 2) nd rfl (Or.inl rfl) (pe_lst pa_nil))
      (pss_cons (ps_for PassesOwn.never rfl (pi_enum rfl T.enum (pa_cons (pv 0) pa_nil)) (pg_tup rfl (pgs_cons (pg_name (i := 3) nd rfl (Or.inr rfl)) (pgs_cons (pg_name (i := 4) nd rfl (Or.inl rfl)) pgs_nil)))
        (pss_one (ps_expr (pe_bm PySem.F.plainAttrs_list PySem.F.slot_list_extend PySem.F.type_list_extend mt_extend (pv 2) (pa_cons
          (pe_comp ["place", "number", "row", "x"] [none, none, some 3, some 1] (defScope dCells) ["table", "x", "cells", "row", "numbers"] rfl (pi_enum rfl T.enum (pa_cons (pv 4) pa_nil)) (by decide +kernel)
            (fun cl C s2 H2 ex => pg_c2 K rfl nd1) (fun cl C s2 H2 ex => pifs_one (pt_cmpR op_eq (pv 1) (pv 3) (nomark _))) (fun cl C s2 H2 ex => pe_tup (pa_cons (pv 2) (pa_cons (pv 0) pa_nil)))) pa_nil)))))
      (pss_one (ps_ret (pv 2)))))), ?_⟩
    refine ⟨_, rfl, t, prs, rfl, hT, hs, hg, fun H1 s1 => ⟨_, rfl, x, rfl, len0, fun L hL => ?_⟩⟩
    have L0 : H L = none := s1.free hL
    have s2 : Same H (upd H1 L (.lst [])) := s1.trans (Same.new hL)
    refine ⟨_, rfl, t, rfl, ⟨_, (hT.same s2).sq⟩, for_enum (K := K) (a := t) (xs := prs.map fun p => V.ref p.1) (fun i σ H2 => ∃ (cs : Cs) (o3 o4 : Option V), σ = [some (.ref t), some (.int x), some (.ref L), o3, o4] ∧ Same H H2 ∧ H2 L = some (.lst (cs.map cellV)) ∧
      (∀ c ∈ cs, CellAt H2 c ∧ H c.1 = none) ∧ cs.map (·.2) = cellsUp prs x i ∧ cs.length ≤ 6 * i)
      ⟨[], none, none, rfl, s2, upd_same, fun c hc => (nomatch hc), rfl, by simp⟩ (fun i σ H2 _ ⟨_, _, _, _, sm, _⟩ => (hT.same sm).sq) ?_ ?_⟩
    · rintro i y σ H2 T1 hi ⟨cs, o3, o4, rfl, sm, hLl, hcs, hcm, hcl⟩ hT1
      have hil : i < prs.length := by
        have := (List.getElem?_eq_some_iff.mp hi).1
        rw [List.length_map] at this
        exact this
      obtain ⟨p, hp1, hp2, hp3⟩ := rowAt_mem hil
      rw [List.getElem?_map, hp2] at hi
      have hy : V.ref p.1 = y := Option.some.inj hi
      subst hy
      have hpl := g.len p hp1
      have smT : Same H2 (upd H2 T1 (.tup [.int (i : Nat), .ref p.1])) := Same.new hT1
      have eT : (upd H2 T1 (.tup [.int (i : Nat), .ref p.1])) T1 = some (.tup [.int (i : Nat), .ref p.1]) := upd_same
      generalize upd H2 T1 (.tup [.int (i : Nat), .ref p.1]) = H3 at smT eT ⊢
      refine ⟨T1, _, rfl, SqT.of eT, rfl, _, _, rfl, _, _, rfl, rfl, ?_⟩
      have sm3 := sm.trans smT
      have hR3 := (hT.same sm3).r p hp1
      have hL3 := smT _ _ hLl
      refine ⟨_, rfl, .inl ⟨rfl, _, SqL.of hL3⟩, _, rfl, p.1, rfl, ⟨_, hR3.sq⟩, ?_⟩
      refine compE_run (xs := p.2.map V.int) (fun D2 k ys H' => ∃ qs : Cs, Same H3 H' ∧ H' D2 = some (.lst ys) ∧ ys = qs.map cellV ∧ (∀ c ∈ qs, CellAt H' c ∧ H3 c.1 = none ∧ c.1 ≠ D2) ∧ qs.map (·.2) = rc i p.2 x k)
        (fun D2 hD2 => ⟨[], Same.new hD2, upd_same, rfl, fun c hc => (nomatch hc), rfl⟩) (fun D2 k ys H' _ _ ⟨_, sm', e, _⟩ => ⟨e, (hR3.same sm').sq⟩) ?_ ?_
      · rintro D2 k z ys H' T2 hD2 hz ⟨qs, sm', eD, hys, hqs, hqm⟩ hT2
        have hkl : k < p.2.length := by
          have := (List.getElem?_eq_some_iff.mp hz).1
          rw [List.length_map] at this
          exact this
        have ez : z = .int (p.2.getD k 0) := by
          rw [List.getElem?_map, List.getElem?_eq_getElem hkl] at hz
          rw [List.getD_eq_getElem?_getD, List.getElem?_eq_getElem hkl]
          exact (Option.some.inj hz).symm
        subst ez
        have smT2 : Same H' (upd H' T2 (.tup [.int (k : Nat), .int (p.2.getD k 0)])) := Same.new hT2
        generalize upd H' T2 (.tup [.int (k : Nat), .int (p.2.getD k 0)]) = H4 at smT2 ⊢
        have ql : qs.length ≤ k := by
          have := congrArg List.length hqm
          rw [List.length_map] at this
          rw [this]
          exact rc_len _ _ _ _
        refine ⟨_, rfl, _, rfl, rfl, _, rfl, ?_⟩
        rw [dec_v]
        by_cases hx : p.2.getD k 0 = x
        · rw [decide_eq_true hx]
          refine iteT ⟨_, rfl, _, rfl, len2, fun T3 hT3 => ?_⟩
          have nT3 : D2 ≠ T3 := ne_of_none (smT2 _ _ eD) hT3
          have s3T : Same H4 (upd H4 T3 (.tup [.int (i : Nat), .int (k : Nat)])) := Same.new hT3
          refine ⟨s3T _ _ (smT2 _ _ eD), ?_, qs ++ [(T3, i, k)], ((sm'.trans smT2).trans s3T).upd hD2, upd_same, ?_, fun c hc => ?_, ?_⟩
          · rw [hys, List.length_map]
            exact small1000 (by omega)
          · rw [hys, List.map_append]
            rfl
          · rcases List.mem_append.mp hc with z | z
            · obtain ⟨z1, z2, z3⟩ := hqs c z
              refine ⟨?_, z2, z3⟩
              unfold CellAt
              rw [upd_ne z3]
              exact s3T _ _ (smT2 _ _ z1)
            · have : c = (T3, i, k) := by simpa using z
              subst this
              refine ⟨?_, (sm'.trans smT2).free hT3, Ne.symm nT3⟩
              unfold CellAt
              rw [upd_ne (Ne.symm nT3)]
              exact upd_same
          · rw [List.map_append, hqm, rc_succ, if_pos hx]
            rfl
        · rw [decide_eq_false hx]
          refine iteF ⟨qs, sm'.trans smT2, smT2 _ _ eD, hys, fun c hc => ?_, ?_⟩
          · obtain ⟨z1, z2, z3⟩ := hqs c hc
            exact ⟨smT2 _ _ z1, z2, z3⟩
          · rw [hqm, rc_succ, if_neg hx, List.append_nil]
      · rintro D2 ys H' hD2 ⟨qs, sm', eD, hys, hqs, hqm⟩
        rw [List.length_map] at hqm
        have ql : qs.length ≤ p.2.length := by
          have := congrArg List.length hqm
          rw [List.length_map] at this
          rw [this]
          exact rc_len _ _ _ _
        have hL4 := sm' _ _ hL3
        refine ⟨L, D2, _, _, rfl, rfl, hL4, eD, ?_, ?_⟩
        · rw [List.length_map, hys, List.length_map]
          exact sl6 (by omega)
        · refine ⟨cs ++ qs, _, _, rfl, (sm3.trans sm').upd L0, ?_, fun c hc => ?_, ?_, ?_⟩
          · rw [upd_same, hys, List.map_append]
          · have nL : ∀ c : Addr × Nat × Nat, CellAt H' c → c.1 ≠ L := fun c h => ne_of h hL4 (by intro z; cases z)
            rcases List.mem_append.mp hc with z | z
            · obtain ⟨z1, z2⟩ := hcs c z
              have z3 : CellAt H' c := sm' _ _ (smT _ _ z1)
              refine ⟨?_, z2⟩
              unfold CellAt
              rw [upd_ne (nL c z3)]
              exact z3
            · obtain ⟨z1, z2, z3⟩ := hqs c z
              refine ⟨?_, sm3.free z2⟩
              unfold CellAt
              rw [upd_ne (nL c z1)]
              exact z1
          · rw [List.map_append, hcm, hqm, cellsUp_succ, hp3]
          · rw [List.length_append]
            omega
    · rintro σ H2 ⟨cs, o3, o4, rfl, sm, hLl, hcs, hcm, hcl⟩
      rw [List.length_map] at hcm hcl
      exact ⟨_, rfl, q L cs H2 L0 sm hLl hcs hcm (by omega)⟩
end
open PySem L2 PyProof.Rows
abbrev Es := List (Addr × List Int)
def EntAt (H : Hp) (e : Addr × List Int) : Prop := H e.1 = some (.tup (e.2.map V.int))
def dEnt (e : List Int) : PyData := .tuple (e.map PyData.int)
def dEnts (fs : List (List Int)) : PyData := .list (fs.map dEnt)
theorem EntAt.rd {K : PySem.W.Frag} {H : Hp} {e : Addr × List Int} (h : EntAt H e) : RdD K H (.ref e.1) (dEnt e.2) := .tup (SqT.of h) (rdAll_ints e.2)
theorem rdAll_ents {K : PySem.W.Frag} {H : Hp} : ∀ es : Es, (∀ e ∈ es, EntAt H e) → RdAll K H (es.map fun e => V.ref e.1) ((es.map (·.2)).map dEnt)
  | [], _ => .nil
  | e :: r, h => .cons (h e (by simp)).rd (rdAll_ents r fun q hq => h q (by simp [hq]))
theorem ents_rd {K : PySem.W.Frag} {H : Hp} {L : Addr} {es : Es} (hL : H L = some (.lst (es.map fun e => V.ref e.1))) (h : ∀ e ∈ es, EntAt H e) : RdD K H (.ref L) (dEnts (es.map (·.2))) := .lst (SqL.of hL) (rdAll_ents es h)
theorem lay_ents : ∀ fs : List (List Int), PyData.canLayAll0 (fs.map dEnt) = true ∧ PyData.depthAll (fs.map dEnt) ≤ 1
  | [] => by simp [PyData.canLayAll0, PyData.depthAll]
  | ns :: r => by
    have h := lay_ents r
    have h2 := lay_ints ns
    simp only [List.map_cons, dEnt, PyData.canLayAll0, PyData.canLay0, PyData.depthAll, PyData.depth, h2.1]
    have a1 := h.2
    have a2 := h2.2
    refine ⟨by rw [Bool.true_and]; exact h.1, ?_⟩
    show max (PyData.depthAll (ns.map PyData.int) + 1) (PyData.depthAll (r.map dEnt)) ≤ 1
    omega
theorem shaped_ents (fs : List (List Int)) : SeqAt.shaped (dEnts fs) = true := by
  have h := lay_ents fs
  have h2 := h.2
  show (PyData.canLay0 (.list (fs.map dEnt)) && decide (PyData.depth (.list (fs.map dEnt)) ≤ 64)) = true
  rw [Bool.and_eq_true]
  exact ⟨by simp only [PyData.canLay0]; exact h.1, decide_eq_true (by simp only [PyData.depth]; omega)⟩
theorem eqv_ent (e : List Int) : PyData.eqv (dEnt e) (dEnt e) = true := by
  unfold dEnt
  simp only [PyData.eqv]
  exact eqv_ints e
theorem eqv_entsA : ∀ fs : List (List Int), PyData.eqvAll (fs.map dEnt) (fs.map dEnt) = true
  | [] => by simp [PyData.eqvAll]
  | n :: r => by simp [PyData.eqvAll, eqv_ent n, eqv_entsA r]
theorem eqv_ents (fs : List (List Int)) : PyData.eqv (dEnts fs) (dEnts fs) = true := by
  unfold dEnts
  simp only [PyData.eqv]
  exact eqv_entsA fs
open PySem L2 PyProof.Rows
def flatP (prs : Prs) : List Int := (prs.map (·.2)).flatten
def amidN (a b : Int) (ns : List Int) : Nat := (ns.filter fun n => decide (a ≤ n) && decide (n ≤ b)).length
theorem flatP_cons (p : Addr × List Int) (r : Prs) : flatP (p :: r) = p.2 ++ flatP r := rfl
theorem less_flat (x : Int) : ∀ prs : Prs, (prs.map fun p => (lessN x p.2 : Int)).sum = (lessN x (flatP prs) : Nat)
  | [] => rfl
  | p :: r => by
    rw [List.map_cons, List.sum_cons, less_flat x r, flatP_cons]
    unfold lessN
    rw [List.filter_append, List.length_append]
    omega
theorem most_flat (x : Int) : ∀ prs : Prs, (prs.map fun p => (mostN x p.2 : Int)).sum = (mostN x (flatP prs) : Nat)
  | [] => rfl
  | p :: r => by
    rw [List.map_cons, List.sum_cons, most_flat x r, flatP_cons]
    unfold mostN
    rw [List.filter_append, List.length_append]
    omega
theorem amid_le {a b : Int} (h : a ≤ b) : ∀ ns : List Int, mostN b ns = lessN a ns + amidN a b ns
  | [] => rfl
  | n :: r => by
    have ih := amid_le h r
    unfold mostN lessN amidN at ih ⊢
    simp only [List.filter_cons]
    by_cases h1 : n < a
    · rw [if_pos (decide_eq_true (show n ≤ b by omega)), if_pos (decide_eq_true h1), if_neg (by rw [decide_eq_false (show ¬ a ≤ n by omega)]; simp)]
      simp only [List.length_cons]
      omega
    · by_cases h2 : n ≤ b
      · rw [if_pos (decide_eq_true h2), if_neg (by simpa using h1), if_pos (by rw [decide_eq_true (show a ≤ n by omega), decide_eq_true h2]; rfl)]
        simp only [List.length_cons]
        omega
      · rw [if_neg (by simpa using h2), if_neg (by simpa using h1), if_neg (by rw [decide_eq_false h2]; simp)]
        exact ih
theorem amid_gt {a b : Int} (h : b < a) : ∀ ns : List Int, amidN a b ns = 0 ∧ mostN b ns ≤ lessN a ns
  | [] => ⟨rfl, Nat.le_refl _⟩
  | n :: r => by
    have ih := amid_gt h r
    unfold mostN lessN amidN at ih ⊢
    simp only [List.filter_cons]
    have h3 : ¬ ((decide (a ≤ n) && decide (n ≤ b)) = true) := by
      simp
      omega
    rw [if_neg h3]
    refine ⟨ih.1, ?_⟩
    by_cases h2 : n ≤ b
    · rw [if_pos (decide_eq_true h2), if_pos (decide_eq_true (show n < a by omega))]
      simp only [List.length_cons]
      omega
    · rw [if_neg (by simpa using h2)]
      by_cases h1 : n < a
      · rw [if_pos (decide_eq_true h1)]
        simp only [List.length_cons]
        omega
      · rw [if_neg (by simpa using h1)]
        exact ih.2
theorem amid_max (a b : Int) (ns : List Int) : (if (mostN b ns : Int) - (lessN a ns : Int) > 0 then (mostN b ns : Int) - (lessN a ns : Int) else 0) = (amidN a b ns : Nat) := by
  by_cases h : a ≤ b
  · have := amid_le h ns
    split <;> omega
  · have := amid_gt (show b < a by omega) ns
    split <;> omega
open PySem L2 PyProof.Rows
theorem row_at {prs : Prs} {i : Nat} (h : i < prs.length) : rowAt prs i = prs[i].2 := by
  unfold rowAt
  rw [List.getElem?_eq_getElem h]
  rfl
open PySem L2 PyProof.Rows
def overR (prs : Prs) : List (List Int) := (List.range (w0 prs)).map (col prs)
def negR (ns : List Int) : List Int := ns.reverse.map fun n => -n
def aboutR (prs : Prs) : List (List Int) := ((prs.map (·.2)).reverse).map negR
section
variable {P : Program} {w : World} {K : PySem.W.Frag} {mg : Str → Option Value} {base : Heap}
def spOver (f : Prs → List (List Int)) : Sp := fun vs H Q _ => ∃ (t : Addr) (prs : Prs), vs = [.ref t] ∧ Tab H t prs ∧ tabB prs = true ∧ ∀ t' prs' H', H t' = none → (∀ p ∈ prs', H p.1 = none) → (prs'.map (·.1)).Nodup → Same H H' → Tab H' t' prs' → prs'.map (·.2) = f prs → Q (.ref t') H'
theorem sc_over : FnScope ["table"] ["table"] (defScope dOver) := ⟨rfl, rfl, rfl, by decide +kernel, rfl, by decide +kernel, by decide +kernel⟩
theorem ok_over (T : Blt mg) (D : DefAt K mg "laid_over" dOver ["table"]) (G1 : FnAt P w K mg base 6 "need_table" ["thing"] spNeedTable) (G2 : FnAt P w K mg base 1 "numbers_at_place" ["table", "place"] spAtPlace) : FnAt P w K mg base 7 "laid_over" ["table"] (spOver overR) := by
  refine FnAt.of D sc_over (fun vs H Q E h => ?_) (fun f cdv A outer s H vs Q E hr h => ?_)
  · obtain ⟨t, prs, rfl, _⟩ := h
    rfl
  · obtain ⟨t, prs, rfl, hT, hg, q⟩ := h
    obtain ⟨g, g1, g2, g3, g4⟩ := good_of hg
    obtain ⟨p0, hp0, hm0, hx0⟩ := head_at (prs := prs) g1
    have nd1 : (["place", "table"] : List Str).Nodup := by decide +kernel
    refine ⟨_, pss_cons (ps_expr (pe_f G1 hr (pa_cons (pv 0) pa_nil))) (pss_one (ps_ret (pe_comp ["place", "table"] [none, some 0] (defScope dOver) ["table"] rfl
      (pi_range1 rfl T.rng (pa_cons (pe_b call_len_seq T.len boot_len (pa_cons (pe_ix ix_list (pv 0) pe_int (fun _ _ => rfl)) pa_nil)) pa_nil)) (by decide +kernel)
      (fun cl C s2 H2 ex => pg_c 0 nd1) (fun cl C s2 H2 ex => pifs_nil) (fun cl C s2 H2 ex => pe_f G2 (hr.mono (by decide)) (pa_cons (pv 1) (pa_cons (pv 0) pa_nil)))))), ?_⟩
    refine ⟨_, rfl, t, prs, rfl, hT, good_bounds hg, hg, fun H1 s1 => ?_⟩
    have hT1 := hT.same s1
    refine ⟨_, rfl, t, _, 0, .ref p0.1, rfl, rfl, hT1.sq, atI_nat (j := 0) (by rw [List.getElem?_map, hx0]; rfl), p0.1, _, rfl, .inl (hT1.r p0 hm0).sq, _, rfl, by omega, by rw [List.length_map, g.len p0 hm0]; omega, ?_⟩
    rw [List.length_map, g.len p0 hm0, Int.toNat_natCast]
    refine comp_objsR (fun j => HO.lst ((col prs j).map V.int)) (by omega) (fun j hj H' Q' sm q' => ?_) fun D qs H' hD hqm hnd hq sm hDl => ?_
    · exact ⟨_, rfl, _, rfl, t, prs, j, by rw [Int.zero_add], hT1.same sm, by omega, fun p hp => by rw [g.len p hp]; exact hj, fun D H'' hD s2 hR => q' D H'' hD s2 hR⟩
    · refine q D (qs.map fun q => (q.1, col prs q.2)) H' (s1.free hD) (fun p hp => ?_) ?_ (s1.trans sm) ⟨?_, fun p hp => ?_⟩ ?_
      · obtain ⟨q, hq1, rfl⟩ := List.mem_map.mp hp
        exact s1.free (hq q hq1).2.1
      · rw [List.map_map]
        exact hnd
      · rw [hDl, List.map_map]
        rfl
      · obtain ⟨q, hq1, rfl⟩ := List.mem_map.mp hp
        exact (hq q hq1).1
      · unfold overR
        rw [← hqm, List.map_map, List.map_map]
        rfl
def spTRow : Sp := fun vs H Q _ => ∃ (a : Addr) (ns : List Int), vs = [.ref a] ∧ Row H a ns ∧ ns.length ≤ 1000 ∧ ∀ D H', H D = none → Same H H' → Row H' D (negR ns) → Q (.ref D) H'
theorem sc_trow : FnScope ["row"] ["row"] (defScope dTRow) := ⟨rfl, rfl, rfl, by decide +kernel, rfl, by decide +kernel, by decide +kernel⟩
theorem ok_trow (hrv : mg "reversed" = none) (D : DefAt K mg "turned_row" dTRow ["row"]) : FnAt P w K mg base 1 "turned_row" ["row"] spTRow := by
  refine FnAt.of D sc_trow (fun vs H Q E h => ?_) (fun f cdv A outer s H vs Q E hr h => ?_)
  · obtain ⟨a, ns, rfl, _⟩ := h
    rfl
  · obtain ⟨a, ns, rfl, hR, hn, q⟩ := h
    have nd1 : (["number"] : List Str).Nodup := by decide +kernel
    refine ⟨_, pss_one (ps_ret (pe_comp ["number"] [none] (defScope dTRow) ["row"] rfl (pi_rev rfl hrv (pa_cons (pv 0) pa_nil)) (by decide +kernel)
      (fun cl C s2 H2 ex => pg_c 0 nd1) (fun cl C s2 H2 ex => pifs_nil) (fun cl C s2 H2 ex => pe_un o_neg (pv 0)))), ?_⟩
    refine ⟨_, rfl, a, _, rfl, hR.sq, comp_revP V.int (fun n => .int (-n)) hR.sq (sl6 hn) (fun n hx H' Q' sm q' => ?_) fun D H' hD sm hDl => ?_⟩
    · exact ⟨_, rfl, n, rfl, q' _ (Same.refl _)⟩
    · refine q D H' hD sm ?_
      unfold Row negR
      rw [hDl, List.map_map]
      rfl
theorem sc_about : FnScope ["table"] ["table"] (defScope dAbout) := ⟨rfl, rfl, rfl, by decide +kernel, rfl, by decide +kernel, by decide +kernel⟩
theorem ok_about (hrv : mg "reversed" = none) (D : DefAt K mg "turned_about" dAbout ["table"]) (G1 : FnAt P w K mg base 6 "need_table" ["thing"] spNeedTable) (G2 : FnAt P w K mg base 1 "turned_row" ["row"] spTRow) : FnAt P w K mg base 7 "turned_about" ["table"] (spOver aboutR) := by
  refine FnAt.of D sc_about (fun vs H Q E h => ?_) (fun f cdv A outer s H vs Q E hr h => ?_)
  · obtain ⟨t, prs, rfl, _⟩ := h
    rfl
  · obtain ⟨t, prs, rfl, hT, hg, q⟩ := h
    have nd1 : (["row"] : List Str).Nodup := by decide +kernel
    have hs := good_bounds hg
    refine ⟨_, pss_cons (ps_expr (pe_f G1 hr (pa_cons (pv 0) pa_nil))) (pss_one (ps_ret (pe_comp ["row"] [none] (defScope dAbout) ["table"] rfl (pi_rev rfl hrv (pa_cons (pv 0) pa_nil)) (by decide +kernel)
      (fun cl C s2 H2 ex => pg_c 0 nd1) (fun cl C s2 H2 ex => pifs_nil) (fun cl C s2 H2 ex => pe_f G2 (hr.mono (by decide)) (pa_cons (pv 0) pa_nil))))), ?_⟩
    refine ⟨_, rfl, t, prs, rfl, hT, hs, hg, fun H1 s1 => ?_⟩
    have hT1 := hT.same s1
    refine ⟨_, rfl, t, _, rfl, hT1.sq, comp_revO (fun p => V.ref p.1) (fun p => HO.lst ((negR p.2).map V.int)) hT1.sq hs.1 (fun p hp H' Q' sm q' => ?_) fun D qs H' hD hqm hnd hq sm hDl => ?_⟩
    · exact ⟨_, rfl, p.1, p.2, rfl, (hT1.r p (List.mem_reverse.mp hp)).same sm, hs.2 p (List.mem_reverse.mp hp), fun D H'' hD s2 hR => q' D H'' hD s2 hR⟩
    · refine q D (qs.map fun q => (q.1, negR q.2.2)) H' (s1.free hD) (fun p hp => ?_) ?_ (s1.trans sm) ⟨?_, fun p hp => ?_⟩ ?_
      · obtain ⟨q, hq1, rfl⟩ := List.mem_map.mp hp
        exact s1.free (hq q hq1).2.1
      · rw [List.map_map]
        exact hnd
      · rw [hDl, List.map_map]
        rfl
      · obtain ⟨q, hq1, rfl⟩ := List.mem_map.mp hp
        exact (hq q hq1).1
      · unfold aboutR
        rw [← List.map_reverse, ← hqm, List.map_map, List.map_map, List.map_map]
        rfl
end
open PySem L2 PyProof.Rows
theorem over_good {prs prs' : Prs} (hg : tabB prs = true) (h : prs'.map (·.2) = overR prs) : tabB prs' = true ∧ prs'.length = w0 prs ∧ w0 prs' = prs.length := by
  obtain ⟨g, g1, g2, g3, g4⟩ := good_of hg
  have hl : prs'.length = w0 prs := by
    have := congrArg List.length h
    unfold overR at this
    rw [List.length_map, List.length_map, List.length_range] at this
    exact this
  have ha : ∀ i, i < prs'.length → rowAt prs' i = col prs i := fun i hi => by
    have e : (prs'.map (·.2))[i]? = (overR prs)[i]? := by rw [h]
    unfold overR at e
    rw [List.getElem?_map, List.getElem?_map, List.getElem?_range (by omega)] at e
    unfold rowAt
    rw [e]
    rfl
  have hm : ∀ p ∈ prs', ∃ j, j < w0 prs ∧ p.2 = col prs j := fun p hp => by
    have : p.2 ∈ overR prs := by rw [← h]; exact List.mem_map.mpr ⟨p, hp, rfl⟩
    unfold overR at this
    obtain ⟨j, hj, e⟩ := List.mem_map.mp this
    exact ⟨j, List.mem_range.mp hj, e.symm⟩
  have gp : GoodP prs.length prs' := by
    refine ⟨fun p hp => ?_, fun p hp i hi => ?_, fun i hi j hj => ?_⟩
    · obtain ⟨j, _, e⟩ := hm p hp
      rw [e, col_len]
    · obtain ⟨j, hj, e⟩ := hm p hp
      rw [e, col_len] at hi
      rw [e, col_at (by omega), col_at hi]
      exact g.down i hi j hj
    · rw [ha i (by omega), ha (i + 1) hi, col_at hj, col_at hj]
      obtain ⟨p, hp, _, hp3⟩ := rowAt_mem hj
      rw [hp3]
      exact g.row p hp i (by rw [g.len p hp]; omega)
  refine ⟨tabB_of gp (by omega) (by omega) g1 g2, hl, w0_of (by omega) gp.len⟩
theorem neg_at {ns : List Int} {i : Nat} (h : i < ns.length) : (negR ns).getD i 0 = -(ns.getD (ns.length - 1 - i) 0) := by
  unfold negR
  rw [List.getD_eq_getElem?_getD, List.getD_eq_getElem?_getD, List.getElem?_map, List.getElem?_reverse h, List.getElem?_eq_getElem (by omega)]
  rfl
theorem neg_len (ns : List Int) : (negR ns).length = ns.length := by
  unfold negR
  rw [List.length_map, List.length_reverse]
theorem about_at {prs prs' : Prs} (h : prs'.map (·.2) = aboutR prs) {i : Nat} (hi : i < prs.length) : rowAt prs' i = negR (rowAt prs (prs.length - 1 - i)) := by
  have e : (prs'.map (·.2))[i]? = (aboutR prs)[i]? := by rw [h]
  unfold aboutR at e
  rw [List.getElem?_map, List.getElem?_map, List.getElem?_reverse (by rw [List.length_map]; exact hi), List.length_map, List.getElem?_map, List.getElem?_eq_getElem (l := prs) (i := prs.length - 1 - i) (by omega)] at e
  rw [row_at (prs := prs) (by omega)]
  unfold rowAt
  rw [e]
  rfl
theorem about_len {prs prs' : Prs} (h : prs'.map (·.2) = aboutR prs) : prs'.length = prs.length := by
  have := congrArg List.length h
  unfold aboutR at this
  rw [List.length_map, List.length_map, List.length_reverse, List.length_map] at this
  exact this
theorem about_good {prs prs' : Prs} (hg : tabB prs = true) (h : prs'.map (·.2) = aboutR prs) : tabB prs' = true ∧ prs'.length = prs.length ∧ w0 prs' = w0 prs := by
  obtain ⟨g, g1, g2, g3, g4⟩ := good_of hg
  have hl := about_len h
  have hm : ∀ p ∈ prs', ∃ q ∈ prs, p.2 = negR q.2 := fun p hp => by
    have : p.2 ∈ aboutR prs := by rw [← h]; exact List.mem_map.mpr ⟨p, hp, rfl⟩
    unfold aboutR at this
    obtain ⟨r, hr, e⟩ := List.mem_map.mp this
    obtain ⟨q, hq, e2⟩ := List.mem_map.mp (List.mem_reverse.mp hr)
    exact ⟨q, hq, by rw [← e, ← e2]⟩
  have gp : GoodP (w0 prs) prs' := by
    refine ⟨fun p hp => ?_, fun p hp i hi => ?_, fun i hi j hj => ?_⟩
    · obtain ⟨q, hq, e⟩ := hm p hp
      rw [e, neg_len, g.len q hq]
    · obtain ⟨q, hq, e⟩ := hm p hp
      rw [e, neg_len] at hi
      rw [e, neg_at (by omega), neg_at hi]
      have := g.row q hq (q.2.length - 1 - (i + 1)) (by omega)
      rw [show q.2.length - 1 - (i + 1) + 1 = q.2.length - 1 - i by omega] at this
      omega
    · obtain ⟨p, hp, _, hp3⟩ := rowAt_mem (prs := prs) (i := prs.length - 1 - i) (by omega)
      obtain ⟨q, hq, _, hq3⟩ := rowAt_mem (prs := prs) (i := prs.length - 1 - (i + 1)) (by omega)
      have l1 := g.len p hp
      have l2 := g.len q hq
      rw [about_at h (by omega), about_at h (by omega), hp3, hq3, neg_at (by omega), neg_at (by omega), ← hp3, ← hq3, hp3, hq3, l1, l2, ← hp3, ← hq3]
      have := g.down (prs.length - 1 - (i + 1)) (by omega) (w0 prs - 1 - j) (by omega)
      rw [show prs.length - 1 - (i + 1) + 1 = prs.length - 1 - i by omega] at this
      omega
  exact ⟨tabB_of gp (by omega) (by omega) g3 g4, hl, w0_of (by omega) gp.len⟩
theorem mostN_cons (x n : Int) (ns : List Int) : mostN x (n :: ns) = (if n ≤ x then 1 else 0) + mostN x ns := by
  unfold mostN
  rw [List.filter_cons]
  by_cases h : n ≤ x
  · simp [h]
    omega
  · simp [h]
def eqN (x : Int) (ns : List Int) : Nat := (ns.filter fun n => decide (n = x)).length
theorem less_eq_most (x : Int) : ∀ ns : List Int, lessN x ns + eqN x ns = mostN x ns
  | [] => rfl
  | n :: ns => by
    have := less_eq_most x ns
    have e : eqN x (n :: ns) = (if n = x then 1 else 0) + eqN x ns := by
      unfold eqN
      rw [List.filter_cons]
      by_cases h : n = x
      · simp [h]
        omega
      · simp [h]
    rw [lessN_cons, mostN_cons, e]
    split <;> split <;> split <;> omega
theorem filter_range (ns : List Int) (p : Int → Bool) : ((List.range ns.length).filter fun j => p (ns.getD j 0)).length = (ns.filter p).length := by
  have e : ns = (List.range ns.length).map fun j => ns.getD j 0 := by
    apply List.ext_getElem?
    intro i
    by_cases h : i < ns.length
    · rw [List.getElem?_map, List.getElem?_range h, List.getElem?_eq_getElem h]
      simp [h]
    · rw [List.getElem?_eq_none (by omega), List.getElem?_eq_none (by simp; omega)]
  conv => rhs; rw [e, List.filter_map, List.length_map]
  rfl
theorem rc_eq (i : Nat) (ns : List Int) (x : Int) : (rc i ns x ns.length).length = eqN x ns := by
  unfold rc
  rw [List.length_map]
  exact filter_range ns fun n => decide (n = x)
theorem cells_len (prs : Prs) (x : Int) : ∀ n, n ≤ prs.length → ((cellsUp prs x n).length : Int) = ((prs.take n).map fun p => (mostN x p.2 : Int)).sum - ((prs.take n).map fun p => (lessN x p.2 : Int)).sum
  | 0, _ => by simp [cellsUp]
  | n + 1, h => by
    have ih := cells_len prs x n (by omega)
    rw [cellsUp_succ, List.length_append, rc_eq, List.take_add_one, List.getElem?_eq_getElem (by omega), List.map_append, List.map_append, List.sum_append, List.sum_append, row_at (by omega)]
    have := less_eq_most x prs[n].2
    simp only [Option.toList, List.map_cons, List.map_nil, List.sum_cons, List.sum_nil, Int.natCast_add]
    omega
def lowR (prs : Prs) (x : Int) : List Int := prs.map fun p => (lessN x p.2 : Int)
def highR (prs : Prs) (x : Int) : List Int := prs.map fun p => (mostN x p.2 : Int)
theorem cells_sum (prs : Prs) (x : Int) : ((cellsUp prs x prs.length).length : Int) = (highR prs x).sum - (lowR prs x).sum := by
  have := cells_len prs x prs.length (Nat.le_refl _)
  rw [List.take_length] at this
  exact this
open PySem L2 PyProof.Rows
open PySem L2 PyProof.Rows
theorem sorted_unique {α : Type} {lt : α → α → Bool} (tot : ∀ a b, lt a b = false → lt b a = false → a = b) : ∀ {xs ys : List α}, xs.Perm ys → xs.Pairwise (fun r q => lt q r = false) → ys.Pairwise (fun r q => lt q r = false) → xs = ys
  | [], ys, h, _, _ => (List.nil_perm.mp h).symm
  | a :: xs, [], h, _, _ => by have := h.length_eq; simp at this
  | a :: xs, b :: ys, h, h1, h2 => by
    rw [List.pairwise_cons] at h1 h2
    have e : a = b := by
      have ha : a ∈ b :: ys := h.subset (by simp)
      have hb : b ∈ a :: xs := h.symm.subset (by simp)
      rcases List.mem_cons.mp ha with z | z
      · exact z
      · rcases List.mem_cons.mp hb with y | y
        · exact y.symm
        · exact tot a b (h2.1 a z) (h1.1 b y)
    subst e
    rw [sorted_unique tot (List.perm_cons a |>.mp h) h1.2 h2.2]
theorem perm_less {xs ys : List Int} (x : Int) (h : xs.Perm ys) : lessN x xs = lessN x ys := (h.filter _).length_eq
theorem perm_most {xs ys : List Int} (x : Int) (h : xs.Perm ys) : mostN x xs = mostN x ys := (h.filter _).length_eq
theorem kth_less {ns : List Int} (h : ns.Pairwise (· ≤ ·)) {k : Nat} (hk : k < ns.length) : lessN (ns.getD k 0) ns ≤ k := by
  have e : ns = ns.take k ++ ns.drop k := (List.take_append_drop k ns).symm
  have hd : (ns.drop k).filter (fun n => decide (n < ns.getD k 0)) = [] := by
    rw [List.filter_eq_nil_iff]
    intro a ha
    obtain ⟨i, hi, rfl⟩ := List.getElem_of_mem ha
    rw [List.length_drop] at hi
    rw [List.getElem_drop, List.getD_eq_getElem?_getD, List.getElem?_eq_getElem hk, Option.getD_some, decide_eq_true_eq]
    by_cases z : i = 0
    · subst z
      simp
    · have := List.pairwise_iff_getElem.mp h k (k + i) hk (by omega) (by omega)
      omega
  have e2 : lessN (ns.getD k 0) ns = ((ns.take k ++ ns.drop k).filter fun n => decide (n < ns.getD k 0)).length := by
    rw [List.take_append_drop]
    rfl
  rw [e2, List.filter_append, hd, List.append_nil]
  refine Nat.le_trans (List.length_filter_le _ _) ?_
  rw [List.length_take]
  omega
theorem kth_most {ns : List Int} (h : ns.Pairwise (· ≤ ·)) {k : Nat} (hk : k < ns.length) : k < mostN (ns.getD k 0) ns := by
  have hd : (ns.take (k + 1)).filter (fun n => decide (n ≤ ns.getD k 0)) = ns.take (k + 1) := by
    rw [List.filter_eq_self]
    intro a ha
    obtain ⟨i, hi, rfl⟩ := List.getElem_of_mem ha
    rw [List.length_take] at hi
    rw [List.getElem_take, List.getD_eq_getElem?_getD, List.getElem?_eq_getElem hk, Option.getD_some, decide_eq_true_eq]
    by_cases z : i = k
    · subst z
      exact Int.le_refl _
    · exact List.pairwise_iff_getElem.mp h i k (by omega) hk (by omega)
  have e2 : mostN (ns.getD k 0) ns = ((ns.take (k + 1) ++ ns.drop (k + 1)).filter fun n => decide (n ≤ ns.getD k 0)).length := by
    rw [List.take_append_drop]
    rfl
  rw [e2, List.filter_append, hd, List.length_append, List.length_take]
  omega
def entR (i : Nat) (ns : List Int) (k : Nat) : List (List Int) := (List.range k).map fun j => [ns.getD j 0, (i : Int), (j : Int)]
def entsUp (prs : Prs) : Nat → List (List Int)
  | 0 => []
  | i + 1 => entsUp prs i ++ entR i (rowAt prs i) (rowAt prs i).length
theorem entR_succ (i : Nat) (ns : List Int) (k : Nat) : entR i ns (k + 1) = entR i ns k ++ [[ns.getD k 0, (i : Int), (k : Int)]] := by
  unfold entR
  rw [List.range_succ, List.map_append]
  rfl
theorem entR_len (i : Nat) (ns : List Int) (k : Nat) : (entR i ns k).length = k := by
  unfold entR
  rw [List.length_map, List.length_range]
theorem entsUp_mem {prs : Prs} {e : List Int} : ∀ {i : Nat}, e ∈ entsUp prs i → ∃ n r p : Int, e = [n, r, p]
  | 0, h => nomatch h
  | i + 1, h => by
    rcases List.mem_append.mp h with z | z
    · exact entsUp_mem z
    · obtain ⟨j, _, rfl⟩ := List.mem_map.mp z
      exact ⟨_, _, _, rfl⟩
def hdI (e : List Int) : Int := e.getD 0 0
theorem range_getD : ∀ ns : List Int, (List.range ns.length).map (fun j => ns.getD j 0) = ns := fun ns => by
  apply List.ext_getElem (by simp)
  intro i h1 h2
  simp [h2]
theorem entR_heads (i : Nat) (ns : List Int) : (entR i ns ns.length).map hdI = ns := by
  unfold entR
  rw [List.map_map]
  exact range_getD ns
theorem entsUp_heads (prs : Prs) : ∀ i, i ≤ prs.length → (entsUp prs i).map hdI = flatP (prs.take i)
  | 0, _ => by simp [entsUp, flatP]
  | i + 1, h => by
    have ih := entsUp_heads prs i (by omega)
    show (entsUp prs i ++ _).map hdI = _
    rw [List.map_append, ih, entR_heads]
    unfold flatP rowAt
    rw [List.take_add_one, List.getElem?_eq_getElem (by omega), List.map_append, List.flatten_append]
    simp
theorem entsUp_flat (prs : Prs) : (entsUp prs prs.length).map hdI = flatP prs := by
  rw [entsUp_heads prs _ (Nat.le_refl _), List.take_length]
theorem lex_heads {e f : List Int} (he : ∃ n r p : Int, e = [n, r, p]) (hf : ∃ n r p : Int, f = [n, r, p]) (h : HT.lexLt f e = false) : hdI e ≤ hdI f := by
  obtain ⟨n, r, p, rfl⟩ := he
  obtain ⟨m, r', p', rfl⟩ := hf
  rw [HT.lexLt_cons] at h
  show n ≤ m
  by_cases z : m = n
  · omega
  · rw [if_neg z] at h
    have := of_decide_eq_false h
    omega
structure Sorted (prs : Prs) (fs : List (List Int)) : Prop where
  pm : fs.Perm (entsUp prs prs.length)
  up : fs.Pairwise (fun r q => HT.lexLt q r = false)
theorem Sorted.heads {prs : Prs} {fs : List (List Int)} (h : Sorted prs fs) : (fs.map hdI).Perm (flatP prs) ∧ (fs.map hdI).Pairwise (· ≤ ·) := by
  refine ⟨?_, ?_⟩
  · rw [← entsUp_flat]
    exact h.pm.map hdI
  · rw [List.pairwise_map]
    refine List.Pairwise.imp_of_mem (fun {a b} ha hb z => ?_) h.up
    exact lex_heads (entsUp_mem (h.pm.subset ha)) (entsUp_mem (h.pm.subset hb)) z
theorem Sorted.same {prs : Prs} {fs gs : List (List Int)} (h : Sorted prs fs) (g : Sorted prs gs) : fs = gs := sorted_unique SrtT.lex_tot (h.pm.trans g.pm.symm) h.up g.up
theorem flatP_len {prs : Prs} {wide : Nat} (h : ∀ p ∈ prs, p.2.length = wide) : (flatP prs).length = prs.length * wide := by
  induction prs with
  | nil => simp [flatP]
  | cons p r ih =>
    rw [flatP_cons, List.length_append, h p (by simp), ih fun q hq => h q (by simp [hq]), List.length_cons, Nat.add_mul, Nat.one_mul, Nat.add_comm]
theorem Sorted.len {prs : Prs} {fs : List (List Int)} (s : Sorted prs fs) : fs.length = (flatP prs).length := by
  have := s.heads.1.length_eq
  rw [List.length_map] at this
  exact this
structure Kth (n : Int) (k : Nat) (ns : List Int) : Prop where
  mem : n ∈ ns
  lo : lessN n ns ≤ k
  hi : k < mostN n ns
theorem Sorted.kth {prs : Prs} {fs : List (List Int)} (s : Sorted prs fs) {k : Nat} (hk : k < (flatP prs).length) : Kth (hdI (fs.getD k [])) k (flatP prs) := by
  obtain ⟨h1, h2⟩ := s.heads
  have hl := s.len
  have e : (fs.map hdI).getD k 0 = hdI (fs.getD k []) := by
    rw [List.getD_eq_getElem?_getD, List.getD_eq_getElem?_getD, List.getElem?_map, List.getElem?_eq_getElem (by omega)]
    rfl
  have hk2 : k < (fs.map hdI).length := by rw [List.length_map]; omega
  refine ⟨?_, ?_, ?_⟩
  · refine h1.subset ?_
    rw [← e, List.getD_eq_getElem?_getD, List.getElem?_eq_getElem hk2]
    exact List.getElem_mem hk2
  · rw [← perm_less _ h1, ← e]
    exact kth_less h2 hk2
  · rw [← perm_most _ h1, ← e]
    exact kth_most h2 hk2
open PySem L2 PyProof.Rows
section
variable {P : Program} {w : World} {K : PySem.W.Frag} {mg : Str → Option Value} {base : Heap}
def spMany : Sp := fun vs H Q _ => ∃ (t : Addr) (prs : Prs), vs = [.ref t] ∧ Tab H t prs ∧ tabB prs = true ∧ Q (.int ((prs.length : Int) * (w0 prs : Int))) H
theorem sc_many : FnScope ["table"] ["table"] (defScope dMany) := ⟨rfl, rfl, rfl, by decide +kernel, rfl, by decide +kernel, by decide +kernel⟩
theorem ok_many (T : Blt mg) (D : DefAt K mg "how_many_cells" dMany ["table"]) : FnAt P w K mg base 1 "how_many_cells" ["table"] spMany := by
  refine FnAt.of D sc_many (fun vs H Q E h => ?_) (fun f cdv A outer s H vs Q E hr h => ?_)
  · obtain ⟨t, prs, rfl, _⟩ := h
    rfl
  · obtain ⟨t, prs, rfl, hT, hg, q⟩ := h
    obtain ⟨g, g1, g2, g3, g4⟩ := good_of hg
    obtain ⟨p0, hp0, hm0, hx0⟩ := head_at (prs := prs) g1
    refine ⟨_, pss_one (ps_ret (pe_op o_mul (pe_b call_len_seq T.len boot_len (pa_cons (pv 0) pa_nil)) (pe_b call_len_seq T.len boot_len (pa_cons (pe_ix ix_list (pv 0) pe_int (fun _ _ => rfl)) pa_nil)))), ?_⟩
    refine ⟨_, rfl, t, _, rfl, .inl hT.sq, _, rfl, t, _, 0, .ref p0.1, rfl, rfl, hT.sq, atI_nat (j := 0) (by rw [List.getElem?_map, hx0]; rfl), p0.1, _, rfl, .inl (hT.r p0 hm0).sq, _, _, rfl, rfl, .inl ⟨by omega, by rw [List.length_map]; omega⟩, ?_⟩
    rw [List.length_map, List.length_map, g.len p0 hm0]
    exact q
def spMerged : Sp := fun vs H Q _ => ∃ (t : Addr) (prs : Prs), vs = [.ref t] ∧ Tab H t prs ∧ tabB prs = true ∧
  ∀ L (es : Es) H', H L = none → Same H H' → H' L = some (.lst (es.map fun e => V.ref e.1)) → (∀ e ∈ es, EntAt H' e ∧ H e.1 = none) → Sorted prs (es.map (·.2)) → Q (.ref L) H'
theorem sc_merged : FnScope ["table", "entries", "row", "numbers"] ["table"] (defScope dMerged) := ⟨rfl, rfl, rfl, by decide +kernel, rfl, by decide +kernel, by decide +kernel⟩
set_option maxHeartbeats 16000000 in
theorem ok_merged (T : Blt mg) (hso : mg "sorted" = none) (D : DefAt K mg "merged" dMerged ["table"]) (G1 : FnAt P w K mg base 6 "need_table" ["thing"] spNeedTable) : FnAt P w K mg base 7 "merged" ["table"] spMerged := by
  refine FnAt.of D sc_merged (fun vs H Q E h => ?_) (fun f cdv A outer s H vs Q E hr h => ?_)
  · obtain ⟨t, prs, rfl, _⟩ := h
    rfl
  · obtain ⟨t, prs, rfl, hT, hg, q⟩ := h
    obtain ⟨g, g1, g2, g3, g4⟩ := good_of hg
    have hs := good_bounds hg
    have nd := sc_merged.nd
    have nd1 : (["place", "number", "row"] : List Str).Nodup := by decide +kernel
    refine ⟨_, pss_cons (ps_expr (pe_f G1 hr (pa_cons (pv 0) pa_nil)))
      (pss_cons (ps_set (i := 1) nd rfl (Or.inl rfl) (pe_lst pa_nil))
      (pss_cons (ps_for PassesOwn.never rfl (pi_enum rfl T.enum (pa_cons (pv 0) pa_nil)) (pg_tup rfl (pgs_cons (pg_name (i := 2) nd rfl (Or.inr rfl)) (pgs_cons (pg_name (i := 3) nd rfl (Or.inl rfl)) pgs_nil)))
        (pss_one (ps_expr (pe_bm PySem.F.plainAttrs_list PySem.F.slot_list_extend PySem.F.type_list_extend mt_extend (pv 1) (pa_cons
          (pe_comp ["place", "number", "row"] [none, none, some 2] (defScope dMerged) ["table", "entries", "row", "numbers"] rfl (pi_enum rfl T.enum (pa_cons (pv 3) pa_nil)) (by decide +kernel)
            (fun cl C s2 H2 ex => pg_c2 K rfl nd1) (fun cl C s2 H2 ex => pifs_nil) (fun cl C s2 H2 ex => pe_tup (pa_cons (pv 1) (pa_cons (pv 2) (pa_cons (pv 0) pa_nil))))) pa_nil)))))
      (pss_one (ps_ret (pe_b (call_sortedT hr.units) hso boot_sorted (pa_cons (pv 1) pa_nil)))))), ?_⟩
    refine ⟨_, rfl, t, prs, rfl, hT, hs, hg, fun H1 s1 => ⟨len0, fun L hL => ?_⟩⟩
    have L0 : H L = none := s1.free hL
    have s2 : Same H (upd H1 L (.lst [])) := s1.trans (Same.new hL)
    refine ⟨_, rfl, t, rfl, ⟨_, (hT.same s2).sq⟩, for_enum (K := K) (a := t) (xs := prs.map fun p => V.ref p.1) (fun i σ H2 => ∃ (cs : Es) (o2 o3 : Option V), σ = [some (.ref t), some (.ref L), o2, o3] ∧ Same H H2 ∧ H2 L = some (.lst (cs.map fun e => V.ref e.1)) ∧
      (∀ c ∈ cs, EntAt H2 c ∧ H c.1 = none) ∧ cs.map (·.2) = entsUp prs i ∧ cs.length ≤ 6 * i)
      ⟨[], none, none, rfl, s2, upd_same, fun c hc => (nomatch hc), rfl, by simp⟩ (fun i σ H2 _ ⟨_, _, _, _, sm, _⟩ => (hT.same sm).sq) ?_ ?_⟩
    · rintro i y σ H2 T1 hi ⟨cs, o2, o3, rfl, sm, hLl, hcs, hcm, hcl⟩ hT1
      have hil : i < prs.length := by
        have := (List.getElem?_eq_some_iff.mp hi).1
        rw [List.length_map] at this
        exact this
      obtain ⟨p, hp1, hp2, hp3⟩ := rowAt_mem hil
      rw [List.getElem?_map, hp2] at hi
      have hy : V.ref p.1 = y := Option.some.inj hi
      subst hy
      have hpl := g.len p hp1
      have smT : Same H2 (upd H2 T1 (.tup [.int (i : Nat), .ref p.1])) := Same.new hT1
      have eT : (upd H2 T1 (.tup [.int (i : Nat), .ref p.1])) T1 = some (.tup [.int (i : Nat), .ref p.1]) := upd_same
      generalize upd H2 T1 (.tup [.int (i : Nat), .ref p.1]) = H3 at smT eT ⊢
      refine ⟨T1, _, rfl, SqT.of eT, rfl, _, _, rfl, _, _, rfl, rfl, ?_⟩
      have sm3 := sm.trans smT
      have hR3 := (hT.same sm3).r p hp1
      have hL3 := smT _ _ hLl
      refine ⟨_, rfl, .inl ⟨rfl, _, SqL.of hL3⟩, _, rfl, p.1, rfl, ⟨_, hR3.sq⟩, ?_⟩
      refine compE_run (xs := p.2.map V.int) (fun D2 k ys H' => ∃ qs : Es, Same H3 H' ∧ H' D2 = some (.lst ys) ∧ ys = (qs.map fun e => V.ref e.1) ∧ (∀ c ∈ qs, EntAt H' c ∧ H3 c.1 = none ∧ c.1 ≠ D2) ∧ qs.map (·.2) = entR i p.2 k)
        (fun D2 hD2 => ⟨[], Same.new hD2, upd_same, rfl, fun c hc => (nomatch hc), rfl⟩) (fun D2 k ys H' _ _ ⟨_, sm', e, _⟩ => ⟨e, (hR3.same sm').sq⟩) ?_ ?_
      · rintro D2 k z ys H' T2 hD2 hz ⟨qs, sm', eD, hys, hqs, hqm⟩ hT2
        have hkl : k < p.2.length := by
          have := (List.getElem?_eq_some_iff.mp hz).1
          rw [List.length_map] at this
          exact this
        have ez : z = .int (p.2.getD k 0) := by
          rw [List.getElem?_map, List.getElem?_eq_getElem hkl] at hz
          rw [List.getD_eq_getElem?_getD, List.getElem?_eq_getElem hkl]
          exact (Option.some.inj hz).symm
        subst ez
        have smT2 : Same H' (upd H' T2 (.tup [.int (k : Nat), .int (p.2.getD k 0)])) := Same.new hT2
        generalize upd H' T2 (.tup [.int (k : Nat), .int (p.2.getD k 0)]) = H4 at smT2 ⊢
        have ql : qs.length = k := by
          have := congrArg List.length hqm
          rw [List.length_map, entR_len] at this
          exact this
        unfold tTrue
        refine iteT ⟨_, rfl, _, rfl, _, rfl, len3, fun T3 hT3 => ?_⟩
        have nT3 : D2 ≠ T3 := ne_of_none (smT2 _ _ eD) hT3
        have s3T : Same H4 (upd H4 T3 (.tup [.int (p.2.getD k 0), .int (i : Nat), .int (k : Nat)])) := Same.new hT3
        refine ⟨s3T _ _ (smT2 _ _ eD), ?_, qs ++ [(T3, [p.2.getD k 0, (i : Int), (k : Int)])], ((sm'.trans smT2).trans s3T).upd hD2, upd_same, ?_, fun c hc => ?_, ?_⟩
        · rw [hys, List.length_map]
          exact small1000 (by omega)
        · rw [hys, List.map_append]
          rfl
        · rcases List.mem_append.mp hc with z | z
          · obtain ⟨z1, z2, z3⟩ := hqs c z
            refine ⟨?_, z2, z3⟩
            unfold EntAt
            rw [upd_ne z3]
            exact s3T _ _ (smT2 _ _ z1)
          · have : c = (T3, [p.2.getD k 0, (i : Int), (k : Int)]) := by simpa using z
            subst this
            refine ⟨?_, (sm'.trans smT2).free hT3, Ne.symm nT3⟩
            unfold EntAt
            rw [upd_ne (Ne.symm nT3)]
            exact upd_same
        · rw [List.map_append, hqm, entR_succ]
          rfl
      · rintro D2 ys H' hD2 ⟨qs, sm', eD, hys, hqs, hqm⟩
        rw [List.length_map] at hqm
        have ql : qs.length = p.2.length := by
          have := congrArg List.length hqm
          rw [List.length_map, entR_len] at this
          exact this
        have hL4 := sm' _ _ hL3
        refine ⟨L, D2, _, _, rfl, rfl, hL4, eD, ?_, ?_⟩
        · rw [List.length_map, hys, List.length_map]
          exact sl6 (by omega)
        · refine ⟨cs ++ qs, _, _, rfl, (sm3.trans sm').upd L0, ?_, fun c hc => ?_, ?_, ?_⟩
          · rw [upd_same, hys, List.map_append]
          · have nL : ∀ c : Addr × List Int, EntAt H' c → c.1 ≠ L := fun c h => ne_of h hL4 (by intro z; cases z)
            rcases List.mem_append.mp hc with z | z
            · obtain ⟨z1, z2⟩ := hcs c z
              have z3 : EntAt H' c := sm' _ _ (smT _ _ z1)
              refine ⟨?_, z2⟩
              unfold EntAt
              rw [upd_ne (nL c z3)]
              exact z3
            · obtain ⟨z1, z2, z3⟩ := hqs c z
              refine ⟨?_, sm3.free z2⟩
              unfold EntAt
              rw [upd_ne (nL c z1)]
              exact z1
          · rw [List.map_append, hcm, hqm]
            show _ = entsUp prs i ++ _
            rw [hp3]
          · rw [List.length_append]
            omega
    · rintro σ H2 ⟨cs, o2, o3, rfl, sm, hLl, hcs, hcm, hcl⟩
      rw [List.length_map] at hcm hcl
      refine ⟨_, rfl, L, cs, rfl, SqL.of hLl, by omega, fun c hc => ⟨SqT.of (hcs c hc).1, ?_⟩, fun D rs' hD hpm hup => ?_⟩
      · have : c.2 ∈ entsUp prs prs.length := by
          rw [← hcm]
          exact List.mem_map.mpr ⟨c, hc, rfl⟩
        obtain ⟨n, r, p, e⟩ := entsUp_mem this
        rw [e]
        exact Nat.succ_pos _
      · refine q D rs' _ (sm.free hD) (sm.trans (Same.new hD)) upd_same (fun e he => ?_) ⟨?_, ?_⟩
        · obtain ⟨z1, z2⟩ := hcs e (hpm.subset he)
          exact ⟨(Same.new hD) _ _ z1, z2⟩
        · rw [← hcm]
          exact hpm.map _
        · rw [List.pairwise_map]
          exact hup
def spNeedPlace : Sp := fun vs H Q _ => ∃ (t : Addr) (prs : Prs) (k : Nat), vs = [.ref t, .int (k : Nat)] ∧ Tab H t prs ∧ tabB prs = true ∧ k < prs.length * w0 prs ∧ Q .non H
theorem sc_needPlace : FnScope ["table", "thing"] ["table", "thing"] (defScope dNeedPlace) := ⟨rfl, rfl, rfl, by decide +kernel, rfl, by decide +kernel, by decide +kernel⟩
theorem ok_needPlace (D : DefAt K mg "need_place" dNeedPlace ["table", "thing"]) (G1 : FnAt P w K mg base 1 "is_whole" ["thing"] spIsWhole) (G2 : FnAt P w K mg base 1 "how_many_cells" ["table"] spMany) : FnAt P w K mg base 2 "need_place" ["table", "thing"] spNeedPlace := by
  refine FnAt.of D sc_needPlace (fun vs H Q E h => ?_) (fun f cdv A outer s H vs Q E hr h => ?_)
  · obtain ⟨t, prs, k, rfl, _⟩ := h
    rfl
  · obtain ⟨t, prs, k, rfl, hT, hg, hk, q⟩ := h
    refine ⟨_, pss_one (ps_if (PW.pt (pw_or (pt_not (pt_val (pe_f G1 hr (pa_cons (pv 1) pa_nil)))) (pw_or1 (pt_not (pt_chain o_le o_lt pe_int (pv 1) (pe_f G2 hr (pa_cons (pv 0) pa_nil))))))) pss_never pss_nil), ?_⟩
    refine ⟨_, rfl, _, rfl, _, rfl, iteF ⟨_, rfl, _, _, rfl, rfl, _, rfl, ?_⟩⟩
    rw [decide_eq_true (show (0 : Int) ≤ (k : Nat) by omega)]
    refine iteT ⟨_, rfl, t, prs, rfl, hT, hg, _, _, rfl, rfl, _, rfl, ?_⟩
    rw [decide_eq_true (show ((k : Nat) : Int) < (prs.length : Int) * (w0 prs : Int) by rw [← Int.natCast_mul]; omega)]
    exact iteF q
def spNumberBy : Sp := fun vs H Q _ => ∃ (t : Addr) (prs : Prs) (k : Nat), vs = [.ref t, .int (k : Nat)] ∧ Tab H t prs ∧ tabB prs = true ∧ k < prs.length * w0 prs ∧ ∀ fs H', Same H H' → Sorted prs fs → Q (.int (hdI (fs.getD k []))) H'
theorem sc_numberBy : FnScope ["table", "k"] ["table", "k"] (defScope dNumberBy) := ⟨rfl, rfl, rfl, by decide +kernel, rfl, by decide +kernel, by decide +kernel⟩
theorem ok_numberBy (D : DefAt K mg "number_by" dNumberBy ["table", "k"]) (G1 : FnAt P w K mg base 6 "need_table" ["thing"] spNeedTable) (G2 : FnAt P w K mg base 2 "need_place" ["table", "thing"] spNeedPlace) (G3 : FnAt P w K mg base 7 "merged" ["table"] spMerged) : FnAt P w K mg base 8 "number_by" ["table", "k"] spNumberBy := by
  refine FnAt.of D sc_numberBy (fun vs H Q E h => ?_) (fun f cdv A outer s H vs Q E hr h => ?_)
  · obtain ⟨t, prs, k, rfl, _⟩ := h
    rfl
  · obtain ⟨t, prs, k, rfl, hT, hg, hk, q⟩ := h
    obtain ⟨g, g1, g2, g3, g4⟩ := good_of hg
    refine ⟨_, pss_cons (ps_expr (pe_f G1 (hr.mono (by decide)) (pa_cons (pv 0) pa_nil))) (pss_cons (ps_expr (pe_f G2 (hr.mono (by decide)) (pa_cons (pv 0) (pa_cons (pv 1) pa_nil))))
      (pss_one (ps_ret (pe_ix ix_tup (pe_ix ix_list (pe_f G3 hr (pa_cons (pv 0) pa_nil)) (pv 1) (fun _ _ => rfl)) pe_int (fun _ _ => rfl))))), ?_⟩
    refine ⟨_, rfl, t, prs, rfl, hT, good_bounds hg, hg, fun H1 s1 => ⟨_, rfl, _, rfl, t, prs, k, rfl, hT.same s1, hg, hk, ?_⟩⟩
    refine ⟨_, rfl, t, prs, rfl, hT.same s1, hg, fun L es H2 hL s2 hLl hes hso => ?_⟩
    have hl : es.length = prs.length * w0 prs := by
      have := hso.len
      rw [List.length_map, flatP_len g.len] at this
      exact this
    have hk2 : k < es.length := by omega
    have he := (hes es[k] (List.getElem_mem hk2)).1
    obtain ⟨n, r, p, e3⟩ : ∃ n r p : Int, es[k].2 = [n, r, p] := entsUp_mem (hso.pm.subset (List.mem_map.mpr ⟨es[k], List.getElem_mem hk2, rfl⟩))
    unfold EntAt at he
    rw [e3] at he
    refine ⟨_, rfl, L, _, _, .ref es[k].1, rfl, rfl, SqL.of hLl, atI_nat (by simp [hk2]), es[k].1, _, 0, .int n, rfl, rfl, SqT.of he, rfl, ?_⟩
    have := q (es.map (·.2)) H2 (s1.trans s2) hso
    have e4 : hdI ((es.map (·.2)).getD k []) = n := by
      rw [List.getD_eq_getElem?_getD, List.getElem?_map, List.getElem?_eq_getElem hk2]
      show hdI es[k].2 = n
      rw [e3]
      rfl
    rw [e4] at this
    exact this
end
open PySem L2 PyProof.Rows
section
variable {P : Program} {w : World} {K : PySem.W.Frag} {mg : Str → Option Value} {base : Heap}
def spCount (f : Int → List Int → Nat) : Sp := fun vs H Q _ => ∃ (t : Addr) (prs : Prs) (x : Int), vs = [.ref t, .int x] ∧ Tab H t prs ∧ tabB prs = true ∧ ∀ H', Same H H' → Q (.int (f x (flatP prs) : Nat)) H'
theorem sc_cless : FnScope ["table", "x"] ["table", "x"] (defScope dCless) := ⟨rfl, rfl, rfl, by decide +kernel, rfl, by decide +kernel, by decide +kernel⟩
theorem ok_cless (hs : mg "sum" = none) (D : DefAt K mg "count_less" dCless ["table", "x"]) (G : FnAt P w K mg base 7 "stair_of" ["table", "x"] (spStair lessN)) : FnAt P w K mg base 8 "count_less" ["table", "x"] (spCount lessN) := by
  refine FnAt.of D sc_cless (fun vs H Q E h => ?_) (fun f cdv A outer s H vs Q E hr h => ?_)
  · obtain ⟨t, prs, x, rfl, _⟩ := h
    rfl
  · obtain ⟨t, prs, x, rfl, hT, hg, q⟩ := h
    refine ⟨_, pss_one (ps_ret (pe_b (call_sum rfl) hs boot_sum (pa_cons (pe_f G hr (pa_cons (pv 0) (pa_cons (pv 1) pa_nil))) pa_nil))), ?_⟩
    refine ⟨_, rfl, _, rfl, t, prs, x, rfl, hT, good_bounds hg, hg, fun D H' hD sm hR => ⟨D, _, rfl, hR.sq, ?_⟩⟩
    rw [less_flat]
    exact q H' sm
theorem sc_cmost : FnScope ["table", "x"] ["table", "x"] (defScope dCmost) := ⟨rfl, rfl, rfl, by decide +kernel, rfl, by decide +kernel, by decide +kernel⟩
theorem ok_cmost (hs : mg "sum" = none) (D : DefAt K mg "count_most" dCmost ["table", "x"]) (G : FnAt P w K mg base 7 "high_stair" ["table", "x"] (spStair mostN)) : FnAt P w K mg base 8 "count_most" ["table", "x"] (spCount mostN) := by
  refine FnAt.of D sc_cmost (fun vs H Q E h => ?_) (fun f cdv A outer s H vs Q E hr h => ?_)
  · obtain ⟨t, prs, x, rfl, _⟩ := h
    rfl
  · obtain ⟨t, prs, x, rfl, hT, hg, q⟩ := h
    refine ⟨_, pss_one (ps_ret (pe_b (call_sum rfl) hs boot_sum (pa_cons (pe_f G hr (pa_cons (pv 0) (pa_cons (pv 1) pa_nil))) pa_nil))), ?_⟩
    refine ⟨_, rfl, _, rfl, t, prs, x, rfl, hT, good_bounds hg, hg, fun D H' hD sm hR => ⟨D, _, rfl, hR.sq, ?_⟩⟩
    rw [most_flat]
    exact q H' sm
def spCountFrom : Sp := fun vs H Q _ => ∃ (t : Addr) (prs : Prs) (a b : Int), vs = [.ref t, .int a, .int b] ∧ Tab H t prs ∧ tabB prs = true ∧ ∀ H', Same H H' → Q (.int (amidN a b (flatP prs) : Nat)) H'
theorem sc_cfrom : FnScope ["table", "a", "b"] ["table", "a", "b"] (defScope dCfrom) := ⟨rfl, rfl, rfl, by decide +kernel, rfl, by decide +kernel, by decide +kernel⟩
theorem ok_cfrom (T : Blt mg) (D : DefAt K mg "count_from" dCfrom ["table", "a", "b"]) (G1 : FnAt P w K mg base 8 "count_less" ["table", "x"] (spCount lessN)) (G2 : FnAt P w K mg base 8 "count_most" ["table", "x"] (spCount mostN)) : FnAt P w K mg base 9 "count_from" ["table", "a", "b"] spCountFrom := by
  refine FnAt.of D sc_cfrom (fun vs H Q E h => ?_) (fun f cdv A outer s H vs Q E hr h => ?_)
  · obtain ⟨t, prs, a, b, rfl, _⟩ := h
    rfl
  · obtain ⟨t, prs, a, b, rfl, hT, hg, q⟩ := h
    refine ⟨_, pss_one (ps_ret (pe_b (call_max2 rfl) T.max boot_max (pa_cons pe_int (pa_cons (pe_op o_sub (pe_f G2 hr (pa_cons (pv 0) (pa_cons (pv 2) pa_nil))) (pe_f G1 hr (pa_cons (pv 0) (pa_cons (pv 1) pa_nil)))) pa_nil)))), ?_⟩
    refine ⟨_, rfl, _, rfl, t, prs, b, rfl, hT, hg, fun H1 s1 => ⟨_, rfl, _, rfl, t, prs, a, rfl, hT.same s1, hg, fun H2 s2 => ⟨_, _, rfl, rfl, _, _, rfl, ?_⟩⟩⟩
    rw [amid_max]
    exact q H2 (s1.trans s2)
end
open PySem L2 PyProof.Rows
section
variable {P : Program} {w : World} {K : PySem.W.Frag} {mg : Str → Option Value} {base : Heap}
def spMiddle : Sp := fun vs H Q _ => ∃ (t : Addr) (prs : Prs), vs = [.ref t] ∧ Tab H t prs ∧ tabB prs = true ∧ ∀ fs H', Same H H' → Sorted prs fs → Q (.int (hdI (fs.getD ((prs.length * w0 prs - 1) / 2) []))) H'
theorem sc_middle : FnScope ["table"] ["table"] (defScope dMiddle) := ⟨rfl, rfl, rfl, by decide +kernel, rfl, by decide +kernel, by decide +kernel⟩
theorem ok_middle (D : DefAt K mg "middle" dMiddle ["table"]) (G1 : FnAt P w K mg base 6 "need_table" ["thing"] spNeedTable) (G2 : FnAt P w K mg base 8 "number_by" ["table", "k"] spNumberBy) (G3 : FnAt P w K mg base 1 "how_many_cells" ["table"] spMany) : FnAt P w K mg base 9 "middle" ["table"] spMiddle := by
  refine FnAt.of D sc_middle (fun vs H Q E h => ?_) (fun f cdv A outer s H vs Q E hr h => ?_)
  · obtain ⟨t, prs, rfl, _⟩ := h
    rfl
  · obtain ⟨t, prs, rfl, hT, hg, q⟩ := h
    obtain ⟨g, g1, g2, g3, g4⟩ := good_of hg
    have hm : 1 * 1 ≤ prs.length * w0 prs := Nat.mul_le_mul g1 g3
    refine ⟨_, pss_cons (ps_expr (pe_f G1 (hr.mono (by decide)) (pa_cons (pv 0) pa_nil)))
      (pss_one (ps_ret (pe_f G2 hr (pa_cons (pv 0) (pa_cons (pe_op o_div (pe_op o_sub (pe_f G3 (hr.mono (by decide)) (pa_cons (pv 0) pa_nil)) pe_int) pe_int) pa_nil))))), ?_⟩
    refine ⟨_, rfl, t, prs, rfl, hT, good_bounds hg, hg, fun H1 s1 => ⟨_, rfl, _, rfl, t, prs, rfl, hT.same s1, hg, _, _, rfl, rfl, _, _, rfl, rfl, ⟨by decide, by decide⟩, t, prs, (prs.length * w0 prs - 1) / 2, ?_, hT.same s1, hg, by omega, fun fs H' s' hso => q fs H' (s1.trans s') hso⟩⟩
    have e : ((prs.length : Int) * (w0 prs : Int) - 1) / 2 = (((prs.length * w0 prs - 1) / 2 : Nat) : Int) := by
      rw [← Int.natCast_mul]
      omega
    rw [e]
end
open PySem L2 PyProof.Rows
def ck (k : Nat × Nat) : List Int := [(k.1 : Int), (k.2 : Int)]
theorem cells_rd {K : PySem.W.Frag} {H : Hp} {L : Addr} {cs : Cs} (hL : H L = some (.lst (cs.map cellV))) (h : ∀ c ∈ cs, CellAt H c) : RdD K H (.ref L) (dEnts ((cs.map (·.2)).map ck)) := by
  have e := ents_rd (K := K) (H := H) (L := L) (es := cs.map fun c => (c.1, ck c.2)) (by rw [hL, List.map_map]; rfl) (fun e he => by
    obtain ⟨c, hc, rfl⟩ := List.mem_map.mp he
    exact h c hc)
  rw [List.map_map] at e ⊢
  exact e
open PySem L2 PyProof.Rows
def cLt (a b : Nat × Nat) : Prop := a.1 < b.1 ∨ (a.1 = b.1 ∧ a.2 < b.2)
theorem cells_up (prs : Prs) (x : Int) (n : Nat) : (cellsUp prs x n).Pairwise cLt := by
  unfold cellsUp
  rw [List.pairwise_flatMap]
  constructor
  · intro i _
    unfold rc
    rw [List.pairwise_map]
    exact (List.pairwise_lt_range.filter _).imp fun h => .inr ⟨rfl, h⟩
  · refine List.pairwise_lt_range.imp fun h a ha b hb => ?_
    unfold rc at ha hb
    obtain ⟨j, _, rfl⟩ := List.mem_map.mp ha
    obtain ⟨k, _, rfl⟩ := List.mem_map.mp hb
    exact .inl h
theorem cLt_lex {a b : Nat × Nat} (h : cLt a b) : HT.lexLt (ck b) (ck a) = false := by
  unfold ck
  rw [HT.lexLt_cons, HT.lexLt_cons, HT.lexLt_nil_nil]
  rcases h with h | ⟨h1, h2⟩
  · rw [if_neg (by omega)]
    exact decide_eq_false (by omega)
  · rw [if_pos (by omega), if_neg (by omega)]
    exact decide_eq_false (by omega)
theorem over_row {prs prs' : Prs} (h : prs'.map (·.2) = overR prs) {j : Nat} (hj : j < w0 prs) : rowAt prs' j = col prs j := by
  have e : (prs'.map (·.2))[j]? = (overR prs)[j]? := by rw [h]
  unfold overR at e
  rw [List.getElem?_map, List.getElem?_map, List.getElem?_range hj] at e
  unfold rowAt
  rw [e]
  rfl
theorem over_val {prs prs' : Prs} (h : prs'.map (·.2) = overR prs) {i j : Nat} (hj : j < w0 prs) (hi : i < prs.length) : (rowAt prs' j).getD i 0 = (rowAt prs i).getD j 0 := by
  rw [over_row h hj, col_at hi]
theorem wid_at {prs : Prs} (hg : tabB prs = true) {i : Nat} (hi : i < prs.length) : (rowAt prs i).length = w0 prs := by
  rw [row_at hi]
  exact (good_of hg).1.len _ (List.getElem_mem hi)
theorem fm_app (A : Nat → List Int) (b : Nat → Int) : ∀ l : List Nat, (l.flatMap fun j => A j ++ [b j]).Perm (l.flatMap A ++ l.map b)
  | [] => by simp
  | a :: l => by
    have ih := fm_app A b l
    rw [List.flatMap_cons, List.flatMap_cons, List.map_cons]
    refine (List.Perm.append_left _ ih).trans ?_
    rw [List.append_assoc, List.append_assoc]
    exact List.Perm.append_left _ (List.perm_middle (l₁ := l.flatMap A) (a := b a) (l₂ := l.map b)).symm
theorem trans_perm (f : Nat → Nat → Int) (w : Nat) : ∀ r : Nat, ((List.range w).flatMap fun j => (List.range r).map fun i => f i j).Perm ((List.range r).flatMap fun i => (List.range w).map fun j => f i j)
  | 0 => by simp
  | r + 1 => by
    have ih := trans_perm f w r
    rw [List.range_succ, List.flatMap_append, List.flatMap_singleton]
    have e : ((List.range w).flatMap fun j => (List.range r ++ [r]).map fun i => f i j) = (List.range w).flatMap fun j => ((List.range r).map fun i => f i j) ++ [f r j] := by
      congr 1
      funext j
      rw [List.map_append]
      rfl
    rw [e]
    exact (fm_app (fun j => (List.range r).map fun i => f i j) (f r) (List.range w)).trans (List.Perm.append_right _ ih)
theorem flat_vals {prs : Prs} (hg : tabB prs = true) : flatP prs = (List.range prs.length).flatMap fun i => (List.range (w0 prs)).map fun j => (rowAt prs i).getD j 0 := by
  unfold flatP
  rw [List.flatMap_def]
  congr 1
  refine List.ext_getElem (by simp) fun i h1 h2 => ?_
  have hi : i < prs.length := by simpa using h1
  rw [List.getElem_map, List.getElem_map, List.getElem_range, ← row_at hi]
  have := wid_at hg hi
  rw [← this, range_getD]
theorem over_flat {prs prs' : Prs} (hg : tabB prs = true) (h : prs'.map (·.2) = overR prs) : (flatP prs').Perm (flatP prs) := by
  obtain ⟨g1, l1, w1⟩ := over_good hg h
  rw [flat_vals hg, flat_vals g1, l1, w1]
  have e : ((List.range (w0 prs)).flatMap fun i => (List.range prs.length).map fun j => (rowAt prs' i).getD j 0) = (List.range (w0 prs)).flatMap fun j => (List.range prs.length).map fun i => (rowAt prs i).getD j 0 := by
    rw [List.flatMap_def, List.flatMap_def]
    congr 1
    refine List.map_congr_left fun j hj => List.map_congr_left fun i hi => ?_
    exact over_val h (List.mem_range.mp hj) (List.mem_range.mp hi)
  rw [e]
  exact trans_perm (fun i j => (rowAt prs i).getD j 0) (w0 prs) prs.length
theorem negR_append (a b : List Int) : negR (a ++ b) = negR b ++ negR a := by
  unfold negR
  rw [List.reverse_append, List.map_append]
theorem neg_flat : ∀ rows : List (List Int), ((rows.reverse).map negR).flatten = negR rows.flatten
  | [] => rfl
  | r :: rows => by
    rw [List.reverse_cons, List.map_append, List.flatten_append, neg_flat rows, List.flatten_cons, negR_append]
    simp
theorem about_flat {prs prs' : Prs} (h : prs'.map (·.2) = aboutR prs) : flatP prs' = negR (flatP prs) := by
  unfold flatP
  rw [h]
  unfold aboutR
  exact neg_flat _
theorem heads_over {prs prs' : Prs} {fs fs' : List (List Int)} (hg : tabB prs = true) (h : prs'.map (·.2) = overR prs) (s : Sorted prs fs) (s' : Sorted prs' fs') : fs'.map hdI = fs.map hdI :=
  List.Perm.eq_of_pairwise (fun a b _ _ h1 h2 => by omega) s'.heads.2 s.heads.2 (s'.heads.1.trans ((over_flat hg h).trans s.heads.1.symm))
theorem neg_up {ns : List Int} (h : ns.Pairwise (· ≤ ·)) : (negR ns).Pairwise (· ≤ ·) := by
  unfold negR
  rw [List.pairwise_map, List.pairwise_reverse]
  exact h.imp fun z => by omega
theorem heads_about {prs prs' : Prs} {fs fs' : List (List Int)} (h : prs'.map (·.2) = aboutR prs) (s : Sorted prs fs) (s' : Sorted prs' fs') : fs'.map hdI = negR (fs.map hdI) := by
  refine List.Perm.eq_of_pairwise (fun a b _ _ h1 h2 => by omega) s'.heads.2 (neg_up s.heads.2) (s'.heads.1.trans ?_)
  rw [about_flat h]
  unfold negR
  exact List.Perm.map _ ((List.reverse_perm _).trans (s.heads.1.symm.trans (List.reverse_perm _).symm))
theorem hd_at (fs : List (List Int)) (k : Nat) : hdI (fs.getD k []) = (fs.map hdI).getD k 0 := by
  rw [List.getD_eq_getElem?_getD, List.getD_eq_getElem?_getD, List.getElem?_map]
  cases fs[k]? <;> rfl
theorem sorted_len {prs : Prs} {fs : List (List Int)} (hg : tabB prs = true) (s : Sorted prs fs) : fs.length = prs.length * w0 prs := by
  rw [s.len, flatP_len (good_of hg).1.len]
end Seek
namespace L2
open PySem PySem.Spec PyProof.Rows
theorem slTK {X : Cx} (K : PySem.W.Frag) (hK : X.K = K := by rfl) : SlR X (rSlT K) := by subst hK; exact sl_tup
end L2
namespace Seek
open PySem L2 PyProof.Rows
theorem mem_ents {prs : Prs} : ∀ {n : Nat} {e : List Int}, e ∈ entsUp prs n → ∃ i j : Nat, i < n ∧ j < (rowAt prs i).length ∧ e = [(rowAt prs i).getD j 0, (i : Int), (j : Int)]
  | 0, _, h => nomatch h
  | n + 1, e, h => by
    rcases List.mem_append.mp h with z | z
    · obtain ⟨i, j, h1, h2, h3⟩ := mem_ents z
      exact ⟨i, j, by omega, h2, h3⟩
    · obtain ⟨j, hj, rfl⟩ := List.mem_map.mp z
      exact ⟨n, j, by omega, List.mem_range.mp hj, rfl⟩
theorem sorted_ent {prs : Prs} {fs : List (List Int)} (hg : tabB prs = true) (s : Sorted prs fs) {e : List Int} (h : e ∈ fs) : ∃ i j : Nat, i < prs.length ∧ j < w0 prs ∧ e = [(rowAt prs i).getD j 0, (i : Int), (j : Int)] := by
  obtain ⟨i, j, h1, h2, h3⟩ := mem_ents (s.pm.mem_iff.mp h)
  rw [wid_at hg h1] at h2
  exact ⟨i, j, h1, h2, h3⟩
def cellE (e : List Int) : Nat × Nat := ((e.getD 1 0).toNat, (e.getD 2 0).toNat)
theorem cells_nd (prs : Prs) : ∀ n, ((entsUp prs n).map cellE).Nodup ∧ ∀ c ∈ (entsUp prs n).map cellE, c.1 < n
  | 0 => ⟨.nil, fun c h => nomatch h⟩
  | n + 1 => by
    obtain ⟨h1, h2⟩ := cells_nd prs n
    have e : (entR n (rowAt prs n) (rowAt prs n).length).map cellE = (List.range (rowAt prs n).length).map fun j => (n, j) := by
      unfold entR
      rw [List.map_map]
      refine List.map_congr_left fun j _ => ?_
      show (((n : Int)).toNat, ((j : Int)).toNat) = (n, j)
      rw [Int.toNat_natCast, Int.toNat_natCast]
    have hm : ∀ c ∈ (entR n (rowAt prs n) (rowAt prs n).length).map cellE, c.1 = n := fun c hc => by
      rw [e] at hc
      obtain ⟨j, _, rfl⟩ := List.mem_map.mp hc
      rfl
    show ((entsUp prs n ++ _).map cellE).Nodup ∧ ∀ c ∈ (entsUp prs n ++ _).map cellE, c.1 < n + 1
    rw [List.map_append]
    refine ⟨List.nodup_append.mpr ⟨h1, ?_, fun a ha b hb z => ?_⟩, fun c hc => ?_⟩
    · rw [e]
      unfold List.Nodup
      rw [List.pairwise_map]
      exact List.pairwise_lt_range.imp fun {a b} h z => by
        injection z with _ z
        omega
    · have := h2 a ha
      have := hm b hb
      rw [z] at *
      omega
    · rcases List.mem_append.mp hc with z | z
      · have := h2 c z
        omega
      · rw [hm c z]
        omega
theorem Sorted.cells {prs : Prs} {fs : List (List Int)} (s : Sorted prs fs) : (fs.map cellE).Nodup := (s.pm.map cellE).nodup_iff.mpr (cells_nd prs prs.length).1
theorem ents_of (prs : Prs) (x : Int) : ∀ n, ((entsUp prs n).filter fun e => decide (hdI e = x)).map (fun e => e.drop 1) = (cellsUp prs x n).map ck
  | 0 => rfl
  | n + 1 => by
    show ((entsUp prs n ++ _).filter _).map _ = _
    rw [List.filter_append, List.map_append, ents_of prs x n, cellsUp_succ, List.map_append]
    congr 1
    unfold entR rc
    rw [List.map_map]
    rw [show ((List.range (rowAt prs n).length).map fun j => [(rowAt prs n).getD j 0, (n : Int), (j : Int)]).filter (fun e => decide (hdI e = x)) = ((List.range (rowAt prs n).length).filter fun j => decide ((rowAt prs n).getD j 0 = x)).map fun j => [(rowAt prs n).getD j 0, (n : Int), (j : Int)] from by
      generalize List.range (rowAt prs n).length = L
      induction L with
      | nil => rfl
      | cons a L ih =>
        rw [List.map_cons, List.filter_cons, List.filter_cons, ih]
        show (if decide ((rowAt prs n).getD a 0 = x) = true then _ else _) = _
        split <;> rfl]
    rw [List.map_map]
    rfl
theorem lex_drop {a b : List Int} {x : Int} (ha : ∃ r p : Int, a = [x, r, p]) (hb : ∃ r p : Int, b = [x, r, p]) (h : HT.lexLt b a = false) : HT.lexLt (b.drop 1) (a.drop 1) = false := by
  obtain ⟨r, p, rfl⟩ := ha
  obtain ⟨r', p', rfl⟩ := hb
  rw [HT.lexLt_cons, if_pos rfl] at h
  exact h
theorem Sorted.cellsOf {prs : Prs} {fs : List (List Int)} (hg : tabB prs = true) (s : Sorted prs fs) (x : Int) : (fs.filter fun e => decide (hdI e = x)).map (fun e => e.drop 1) = (cellsUp prs x prs.length).map ck := by
  refine sorted_unique SrtT.lex_tot ?_ ?_ ?_
  · rw [← ents_of]
    exact (s.pm.filter _).map _
  · rw [List.pairwise_map]
    refine (s.up.filter _).imp_of_mem fun {a b} ha hb h => ?_
    have fa := List.mem_filter.mp ha
    have fb := List.mem_filter.mp hb
    obtain ⟨i, j, _, _, ea⟩ := sorted_ent hg s fa.1
    obtain ⟨i', j', _, _, eb⟩ := sorted_ent hg s fb.1
    have xa : hdI a = x := of_decide_eq_true fa.2
    have xb : hdI b = x := of_decide_eq_true fb.2
    refine lex_drop (x := x) ⟨i, j, ?_⟩ ⟨i', j', ?_⟩ h
    · rw [← xa, ea]
      rfl
    · rw [← xb, eb]
      rfl
  · rw [List.pairwise_map]
    exact (cells_up prs x prs.length).imp cLt_lex
theorem heads_range (fs : List (List Int)) : (List.range fs.length).map (fun k => hdI (fs.getD k [])) = fs.map hdI := by
  refine List.ext_getElem (by simp) fun i h1 h2 => ?_
  have hi : i < fs.length := by simpa using h1
  rw [List.getElem_map, List.getElem_map, List.getElem_range, List.getD_eq_getElem?_getD, List.getElem?_eq_getElem hi]
  rfl
theorem cells_count (prs : Prs) (x : Int) : ((cellsUp prs x prs.length).length : Int) = (mostN x (flatP prs) : Int) - (lessN x (flatP prs) : Int) := by
  rw [cells_sum, ← less_flat, ← most_flat]
  rfl
open PySem L2 PyProof.Rows
theorem cut_one {xs : List V} (h : 1 ≤ xs.length) : cutV xs (some 1) none = xs.drop 1 := by
  unfold cutV
  rw [HT.sIx_none, show ((1 : Int)) = ((1 : Nat) : Int) from rfl, HT.sIx_nat, Nat.min_eq_left h, List.take_of_length_le (by simp)]
theorem not_whole {n : Nat} (h : 1 ≤ n) : ¬ (HT.sIx n 0 (some 1) = 0 ∧ HT.sIx n n none = n) := by
  rw [show ((1 : Int)) = ((1 : Nat) : Int) from rfl, HT.sIx_nat, Nat.min_eq_left h]
  omega
section
variable {P : Program} {w : World} {K : PySem.W.Frag} {mg : Str → Option Value} {base : Heap}
def spT1 : Sp := fun vs H Q _ => ∃ (t : Addr) (prs : Prs), vs = [.ref t] ∧ Tab H t prs ∧ tabB prs = true ∧ ∀ H', Same H H' → Q (.bl true) H'
abbrev plN : List Str := ["table", "all_in_order", "numbers", "k", "number", "row", "place"]
theorem sc_plR : FnScope plN ["table"] (defScope dPlR) := ⟨rfl, rfl, rfl, by decide +kernel, rfl, by decide +kernel, by decide +kernel⟩
set_option maxHeartbeats 16000000 in
theorem ok_plR (T : Blt mg) (hso : mg "sorted" = none) (hset : mg "set" = none) (D : DefAt K mg "_law_places_right" dPlR ["table"]) (G1 : FnAt P w K mg base 7 "merged" ["table"] spMerged) (G2 : FnAt P w K mg base 8 "number_by" ["table", "k"] spNumberBy) (G3 : FnAt P w K mg base 7 "number_at" ["table", "cell"] spNumberAt)
    (G4 : FnAt P w K mg base 8 "count_less" ["table", "x"] (spCount lessN)) (G5 : FnAt P w K mg base 8 "count_most" ["table", "x"] (spCount mostN)) (G6 : FnAt P w K mg base 9 "middle" ["table"] spMiddle) : FnAt P w K mg base 10 "_law_places_right" ["table"] spT1 := by
  refine FnAt.of D sc_plR (fun vs H Q E h => ?_) (fun f cdv A outer s H vs Q E hr h => ?_)
  · obtain ⟨t, prs, rfl, _⟩ := h
    rfl
  · obtain ⟨t, prs, rfl, hT, hg, q⟩ := h
    obtain ⟨g, g1, g2, g3, g4⟩ := good_of hg
    obtain ⟨p0, hp0, hm0, hx0⟩ := head_at (prs := prs) g1
    have hn36 : prs.length * w0 prs ≤ 36 := Nat.mul_le_mul g2 g4
    have nd := sc_plR.nd
    have nd1 : (["k", "table"] : List Str).Nodup := by decide +kernel
    have nd2 : (["one"] : List Str).Nodup := by decide +kernel
    have hr7 : Room 7 _ := hr.mono (show 7 ≤ 9 by decide)
    have hr8 : Room 8 _ := hr.mono (show 8 ≤ 9 by decide)
    refine ⟨_, pss_cons (ps_set (i := 1) nd rfl (Or.inl rfl) (pe_f G1 hr7 (pa_cons (pv 0) pa_nil)))
      (pss_cons (ps_setC ["k", "table"] [none, some 0] (defScope dPlR) plN (i := 2) nd rfl (Or.inl rfl) rfl (pi_range1 rfl T.rng (pa_cons (pe_b call_len_seq T.len boot_len (pa_cons (pv 1) pa_nil)) pa_nil)) (by decide +kernel) (fun cl C s2 H2 ex => pg_c 0 nd1) (fun cl C s2 H2 ex => pifs_nil) (fun cl C s2 H2 ex => pe_f G2 (hr8.mono (by decide)) (pa_cons (pv 1) (pa_cons (pv 0) pa_nil))))
      (pss_cons (ps_if (PW.pt (pw_or (pt_cmpR (op_neD hr.units) (pv 2) (pe_comp ["one"] [none] (defScope dPlR) plN rfl (pi_list (pv 1)) (by decide +kernel) (fun cl C s2 H2 ex => pg_c 0 nd2) (fun cl C s2 H2 ex => pifs_nil) (fun cl C s2 H2 ex => pe_ix (ixT K) (pv 0) pe_int (fun _ _ => rfl))) (nomark _))
        (pw_or1 (pt_cmpR (op_neD hr.units) (pv 2) (pe_b call_sortedI hso boot_sorted (pa_cons (pv 2) pa_nil)) (nomark _))))) (pss_one (ps_ret pe_bl)) pss_nil)
      (pss_cons (ps_for PassesOwn.never rfl (pi_enum rfl T.enum (pa_cons (pv 1) pa_nil)) (pg_tup rfl (pgs_cons (pg_name (i := 3) nd rfl (Or.inl rfl)) (pgs_cons (pg_tup rfl (pgs_cons (pg_name (i := 4) nd rfl (Or.inl rfl)) (pgs_cons (pg_name (i := 5) nd rfl (Or.inl rfl)) (pgs_cons (pg_name (i := 6) nd rfl (Or.inl rfl)) pgs_nil)))) pgs_nil)))
        (pss_cons (ps_if (pt_cmpR op_ne (pe_f G3 hr7 (pa_cons (pv 0) (pa_cons (pe_tup (pa_cons (pv 5) (pa_cons (pv 6) pa_nil))) pa_nil))) (pv 4) (nomark _)) (pss_one (ps_ret pe_bl)) pss_nil)
        (pss_one (ps_if (pt_not (pt_chain o_le o_lt (pe_f G4 hr8 (pa_cons (pv 0) (pa_cons (pv 4) pa_nil))) (pv 3) (pe_f G5 hr8 (pa_cons (pv 0) (pa_cons (pv 4) pa_nil))))) (pss_one (ps_ret pe_bl)) pss_nil))))
      (pss_cons (ps_if (pt_cmpR op_ne (pe_b call_lenS T.len boot_len (pa_cons (pe_t (call_setC rfl hr.units) hset boot_set (pa_cons (pe_comp ["one"] [none] (defScope dPlR) plN rfl (pi_list (pv 1)) (by decide +kernel) (fun cl C s2 H2 ex => pg_c 0 nd2) (fun cl C s2 H2 ex => pifs_nil) (fun cl C s2 H2 ex => pe_slice (slTK K) (pv 0) (po_some pe_int) po_none)) pa_nil)) pa_nil)) (pe_op o_mul (pe_b call_len_seq T.len boot_len (pa_cons (pv 0) pa_nil)) (pe_b call_len_seq T.len boot_len (pa_cons (pe_ix ix_list (pv 0) pe_int (fun _ _ => rfl)) pa_nil))) (nomark _)) (pss_one (ps_ret pe_bl)) pss_nil)
      (pss_one (ps_ret (pe_cmpR op_eq (pe_f G6 hr (pa_cons (pv 0) pa_nil)) (pe_ix ix_list (pv 2) (pe_op o_div (pe_op o_sub (pe_b call_len_seq T.len boot_len (pa_cons (pv 2) pa_nil)) pe_int) pe_int) (fun _ _ => rfl)) (nomark _)))))))), ?_⟩
    refine ⟨_, rfl, t, prs, rfl, hT, hg, fun L es H1 hL s1 hLl hes S => ?_⟩
    have hlen : es.length = prs.length * w0 prs := by
      have := sorted_len hg S
      rw [List.length_map] at this
      exact this
    obtain ⟨fs, hfs⟩ : ∃ fs, fs = es.map (·.2) := ⟨_, rfl⟩
    rw [← hfs] at S
    have hfl : fs.length = prs.length * w0 prs := sorted_len hg S
    have hent : ∀ e ∈ es, ∃ i j : Nat, i < prs.length ∧ j < w0 prs ∧ e.2 = [(rowAt prs i).getD j 0, (i : Int), (j : Int)] := fun e he => sorted_ent hg S (by rw [hfs]; exact List.mem_map.mpr ⟨e, he, rfl⟩)
    have hT1 := hT.same s1
    refine ⟨_, rfl, L, _, rfl, .inl (SqL.of hLl), _, rfl, by omega, by rw [List.length_map, hlen]; omega, ?_⟩
    rw [List.length_map, hlen, Int.toNat_natCast]
    refine comp_range (fun k => .int (hdI (fs.getD k []))) (sl6 (by omega)) (fun k hk H' Q' sm q' => ?_) fun N H2 hN s2 hNl => ?_
    · refine ⟨_, rfl, _, rfl, t, prs, k, by rw [Int.zero_add], hT1.same sm, hg, hk, fun fs' H'' s'' S' => ?_⟩
      rw [Sorted.same S' S]
      exact q' _ s''
    have rN : Row H2 N (fs.map hdI) := by
      unfold Row
      rw [hNl, ← heads_range, hfl, List.map_map]
      rfl
    have hLl2 := s2 _ _ hLl
    have hes2 : ∀ e ∈ es, EntAt H2 e := fun e he => s2 _ _ (hes e he).1
    have hT2 := hT1.same s2
    refine ⟨_, rfl, _, rfl, L, rfl, ⟨_, SqL.of hLl2⟩, comp_map (fun e : Addr × List Int => V.ref e.1) (fun e => .int (hdI e.2)) (SqL.of hLl2) (sl6 (by omega)) (fun e he H' Q' sm q' => ?_) fun M H3 hM s3 hMl => ?_⟩
    · obtain ⟨i, j, _, _, e2⟩ := hent e he
      have ee : H' e.1 = some (.tup [.int ((rowAt prs i).getD j 0), .int (i : Nat), .int (j : Nat)]) := by
        have := sm _ _ (hes2 e he)
        rw [e2] at this
        exact this
      refine ⟨_, rfl, e.1, _, 0, .int ((rowAt prs i).getD j 0), rfl, rfl, SqT.of ee, rfl, ?_⟩
      rw [e2] at q'
      exact q' _ (Same.refl _)
    have rM : Row H3 M (fs.map hdI) := by
      unfold Row
      rw [hMl, hfs, List.map_map, List.map_map]
      rfl
    refine ⟨_, _, (rN.same s3).rd, rM.rd, shaped_row _, shaped_row _, _, rfl, ?_⟩
    rw [eqv_row]
    have rN3 := rN.same s3
    refine iteF ⟨_, rfl, _, rfl, N, _, rfl, rN3.sq, by rw [List.length_map, hfl]; omega, fun Z ms hZ hpm hup => ?_⟩
    have ems : ms = fs.map hdI := List.Perm.eq_of_pairwise (fun a b _ _ h1 h2 => by omega) hup S.heads.2 hpm
    subst ems
    have s4 : Same H3 (upd H3 Z (.lst ((fs.map hdI).map V.int))) := Same.new hZ
    have r4 : Row (upd H3 Z (.lst ((fs.map hdI).map V.int))) Z (fs.map hdI) := upd_same
    generalize upd H3 Z (.lst ((fs.map hdI).map V.int)) = H4 at s4 r4 ⊢
    refine ⟨_, _, (rN3.same s4).rd, r4.rd, shaped_row _, shaped_row _, _, rfl, ?_⟩
    rw [eqv_row]
    have s24 := s3.trans s4
    have hT4 := hT2.same s24
    have hLl4 := s24 _ _ hLl2
    have rN4 := rN.same s24
    have hes4 : ∀ e ∈ es, EntAt H4 e := fun e he => s24 _ _ (hes2 e he)
    refine iteF ⟨_, rfl, L, rfl, ⟨_, SqL.of hLl4⟩, for_enum (xs := es.map fun e => V.ref e.1) (fun i σ H' => ∃ o3 o4 o5 o6 : Option V, σ = [some (.ref t), some (.ref L), some (.ref N), o3, o4, o5, o6] ∧ Same H4 H') ⟨none, none, none, none, rfl, Same.refl _⟩ (fun i σ H' _ ⟨_, _, _, _, _, sm⟩ => SqL.of (sm _ _ hLl4)) ?_ ?_⟩
    · rintro k y σ H5 T5 hk ⟨o3, o4, o5, o6, rfl, s5⟩ hT5
      have hke : k < es.length := by
        have := (List.getElem?_eq_some_iff.mp hk).1
        rw [List.length_map] at this
        exact this
      rw [List.getElem?_map, List.getElem?_eq_getElem hke] at hk
      have hy : V.ref es[k].1 = y := Option.some.inj hk
      subst hy
      obtain ⟨i, j, hi, hj, e2⟩ := hent es[k] (List.getElem_mem hke)
      have s6 : Same H5 (upd H5 T5 (.tup [.int (k : Nat), .ref es[k].1])) := Same.new hT5
      have e6 : (upd H5 T5 (.tup [.int (k : Nat), .ref es[k].1])) T5 = some (.tup [.int (k : Nat), .ref es[k].1]) := upd_same
      generalize upd H5 T5 (.tup [.int (k : Nat), .ref es[k].1]) = H6 at s6 e6 ⊢
      have ee : H6 es[k].1 = some (.tup [.int ((rowAt prs i).getD j 0), .int (i : Nat), .int (j : Nat)]) := by
        have := (s5.trans s6) _ _ (hes4 es[k] (List.getElem_mem hke))
        rw [e2] at this
        exact this
      refine ⟨T5, _, rfl, SqT.of e6, rfl, _, _, rfl, _, _, rfl, ⟨es[k].1, _, rfl, SqT.of ee, rfl, _, _, rfl, _, _, rfl, _, _, rfl, rfl, rfl, ?_⟩⟩
      have hT6 := hT4.same (s5.trans s6)
      refine ⟨_, rfl, _, rfl, _, rfl, len2, fun c hc => ?_⟩
      have s7 : Same H6 (upd H6 c (.tup [.int (i : Nat), .int (j : Nat)])) := Same.new hc
      have e7 : Cell (upd H6 c (.tup [.int (i : Nat), .int (j : Nat)])) c i j := upd_same
      generalize upd H6 c (.tup [.int (i : Nat), .int (j : Nat)]) = H7 at s7 e7 ⊢
      refine ⟨t, c, prs, i, j, rfl, hT6.same s7, hg, e7, hi, hj, fun H8 s8 => ⟨_, rfl, rfl, _, rfl, ?_⟩⟩
      rw [decide_eq_true rfl]
      have hT8 := (hT6.same s7).same s8
      have kth := S.kth (k := k) (by rw [flatP_len g.len]; omega)
      have ek : hdI (fs.getD k []) = (rowAt prs i).getD j 0 := by
        rw [hfs, List.getD_eq_getElem?_getD, List.getElem?_map, List.getElem?_eq_getElem hke]
        show hdI es[k].2 = _
        rw [e2]
        rfl
      rw [ek] at kth
      have k1 := kth.lo
      have k2 := kth.hi
      refine iteF ⟨_, rfl, _, rfl, t, prs, _, rfl, hT8, hg, fun H9 s9 => ⟨_, rfl, _, _, rfl, rfl, _, rfl, ?_⟩⟩
      rw [decide_eq_true (show ((lessN ((rowAt prs i).getD j 0) (flatP prs) : Nat) : Int) ≤ ((k : Nat) : Int) by omega)]
      refine iteT ⟨_, rfl, _, rfl, t, prs, _, rfl, hT8.same s9, hg, fun H10 s10 => ⟨_, _, rfl, rfl, _, rfl, ?_⟩⟩
      rw [decide_eq_true (show ((k : Nat) : Int) < ((mostN ((rowAt prs i).getD j 0) (flatP prs) : Nat) : Int) by omega)]
      exact iteF ⟨_, _, _, _, rfl, s5.trans (s6.trans (s7.trans (s8.trans (s9.trans s10))))⟩
    · rintro σ H5 ⟨o3, o4, o5, o6, rfl, s5⟩
      have hT5 := hT4.same s5
      have hLl5 := s5 _ _ hLl4
      refine ⟨_, rfl, L, rfl, ⟨_, SqL.of hLl5⟩, comp_objsL (fun e : Addr × List Int => V.ref e.1) (fun e => HO.tup [.int ((cellE e.2).1 : Nat), .int ((cellE e.2).2 : Nat)]) (SqL.of hLl5) (by omega) (fun e he H' Q' sm q' => ?_) fun U qs H6 hU hqm hqn hqs s6 hUl => ?_⟩
      · obtain ⟨i, j, _, _, e2⟩ := hent e he
        have ee : H' e.1 = some (.tup [.int ((rowAt prs i).getD j 0), .int (i : Nat), .int (j : Nat)]) := by
          have := sm _ _ (s5 _ _ (hes4 e he))
          rw [e2] at this
          exact this
        refine ⟨_, rfl, 1, rfl, e.1, _, rfl, SqT.of ee, not_whole (by show 1 ≤ 3; decide), fun l hl => q' l _ hl (Same.new hl) ?_⟩
        rw [upd_same, cut_one (by show 1 ≤ 3; decide), e2]
        show some (HO.tup [V.int (i : Nat), V.int (j : Nat)]) = some (HO.tup [V.int (((i : Int)).toNat : Nat), V.int (((j : Int)).toNat : Nat)])
        rw [Int.toNat_natCast, Int.toNat_natCast]
      have hql : qs.length = es.length := by rw [← hqm, List.length_map]
      have hcells : (qs.map fun q => cellE q.2.2) = fs.map cellE := by
        rw [hfs, ← hqm, List.map_map, List.map_map]
        rfl
      refine ⟨U, qs.map fun q => (q.1, cellE q.2.2), rfl, by rw [List.map_map]; exact SqL.of hUl, fun z hz => ?_, ?_, fun z hz => ?_, by rw [List.length_map]; omega, fun Sx hSx => ?_⟩
      · obtain ⟨q', hq', rfl⟩ := List.mem_map.mp hz
        exact (hqs q' hq').1
      · rw [List.map_map]
        show (qs.map fun q => cellE q.2.2).Nodup
        rw [hcells]
        exact S.cells
      · obtain ⟨q', hq', rfl⟩ := List.mem_map.mp hz
        have : q'.2 ∈ es := by rw [← hqm]; exact List.mem_map.mpr ⟨q', hq', rfl⟩
        obtain ⟨i, j, hi, hj, e2⟩ := hent q'.2 this
        show (cellE q'.2.2).1 < 6 ∧ (cellE q'.2.2).2 < 6
        rw [e2]
        show ((i : Int)).toNat < 6 ∧ ((j : Int)).toNat < 6
        rw [Int.toNat_natCast, Int.toNat_natCast]
        omega
      have s7 : Same H6 (upd H6 Sx (setO Sx ((qs.map fun q => (q.1, cellE q.2.2)).map (·.2)))) := Same.new hSx
      have e7 : (upd H6 Sx (setO Sx ((qs.map fun q => (q.1, cellE q.2.2)).map (·.2)))) Sx = some (setO Sx ((qs.map fun q => (q.1, cellE q.2.2)).map (·.2))) := upd_same
      generalize upd H6 Sx (setO Sx ((qs.map fun q => (q.1, cellE q.2.2)).map (·.2))) = H7 at s7 e7 ⊢
      have s57 := s6.trans s7
      have hT7 := hT5.same s57
      refine ⟨Sx, _, rfl, e7, by rw [List.length_map, List.length_map]; omega, _, rfl, t, _, rfl, .inl hT7.sq, ?_⟩
      rw [List.length_map, List.length_map, List.length_map]
      refine ⟨_, rfl, t, _, 0, .ref p0.1, rfl, rfl, hT7.sq, atI_nat (j := 0) (by rw [List.getElem?_map, hx0]; rfl), p0.1, _, rfl, .inl (hT7.r p0 hm0).sq, _, _, rfl, rfl, .inl ⟨by omega, by omega⟩, rfl, _, rfl, ?_⟩
      rw [List.length_map, g.len p0 hm0, hql, hlen, Int.natCast_mul, decide_eq_true rfl]
      refine iteF ⟨_, rfl, t, prs, rfl, hT7, hg, fun fs' H8 s8 S' => ?_⟩
      rw [Sorted.same S' S]
      have rN8 := ((rN4.same s5).same s57).same s8
      refine ⟨_, rfl, _, rfl, N, _, rfl, .inl rN8.sq, _, _, rfl, rfl, _, _, rfl, rfl, ⟨by decide, by decide⟩, N, _, _, .int (hdI (fs.getD ((prs.length * w0 prs - 1) / 2) [])), rfl, rfl, rN8.sq, ?_, rfl, ?_⟩
      · rw [List.length_map, List.length_map, hfl, show (((prs.length * w0 prs : Nat) : Int) - 1) / 2 = (((prs.length * w0 prs - 1) / 2 : Nat) : Int) by
          have : 1 ≤ prs.length * w0 prs := Nat.mul_le_mul g1 g3
          omega, hd_at]
        exact at_row (by
          have : 1 ≤ prs.length * w0 prs := Nat.mul_le_mul g1 g3
          rw [List.length_map, hfl]
          omega)
      rw [decide_eq_true rfl]
      exact q H8 (s1.trans (s2.trans (s24.trans (s5.trans (s57.trans s8)))))
end
end Seek
namespace L2
open PySem PySem.Spec PyProof.Rows
theorem comp_objsF {α : Type} {K : PySem.W.Frag} {a : Addr} {ms : List α} {σ0 : St} {H1 : Hp} {tc : TT} {te : TE} {Q : VK} (u : α → V) (p : α → Bool) (o : α → HO) (hs : SqL K H1 a (ms.map u)) (hn : ms.length ≤ 1000)
    (ht : ∀ x ∈ ms, PuT tc (σ0.set 0 (some (u x))) H1 (p x))
    (he : ∀ x ∈ ms, p x = true → ∀ (H' : Hp) (Q' : VK), Same H1 H' → (∀ l H'', H' l = none → Same H' H'' → H'' l = some (o x) → Q' (.ref l) H'') → te (σ0.set 0 (some (u x))) H' Q')
    (fin : ∀ (D : Addr) (qs : List (Addr × α)) (H' : Hp), H1 D = none → qs.map (·.2) = ms.filter p → (∀ q ∈ qs, H' q.1 = some (o q.2) ∧ H1 q.1 = none ∧ q.1 ≠ D) → Same H1 H' → H' D = some (.lst (qs.map fun q => V.ref q.1)) → Q (.ref D) H') :
    CompRun (Itl K a) (gName 0) tc te σ0 H1 Q := by
  intro D hD
  refine comp_by (n := ms.length) (fun i ys H' => ∃ qs : List (Addr × α), Same H1 H' ∧ H' D = some (.lst ys) ∧ ys = (qs.map fun q => V.ref q.1) ∧ qs.map (·.2) = (ms.take i).filter p ∧ ∀ q ∈ qs, H' q.1 = some (o q.2) ∧ H1 q.1 = none ∧ q.1 ≠ D)
    ⟨[], Same.new hD, upd_same, rfl, by simp, fun q hq => nomatch hq⟩ (fun i ys H' _ ⟨_, _, e, _⟩ => e) (fun i ys H' hi ⟨_, sm, _⟩ => ⟨ms.map u, u ms[i], sm.seq hs, by simp [hi]⟩) (fun ys H' ⟨_, sm, _⟩ => ⟨ms.map u, sm.seq hs, by simp⟩) ?_ (fun ys H' h => ?_)
  · rintro i ys H' x H2 hi ⟨qs, sm, hDl, hys, hqm, hq⟩ y
    obtain ⟨rfl, hx⟩ : H2 = H' ∧ x = u ms[i] := ⟨y.1, by
      have := y.2 _ (sm.seq hs)
      rw [List.getElem?_map, List.getElem?_eq_getElem hi] at this
      exact (Option.some.inj this).symm⟩
    subst hx
    refine ht ms[i] (List.getElem_mem hi) _ _ sm fun H4 s4 => ?_
    have hDl4 := s4 _ _ hDl
    have hq4 : ∀ q ∈ qs, H4 q.1 = some (o q.2) ∧ H1 q.1 = none ∧ q.1 ≠ D := fun q hq1 => by
      obtain ⟨z1, z2, z3⟩ := hq q hq1
      exact ⟨s4 _ _ z1, z2, z3⟩
    have tk : ms.take (i + 1) = ms.take i ++ [ms[i]] := by
      rw [List.take_add_one, List.getElem?_eq_getElem hi]
      rfl
    have ql : qs.length ≤ i := by
      have := congrArg List.length hqm
      rw [List.length_map] at this
      have h2 : ((ms.take i).filter p).length ≤ (ms.take i).length := List.length_filter_le _ _
      rw [List.length_take] at h2
      omega
    have sm4 := sm.trans s4
    cases hp : p ms[i] with
    | false =>
      refine iteF ⟨qs, sm4, hDl4, hys, ?_, hq4⟩
      rw [tk, List.filter_append, hqm, List.filter_cons, hp]
      simp
    | true =>
      refine iteT (he ms[i] (List.getElem_mem hi) hp _ _ sm4 fun l H5 hl s5 el => ?_)
      have nlD : D ≠ l := ne_of_none hDl4 hl
      refine ⟨s5 _ _ hDl4, ?_, qs ++ [(l, ms[i])], (sm4.trans s5).upd hD, upd_same, ?_, ?_, fun q hq1 => ?_⟩
      · rw [hys, List.length_map]
        exact small1000 (by omega)
      · rw [hys, List.map_append]
        rfl
      · rw [List.map_append, hqm, tk, List.filter_append, List.filter_cons, hp]
        rfl
      · rcases List.mem_append.mp hq1 with z | z
        · obtain ⟨z1, z2, z3⟩ := hq4 q z
          exact ⟨by rw [upd_ne z3]; exact s5 _ _ z1, z2, z3⟩
        · have : q = (l, ms[i]) := by simpa using z
          subst this
          exact ⟨by rw [upd_ne (Ne.symm nlD)]; exact el, sm4.free hl, Ne.symm nlD⟩
  · obtain ⟨qs, sm, hDl, hys, hqm, hq⟩ := h
    rw [List.take_length] at hqm
    exact fin D qs H' hD hqm hq sm (by rw [← hys]; exact hDl)
theorem eqIK {X : Cx} : OpR X (compareOp .Eq) (fun x y H Q => ∃ i j : Int, x = .int i ∧ y = .int j ∧ Q (.bl (decide (i = j))) H) := by
  intro pins s σ H x y v u Q I rx ry h
  obtain ⟨i, j, rfl, rfl, q⟩ := h
  obtain ⟨t, rfl⟩ := rx
  obtain ⟨t', rfl⟩ := ry
  exact eq_int (by rw [Bool.beq_eq_decide_eq]; exact ⟨.bl _, H, I, rfl, q⟩)
end L2
namespace Seek
open PySem L2 PyProof.Rows
theorem gname_in {i : Nat} {v : V} {σ : L2.St} {H : Hp} {F : L2.St → Hp → Prop} (h : F (σ.set i (some v)) H) : gName i v σ H F := h
section
variable {P : Program} {w : World} {K : PySem.W.Frag} {mg : Str → Option Value} {base : Heap}
end
open PySem L2 PyProof.Rows
theorem if_tail {tc : TT} {t u : TS} {D : Ends} {σ0 : L2.St} {H0 : Hp} (C : (L2.St → Hp → Prop) → Prop) (h : C (u D)) (hA : C (u D) → tc σ0 H0 (fun b H1 => if b = true then t { D with nx := u D } σ0 H1 else u D σ0 H1)) : tSeq (tIfS tc t tNext) u D σ0 H0 := hA h
open PySem L2 PyProof.Rows
theorem filter_map_map {α β γ : Type} (g : α → β) (q : β → Bool) (k : β → γ) : ∀ L : List α, (L.filter fun a => q (g a)).map (fun a => k (g a)) = ((L.map g).filter q).map k
  | [] => rfl
  | a :: r => by
    rw [List.map_cons, List.filter_cons, List.filter_cons]
    split
    · rw [List.map_cons, List.map_cons, filter_map_map g q k r]
    · exact filter_map_map g q k r
section
variable {P : Program} {w : World} {K : PySem.W.Frag} {mg : Str → Option Value} {base : Heap}
def spCoR : Sp := fun vs H Q _ => ∃ (t : Addr) (prs : Prs) (x y : Int), vs = [.ref t, .int x, .int y] ∧ Tab H t prs ∧ tabB prs = true ∧ ∀ H', Same H H' → Q (.bl true) H'
abbrev coN : List Str := ["table", "one", "other", "due"]
theorem sc_coR : FnScope coN ["table", "one", "other"] (defScope dCoR) := ⟨rfl, rfl, rfl, by decide +kernel, rfl, by decide +kernel, by decide +kernel⟩
set_option maxHeartbeats 16000000 in
theorem ok_coR (T : Blt mg) (D : DefAt K mg "_law_counts_right" dCoR ["table", "one", "other"]) (G1 : FnAt P w K mg base 7 "merged" ["table"] spMerged) (G2 : FnAt P w K mg base 7 "cells_of" ["table", "x"] spCells)
    (G4 : FnAt P w K mg base 8 "count_less" ["table", "x"] (spCount lessN)) (G5 : FnAt P w K mg base 8 "count_most" ["table", "x"] (spCount mostN)) (G6 : FnAt P w K mg base 9 "count_from" ["table", "a", "b"] spCountFrom) : FnAt P w K mg base 10 "_law_counts_right" ["table", "one", "other"] spCoR := by
  refine FnAt.of D sc_coR (fun vs H Q E h => ?_) (fun f cdv A outer s H vs Q E hr h => ?_)
  · obtain ⟨t, prs, x, y, rfl, _⟩ := h
    rfl
  · obtain ⟨t, prs, x, y, rfl, hT, hg, q⟩ := h
    obtain ⟨g, g1, g2, g3, g4⟩ := good_of hg
    have hn36 : prs.length * w0 prs ≤ 36 := Nat.mul_le_mul g2 g4
    have nd := sc_coR.nd
    have nd1 : (["cell", "one"] : List Str).Nodup := by decide +kernel
    have hr7 : Room 7 _ := hr.mono (show 7 ≤ 9 by decide)
    have hr8 : Room 8 _ := hr.mono (show 8 ≤ 9 by decide)
    refine ⟨_, pss_cons (ps_if (pt_cmpR op_ne (pe_op o_sub (pe_f G5 hr8 (pa_cons (pv 0) (pa_cons (pv 1) pa_nil))) (pe_f G4 hr8 (pa_cons (pv 0) (pa_cons (pv 1) pa_nil)))) (pe_b call_len_seq T.len boot_len (pa_cons (pe_f G2 hr7 (pa_cons (pv 0) (pa_cons (pv 1) pa_nil))) pa_nil)) (nomark _)) (pss_one (ps_ret pe_bl)) pss_nil)
      (pss_cons (ps_if (pt_cmpR (op_neD hr.units) (pe_comp ["cell", "one"] [none, some 1] (defScope dCoR) coN rfl (pi_list (pe_f G1 hr7 (pa_cons (pv 0) pa_nil))) (by decide +kernel) (fun cl C s2 H2 ex => pg_c 0 nd1) (fun cl C s2 H2 ex => pifs_one (pt_cmpR eqIK (pe_ix (ixT K) (pv 0) pe_int (fun _ _ => rfl)) (pv 1) (nomark _))) (fun cl C s2 H2 ex => pe_slice (slTK K) (pv 0) (po_some pe_int) po_none)) (pe_f G2 hr7 (pa_cons (pv 0) (pa_cons (pv 1) pa_nil))) (nomark _)) (pss_one (ps_ret pe_bl)) pss_nil)
      (pss_cons (ps_set (i := 3) nd rfl (Or.inl rfl) (pe_b (call_max2 rfl) T.max boot_max (pa_cons pe_int (pa_cons (pe_op o_sub (pe_f G5 hr8 (pa_cons (pv 0) (pa_cons (pv 2) pa_nil))) (pe_f G4 hr8 (pa_cons (pv 0) (pa_cons (pv 1) pa_nil)))) pa_nil))))
      (pss_cons (ps_if (pt_cmpR o_gt (pv 1) (pv 2) (nomark _)) (pss_one (ps_set (i := 3) nd rfl (Or.inl rfl) pe_int)) pss_nil)
      (pss_cons (ps_if (pt_cmpR op_ne (pe_f G6 hr (pa_cons (pv 0) (pa_cons (pv 1) (pa_cons (pv 2) pa_nil)))) (pv 3) (nomark _)) (pss_one (ps_ret pe_bl)) pss_nil)
      (pss_one (ps_ret (pe_cmpR op_eq (pe_f G6 hr (pa_cons (pv 0) (pa_cons (pv 1) (pa_cons (pv 1) pa_nil)))) (pe_b call_len_seq T.len boot_len (pa_cons (pe_f G2 hr7 (pa_cons (pv 0) (pa_cons (pv 1) pa_nil))) pa_nil)) (nomark _)))))))), ?_⟩
    have lenCs : ∀ {cs : Cs}, cs.map (·.2) = cellsUp prs x prs.length → ((cs.length : Nat) : Int) = (mostN x (flatP prs) : Int) - (lessN x (flatP prs) : Int) := fun {cs} h => by
      have := congrArg List.length h
      rw [List.length_map] at this
      rw [this, cells_count]
    refine ⟨_, rfl, _, rfl, t, prs, x, rfl, hT, hg, fun H1 s1 => ⟨_, rfl, _, rfl, t, prs, x, rfl, hT.same s1, hg, fun H2 s2 => ⟨_, _, rfl, rfl, ?_⟩⟩⟩
    have s02 := s1.trans s2
    have hT2 := hT.same s02
    refine ⟨_, rfl, _, rfl, t, prs, x, rfl, hT2, hg, fun L cs H3 hL s3 hLl hcs hcw hcl => ⟨L, _, rfl, .inl (SqL.of hLl), rfl, _, rfl, ?_⟩⟩
    rw [List.length_map, lenCs hcw, decide_eq_true rfl]
    have hT3 := hT2.same s3
    refine iteF ⟨_, rfl, t, prs, rfl, hT3, hg, fun M es H4 hM s4 hMl hes S => ?_⟩
    have hlen : es.length = prs.length * w0 prs := by
      have := sorted_len hg S
      rw [List.length_map] at this
      exact this
    have hent : ∀ e ∈ es, ∃ i j : Nat, i < prs.length ∧ j < w0 prs ∧ e.2 = [(rowAt prs i).getD j 0, (i : Int), (j : Int)] := fun e he => sorted_ent hg S (List.mem_map.mpr ⟨e, he, rfl⟩)
    have hee : ∀ e ∈ es, ∀ {H' : Hp}, Same H4 H' → ∃ i j : Nat, e.2 = [(rowAt prs i).getD j 0, (i : Int), (j : Int)] ∧ H' e.1 = some (.tup [.int ((rowAt prs i).getD j 0), .int (i : Nat), .int (j : Nat)]) := fun e he H' sm => by
      obtain ⟨i, j, _, _, e2⟩ := hent e he
      have := sm _ _ (hes e he).1
      rw [e2] at this
      exact ⟨i, j, e2, this⟩
    refine ⟨M, rfl, ⟨_, SqL.of hMl⟩, comp_objsF (fun e : Addr × List Int => V.ref e.1) (fun e => decide (hdI e.2 = x)) (fun e => HO.tup ((e.2.drop 1).map V.int)) (SqL.of hMl) (by omega) (fun e he H' Q' sm q' => ?_) (fun e he _ H' Q' sm q' => ?_) fun U qs H5 hU hqm hqs s5 hUl => ?_⟩
    · obtain ⟨i, j, e2, ee⟩ := hee e he sm
      refine ⟨_, rfl, e.1, _, 0, .int ((rowAt prs i).getD j 0), rfl, rfl, SqT.of ee, rfl, _, rfl, _, _, rfl, rfl, _, rfl, ?_⟩
      rw [e2] at q'
      exact q' _ (Same.refl _)
    · obtain ⟨i, j, e2, ee⟩ := hee e he sm
      refine ⟨_, rfl, 1, rfl, e.1, _, rfl, SqT.of ee, not_whole (by show 1 ≤ 3; decide), fun l hl => q' l _ hl (Same.new hl) ?_⟩
      rw [upd_same, cut_one (by show 1 ≤ 3; decide), e2]
      rfl
    have hT5 := (hT3.same s4).same s5
    refine ⟨_, rfl, _, rfl, t, prs, x, rfl, hT5, hg, fun L2 ds H6 hL2 s6 hL2l hds hdw hdl => ?_⟩
    have eU := ents_rd (K := K) (H := H6) (L := U) (es := qs.map fun q => (q.1, q.2.2.drop 1)) (by rw [s6 _ _ hUl, List.map_map]; rfl) (fun e he => by
      obtain ⟨z, hz1, rfl⟩ := List.mem_map.mp he
      exact s6 _ _ (hqs z hz1).1)
    refine ⟨_, _, eU, cells_rd hL2l (fun c hc => (hds c hc).1), shaped_ents _, shaped_ents _, _, rfl, ?_⟩
    have eeq : (qs.map fun q => (q.1, q.2.2.drop 1)).map (·.2) = (ds.map (·.2)).map ck := by
      rw [hdw, ← S.cellsOf hg x, List.map_map]
      show qs.map (fun q => q.2.2.drop 1) = _
      have h1 : qs.map (fun q => q.2.2.drop 1) = (qs.map (·.2)).map fun e => e.2.drop 1 := by rw [List.map_map]; rfl
      rw [h1, hqm]
      exact filter_map_map (fun e : Addr × List Int => e.2) (fun e => decide (hdI e = x)) (fun e => e.drop 1) es
    rw [eeq, eqv_ents]
    have s26 := s3.trans (s4.trans (s5.trans s6))
    have hT6 := hT2.same s26
    refine iteF ⟨_, rfl, _, rfl, t, prs, y, rfl, hT6, hg, fun H7 s7 => ⟨_, rfl, _, rfl, t, prs, x, rfl, hT6.same s7, hg, fun H8 s8 => ⟨_, _, rfl, rfl, _, _, rfl, ?_⟩⟩⟩
    have hT8 := (hT6.same s7).same s8
    rw [amid_max x y (flatP prs)]
    refine gname_in ?_
    dsimp only
    refine if_tail (fun N => N [some (.ref t), some (.int x), some (.int y), some (.int ((amidN x y (flatP prs) : Nat) : Int))] H8) ?_ (fun tail => ?_)
    · refine ⟨_, rfl, _, rfl, _, rfl, t, prs, x, y, rfl, hT8, hg, fun H9 s9 => ⟨_, rfl, rfl, _, rfl, ?_⟩⟩
      rw [decide_eq_true rfl]
      have hT9 := hT8.same s9
      refine iteF ⟨_, rfl, _, rfl, _, rfl, t, prs, x, x, rfl, hT9, hg, fun Ha sa => ⟨_, rfl, _, rfl, t, prs, x, rfl, hT9.same sa, hg, fun L3 gs Hb hL3 sb hL3l hgs hgw hgl => ⟨L3, _, rfl, .inl (SqL.of hL3l), rfl, ?_⟩⟩⟩
      rw [List.length_map, lenCs hgw]
      have ex : ((amidN x x (flatP prs) : Nat) : Int) = (mostN x (flatP prs) : Int) - (lessN x (flatP prs) : Int) := by
        have := amid_le (Int.le_refl x) (flatP prs)
        omega
      rw [ex, decide_eq_true rfl]
      exact q Hb (s02.trans (s26.trans (s7.trans (s8.trans (s9.trans (sa.trans sb))))))
    · refine ⟨_, rfl, _, rfl, _, _, rfl, rfl, _, rfl, ite2 (fun h1 => ?_) (fun h1 => tail)⟩
      have h1 := of_decide_eq_true h1
      have := (amid_gt h1 (flatP prs)).1
      rw [this] at tail
      exact tail
abbrev tuN : List Str := ["table", "numbers", "turned"]
theorem sc_turR : FnScope tuN ["table"] (defScope dTurR) := ⟨rfl, rfl, rfl, by decide +kernel, rfl, by decide +kernel, by decide +kernel⟩
end
open PySem L2 PyProof.Rows
section
variable {P : Program} {w : World} {K : PySem.W.Frag} {mg : Str → Option Value} {base : Heap}
theorem heads_run {H1 : Hp} {L : Addr} {es : Es} {prs : Prs} (hg : tabB prs = true) (hLl : H1 L = some (.lst (es.map fun e => V.ref e.1))) (hes : ∀ e ∈ es, EntAt H1 e) (S : Sorted prs (es.map (·.2))) {σ0 : L2.St} {te : TE} {Q : VK}
    (hte : ∀ (e : Addr) (n r p : Int) (H' : Hp) (Q' : VK), H' e = some (.tup [.int n, .int r, .int p]) → Q' (.int n) H' → te (σ0.set 0 (some (.ref e))) H' Q')
    (fin : ∀ D H', H1 D = none → Same H1 H' → Row H' D ((es.map (·.2)).map hdI) → Q (.ref D) H') : CompRun (Itl K L) (gName 0) tTrue te σ0 H1 Q := by
  have hlen : es.length = prs.length * w0 prs := by
    have := sorted_len hg S
    rw [List.length_map] at this
    exact this
  obtain ⟨g, g1, g2, g3, g4⟩ := good_of hg
  have hn36 : prs.length * w0 prs ≤ 36 := Nat.mul_le_mul g2 g4
  refine comp_map (fun e : Addr × List Int => V.ref e.1) (fun e => .int (hdI e.2)) (SqL.of hLl) (sl6 (by omega)) (fun e he H' Q' sm q' => ?_) fun M H3 hM s3 hMl => fin M H3 hM s3 ?_
  · obtain ⟨i, j, _, _, e2⟩ := sorted_ent hg S (List.mem_map.mpr ⟨e, he, rfl⟩)
    have ee : H' e.1 = some (.tup [.int ((rowAt prs i).getD j 0), .int (i : Nat), .int (j : Nat)]) := by
      have := sm _ _ (hes e he)
      rw [e2] at this
      exact this
    refine hte e.1 _ _ _ H' Q' ee ?_
    rw [e2] at q'
    exact q' _ (Same.refl _)
  · unfold Row
    rw [hMl, List.map_map, List.map_map]
    rfl
set_option maxHeartbeats 16000000 in
theorem ok_turR (D : DefAt K mg "_law_turned_right" dTurR ["table"]) (G1 : FnAt P w K mg base 7 "merged" ["table"] spMerged) (G2 : FnAt P w K mg base 7 "laid_over" ["table"] (spOver overR)) (G3 : FnAt P w K mg base 7 "turned_about" ["table"] (spOver aboutR)) : FnAt P w K mg base 8 "_law_turned_right" ["table"] spT1 := by
  refine FnAt.of D sc_turR (fun vs H Q E h => ?_) (fun f cdv A outer s H vs Q E hr h => ?_)
  · obtain ⟨t, prs, rfl, _⟩ := h
    rfl
  · obtain ⟨t, prs, rfl, hT, hg, q⟩ := h
    obtain ⟨g, g1, g2, g3, g4⟩ := good_of hg
    have hn36 : prs.length * w0 prs ≤ 36 := Nat.mul_le_mul g2 g4
    have nd := sc_turR.nd
    have nd1 : (["one"] : List Str).Nodup := by decide +kernel
    have nd2 : (["number"] : List Str).Nodup := by decide +kernel
    refine ⟨_, pss_cons (ps_setC ["one"] [none] (defScope dTurR) tuN (i := 1) nd rfl (Or.inl rfl) rfl (pi_list (pe_f G1 hr (pa_cons (pv 0) pa_nil))) (by decide +kernel) (fun cl C s2 H2 ex => pg_c 0 nd1) (fun cl C s2 H2 ex => pifs_nil) (fun cl C s2 H2 ex => pe_ix (ixT K) (pv 0) pe_int (fun _ _ => rfl)))
      (pss_cons (ps_if (pt_cmpR (op_neD hr.units) (pe_comp ["one"] [none] (defScope dTurR) tuN rfl (pi_list (pe_f G1 hr (pa_cons (pe_f G2 hr (pa_cons (pv 0) pa_nil)) pa_nil))) (by decide +kernel) (fun cl C s2 H2 ex => pg_c 0 nd1) (fun cl C s2 H2 ex => pifs_nil) (fun cl C s2 H2 ex => pe_ix (ixT K) (pv 0) pe_int (fun _ _ => rfl))) (pv 1) (nomark _)) (pss_one (ps_ret pe_bl)) pss_nil)
      (pss_cons (ps_setC ["one"] [none] (defScope dTurR) tuN (i := 2) nd rfl (Or.inl rfl) rfl (pi_list (pe_f G1 hr (pa_cons (pe_f G3 hr (pa_cons (pv 0) pa_nil)) pa_nil))) (by decide +kernel) (fun cl C s2 H2 ex => pg_c 0 nd1) (fun cl C s2 H2 ex => pifs_nil) (fun cl C s2 H2 ex => pe_ix (ixT K) (pv 0) pe_int (fun _ _ => rfl)))
      (pss_one (ps_ret (pe_cmpR (op_eqD hr.units) (pv 2) (pe_comp ["number"] [none] (defScope dTurR) tuN rfl (pi_list (pe_rev (pv 1) (po_some (pe_un o_neg pe_int)))) (by decide +kernel) (fun cl C s2 H2 ex => pg_c 0 nd2) (fun cl C s2 H2 ex => pifs_nil) (fun cl C s2 H2 ex => pe_op o_sub pe_int (pv 0))) (nomark _)))))), ?_⟩
    refine ⟨_, rfl, t, prs, rfl, hT, hg, fun L es H1 hL s1 hLl hes S => ⟨L, rfl, ⟨_, SqL.of hLl⟩, heads_run hg hLl (fun e he => (hes e he).1) S (fun e n r p H' Q' ee q' => ⟨_, rfl, e, _, 0, .int n, rfl, rfl, SqT.of ee, rfl, q'⟩) fun N H2 hN s2 rN => ?_⟩⟩
    have hT2 := (hT.same s1).same s2
    refine ⟨_, rfl, t, prs, rfl, hT2, hg, fun to os H3 hto hos hon s3 hTo hom => ⟨to, os, rfl, hTo, (over_good hg hom).1, fun Lo eo H4 hLo s4 hLol heo So => ⟨Lo, rfl, ⟨_, SqL.of hLol⟩, heads_run (over_good hg hom).1 hLol (fun e he => (heo e he).1) So (fun e n r p H' Q' ee q' => ⟨_, rfl, e, _, 0, .int n, rfl, rfl, SqT.of ee, rfl, q'⟩) fun M H5 hM s5 rM => ?_⟩⟩⟩
    have s25 := s3.trans (s4.trans s5)
    have rN5 := rN.same s25
    refine ⟨_, rfl, _, _, rM.rd, rN5.rd, shaped_row _, shaped_row _, _, rfl, ?_⟩
    rw [heads_over hg hom S So, eqv_row]
    have hT5 := hT2.same s25
    refine iteF ⟨_, rfl, t, prs, rfl, hT5, hg, fun ta as H6 hta has han s6 hTa ham => ⟨ta, as, rfl, hTa, (about_good hg ham).1, fun La ea H7 hLa s7 hLal hea Sa => ⟨La, rfl, ⟨_, SqL.of hLal⟩, heads_run (about_good hg ham).1 hLal (fun e he => (hea e he).1) Sa (fun e n r p H' Q' ee q' => ⟨_, rfl, e, _, 0, .int n, rfl, rfl, SqT.of ee, rfl, q'⟩) fun U H8 hU s8 rU => ?_⟩⟩⟩
    rw [heads_about ham S Sa] at rU
    have s58 := s6.trans (s7.trans s8)
    have rN8 := rN5.same s58
    refine ⟨_, rfl, _, rfl, 1, rfl, -1, rfl, N, _, rfl, rfl, rN8, fun R hR => ?_⟩
    have s9 : Same H8 (upd H8 R (.lst (((es.map (·.2)).map hdI).map V.int).reverse)) := Same.new hR
    have r9 : Row (upd H8 R (.lst (((es.map (·.2)).map hdI).map V.int).reverse)) R ((es.map (·.2)).map hdI).reverse := by
      unfold Row
      rw [upd_same, List.map_reverse]
    generalize upd H8 R (.lst (((es.map (·.2)).map hdI).map V.int).reverse) = H9 at s9 r9 ⊢
    have hl : ((es.map (·.2)).map hdI).reverse.length ≤ 1000 := by
      have := sorted_len hg S
      rw [List.length_map] at this
      rw [List.length_reverse, List.length_map, List.length_map]
      omega
    refine ⟨R, rfl, ⟨_, r9.sq⟩, comp_map V.int (fun n => .int (0 - n)) r9.sq (sl6 hl) (fun n hx H' Q' sm q' => ⟨_, rfl, _, _, rfl, rfl, q' _ (Same.refl _)⟩) fun Z H10 hZ s10 hZl => ?_⟩
    have rZ : Row H10 Z (negR ((es.map (·.2)).map hdI)) := by
      unfold Row negR
      rw [hZl]
      congr 2
      rw [List.map_map (g := V.int)]
      refine List.map_congr_left fun n _ => ?_
      show V.int (0 - n) = V.int (-n)
      rw [Int.zero_sub]
    refine ⟨_, _, (rU.same (s9.trans s10)).rd, rZ.rd, shaped_row _, shaped_row _, ?_⟩
    rw [eqv_row]
    exact q H10 (s1.trans (s2.trans (s25.trans (s58.trans (s9.trans s10)))))
def spLaw (K : PySem.W.Frag) : Sp := fun vs H Q _ => ∃ (a : Addr) (ns : List Int), vs = [.ref a] ∧ SqL K H a (ns.map V.int) ∧ ns.length ≤ 63 ∧ ∀ H', Q (.bl true) H'
theorem sc_law : FnScope ["script", "store", "turn", "table", "k"] ["script"] (defScope dLaw) := ⟨rfl, rfl, rfl, by decide +kernel, rfl, by decide +kernel, by decide +kernel⟩
set_option maxHeartbeats 16000000 in
theorem ok_law (T : Blt mg) {f : Addr} {fd : FuncData} (F : Fun K "law" "law" dLaw f fd) (G1 : FnAt P w K mg base 1 "_law_draws" ["script", "many"] (spDraws K)) (G2 : FnAt P w K mg base 2 "_law_table" ["store"] spTable) (G4 : FnAt P w K mg base 2 "_law_x" ["store", "table"] spX)
    (G5 : FnAt P w K mg base 10 "_law_places_right" ["table"] spT1) (G6 : FnAt P w K mg base 8 "_law_turned_right" ["table"] spT1) (G7 : FnAt P w K mg base 10 "_law_counts_right" ["table", "one", "other"] spCoR) : FnOk P w K mg base CX0 11 f fd ["script"] (spLaw K) := by
  refine F.ok sc_law (fun vs H Q E h => ?_) (fun cdv A outer s H vs Q E hr h => ?_)
  · obtain ⟨a, ns, rfl, _⟩ := h
    rfl
  · obtain ⟨a, ns, rfl, hS, hlen, q⟩ := h
    have nd := sc_law.nd
    have hr1 : Room 1 _ := hr.mono (by decide)
    have hr2 : Room 2 _ := hr.mono (by decide)
    have hr8 : Room 8 _ := hr.mono (by decide)
    refine ⟨_, pss_cons (ps_set (i := 1) nd rfl (Or.inl rfl) (pe_lst (pa_cons (pe_f G1 hr1 (pa_cons (pv 0) (pa_cons pe_int pa_nil))) (pa_cons pe_int pa_nil))))
      (pss_cons (ps_for PassesOwn.never rfl (pi_range1 rfl T.rng (pa_cons pe_int pa_nil)) (pg_name (i := 2) nd rfl (Or.inl rfl))
        (pss_cons (ps_set (i := 3) nd rfl (Or.inl rfl) (pe_f G2 hr2 (pa_cons (pv 1) pa_nil)))
        (pss_cons (ps_if (PW.pt (pw_or (pt_not (pt_val (pe_f G5 hr (pa_cons (pv 3) pa_nil)))) (pw_or1 (pt_not (pt_val (pe_f G6 hr8 (pa_cons (pv 3) pa_nil))))))) (pss_one (ps_ret pe_bl)) pss_nil)
        (pss_one (ps_for PassesOwn.never rfl (pi_range1 rfl T.rng (pa_cons pe_int pa_nil)) (pg_name (i := 4) nd rfl (Or.inl rfl))
          (pss_one (ps_if (pt_not (pt_val (pe_f G7 hr (pa_cons (pv 3) (pa_cons (pe_f G4 hr2 (pa_cons (pv 1) (pa_cons (pv 3) pa_nil))) (pa_cons (pe_f G4 hr2 (pa_cons (pv 1) (pa_cons (pv 3) pa_nil))) pa_nil)))))) (pss_one (ps_ret pe_bl)) pss_nil)))))))
      (pss_one (ps_ret pe_bl))), ?_⟩
    refine ⟨_, rfl, a, ns, rfl, hS, hlen, fun D H1 ds hD s1 rD d1 d2 dd => ⟨len2, fun st hst => ?_⟩⟩
    have S0 : StoreOk (upd H1 st (.lst [.ref D, .int 0])) st D := ⟨0, ds, upd_same, rD.same (Same.new hst), by omega, dd⟩
    refine ⟨5, rfl, by decide, by decide, for_range (fun i σ H2 => ∃ o2 o3 o4 : Option V, σ = [some (.ref a), some (.ref st), o2, o3, o4] ∧ StoreOk H2 st D) ⟨none, none, none, rfl, S0⟩ ?_ (fun σ H2 _ => q H2)⟩
    rintro i σ H2 hi ⟨o2, o3, o4, rfl, S2⟩
    refine ⟨_, rfl, st, D, rfl, S2, fun t prs H3 ht hfr hnd B3 S3 hT3 hg => ?_⟩
    refine ⟨_, rfl, t, prs, rfl, hT3, hg, fun H4 s4 => ⟨_, rfl, iteF ⟨_, rfl, t, prs, rfl, hT3.same s4, hg, fun H5 s5 => ⟨_, rfl, iteF ?_⟩⟩⟩⟩
    have hT5 := (hT3.same s4).same s5
    have S5 := (S3.same s4).same s5
    refine ⟨3, rfl, by decide, by decide, for_range (fun j σ H4 => ∃ o2 o4 : Option V, σ = [some (.ref a), some (.ref st), o2, some (.ref t), o4] ∧ StoreOk H4 st D ∧ Tab H4 t prs) ⟨_, _, rfl, S5, hT5⟩ ?_ (fun σ H4 ⟨_, _, h, S4, _⟩ => ⟨_, _, _, h, S4⟩)⟩
    rintro j σ H6 hj ⟨o2, o4, rfl, S6, hT6⟩
    refine ⟨_, rfl, _, rfl, _, rfl, st, D, t, prs, rfl, S6, hT6, hg, fun x H7 B7 S7 => ?_⟩
    have hT7 := hT6.but S6 B7
    refine ⟨_, rfl, _, rfl, st, D, t, prs, rfl, S7, hT7, hg, fun y H8 B8 S8 => ?_⟩
    have hT8 := hT7.but S7 B8
    exact ⟨t, prs, x, y, rfl, hT8, hg, fun H9 s9 => ⟨_, rfl, iteF ⟨_, _, rfl, S8.same s9, hT8.same s9⟩⟩⟩
end
open PySem L2 PyProof.Rows
theorem defAt_mk {K : PySem.W.Frag} {h : Heap} {mg : Str → Option Value} {x : Str} {st : Stmt} {ps : List Str} {f : Addr} (X : K.In h) (G : h.Ns mainGlobals mg) {od an : Option Addr} {sl : Array (Option Value)} {oc kV dc pm cd ct : Value}
    (a : PySem.W.nsIn K mainGlobals x = some (some (.ref f))) (l : K.lookup f = some ⟨oc, od, .func (PySem.W.fnOf x x (defArgs st) (defBody st) (defScope st) .none kV dc pm an cd ct), sl⟩) (c : PySem.W.codeIn K cd x = true) (k : PySem.W.keepIn K (.ref f) = true)
    (b : ∀ (kV doc pm : Value) (an : Option Addr) (cdv ct : Value) (us : List Value), us.length = ps.length → bindArgs (PySem.W.fnOf x x (defArgs st) (defBody st) (defScope st) .none kV doc pm an cdv ct) ⟨us, []⟩ = pure (ps.zip us)) : DefAt K mg x st ps := by
  have F := fun_mk (st := st) l c k
  exact ⟨f, _, F, PySem.W.mg_of X G a, F.binds b⟩
theorem blt_mk {K : PySem.W.Frag} {h : Heap} {mg : Str → Option Value} {t1 t2 : Tok} (X : K.In h) (G : h.Ns mainGlobals mg) (e1 : PySem.W.nsIn K mainGlobals "len" = some none) (e2 : PySem.W.nsIn K mainGlobals "all" = some none) (e3 : PySem.W.nsIn K mainGlobals "isinstance" = some none)
    (e4 : PySem.W.nsIn K mainGlobals "range" = some none) (e5 : PySem.W.nsIn K mainGlobals "int" = some none) (e6 : PySem.W.nsIn K mainGlobals "bool" = some none) (e7 : PySem.W.nsIn K mainGlobals "list" = some none) (e8 : PySem.W.nsIn K mainGlobals "enumerate" = some none)
    (e9 : PySem.W.nsIn K mainGlobals "abs" = some none) (e10 : PySem.W.nsIn K mainGlobals "max" = some none) (e11 : PySem.W.nsIn K mainGlobals "MOST_ROWS" = some (some (.int 6 t1))) (e12 : PySem.W.nsIn K mainGlobals "MOST_PLACES" = some (some (.int 6 t2))) : Blt mg :=
  ⟨PySem.W.mg_none_of X G e1, PySem.W.mg_none_of X G e2, PySem.W.mg_none_of X G e3, PySem.W.mg_none_of X G e4, PySem.W.mg_none_of X G e5, PySem.W.mg_none_of X G e6, PySem.W.mg_none_of X G e7, PySem.W.mg_none_of X G e8, PySem.W.mg_none_of X G e9, PySem.W.mg_none_of X G e10,
    ⟨_, PySem.W.mg_of X G e11⟩, ⟨_, PySem.W.mg_of X G e12⟩⟩
theorem walk {l : PySem.W.OpenLaw} {q : Program} {loose : List Str} {XP : (Str → Option Value) → Heap → Prop} {YP : World → Heap → Prop} {d : DefRec} {K : Params → PySem.W.Frag} (hn : l.most = some 63) (hdf : d.params.defaults = [])
    (hY : ∀ (w : World) (h : Heap), YP w h → (K w.params).In h)
    (F : ∀ (w : World) (mg : Str → Option Value) (fa : Addr) (h : Heap), (K w.params).In h → h.Ns mainGlobals mg → mg d.name = some (.ref fa) →
      ∃ fd : FuncData, (∀ (s : Shared) (u : Value), BindsTo s fd ⟨[u], []⟩ [("script", u)]) ∧ ∀ base : Heap, (K w.params).In base → base.Ns mainGlobals mg → FnOk l.prog w (K w.params) mg base CX0 20 fa fd ["script"] (spLaw (K w.params))) :
    PySem.W.WalkO q loose XP YP l.row.toRowW d [] (fun f vs => PySem.call f vs) :=
  L2.walk_of (n := 63) (k := 20) (x := "script") (CX := fun _ => CX0) (sp := fun w => spLaw (K w.params)) hn (by decide) hdf ⟨rfl, by decide, by decide, rfl⟩ hY F (fun _ _ a ns hl _ hS => ⟨a, ns, rfl, hS, hl, fun _ => rfl⟩) fun _ _ _ _ _ z => z
open PySem L2 PyProof.Rows
theorem all_mk {l : PySem.W.OpenLaw} {w : World} {K : PySem.W.Frag} {mg : Str → Option Value} {fa : Addr} (hfa : mg "law" = some (.ref fa)) (T : Blt mg) (h_tuple : mg "tuple" = none) (h_reversed : mg "reversed" = none) (h_sorted : mg "sorted" = none) (h_sum : mg "sum" = none) (h_set : mg "set" = none)
    (d_is_whole : DefAt K mg "is_whole" dIsWhole ["thing"])
    (d_all_whole : DefAt K mg "all_whole" dAllWhole ["things"])
    (d_never_falls : DefAt K mg "never_falls" dNeverFalls ["numbers"])
    (d_is_row : DefAt K mg "is_row" dIsRow ["thing"])
    (d_has_table_shape : DefAt K mg "has_table_shape" dShape ["thing"])
    (d_numbers_at_place : DefAt K mg "numbers_at_place" dAtPlace ["table", "place"])
    (d_is_sorted_both_ways : DefAt K mg "is_sorted_both_ways" dSorted ["table"])
    (d_is_table : DefAt K mg "is_table" dIsTable ["thing"])
    (d_is_cell_of_size : DefAt K mg "is_cell_of_size" dCellSz ["rows", "places", "thing"])
    (d_is_cell : DefAt K mg "is_cell" dIsCell ["table", "thing"])
    (d_need_table : DefAt K mg "need_table" dNeedTable ["thing"])
    (d_need_cell : DefAt K mg "need_cell" dNeedCell ["table", "thing"])
    (d_need_number : DefAt K mg "need_number" dNeedNumber ["thing"])
    (d_number_at : DefAt K mg "number_at" dNumberAt ["table", "cell"])
    (d_cells_of : DefAt K mg "cells_of" dCells ["table", "x"])
    (d_how_many_less : DefAt K mg "how_many_less" dLess ["row", "x"])
    (d_how_many_at_most : DefAt K mg "how_many_at_most" dMost ["row", "x"])
    (d_stair_of : DefAt K mg "stair_of" dStair ["table", "x"])
    (d_high_stair : DefAt K mg "high_stair" dHigh ["table", "x"])
    (d_how_many_cells : DefAt K mg "how_many_cells" dMany ["table"])
    (d_merged : DefAt K mg "merged" dMerged ["table"])
    (d_need_place : DefAt K mg "need_place" dNeedPlace ["table", "thing"])
    (d_number_by : DefAt K mg "number_by" dNumberBy ["table", "k"])
    (d_middle : DefAt K mg "middle" dMiddle ["table"])
    (d_count_less : DefAt K mg "count_less" dCless ["table", "x"])
    (d_count_most : DefAt K mg "count_most" dCmost ["table", "x"])
    (d_count_from : DefAt K mg "count_from" dCfrom ["table", "a", "b"])
    (d_laid_over : DefAt K mg "laid_over" dOver ["table"])
    (d_turned_row : DefAt K mg "turned_row" dTRow ["row"])
    (d_turned_about : DefAt K mg "turned_about" dAbout ["table"])
    (d__law_draws : DefAt K mg "_law_draws" dDraws ["script", "many"])
    (d__law_take : DefAt K mg "_law_take" dTake ["store", "many"])
    (d__law_table : DefAt K mg "_law_table" dTable ["store"])
    (d__law_x : DefAt K mg "_law_x" dX ["store", "table"])
    (d__law_places_right : DefAt K mg "_law_places_right" dPlR ["table"])
    (d__law_counts_right : DefAt K mg "_law_counts_right" dCoR ["table", "one", "other"])
    (d__law_turned_right : DefAt K mg "_law_turned_right" dTurR ["table"])
    (d_law : DefAt K mg "law" dLaw ["script"])
    : ∃ fd : FuncData, (∀ (s : Shared) (v : Value), BindsTo s fd ⟨[v], []⟩ [("script", v)]) ∧ ∀ base : Heap, K.In base → base.Ns mainGlobals mg → FnOk l.prog w K mg base CX0 20 fa fd ["script"] (spLaw K) := by
  obtain ⟨f, fd, F, hm, hb⟩ := d_law
  have e := hfa.symm.trans hm
  cases e
  refine ⟨fd, ?_, fun base _ _ => ?_⟩
  · obtain ⟨oc, od, kV, doc, pm, an, cdv, ct, osl, rfl, lk, hcd⟩ := F.ex
    exact fun s v => .of_eq rfl
  · have g_is_whole := ok_isWhole (P := l.prog) (w := w) (base := base) T d_is_whole
    have g_all_whole := ok_allWhole T d_all_whole g_is_whole
    have g_never_falls := ok_nf (P := l.prog) (w := w) (base := base) T d_never_falls
    have g_is_row := ok_isRow T d_is_row g_all_whole
    have g_has_table_shape := ok_shape T d_has_table_shape g_is_row
    have g_numbers_at_place := ok_atPlace (P := l.prog) (w := w) (base := base) d_numbers_at_place
    have g_is_sorted_both_ways := ok_sorted T d_is_sorted_both_ways g_never_falls g_numbers_at_place
    have g_is_table := ok_isTable d_is_table g_has_table_shape g_is_sorted_both_ways
    have g_is_cell_of_size := ok_cellSz T h_tuple d_is_cell_of_size (ok_allWholeT T d_all_whole g_is_whole)
    have g_is_cell := ok_isCell T d_is_cell g_is_cell_of_size
    have g_need_table := ok_needTable d_need_table g_is_table
    have g_need_cell := ok_needCell d_need_cell g_is_cell
    have g_need_number := ok_needNumber d_need_number g_is_whole
    have g_number_at := ok_numberAt d_number_at g_need_table g_need_cell
    have g_cells_of := ok_cells T d_cells_of g_need_table g_need_number
    have g_how_many_less := ok_less (P := l.prog) (w := w) (base := base) T d_how_many_less
    have g_how_many_at_most := ok_most (P := l.prog) (w := w) (base := base) T d_how_many_at_most
    have g_stair_of := ok_stair d_stair_of g_need_table g_need_number g_how_many_less
    have g_high_stair := ok_high d_high_stair g_need_table g_need_number g_how_many_at_most
    have g_how_many_cells := ok_many (P := l.prog) (w := w) (base := base) T d_how_many_cells
    have g_merged := ok_merged T h_sorted d_merged g_need_table
    have g_need_place := ok_needPlace d_need_place g_is_whole g_how_many_cells
    have g_number_by := ok_numberBy d_number_by g_need_table g_need_place g_merged
    have g_middle := ok_middle d_middle g_need_table g_number_by g_how_many_cells
    have g_count_less := ok_cless h_sum d_count_less g_stair_of
    have g_count_most := ok_cmost h_sum d_count_most g_high_stair
    have g_count_from := ok_cfrom T d_count_from g_count_less g_count_most
    have g_laid_over := ok_over T d_laid_over g_need_table g_numbers_at_place
    have g_turned_row := ok_trow (P := l.prog) (w := w) (base := base) h_reversed d_turned_row
    have g_turned_about := ok_about h_reversed d_turned_about g_need_table g_turned_row
    have g__law_draws := ok_draws (P := l.prog) (w := w) (base := base) T d__law_draws
    have g__law_take := ok_take (P := l.prog) (w := w) (base := base) T d__law_take
    have g__law_table := ok_table T d__law_table g__law_take
    have g__law_x := ok_x T d__law_x g__law_take
    have g__law_places_right := ok_plR T h_sorted h_set d__law_places_right g_merged g_number_by g_number_at g_count_less g_count_most g_middle
    have g__law_counts_right := ok_coR T d__law_counts_right g_merged g_cells_of g_count_less g_count_most g_count_from
    have g__law_turned_right := ok_turR d__law_turned_right g_merged g_laid_over g_turned_about
    exact FnOk.mono (ok_law T F g__law_draws g__law_table g__law_x g__law_places_right g__law_turned_right g__law_counts_right) (by decide)
end Seek
def PySem.W.Fast.tw10323129732543598497 : Unit := ()
def PySem.W.Fast.tw11224443252715567 : Unit := ()
def PySem.W.Fast.tw12366757069904804666 : Unit := ()
def PySem.W.Fast.tw12768104268845275416 : Unit := ()
def PySem.W.Fast.tw12797568135629092658 : Unit := ()
def PySem.W.Fast.tw12920660325797149895 : Unit := ()
def PySem.W.Fast.tw13830786819337489582 : Unit := ()
def PySem.W.Fast.tw13920687409587818508 : Unit := ()
def PySem.W.Fast.tw16055570205931308831 : Unit := ()
def PySem.W.Fast.tw16812904613042014959 : Unit := ()
def PySem.W.Fast.tw16853695558876742570 : Unit := ()
def PySem.W.Fast.tw470734513837828283 : Unit := ()
def PySem.W.Fast.tw4768385486741259032 : Unit := ()
def PySem.W.Fast.tw4900920503371691800 : Unit := ()
def PySem.W.Fast.tw5238155115072519938 : Unit := ()
def PySem.W.Fast.tw606554361754476531 : Unit := ()
def PySem.W.Fast.tw7365491548237136699 : Unit := ()
def PySem.W.Fast.tw7529284211298468507 : Unit := ()
def PySem.W.Fast.tw8085449570495746823 : Unit := ()
def PySem.W.Fast.tw8503228967660863802 : Unit := ()
def PySem.W.Fast.tw8706007380314161164 : Unit := ()
def PySem.W.Fast.tw8838352496721051170 : Unit := ()
def PySem.W.Fast.tw9560548975150146273 : Unit := ()
def PySem.W.Fast.tw9822512396903975045 : Unit := ()
open PySem PySem.W PyProof.Rows
set_option maxRecDepth 100000 in
set_option maxHeartbeats 0 in
theorem PySem.Challenge.cw_stairseek_k24_whole_order_together_holds : PySem.Challenge.rw_stairseek_k24_whole_order_together.Holds := by
  w_on; o_law; k_head; (case hw => w_witness2)
  k_fill
  refine Seek.walk (l := PySem.Challenge.rw_stairseek_k24_whole_order_together) rfl rfl (fun w h Y => PySem.W.kIn_of Y) ?F
  case F =>
    intro w mg fa h KX G hmg
    refine' Seek.all_mk hmg ?T ?x_tuple ?x_reversed ?x_sorted ?x_sum ?x_set ?d_is_whole ?d_all_whole ?d_never_falls ?d_is_row ?d_has_table_shape ?d_numbers_at_place ?d_is_sorted_both_ways ?d_is_table ?d_is_cell_of_size ?d_is_cell ?d_need_table ?d_need_cell ?d_need_number ?d_number_at ?d_cells_of ?d_how_many_less ?d_how_many_at_most ?d_stair_of ?d_high_stair ?d_how_many_cells ?d_merged ?d_need_place ?d_number_by ?d_middle ?d_count_less ?d_count_most ?d_count_from ?d_laid_over ?d_turned_row ?d_turned_about ?d__law_draws ?d__law_take ?d__law_table ?d__law_x ?d__law_places_right ?d__law_counts_right ?d__law_turned_right ?d_law
    case T =>
      refine' Seek.blt_mk KX G ?e1 ?e2 ?e3 ?e4 ?e5 ?e6 ?e7 ?e8 ?e9 ?e10 ?e11 ?e12
      (case e1 => k_is); (case e2 => k_is); (case e3 => k_is); (case e4 => k_is); (case e5 => k_is); (case e6 => k_is); (case e7 => k_is); (case e8 => k_is); (case e9 => k_is); (case e10 => k_is); (case e11 => k_is); (case e12 => k_is)
    case x_tuple =>
      refine' PySem.W.mg_none_of KX G ?e
      (case e => k_is)
    case x_reversed =>
      refine' PySem.W.mg_none_of KX G ?e
      (case e => k_is)
    case x_sorted =>
      refine' PySem.W.mg_none_of KX G ?e
      (case e => k_is)
    case x_sum =>
      refine' PySem.W.mg_none_of KX G ?e
      (case e => k_is)
    case x_set =>
      refine' PySem.W.mg_none_of KX G ?e
      (case e => k_is)
    case d_is_whole =>
      refine' Seek.defAt_mk KX G ?a ?l ?c ?k ?b
      (case a => k_is); (case l => k_is); (case c => k_is); (case k => k_is)
      case b => exact fun _ _ _ _ _ _ us hl => match us, hl with | [_], _ => rfl
    case d_all_whole =>
      refine' Seek.defAt_mk KX G ?a ?l ?c ?k ?b
      (case a => k_is); (case l => k_is); (case c => k_is); (case k => k_is)
      case b => exact fun _ _ _ _ _ _ us hl => match us, hl with | [_], _ => rfl
    case d_never_falls =>
      refine' Seek.defAt_mk KX G ?a ?l ?c ?k ?b
      (case a => k_is); (case l => k_is); (case c => k_is); (case k => k_is)
      case b => exact fun _ _ _ _ _ _ us hl => match us, hl with | [_], _ => rfl
    case d_is_row =>
      refine' Seek.defAt_mk KX G ?a ?l ?c ?k ?b
      (case a => k_is); (case l => k_is); (case c => k_is); (case k => k_is)
      case b => exact fun _ _ _ _ _ _ us hl => match us, hl with | [_], _ => rfl
    case d_has_table_shape =>
      refine' Seek.defAt_mk KX G ?a ?l ?c ?k ?b
      (case a => k_is); (case l => k_is); (case c => k_is); (case k => k_is)
      case b => exact fun _ _ _ _ _ _ us hl => match us, hl with | [_], _ => rfl
    case d_numbers_at_place =>
      refine' Seek.defAt_mk KX G ?a ?l ?c ?k ?b
      (case a => k_is); (case l => k_is); (case c => k_is); (case k => k_is)
      case b => exact fun _ _ _ _ _ _ us hl => match us, hl with | [_, _], _ => rfl
    case d_is_sorted_both_ways =>
      refine' Seek.defAt_mk KX G ?a ?l ?c ?k ?b
      (case a => k_is); (case l => k_is); (case c => k_is); (case k => k_is)
      case b => exact fun _ _ _ _ _ _ us hl => match us, hl with | [_], _ => rfl
    case d_is_table =>
      refine' Seek.defAt_mk KX G ?a ?l ?c ?k ?b
      (case a => k_is); (case l => k_is); (case c => k_is); (case k => k_is)
      case b => exact fun _ _ _ _ _ _ us hl => match us, hl with | [_], _ => rfl
    case d_is_cell_of_size =>
      refine' Seek.defAt_mk KX G ?a ?l ?c ?k ?b
      (case a => k_is); (case l => k_is); (case c => k_is); (case k => k_is)
      case b => exact fun _ _ _ _ _ _ us hl => match us, hl with | [_, _, _], _ => rfl
    case d_is_cell =>
      refine' Seek.defAt_mk KX G ?a ?l ?c ?k ?b
      (case a => k_is); (case l => k_is); (case c => k_is); (case k => k_is)
      case b => exact fun _ _ _ _ _ _ us hl => match us, hl with | [_, _], _ => rfl
    case d_need_table =>
      refine' Seek.defAt_mk KX G ?a ?l ?c ?k ?b
      (case a => k_is); (case l => k_is); (case c => k_is); (case k => k_is)
      case b => exact fun _ _ _ _ _ _ us hl => match us, hl with | [_], _ => rfl
    case d_need_cell =>
      refine' Seek.defAt_mk KX G ?a ?l ?c ?k ?b
      (case a => k_is); (case l => k_is); (case c => k_is); (case k => k_is)
      case b => exact fun _ _ _ _ _ _ us hl => match us, hl with | [_, _], _ => rfl
    case d_need_number =>
      refine' Seek.defAt_mk KX G ?a ?l ?c ?k ?b
      (case a => k_is); (case l => k_is); (case c => k_is); (case k => k_is)
      case b => exact fun _ _ _ _ _ _ us hl => match us, hl with | [_], _ => rfl
    case d_number_at =>
      refine' Seek.defAt_mk KX G ?a ?l ?c ?k ?b
      (case a => k_is); (case l => k_is); (case c => k_is); (case k => k_is)
      case b => exact fun _ _ _ _ _ _ us hl => match us, hl with | [_, _], _ => rfl
    case d_cells_of =>
      refine' Seek.defAt_mk KX G ?a ?l ?c ?k ?b
      (case a => k_is); (case l => k_is); (case c => k_is); (case k => k_is)
      case b => exact fun _ _ _ _ _ _ us hl => match us, hl with | [_, _], _ => rfl
    case d_how_many_less =>
      refine' Seek.defAt_mk KX G ?a ?l ?c ?k ?b
      (case a => k_is); (case l => k_is); (case c => k_is); (case k => k_is)
      case b => exact fun _ _ _ _ _ _ us hl => match us, hl with | [_, _], _ => rfl
    case d_how_many_at_most =>
      refine' Seek.defAt_mk KX G ?a ?l ?c ?k ?b
      (case a => k_is); (case l => k_is); (case c => k_is); (case k => k_is)
      case b => exact fun _ _ _ _ _ _ us hl => match us, hl with | [_, _], _ => rfl
    case d_stair_of =>
      refine' Seek.defAt_mk KX G ?a ?l ?c ?k ?b
      (case a => k_is); (case l => k_is); (case c => k_is); (case k => k_is)
      case b => exact fun _ _ _ _ _ _ us hl => match us, hl with | [_, _], _ => rfl
    case d_high_stair =>
      refine' Seek.defAt_mk KX G ?a ?l ?c ?k ?b
      (case a => k_is); (case l => k_is); (case c => k_is); (case k => k_is)
      case b => exact fun _ _ _ _ _ _ us hl => match us, hl with | [_, _], _ => rfl
    case d_how_many_cells =>
      refine' Seek.defAt_mk KX G ?a ?l ?c ?k ?b
      (case a => k_is); (case l => k_is); (case c => k_is); (case k => k_is)
      case b => exact fun _ _ _ _ _ _ us hl => match us, hl with | [_], _ => rfl
    case d_merged =>
      refine' Seek.defAt_mk KX G ?a ?l ?c ?k ?b
      (case a => k_is); (case l => k_is); (case c => k_is); (case k => k_is)
      case b => exact fun _ _ _ _ _ _ us hl => match us, hl with | [_], _ => rfl
    case d_need_place =>
      refine' Seek.defAt_mk KX G ?a ?l ?c ?k ?b
      (case a => k_is); (case l => k_is); (case c => k_is); (case k => k_is)
      case b => exact fun _ _ _ _ _ _ us hl => match us, hl with | [_, _], _ => rfl
    case d_number_by =>
      refine' Seek.defAt_mk KX G ?a ?l ?c ?k ?b
      (case a => k_is); (case l => k_is); (case c => k_is); (case k => k_is)
      case b => exact fun _ _ _ _ _ _ us hl => match us, hl with | [_, _], _ => rfl
    case d_middle =>
      refine' Seek.defAt_mk KX G ?a ?l ?c ?k ?b
      (case a => k_is); (case l => k_is); (case c => k_is); (case k => k_is)
      case b => exact fun _ _ _ _ _ _ us hl => match us, hl with | [_], _ => rfl
    case d_count_less =>
      refine' Seek.defAt_mk KX G ?a ?l ?c ?k ?b
      (case a => k_is); (case l => k_is); (case c => k_is); (case k => k_is)
      case b => exact fun _ _ _ _ _ _ us hl => match us, hl with | [_, _], _ => rfl
    case d_count_most =>
      refine' Seek.defAt_mk KX G ?a ?l ?c ?k ?b
      (case a => k_is); (case l => k_is); (case c => k_is); (case k => k_is)
      case b => exact fun _ _ _ _ _ _ us hl => match us, hl with | [_, _], _ => rfl
    case d_count_from =>
      refine' Seek.defAt_mk KX G ?a ?l ?c ?k ?b
      (case a => k_is); (case l => k_is); (case c => k_is); (case k => k_is)
      case b => exact fun _ _ _ _ _ _ us hl => match us, hl with | [_, _, _], _ => rfl
    case d_laid_over =>
      refine' Seek.defAt_mk KX G ?a ?l ?c ?k ?b
      (case a => k_is); (case l => k_is); (case c => k_is); (case k => k_is)
      case b => exact fun _ _ _ _ _ _ us hl => match us, hl with | [_], _ => rfl
    case d_turned_row =>
      refine' Seek.defAt_mk KX G ?a ?l ?c ?k ?b
      (case a => k_is); (case l => k_is); (case c => k_is); (case k => k_is)
      case b => exact fun _ _ _ _ _ _ us hl => match us, hl with | [_], _ => rfl
    case d_turned_about =>
      refine' Seek.defAt_mk KX G ?a ?l ?c ?k ?b
      (case a => k_is); (case l => k_is); (case c => k_is); (case k => k_is)
      case b => exact fun _ _ _ _ _ _ us hl => match us, hl with | [_], _ => rfl
    case d__law_draws =>
      refine' Seek.defAt_mk KX G ?a ?l ?c ?k ?b
      (case a => k_is); (case l => k_is); (case c => k_is); (case k => k_is)
      case b => exact fun _ _ _ _ _ _ us hl => match us, hl with | [_, _], _ => rfl
    case d__law_take =>
      refine' Seek.defAt_mk KX G ?a ?l ?c ?k ?b
      (case a => k_is); (case l => k_is); (case c => k_is); (case k => k_is)
      case b => exact fun _ _ _ _ _ _ us hl => match us, hl with | [_, _], _ => rfl
    case d__law_table =>
      refine' Seek.defAt_mk KX G ?a ?l ?c ?k ?b
      (case a => k_is); (case l => k_is); (case c => k_is); (case k => k_is)
      case b => exact fun _ _ _ _ _ _ us hl => match us, hl with | [_], _ => rfl
    case d__law_x =>
      refine' Seek.defAt_mk KX G ?a ?l ?c ?k ?b
      (case a => k_is); (case l => k_is); (case c => k_is); (case k => k_is)
      case b => exact fun _ _ _ _ _ _ us hl => match us, hl with | [_, _], _ => rfl
    case d__law_places_right =>
      refine' Seek.defAt_mk KX G ?a ?l ?c ?k ?b
      (case a => k_is); (case l => k_is); (case c => k_is); (case k => k_is)
      case b => exact fun _ _ _ _ _ _ us hl => match us, hl with | [_], _ => rfl
    case d__law_counts_right =>
      refine' Seek.defAt_mk KX G ?a ?l ?c ?k ?b
      (case a => k_is); (case l => k_is); (case c => k_is); (case k => k_is)
      case b => exact fun _ _ _ _ _ _ us hl => match us, hl with | [_, _, _], _ => rfl
    case d__law_turned_right =>
      refine' Seek.defAt_mk KX G ?a ?l ?c ?k ?b
      (case a => k_is); (case l => k_is); (case c => k_is); (case k => k_is)
      case b => exact fun _ _ _ _ _ _ us hl => match us, hl with | [_], _ => rfl
    case d_law =>
      refine' Seek.defAt_mk KX G ?a ?l ?c ?k ?b
      (case a => k_is); (case l => k_is); (case c => k_is); (case k => k_is)
      case b => exact fun _ _ _ _ _ _ us hl => match us, hl with | [_], _ => rfl

