import PyProof.Rows.All
import Wide.All
import OpenK.AllK
import Wide.FinOn
import Lean
import PyProof.EqAt
import PyProof.EqKinds
import PyProof.TupleCall
import PySem.Challenge.RW_stairseek_k23_no_tables_no_places_no_num
-- CHANGE: your row's module here, as the last of these rows
set_option Elab.async false
set_option linter.all false
set_option maxRecDepth 100000
/-! THE HAND LAYER, for ints, bools, texts, own classes, LISTS and tuples (index, slices, in, append, pop ..), calls, loops. Paste it whole ahead of your own text; what your proof does not reach may be deleted. -/
namespace L2
open PySem PySem.Spec PyProof.Rows

/-- a key: an int or a str -/
abbrev Key := Sum Int Str
def keyIs : Key → Value → Bool
  | .inl k, v => Value.isInt k v
  | .inr x, v => Value.isStrOf x v
def keyH (w : World) : Key → Int
  | .inl k => hashInt k
  | .inr x => hashStr w x
theorem keyIs_shape : ∀ {k : Key} {v : Value}, keyIs k v = true → (∃ i t, k = Sum.inl i ∧ v = Value.int i t) ∨ (∃ x t, k = Sum.inr x ∧ v = Value.str x t)
  | .inl i, v, h => by
    obtain ⟨t, e⟩ := Value.isInt_shape (k := i) (v := v) h
    exact .inl ⟨i, t, rfl, e⟩
  | .inr x, v, h => by
    obtain ⟨t, e⟩ := Value.isStrOf_shape (x := x) (v := v) h
    exact .inr ⟨x, t, rfl, e⟩
theorem key_ll (a b : Int) : decide ((Sum.inl a : Key) = Sum.inl b) = (a == b) := by
  by_cases e : a = b
  · subst e; simp
  · have h : ¬ (Sum.inl a : Key) = Sum.inl b := fun q => e (Sum.inl.inj q)
    rw [decide_eq_false h]
    exact (beq_eq_false_iff_ne.mpr e).symm
theorem key_rr (a b : Str) : decide ((Sum.inr a : Key) = Sum.inr b) = decide (a = b) := by
  by_cases e : a = b
  · subst e; simp
  · have h : ¬ (Sum.inr a : Key) = Sum.inr b := fun q => e (Sum.inr.inj q)
    rw [decide_eq_false h, decide_eq_false e]
theorem key_lr (a : Int) (b : Str) : decide ((Sum.inl a : Key) = Sum.inr b) = false := decide_eq_false (fun q => nomatch q)
theorem key_rl (a : Str) (b : Int) : decide ((Sum.inr a : Key) = Sum.inl b) = false := decide_eq_false (fun q => nomatch q)

def mixKind (prog : Program) (w : World) : PySem.KeyKind prog w Key where
  is := keyIs
  hash := keyH w
  inj := fun v a b ha hb => by
    rcases keyIs_shape ha with ⟨i, t, rfl, rfl⟩ | ⟨x, t, rfl, rfl⟩
    · rcases keyIs_shape hb with ⟨j, u, rfl, e⟩ | ⟨y, u, rfl, e⟩
      · injection e with e1 _; rw [e1]
      · exact nomatch e
    · rcases keyIs_shape hb with ⟨j, u, rfl, e⟩ | ⟨y, u, rfl, e⟩
      · exact nomatch e
      · injection e with e1 _; rw [e1]
  byValue := fun k v h => by
    rcases keyIs_shape h with ⟨i, t, rfl, rfl⟩ | ⟨x, t, rfl, rfl⟩ <;> rfl
  pyHash := fun hv h => by
    rcases keyIs_shape hv with ⟨i, t, rfl, rfl⟩ | ⟨x, t, rfl, rfl⟩
    · exact wpAny_pyHash_int h
    · exact wpAny_pyHash_str h
  eqBool := fun hu hv h => by
    rcases keyIs_shape hu with ⟨i, t, rfl, rfl⟩ | ⟨x, t, rfl, rfl⟩
    · rcases keyIs_shape hv with ⟨j, u, rfl, rfl⟩ | ⟨y, u, rfl, rfl⟩
      · rw [key_ll] at h; exact wpAny_eqBool_int h
      · rw [key_lr] at h; exact SeqAt.EqAt.int_str i t y u _ _ _ _ h
    · rcases keyIs_shape hv with ⟨j, u, rfl, rfl⟩ | ⟨y, u, rfl, rfl⟩
      · rw [key_rl] at h; exact SeqAt.EqAt.str_int x t j u _ _ _ _ h
      · rw [key_rr] at h; exact wpAny_eqBool_str h
  «strs» := fun k x t v h => by
    rcases keyIs_shape h with ⟨i, u, rfl, e⟩ | ⟨y, u, rfl, e⟩
    · exact nomatch e
    · injection e with e1 _
      subst e1
      cases v <;> rfl

end L2

namespace L2
open PySem PySem.Spec PyProof.Rows

/-- a value, without the heap -/
inductive V where
  | non | bl (b : Bool) | int (i : Int) | str (x : Str) | byt (b : Array UInt8) | flt (b : UInt64) | ref (a : Addr) | ty (n : String)
  deriving DecidableEq

def RelV : V → Value → Prop
  | .non, u => u = Value.none
  | .bl b, u => u = Value.bool b
  | .int i, u => ∃ t, u = Value.int i t
  | .str x, u => ∃ t, u = Value.str x t
  | .byt b, u => ∃ t, u = Value.bytes b t
  | .flt b, u => ∃ t, u = Value.float b t
  | .ref a, u => u = Value.ref a
  | .ty n, u => u = Value.type n

abbrev Vals : List V → List Value → Prop := Paired RelV
theorem Vals.length {xs : List V} {us : List Value} (r : Vals xs us) : xs.length = us.length := Paired.length r
theorem Vals.get : ∀ {xs : List V} {us : List Value} {i : Nat} {x : V}, Vals xs us → xs[i]? = some x → ∃ u, us[i]? = some u ∧ RelV x u
  | _, _, _, _, .nil, e => by simp at e
  | _, _, 0, _, .cons r _, e => by simp at e; subst e; exact ⟨_, rfl, r⟩
  | _, _, i + 1, x, .cons _ t, e => by
    obtain ⟨u, h1, h2⟩ := Vals.get (i := i) (x := x) t (by simpa using e)
    exact ⟨u, by simpa using h1, h2⟩
theorem Vals.set {x : V} {u : Value} (r : RelV x u) : ∀ {xs : List V} {us : List Value} (i : Nat), Vals xs us → Vals (xs.set i x) (us.set i u)
  | _, _, _, .nil => .nil
  | _, _, 0, .cons _ t => .cons r t
  | _, _, i + 1, .cons q t => .cons q (Vals.set r i t)
theorem Vals.append : ∀ {xs ys : List V} {us ws : List Value}, Vals xs us → Vals ys ws → Vals (xs ++ ys) (us ++ ws)
  | _, _, _, _, .nil, s => s
  | _, _, _, _, .cons r t, s => .cons r (Vals.append t s)
theorem Vals.take : ∀ {xs : List V} {us : List Value} (n : Nat), Vals xs us → Vals (xs.take n) (us.take n)
  | _, _, 0, _ => .nil
  | _, _, _ + 1, .nil => .nil
  | _, _, n + 1, .cons r t => .cons r (Vals.take n t)
theorem Vals.drop : ∀ {xs : List V} {us : List Value} (n : Nat), Vals xs us → Vals (xs.drop n) (us.drop n)
  | _, _, 0, r => r
  | _, _, _ + 1, .nil => .nil
  | _, _, n + 1, .cons _ t => Vals.drop n t
def RelO : Option V → Option Value → Prop
  | some v, some u => RelV v u
  | none, none => True
  | _, _ => False
def KV {κ : Type} : List (κ × V) → List (κ × Value) → Prop := Paired fun (p : κ × V) (q : κ × Value) => p.1 = q.1 ∧ RelV p.2 q.2

/-- a key of a dict (00_mix): an int or a text -/
def kV : Key → V
  | .inl i => .int i
  | .inr x => .str x

/-- what stands at a tracked address -/
inductive HO where
  /-- a list -/
  | lst (xs : List V)
  /-- a tuple (never changes) -/
  | tup (xs : List V)
  /-- a dict whose keys are ints and texts; one whose keys are tuples of ints and texts (the empty one is both) -/
  | dK (kvs : List (Key × V)) | dT (kvs : List (List Key × V))
  /-- a set of ints: its members, its size -/
  | set (S : Int → Bool) (n : Nat)
  /-- an instance of the class at C, its dict at dx, its attributes -/
  | ins (C dx : Addr) (fs : List (Str × V))
  /-- the dict of the instance at x -/
  | own (x : Addr)
  /-- the dict of an exception -/
  | xd (fs : List (Str × V))
  /-- a bound method, f of x -/
  | met (f x : Addr)
  /-- a range object lo, lo + 1, .. below hi -/
  | rng (lo hi : Int)
  /-- a thing that is known to the object (the script; a dict while a loop walks it): read, never written while it is so -/
  | frz (o : Obj) (u : HO)
  /-- a code object's table -/
  | tbl (ps : Array Value)
  /-- any other thing, by what is true of its one object (a def of one's own: SetO a S n := HO.ext fun h => ..) -/
  | ext (φ : Heap → Prop)

abbrev Hp := Addr → Option HO
def upd (H : Hp) (a : Addr) (o : HO) : Hp := fun b => if b = a then some o else H b
theorem upd_same {H : Hp} {a : Addr} {o : HO} : upd H a o a = some o := by unfold upd; rw [if_pos rfl]
theorem upd_ne {H : Hp} {a b : Addr} {o : HO} (h : b ≠ a) : upd H a o b = H b := by unfold upd; rw [if_neg h]
/-- two objects of different content stand apart -/
theorem ne_of {H : Hp} {a b : Addr} {o u : HO} (h : H a = some o) (h' : H b = some u) (d : o ≠ u) : a ≠ b := by
  intro e; subst e; rw [h] at h'; exact d (Option.some.inj h')
theorem ne_of_none {H : Hp} {a b : Addr} {o : HO} (h : H a = some o) (h' : H b = none) : a ≠ b := by
  intro e; subst e; rw [h] at h'; cases h'

section
variable (P : Program) (w : World)
def ObjOk (H : Hp) (h : Heap) (a : Addr) : HO → Prop
  | .lst xs => xs.length ≤ sizeLine ∧ ∃ (its : List Value) (n : Nat), Vals xs its ∧ h.get? a = some { cls := .type "list", data := .seq its.toArray n }
  | .tup xs => xs.length ≤ sizeLine ∧ ∃ its : List Value, Vals xs its ∧ IsTup h a its.toArray
  | .dK kvs => kvs.length ≤ sizeLine ∧ (a == sysModules) = false ∧ ∃ vs, KV kvs vs ∧ h.DictOf (mixKind P w) a vs
  | .dT kvs => kvs.length ≤ sizeLine ∧ (a == sysModules) = false ∧ ∃ xs : List (List Key × Addr × Value),
      Paired (fun (p : List Key × V) (q : List Key × Addr × Value) => p.1 = q.1 ∧ H q.2.1 = some (.tup (p.1.map kV)) ∧ RelV p.2 q.2.2) kvs xs ∧
      ∃ o es ep, h.get? a = some o ∧ o.ExactDict ∧ o.data = .dict es ep ∧ es.toList = xs.map (entryOfKey (tupleKind (mixKind P w))) ∧ (xs.map (·.1)).Nodup
  | .set S n => h.SetOf (intKind P w) a S n
  | .ins C dx fs => H dx = some (.own a) ∧ fs.length ≤ 1000 ∧ dx ≠ a ∧ h.get? a = some (PySem.W.instObj C dx) ∧
      ∃ mA, h.Ns1 dx mA ∧ (∀ f, RelO (fs.lookup f) (mA f)) ∧ PySem.Within mA (fs.map (·.1))
  | .own _ => ∃ o, h.get? a = some o
  | .xd fs => ∃ mA, h.Ns1 a mA ∧ ∀ f, RelO (fs.lookup f) (mA f)
  | .rng lo hi => ∃ t u v, h.get? a = some { cls := .type "range", data := .fields #[.int lo t, .int hi u, .int 1 v] }
  | .frz o u => h.get? a = some o ∧ ObjOk H h a u
  | .tbl ps => h.get? a = some { cls := .none, data := .fields ps }
  | .met f x => h.get? a = some (PySem.W.methodObj (.ref f) (.ref x))
  | .ext φ => φ h ∧ (∃ o, h.get? a = some o) ∧ ∀ h1 h2 : Heap, φ h1 → (∀ o, h1.get? a = some o → h2.get? a = some o) → φ h2
/-- the abstract heap is held -/
def HOk (H : Hp) (h : Heap) : Prop := ∀ a o, H a = some o → ObjOk P w H h a o
end

section
variable {P : Program} {w : World} {H H' : Hp} {h h' : Heap} {a : Addr} {o : HO}
theorem ObjOk.lt (x : ObjOk P w H h a o) : a < h.objs.size := by
  cases o with
  | lst xs => obtain ⟨_, _, _, _, e⟩ := x; exact Heap.lt_size e
  | tup xs => obtain ⟨_, _, _, p⟩ := x; exact p.lt
  | dK kvs => obtain ⟨_, _, _, _, o, _, _, e, _⟩ := x; exact Heap.lt_size e
  | dT kvs => obtain ⟨_, _, _, _, o, _, _, e, _⟩ := x; exact Heap.lt_size e
  | set S n => obtain ⟨o, _, _, _, e, _⟩ := x; exact Heap.lt_size e
  | ins C dx fs => obtain ⟨_, _, _, e, _⟩ := x; exact Heap.lt_size e
  | own y => obtain ⟨_, e⟩ := x; exact Heap.lt_size e
  | xd fs => obtain ⟨_, ⟨_, _, _, e, _⟩, _⟩ := x; exact Heap.lt_size e
  | rng lo hi => obtain ⟨_, _, _, e⟩ := x; exact Heap.lt_size e
  | frz ob u => obtain ⟨e, _⟩ := x; exact Heap.lt_size e
  | tbl ps => exact Heap.lt_size (show h.get? a = some _ from x)
  | met f y => exact Heap.lt_size (show h.get? a = some _ from x)
  | ext φ => obtain ⟨_, ⟨_, e⟩, _⟩ := x; exact Heap.lt_size e
theorem Paired.mapP {α β : Type} {F G : α → β → Prop} : ∀ {l₁ : List α} {l₂ : List β}, Paired F l₁ l₂ → (∀ a b, F a b → G a b) → Paired G l₁ l₂
  | _, _, .nil, _ => .nil
  | _, _, .cons r t, f => .cons (f _ _ r) (Paired.mapP t f)
/-- what an object's description leans on: its own object, its own dict, the tuples -/
theorem ObjOk.stay (x : ObjOk P w H h a o) (k : ∀ b u, (b = a ∨ H b = some (.own a)) → h.get? b = some u → h'.get? b = some u)
    (ho : ∀ b, H b = some (.own a) → H' b = some (.own a)) (ht : ∀ b xs, H b = some (.tup xs) → H' b = some (.tup xs)) : ObjOk P w H' h' a o := by
  induction o with
  | lst xs => obtain ⟨z, its, n, r, e⟩ := x; exact ⟨z, its, n, r, k _ _ (.inl rfl) e⟩
  | tup xs => obtain ⟨z, its, r, ob, e, c⟩ := x; exact ⟨z, its, r, ob, k _ _ (.inl rfl) e, c⟩
  | dK kvs => obtain ⟨z, y, vs, r, ob, es, ep, e, c⟩ := x; exact ⟨z, y, vs, r, ob, es, ep, k _ _ (.inl rfl) e, c⟩
  | dT kvs =>
    obtain ⟨z, y, xs, r, ob, es, ep, e, c⟩ := x
    exact ⟨z, y, xs, Paired.mapP r fun p q z => ⟨z.1, ht _ _ z.2.1, z.2.2⟩, ob, es, ep, k _ _ (.inl rfl) e, c⟩
  | set S n => obtain ⟨ob, es, ep, t, e, c⟩ := x; exact ⟨ob, es, ep, t, k _ _ (.inl rfl) e, c⟩
  | ins C dx fs =>
    obtain ⟨d, z, ne, e, mA, ⟨od, es, ep, e2, c⟩, r⟩ := x
    exact ⟨ho _ d, z, ne, k _ _ (.inl rfl) e, mA, ⟨od, es, ep, k _ _ (.inr d) e2, c⟩, r⟩
  | own y => obtain ⟨ob, e⟩ := x; exact ⟨ob, k _ _ (.inl rfl) e⟩
  | xd fs => obtain ⟨mA, ⟨od, es, ep, e, c⟩, r⟩ := x; exact ⟨mA, ⟨od, es, ep, k _ _ (.inl rfl) e, c⟩, r⟩
  | rng lo hi => obtain ⟨t, u, v, e⟩ := x; exact ⟨t, u, v, k _ _ (.inl rfl) e⟩
  | frz ob u ih => obtain ⟨e, q⟩ := x; exact ⟨k _ _ (.inl rfl) e, ih q⟩
  | tbl ps =>
    have e : h.get? a = some { cls := .none, data := .fields ps } := x
    show h'.get? a = some { cls := .none, data := .fields ps }
    exact k a _ (.inl rfl) e
  | met f y =>
    have e : h.get? a = some (PySem.W.methodObj (.ref f) (.ref y)) := x
    show h'.get? a = some (PySem.W.methodObj (.ref f) (.ref y))
    exact k a _ (.inl rfl) e
  | ext φ => obtain ⟨p, ⟨o, e⟩, st⟩ := x; exact ⟨st _ _ p fun o q => k _ _ (.inl rfl) q, ⟨o, k _ _ (.inl rfl) e⟩, st⟩
theorem HOk.lt (x : HOk P w H h) (e : H a = some o) : a < h.objs.size := (x a o e).lt
theorem HOk.fresh (x : HOk P w H h) (e : h.objs.size ≤ a) : H a = none := by
  cases q : H a with
  | none => rfl
  | some u => exact absurd (Nat.lt_of_lt_of_le (x.lt q) e) (Nat.lt_irrefl _)
/-- every object of the heap is kept -/
theorem HOk.kept (x : HOk P w H h) (k : ∀ b u, h.get? b = some u → h'.get? b = some u) : HOk P w H h' := fun a o e =>
  (x a o e).stay (fun b u _ q => k b u q) (fun _ q => q) fun _ _ q => q
/-- a new object is laid and tracked -/
theorem HOk.laid (x : HOk P w H h) (k : ∀ b u, h.get? b = some u → h'.get? b = some u) (hp : h.objs.size ≤ a) (new : ObjOk P w (upd H a o) h' a o) : HOk P w (upd H a o) h' := fun b u e => by
  have hn := x.fresh hp
  by_cases hb : b = a
  · subst hb; rw [upd_same] at e; cases e; exact new
  · rw [upd_ne hb] at e
    exact (x b u e).stay (fun c v _ q => k c v q) (fun c q => by rw [upd_ne (ne_of_none q hn)]; exact q) fun c xs q => by rw [upd_ne (ne_of_none q hn)]; exact q
end

/-- what may be read as u: it is u, or a known u -/
def Rd (H : Hp) (a : Addr) (u : HO) : Prop := H a = some u ∨ ∃ o, H a = some (.frz o u)
theorem Rd.ok {P : Program} {w : World} {H : Hp} {h : Heap} {a : Addr} {u : HO} (r : Rd H a u) (x : HOk P w H h) : ObjOk P w H h a u := by
  rcases r with r | ⟨o, r⟩
  · exact x a u r
  · obtain ⟨_, q⟩ := x a _ r
    exact q
/-- what may be written -/
def Mut : Option HO → Prop
  | some (.lst _) => True
  | some (.dK _) => True
  | some (.dT _) => True
  | some (.set _ _) => True
  | some (.ins _ _ _) => True
  | some (.ext _) => True
  | _ => False
section
variable {P : Program} {w : World} {H : Hp} {h h' : Heap} {x e : Addr} {o' : HO}
/-- the object at e is changed: x itself, or the dict of the instance x -/
theorem HOk.write (ok : HOk P w H h) (mu : Mut (H x)) (he : e = x ∨ H e = some (.own x)) (k : ∀ b u, b ≠ e → h.get? b = some u → h'.get? b = some u) (heo : ∃ u, h'.get? e = some u)
    (new : ObjOk P w (upd H x o') h' x o') : HOk P w (upd H x o') h' := fun b u q => by
  have nown : ∀ c y, H c = some (.own y) → c ≠ x := fun c y r z => by subst z; rw [r] at mu; exact mu
  have ntup : ∀ c xs, H c = some (.tup xs) → c ≠ x := fun c xs r z => by subst z; rw [r] at mu; exact mu
  by_cases hb : b = x
  · subst hb; rw [upd_same] at q; cases q; exact new
  · rw [upd_ne hb] at q
    by_cases hbe : b = e
    · have q' : H b = some (.own x) := by
        rcases he with z | z
        · exact absurd (hbe.trans z) hb
        · rw [hbe]; exact z
      rw [q] at q'; cases q'
      obtain ⟨v, hv⟩ := heo
      exact ⟨v, by rw [hbe]; exact hv⟩
    · refine (ok b u q).stay (fun c v hc r => k c v ?_ r) (fun c r => by rw [upd_ne (nown c b r)]; exact r) fun c xs r => by rw [upd_ne (ntup c xs r)]; exact r
      rcases hc with rfl | hc
      · exact hbe
      · rintro rfl
        rcases he with z | z
        · exact nown c b hc z
        · rw [hc] at z; cases z; exact hb rfl
end

/-! ### kept unless tracked; of the frames at fs (the callers') the slots may change (an exception that passes writes there); of the records at ex (iterators) nothing is said -/
structure Un (fs ex : List Addr) (H H' : Hp) (h h' : Heap) : Prop where
  keep : ∀ b o, h.get? b = some o → H b = none → b ∉ fs → b ∉ ex → h'.get? b = some o
  slot : ∀ b o, h.get? b = some o → H b = none → b ∈ fs → b ∉ ex → ∃ sl, h'.get? b = some { o with slots := sl }
  free : ∀ b o, h.get? b = some o → H b = none → b ∉ ex → H' b = none
  there : ∀ b o, h.get? b = some o → b ∉ ex → ∃ o', h'.get? b = some o'
  tups : ∀ b xs, H b = some (.tup xs) → H' b = some (.tup xs)
  frzs : ∀ b o u, H b = some (.frz o u) → H' b = some (.frz o u)
  tbls : ∀ b ps, H b = some (.tbl ps) → ∃ more, H' b = some (.tbl (ps ++ more))
section
variable {fs fs' ex ex' : List Addr} {H H1 H2 : Hp} {h h1 h2 h' : Heap} {a x e : Addr} {o : HO}
theorem Un.any (u : Un fs ex H H1 h h1) {b : Addr} {ob : Obj} (q : h.get? b = some ob) (n : H b = none) (hx : b ∉ ex) : ∃ sl, h1.get? b = some { ob with slots := sl } := by
  by_cases hb : b ∈ fs
  · exact u.slot b ob q n hb hx
  · exact ⟨ob.slots, u.keep b ob q n hb hx⟩
theorem Un.kept (k : ∀ b u, h.get? b = some u → h'.get? b = some u) : Un fs ex H H h h' :=
  ⟨fun b ob q _ _ _ => k b ob q, fun b ob q _ _ _ => ⟨ob.slots, k b ob q⟩, fun _ _ _ n _ => n, fun b ob q _ => ⟨ob, k b ob q⟩, fun _ _ q => q, fun _ _ _ q => q, fun _ ps q => ⟨#[], by rw [q]; simp⟩⟩
theorem Un.refl : Un fs ex H H h h := Un.kept fun _ _ q => q
theorem Un.laid (k : ∀ b u, h.get? b = some u → h'.get? b = some u) (hp : h.objs.size ≤ a) (hn : H a = none) : Un fs ex H (upd H a o) h h' where
  keep := fun b u q _ _ _ => k b u q
  slot := fun b u q _ _ _ => ⟨u.slots, k b u q⟩
  free := fun b u q n _ => by rw [upd_ne (Nat.ne_of_lt (Nat.lt_of_lt_of_le (Heap.lt_size q) hp))]; exact n
  there := fun b u q _ => ⟨u, k b u q⟩
  tups := fun b xs q => by rw [upd_ne (ne_of_none q hn)]; exact q
  frzs := fun b u xs q => by rw [upd_ne (ne_of_none q hn)]; exact q
  tbls := fun b ps q => ⟨#[], by rw [upd_ne (ne_of_none q hn), q]; simp⟩
theorem Un.write (mu : Mut (H x)) (he : e = x ∨ H e = some (.own x)) (k : ∀ b u, b ≠ e → h.get? b = some u → h'.get? b = some u) (heo : ∃ u, h'.get? e = some u) : Un fs ex H (upd H x o) h h' := by
  have hx : ∀ b, H b = none → b ≠ x := fun b n z => by subst z; rw [n] at mu; exact mu
  have hb : ∀ b, H b = none → b ≠ e := fun b n z => by
    subst z
    rcases he with r | r
    · exact hx b n r
    · rw [n] at r; cases r
  have hm : ∀ b u, H b = some u → ¬ Mut (some u) → b ≠ x := fun b u q nm z => by subst z; rw [q] at mu; exact nm mu
  refine ⟨fun b u q n _ _ => k b u (hb b n) q, fun b u q n _ _ => ⟨u.slots, k b u (hb b n) q⟩, fun b u q n _ => by rw [upd_ne (hx b n)]; exact n, fun b u q _ => ?_,
    fun b xs q => by rw [upd_ne (hm b _ q fun z => z)]; exact q, fun b u xs q => by rw [upd_ne (hm b _ q fun z => z)]; exact q, fun b ps q => ⟨#[], by rw [upd_ne (hm b _ q fun z => z), q]; simp⟩⟩
  by_cases hbe : b = e
  · subst hbe; exact heo
  · exact ⟨u, k b u hbe q⟩
theorem Un.mono (u : Un fs ex H H1 h h1) (hs : ∀ b ∈ fs, b ∈ fs') (hx : ∀ b ∈ ex, b ∈ ex') : Un fs' ex' H H1 h h1 :=
  ⟨fun b ob q n hb he => u.keep b ob q n (fun z => hb (hs b z)) fun z => he (hx b z), fun _ _ q n _ he => u.any q n fun z => he (hx _ z), fun b ob q n he => u.free b ob q n fun z => he (hx b z), fun b ob q he => u.there b ob q fun z => he (hx b z), u.tups, u.frzs, u.tbls⟩
end

/-! ### the heap without what is tracked -/
def trk (h : Heap) (H : Hp) : List Addr := (List.range h.objs.size).filter fun a => (H a).isSome
def hidT (h : Heap) (H : Hp) : Heap := PySem.W.hideAll h (trk h H)
theorem hidT_size (h : Heap) (H : Hp) : (hidT h H).objs.size = h.objs.size := PySem.W.hideAll_size _ _
theorem hidT_get {h : Heap} {H : Hp} {b : Addr} {o : Obj} (e : h.get? b = some o) (n : H b = none) : (hidT h H).get? b = some o :=
  PySem.W.hideAll_get _ e fun hm => by
    have q : (H b).isSome = true := (List.mem_filter.mp hm).2
    rw [n] at q; simp at q
theorem of_hidT {h : Heap} {H : Hp} {b : Addr} {o : Obj} (e : (hidT h H).get? b = some o) : h.get? b = some o ∧ H b = none := by
  have e' : h.get? b = some o := PySem.W.of_hideAll (trk h H) e
  refine ⟨e', ?_⟩
  cases q : H b with
  | none => rfl
  | some x =>
    have hm : b ∈ trk h H := List.mem_filter.mpr ⟨List.mem_range.mpr (Heap.lt_size e'), by simp [q]⟩
    have z : (hidT h H).get? b = none := PySem.W.hideAll_none (trk h H) hm
    rw [z] at e; cases e

/-! ### OpenK's ledger, filled with every new object but one -/
def allNews (g h : Heap) (L : Addr) : List (Addr × Obj) := (List.range h.objs.size).filterMap fun a => if a = L ∨ (g.get? a).isSome = true then none else (h.get? a).map fun o => (a, o)
def rest (g h : Heap) (L d : Addr) : List (Addr × Obj) := (allNews g h L).filter fun p => decide (p.1 ≠ d)
end L2

namespace L2
open PySem PySem.Spec PyProof.Rows

/-- the module's facts, over the base: the heap at the law's entry without what is tracked there -/
structure Mod (K : PySem.W.Frag) (mg : Str → Option Value) (base : Heap) : Prop where
  kin : K.In base
  glob : base.Ns mainGlobals mg
  blt : ∃ mb, base.Ns builtinsNs mb ∧ ∀ x : Str, x ≠ "__name__" → mb x = bootBuiltins x
  nolimit : base.NoLimit

/-- the context: a def's body (or a comprehension's block) running. base: fixed through the whole law; s₀, H₀: the entry; outer: the frames whose slots others may change (a def's callers); stack: all frames that run;
   ex: iterators that were made ahead of the entry and are walked here (a comprehension's); fn: the names whose cells were made at the entry (a def: all; a comprehension's block: its own); calm: not within an except suite; pn: pins that every state bears; xe: what is wanted of an exception that leaves the code -/
structure Cx where
  prog : Program
  w : World
  K : PySem.W.Frag
  mg : Str → Option Value
  base : Heap
  A : Around
  N : List Str
  s₀ : Shared
  H₀ : Hp
  env : Env
  outer : List Env
  stack : List Env
  ex : List Addr
  fn : Str → Bool
  calm : Bool
  pn : List (Addr × Obj)
  xe : Value → Shared → Prop
/-- the callers' frames -/
def frs (l : List Env) : List Addr := l.filterMap (·.frame)
abbrev Cx.fs (X : Cx) : List Addr := frs X.outer

def Vis (sc : Scope) (x : Str) : Prop := sc.names.lookup x = some .local ∨ sc.names.lookup x = some .cell ∨ sc.names.lookup x = some .free
def Loc (sc : Scope) (x : Str) : Prop := sc.names.lookup x = some .local ∨ sc.names.lookup x = some .cell
def Look (env : Env) (h : Heap) (m : Str → Option Value) (x : Str) (u : Value) : Prop :=
  (env.kindOf x = some .local ∧ m x = some u) ∨ ((env.kindOf x = some .cell ∨ env.kindOf x = some .free) ∧ ∃ c, env.cells.lookup x = some c ∧ h.IsCell c (some u))

structure Cx.Ok (X : Cx) : Prop where
  mod : Mod X.K X.mg X.base
  kind : X.env.scope.kind = .function
  glob : X.env.globals = mainGlobals
  blt : X.env.builtins = builtinsNs
  above : X.s₀.heap.objs.size ≤ X.env.locals
  inj : ∀ x y c, X.env.cells.lookup x = some c → X.env.cells.lookup y = some c → x = y
  has : ∀ x, (X.env.kindOf x = some .cell ∨ X.env.kindOf x = some .free) → ∃ c, X.env.cells.lookup x = some c
  cab : ∀ x c, X.fn x = true → X.env.cells.lookup x = some c → X.s₀.heap.objs.size ≤ c
  hd : X.calm = true → X.A.handled = none
  frames : X.A.frames = some X.stack
  stk : X.stack = X.outer ∨ (X.stack = X.env :: X.outer ∧ X.env.frame = some X.env.locals)
  exf : ∀ b ∈ X.ex, b ≠ X.env.locals ∧ ∀ x c, X.env.cells.lookup x = some c → c ≠ b
  bs : ∀ b o, X.base.get? b = some o → X.s₀.heap.get? b = some o ∧ X.H₀ b = none
  bsz : X.base.objs.size ≤ X.s₀.heap.objs.size
  noex : ∀ b o, X.base.get? b = some o → b ∉ X.ex
  exfs : ∀ b ∈ X.ex, b ∉ X.fs
  funs : X.s₀.heap.FunFrames X.base X.outer
  frf : ∀ b ∈ X.fs, X.H₀ b = none

structure Inv (X : Cx) (pins : List (Addr × Obj)) (σ : List (Option V)) (H : Hp) (s : Shared) : Prop where
  ok : X.Ok
  os : s.os = X.s₀.os
  bare : AllBare s.gens
  base : Un X.fs X.ex X.H₀ H X.s₀.heap s.heap
  loc : ∃ m, s.heap.Ns X.env.locals m ∧ ∀ (i : Nat) (x : Str) (v : V), X.N[i]? = some x → σ[i]? = some (some v) → Vis X.env.scope x → ∃ u, RelV v u ∧ Look X.env s.heap m x u
  cell : ∀ x c, X.env.cells.lookup x = some c → ∃ v, s.heap.IsCell c v
  free : H X.env.locals = none
  freeC : ∀ x c, X.env.cells.lookup x = some c → H c = none
  pin : ∀ p ∈ X.pn ++ pins, s.heap.get? p.1 = some p.2 ∧ H p.1 = none ∧ p.1 ≠ X.env.locals ∧ p.1 ∉ X.fs ∧ ∀ v, p.2.data ≠ .cell v
  hok : HOk X.prog X.w H s.heap
  len : σ.length = X.N.length

section
variable {X : Cx} {pins : List (Addr × Obj)} {σ : List (Option V)} {H H' : Hp} {s : Shared} {h' : Heap}

theorem Cx.Ok.nofr (ok : X.Ok) {b : Addr} {o : Obj} (e : X.base.get? b = some o) : b ∉ X.fs := fun hb => by
  have := (ok.funs.mem hb).1
  rw [e] at this; cases this
theorem Inv.bs (I : Inv X pins σ H s) : ∀ b o, X.base.get? b = some o → s.heap.get? b = some o ∧ H b = none := fun b o e =>
  ⟨I.base.keep b o (I.ok.bs b o e).1 (I.ok.bs b o e).2 (I.ok.nofr e) (I.ok.noex b o e), I.base.free b o (I.ok.bs b o e).1 (I.ok.bs b o e).2 (I.ok.noex b o e)⟩
theorem Inv.bk (I : Inv X pins σ H s) : ∀ b o, X.base.get? b = some o → s.heap.get? b = some o := fun b o e => (I.bs b o e).1
theorem Inv.mod (I : Inv X pins σ H s) : Mod X.K X.mg X.base := I.ok.mod
theorem Inv.kIn (I : Inv X pins σ H s) : X.K.In s.heap := I.ok.mod.kin.keeps I.bk
/-- the frame over the base: for OpenK's rules (K.In X.base is I.mod.kin) -/
theorem Inv.fr (I : Inv X pins σ H s) : ∃ m, Fr X.base X.env.locals s.heap m :=
  let ⟨m, hn, _⟩ := I.loc
  ⟨m, hn, I.bk, Nat.le_trans I.ok.bsz I.ok.above⟩
theorem Inv.lt (I : Inv X pins σ H s) : X.env.locals < s.heap.objs.size := let ⟨_, hn, _⟩ := I.loc; hn.lt
theorem Inv.sz (I : Inv X pins σ H s) : X.s₀.heap.objs.size ≤ s.heap.objs.size := Nat.le_trans I.ok.above (Nat.le_of_lt I.lt)
theorem Inv.nofs (I : Inv X pins σ H s) {a : Addr} (h : s.heap.objs.size ≤ a) : a ∉ X.fs := fun hb => by
  obtain ⟨_, o, ho, _⟩ := I.ok.funs.mem hb
  exact absurd (Nat.lt_of_lt_of_le (Heap.lt_size ho) (Nat.le_trans I.sz h)) (Nat.lt_irrefl _)
theorem Inv.cne (I : Inv X pins σ H s) : ∀ x c, X.env.cells.lookup x = some c → c ≠ X.env.locals := fun x c e z => by
  obtain ⟨v, o, ho, hd⟩ := I.cell x c e
  obtain ⟨m, ⟨o', es, ep, ho', hd', _⟩, _⟩ := I.loc
  rw [z, ho'] at ho; cases ho; rw [hd'] at hd; cases hd
theorem Inv.funs (I : Inv X pins σ H s) : s.heap.FunFrames X.base X.outer := by
  have all : ∀ (l : List Env), (∀ b ∈ frs l, b ∈ X.fs) → X.s₀.heap.FunFrames X.base l → s.heap.FunFrames X.base l := by
    intro l
    induction l with
    | nil => intro _ _; trivial
    | cons env r ih =>
      intro hs hl
      obtain ⟨hk, ⟨L, o, hf, hn, ho, hd⟩, hr⟩ := hl
      have hL : L ∈ X.fs := hs L (by unfold frs; rw [List.filterMap_cons, hf]; exact List.mem_cons_self)
      obtain ⟨sl, e⟩ := I.base.slot L o ho (I.ok.frf L hL) hL fun z => I.ok.exfs L z hL
      exact ⟨hk, ⟨L, _, hf, hn, e, hd⟩, ih (fun b hb => hs b (by unfold frs; rw [List.filterMap_cons, hf]; exact List.mem_cons_of_mem _ hb)) hr⟩
  exact all X.outer (fun _ hb => hb) I.ok.funs

/-- the frames that run, for a call -/
theorem Inv.stack (I : Inv X pins σ H s) : s.heap.FunFrames X.base X.stack := by
  rcases I.ok.stk with e | ⟨e, hf⟩
  · rw [e]; exact I.funs
  · rw [e]
    obtain ⟨m, hn, _⟩ := I.loc
    refine .cons (by rw [I.ok.kind]; decide) hf hn ?_ I.funs
    exact Heap.get?_none_of_le (Nat.le_trans I.ok.bsz I.ok.above)
theorem Inv.stkSub (I : Inv X pins σ H s) : ∀ b ∈ frs X.stack, b ∈ X.env.locals :: X.fs := fun b hb => by
  rcases I.ok.stk with e | ⟨e, hf⟩
  · rw [e] at hb; exact List.mem_cons_of_mem _ hb
  · rw [e] at hb
    unfold frs at hb
    rw [List.filterMap_cons, hf] at hb
    exact hb
theorem Inv.stkFree (I : Inv X pins σ H s) : ∀ b ∈ frs X.stack, H b = none := fun b hb => by
  rcases List.mem_cons.mp (I.stkSub b hb) with e | hb
  · rw [e]; exact I.free
  · obtain ⟨_, o, ho, _⟩ := I.ok.funs.mem hb
    exact I.base.free b o ho (I.ok.frf b hb) fun z => I.ok.exfs b z hb

/-- THE STEP: the untracked objects but the frame and the records at ch are kept (the callers' frames up to slots), the frame's map is kept, the new abstract heap is held -/
theorem Inv.step {g' : Array GenState} {t' : Nat} {d' : Drawn} {ch : List Addr} (I : Inv X pins σ H s)
    (hch : ∀ b ∈ ch, (b ∈ X.ex ∨ X.s₀.heap.objs.size ≤ b) ∧ b ≠ X.env.locals ∧ (∀ x c, X.env.cells.lookup x = some c → c ≠ b) ∧ ∀ p ∈ X.pn ++ pins, p.1 ≠ b)
    (keep : ∀ b o, b ≠ X.env.locals → b ∉ X.fs → b ∉ ch → s.heap.get? b = some o → H b = none → h'.get? b = some o)
    (slot : ∀ b o, b ≠ X.env.locals → b ∈ X.fs → b ∉ ch → s.heap.get? b = some o → H b = none → ∃ sl, h'.get? b = some { o with slots := sl }) (free : ∀ b o, b ∉ ch → s.heap.get? b = some o → H b = none → H' b = none)
    (there : ∀ b o, b ∉ ch → s.heap.get? b = some o → ∃ o', h'.get? b = some o')
    (tups : ∀ b xs, H b = some (.tup xs) → H' b = some (.tup xs)) (frzs : ∀ b o u, H b = some (.frz o u) → H' b = some (.frz o u)) (tbls : ∀ b ps, H b = some (.tbl ps) → ∃ more, H' b = some (.tbl (ps ++ more)))
    (ns : ∀ m, s.heap.Ns X.env.locals m → h'.Ns X.env.locals m) (hok : HOk X.prog X.w H' h') (hg : AllBare g') :
    Inv X pins σ H' { s with heap := h', gens := g', drawn := d', toks := t' } := by
  have neL : ∀ b o, X.s₀.heap.get? b = some o → b ≠ X.env.locals := fun b o e => Nat.ne_of_lt (Nat.lt_of_lt_of_le (Heap.lt_size e) I.ok.above)
  have neC : ∀ b o, X.s₀.heap.get? b = some o → b ∉ X.ex → b ∉ ch := fun b o e hx hb => by
    rcases (hch b hb).1 with z | z
    · exact hx z
    · exact absurd (Nat.lt_of_lt_of_le (Heap.lt_size e) z) (Nat.lt_irrefl _)
  have cellK : ∀ x c, X.env.cells.lookup x = some c → ∀ v, s.heap.IsCell c v → h'.IsCell c v := fun x c e v ⟨o, ho, hd⟩ => by
    have nch : c ∉ ch := fun z => (hch c z).2.2.1 x c e rfl
    by_cases hc : c ∈ X.fs
    · obtain ⟨sl, q⟩ := slot c o (I.cne x c e) hc nch ho (I.freeC x c e)
      exact ⟨_, q, hd⟩
    · exact ⟨o, keep c o (I.cne x c e) hc nch ho (I.freeC x c e), hd⟩
  refine ⟨I.ok, I.os, hg, ⟨fun b o e n hb hx => ?_, fun b o e n hb hx => ?_, fun b o e n hx => ?_, fun b o e hx => ?_, fun b xs e => tups b xs (I.base.tups b xs e), fun b o xs e => frzs b o xs (I.base.frzs b o xs e), fun b ps e => ?_⟩, ?_, fun x c e => ?_, ?_, fun x c e => ?_, fun p hp => ?_, hok, I.len⟩
  · exact keep b o (neL b o e) hb (neC b o e hx) (I.base.keep b o e n hb hx) (I.base.free b o e n hx)
  · obtain ⟨sl, e1⟩ := I.base.slot b o e n hb hx
    obtain ⟨sl', e2⟩ := slot b _ (neL b o e) hb (neC b o e hx) e1 (I.base.free b o e n hx)
    exact ⟨sl', e2⟩
  · obtain ⟨o', e1⟩ := I.base.there b o e hx
    exact free b o' (neC b o e hx) e1 (I.base.free b o e n hx)
  · obtain ⟨o', e1⟩ := I.base.there b o e hx
    exact there b o' (neC b o e hx) e1
  · obtain ⟨m1, e1⟩ := I.base.tbls b ps e
    obtain ⟨m2, e2⟩ := tbls b _ e1
    exact ⟨m1 ++ m2, by rw [e2, Array.append_assoc]⟩
  · obtain ⟨m, hn, hl⟩ := I.loc
    refine ⟨m, ns m hn, fun i x v e1 e2 e3 => ?_⟩
    obtain ⟨u, r, l⟩ := hl i x v e1 e2 e3
    refine ⟨u, r, ?_⟩
    rcases l with l | ⟨k, c, e, z⟩
    · exact .inl l
    · exact .inr ⟨k, c, e, cellK x c e _ z⟩
  · obtain ⟨v, z⟩ := I.cell x c e
    exact ⟨v, cellK x c e v z⟩
  · obtain ⟨m, ⟨o, _, _, ho, _⟩, _⟩ := I.loc
    exact free _ o (fun z => (hch _ z).2.1 rfl) ho I.free
  · obtain ⟨v, o, ho, hd⟩ := I.cell x c e
    exact free c o (fun z => (hch c z).2.2.1 x c e rfl) ho (I.freeC x c e)
  · obtain ⟨e, n, ne, nf, d⟩ := I.pin p hp
    have nch : p.1 ∉ ch := fun z => (hch p.1 z).2.2.2 p hp rfl
    exact ⟨keep p.1 p.2 ne nf nch e n, free p.1 p.2 nch e n, ne, nf, d⟩
/-- .. where the frame's own object is kept too -/
theorem Inv.un {t' : Nat} (I : Inv X pins σ H s) (u : Un X.fs [] H H' s.heap h') (hok : HOk X.prog X.w H' h') : Inv X pins σ H' { s with heap := h', toks := t' } := by
  obtain ⟨m, ⟨o, es, ep, ho, r⟩, _⟩ := id I.loc
  obtain ⟨sl, hL⟩ := u.any ho I.free (by simp)
  exact I.step (g' := s.gens) (d' := s.drawn) (ch := []) (fun _ z => nomatch z) (fun b o _ hb _ e n => u.keep b o e n hb (by simp)) (fun b o _ hb _ e n => u.slot b o e n hb (by simp)) (fun b o _ e n => u.free b o e n (by simp)) (fun b o _ e => u.there b o e (by simp)) u.tups u.frzs u.tbls (fun m' hm => by
    obtain ⟨o', es', ep', ho', r'⟩ := hm
    rw [ho] at ho'; cases ho'
    exact ⟨_, es', ep', hL, r'⟩) hok I.bare
/-- behind a call (or a comprehension's block): the slots of this frame may have changed too, the records at ch may have turned -/
theorem Inv.call {g' : Array GenState} {t' : Nat} {d' : Drawn} {ch : List Addr} (I : Inv X pins σ H s) (u : Un (frs X.stack) ch H H' s.heap h') (hok : HOk X.prog X.w H' h') (hg : AllBare g')
    (hch : ∀ b ∈ ch, (b ∈ X.ex ∨ X.s₀.heap.objs.size ≤ b) ∧ b ≠ X.env.locals ∧ (∀ x c, X.env.cells.lookup x = some c → c ≠ b) ∧ ∀ p ∈ X.pn ++ pins, p.1 ≠ b) :
    Inv X pins σ H' { s with heap := h', gens := g', drawn := d', toks := t' } := by
  obtain ⟨m, ⟨o, es, ep, ho, r⟩, _⟩ := id I.loc
  obtain ⟨sl, hL⟩ := u.any ho I.free fun z => (hch _ z).2.1 rfl
  exact I.step (ch := ch) hch (fun b o hL hb hc e n => u.keep b o e n (fun z => (List.mem_cons.mp (I.stkSub b z)).elim hL hb) hc) (fun b o _ _ hc e n => u.any e n hc) (fun b o hc e n => u.free b o e n hc) (fun b o hc e => u.there b o e hc) u.tups u.frzs u.tbls (fun m' hm => by
    obtain ⟨o', es', ep', ho', r'⟩ := hm
    rw [ho] at ho'; cases ho'
    exact ⟨_, es', ep', hL, r'⟩) hok hg
/-- an untracked record of ours (an iterator) has turned -/
theorem Inv.turned {t' : Nat} {it : Addr} (I : Inv X pins σ H s) (k : ∀ b o, b ≠ it → s.heap.get? b = some o → h'.get? b = some o) (hn : H it = none) (hL : it ≠ X.env.locals)
    (h1 : it ∈ X.ex ∨ X.s₀.heap.objs.size ≤ it) (h2 : ∀ x c, X.env.cells.lookup x = some c → c ≠ it) (h3 : ∀ p ∈ X.pn ++ pins, p.1 ≠ it) : Inv X pins σ H { s with heap := h', toks := t' } := by
  have nit : ∀ b u, H b = some u → b ≠ it := fun b u e z => by rw [z, hn] at e; cases e
  refine I.step (g' := s.gens) (d' := s.drawn) (ch := [it]) (fun b hb => ?_) (fun b o _ _ hc e _ => k b o (fun z => hc (by simp [z])) e) (fun b o _ _ hc e _ => ⟨o.slots, k b o (fun z => hc (by simp [z])) e⟩) (fun _ _ _ _ n => n)
    (fun b o hc e => ⟨o, k b o (fun z => hc (by simp [z])) e⟩) (fun _ _ e => e) (fun _ _ _ e => e) (fun b ps e => ⟨#[], by rw [e]; simp⟩) (fun m hm => ?_) (fun b u e => ?_) I.bare
  · have e : b = it := by simpa using hb
    subst e
    exact ⟨h1, hL, h2, h3⟩
  · obtain ⟨o, es, ep, ho, r⟩ := hm
    exact ⟨o, es, ep, k _ o (Ne.symm hL) ho, r⟩
  · refine (I.hok b u e).stay (fun c v hc q => k c v ?_ q) (fun _ q => q) fun _ _ q => q
    rcases hc with z | z
    · rw [z]; exact nit b u e
    · exact nit c _ z
theorem Inv.tok (I : Inv X pins σ H s) (t : Nat) : Inv X pins σ H { s with toks := t } := I.un (h' := s.heap) (t' := t) Un.refl I.hok
/-- all objects kept -/
theorem Inv.kept {t' : Nat} (I : Inv X pins σ H s) (k : ∀ b u, s.heap.get? b = some u → h'.get? b = some u) : Inv X pins σ H { s with heap := h', toks := t' } := I.un (Un.kept k) (I.hok.kept k)
/-- a new object laid and tracked -/
theorem Inv.laid {a : Addr} {o : HO} {t' : Nat} (I : Inv X pins σ H s) (k : ∀ b u, s.heap.get? b = some u → h'.get? b = some u) (hp : s.heap.objs.size ≤ a) (new : ObjOk X.prog X.w (upd H a o) h' a o) :
    Inv X pins σ (upd H a o) { s with heap := h', toks := t' } := I.un (Un.laid k hp (I.hok.fresh hp)) (I.hok.laid k hp new)
/-- an object written -/
theorem Inv.write {x e : Addr} {o : HO} {t' : Nat} (I : Inv X pins σ H s) (mu : Mut (H x)) (he : e = x ∨ H e = some (.own x)) (k : ∀ b u, b ≠ e → s.heap.get? b = some u → h'.get? b = some u) (heo : ∃ u, h'.get? e = some u)
    (new : ObjOk X.prog X.w (upd H x o) h' x o) : Inv X pins σ (upd H x o) { s with heap := h', toks := t' } := I.un (Un.write mu he k heo) (I.hok.write mu he k heo new)
theorem Inv.pins_of {pins' : List (Addr × Obj)} (I : Inv X pins σ H s) (h : ∀ p ∈ pins', s.heap.get? p.1 = some p.2 ∧ H p.1 = none ∧ p.1 ≠ X.env.locals ∧ p.1 ∉ X.fs ∧ ∀ v, p.2.data ≠ .cell v) : Inv X pins' σ H s :=
  ⟨I.ok, I.os, I.bare, I.base, I.loc, I.cell, I.free, I.freeC, fun p hp => (List.mem_append.mp hp).elim (fun z => I.pin p (List.mem_append_left _ z)) (h p), I.hok, I.len⟩

theorem nodup_ix {N : List Str} (hN : N.Nodup) {i j : Nat} {x : Str} (a : N[i]? = some x) (b : N[j]? = some x) : i = j := by
  obtain ⟨h1, e1⟩ := List.getElem?_eq_some_iff.mp a
  obtain ⟨h2, e2⟩ := List.getElem?_eq_some_iff.mp b
  exact (List.getElem_inj hN).mp (e1.trans e2.symm)

/-- a name is stored; what changed -/
theorem store_ok2 {M : Model} {A : Around} {E : Value → Shared → Prop} {i : Nat} {x : Str} {v : V} {u : Value} {Q : Unit → Shared → Prop} (I : Inv X pins σ H s) (hN : X.N.Nodup) (hi : X.N[i]? = some x) (hx : Loc X.env.scope x) (r : RelV v u)
    (h : ∀ s', Inv X pins (σ.set i (some v)) H s' → (∃ a, Heap.SameBut a s.heap s'.heap ∧ (a = X.env.locals ∨ X.env.cells.lookup x = some a)) → Q () s') (hf : X.fn x = true ∨ X.env.scope.names.lookup x = some .local := by first | exact .inl rfl | exact .inr rfl | assumption) : wpAny M A (storeName X.env x u) Q E s := by
  obtain ⟨m, hn, hl⟩ := id I.loc
  have hcls : (X.env.scope.kind == .class || (X.env.scope.kind == .module && X.env.locals != X.env.globals)) = false := by rw [I.ok.kind]; rfl
  have hiσ : i < σ.length := by rw [I.len]; exact (List.getElem?_eq_some_iff.mp hi).1
  have cne := I.cne
  have tracked : ∀ {a : Addr} {h' : Heap}, (∃ o, s.heap.get? a = some o ∧ H a = none) → Heap.SameBut a s.heap h' → HOk X.prog X.w H h' := fun {a h'} ha hs b ob e => by
    obtain ⟨_, _, hfree⟩ := ha
    refine (I.hok b ob e).stay (fun c w' hc q => (hs.2 c ?_).trans q) (fun _ q => q) fun _ _ q => q
    rintro rfl
    rcases hc with rfl | hc
    · rw [hfree] at e; cases e
    · rw [hfree] at hc; cases hc
  rcases hx with hk | hk
  · refine wpAny_storeName_local hk hn (fun h' hn' hs => ?_) hcls
    obtain ⟨oL, _, _, hoL, _⟩ := id hn
    refine h _ ⟨I.ok, I.os, I.bare, ⟨fun b o e n hb hx => ?_, fun b o e n hb hx => ?_, I.base.free, fun b o e hx => ?_, I.base.tups, I.base.frzs, I.base.tbls⟩, ⟨_, hn', fun j y v' e1 e2 e3 => ?_⟩, fun y c e => ?_, I.free, I.freeC, fun p hp => ?_, tracked ⟨oL, hoL, I.free⟩ hs, by simpa using I.len⟩ ⟨_, hs, .inl rfl⟩
    · exact (hs.2 b (Nat.ne_of_lt (Nat.lt_of_lt_of_le (Heap.lt_size e) I.ok.above))).trans (I.base.keep b o e n hb hx)
    · obtain ⟨sl, e1⟩ := I.base.slot b o e n hb hx
      exact ⟨sl, (hs.2 b (Nat.ne_of_lt (Nat.lt_of_lt_of_le (Heap.lt_size e) I.ok.above))).trans e1⟩
    · obtain ⟨o', e1⟩ := I.base.there b o e hx
      exact ⟨o', (hs.2 b (Nat.ne_of_lt (Nat.lt_of_lt_of_le (Heap.lt_size e) I.ok.above))).trans e1⟩
    · by_cases hj : j = i
      · subst hj
        rw [hi] at e1; cases e1
        rw [List.getElem?_set_self hiσ] at e2
        cases e2
        exact ⟨u, r, .inl ⟨hk, by simp⟩⟩
      · rw [List.getElem?_set_ne (Ne.symm hj)] at e2
        obtain ⟨u', r', q⟩ := hl j y v' e1 e2 e3
        refine ⟨u', r', ?_⟩
        rcases q with ⟨k, e⟩ | ⟨k, c, e, z⟩
        · refine .inl ⟨k, ?_⟩
          have : y ≠ x := fun e => hj (nodup_ix hN e1 (e ▸ hi))
          simp [this, e]
        · exact .inr ⟨k, c, e, z.sameBut hs (cne y c e)⟩
    · obtain ⟨w', z⟩ := I.cell y c e
      exact ⟨w', z.sameBut hs (cne y c e)⟩
    · obtain ⟨e, n, ne, nf, d⟩ := I.pin p hp
      exact ⟨(hs.2 p.1 ne).trans e, n, ne, nf, d⟩
  · have hfn : X.fn x = true := by
      rcases hf with z | z
      · exact z
      · rw [z] at hk; cases hk
    obtain ⟨c, hc⟩ := I.ok.has x (.inl hk)
    obtain ⟨w', z⟩ := I.cell x c hc
    refine wpAny_storeName_cell I.ok.kind hk hc z (fun h' hc' hs => ?_)
    obtain ⟨oc, hoc, hocd⟩ := id z
    refine h { s with heap := h' } ⟨I.ok, I.os, I.bare, ⟨fun b o e n hb hx => ?_, fun b o e n hb hx => ?_, I.base.free, fun b o e hx => ?_, I.base.tups, I.base.frzs, I.base.tbls⟩, ⟨m, hn.sameBut hs (Ne.symm (cne x c hc)), fun j y v' e1 e2 e3 => ?_⟩, fun y c' e => ?_, I.free, I.freeC, fun p hp => ?_, tracked ⟨oc, hoc, I.freeC x c hc⟩ hs, by simpa using I.len⟩ ⟨c, hs, .inr hc⟩
    · exact (hs.2 b (Nat.ne_of_lt (Nat.lt_of_lt_of_le (Heap.lt_size e) (I.ok.cab x c hfn hc)))).trans (I.base.keep b o e n hb hx)
    · obtain ⟨sl, e1⟩ := I.base.slot b o e n hb hx
      exact ⟨sl, (hs.2 b (Nat.ne_of_lt (Nat.lt_of_lt_of_le (Heap.lt_size e) (I.ok.cab x c hfn hc)))).trans e1⟩
    · obtain ⟨o', e1⟩ := I.base.there b o e hx
      exact ⟨o', (hs.2 b (Nat.ne_of_lt (Nat.lt_of_lt_of_le (Heap.lt_size e) (I.ok.cab x c hfn hc)))).trans e1⟩
    · by_cases hj : j = i
      · subst hj
        rw [hi] at e1; cases e1
        rw [List.getElem?_set_self hiσ] at e2
        cases e2
        exact ⟨u, r, .inr ⟨.inl hk, c, hc, hc'⟩⟩
      · rw [List.getElem?_set_ne (Ne.symm hj)] at e2
        obtain ⟨u', r', q⟩ := hl j y v' e1 e2 e3
        refine ⟨u', r', ?_⟩
        rcases q with q | ⟨k, c', e, z'⟩
        · exact .inl q
        · refine .inr ⟨k, c', e, z'.sameBut hs ?_⟩
          rintro rfl
          exact hj (nodup_ix hN e1 (I.ok.inj _ _ _ e hc ▸ hi))
    · by_cases hcc : c' = c
      · subst hcc; exact ⟨_, hc'⟩
      · obtain ⟨w2, z2⟩ := I.cell y c' e
        exact ⟨w2, z2.sameBut hs hcc⟩
    · obtain ⟨e, n, ne, nf, d⟩ := I.pin p hp
      refine ⟨(hs.2 p.1 ?_).trans e, n, ne, nf, d⟩
      intro q
      rw [q, hoc] at e
      have q' : oc = p.2 := Option.some.inj e
      exact d w' (by rw [← q']; exact hocd)
theorem store_ok {M : Model} {A : Around} {E : Value → Shared → Prop} {i : Nat} {x : Str} {v : V} {u : Value} {Q : Unit → Shared → Prop} (I : Inv X pins σ H s) (hN : X.N.Nodup) (hi : X.N[i]? = some x) (hx : Loc X.env.scope x) (r : RelV v u)
    (h : ∀ s', Inv X pins (σ.set i (some v)) H s' → Q () s') (hf : X.fn x = true ∨ X.env.scope.names.lookup x = some .local := by first | exact .inl rfl | exact .inr rfl | assumption) : wpAny M A (storeName X.env x u) Q E s :=
  store_ok2 I hN hi hx r (fun s' I' _ => h s' I') hf
/-- behind a call or a block, the state as it is -/
theorem Inv.call' {s' : Shared} {ch : List Addr} (I : Inv X pins σ H s) (ho : s'.os = s.os) (u : Un (frs X.stack) ch H H' s.heap s'.heap) (hok : HOk X.prog X.w H' s'.heap) (hg : AllBare s'.gens)
    (hch : ∀ b ∈ ch, (b ∈ X.ex ∨ X.s₀.heap.objs.size ≤ b) ∧ b ≠ X.env.locals ∧ (∀ x c, X.env.cells.lookup x = some c → c ≠ b) ∧ ∀ p ∈ X.pn ++ pins, p.1 ≠ b) : Inv X pins σ H' s' := by
  obtain ⟨h', g', d', t', o'⟩ := s'
  have e : o' = s.os := ho
  subst e
  exact I.call (g' := g') (t' := t') (d' := d') u hok hg hch
end

/-! ### the judgements -/
/-- an exception: its class, its own dict's address (where it has one), the abstract heap behind it -/
abbrev XK := Value → Option Addr → Hp → Prop
abbrev St := List (Option V)
abbrev VK := V → Hp → Prop
/-- an expression's reading; a test's; an argument list's -/
abbrev TE := St → Hp → VK → Prop
abbrev TT := St → Hp → (Bool → Hp → Prop) → Prop
abbrev TA := St → Hp → (List V → Hp → Prop) → Prop
/-- what is wanted behind a statement -/
structure Ends where
  nx : St → Hp → Prop
  rt : VK
  bk : St → Hp → Prop := fun _ _ => False
  ct : St → Hp → Prop := fun _ _ => False
abbrev TS := Ends → St → Hp → Prop

def EP (X : Cx) (pins : List (Addr × Obj)) (σ : St) (Q : VK) (u : Value) (s' : Shared) : Prop := ∃ v H', Inv X pins σ H' s' ∧ RelV v u ∧ Q v H'
def TP (X : Cx) (pins : List (Addr × Obj)) (σ : St) (Q : Bool → Hp → Prop) (b : Bool) (s' : Shared) : Prop := ∃ H', Inv X pins σ H' s' ∧ Q b H'
def AP (X : Cx) (pins : List (Addr × Obj)) (σ : St) (Q : List V → Hp → Prop) (us : List Value) (s' : Shared) : Prop := ∃ vs H', Inv X pins σ H' s' ∧ Vals vs us ∧ Q vs H'
def SP (X : Cx) (pins : List (Addr × Obj)) (D : Ends) (f : Flow) (s' : Shared) : Prop :=
  match f with
  | .next => ∃ σ' H', Inv X pins σ' H' s' ∧ D.nx σ' H'
  | .brk => ∃ σ' H', Inv X pins σ' H' s' ∧ D.bk σ' H'
  | .cont => ∃ σ' H', Inv X pins σ' H' s' ∧ D.ct σ' H'
  | .ret u => ∃ v σ' H', Inv X pins σ' H' s' ∧ RelV v u ∧ D.rt v H'

def PE (X : Cx) (e : Expr) (t : TE) : Prop :=
  ∀ (pins : List (Addr × Obj)) (s : Shared) (σ : St) (H : Hp) (Q : VK), Inv X pins σ H s → t σ H Q → wpAny (model X.prog X.w) X.A (eval e X.env) (EP X pins σ Q) X.xe s
def PT (X : Cx) (e : Expr) (t : TT) : Prop :=
  ∀ (pins : List (Addr × Obj)) (s : Shared) (σ : St) (H : Hp) (Q : Bool → Hp → Prop), Inv X pins σ H s → t σ H Q → wpAny (model X.prog X.w) X.A (isTrue e X.env (eval e X.env)) (TP X pins σ Q) X.xe s
/-- a test whatever its 'whole' is (and, or) -/
def PW (X : Cx) (e : Expr) (t : TT) : Prop :=
  ∀ (whole : Sem Value) (pins : List (Addr × Obj)) (s : Shared) (σ : St) (H : Hp) (Q : Bool → Hp → Prop), Inv X pins σ H s → t σ H Q → wpAny (model X.prog X.w) X.A (isTrue e X.env whole) (TP X pins σ Q) X.xe s
theorem PW.pt {X : Cx} {e : Expr} {t : TT} (h : PW X e t) : PT X e t := h _
/-- an argument list (no star), from the left -/
def PA (X : Cx) (es : List Expr) (t : TA) : Prop :=
  ∀ (pos : Pos) (pins : List (Addr × Obj)) (s : Shared) (σ : St) (H : Hp) (Q : List V → Hp → Prop), Inv X pins σ H s → t σ H Q → wpAny (model X.prog X.w) X.A (spliced (backTo pos (starEach es X.env))) (AP X pins σ Q) X.xe s
def PS (X : Cx) (st : Stmt) (t : TS) : Prop :=
  ∀ (pins : List (Addr × Obj)) (s : Shared) (σ : St) (H : Hp) (D : Ends), Inv X pins σ H s → t D σ H → wpAny (model X.prog X.w) X.A (exec st X.env) (SP X pins D) X.xe s
def PSs (X : Cx) (st : List Stmt) (t : TS) : Prop :=
  ∀ (pins : List (Addr × Obj)) (s : Shared) (σ : St) (H : Hp) (D : Ends), Inv X pins σ H s → t D σ H → wpAny (model X.prog X.w) X.A (execs st X.env) (SP X pins D) X.xe s
/-- weaken the end -/
theorem thn {α : Type} {t : Sem α} {Q Q' : α → Shared → Prop} {M : Model} {A : Around} {E : Value → Shared → Prop} {s : Shared} (h : wpAny M A t Q E s) (hQ : ∀ a s, Q a s → Q' a s) : wpAny M A t Q' E s := wpAny_mono h hQ fun _ _ x => x
end L2

namespace L2
open PySem PySem.Spec PyProof.Rows
section
variable {X : Cx}

/-- two expressions in a row -/
theorem bin {a b : Expr} {ta tb : TE} (ha : PE X a ta) (hb : PE X b tb) {pins : List (Addr × Obj)} {s : Shared} {σ : St} {H : Hp} {R : V → V → Hp → Prop} (I : Inv X pins σ H s) (h : ta σ H fun x H1 => tb σ H1 fun y H2 => R x y H2)
    {α : Type} {Q : α → Shared → Prop} {f : Value → Value → Sem α}
    (hf : ∀ v u s2 x y H2, Inv X pins σ H2 s2 → RelV x v → RelV y u → R x y H2 → wpAny (model X.prog X.w) X.A (f v u) Q X.xe s2) :
    wpAny (model X.prog X.w) X.A (eval a X.env) (fun v s₁ => wpAny (model X.prog X.w) X.A (eval b X.env) (fun u s₂ => wpAny (model X.prog X.w) X.A (f v u) Q X.xe s₂) X.xe s₁) X.xe s := by
  refine thn (ha pins s σ H _ I h) fun v s1 ⟨x, H1, I1, r1, q1⟩ => ?_
  refine thn (hb pins s1 σ H1 _ I1 q1) fun u s2 ⟨y, H2, I2, r2, q2⟩ => ?_
  exact hf v u s2 x y H2 I2 r1 r2 q2

/-! ### names and constants -/
def tVar (i : Nat) : TE := fun σ H Q => ∃ v, σ[i]? = some (some v) ∧ Q v H
def tC (v : V) : TE := fun _ H Q => Q v H
theorem pe_var {i : Nat} {x : Str} {pos : Pos} (hN : X.N[i]? = some x) (hv : Vis X.env.scope x) (hd : (x == ("__debug__" : Str)) = false := by decide) (hcd : (x == ("__classdict__" : Str)) = false := by decide) : PE X (.Name x pos) (tVar i) := by
  intro pins s σ H Q I h
  obtain ⟨v, e, h⟩ := h
  obtain ⟨m, hn, hl⟩ := I.loc
  obtain ⟨u, r, l⟩ := hl i x v hN e hv
  have fin : EP X pins σ Q u s := ⟨v, H, I, r, h⟩
  rcases l with ⟨hk, hm⟩ | ⟨hk, c, hc, hcell⟩
  · exact wpAny_Name (wpAny_loadName_local I.ok.kind hk hn hm fin) hd
  · rcases hk with hk | hk
    · exact wpAny_Name (wpAny_loadName_cell I.ok.kind hk hc hcell fin) hd
    · exact wpAny_Name (wpAny_loadName_free I.ok.kind hk hc hcell fin hcd) hd
theorem pe_int {i j pos} : PE X (.Constant (.int i) j pos) (tC (.int i)) := fun _ _ _ H _ I h => wpAny_Constant_int ⟨.int i, H, I.tok _, ⟨_, rfl⟩, h⟩
theorem pe_bl {b j pos} : PE X (.Constant (.bool b) j pos) (tC (.bl b)) := fun _ _ _ H _ I h => Constant_bool ⟨.bl b, H, I, rfl, h⟩
theorem pe_non {j pos} : PE X (.Constant .none j pos) (tC .non) := fun _ _ _ H _ I h => Constant_none ⟨.non, H, I, rfl, h⟩
theorem pe_str {x j pos} : PE X (.Constant (.str x) j pos) (tC (.str x)) := fun _ _ _ H _ I h => Calls.Constant_str ⟨.str x, H, I.tok _, ⟨_, rfl⟩, h⟩

/-- a global name of the def -/
def Gl (X : Cx) (x : Str) : Prop := X.env.kindOf x = some .globalImplicit
theorem ld_glob {E : Value → Shared → Prop} {pins : List (Addr × Obj)} {s : Shared} {σ : St} {H : Hp} {x : Str} {u : Value} {pos : Pos} {Q : Value → Shared → Prop} (I : Inv X pins σ H s) (hg : Gl X x) (hm : X.mg x = some u) (h : Q u s)
    (hd : (x == ("__debug__" : Str)) = false := by decide) : wpAny (model X.prog X.w) X.A (eval (.Name x pos) X.env) Q E s :=
  Calls.Name_function_global I.ok.kind hg (Calls.loadGlobal_global (by rw [I.ok.glob]; exact I.mod.glob.keeps I.bk) hm h) hd
theorem ld_blt {E : Value → Shared → Prop} {pins : List (Addr × Obj)} {s : Shared} {σ : St} {H : Hp} {x : Str} {u : Value} {pos : Pos} {Q : Value → Shared → Prop} (I : Inv X pins σ H s) (hg : Gl X x) (hm : X.mg x = none) (hv : bootBuiltins x = some u) (h : Q u s)
    (hn : x ≠ "__name__" := by decide) (hd : (x == ("__debug__" : Str)) = false := by decide) : wpAny (model X.prog X.w) X.A (eval (.Name x pos) X.env) Q E s := by
  obtain ⟨mb, h1, h2⟩ := I.mod.blt
  exact Calls.Name_function_global I.ok.kind hg (Calls.loadGlobal_builtin (by rw [I.ok.glob]; exact I.mod.glob.keeps I.bk) hm (by rw [I.ok.blt]; exact h1.keeps I.bk) ((h2 x hn).trans hv) h) hd
/-- a module's constant, a class, a function, as a value -/
theorem pe_glob {x : Str} {v : V} {u : Value} {pos : Pos} (hg : Gl X x) (hm : X.mg x = some u) (r : RelV v u) (hd : (x == ("__debug__" : Str)) = false := by decide) : PE X (.Name x pos) (tC v) :=
  fun _ _ _ H _ I h => ld_glob I hg hm ⟨v, H, I, r, h⟩ hd
theorem pe_bltn {x : Str} {v : V} {u : Value} {pos : Pos} (hg : Gl X x) (hm : X.mg x = none) (hv : bootBuiltins x = some u) (r : RelV v u) (hn : x ≠ "__name__" := by decide) (hd : (x == ("__debug__" : Str)) = false := by decide) : PE X (.Name x pos) (tC v) :=
  fun _ _ _ H _ I h => ld_blt I hg hm hv ⟨v, H, I, r, h⟩ hn hd

/-! ### arithmetic -/
/-- two ints -/
def t2I (ta tb : TE) (k : Int → Int → Hp → Prop) : St → Hp → Prop := fun σ H => ta σ H fun x H1 => tb σ H1 fun y H2 => ∃ i j, x = .int i ∧ y = .int j ∧ k i j H2
def tAdd (ta tb : TE) : TE := fun σ H Q => t2I ta tb (fun i j H2 => Q (.int (i + j)) H2) σ H
def tSub (ta tb : TE) : TE := fun σ H Q => t2I ta tb (fun i j H2 => Q (.int (i - j)) H2) σ H
/-- the left factor below 2^64 -/
def tMul (ta tb : TE) : TE := fun σ H Q => t2I ta tb (fun i j H2 => (-(2 ^ 64) < i ∧ i < 2 ^ 64) ∧ Q (.int (i * j)) H2) σ H
variable {a b : Expr} {ta tb : TE} {pos : Pos}
/-! ### comparisons -/
def PC (X : Cx) (op : CmpOp) (a b : Expr) (t : TE) : Prop :=
  ∀ (pins : List (Addr × Obj)) (s : Shared) (σ : St) (H : Hp) (Q : VK), Inv X pins σ H s → t σ H Q →
    wpAny (model X.prog X.w) X.A (eval a X.env) (fun v s₁ => wpAny (model X.prog X.w) X.A (eval b X.env) (fun u s₂ => wpAny (model X.prog X.w) X.A (compareOp op v u) (EP X pins σ Q) X.xe s₂) X.xe s₁) X.xe s
theorem nobehind (b : Expr) {op : CmpOp} (h : op ≠ .In) (h2 : op ≠ .NotIn) : behindInMarks op b = false := by
  have e1 : (op == CmpOp.In) = false := by cases op <;> first | rfl | exact absurd rfl h
  have e2 : (op == CmpOp.NotIn) = false := by cases op <;> first | rfl | exact absurd rfl h2
  cases b <;> simp [behindInMarks, e1, e2]
def tCmp (p : Int → Int → Bool) (ta tb : TE) : TE := fun σ H Q => t2I ta tb (fun i j H2 => Q (.bl (p i j)) H2) σ H
abbrev tLt : TE → TE → TE := tCmp fun i j => decide (i < j)
abbrev tLe : TE → TE → TE := tCmp fun i j => decide (i ≤ j)
abbrev tGt : TE → TE → TE := tCmp fun i j => decide (j < i)
abbrev tGe : TE → TE → TE := tCmp fun i j => decide (j ≤ i)
abbrev tEqI : TE → TE → TE := tCmp fun i j => decide (i = j)
abbrev tNeI : TE → TE → TE := tCmp fun i j => !decide (i = j)
/-- is None -/
def tIsN (ta : TE) : TE := fun σ H Q => ta σ H fun x H1 => Q (.bl (decide (x = .non))) H1
def tNotN (ta : TE) : TE := fun σ H Q => ta σ H fun x H1 => Q (.bl (!decide (x = .non))) H1
/-- a comparison as a value, as a test -/
def tB (t : TE) : TT := fun σ H Q => t σ H fun x H1 => ∃ c, x = .bl c ∧ Q c H1
theorem pt_cmp {op : CmpOp} {t : TE} (h : PC X op a b t) (h1 : behindInMarks op b = false := by first | exact nobehind _ (by decide) (by decide) | rfl) : PT X (.Compare a [op] [b] pos) (tB t) := by
  intro pins s σ H Q I hw
  refine wpAny_isTrue_Compare1 (thn (h pins s σ H _ I hw) fun v s1 h1 => thn h1 fun u s2 h2 => thn h2 fun c s3 ⟨x, H1, I1, r1, q1⟩ => ?_) h1
  obtain ⟨d, rfl, q⟩ := q1
  cases r1
  exact wpAny_truthy_bool ⟨H1, I1, q⟩
/-- an expression whose value is a bool, as a test -/
theorem pt_val {e : Expr} {t : TE} (h : PE X e t) (he : ∀ whole, isTrue e X.env whole = (do let v ← whole; standAt e.pos; holding [v] (truthy v)) := by intro _; rfl) : PT X e (tB t) := by
  intro pins s σ H Q I hw
  refine isTrue_plain (thn (h pins s σ H _ I hw) fun v s1 ⟨x, H1, I1, r1, q1⟩ => ?_) (he _)
  obtain ⟨d, rfl, q⟩ := q1
  cases r1
  exact wpAny_truthy_bool ⟨H1, I1, q⟩

/-! ### and, or, not -/
variable {tA tB' : TT} {rest : List Expr}
def tAnd (t u : TT) : TT := fun σ H Q => t σ H fun c H1 => if c = true then u σ H1 Q else Q false H1
def tOr (t u : TT) : TT := fun σ H Q => t σ H fun c H1 => if c = true then Q true H1 else u σ H1 Q
def tNot (t : TT) : TT := fun σ H Q => t σ H fun c H1 => Q (!c) H1
theorem pw_and1 (ha : PT X a tA) : PW X (.BoolOp .And [a] pos) tA := by
  intro wh pins s σ H Q I h
  refine isTrue_and (thn (ha pins s σ H Q I h) fun c s1 e => ?_)
  cases c with
  | true => exact isTrue_and_nil e
  | false => exact e
theorem pw_or1 (ha : PT X a tA) : PW X (.BoolOp .Or [a] pos) tA := by
  intro wh pins s σ H Q I h
  refine isTrue_or (thn (ha pins s σ H Q I h) fun c s1 e => ?_)
  cases c with
  | false => exact isTrue_or_nil e
  | true => exact e
theorem pw_and (ha : PT X a tA) (hb : PW X (.BoolOp .And (b :: rest) pos) tB') : PW X (.BoolOp .And (a :: b :: rest) pos) (tAnd tA tB') := by
  intro wh pins s σ H Q I h
  refine isTrue_and (thn (ha pins s σ H _ I h) fun c s1 ⟨H1, I1, q1⟩ => ?_)
  cases c with
  | true => exact hb wh pins s1 σ H1 Q I1 q1
  | false => exact ⟨H1, I1, q1⟩
theorem pw_or (ha : PT X a tA) (hb : PW X (.BoolOp .Or (b :: rest) pos) tB') : PW X (.BoolOp .Or (a :: b :: rest) pos) (tOr tA tB') := by
  intro wh pins s σ H Q I h
  refine isTrue_or (thn (ha pins s σ H _ I h) fun c s1 ⟨H1, I1, q1⟩ => ?_)
  cases c with
  | true => exact ⟨H1, I1, q1⟩
  | false => exact hb wh pins s1 σ H1 Q I1 q1
theorem pt_not (ha : PT X a tA) : PT X (.UnaryOp .Not a pos) (tNot tA) := by
  intro pins s σ H Q I h
  exact isTrue_not (ha pins s σ H (fun c H1 => Q (!c) H1) I h)
/-- .. as values (bools) -/
def tAndV (ta tb : TE) : TE := fun σ H Q => ta σ H fun x H1 => ∃ c, x = .bl c ∧ if c = true then tb σ H1 Q else Q (.bl false) H1
def tOrV (ta tb : TE) : TE := fun σ H Q => ta σ H fun x H1 => ∃ c, x = .bl c ∧ if c = true then Q (.bl true) H1 else tb σ H1 Q
def tNotV (ta : TE) : TE := fun σ H Q => ta σ H fun x H1 => ∃ c, x = .bl c ∧ Q (.bl (!c)) H1
theorem pe_one {op} {t : TE} (h : PE X a t) : PE X (.BoolOp op [a] pos) t := fun pins s σ H Q I hw => BoolOp_one (h pins s σ H Q I hw)
theorem pe_and (ha : PE X a ta) (hb : PE X (.BoolOp .And (b :: rest) pos) tb) : PE X (.BoolOp .And (a :: b :: rest) pos) (tAndV ta tb) := by
  intro pins s σ H Q I h
  refine BoolOp_and (thn (ha pins s σ H _ I h) fun v s1 ⟨x, H1, I1, r1, q1⟩ => ?_)
  obtain ⟨c, rfl, q1⟩ := q1
  cases r1
  refine wpAny_truthy_bool ?_
  cases c with
  | true => exact hb pins s1 σ H1 Q I1 q1
  | false => exact ⟨.bl false, H1, I1, rfl, q1⟩
theorem pe_not (ha : PE X a ta) : PE X (.UnaryOp .Not a pos) (tNotV ta) := by
  intro pins s σ H Q I h
  refine UnaryOp_ (thn (ha pins s σ H _ I h) fun v s1 ⟨x, H1, I1, r1, q1⟩ => ?_)
  obtain ⟨c, rfl, q1⟩ := q1
  cases r1
  exact not_of (wpAny_truthy_bool ⟨.bl (!c), H1, I1, rfl, q1⟩)
/-- a if t else b -/
def tIf (t : TT) (ta tb : TE) : TE := fun σ H Q => t σ H fun c H1 => if c = true then ta σ H1 Q else tb σ H1 Q
end
end L2

namespace L2
open PySem PySem.Spec PyProof.Rows

/-! ### a list, a tuple that is read: tracked, frozen, or an object of the module -/
def SqL (K : PySem.W.Frag) (H : Hp) (a : Addr) (xs : List V) : Prop :=
  Rd H a (.lst xs) ∨
    ∃ (o : Obj) (its : Array Value) (n : Nat), K.lookup a = some o ∧ o.cls = .type "list" ∧ o.dict = none ∧ o.data = .seq its n ∧ its.size ≤ sizeLine ∧ Vals xs its.toList
def SqT (K : PySem.W.Frag) (H : Hp) (a : Addr) (xs : List V) : Prop :=
  Rd H a (.tup xs) ∨
    ∃ (o : Obj) (its : Array Value) (n : Nat), K.lookup a = some o ∧ o.cls = .type "tuple" ∧ o.data = .seq its n ∧ its.size ≤ sizeLine ∧ Vals xs its.toList
def absV : Value → Option V
  | .none => some .non
  | .bool b => some (.bl b)
  | .int i _ => some (.int i)
  | .str x _ => some (.str x)
  | .bytes b _ => some (.byt b)
  | .float b _ => some (.flt b)
  | .ref a => some (.ref a)
  | .type n => some (.ty n)
  | _ => none
theorem RelV.abs {x : V} {u : Value} (r : RelV x u) : absV u = some x := by
  cases x with
  | non => cases r; rfl
  | bl _ => cases r; rfl
  | int _ => obtain ⟨t, rfl⟩ := r; rfl
  | str _ => obtain ⟨t, rfl⟩ := r; rfl
  | byt _ => obtain ⟨t, rfl⟩ := r; rfl
  | flt _ => obtain ⟨t, rfl⟩ := r; rfl
  | ref _ => cases r; rfl
  | ty _ => cases r; rfl
theorem RelV.inj {x y : V} {u : Value} (r : RelV x u) (q : RelV y u) : x = y := Option.some.inj (r.abs.symm.trans q.abs)
theorem Vals.inj : ∀ {xs ys : List V} {us : List Value}, Vals xs us → Vals ys us → xs = ys
  | _, _, _, .nil, .nil => rfl
  | _, _, _, .cons r t, .cons r' t' => by rw [r.inj r', Vals.inj t t']
section
variable {X : Cx} {pins : List (Addr × Obj)} {σ : St} {H : Hp} {s : Shared} {a : Addr} {xs ys : List V}
theorem SqL.of {K : PySem.W.Frag} (h : H a = some (.lst xs)) : SqL K H a xs := .inl (.inl h)
theorem SqT.of {K : PySem.W.Frag} (h : H a = some (.tup xs)) : SqT K H a xs := .inl (.inl h)
theorem Inv.list (I : Inv X pins σ H s) (h : SqL X.K H a xs) : ∃ its : List Value, Vals xs its ∧ PlainL s.heap a its.toArray ∧ xs.length ≤ sizeLine := by
  rcases h with h | ⟨o, its, n, hk, hc, hd, hs, hz, r⟩
  · obtain ⟨z, its, n, r, e⟩ := h.ok I.hok
    exact ⟨its, r, ⟨_, n, e, rfl, rfl, rfl⟩, z⟩
  · refine ⟨its.toList, r, ⟨o, n, I.kIn a o hk, hc, hd, by simpa using hs⟩, ?_⟩
    have e := r.length
    simp only [Array.length_toList] at e
    omega
theorem Inv.tuple (I : Inv X pins σ H s) (h : SqT X.K H a xs) : ∃ its : List Value, Vals xs its ∧ IsTup s.heap a its.toArray ∧ xs.length ≤ sizeLine := by
  rcases h with h | ⟨o, its, n, hk, hc, hs, hz, r⟩
  · obtain ⟨z, its, r, p⟩ := h.ok I.hok
    exact ⟨its, r, p, z⟩
  · refine ⟨its.toList, r, ⟨o, I.kIn a o hk, hc, n, by simpa using hs⟩, ?_⟩
    have e := r.length
    simp only [Array.length_toList] at e
    omega
theorem Inv.list_inj (I : Inv X pins σ H s) (h : SqL X.K H a xs) (h' : SqL X.K H a ys) : xs = ys := by
  obtain ⟨its, r, ⟨o, n, e, _, _, d⟩, _⟩ := I.list h
  obtain ⟨its', r', ⟨o', n', e', _, _, d'⟩, _⟩ := I.list h'
  rw [e] at e'; cases e'
  rw [d] at d'
  injection d' with d1 _
  have : its = its' := by simpa using congrArg Array.toList d1
  subst this
  exact r.inj r'
end

/-! ### another wish about exceptions -/
abbrev Cx.wish (X : Cx) (E : Value → Shared → Prop) : Cx := { X with xe := E }
/-- no exception leaves -/
abbrev Cx.nox (X : Cx) : Cx := X.wish fun _ _ => False
theorem Cx.Ok.wish {X : Cx} (ok : X.Ok) (E : Value → Shared → Prop) : (X.wish E).Ok :=
  ⟨ok.mod, ok.kind, ok.glob, ok.blt, ok.above, ok.inj, ok.has, ok.cab, ok.hd, ok.frames, ok.stk, ok.exf, ok.bs, ok.bsz, ok.noex, ok.exfs, ok.funs, ok.frf⟩
theorem Cx.Ok.unwish {X : Cx} {E : Value → Shared → Prop} (ok : (X.wish E).Ok) : X.Ok :=
  ⟨ok.mod, ok.kind, ok.glob, ok.blt, ok.above, ok.inj, ok.has, ok.cab, ok.hd, ok.frames, ok.stk, ok.exf, ok.bs, ok.bsz, ok.noex, ok.exfs, ok.funs, ok.frf⟩
section
variable {X : Cx} {pins : List (Addr × Obj)} {σ : St} {H : Hp} {s : Shared} {E : Value → Shared → Prop}
theorem Inv.wish (I : Inv X pins σ H s) (E : Value → Shared → Prop) : Inv (X.wish E) pins σ H s := ⟨I.ok.wish E, I.os, I.bare, I.base, I.loc, I.cell, I.free, I.freeC, I.pin, I.hok, I.len⟩
theorem Inv.unwish (I : Inv (X.wish E) pins σ H s) : Inv X pins σ H s := ⟨I.ok.unwish, I.os, I.bare, I.base, I.loc, I.cell, I.free, I.freeC, I.pin, I.hok, I.len⟩
theorem SP.unwish {D : Ends} {f : Flow} {s' : Shared} (h : SP (X.wish E) pins D f s') : SP X pins D f s' := by
  cases f with
  | next => obtain ⟨σ', H', I, q⟩ := h; exact ⟨σ', H', I.unwish, q⟩
  | brk => obtain ⟨σ', H', I, q⟩ := h; exact ⟨σ', H', I.unwish, q⟩
  | cont => obtain ⟨σ', H', I, q⟩ := h; exact ⟨σ', H', I.unwish, q⟩
  | ret u => obtain ⟨v, σ', H', I, r, q⟩ := h; exact ⟨v, σ', H', I.unwish, r, q⟩
theorem PSs.nox {st : List Stmt} {t : TS} (h : PSs X.nox st t) : PSs X st t := fun pins s σ H D I hw =>
  wpAny_mono (h pins s σ H D (I.wish _) hw) (fun _ _ q => q.unwish) fun _ _ z => False.elim z
end

/-! ### blocks and small statements -/
section
variable {X : Cx} {st : Stmt} {rest : List Stmt} {t u : TS} {e : Expr} {te : TE} {pos : Pos}
def tNext : TS := fun D σ H => D.nx σ H
def tSeq (t u : TS) : TS := fun D σ H => t { D with nx := u D } σ H
theorem pss_nil : PSs X [] tNext := fun _ _ σ H _ I h => wpAny_execs_nil ⟨σ, H, I, h⟩
theorem pss_cons (h1 : PS X st t) (h2 : PSs X rest u) : PSs X (st :: rest) (tSeq t u) := by
  intro pins s σ H D I h
  refine wpAny_execs_cons (thn (h1 pins s σ H { D with nx := u D } I h) fun f s1 q => ?_)
  cases f with
  | next =>
    obtain ⟨σ', H', I', q⟩ := q
    exact h2 pins s1 σ' H' D I' q
  | ret v => exact q
  | brk => exact q
  | cont => exact q
theorem pss_one (h1 : PS X st t) : PSs X [st] t := by
  intro pins s σ H D I h
  refine wpAny_execs_cons (thn (h1 pins s σ H D I h) fun f s1 q => ?_)
  cases f with
  | next => exact wpAny_execs_nil q
  | ret v => exact q
  | brk => exact q
  | cont => exact q
def tBreak : TS := fun D σ H => D.bk σ H
def tCont : TS := fun D σ H => D.ct σ H
/-- in a def's body nothing is shown -/
theorem Inv.quiet {pins : List (Addr × Obj)} {σ : St} {H : Hp} {s : Shared} (I : Inv X pins σ H s) : interactive X.env = false := by simp [interactive, I.ok.kind]
/-- an expression whose value is dropped -/
def tDrop (te : TE) : TS := fun D σ H => te σ H fun _ H1 => D.nx σ H1
theorem ps_expr (he : PE X e te) (hs : swapsWith e none pos.line X.env = pure false := by rfl) : PS X (.Expr e pos) (tDrop te) := by
  intro pins s σ H D I h
  exact wpAny_Expr_any (thn (he pins s σ H _ I h) fun v s1 ⟨x, H1, I1, r1, q1⟩ => ⟨σ, H1, I1, q1⟩) I.quiet hs
def tRet (te : TE) : TS := fun D σ H => te σ H D.rt
theorem ps_ret (he : PE X e te) : PS X (.Return (some e) pos) (tRet te) := by
  intro pins s σ H D I h
  exact wpAny_Return_some (thn (he pins s σ H _ I h) fun v s1 ⟨x, H1, I1, r1, q1⟩ => ⟨x, σ, H1, I1, r1, q1⟩)
def tRetN : TS := fun D _ H => D.rt .non H
def tIfS (c : TT) (t u : TS) : TS := fun D σ H => c σ H fun b H1 => if b = true then t D σ H1 else u D σ H1
theorem ps_if {c : Expr} {a b : List Stmt} {tc : TT} (hc : PT X c tc) (ha : PSs X a t) (hb : PSs X b u) : PS X (.If c a b pos) (tIfS tc t u) := by
  intro pins s σ H D I h
  refine wpAny_If (thn (hc pins s σ H _ I h) fun d s1 ⟨H1, I1, q1⟩ => ?_)
  cases d with
  | true => exact ha pins s1 σ H1 D I1 q1
  | false => exact hb pins s1 σ H1 D I1 q1
/-- code that the proof never comes to -/
def tNever : TS := fun _ _ _ => False
theorem pss_never {sts : List Stmt} : PSs X sts tNever := fun _ _ _ _ _ _ h => h.elim
end

/-! ### targets -/
abbrev TG := V → St → Hp → (St → Hp → Prop) → Prop
abbrev TGs := List V → St → Hp → (St → Hp → Prop) → Prop
def PG (X : Cx) (target : Expr) (t : TG) : Prop :=
  ∀ (pins : List (Addr × Obj)) (s : Shared) (σ : St) (H : Hp) (v : V) (u : Value) (Q : St → Hp → Prop), Inv X pins σ H s → RelV v u → t v σ H Q →
    wpAny (model X.prog X.w) X.A (assign target X.env u) (fun _ s' => ∃ σ' H', Inv X pins σ' H' s' ∧ Q σ' H') X.xe s
/-- several targets, one after another -/
def PGs (X : Cx) (ts : List Expr) (t : TGs) : Prop :=
  ∀ (pins : List (Addr × Obj)) (s : Shared) (σ : St) (H : Hp) (vs : List V) (us : List Value) (Q : St → Hp → Prop), Inv X pins σ H s → Vals vs us → t vs σ H Q →
    wpAny (model X.prog X.w) X.A (assignInOrder ((assignEach ts X.env).map (·.2)) us) (fun _ s' => ∃ σ' H', Inv X pins σ' H' s' ∧ Q σ' H') X.xe s
/-- o[i] = v, by values -/
abbrev TSet := V → V → V → Hp → (Hp → Prop) → Prop
def PSet (X : Cx) (t : TSet) : Prop :=
  ∀ (pins : List (Addr × Obj)) (s : Shared) (σ : St) (H : Hp) (o i v : V) (ov iv u : Value) (Q : Hp → Prop), Inv X pins σ H s → RelV o ov → RelV i iv → RelV v u → t o i v H Q →
    wpAny (model X.prog X.w) X.A (setItem ov iv u) (fun _ s' => ∃ H', Inv X pins σ H' s' ∧ Q H') X.xe s
/-- a op= b, by values -/
abbrev TIp := V → V → Hp → VK → Prop
def PIp (X : Cx) (op : Operator) (t : TIp) : Prop :=
  ∀ (pins : List (Addr × Obj)) (s : Shared) (σ : St) (H : Hp) (x y : V) (v u : Value) (Q : VK), Inv X pins σ H s → RelV x v → RelV y u → t x y H Q →
    wpAny (model X.prog X.w) X.A (inplaceOp op v u) (EP X pins σ Q) X.xe s
section
variable {X : Cx} {pos : Pos}
def gName (i : Nat) : TG := fun v σ H Q => Q (σ.set i (some v)) H
theorem pg_name {i : Nat} {x : Str} (hN : X.N.Nodup) (hi : X.N[i]? = some x) (hx : Loc X.env.scope x) (hf : X.fn x = true ∨ X.env.scope.names.lookup x = some .local := by first | exact .inl rfl | exact .inr rfl | assumption) : PG X (.Name x pos) (gName i) := by
  intro pins s σ H v u Q I r h
  exact wpAny_assign_Name (store_ok I hN hi hx r (fun s' I' => ⟨_, H, I', h⟩) hf)
def gNil : TGs := fun vs σ H Q => vs = [] ∧ Q σ H
def gCons (t : TG) (u : TGs) : TGs := fun vs σ H Q => ∃ v r, vs = v :: r ∧ t v σ H fun σ' H' => u r σ' H' Q
theorem pgs_nil : PGs X [] gNil := by
  intro pins s σ H vs us Q I r h
  obtain ⟨e, h⟩ := h
  subst e
  cases r
  exact assignInOrder_nil ⟨σ, H, I, h⟩
theorem pgs_cons {e : Expr} {es : List Expr} {t : TG} {u : TGs} (h1 : PG X e t) (h2 : PGs X es u)
    (hs : (assignEach (e :: es) X.env).map (·.2) = assign e X.env :: (assignEach es X.env).map (·.2) := by rfl) : PGs X (e :: es) (gCons t u) := by
  intro pins s σ H vs us Q I r h
  obtain ⟨v, vr, e1, h⟩ := h
  subst e1
  cases r with
  | cons r rr =>
    rw [hs]
    refine assignInOrder_cons (thn (h1 pins s σ H _ _ _ I r h) fun _ s1 ⟨σ1, H1, I1, q1⟩ => ?_)
    exact h2 pins s1 σ1 H1 _ _ Q I1 rr q1
/-- (a, b, ..) = a tuple of that length -/
def gTup (K : PySem.W.Frag) (n : Nat) (t : TGs) : TG := fun v σ H Q => ∃ a xs, v = .ref a ∧ SqT K H a xs ∧ xs.length = n ∧ t xs σ H Q
theorem pg_tup {es : List Expr} {k : Nat} {t : TGs} {n : Nat} (hc : X.calm = true) (h : PGs X es t)
    (hn : (assignEach es X.env).length = n := by rfl) (hst : (assignEach es X.env).findIdx? (·.1) = none := by rfl) : PG X (.Tuple es k pos) (gTup X.K n t) := by
  intro pins s σ H v u Q I r hw
  obtain ⟨a, xs, e1, hq, hl, hw⟩ := hw
  subst e1
  cases r
  obtain ⟨its, rv, ht, hz⟩ := I.tuple hq
  refine assign_Tuple_tuple (I.ok.hd hc) ht (by simp [hn, ← hl, rv.length]) hst fun h' hx => ?_
  have I1 : Inv X pins σ H { s with heap := h' } := I.kept (t' := s.toks) fun b o e => hx b o (Nat.ne_of_lt (Heap.lt_size e)) e
  exact h pins _ σ H xs _ Q I1 (by simpa using rv) hw
/-- o[i] = .. -/
def gSub (to ti : TE) (t : TSet) : TG := fun v σ H Q => to σ H fun o H1 => ti σ H1 fun i H2 => t o i v H2 fun H3 => Q σ H3
theorem pg_sub {o i : Expr} {to ti : TE} {t : TSet} (ho : PE X o to) (hi : PE X i ti) (hs : PSet X t)
    (ha : ∀ v, assign (.Subscript o i pos) X.env v = (do
      let ov ← holding [v] (eval o X.env)
      let iv ← holding [v, ov] (eval i X.env)
      standAt pos
      holding [v, ov, iv] (setItem ov iv v)
      release [v, ov, iv] []) := by intro _; rfl) : PG X (.Subscript o i pos) (gSub to ti t) := by
  intro pins s σ H v u Q I r h
  rw [ha]
  refine wpAny_bind (wpAny_holding (thn (ho pins s σ H _ I h) fun ov s1 ⟨x, H1, I1, r1, q1⟩ => ?_))
  refine wpAny_bind (wpAny_holding (thn (hi pins s1 σ H1 _ I1 q1) fun iv s2 ⟨y, H2, I2, r2, q2⟩ => ?_))
  refine wpAny_bind (wpAny_standAt (wpAny_bind (wpAny_holding (thn (hs pins s2 σ H2 x y v ov iv u _ I2 r1 r2 r q2) fun _ s3 ⟨H3, I3, q3⟩ => ?_))))
  exact wpAny_release ⟨σ, H3, I3, q3⟩
/-- target = value -/
def tAsg (te : TE) (g : TG) : TS := fun D σ H => te σ H fun x H1 => g x σ H1 D.nx
theorem ps_asg {tg e : Expr} {te : TE} {g : TG} (he : PE X e te) (hg : PG X tg g) (hs : swapsWithSole [tg] e pos.line X.env = pure false := by rfl) (hw : swappedStores [tg] e X.env = pure none := by rfl)
    (h1 : (assignEach [tg] X.env).map (·.2) = [assign tg X.env] := by rfl) : PS X (.Assign [tg] e pos) (tAsg te g) := by
  intro pins s σ H D I h
  refine wpAny_Assign_stores (thn (he pins s σ H _ I h) fun v s1 ⟨x, H1, I1, r1, q1⟩ => ?_) hs hw
  rw [h1]
  exact thn (hg pins s1 σ H1 x v _ I1 r1 q1) fun _ s2 q => q
/-- name = value -/
theorem ps_set {i : Nat} {x : Str} {e : Expr} {te : TE} {pos' : Pos} (hN : X.N.Nodup) (hi : X.N[i]? = some x) (hx : Loc X.env.scope x) (he : PE X e te) (hs : swapsWith e (some (.Name x pos')) pos.line X.env = pure false := by rfl) (hf : X.fn x = true ∨ X.env.scope.names.lookup x = some .local := by first | exact .inl rfl | exact .inr rfl | assumption) :
    PS X (.Assign [.Name x pos'] e pos) (tAsg te (gName i)) := by
  intro pins s σ H D I h
  refine wpAny_Assign_Name (thn (he pins s σ H _ I h) fun v s1 ⟨y, H1, I1, r1, q1⟩ => ?_) hs
  exact store_ok I1 hN hi hx r1 (fun s2 I2 => ⟨_, H1, I2, q1⟩) hf
/-- a, b = x, y with plain local names: stored from the right; the pair itself is not tracked (the opening rows as in PyProof/Rows/TupAssign.lean:23) -/
def tPar (i j : Nat) (ta : TA) : TS := fun D σ H => ta σ H fun vs H1 => ∃ v w, vs = [v, w] ∧ D.nx ((σ.set i (some v)).set j (some w)) H1
/-- name op= e -/
def tAug (i : Nat) (te : TE) (ti : TIp) : TS := fun D σ H => ∃ x, σ[i]? = some (some x) ∧ te σ H fun y H1 => ti x y H1 fun z H2 => D.nx (σ.set i (some z)) H2
/-- o[i] op= e -/
def tAugS (to ti te : TE) (tget : V → V → Hp → VK → Prop) (tip : TIp) (tset : TSet) : TS := fun D σ H => to σ H fun o H1 => ti σ H1 fun i H2 => tget o i H2 fun x H3 => te σ H3 fun y H4 => tip x y H4 fun z H5 => tset o i z H5 fun H6 => D.nx σ H6
/-- o[i], by values -/
def PGet (X : Cx) (t : V → V → Hp → VK → Prop) : Prop :=
  ∀ (pins : List (Addr × Obj)) (s : Shared) (σ : St) (H : Hp) (o i : V) (ov iv : Value) (Q : VK), Inv X pins σ H s → RelV o ov → RelV i iv → t o i H Q →
    wpAny (model X.prog X.w) X.A (getItem ov iv) (EP X pins σ Q) X.xe s
/-- ints -/
def ipI (f : Int → Int → Int) : TIp := fun x y H Q => ∃ i j, x = .int i ∧ y = .int j ∧ Q (.int (f i j)) H
end

/-! ### while -/
section
variable {X : Cx} {pos : Pos}
/-- the invariant W with its measure -/
def tWhile (c : TT) (tb : TS) : TS := fun D σ H => ∃ W : Nat → St → Hp → Prop, (∃ m, W m σ H) ∧ ∀ m σ H, W m σ H →
  c σ H fun b H1 => if b = true then ∃ N : St → Hp → Prop, (∀ σ' H', N σ' H' → ∃ m', m' < m ∧ W m' σ' H') ∧ tb { D with nx := N, ct := N, bk := D.nx } σ H1 else D.nx σ H1
theorem ps_while {c : Expr} {body : List Stmt} {tc : TT} {tb : TS} (hp : PassesOwn (model X.prog X.w) X.A X.env X.xe) (hc : PT X c tc) (hb : PSs X body tb) : PS X (.While c body [] pos) (tWhile tc tb) := by
  intro pins s σ H D I h
  obtain ⟨W, ⟨m0, w0⟩, turn⟩ := h
  refine wpAny_While (codeAny_whileLoop (fun n s' => ∃ σ' H', Inv X pins σ' H' s' ∧ W n σ' H') ?_ m0 ⟨σ, H, I, w0⟩)
  rintro n s1 ⟨σ1, H1, I1, w1⟩
  refine wpAny_passesOwn hp (thn (hc pins s1 σ1 H1 _ I1 (turn n σ1 H1 w1)) fun b s2 ⟨H2, I2, q2⟩ => ?_)
  cases b with
  | true =>
    obtain ⟨N, hN, q2⟩ := q2
    rw [if_pos rfl]
    refine wpAny_passesOwn hp (thn (hb pins s2 σ1 H2 _ I2 q2) fun f s3 q3 => ?_)
    cases f with
    | next =>
      obtain ⟨σ3, H3, I3, n3⟩ := q3
      obtain ⟨m', hm, w3⟩ := hN σ3 H3 n3
      exact ⟨m', hm, σ3, H3, I3, w3⟩
    | cont =>
      obtain ⟨σ3, H3, I3, n3⟩ := q3
      obtain ⟨m', hm, w3⟩ := hN σ3 H3 n3
      exact ⟨m', hm, σ3, H3, I3, w3⟩
    | brk => exact q3
    | ret v => exact q3
  | false =>
    rw [if_neg Bool.false_ne_true]
    exact wpAny_execs_nil ⟨σ1, H2, I2, q2⟩
end

/-! ### what a loop or a comprehension walks -/
/-- at turn i: it yields x (the heap may grow), or it stops -/
structure It where
  go : Nat → Hp → Prop
  yld : Nat → Hp → V → Hp → Prop
  stop : Nat → Hp → Prop
/-- the iterator's own objects may turn: they are not the frame's, not pinned, younger than the entry (or a comprehension's own) -/
def FpOk (X : Cx) (pins : List (Addr × Obj)) (H : Hp) (b : Addr) : Prop :=
  H b = none ∧ b ≠ X.env.locals ∧ b ∉ X.fs ∧ (b ∈ X.ex ∨ X.s₀.heap.objs.size ≤ b) ∧ (∀ x c, X.env.cells.lookup x = some c → c ≠ b) ∧ ∀ p ∈ X.pn ++ pins, p.1 ≠ b
theorem Inv.fpOk {X : Cx} {pins : List (Addr × Obj)} {σ : St} {H H' : Hp} {s : Shared} {b : Addr} (I : Inv X pins σ H s) (hb : s.heap.objs.size ≤ b) (hn : H' b = none) : FpOk X pins H' b := by
  refine ⟨hn, Nat.ne_of_gt (Nat.lt_of_lt_of_le I.lt hb), I.nofs hb, .inr (Nat.le_trans I.sz hb), fun x c e z => ?_, fun p hp z => ?_⟩
  · obtain ⟨v, q⟩ := I.cell x c e
    exact absurd (Nat.lt_of_lt_of_le q.lt (by rw [z]; exact hb)) (Nat.lt_irrefl _)
  · exact absurd (Nat.lt_of_lt_of_le (Heap.lt_size (I.pin p hp).1) (by rw [z]; exact hb)) (Nat.lt_irrefl _)
structure Turn (P : Program) (w : World) (K : PySem.W.Frag) (tg : Expr) (J : It) (fp : List Addr) (it : Addr) (tn : Nat → Heap → Prop) : Prop where
  mem : it ∈ fp
  obj : ∀ i h, tn i h → ∀ b ∈ fp, ∃ o, h.get? b = some o ∧ ∀ v, o.data ≠ .cell v
  keep : ∀ i h h', tn i h → (∀ b ∈ fp, ∀ o, h.get? b = some o → h'.get? b = some o) → tn i h'
  item : ∀ (X : Cx), X.prog = P → X.w = w → X.K = K → X.calm = true → ∀ (i : Nat) (pins : List (Addr × Obj)) (s : Shared) (σ : St) (H : Hp) (E : Value → Shared → Prop), Inv X pins σ H s → (∀ b ∈ fp, FpOk X pins H b) → tn i s.heap → J.go i H →
    wpAny (model P w) X.A (pyNext (.ref it)) (fun r s1 => ∃ u, r = some u ∧
      wpAny (model P w) X.A (letOwnedTupleGo tg (.ref it) u) (fun _ s2 => ∃ x H', Inv X pins σ H' s2 ∧ RelV x u ∧ J.yld i H x H' ∧ tn (i + 1) s2.heap ∧ ∀ b ∈ fp, H' b = none) E s1) E s
  done : ∀ (X : Cx), X.prog = P → X.w = w → X.K = K → X.calm = true → ∀ (i : Nat) (pins : List (Addr × Obj)) (s : Shared) (σ : St) (H : Hp) (E : Value → Shared → Prop), Inv X pins σ H s → (∀ b ∈ fp, FpOk X pins H b) → tn i s.heap → J.stop i H →
    wpAny (model P w) X.A (pyNext (.ref it)) (fun r s1 => r = none ∧ Inv X pins σ H s1) E s
  self : ∀ (A : Around) (i : Nat) (s : Shared) (Q : Value → Shared → Prop) (E : Value → Shared → Prop), tn i s.heap → Q (.ref it) s → wpAny (model P w) A (pyIter (.ref it)) Q E s
abbrev TI := St → Hp → (It → Hp → Prop) → Prop
/-- an iterator has come -/
def PIE (X : Cx) (pins : List (Addr × Obj)) (σ : St) (tg : Expr) (R : It → Hp → Prop) (itv : Value) (s2 : Shared) : Prop :=
  ∃ (it : Addr) (fp : List Addr) (tn : Nat → Heap → Prop) (J : It) (H' : Hp), itv = .ref it ∧ Inv X pins σ H' s2 ∧ Turn X.prog X.w X.K tg J fp it tn ∧ tn 0 s2.heap ∧ (∀ b ∈ fp, FpOk X pins H' b) ∧ R J H'
def PI (X : Cx) (tg iter : Expr) (wi : TI) : Prop :=
  ∀ (pins : List (Addr × Obj)) (s : Shared) (σ : St) (H : Hp) (R : It → Hp → Prop), Inv X pins σ H s → wi σ H R →
    wpAny (model X.prog X.w) X.A (eval iter X.env) (fun v s1 => wpAny (model X.prog X.w) X.A (pyIter v) (PIE X pins σ tg R) X.xe s1) X.xe s

/-- the step ahead of the store is nothing for an iterator that keeps no tuple -/
theorem go_of {M : Model} {A : Around} {E : Value → Shared → Prop} {s : Shared} {tg : Expr} {it : Addr} {u : Value} {o : Obj} {n : String} {vs : Array Value} {Q : Unit → Shared → Prop} (ho : s.heap.get? it = some o) (hc : o.cls = .type n) (hd : o.data = .fields vs)
    (hn : ["enumerate", "zip", "dict_itemiterator", "dict_reverseitemiterator", "odict_iterator", "itertools.zip_longest", "itertools.pairwise"].contains n = false) (hQ : Q () s) : wpAny M A (letOwnedTupleGo tg (.ref it) u) Q E s := by
  unfold letOwnedTupleGo
  cases tg <;> first
    | exact wpAny_pure hQ
    | (cases u <;> first
        | exact wpAny_pure hQ
        | (refine wpAny_bind (wpAny_load ho ?_)
           rw [hc, hd]
           show wpAny M A (if (["enumerate", "zip", "dict_itemiterator", "dict_reverseitemiterator", "odict_iterator", "itertools.zip_longest", "itertools.pairwise"].contains n && vs[0]? == some (rawInt _)) = true then _ else _) Q E s
           rw [if_neg (by intro h; rw [hn, Bool.false_and] at h; cases h)]
           exact wpAny_pure hQ))

/-- the list at a, as it stands at each turn (a loop may append to it) -/
def Itl (K : PySem.W.Frag) (a : Addr) : It :=
  ⟨fun i H => ∃ xs x, SqL K H a xs ∧ xs[i]? = some x, fun i H x H' => H' = H ∧ ∀ xs, SqL K H a xs → xs[i]? = some x, fun i H => ∃ xs, SqL K H a xs ∧ xs.length ≤ i⟩
def Itt (K : PySem.W.Frag) (a : Addr) : It :=
  ⟨fun i H => ∃ xs x, SqT K H a xs ∧ xs[i]? = some x, fun i H x H' => H' = H ∧ ∀ xs, SqT K H a xs → xs[i]? = some x, fun i H => ∃ xs, SqT K H a xs ∧ xs.length ≤ i⟩
/-- lo, lo + 1, .. (n of them) -/
def Itr (lo : Int) (n : Nat) : It := ⟨fun i _ => i < n, fun i H x H' => H' = H ∧ x = .int (lo + i), fun i _ => n ≤ i⟩
theorem turn_list {P : Program} {w : World} {K : PySem.W.Frag} {tg : Expr} (a it : Addr) : Turn P w K tg (Itl K a) [it] it (fun i h => h.IsListIter it a i) where
  mem := by simp
  obj := fun i h st b hb => by
    have e : b = it := by simpa using hb
    subst e
    obtain ⟨o, e, c, d⟩ := st
    exact ⟨o, e, fun v z => by rw [d] at z; cases z⟩
  keep := fun i h h' st k => st.at fun o e => k it (by simp) o e
  item := by
    intro X hP hw hK hc i pins s σ H E I hf st hg
    subst hP hw hK
    obtain ⟨xs, x, hq, hx⟩ := hg
    obtain ⟨its, rv, p, hz⟩ := I.list hq
    obtain ⟨u, hu, ru⟩ := rv.get hx
    obtain ⟨f0, f1, f2, f3, f4, f5⟩ := hf it (by simp)
    refine wpAny_pyNext_list_item st p.isList (x := u) (by simpa using hu) fun h' st' sb => ?_
    have I1 : Inv X pins σ H { s with heap := h' } := I.turned (t' := s.toks) (fun b o hb e => (sb.2 b hb).trans e) f0 f1 f3 f4 f5
    obtain ⟨o, e, c, d⟩ := id st'
    exact ⟨u, rfl, go_of (s := { s with heap := h' }) e c d (by decide) ⟨x, H, I1, ru, ⟨rfl, fun ys hy => by rw [I.list_inj hy hq]; exact hx⟩, st', fun b hb => (hf b hb).1⟩⟩
  done := by
    intro X hP hw hK hc i pins s σ H E I hf st hg
    subst hP hw hK
    obtain ⟨xs, hq, hx⟩ := hg
    obtain ⟨its, rv, p, hz⟩ := I.list hq
    obtain ⟨f0, f1, f2, f3, f4, f5⟩ := hf it (by simp)
    have hl := rv.length
    exact wpAny_pyNext_list_end (I.ok.hd hc) st p.isList (by simp; omega) fun h' eb => ⟨rfl, I.turned (t' := s.toks) (fun b o hb e => eb b o hb e) f0 f1 f3 f4 f5⟩
  self := fun _ _ _ _ _ st h => wpAny_pyIter_listiter st h
theorem turn_range {P : Program} {w : World} {K : PySem.W.Frag} {tg : Expr} (it : Addr) (lo : Int) (n : Nat) : Turn P w K tg (Itr lo n) [it] it (fun i h => IsRangeIter h it (lo + (i : Nat) * 1) ((n : Int) - (i : Nat)) 1) where
  mem := by simp
  obj := fun i h st b hb => by
    have e : b = it := by simpa using hb
    subst e
    exact ⟨_, st, fun v z => by
      have z' : Data.fields _ = Data.cell v := z
      cases z'⟩
  keep := fun i h h' st k => k it (by simp) _ st
  item := by
    intro X hP hw hK hc i pins s σ H E I hf st hg
    subst hP hw hK
    obtain ⟨f0, f1, f2, f3, f4, f5⟩ := hf it (by simp)
    have W := Walks.range (prog := X.prog) (w := X.w) (I.ok.hd hc) it lo 1 n
    refine W.item i s _ _ hg st fun v h' tk hv st' kk => ?_
    obtain ⟨t, rfl⟩ := hv
    have I1 : Inv X pins σ H { s with heap := h', toks := tk } := I.turned (fun b o hb e => kk b o (by simpa using hb) e) f0 f1 f3 f4 f5
    refine ⟨_, rfl, go_of (s := { s with heap := h', toks := tk }) (n := "range_iterator") st' rfl rfl (by decide) ⟨.int (lo + i), H, I1, ⟨t, ?_⟩, ⟨rfl, rfl⟩, st', fun b hb => (hf b hb).1⟩⟩
    rw [Int.mul_one]
  done := by
    intro X hP hw hK hc i pins s σ H E I hf st hg
    subst hP hw hK
    obtain ⟨f0, f1, f2, f3, f4, f5⟩ := hf it (by simp)
    exact wpAny_pyNext_range_end (I.ok.hd hc) st (by have : n ≤ i := hg; omega) fun h' eb => ⟨rfl, I.turned (t' := s.toks) (fun b o hb e => eb b o hb e) f0 f1 f3 f4 f5⟩
  self := fun _ _ _ _ _ st h => wpAny_pyIter_rangeiter st h
end L2

namespace L2
open PySem PySem.Spec PyProof.Rows
section
variable {X : Cx} {tg : Expr}
def iList (K : PySem.W.Frag) (tl : TE) : TI := fun σ H R => tl σ H fun x H1 => ∃ a, x = .ref a ∧ (∃ xs, SqL K H1 a xs) ∧ R (Itl K a) H1
def iTup (K : PySem.W.Frag) (tl : TE) : TI := fun σ H R => tl σ H fun x H1 => ∃ a, x = .ref a ∧ (∃ xs, SqT K H1 a xs) ∧ R (Itt K a) H1
theorem pi_list {l : Expr} {tl : TE} (hl : PE X l tl) : PI X tg l (iList X.K tl) := by
  intro pins s σ H R I h
  refine thn (hl pins s σ H _ I h) fun v s1 ⟨x, H1, I1, r1, q1⟩ => ?_
  obtain ⟨a, e, ⟨xs, hq⟩, q⟩ := q1
  subst e
  cases r1
  obtain ⟨its, rv, p, hz⟩ := I1.list hq
  refine wpAny_pyIter_list p.isList ?_
  refine ⟨s1.heap.objs.size, [s1.heap.objs.size], _, _, H1, rfl, I1.kept (t' := s1.toks) fun b o e => Heap.get?_push_of_some _ e, turn_list a _, ⟨_, Heap.get?_push_size _ rfl, rfl, rfl⟩, fun b hb => ?_, q⟩
  have e : b = s1.heap.objs.size := by simpa using hb
  subst e
  exact I1.fpOk (Nat.le_refl _) (I1.hok.fresh (Nat.le_refl _))
/-- a range object just made, walked -/
theorem range_it {pins : List (Addr × Obj)} {σ : St} {H : Hp} {s : Shared} {R : It → Hp → Prop} {E : Value → Shared → Prop} {lo hi : Int} {t u v : Tok} {tk : Nat} (I : Inv X pins σ H s) (h1 : -(2 ^ 62) ≤ lo) (h2 : lo < 2 ^ 62) (h3 : -(2 ^ 62) ≤ hi) (h4 : hi < 2 ^ 62)
    (q : R (Itr lo (hi - lo).toNat) H) : wpAny (model X.prog X.w) X.A (pyIter (.ref s.heap.objs.size)) (PIE X pins σ tg R) E { s with heap := s.heap.push { cls := .type "range", data := .fields #[.int lo t, .int hi u, .int 1 v] }, toks := tk } := by
  refine wpAny_pyIter_range (IsRange.new ..) (small_one h1 h2 h3 h4) ?_
  have I1 : Inv X pins σ H { s with heap := s.heap.push { cls := .type "range", data := .fields #[.int lo t, .int hi u, .int 1 v] }, toks := tk } := I.kept fun b o e => Heap.get?_push_of_some _ e
  refine ⟨(s.heap.push { cls := .type "range", data := .fields #[.int lo t, .int hi u, .int 1 v] }).objs.size, [(s.heap.push { cls := .type "range", data := .fields #[.int lo t, .int hi u, .int 1 v] }).objs.size], _, _, H, rfl,
    I1.kept (t' := tk) fun b o e => Heap.get?_push_of_some _ e, turn_range _ lo (hi - lo).toNat, ?_, fun b hb => ?_, q⟩
  · have e1 : lo + ((0 : Nat) : Int) * 1 = lo := by simp
    have e2 : (((hi - lo).toNat : Nat) : Int) - ((0 : Nat) : Int) = Builtin.Range.rangeSize lo hi 1 := by rw [rangeSize_one]; split <;> omega
    show IsRangeIter _ _ (lo + ((0 : Nat) : Int) * 1) ((((hi - lo).toNat : Nat) : Int) - ((0 : Nat) : Int)) 1
    rw [e1, e2]
    exact Heap.get?_push_size _ rfl
  · have e : b = (s.heap.push { cls := .type "range", data := .fields #[.int lo t, .int hi u, .int 1 v] }).objs.size := by simpa using hb
    subst e
    exact I1.fpOk (Nat.le_refl _) (I1.hok.fresh (Nat.le_refl _))
def iRng1 (ta : TA) : TI := fun σ H R => ta σ H fun vs H1 => ∃ j : Int, vs = [.int j] ∧ -(2 ^ 62) ≤ j ∧ j < 2 ^ 62 ∧ R (Itr 0 j.toNat) H1
def iRng2 (ta : TA) : TI := fun σ H R => ta σ H fun vs H1 => ∃ i j : Int, vs = [.int i, .int j] ∧ (-(2 ^ 62) ≤ i ∧ i < 2 ^ 62 ∧ -(2 ^ 62) ≤ j ∧ j < 2 ^ 62) ∧ R (Itr i (j - i).toNat) H1
theorem pi_range1 {a : Expr} {ta : TA} {p pos : Pos} (hg : Gl X "range") (hm : X.mg "range" = none) (ha : PA X [a] ta) (hs : starEach [a] X.env = [(false, eval a X.env)] := by rfl) : PI X tg (.Call (.Name "range" p) [a] [] pos) (iRng1 ta) := by
  intro pins s σ H R I h
  refine Call_ (ld_blt I hg hm boot_range (PyProof.Rows.callWith_type1 (thn (ha pos pins s σ H _ I h) fun us s1 ⟨vs, H1, I1, r1, q1⟩ => ?_) hs rfl))
  obtain ⟨j, e, q1, q2, q⟩ := q1
  subst e
  cases r1 with
  | cons r rr =>
    cases rr
    obtain ⟨t, rfl⟩ := r
    exact call_range_1 (range_it I1 (by omega) (by omega) q1 q2 (by simpa using q))
theorem pi_range2 {a b : Expr} {ta : TA} {p pos : Pos} (hg : Gl X "range") (hm : X.mg "range" = none) (ha : PA X [a, b] ta) (hs : starEach [a, b] X.env = [(false, eval a X.env), (false, eval b X.env)] := by rfl) (hs2 : starEach [b] X.env = [(false, eval b X.env)] := by rfl) :
    PI X tg (.Call (.Name "range" p) [a, b] [] pos) (iRng2 ta) := by
  intro pins s σ H R I h
  refine Call_ (ld_blt I hg hm boot_range (PyProof.Rows.callWith_type1 (thn (ha pos pins s σ H _ I h) fun us s1 ⟨vs, H1, I1, r1, q1⟩ => ?_) (by rw [hs, hs2]) (by rw [hs2]; rfl)))
  obtain ⟨i, j, e, ⟨q1, q2, q3, q4⟩, q⟩ := q1
  subst e
  cases r1 with
  | cons r rr =>
    cases rr with
    | cons r' rr =>
      cases rr
      obtain ⟨t, rfl⟩ := r
      obtain ⟨t', rfl⟩ := r'
      exact call_range_2 (range_it I1 q1 q2 q3 q4 q)

/-! ### for -/
/-- W: the invariant by the turn and a measure; N: what the body is to reach -/
def tFor (wi : TI) (g : TG) (tb : TS) : TS := fun D σ H => wi σ H fun J H1 => ∃ W : Nat → Nat → St → Hp → Prop, (∃ m, W 0 m σ H1) ∧ ∀ i m σ H, W i m σ H →
  (J.stop i H ∧ D.nx σ H) ∨ (J.go i H ∧ ∃ N : St → Hp → Prop, (∀ σ' H', N σ' H' → ∃ m', m' < m ∧ W (i + 1) m' σ' H') ∧ ∀ x H', J.yld i H x H' → g x σ H' fun σ2 H2 => tb { D with nx := N, ct := N, bk := D.nx } σ2 H2)
/-- the records at fp as they stand -/
def pinsAt (fp : List Addr) (h : Heap) : List (Addr × Obj) := fp.filterMap fun b => (h.get? b).map fun o => (b, o)
theorem mem_pinsAt {fp : List Addr} {h : Heap} {b : Addr} {o : Obj} (hb : b ∈ fp) (e : h.get? b = some o) : (b, o) ∈ pinsAt fp h := List.mem_filterMap.mpr ⟨b, hb, by rw [e]; rfl⟩
theorem of_pinsAt {fp : List Addr} {h : Heap} {p : Addr × Obj} (hp : p ∈ pinsAt fp h) : p.1 ∈ fp ∧ h.get? p.1 = some p.2 := by
  obtain ⟨b, hb, e⟩ := List.mem_filterMap.mp hp
  cases q : h.get? b with
  | none => rw [q] at e; cases e
  | some o =>
    rw [q] at e
    have e' : (b, o) = p := Option.some.inj e
    subst e'
    exact ⟨hb, q⟩
theorem Inv.pinned {pins : List (Addr × Obj)} {σ : St} {H : Hp} {s : Shared} {fp : List Addr} (I : Inv X pins σ H s) (hf : ∀ b ∈ fp, FpOk X pins H b) (ho : ∀ b ∈ fp, ∃ o, s.heap.get? b = some o ∧ ∀ v, o.data ≠ .cell v) : Inv X (pins ++ pinsAt fp s.heap) σ H s :=
  I.pins_of fun p hp => (List.mem_append.mp hp).elim (fun z => I.pin p (List.mem_append_right _ z)) fun z => by
    obtain ⟨hb, e⟩ := of_pinsAt z
    obtain ⟨f0, f1, f2, _⟩ := hf p.1 hb
    obtain ⟨o, e', d⟩ := ho p.1 hb
    rw [e] at e'; cases e'
    exact ⟨e, f0, f1, f2, d⟩
theorem Inv.unpinned {pins pl : List (Addr × Obj)} {σ : St} {H : Hp} {s : Shared} (I : Inv X (pins ++ pl) σ H s) : Inv X pins σ H s := I.pins_of fun p hp => I.pin p (List.mem_append_right _ (List.mem_append_left _ hp))
theorem ps_for {iter : Expr} {body : List Stmt} {wi : TI} {g : TG} {tb : TS} {pos : Pos} (hp : PassesOwn (model X.prog X.w) X.A X.env X.xe) (hc : X.calm = true) (hi : PI X tg iter wi) (hg : PG X tg g) (hb : PSs X body tb)
    (hs : ∀ x, foldedSetIterable iter X.env x = pure x := by intro _; rfl) : PS X (.For tg iter body [] pos) (tFor wi g tb) := by
  intro pins s σ H D I h
  refine wpAny_For (thn (hi pins s σ H _ I h) fun v s1 h1 => thn h1 fun itv s2 h2 => ?_) hs
  obtain ⟨it, fp, tn, J, H2, e, I2, T, st2, f2, W, ⟨m0, w0⟩, turn⟩ := h2
  subst e
  -- what stays true of the iterator's objects through the loop
  have stat : ∀ {H' : Hp}, (∀ b ∈ fp, H' b = none) → ∀ b ∈ fp, FpOk X pins H' b := fun hn b hb => ⟨hn b hb, (f2 b hb).2⟩
  refine codeAny_forLoop_any (fun n s' => ∃ i σ' H', Inv X pins σ' H' s' ∧ tn i s'.heap ∧ (∀ b ∈ fp, H' b = none) ∧ W i n σ' H') ?_ m0 ⟨0, σ, H2, I2, st2, fun b hb => (f2 b hb).1, w0⟩
  rintro n s3 ⟨i, σ3, H3, I3, st3, fr3, w3⟩
  rcases turn i n σ3 H3 w3 with ⟨stop, qn⟩ | ⟨go, N, hN, step⟩
  · refine wpAny_passesOwn hp (thn (T.done X rfl rfl rfl hc i pins s3 σ3 H3 X.xe I3 (stat fr3) st3 stop) fun r s4 ⟨hr, I4⟩ => ?_)
    subst hr
    exact wpAny_execs_nil ⟨σ3, H3, I4, qn⟩
  · refine wpAny_passesOwn hp (thn (T.item X rfl rfl rfl hc i pins s3 σ3 H3 X.xe I3 (stat fr3) st3 go) fun r s4 ⟨u, hr, h4⟩ => ?_)
    subst hr
    refine wpAny_passesOwn hp (thn h4 fun _ s5 ⟨x, H5, I5, r5, y5, st5, fr5⟩ => ?_)
    have I5' := I5.pinned (stat fr5) (T.obj _ _ st5)
    refine wpAny_passesOwn hp (thn (hg _ s5 σ3 H5 x u _ I5' r5 (step x H5 y5)) fun _ s6 ⟨σ6, H6, I6, q6⟩ => ?_)
    refine wpAny_passesOwn hp (thn (hb _ s6 σ6 H6 _ I6 q6) fun f s7 q7 => ?_)
    have again : ∀ {σ7 : St} {H7 : Hp}, Inv X (pins ++ pinsAt fp s5.heap) σ7 H7 s7 → N σ7 H7 → ∃ m, m < n ∧ ∃ i σ' H', Inv X pins σ' H' s7 ∧ tn i s7.heap ∧ (∀ b ∈ fp, H' b = none) ∧ W i m σ' H' := fun {σ7 H7} I7 n7 => by
      obtain ⟨m', hm, w7⟩ := hN σ7 H7 n7
      refine ⟨m', hm, i + 1, σ7, H7, I7.unpinned, T.keep _ _ _ st5 fun b hb o e => (I7.pin (b, o) (List.mem_append_right _ (List.mem_append_right _ (mem_pinsAt hb e)))).1, fun b hb => ?_, w7⟩
      obtain ⟨o, e, d⟩ := T.obj _ _ st5 b hb
      exact (I7.pin (b, o) (List.mem_append_right _ (List.mem_append_right _ (mem_pinsAt hb e)))).2.1
    cases f with
    | next => obtain ⟨σ7, H7, I7, n7⟩ := q7; exact again I7 n7
    | cont => obtain ⟨σ7, H7, I7, n7⟩ := q7; exact again I7 n7
    | brk => obtain ⟨σ7, H7, I7, q7⟩ := q7; exact ⟨σ7, H7, I7.unpinned, q7⟩
    | ret v => obtain ⟨x7, σ7, H7, I7, r7, q7⟩ := q7; exact ⟨x7, σ7, H7, I7.unpinned, r7, q7⟩
end

/-! ### the forms one uses -/
/-- over a list that the body leaves as it is -/
theorem for_list {K : PySem.W.Frag} {a : Addr} {xs : List V} {g : TG} {tb : TS} {D : Ends} {σ : St} {H : Hp} (Pv : Nat → St → Hp → Prop) (h0 : Pv 0 σ H) (hl : ∀ i σ H, i ≤ xs.length → Pv i σ H → SqL K H a xs)
    (hs : ∀ i x σ H, xs[i]? = some x → Pv i σ H → g x σ H fun σ2 H2 => tb { D with nx := Pv (i + 1), ct := Pv (i + 1), bk := D.nx } σ2 H2) (hd : ∀ σ H, Pv xs.length σ H → D.nx σ H) :
    ∃ W : Nat → Nat → St → Hp → Prop, (∃ m, W 0 m σ H) ∧ ∀ i m σ H, W i m σ H →
      ((Itl K a).stop i H ∧ D.nx σ H) ∨ ((Itl K a).go i H ∧ ∃ N : St → Hp → Prop, (∀ σ' H', N σ' H' → ∃ m', m' < m ∧ W (i + 1) m' σ' H') ∧ ∀ x H', (Itl K a).yld i H x H' → g x σ H' fun σ2 H2 => tb { D with nx := N, ct := N, bk := D.nx } σ2 H2) := by
  refine ⟨fun i m σ H => m = xs.length - i ∧ i ≤ xs.length ∧ Pv i σ H, ⟨xs.length, by simp, Nat.zero_le _, h0⟩, ?_⟩
  rintro i m σ H ⟨rfl, hi, p⟩
  have q := hl i σ H hi p
  by_cases hlt : i < xs.length
  · refine .inr ⟨⟨xs, xs[i], q, by simp [hlt]⟩, Pv (i + 1), fun σ' H' p' => ⟨xs.length - (i + 1), by omega, rfl, hlt, p'⟩, fun x H' y => ?_⟩
    obtain ⟨e, y⟩ := y
    subst e
    exact hs i x σ _ (y xs q) p
  · have e : i = xs.length := by omega
    subst e
    exact .inl ⟨⟨xs, q, Nat.le_refl _⟩, hd σ H p⟩
theorem for_range {lo : Int} {n : Nat} {g : TG} {tb : TS} {D : Ends} {σ : St} {H : Hp} (Pv : Nat → St → Hp → Prop) (h0 : Pv 0 σ H)
    (hs : ∀ i σ H, i < n → Pv i σ H → g (.int (lo + i)) σ H fun σ2 H2 => tb { D with nx := Pv (i + 1), ct := Pv (i + 1), bk := D.nx } σ2 H2) (hd : ∀ σ H, Pv n σ H → D.nx σ H) :
    ∃ W : Nat → Nat → St → Hp → Prop, (∃ m, W 0 m σ H) ∧ ∀ i m σ H, W i m σ H →
      ((Itr lo n).stop i H ∧ D.nx σ H) ∨ ((Itr lo n).go i H ∧ ∃ N : St → Hp → Prop, (∀ σ' H', N σ' H' → ∃ m', m' < m ∧ W (i + 1) m' σ' H') ∧ ∀ x H', (Itr lo n).yld i H x H' → g x σ H' fun σ2 H2 => tb { D with nx := N, ct := N, bk := D.nx } σ2 H2) := by
  refine ⟨fun i m σ H => m = n - i ∧ i ≤ n ∧ Pv i σ H, ⟨n, by simp, Nat.zero_le _, h0⟩, ?_⟩
  rintro i m σ H ⟨rfl, hi, p⟩
  by_cases hlt : i < n
  · refine .inr ⟨hlt, Pv (i + 1), fun σ' H' p' => ⟨n - (i + 1), by omega, rfl, hlt, p'⟩, fun x H' y => ?_⟩
    obtain ⟨e, y⟩ := y
    subst e y
    exact hs i σ _ hlt p
  · have e : i = n := by omega
    subst e
    exact .inl ⟨Nat.le_refl _, hd σ H p⟩
end L2

namespace L2
open PySem PySem.Spec PyProof.Rows

abbrev R2 := V → V → Hp → VK → Prop
/-- a two-place operation on values: f is binaryOp op, inplaceOp op or compareOp op -/
def OpR (X : Cx) (f : Value → Value → Sem Value) (r : R2) : Prop :=
  ∀ (pins : List (Addr × Obj)) (s : Shared) (σ : St) (H : Hp) (x y : V) (v u : Value) (Q : VK), Inv X pins σ H s → RelV x v → RelV y u → r x y H Q →
    wpAny (model X.prog X.w) X.A (f v u) (EP X pins σ Q) X.xe s
/-- a one-place operation -/
def UnR (X : Cx) (f : Value → Sem Value) (r : V → Hp → VK → Prop) : Prop :=
  ∀ (pins : List (Addr × Obj)) (s : Shared) (σ : St) (H : Hp) (x : V) (v : Value) (Q : VK), Inv X pins σ H s → RelV x v → r x H Q →
    wpAny (model X.prog X.w) X.A (f v) (EP X pins σ Q) X.xe s
/-- a call of a value that is known (a builtin, a type) with values -/
def CallR (X : Cx) (f : Value) (r : List V → Hp → VK → Prop) : Prop :=
  ∀ (pins : List (Addr × Obj)) (s : Shared) (σ : St) (H : Hp) (xs : List V) (us : List Value) (Q : VK), Inv X pins σ H s → Vals xs us → r xs H Q →
    wpAny (model X.prog X.w) X.A (call f us) (EP X pins σ Q) X.xe s
/-- a value's truth -/
def TruR (X : Cx) (r : V → Hp → (Bool → Hp → Prop) → Prop) : Prop :=
  ∀ (pins : List (Addr × Obj)) (s : Shared) (σ : St) (H : Hp) (x : V) (v : Value) (Q : Bool → Hp → Prop), Inv X pins σ H s → RelV x v → r x H Q →
    wpAny (model X.prog X.w) X.A (truthy v) (TP X pins σ Q) X.xe s

def tOp (r : R2) (ta tb : TE) : TE := fun σ H Q => ta σ H fun x H1 => tb σ H1 fun y H2 => r x y H2 Q
def tUn (r : V → Hp → VK → Prop) (ta : TE) : TE := fun σ H Q => ta σ H fun x H1 => r x H1 Q
/-- ints in, under C, and a value out -/
def rI (C : Int → Int → Prop) (g : Int → Int → V) : R2 := fun x y H Q => ∃ i j, x = .int i ∧ y = .int j ∧ C i j ∧ Q (g i j) H
def rI0 (g : Int → Int → V) : R2 := fun x y H Q => ∃ i j, x = .int i ∧ y = .int j ∧ Q (g i j) H
def rU (g : Int → V) : V → Hp → VK → Prop := fun x H Q => ∃ i, x = .int i ∧ Q (g i) H

section
variable {X : Cx} {a b c : Expr} {ta tb tc : TE} {pos : Pos}

theorem binT (ha : PE X a ta) (hb : PE X b tb) {pins : List (Addr × Obj)} {s : Shared} {σ : St} {H : Hp} {R : V → V → Hp → Prop} (I : Inv X pins σ H s)
    (h : ta σ H fun x H1 => tb σ H1 fun y H2 => R x y H2) {Q : Value → Shared → Prop} {f : Value → Value → Sem Value}
    (hf : ∀ v u s2 x y H2, Inv X pins σ H2 s2 → RelV x v → RelV y u → R x y H2 → wpAny (model X.prog X.w) X.A (f v u) Q X.xe s2) :
    wpAny (model X.prog X.w) X.A (eval a X.env) (fun v s₁ => wpAny (model X.prog X.w) X.A (eval b X.env) (fun u s₂ => wpAny (model X.prog X.w) X.A (f v u) Q X.xe s₂) X.xe s₁) X.xe s := by
  refine thn (ha pins s σ H _ I h) fun v s1 ⟨x, H1, I1, r1, q1⟩ => ?_
  refine thn (hb pins s1 σ H1 _ I1 q1) fun u s2 ⟨y, H2, I2, r2, q2⟩ => ?_
  exact hf v u s2 x y H2 I2 r1 r2 q2

theorem pe_op {op : Operator} {r : R2} (ho : OpR X (binaryOp op) r) (ha : PE X a ta) (hb : PE X b tb) : PE X (.BinOp a op b pos) (tOp r ta tb) := by
  intro pins s σ H Q I h
  exact wpAny_BinOp (binT ha hb I h fun v u s2 x y H2 I2 rx ry q => ho pins s2 σ H2 x y v u Q I2 rx ry q)
theorem pe_un {op : UnaryOp} {r : V → Hp → VK → Prop} (ho : UnR X (unaryOp op) r) (ha : PE X a ta) : PE X (.UnaryOp op a pos) (tUn r ta) := by
  intro pins s σ H Q I h
  exact UnaryOp_ (thn (ha pins s σ H _ I h) fun v s1 ⟨x, H1, I1, r1, q1⟩ => ho pins s1 σ H1 x v Q I1 r1 q1)
/-! ### ints -/
theorem opI {f : Value → Value → Sem Value} {C : Int → Int → Prop} {g : Int → Int → Int}
    (rule : ∀ (i j : Int) (t u : Tok) (s : Shared) (Q : Value → Shared → Prop) (E : Value → Shared → Prop), C i j → Q (.int (g i j) s.toks) { s with toks := s.toks + 1 } → wpAny (model X.prog X.w) X.A (f (.int i t) (.int j u)) Q E s) :
    OpR X f (rI C fun i j => .int (g i j)) := by
  intro pins s σ H x y v u Q I rx ry h
  obtain ⟨i, j, rfl, rfl, hc, q⟩ := h
  obtain ⟨t, rfl⟩ := rx
  obtain ⟨t', rfl⟩ := ry
  exact rule i j t t' s _ _ hc ⟨.int (g i j), H, I.tok _, ⟨_, rfl⟩, q⟩
theorem opI0 {f : Value → Value → Sem Value} {g : Int → Int → Int}
    (rule : ∀ (i j : Int) (t u : Tok) (s : Shared) (Q : Value → Shared → Prop) (E : Value → Shared → Prop), Q (.int (g i j) s.toks) { s with toks := s.toks + 1 } → wpAny (model X.prog X.w) X.A (f (.int i t) (.int j u)) Q E s) :
    OpR X f (rI0 fun i j => .int (g i j)) := by
  intro pins s σ H x y v u Q I rx ry h
  obtain ⟨i, j, rfl, rfl, q⟩ := h
  obtain ⟨t, rfl⟩ := rx
  obtain ⟨t', rfl⟩ := ry
  exact rule i j t t' s _ _ ⟨.int (g i j), H, I.tok _, ⟨_, rfl⟩, q⟩
theorem opB0 {f : Value → Value → Sem Value} {g : Int → Int → Bool}
    (rule : ∀ (i j : Int) (t u : Tok) (s : Shared) (Q : Value → Shared → Prop) (E : Value → Shared → Prop), Q (.bool (g i j)) s → wpAny (model X.prog X.w) X.A (f (.int i t) (.int j u)) Q E s) :
    OpR X f (rI0 fun i j => .bl (g i j)) := by
  intro pins s σ H x y v u Q I rx ry h
  obtain ⟨i, j, rfl, rfl, q⟩ := h
  obtain ⟨t, rfl⟩ := rx
  obtain ⟨t', rfl⟩ := ry
  exact rule i j t t' s _ _ ⟨.bl (g i j), H, I, rfl, q⟩

def CDiv (i j : Int) : Prop := 0 < j ∧ j < 1073741824
def CDivN (i j : Int) : Prop := j ≠ 0 ∧ j.natAbs < 1073741824
def CPow (i j : Int) : Prop := 0 ≤ j ∧ j ≤ 1000000 ∧ i.natAbs < 2 ^ 64
def CMul (i j : Int) : Prop := (-(2 ^ 64) < i ∧ i < 2 ^ 64) ∨ (-(2 ^ 64) < j ∧ j < 2 ^ 64)
theorem CMul.ok {i j : Int} (h : CMul i j) : IntMulOk i j := by
  rcases h with ⟨h1, h2⟩ | ⟨h1, h2⟩
  · exact .of_left (intBits_le_64 h1 h2)
  · exact .of_right (intBits_le_64 h1 h2)
theorem op_add : OpR X (binaryOp .Add) (rI0 fun i j => .int (i + j)) := opI0 fun _ _ _ _ _ _ _ q => add_int q
theorem op_sub : OpR X (binaryOp .Sub) (rI0 fun i j => .int (i - j)) := opI0 fun _ _ _ _ _ _ _ q => sub_int q
theorem op_mul : OpR X (binaryOp .Mult) (rI CMul fun i j => .int (i * j)) := opI fun _ _ _ _ _ _ _ hc q => mul_int q hc.ok
/-- // by a positive divisor -/
theorem op_fdiv : OpR X (binaryOp .FloorDiv) (rI CDiv fun i j => .int (i / j)) := opI fun i j _ _ _ _ _ hc q => by
  have h1 : (0 : Int) < j := hc.1
  have h2 : j < 1073741824 := hc.2
  exact floordiv_int (by omega) (by rw [Int.fdiv_eq_ediv_of_nonneg i (by omega)]; exact q) (.inl (PyProof.noPylong_small (by omega)))
/-- % by a positive divisor of any size -/
theorem op_mod : OpR X (binaryOp .Mod) (rI (fun _ j => 0 < j) fun i j => .int (i % j)) := opI fun i j _ _ _ _ _ hc q => by
  have h1 : (0 : Int) < j := hc
  exact mod_int' (by omega) (by rw [Int.fmod_eq_emod_of_nonneg i (by omega)]; exact q)
theorem op_pow : OpR X (binaryOp .Pow) (rI CPow fun i j => .int (i ^ j.toNat)) := opI fun _ _ _ _ _ _ _ hc q => pow_int_small hc.1 hc.2.1 hc.2.2 q
theorem unI {f : Value → Sem Value} {g : Int → Int}
    (rule : ∀ (i : Int) (t : Tok) (s : Shared) (Q : Value → Shared → Prop) (E : Value → Shared → Prop), Q (.int (g i) s.toks) { s with toks := s.toks + 1 } → wpAny (model X.prog X.w) X.A (f (.int i t)) Q E s) :
    UnR X f (rU fun i => .int (g i)) := by
  intro pins s σ H x v Q I rx h
  obtain ⟨i, rfl, q⟩ := h
  obtain ⟨t, rfl⟩ := rx
  exact rule i t s _ _ ⟨.int (g i), H, I.tok _, ⟨_, rfl⟩, q⟩
theorem un_neg : UnR X (unaryOp .USub) (rU fun i => .int (-i)) := unI fun _ _ _ _ _ q => neg_int q
/-! ### bools among ints: n += (a < b) -/
end

/-! ### comparisons -/
/-- the scalars that == tells apart as data does -/
def scal : V → V → Bool
  | .non, .non => true | .non, .int _ => true | .int _, .non => true | .non, .bl _ => true | .bl _, .non => true | .non, .str _ => true | .str _, .non => true
  | .int _, .int _ => true | .bl _, .bl _ => true | .str _, .str _ => true | .byt _, .byt _ => true
  | .int _, .str _ => true | .str _, .int _ => true | .bl _, .str _ => true | .str _, .bl _ => true
  | _, _ => false
def rEq : R2 := fun x y H Q => scal x y = true ∧ Q (.bl (decide (x = y))) H
def rNe : R2 := fun x y H Q => scal x y = true ∧ Q (.bl (!decide (x = y))) H

theorem dec_int {i j : Int} : decide (V.int i = V.int j) = (i == j) := by
  rw [Bool.eq_iff_iff]
  simp
theorem dec_bl {i j : Bool} : decide (V.bl i = V.bl j) = (i == j) := by
  rw [Bool.eq_iff_iff]
  simp
theorem dec_str {i j : Str} : decide (V.str i = V.str j) = (i == j) := by
  rw [Bool.eq_iff_iff]
  simp
theorem dec_byt {i j : Array UInt8} : decide (V.byt i = V.byt j) = (i.toList == j.toList) := by
  rw [Bool.eq_iff_iff]
  cases i
  cases j
  simp

section
variable {X : Cx} {a b c : Expr} {ta tb tc : TE} {pos : Pos}
theorem fin_bl {pins : List (Addr × Obj)} {σ : St} {H : Hp} {s : Shared} {Q : VK} {k k' : Bool} (I : Inv X pins σ H s) (q : Q (.bl k) H) (e : k = k') : EP X pins σ Q (.bool k') s := by
  subst e
  exact ⟨.bl k, H, I, rfl, q⟩
theorem op_eq : OpR X (compareOp .Eq) rEq := by
  intro pins s σ H x y v u Q I rx ry h
  obtain ⟨hs, q⟩ := h
  cases x with
  | non =>
    cases rx
    cases y with
    | non => cases ry; exact PySem.EqNone.eq_none_none (fin_bl I q (by simp))
    | bl j => cases ry; exact PySem.EqNone.eq_none_bool (fin_bl I q (by simp))
    | int j => obtain ⟨t', rfl⟩ := ry; exact PySem.EqNone.eq_none_int (fin_bl I q (by simp))
    | str j => obtain ⟨t', rfl⟩ := ry; exact PySem.EqNone.eq_none_str (fin_bl I q (by simp))
    | _ => exact absurd (show false = true from hs) Bool.false_ne_true
  | bl i =>
    cases rx
    cases y with
    | non => cases ry; exact PySem.EqNone.eq_bool_none (fin_bl I q (by simp))
    | bl j => cases ry; exact eq_bool (fin_bl I q dec_bl)
    | str j => obtain ⟨t', rfl⟩ := ry; exact PySem.EqMixed.eq_bool_str (fin_bl I q (by simp))
    | _ => exact absurd (show false = true from hs) Bool.false_ne_true
  | int i =>
    obtain ⟨t, rfl⟩ := rx
    cases y with
    | non => cases ry; exact PySem.EqNone.eq_int_none (fin_bl I q (by simp))
    | int j => obtain ⟨t', rfl⟩ := ry; exact eq_int (fin_bl I q dec_int)
    | str j => obtain ⟨t', rfl⟩ := ry; exact PySem.EqMixed.eq_int_str (fin_bl I q (by simp))
    | _ => exact absurd (show false = true from hs) Bool.false_ne_true
  | str i =>
    obtain ⟨t, rfl⟩ := rx
    cases y with
    | non => cases ry; exact PySem.EqNone.eq_str_none (fin_bl I q (by simp))
    | bl j => cases ry; exact PySem.EqMixed.eq_str_bool (fin_bl I q (by simp))
    | int j => obtain ⟨t', rfl⟩ := ry; exact PySem.EqMixed.eq_str_int (fin_bl I q (by simp))
    | str j => obtain ⟨t', rfl⟩ := ry; exact eq_str (fin_bl I q dec_str)
    | _ => exact absurd (show false = true from hs) Bool.false_ne_true
  | byt i =>
    obtain ⟨t, rfl⟩ := rx
    cases y with
    | byt j => obtain ⟨t', rfl⟩ := ry; exact PySem.W.eq_bytes (fin_bl I q dec_byt)
    | _ => exact absurd (show false = true from hs) Bool.false_ne_true
  | _ => cases y <;> exact absurd (show false = true from hs) Bool.false_ne_true
theorem op_ne : OpR X (compareOp .NotEq) rNe := by
  intro pins s σ H x y v u Q I rx ry h
  obtain ⟨hs, q⟩ := h
  cases x with
  | non =>
    cases rx
    cases y with
    | non => cases ry; exact PySem.EqNone.ne_none_none (fin_bl I q (by simp))
    | bl j => cases ry; exact PySem.EqNone.ne_none_bool (fin_bl I q (by simp))
    | int j => obtain ⟨t', rfl⟩ := ry; exact PySem.EqNone.ne_none_int (fin_bl I q (by simp))
    | str j => obtain ⟨t', rfl⟩ := ry; exact PySem.EqNone.ne_none_str (fin_bl I q (by simp))
    | _ => exact absurd (show false = true from hs) Bool.false_ne_true
  | bl i =>
    cases rx
    cases y with
    | non => cases ry; exact PySem.EqNone.ne_bool_none (fin_bl I q (by simp))
    | bl j => cases ry; exact ne_bool (fin_bl I q (congrArg not dec_bl))
    | str j => obtain ⟨t', rfl⟩ := ry; exact PySem.EqMixed.ne_bool_str (fin_bl I q (by simp))
    | _ => exact absurd (show false = true from hs) Bool.false_ne_true
  | int i =>
    obtain ⟨t, rfl⟩ := rx
    cases y with
    | non => cases ry; exact PySem.EqNone.ne_int_none (fin_bl I q (by simp))
    | int j => obtain ⟨t', rfl⟩ := ry; exact ne_int (fin_bl I q (congrArg not dec_int))
    | str j => obtain ⟨t', rfl⟩ := ry; exact PySem.EqMixed.ne_int_str (fin_bl I q (by simp))
    | _ => exact absurd (show false = true from hs) Bool.false_ne_true
  | str i =>
    obtain ⟨t, rfl⟩ := rx
    cases y with
    | non => cases ry; exact PySem.EqNone.ne_str_none (fin_bl I q (by simp))
    | bl j => cases ry; exact PySem.EqMixed.ne_str_bool (fin_bl I q (by simp))
    | int j => obtain ⟨t', rfl⟩ := ry; exact PySem.EqMixed.ne_str_int (fin_bl I q (by simp))
    | str j => obtain ⟨t', rfl⟩ := ry; exact ne_str (fin_bl I q (congrArg not dec_str))
    | _ => exact absurd (show false = true from hs) Bool.false_ne_true
  | byt i =>
    obtain ⟨t, rfl⟩ := rx
    cases y with
    | byt j => obtain ⟨t', rfl⟩ := ry; exact PySem.W.ne_bytes (fin_bl I q (congrArg not dec_byt))
    | _ => exact absurd (show false = true from hs) Bool.false_ne_true
  | _ => cases y <;> exact absurd (show false = true from hs) Bool.false_ne_true

theorem op_lt : OpR X (compareOp .Lt) (rI0 fun i j => .bl (decide (i < j))) := opB0 fun _ _ _ _ _ _ _ q => lt_int q
theorem op_le : OpR X (compareOp .LtE) (rI0 fun i j => .bl (decide (i ≤ j))) := opB0 fun _ _ _ _ _ _ _ q => le_int q
theorem op_gt : OpR X (compareOp .Gt) (rI0 fun i j => .bl (decide (j < i))) := opB0 fun _ _ _ _ _ _ _ q => gt_int q
theorem op_ge : OpR X (compareOp .GtE) (rI0 fun i j => .bl (decide (j ≤ i))) := opB0 fun _ _ _ _ _ _ _ q => ge_int q
/-- is None, is not None: the right side a value none -/
theorem op_isN : OpR X (compareOp .Is) (fun x y H Q => y = .non ∧ Q (.bl (decide (x = .non))) H) := by
  intro pins s σ H x y v u Q I rx ry h
  obtain ⟨rfl, q⟩ := h
  cases ry
  refine is_none_gen (fin_bl I q ?_)
  cases x <;> first
    | (cases rx; rfl)
    | (obtain ⟨t, rfl⟩ := rx; rfl)
theorem op_notN : OpR X (compareOp .IsNot) (fun x y H Q => y = .non ∧ Q (.bl (!decide (x = .non))) H) := by
  intro pins s σ H x y v u Q I rx ry h
  obtain ⟨rfl, q⟩ := h
  cases ry
  refine isnot_none_gen (fin_bl I q ?_)
  cases x <;> first
    | (cases rx; rfl)
    | (obtain ⟨t, rfl⟩ := rx; rfl)

/-- is, is not of two objects that are tracked lists or instances -/
def isObj : HO → Bool
  | .lst _ => true
  | .ins _ _ _ => true
  | _ => false
theorem nomark (b : Expr) {op : CmpOp} (h : op ≠ .In := by decide) (h2 : op ≠ .NotIn := by decide) : behindInMarks op b = false := by
  have e1 : (op == CmpOp.In) = false := by cases op <;> first | rfl | exact absurd rfl h
  have e2 : (op == CmpOp.NotIn) = false := by cases op <;> first | rfl | exact absurd rfl h2
  cases b <;> simp [behindInMarks, e1, e2]
/-- a comparison as a value; hm: nomark b, or (for in, not in) by with_unfolding_all rfl -/
theorem pe_cmpR {op : CmpOp} {r : R2} (ho : OpR X (compareOp op) r) (ha : PE X a ta) (hb : PE X b tb) (hm : behindInMarks op b = false) : PE X (.Compare a [op] [b] pos) (tOp r ta tb) := by
  intro pins s σ H Q I h
  exact wpAny_Compare1 (binT ha hb I h fun v u s2 x y H2 I2 rx ry q => ho pins s2 σ H2 x y v u Q I2 rx ry q) hm
/-- a reading of a value as a test -/
def tTest (t : TE) : TT := fun σ H Q => t σ H fun x H' => ∃ k, x = .bl k ∧ Q k H'
theorem pt_cmpR {op : CmpOp} {r : R2} (ho : OpR X (compareOp op) r) (ha : PE X a ta) (hb : PE X b tb) (hm : behindInMarks op b = false) : PT X (.Compare a [op] [b] pos) (tTest (tOp r ta tb)) := by
  intro pins s σ H Q I h
  refine wpAny_isTrue_Compare1 (thn (ha pins s σ H _ I h) fun v s1 ⟨x, H1, I1, r1, q1⟩ => thn (hb pins s1 σ H1 _ I1 q1) fun u s2 ⟨y, H2, I2, r2, q2⟩ =>
    thn (ho pins s2 σ H2 x y v u _ I2 r1 r2 q2) fun c s3 ⟨z, H3, I3, r3, k, e, q3⟩ => ?_) hm
  subst e
  cases r3
  exact wpAny_truthy_bool ⟨H3, I3, q3⟩
/-- a op1 b op2 c -/
def tChain (r r' : R2) (ta tb tc : TE) : TE := fun σ H Q => ta σ H fun x H1 => tb σ H1 fun y H2 => r x y H2 fun z H3 => ∃ k, z = .bl k ∧
  (if k = true then tc σ H3 fun w' H4 => r' y w' H4 Q else Q (.bl false) H3)
theorem pe_chain {op op' : CmpOp} {r r' : R2} (ho : OpR X (compareOp op) r) (ho' : OpR X (compareOp op') r') (ha : PE X a ta) (hb : PE X b tb) (hc : PE X c tc)
    (hm : lastMarks [op, op'] [b, c] = false := by with_unfolding_all rfl) : PE X (.Compare a [op, op'] [b, c] pos) (tChain r r' ta tb tc) := by
  intro pins s σ H Q I h
  refine Compare_chain (thn (ha pins s σ H _ I h) fun v s1 ⟨x, H1, I1, r1, q1⟩ => chain_link (thn (hb pins s1 σ H1 _ I1 q1) fun u s2 ⟨y, H2, I2, r2, q2⟩ =>
    thn (ho pins s2 σ H2 x y v u _ I2 r1 r2 q2) fun d s3 ⟨z, H3, I3, r3, k, e, q3⟩ => ?_)) hm
  subst e
  cases r3
  refine wpAny_truthy_bool ?_
  cases k with
  | false => exact ite_ff ⟨.bl false, H3, I3, rfl, q3⟩
  | true => exact ite_tt (chain_last (thn (hc pins s3 σ H3 _ I3 q3) fun w' s4 ⟨z', H4, I4, r4, q4⟩ => ho' pins s4 σ H4 y z' u w' Q I4 r2 r4 q4))
theorem pt_chain {op op' : CmpOp} {r r' : R2} (ho : OpR X (compareOp op) r) (ho' : OpR X (compareOp op') r') (ha : PE X a ta) (hb : PE X b tb) (hc : PE X c tc)
    (hm : lastMarks [op, op'] [b, c] = false := by with_unfolding_all rfl) : PT X (.Compare a [op, op'] [b, c] pos) (tTest (tChain r r' ta tb tc)) := by
  intro pins s σ H Q I h
  refine isTrue_chain (thn (ha pins s σ H _ I h) fun v s1 ⟨x, H1, I1, r1, q1⟩ => test_link (thn (hb pins s1 σ H1 _ I1 q1) fun u s2 ⟨y, H2, I2, r2, q2⟩ =>
    thn (ho pins s2 σ H2 x y v u _ I2 r1 r2 q2) fun d s3 ⟨z, H3, I3, r3, k, e, q3⟩ => ?_)) hm
  subst e
  cases r3
  refine wpAny_truthy_bool ?_
  cases k with
  | false =>
    obtain ⟨k', e', q'⟩ := q3
    cases e'
    exact ite_ff ⟨H3, I3, q'⟩
  | true =>
    refine ite_tt (test_last (thn (hc pins s3 σ H3 _ I3 q3) fun w' s4 ⟨z', H4, I4, r4, q4⟩ => thn (ho' pins s4 σ H4 y z' u w' _ I4 r2 r4 q4) fun d' s5 ⟨z2, H5, I5, r5, k2, e2, q5⟩ => ?_))
    subst e2
    cases r5
    exact wpAny_truthy_bool ⟨H5, I5, q5⟩

/-! ### truth -/
/-- a value's truth by the abstract heap -/
def TruV (K : PySem.W.Frag) (x : V) (H : Hp) (k : Bool) : Prop :=
  match x with
  | .non => k = false
  | .bl b => k = b
  | .int i => k = (i != 0)
  | .str y => y.length ≤ sizeLine ∧ k = ((y.length : Int) != 0)
  | .byt y => y.size ≤ sizeLine ∧ k = ((y.size : Int) != 0)
  | .ref p => (∃ xs, SqL K H p xs ∧ k = !xs.isEmpty) ∨ (∃ xs, SqT K H p xs ∧ k = !xs.isEmpty) ∨ ∃ kvs, H p = some (.dK kvs) ∧ k = !kvs.isEmpty
  | _ => False
theorem line63 : (sizeLine : Nat) < 2 ^ 63 := by rw [sizeLine_eq]; decide
/-! ### strs and bytes -/
def PlainIxT (b : Expr) : Prop := ∀ o i, subscripted b false o i = operate [o, i] (getItem o i)
/-! ### scalar builtins, by CallR -/
theorem vals1 {x : V} {us : List Value} (r : Vals [x] us) : ∃ u, us = [u] ∧ RelV x u := by
  cases r with
  | cons r1 r2 => cases r2; exact ⟨_, rfl, r1⟩
theorem vals2 {x y : V} {us : List Value} (r : Vals [x, y] us) : ∃ u w', us = [u, w'] ∧ RelV x u ∧ RelV y w' := by
  cases r with
  | cons r1 r2 =>
    cases r2 with
    | cons r3 r4 => cases r4; exact ⟨_, _, rfl, r1, r3⟩
theorem call_abs : CallR X (.builtin "abs") (fun xs H Q => ∃ i, xs = [.int i] ∧ Q (.int (if i < 0 then -i else i)) H) := by
  intro pins s σ H xs us Q I r h
  obtain ⟨i, rfl, q⟩ := h
  obtain ⟨u, rfl, t, rfl⟩ := vals1 r
  exact call_abs_int fun u tk => ⟨.int (if i < 0 then -i else i), H, I.tok _, ⟨_, rfl⟩, q⟩
theorem call_max2 (hc : X.calm = true) : CallR X (.builtin "max") (fun xs H Q => ∃ i j, xs = [.int i, .int j] ∧ Q (.int (if j > i then j else i)) H) := by
  intro pins s σ H xs us Q I r h
  obtain ⟨i, j, rfl, q⟩ := h
  obtain ⟨u, w', rfl, ⟨t, rfl⟩, ⟨t', rfl⟩⟩ := vals2 r
  refine max_two_ints (I.ok.hd hc) fun h' tk k => ⟨_, H, I.kept k, ?_, q⟩
  by_cases hj : j > i
  · rw [if_pos hj, if_pos hj]; exact ⟨_, rfl⟩
  · rw [if_neg hj, if_neg hj]; exact ⟨_, rfl⟩
/-- len of a str, a bytes, a list, a tuple -/
def LenV (K : PySem.W.Frag) (x : V) (H : Hp) (n : Nat) : Prop :=
  match x with
  | .str y => y.length ≤ sizeLine ∧ n = y.length
  | .byt y => y.size ≤ sizeLine ∧ n = y.size
  | .ref p => (∃ xs, SqL K H p xs ∧ n = xs.length) ∨ ∃ xs, SqT K H p xs ∧ n = xs.length
  | _ => False
end
end L2

namespace L2
open PySem PySem.Spec PyProof.Rows

/-! ### an instance, its attributes a map -/
structure ObjM (h : Heap) (x dx C : Addr) (mA : Str → Option Value) : Prop where
  obj : h.get? x = some (PySem.W.instObj C dx)
  ns : h.Ns1 dx mA
  ne : dx ≠ x

theorem lookIn_ns {h : Heap} {dx : Addr} {mA : Str → Option Value} (n : h.Ns1 dx mA) : ∃ od, h.get? dx = some od ∧ ∀ name, PySem.W.lookIn name od = some (mA name) := by
  obtain ⟨o, es, ep, ho, hd, hk, _, hm⟩ := n
  refine ⟨o, ho, fun name => ?_⟩
  have e := hm name
  unfold nsFind findBy at e
  rw [← Array.find?_toList] at e
  unfold PySem.W.lookIn
  rw [hd]
  dsimp only
  split
  · rename_i y q
    rw [q] at e
    exact congrArg some e
  · rename_i q
    rw [q] at e
    have a : es.toList.any (·.refKey) = false := by
      rw [List.any_eq_false]
      intro y hy
      obtain ⟨z, t, hkey⟩ := hk y (Array.mem_toList_iff.mp hy)
      simp [DictEntry.refKey, hkey]
    have a' : ¬ es.toList.any (·.refKey) = true := by rw [a]; exact Bool.false_ne_true
    rw [if_neg a']
    exact congrArg some e

theorem ObjM.look {h : Heap} {x dx C : Addr} {mA : Str → Option Value} (I : ObjM h x dx C mA) : ∃ od, PySem.W.InstAt h x (PySem.W.instObj C dx) C (some od) ∧ ∀ name, PySem.W.lookIn name od = some (mA name) :=
  let ⟨od, ho, hl⟩ := lookIn_ns I.ns
  ⟨od, ⟨I.obj, rfl, rfl, ho⟩, hl⟩

section
variable {prog : Program} {w : World} {A : Around} {E : Value → Shared → Prop} {s : Shared} {K : PySem.W.Frag} {x dx C f : Addr} {mA : Str → Option Value} {name : Str} {v : Value}

end

/-! ### the attributes as a list of pairs -/
def putF (f : Str) (v : V) : List (Str × V) → List (Str × V)
  | [] => [(f, v)]
  | (g, x) :: r => if g = f then (g, v) :: r else (g, x) :: putF f v r
section
variable {P : Program} {w : World} {H H' : Hp} {h h' : Heap} {a C dx : Addr} {fs fs' : List (Str × V)}
theorem ins_get (hok : HOk P w H h) (e : H a = some (.ins C dx fs)) : ∃ mA, ObjM h a dx C mA ∧ (∀ f, RelO (fs.lookup f) (mA f)) ∧ PySem.Within mA (fs.map (·.1)) ∧ fs.length ≤ 1000 ∧ H dx = some (.own a) := by
  obtain ⟨d, z, ne, ob, mA, n, r, q⟩ := (show ObjOk P w H h a (.ins C dx fs) from hok a _ e)
  exact ⟨mA, ⟨ob, n, ne⟩, r, q, z, d⟩
end

/-! ### what of the text a class must have -/
structure Cls (K : PySem.W.Frag) (C : Addr) : Prop where
  pg : PySem.W.plainGet K C Str.empty = true
  hd : PySem.W.hasDictIn K C = true
  po : PySem.W.plainOver K C = true
  sa : PySem.W.findIn K (.ref C) "__setattr__" = some (some (.builtin "object.__setattr__"))
theorem Cls.get {K : PySem.W.Frag} {C : Addr} (c : Cls K C) (f : Str) : PySem.W.plainGet K C f = true := c.pg
/-- no class of it has the name -/
def NoAttr (K : PySem.W.Frag) (C : Addr) (f : Str) : Prop := PySem.W.findIn K (.ref C) f = some none
/-- a constant of the class -/
structure Con (K : PySem.W.Frag) (C : Addr) (f : Str) (v : V) (u : Value) : Prop where
  at_ : PySem.W.findIn K (.ref C) f = some (some u)
  rel : RelV v u
  get : PySem.W.specialIn K u "__get__" = some none
  cp : PySem.W.copiedNames.contains f = false
/-- a method: a plain def of the class or of one above it -/
structure Meth (K : PySem.W.Frag) (C : Addr) (m : Str) (f : Addr) : Prop where
  at_ : PySem.W.findIn K (.ref C) m = some (some (.ref f))
  fn : PySem.W.isFn K (.ref f) = true
  kp : PySem.W.keepIn K (.ref f) = true

section
variable {X : Cx} {pins : List (Addr × Obj)} {σ : St} {H : Hp} {s : Shared} {a C dx : Addr} {fs : List (Str × V)} {f : Str} {v : V} {A : Around} {E : Value → Shared → Prop}

end

/-! ### readings and rules -/
/-- e.f, an attribute of the instance -/
def tFld (K : PySem.W.Frag) (ta : TE) (f : Str) : TE := fun σ H Q => ta σ H fun x H1 => ∃ a C dx fs v, x = .ref a ∧ H1 a = some (.ins C dx fs) ∧ Cls K C ∧ NoAttr K C f ∧ fs.lookup f = some v ∧ Q v H1
/-- e.f, a constant of the class -/
def tCon (K : PySem.W.Frag) (ta : TE) (f : Str) : TE := fun σ H Q => ta σ H fun x H1 => ∃ a C dx fs v u, x = .ref a ∧ H1 a = some (.ins C dx fs) ∧ Cls K C ∧ Con K C f v u ∧ fs.lookup f = none ∧ Q v H1
/-- e.f = value -/
def sFld (K : PySem.W.Frag) (ta tv : TE) (f : Str) : TS := fun D σ H => tv σ H fun y H1 => ta σ H1 fun x H2 => ∃ a C dx fs, x = .ref a ∧ H2 a = some (.ins C dx fs) ∧ Cls K C ∧ NoAttr K C f ∧ fs.length < 1000 ∧
  D.nx σ (upd H2 a (.ins C dx (putF f y fs)))
/-- an augmented operator on two values -/
def InOp (X : Cx) (op : Operator) (rd : V → V → Hp → VK → Prop) : Prop :=
  ∀ (pins : List (Addr × Obj)) (s : Shared) (σ : St) (H : Hp) (x y : V) (u v : Value) (Q : VK), Inv X pins σ H s → RelV x u → RelV y v → rd x y H Q → wpAny (model X.prog X.w) X.A (inplaceOp op u v) (EP X pins σ Q) X.xe s
/-- e.f op= value -/
def sFldAug (K : PySem.W.Frag) (ta tv : TE) (rd : V → V → Hp → VK → Prop) (f : Str) : TS := fun D σ H => ta σ H fun x H1 => ∃ a C dx fs v, x = .ref a ∧ H1 a = some (.ins C dx fs) ∧ Cls K C ∧ NoAttr K C f ∧ fs.lookup f = some v ∧
  tv σ H1 fun y H2 => rd v y H2 fun z H3 => ∃ dx' fs', H3 a = some (.ins C dx' fs') ∧ fs'.length < 1000 ∧ D.nx σ (upd H3 a (.ins C dx' (putF f z fs')))

section
variable {X : Cx} {o e value : Expr} {f : Str} {pos pos' tpos : Pos} {ta tv : TE}
def rAdd : V → V → Hp → VK → Prop := fun x y H Q => ∃ i j, x = .int i ∧ y = .int j ∧ Q (.int (i + j)) H
def rSub : V → V → Hp → VK → Prop := fun x y H Q => ∃ i j, x = .int i ∧ y = .int j ∧ Q (.int (i - j)) H
end

/-! ### isinstance -/
section
variable {X : Cx} {pins : List (Addr × Obj)} {σ : St} {H : Hp} {s : Shared} {A : Around} {E : Value → Shared → Prop} {Q : Value → Shared → Prop} {c : Value} {b : Bool}
/-- the type of a value, as the fragment's deciders take it; for an instance its class -/
inductive TyOf (K : PySem.W.Frag) (H : Hp) : V → Value → Prop where
  | non : TyOf K H .non (.type "NoneType")
  | bl (x : Bool) : TyOf K H (.bl x) (.type "bool")
  | int (i : Int) : TyOf K H (.int i) (.type "int")
  | str (x : Str) : TyOf K H (.str x) (.type "str")
  | flt (x : UInt64) : TyOf K H (.flt x) (.type "float")
  | lst {a : Addr} {xs : List V} (e : H a = some (.lst xs)) : TyOf K H (.ref a) (.type "list")
  | frz {a : Addr} {o : Obj} {xs : List V} (e : H a = some (.frz o (.lst xs))) : TyOf K H (.ref a) (.type "list")
  | tup {a : Addr} {xs : List V} (e : H a = some (.tup xs)) : TyOf K H (.ref a) (.type "tuple")
  | dK {a : Addr} {kvs : List (Key × V)} (e : H a = some (.dK kvs)) : TyOf K H (.ref a) (.type "dict")
  | dT {a : Addr} {kvs : List (List Key × V)} (e : H a = some (.dT kvs)) : TyOf K H (.ref a) (.type "dict")
  | ins {a C dx : Addr} {fs : List (Str × V)} (e : H a = some (.ins C dx fs)) (cl : Cls K C) (ha : PySem.W.findIn K (.ref C) "__class__" = some (some (.builtin "object.__class__")))
      (hn : PySem.W.specialIn K (.builtin "object.__class__") "__get__" = some (some (.builtin "getset_descriptor.__get__"))) (htk : PySem.W.takesIn K (.builtin "object.__class__") = some true)
      (hm : PySem.W.mroIn K C (.type "object") = some true) : TyOf K H (.ref a) (.ref C)
/-- isinstance(x, c) for one class c, a built-in or an own one: kitOne's answer -/
theorem isinst_ok {x : V} {u t : Value} (I : Inv X pins σ H s) (rx : RelV x u) (ty : TyOf X.K H x t) (e : PySem.W.kitOne X.K t c = some b) (h : ∀ tk, Q (.bool b) { s with toks := tk }) :
    wpAny (model X.prog X.w) A (call (.builtin "isinstance") [u, c]) Q E s := by
  cases ty with
  | non => cases (show u = Value.none from rx); exact PySem.W.kia_one PySem.W.kitx_none I.kIn True.intro e (fun z => nomatch z) h
  | bl y => cases (show u = Value.bool y from rx); exact PySem.W.kia_one PySem.W.kitx_bool I.kIn True.intro e (fun z => nomatch z) h
  | int i => obtain ⟨t, q⟩ := (show ∃ t, u = Value.int i t from rx); cases q; exact PySem.W.kia_one PySem.W.kitx_int I.kIn True.intro e (fun z => nomatch z) h
  | str y => obtain ⟨t, q⟩ := (show ∃ t, u = Value.str y t from rx); cases q; exact PySem.W.kia_one PySem.W.kitx_str I.kIn True.intro e (fun z => nomatch z) h
  | flt y => obtain ⟨t, q⟩ := (show ∃ t, u = Value.float y t from rx); cases q; exact PySem.W.kia_one PySem.W.kitx_float I.kIn True.intro e (fun z => nomatch z) h
  | @lst a xs ea =>
    cases (show u = Value.ref a from rx)
    obtain ⟨_, _, n, _, h1⟩ := (show ObjOk X.prog X.w H s.heap a (.lst xs) from I.hok a _ ea)
    exact PySem.W.kia_one PySem.W.kitx_list I.kIn ⟨_, h1, rfl⟩ e (fun z => nomatch z) h
  | @frz a ob xs ea =>
    cases (show u = Value.ref a from rx)
    obtain ⟨_, _, _, n, _, h1⟩ := (show ObjOk X.prog X.w H s.heap a (.frz ob (.lst xs)) from I.hok a _ ea)
    exact PySem.W.kia_one PySem.W.kitx_list I.kIn ⟨_, h1, rfl⟩ e (fun z => nomatch z) h
  | @tup a xs ea =>
    cases (show u = Value.ref a from rx)
    obtain ⟨_, _, _, p⟩ := (show ObjOk X.prog X.w H s.heap a (.tup xs) from I.hok a _ ea)
    obtain ⟨o, h1, h2, _⟩ := p
    exact PySem.W.kia_one PySem.W.kitx_tuple I.kIn ⟨o, h1, h2⟩ e (fun z => nomatch z) h
  | @dK a kvs ea =>
    cases (show u = Value.ref a from rx)
    obtain ⟨_, _, vs, _, p⟩ := (show ObjOk X.prog X.w H s.heap a (.dK kvs) from I.hok a _ ea)
    obtain ⟨o, es, ep, h1, h2, _⟩ := p
    exact PySem.W.kia_one PySem.W.kitx_dict I.kIn ⟨o, h1, h2.1⟩ e (fun z => nomatch z) h
  | @dT a kvs ea =>
    cases (show u = Value.ref a from rx)
    obtain ⟨_, _, xs, _, o, es, ep, h1, h2, _⟩ := (show ObjOk X.prog X.w H s.heap a (.dT kvs) from I.hok a _ ea)
    exact PySem.W.kia_one PySem.W.kitx_dict I.kIn ⟨o, h1, h2.1⟩ e (fun z => nomatch z) h
  | @ins a C dx fs ea cl ha hn htk hm =>
    cases (show u = Value.ref a from rx)
    obtain ⟨mA, O, _⟩ := ins_get I.hok ea
    obtain ⟨od, J, _⟩ := O.look
    exact PySem.W.kia_one (PySem.W.kitx_own (cl.get _) cl.hd ha hn htk hm) I.kIn J e (fun z => nomatch z) h
end
end L2

namespace L2
open PySem PySem.Spec PyProof.Rows

/-! ### room -/
structure Room (k : Nat) (A : Around) : Prop where
  hd : A.handled = none
  dp : A.depth + 3 * k + 5 < recursionLimit
  un : A.units + 16 * k + 200 < cLine
  gd : A.guards = some []
theorem Room.mono {j k : Nat} {A : Around} (r : Room k A) (h : j ≤ k) : Room j A := ⟨r.hd, by have := r.dp; omega, by have := r.un; omega, r.gd⟩
theorem Room.deeper {k : Nat} {A : Around} (r : Room (k + 1) A) (env : Env) : Room k (A.deeper env) :=
  ⟨r.hd, by have := r.dp; show A.depth + 1 + 3 * k + 5 < _; omega, by have := r.un; show A.units + 3 + 16 * k + 200 < _; omega, r.gd⟩
theorem Room.depth {k : Nat} {A : Around} (r : Room k A) : A.depth < recursionLimit := by have := r.dp; omega
theorem Room.units {k : Nat} {A : Around} (r : Room k A) : A.units + 64 < cLine := by have := r.un; omega
/-! ### argument lists and displays -/
def tNil : TA := fun _ H Q => Q [] H
def tCons (ta : TE) (tr : TA) : TA := fun σ H Q => ta σ H fun x H1 => tr σ H1 fun xs H2 => Q (x :: xs) H2
section
variable {X : Cx} {e : Expr} {es : List Expr} {te : TE} {t : TA} {pos : Pos}
theorem pa_nil : PA X [] tNil := fun _ _ _ _ H Q I h => Calls.spliced_nil ⟨[], H, I, .nil, h⟩
theorem pa_cons (ha : PE X e te) (hr : PA X es t) (hs : starEach (e :: es) X.env = (false, eval e X.env) :: starEach es X.env := by rfl) : PA X (e :: es) (tCons te t) := by
  intro pos pins s σ H Q I h
  rw [hs]
  show wpAny _ _ (spliced ((false, eval e X.env) :: backTo pos (starEach es X.env))) _ _ s
  refine Calls.spliced_cons (thn (ha pins s σ H _ I h) fun u s1 ⟨x, H1, I1, r1, q1⟩ => ?_)
  exact thn (hr pos pins s1 σ H1 _ I1 q1) fun us s2 ⟨xs, H2, I2, r2, q2⟩ => ⟨x :: xs, H2, I2, .cons r1 r2, q2⟩

/-- a tuple, a list of written items -/
def tTup (t : TA) : TE := fun σ H Q => t σ H fun xs H1 => xs.length ≤ sizeLine ∧ ∀ p, H1 p = none → Q (.ref p) (upd H1 p (.tup xs))
def tLst (t : TA) : TE := fun σ H Q => t σ H fun xs H1 => xs.length ≤ sizeLine ∧ ∀ p, H1 p = none → Q (.ref p) (upd H1 p (.lst xs))
theorem pe_tup {x1} (h : PA X es t) : PE X (.Tuple es x1 pos) (tTup t) := by
  intro pins s σ H Q I hq
  refine wpAny_Tuple_spliced (thn (h pos pins s σ H _ I hq) fun us s1 ⟨xs, H1, I1, r, z, q⟩ => ⟨by rw [← r.length]; exact z, ?_⟩)
  have hf : H1 s1.heap.objs.size = none := I1.hok.fresh (Nat.le_refl _)
  refine ⟨.ref s1.heap.objs.size, upd H1 s1.heap.objs.size (.tup xs), I1.laid (t' := s1.toks) (fun b u e => Heap.get?_push_of_some _ e) (Nat.le_refl _) ?_, rfl, q _ hf⟩
  exact ⟨z, us, r, ⟨_, Heap.get?_push_size _ rfl, rfl, _, rfl⟩⟩
theorem pe_lst (h : PA X es t) : PE X (.List es pos) (tLst t) := by
  intro pins s σ H Q I hq
  refine wpAny_List_spliced (thn (h pos pins s σ H _ I hq) fun us s1 ⟨xs, H1, I1, r, z, q⟩ => ⟨by rw [← r.length]; exact z, ?_⟩)
  have hf : H1 s1.heap.objs.size = none := I1.hok.fresh (Nat.le_refl _)
  refine ⟨.ref s1.heap.objs.size, upd H1 s1.heap.objs.size (.lst xs), I1.laid (t' := s1.toks) (fun b u e => Heap.get?_push_of_some _ e) (Nat.le_refl _) ?_, rfl, q _ hf⟩
  exact ⟨z, us, 0, r, Heap.get?_push_size _ rfl⟩
end

/-! ### what a def promises -/
/-- a def's promise: the bound arguments in the parameters' order, the heap, the wanted end, the wanted exception -/
abbrev Sp := List V → Hp → VK → XK → Prop
/-- how an exception lies behind a call (file 08 gives it): the callers' frames, abstract heap and state ahead of the call, the wish, the exception, the state -/
abbrev CXT := List Env → Hp → Shared → XK → Value → Shared → Prop

/-- the state at a call -/
structure Env0 (P : Program) (w : World) (K : PySem.W.Frag) (mg : Str → Option Value) (base : Heap) (A : Around) (outer : List Env) (s : Shared) (H : Hp) : Prop where
  frames : A.frames = some outer
  mod : Mod K mg base
  bs : ∀ b o, base.get? b = some o → s.heap.get? b = some o ∧ H b = none
  bsz : base.objs.size ≤ s.heap.objs.size
  funs : s.heap.FunFrames base outer
  frf : ∀ b ∈ frs outer, H b = none
  hok : HOk P w H s.heap
  bare : AllBare s.gens
/-- a call's end -/
def CE (outer : List Env) (P : Program) (w : World) (H : Hp) (s : Shared) (Q : VK) (u : Value) (s' : Shared) : Prop :=
  ∃ v H', s'.os = s.os ∧ AllBare s'.gens ∧ Un (frs outer) [] H H' s.heap s'.heap ∧ HOk P w H' s'.heap ∧ RelV v u ∧ Q v H'
def CR (CX : CXT) (outer : List Env) (P : Program) (w : World) (H : Hp) (s : Shared) (Q : VK) (E : XK) (r : Result) (s' : Shared) : Prop :=
  match r with
  | .ok (.ret u) => CE outer P w H s Q u s'
  | .ok _ => False
  | .error e => CX outer H s E e s'
structure FnOk (P : Program) (w : World) (K : PySem.W.Frag) (mg : Str → Option Value) (base : Heap) (CX : CXT) (k : Nat) (f : Addr) (fd : FuncData) (ps : List Str) (sp : Sp) : Prop where
  len : ∀ vs H Q E, sp vs H Q E → vs.length = ps.length
  run : ∀ (A : Around) (outer : List Env) (s : Shared) (H : Hp) (args : Args) (us : List Value) (vs : List V) (Q : VK) (E : XK), Room k A → Env0 P w K mg base A outer s H → BindsTo s fd args (ps.zip us) → Vals vs us → sp vs H Q E →
    codeAny (model P w) A (.call (.ref f) args) (CR CX outer P w H s Q E) s
theorem FnOk.mono {P : Program} {w : World} {K : PySem.W.Frag} {mg : Str → Option Value} {base : Heap} {CX : CXT} {j k : Nat} {f : Addr} {fd : FuncData} {ps : List Str} {sp : Sp} (F : FnOk P w K mg base CX j f fd ps sp) (h : j ≤ k) :
    FnOk P w K mg base CX k f fd ps sp := ⟨F.len, fun A outer s H args us vs Q E hr => F.run A outer s H args us vs Q E (hr.mono h)⟩
section
variable {X : Cx} {pins : List (Addr × Obj)} {σ : St} {H : Hp} {s s' : Shared}
/-- from a body: what a callee wants -/
theorem Inv.env0 (I : Inv X pins σ H s) : Env0 X.prog X.w X.K X.mg X.base X.A X.stack s H :=
  ⟨I.ok.frames, I.ok.mod, I.bs, Nat.le_trans I.ok.bsz I.sz, I.stack, I.stkFree, I.hok, I.bare⟩
/-- behind a call -/
theorem Inv.after {Q : VK} {u : Value} (I : Inv X pins σ H s) (h : CE X.stack X.prog X.w H s Q u s') : EP X pins σ Q u s' := by
  obtain ⟨v, H', os, bare, un, hok, r, q⟩ := h
  obtain ⟨hh, g, d, t, os'⟩ := s'
  obtain rfl : os' = s.os := os
  exact ⟨v, H', I.call (h' := hh) (g' := g) (d' := d) (t' := t) (ch := []) un hok bare (fun b z => absurd z (by simp)), r, q⟩
end

/-! ### calls -/
/-- f(..): the written arguments, then the defaults dvs; E: what is wanted of an exception -/
def tCall (sp : Sp) (dvs : List V) (E : XK) (t : TA) : TE := fun σ H Q => t σ H fun vs H1 => sp (vs ++ dvs) H1 Q E
/-- o.m(..) of an instance of the class at C -/
def tMeth (C : Addr) (m : Str) (sp : Sp) (dvs : List V) (E : XK) (ta : TE) (t : TA) : TE := fun σ H Q => ta σ H fun x H1 => ∃ a dx fs, x = .ref a ∧ H1 a = some (.ins C dx fs) ∧ fs.lookup m = none ∧
  t σ H1 fun vs H2 => sp (x :: (vs ++ dvs)) H2 Q E
/-- C(..): a new instance and its dict, then __init__ -/
def tMake (C : Addr) (sp : Sp) (dvs : List V) (E : XK) (t : TA) : TE := fun σ H Q => t σ H fun vs H1 => ∀ x dx, H1 x = none → H1 dx = none → dx ≠ x →
  sp (.ref x :: (vs ++ dvs)) (upd (upd H1 dx (.own x)) x (.ins C dx [])) (fun v H2 => v = .non ∧ Q (.ref x) H2) E

/-- how the parameters are bound: us the positional arguments, kw the keywords' values by name, ds the defaults that fill up -/
def Binds (K : PySem.W.Frag) (fd : FuncData) (ps : List Str) (ds : List Value) : Prop :=
  ∀ (s : Shared) (us : List Value), K.In s.heap → (us ++ ds).length = ps.length → BindsTo s fd ⟨us, []⟩ (ps.zip (us ++ ds))
/-- every parameter is given -/
theorem Binds.all {K : PySem.W.Frag} {fd : FuncData} {ps : List Str} (h : ∀ us : List Value, us.length = ps.length → bindArgs fd ⟨us, []⟩ = pure (ps.zip us)) : Binds K fd ps [] := fun s us _ hl => by
  rw [List.append_nil] at hl ⊢
  exact .of_eq (h us hl)

/-- an exception of a callee reaches what this body wants of exceptions -/
def Passes (CX : CXT) (X : Cx) (E : XK) : Prop := ∀ (pins : List (Addr × Obj)) (σ : St) (H : Hp) (s : Shared) (e : Value) (s' : Shared), Inv X pins σ H s → CX X.stack H s E e s' → X.xe e s'

section
variable {X : Cx} {CX : CXT} {k : Nat} {f C : Addr} {fd : FuncData} {ps : List Str} {sp : Sp} {dvs : List V} {ds : List Value} {E : XK} {x m : Str} {p pos apos : Pos} {e o : Expr} {es : List Expr} {ta : TE} {t : TA}

/-- the callee runs -/
theorem run_fn {pins : List (Addr × Obj)} {σ : St} {H : Hp} {s : Shared} {Q : VK} {us : List Value} {vs : List V} (F : FnOk X.prog X.w X.K X.mg X.base CX k f fd ps sp) (hr : Room k X.A) (hb : Binds X.K fd ps ds) (hd : Vals dvs ds) (hx : Passes CX X E)
    (I : Inv X pins σ H s) (r : Vals vs us) (h : sp (vs ++ dvs) H Q E) : wpAny (model X.prog X.w) X.A (call (.ref f) us) (EP X pins σ Q) X.xe s := by
  have r2 : Vals (vs ++ dvs) (us ++ ds) := r.append hd
  have hl : (us ++ ds).length = ps.length := by rw [← r2.length]; exact F.len _ _ _ _ h
  refine wpAny_call (codeAny_mono (F.run X.A X.stack s H ⟨us, []⟩ (us ++ ds) (vs ++ dvs) Q E hr I.env0 (hb s us I.kIn hl) r2 h) fun r s' hq => ?_)
  cases r with
  | error e => exact hx pins σ H s e s' I hq
  | ok fl =>
    cases fl with
    | ret u => exact I.after hq
    | next => exact False.elim hq
    | brk => exact False.elim hq
    | cont => exact False.elim hq

theorem pe_call (F : FnOk X.prog X.w X.K X.mg X.base CX k f fd ps sp) (hr : Room k X.A) (hg : Gl X x) (hm : X.mg x = some (.ref f)) (hk : PySem.W.keepIn X.K (.ref f) = true) (hb : Binds X.K fd ps ds) (hd : Vals dvs ds) (hx : Passes CX X E)
    (ha : PA X (e :: es) t) (hdb : (x == ("__debug__" : Str)) = false := by decide) (he : starEach (e :: es) X.env = (false, eval e X.env) :: starEach es X.env := by rfl) (hpl : (backTo pos (starEach es X.env)).any (·.1) = false := by rfl) :
    PE X (.Call (.Name x p) (e :: es) [] pos) (tCall sp dvs E t) := by
  intro pins s σ H Q I h
  refine wpAny_Call_Name_kw (ld_glob I hg hm ?_ hdb)
  refine PySem.W.callWith_K (h₀ := X.base) I.ok.mod.kin hk (thn (ha pos pins s σ H _ I h) fun us s1 ⟨vs, H1, I1, r, q⟩ => ⟨I1.kIn, ?_⟩) he hpl
  exact run_fn F hr hb hd hx I1 r q
/-- what a class must have to be made -/
structure Mk (K : PySem.W.Frag) (C f : Addr) : Prop where
  makes : PySem.W.makesIn K C = true
  init : PySem.W.findIn K (.ref C) "__init__" = some (some (.ref f))
  fn : PySem.W.isFn K (.ref f) = true
  kp : PySem.W.keepIn K (.ref C) = true

end

/-! ### keywords -/
/-- the values of the keywords, from the left -/
def PK (X : Cx) (kws : List Keyword) (t : TA) : Prop :=
  ∀ (pos : Pos) (pins : List (Addr × Obj)) (s : Shared) (σ : St) (H : Hp) (Q : List V → Hp → Prop), Inv X pins σ H s → t σ H Q → wpAny (model X.prog X.w) X.A (evalAll ((backToKw pos (keywordEach kws X.env)).map (·.2))) (AP X pins σ Q) X.xe s
section
variable {X : Cx} {CX : CXT} {k : Nat} {f C : Addr} {fd : FuncData} {ps ks : List Str} {sp : Sp} {E : XK} {x m : Str} {p pos apos kpos : Pos} {e o : Expr} {es : List Expr} {kws : List Keyword} {te ta : TE} {t tk : TA} {nm : Option Str}
/-- how a call with keywords binds: g puts the positional values us and the keywords' values ws (names ks) in the parameters' order, defaults among them -/
structure KBinds (K : PySem.W.Frag) (fd : FuncData) (ps ks : List Str) (g : List Value → List Value → List Value) (gV : List V → List V → List V) : Prop where
  to : ∀ (s : Shared) (us ws : List Value), K.In s.heap → (g us ws).length = ps.length → BindsTo s fd ⟨us, ks.zip ws⟩ (ps.zip (g us ws))
  rel : ∀ {vs : List V} {us : List Value} {zs : List V} {ws : List Value}, Vals vs us → Vals zs ws → Vals (gV vs zs) (g us ws)
def tCallK (sp : Sp) (gV : List V → List V → List V) (E : XK) (t tk : TA) : TE := fun σ H Q => t σ H fun vs H1 => tk σ H1 fun zs H2 => sp (gV vs zs) H2 Q E
variable {g : List Value → List Value → List Value} {gV : List V → List V → List V}
end

/-! ### a def's body keeps its promise -/
/-- names: the parameters first -/
structure FnScope (N P : List Str) (sc : Scope) : Prop where
  kind : sc.kind = .function
  co : sc.isCoroutine = false
  gen : sc.isGenerator = false
  nd : N.Nodup
  pre : N.take P.length = P
  par : ∀ x ∈ P, sc.names.lookup x = some .local ∨ sc.names.lookup x = some .cell
  nofree : ∀ y ∈ sc.names, y.2 ≠ .free

theorem bindL_out {kindOf : Str → Option NameKind} {x : Str} : ∀ {binds : List (Str × Value)} {m : Str → Option Value}, (∀ v, (x, v) ∉ binds) → bindL kindOf binds m x = m x
  | [], _, _ => rfl
  | (n, v) :: r, m, h => by
    unfold bindL
    rw [bindL_out fun w hw => h w (List.mem_cons_of_mem _ hw)]
    split
    · have : x ≠ n := by rintro rfl; exact h v List.mem_cons_self
      simp [this]
    · rfl
theorem bindC_out {kindOf : Str → Option NameKind} {x : Str} : ∀ {binds : List (Str × Value)} {m : Str → Option Value}, (∀ v, (x, v) ∉ binds) → bindC kindOf binds m x = m x
  | [], _, _ => rfl
  | (n, v) :: r, m, h => by
    unfold bindC
    rw [bindC_out fun w hw => h w (List.mem_cons_of_mem _ hw)]
    split
    · rfl
    · have : x ≠ n := by rintro rfl; exact h v List.mem_cons_self
      simp [this]
theorem bindL_get {kindOf : Str → Option NameKind} {x : Str} {v : Value} : ∀ {P : List Str} {vs : List Value} {i : Nat} {m : Str → Option Value}, P.Nodup → P[i]? = some x → vs[i]? = some v → kindOf x = some .local →
    bindL kindOf (P.zip vs) m x = some v
  | [], _, _, _, _, h, _, _ => by simp at h
  | _ :: _, [], _, _, _, _, h, _ => by simp at h
  | p :: P, w :: vs, 0, m, nd, h1, h2, hk => by
    simp at h1 h2; subst h1; subst h2
    show bindL kindOf ((p, w) :: P.zip vs) m p = _
    unfold bindL
    rw [bindL_out fun v hv => (List.nodup_cons.mp nd).1 (List.of_mem_zip hv).1, if_pos hk]
    simp
  | p :: P, w :: vs, i + 1, m, nd, h1, h2, hk => by
    show bindL kindOf ((p, w) :: P.zip vs) m x = _
    unfold bindL
    exact bindL_get (i := i) (List.nodup_cons.mp nd).2 (by simpa using h1) (by simpa using h2) hk
theorem bindC_get {kindOf : Str → Option NameKind} {x : Str} {v : Value} : ∀ {P : List Str} {vs : List Value} {i : Nat} {m : Str → Option Value}, P.Nodup → P[i]? = some x → vs[i]? = some v → kindOf x ≠ some .local →
    bindC kindOf (P.zip vs) m x = some v
  | [], _, _, _, _, h, _, _ => by simp at h
  | _ :: _, [], _, _, _, _, h, _ => by simp at h
  | p :: P, w :: vs, 0, m, nd, h1, h2, hk => by
    simp at h1 h2; subst h1; subst h2
    show bindC kindOf ((p, w) :: P.zip vs) m p = _
    unfold bindC
    rw [bindC_out fun v hv => (List.nodup_cons.mp nd).1 (List.of_mem_zip hv).1, if_neg hk]
    simp
  | p :: P, w :: vs, i + 1, m, nd, h1, h2, hk => by
    show bindC kindOf ((p, w) :: P.zip vs) m x = _
    unfold bindC
    exact bindC_get (i := i) (List.nodup_cons.mp nd).2 (by simpa using h1) (by simpa using h2) hk

/-- the names' values at the entry -/
def start (N : List Str) (vs : List V) : St := vs.map some ++ List.replicate (N.length - vs.length) none

/-- the context of a def's body, at its entry; an exception leaves the frame, then lies as CX says -/
def cxOf (CX : CXT) (P : Program) (w : World) (K : PySem.W.Frag) (mg : Str → Option Value) (base : Heap) (N : List Str) (qual : Str) (scope : Scope) (f : Addr) (cd : Value) (A : Around) (outer : List Env) (s : Shared) (H : Hp) (E : XK) : Cx where
  prog := P
  w := w
  K := K
  mg := mg
  base := base
  A := A.deeper (envOfC qual scope s.heap.objs.size f cd)
  N := N
  s₀ := s
  H₀ := H
  env := envOfC qual scope s.heap.objs.size f cd
  outer := outer
  stack := envOfC qual scope s.heap.objs.size f cd :: outer
  ex := []
  calm := true
  fn := fun _ => true
  pn := []
  xe := fun e s' => wpAny (model P w) (A.deeper (envOfC qual scope s.heap.objs.size f cd)) (leaving (envOfC qual scope s.heap.objs.size f cd) e) (fun _ s'' => CX outer H s E e s'') (fun e' s'' => CX outer H s E e' s'') s'

theorem cell_has {sc : Scope} {n : Nat} {x : Str} (h : sc.names.lookup x = some .cell) : ∃ c, (cellsFrom n sc.names []).lookup x = some c := by
  have q := PySem.W.cellsFrom_some sc.names n [] (.inl h)
  exact Option.isSome_iff_exists.mp q

theorem inv_start {CX : CXT} {P : Program} {w : World} {K : PySem.W.Frag} {mg : Str → Option Value} {base : Heap} {N ps : List Str} {qual : Str} {scope : Scope} {f : Addr} {cd : Value} {A : Around} {outer : List Env} {s s1 : Shared} {H : Hp} {E : XK} {us : List Value} {vs : List V}
    (S : FnScope N ps scope) (hd : A.handled = none) (e0 : Env0 P w K mg base A outer s H) (hl : vs.length = ps.length) (r : Vals vs us)
    (x : InCallC s s.heap.objs.size (bindL (envOfC qual scope s.heap.objs.size f cd).kindOf (ps.zip us) fun _ => none) (cellsFrom (s.heap.objs.size + 1) scope.names []) (bindC (envOfC qual scope s.heap.objs.size f cd).kindOf (ps.zip us) fun _ => none) s1) :
    Inv (cxOf CX P w K mg base N qual scope f cd A outer s H E) [] (start N vs) H s1 := by
  have hpl : ps.length ≤ N.length := by have := congrArg List.length S.pre; rw [List.length_take] at this; omega
  obtain ⟨h1, tk, rfl, hk⟩ := x.done
  have noA : ∀ b : Addr, b ∉ (cxOf CX P w K mg base N qual scope f cd A outer s H E).ex := fun b z => absurd (show b ∈ ([] : List Addr) from z) (by simp)
  refine ⟨⟨e0.mod, S.kind, rfl, rfl, Nat.le_refl _, fun y z c h1 h2 => ?_, fun y hy => ?_, fun y c _ h => ?_, fun _ => hd, Around.frames_deeper e0.frames, .inr ⟨rfl, rfl⟩, fun b z => absurd z (noA b), e0.bs, e0.bsz, fun b _ _ => noA b, fun b z => absurd z (noA b), e0.funs, e0.frf⟩,
    rfl, e0.bare, Un.kept hk, ⟨_, x.toInCall.ns, fun i y v h1 h2 h3 => ?_⟩, fun y c h => ⟨_, x.cell y c h⟩, e0.hok.fresh (Nat.le_refl _), fun y c h => ?_, fun p hp => absurd (show p ∈ ([] : List (Addr × Obj)) from hp) (by simp), e0.hok.kept hk, ?_⟩
  · exact name_of_addr x.apart (PySem.mem_of_lookup h1) (PySem.mem_of_lookup h2)
  · have hy : scope.names.lookup y = some .cell ∨ scope.names.lookup y = some .free := hy
    rcases hy with hy | hy
    · exact cell_has hy
    · exact absurd rfl (S.nofree _ (PySem.mem_of_lookup hy))
  · exact Nat.le_of_lt (x.above y c (PySem.mem_of_lookup h))
  · have hi : i < vs.length := by
      unfold start at h2
      by_cases hi : i < vs.length
      · exact hi
      · rw [List.getElem?_append_right (by simpa using hi)] at h2
        rw [List.getElem?_replicate] at h2
        split at h2 <;> cases h2
    have ha : vs[i]? = some v := by
      unfold start at h2
      rw [List.getElem?_append_left (by simpa using hi), List.getElem?_map] at h2
      cases e : vs[i]? with
      | none => rw [e] at h2; cases h2
      | some a => rw [e] at h2; cases h2; rfl
    obtain ⟨u, hu, rv⟩ := r.get ha
    have hp : ps[i]? = some y := by
      rw [← S.pre, List.getElem?_take_of_lt (by omega)]; exact h1
    have ndP : ps.Nodup := by rw [← S.pre]; exact S.nd.sublist (List.take_sublist _ _)
    refine ⟨u, rv, ?_⟩
    rcases S.par y (List.mem_of_getElem? hp) with k | k
    · exact .inl ⟨k, bindL_get ndP hp hu k⟩
    · obtain ⟨c, e⟩ := cell_has (n := s.heap.objs.size + 1) k
      refine .inr ⟨.inl k, c, e, ?_⟩
      have q := x.cell y c e
      rw [bindC_get ndP hp hu (by show scope.names.lookup y ≠ _; rw [k]; decide)] at q
      exact q
  · exact e0.hok.fresh (Nat.le_of_lt (x.above y c (PySem.mem_of_lookup h)))
  · unfold start
    show _ = N.length
    rw [List.length_append, List.length_map, List.length_replicate]
    omega

/-- THE RULE: a def (or a method) of the text, by its body. The body's reading t is chosen for each entry; it is run at the parameters' values -/
theorem fn_of {CX : CXT} {P : Program} {w : World} {K : PySem.W.Frag} {mg : Str → Option Value} {base : Heap} {k : Nat} {f : Addr} {name qual : Str} {params : Arguments} {body : List Stmt} {scope : Scope} {dV kV doc pm cdv ct oc : Value} {an od : Option Addr}
    {osl : Array (Option Value)} {N ps : List Str} {sp : Sp} (lk : K.lookup f = some ⟨oc, od, .func (PySem.W.fnOf name qual params body scope dV kV doc pm an cdv ct), osl⟩) (hcd : PySem.W.codeIn K cdv qual = true) (S : FnScope N ps scope)
    (len : ∀ vs H Q E, sp vs H Q E → vs.length = ps.length)
    (hbody : ∀ (A : Around) (outer : List Env) (s : Shared) (H : Hp) (vs : List V) (Q : VK) (E : XK), Room k (A.deeper (envOfC qual scope s.heap.objs.size f cdv)) → sp vs H Q E →
      ∃ t, PSs (cxOf CX P w K mg base N qual scope f cdv A outer s H E) body t ∧ t { nx := fun _ H' => Q .non H', rt := Q } (start N vs) H) :
    FnOk P w K mg base CX (k + 1) f (PySem.W.fnOf name qual params body scope dV kV doc pm an cdv ct) ps sp := by
  refine ⟨len, fun A outer s H args us vs Q E hr e0 hb r hsp => ?_⟩
  have hl := len _ _ _ _ hsp
  have KX : K.In s.heap := e0.mod.kin.keeps fun b o e => (e0.bs b o e).1
  have lim : s.heap.NoLimit := e0.mod.nolimit.keeps fun b o e => (e0.bs b o e).1
  have hkind : ∀ y ∈ ps.zip us, scope.names.lookup y.1 = some .local ∨ (scope.names.lookup y.1 = some .cell ∧ ((cellsFrom (s.heap.objs.size + 1) scope.names []).lookup y.1).isSome = true) := fun ⟨n, v⟩ hy => by
    rcases S.par n (List.of_mem_zip hy).1 with q | q
    · exact .inl q
    · exact .inr ⟨q, PySem.W.cellsFrom_some _ _ _ (.inl q)⟩
  refine codeAny_call_function hr.depth (KX _ _ lk) rfl S.co S.gen rfl (PySem.W.codeRec_of KX hcd) (hb _ _ _ _ ?_)
  refine wpAny_newFunctionEnv_cells S.kind hkind fun env he s1 x => ?_
  subst he
  refine ⟨lim.keeps x.toInCall.keep, codeAny_func ?_⟩
  obtain ⟨t, ht, hq⟩ := hbody A outer s H vs Q E (hr.deeper _) hsp
  have I : Inv (cxOf CX P w K mg base N qual scope f cdv A outer s H E) [] (start N vs) H s1 := inv_start S hr.hd e0 hl r x
  refine wpAny_mono (ht [] s1 (start N vs) H _ I hq) (fun fl s' hs => ?_) fun e s' hs => hs
  have fin : ∀ {σ' : St} {H' : Hp} {v : V} {u : Value}, Inv (cxOf CX P w K mg base N qual scope f cdv A outer s H E) [] σ' H' s' → RelV v u → Q v H' → CE outer P w H s Q u s' :=
    fun {σ' H' v u} J rv q => ⟨v, H', J.os, J.bare, J.base, J.hok, rv, q⟩
  cases fl with
  | ret u =>
    obtain ⟨v, σ', H', J, rv, q⟩ := hs
    exact fin J rv q
  | next =>
    obtain ⟨σ', H', J, q⟩ := hs
    exact fin (v := V.non) (u := Value.none) J rfl q
  | brk =>
    obtain ⟨_, _, _, q⟩ := hs
    exact False.elim q
  | cont =>
    obtain ⟨_, _, _, q⟩ := hs
    exact False.elim q
end L2

namespace L2
open PySem PySem.Spec PyProof.Rows
section
variable {X : Cx} {x : Str} {p pos : Pos} {e : Expr} {es : List Expr} {t : TA} {id T : String} {r : List V → Hp → VK → Prop}

def tCB (r : List V → Hp → VK → Prop) (t : TA) : TE := fun σ H Q => t σ H fun vs H1 => r vs H1 Q
/-- f(e, ..), f a built-in function -/
theorem pe_callB (hc : CallR X (.builtin id) r) (hg : Gl X x) (hm : X.mg x = none) (hv : bootBuiltins x = some (.builtin id)) (ha : PA X (e :: es) t) (hn : x ≠ "__name__" := by decide) (hdb : (x == ("__debug__" : Str)) = false := by decide)
    (he : starEach (e :: es) X.env = (false, eval e X.env) :: starEach es X.env := by rfl) (hpl : (backTo pos (starEach es X.env)).any (·.1) = false := by rfl) : PE X (.Call (.Name x p) (e :: es) [] pos) (tCB r t) := by
  intro pins s σ H Q I h
  refine wpAny_Call_Name_kw (ld_blt I hg hm hv ?_ hn hdb)
  exact PyProof.Rows.callWith_builtin1 (thn (ha pos pins s σ H _ I h) fun us s1 ⟨vs, H1, I1, r1, q1⟩ => hc pins s1 σ H1 vs us Q I1 r1 q1) he hpl
/-- T(e, ..), T a built-in type -/
theorem pe_callTy (hc : CallR X (.type T) r) (hg : Gl X x) (hm : X.mg x = none) (hv : bootBuiltins x = some (.type T)) (ha : PA X (e :: es) t) (hn : x ≠ "__name__" := by decide) (hdb : (x == ("__debug__" : Str)) = false := by decide)
    (he : starEach (e :: es) X.env = (false, eval e X.env) :: starEach es X.env := by rfl) (hpl : (backTo pos (starEach es X.env)).any (·.1) = false := by rfl) : PE X (.Call (.Name x p) (e :: es) [] pos) (tCB r t) := by
  intro pins s σ H Q I h
  refine wpAny_Call_Name_kw (ld_blt I hg hm hv ?_ hn hdb)
  exact PyProof.Rows.callWith_type1 (thn (ha pos pins s σ H _ I h) fun us s1 ⟨vs, H1, I1, r1, q1⟩ => hc pins s1 σ H1 vs us Q I1 r1 q1) he hpl
end
end L2

namespace HT
open PySem PyProof.Rows

/-- t < u of tuples of ints -/
def lexLt : List Int → List Int → Bool
  | [], [] => false
  | [], _ :: _ => true
  | _ :: _, [] => false
  | x :: xs, y :: ys => if x = y then lexLt xs ys else decide (x < y)
theorem lexLt_cons (x y : Int) (xs ys : List Int) : lexLt (x :: xs) (y :: ys) = if x = y then lexLt xs ys else decide (x < y) := rfl
theorem lexLt_nil_nil : lexLt [] [] = false := rfl
theorem lexLt_nil_cons (y : Int) (ys : List Int) : lexLt [] (y :: ys) = true := rfl
theorem lexLt_cons_nil (x : Int) (xs : List Int) : lexLt (x :: xs) [] = false := rfl

theorem eqAt_int (A : Around) (s : Shared) (a : Int) (t : Tok) (c : Int) (u : Tok) : ∃ e, SeqAt.EqAt A s (.int a t) (.int c u) e ∧ (e = true ↔ a = c) :=
  ⟨(a == c), SeqAt.EqAt.int_int a t c u, by simp⟩
theorem rcLt_int (A : Around) (s : Shared) (a : Int) (t : Tok) (c : Int) (u : Tok) (prog : Program) (w : World) (E : Value → Shared → Prop) (Q : Value → Shared → Prop) (h : Q (.bool (decide (a < c))) s) :
    wpAny (model prog w) A (richCompare .Lt (.int a t) (.int c u)) Q E s :=
  (PyProof.Rows.lt_int h : wpAny (model prog w) A (compareOp .Lt (.int a t) (.int c u)) Q E s)

section
open PySem.SeqAt
open PySem.AutoSeq1 (wpAny_loadPart')
open PySem.MeetsSeq PySem.MeetsSeq2 PySem.MeetsSeq3

end

section
variable {prog : Program} {w : World} {A : Around} {E : Value → Shared → Prop} {s : Shared}

/-! ### t[a:b], not the whole -/
/-- a slice's bound as a place among n (d where it is left out) -/
def sIx (n d : Nat) : Option Int → Nat
  | none => d
  | some v => if v < 0 then (v + (n : Int)).toNat else min v.toNat n
theorem sIx_none (n d : Nat) : sIx n d none = d := rfl
theorem sIx_nat (n d k : Nat) : sIx n d (some (k : Int)) = min k n := by
  show (if (k : Int) < 0 then ((k : Int) + (n : Int)).toNat else min (k : Int).toNat n) = min k n
  rw [if_neg (by omega), Int.toNat_natCast]
end
end HT

namespace L2
open PySem PySem.Spec PyProof.Rows

/-! ### the parts of a slice -/
abbrev TO := St → Hp → (Option Int → Hp → Prop) → Prop
/-- a slice's part (left out, or an int) -/
def PO (X : Cx) (e : Option Expr) (t : TO) : Prop :=
  ∀ (pins : List (Addr × Obj)) (s : Shared) (σ : St) (H : Hp) (Q : Option Int → Hp → Prop), Inv X pins σ H s → t σ H Q →
    wpAny (model X.prog X.w) X.A (evalPart e X.env) (fun u s' => ∃ o H', Inv X pins σ H' s' ∧ IsPart u o ∧ Q o H') X.xe s
def tNoPart : TO := fun _ H Q => Q none H
def tPart (t : TE) : TO := fun σ H Q => t σ H fun x H1 => ∃ i, x = .int i ∧ Q (some i) H1

section
variable {X : Cx} {e : Expr} {te : TE} {lo hi : Option Expr} {tl th : TO} {pos p2 : Pos}

theorem po_none : PO X none tNoPart := by
  intro pins s σ H Q I h
  rw [evalPart_none]
  exact wpAny_pure ⟨none, H, I, .none, h⟩
theorem po_some (h : PE X e te) : PO X (some e) (tPart te) := by
  intro pins s σ H Q I hw
  rw [evalPart_some]
  refine thn (h pins s σ H _ I hw) fun u s1 ⟨x, H1, I1, r1, q1⟩ => ?_
  obtain ⟨i, rfl, q⟩ := q1
  obtain ⟨t, rfl⟩ := r1
  exact ⟨some i, H1, I1, .int i t, q⟩

/-- what a slice of a value is, by values: the slice object stands at sl -/
def SlR (X : Cx) (r : V → Option Int → Option Int → Hp → VK → Prop) : Prop :=
  ∀ (pins : List (Addr × Obj)) (s : Shared) (σ : St) (H : Hp) (x : V) (v vl vu : Value) (lo hi : Option Int) (sl : Addr) (Q : VK), Inv X pins σ H s → RelV x v → s.heap.IsSliceOf sl vl vu .none → IsPart vl lo → IsPart vu hi → r x lo hi H Q →
    ∃ T id, typeLookup (.type T) "__getitem__" = pure (some (.builtin id)) ∧ s.TypeIs v T ∧ wpAny (model X.prog X.w) X.A (getItem v (.ref sl)) (EP X pins σ Q) X.xe s
def tSl (r : V → Option Int → Option Int → Hp → VK → Prop) (te : TE) (tl th : TO) : TE := fun σ H Q => te σ H fun x H1 => tl σ H1 fun l H2 => th σ H2 fun u H3 => r x l u H3 Q
/-- a[lo:hi], any a -/
theorem pe_slice {r : V → Option Int → Option Int → Hp → VK → Prop} (hr : SlR X r) (he : PE X e te) (hl : PO X lo tl) (hu : PO X hi th) : PE X (.Subscript e (.Slice lo hi none p2) pos) (tSl r te tl th) := by
  intro pins s σ H Q I h
  refine Subscript_ (thn (he pins s σ H _ I h) fun v s1 ⟨x, H1, I1, r1, q1⟩ => ?_)
  refine wpAny_Slice (thn (hl pins s1 σ H1 _ I1 q1) fun vl s2 ⟨l, H2, I2, pl, q2⟩ => thn (hu pins s2 σ H2 _ I2 q2) fun vu s3 ⟨u, H3, I3, pu, q3⟩ => ?_)
  rw [evalPart_none]
  refine wpAny_pure ?_
  have I4 : Inv X pins σ H3 { s3 with heap := s3.heap.push { cls := .type "slice", data := .fields #[vl, vu, .none] } } := I3.kept (t' := s3.toks) fun b ob q => Heap.get?_push_of_some _ q
  obtain ⟨T, id, hT, ht, hg⟩ := hr pins { s3 with heap := s3.heap.push { cls := .type "slice", data := .fields #[vl, vu, .none] } } σ H3 x v vl vu l u s3.heap.objs.size Q I4 r1 (Heap.IsSliceOf.new ..) pl pu q3
  show wpAny (model X.prog X.w) X.A (subscriptTail e (.Slice lo hi none p2) v (.ref s3.heap.objs.size)) (EP X pins σ Q) X.xe { s3 with heap := s3.heap.push { cls := .type "slice", data := .fields #[vl, vu, .none] } }
  exact tail_any (ops := [.ref s3.heap.objs.size, v]) ht hT hg (by with_unfolding_all rfl)

/-- the items of xs[lo:hi] -/
def cutV (xs : List V) (lo hi : Option Int) : List V := (xs.drop (HT.sIx xs.length 0 lo)).take (HT.sIx xs.length xs.length hi - HT.sIx xs.length 0 lo)
theorem cutV_length (xs : List V) (lo hi : Option Int) : (cutV xs lo hi).length ≤ xs.length := by
  unfold cutV
  rw [List.length_take, List.length_drop]
  omega
/-- t[lo:hi], not the whole of it (the whole would be t itself) -/
def rSlT (K : PySem.W.Frag) : V → Option Int → Option Int → Hp → VK → Prop := fun x lo hi H Q => ∃ a xs, x = .ref a ∧ SqT K H a xs ∧
  ¬ (HT.sIx xs.length 0 lo = 0 ∧ HT.sIx xs.length xs.length hi = xs.length) ∧ ∀ p, H p = none → Q (.ref p) (upd H p (.tup (cutV xs lo hi)))
/-! ### t < u, t + u -/
def rLtT (K : PySem.W.Frag) : R2 := fun x y H Q => ∃ a b ns ms, x = .ref a ∧ y = .ref b ∧ SqT K H a (ns.map V.int) ∧ SqT K H b (ms.map V.int) ∧ Q (.bl (HT.lexLt ns ms)) H
/-- t + u, t not empty: u empty gives t itself -/
def rCatT (K : PySem.W.Frag) : R2 := fun x y H Q => ∃ a b xs ys, x = .ref a ∧ y = .ref b ∧ SqT K H a xs ∧ SqT K H b ys ∧ xs ≠ [] ∧ xs.length + ys.length ≤ sizeLine ∧
  (ys = [] → Q (.ref a) H) ∧ (ys ≠ [] → ∀ p, H p = none → Q (.ref p) (upd H p (.tup (xs ++ ys))))
end
end L2

namespace L2
open PySem PySem.Spec PyProof.Rows

/-! ### places -/
/-- the place that an index of any sign means -/
def ixN (n : Nat) (i : Int) : Option Nat := if 0 ≤ i then (if i < n then some i.toNat else none) else if -(n : Int) ≤ i then some (i + n).toNat else none
def atI {α : Type} (xs : List α) (i : Int) : Option α := (ixN xs.length i).bind fun j => xs[j]?
theorem ixN_seq {n : Nat} {i : Int} {j : Nat} (h : ixN n i = some j) : seqIndex? i n = some j ∧ j < n ∧ -(n : Int) ≤ i ∧ i < n := by
  unfold ixN at h
  by_cases h0 : 0 ≤ i
  · rw [if_pos h0] at h
    by_cases h1 : i < n
    · rw [if_pos h1] at h
      have e : i.toNat = j := Option.some.inj h
      exact ⟨by rw [seqIndex_of h0 h1, e], by omega, by omega, h1⟩
    · rw [if_neg h1] at h; cases h
  · rw [if_neg h0] at h
    by_cases h1 : -(n : Int) ≤ i
    · rw [if_pos h1] at h
      have e : (i + n).toNat = j := Option.some.inj h
      exact ⟨by rw [seqIndex_neg (by omega) h1, e], by omega, h1, by omega⟩
    · rw [if_neg h1] at h; cases h
theorem atI_get {α : Type} {xs : List α} {i : Int} {v : α} (h : atI xs i = some v) : ∃ j, seqIndex? i xs.length = some j ∧ xs[j]? = some v ∧ j < xs.length ∧ -(xs.length : Int) ≤ i ∧ i < xs.length := by
  unfold atI at h
  cases e : ixN xs.length i with
  | none => rw [e] at h; cases h
  | some j =>
    rw [e] at h
    obtain ⟨h1, h2, h3, h4⟩ := ixN_seq e
    exact ⟨j, h1, h, h2, h3, h4⟩
theorem atI_nat {α : Type} {xs : List α} {j : Nat} {v : α} (h : xs[j]? = some v) : atI xs (j : Int) = some v := by
  have hj : j < xs.length := (List.getElem?_eq_some_iff.mp h).1
  have e : ixN xs.length (j : Int) = some j := by
    unfold ixN
    rw [if_pos (by omega), if_pos (by omega)]; simp
  unfold atI; rw [e]; exact h
/-! ### what may be subscripted -/
/-- what stands as an index of a plain subscript -/
def PlainIx (b : Expr) : Prop := ∀ o i, subscripted b false o i = operate [o, i] (getItem o i)
/-- a subscript by values -/
def IxR (X : Cx) (r : R2) : Prop :=
  ∀ (value slice : Expr) (pins : List (Addr × Obj)) (s : Shared) (σ : St) (H : Hp) (x y : V) (v u : Value) (Q : VK), Inv X pins σ H s → RelV x v → RelV y u → r x y H Q →
    subscripted slice false v u = operate [v, u] (getItem v u) → wpAny (model X.prog X.w) X.A (subscriptTail value slice v u) (EP X pins σ Q) X.xe s
/-- a call of a builtin's method by values: the receiver, the arguments -/
def MtR (X : Cx) (id : String) (r : V → List V → Hp → VK → Prop) : Prop :=
  ∀ (pins : List (Addr × Obj)) (s : Shared) (σ : St) (H : Hp) (x : V) (xs : List V) (v : Value) (us : List Value) (Q : VK), Inv X pins σ H s → RelV x v → Vals xs us → r x xs H Q →
    wpAny (model X.prog X.w) X.A (call (.builtin id) (v :: us)) (EP X pins σ Q) X.xe s
section
variable {X : Cx} {a b : Expr} {ta tb : TE} {pos : Pos}
/-- a[b] -/
theorem pe_ix {r : R2} (hr : IxR X r) (ha : PE X a ta) (hb : PE X b tb) (hs : PlainIx b) : PE X (.Subscript a b pos) (tOp r ta tb) := by
  intro pins s σ H Q I h
  exact Subscript_ (binT ha hb I h fun v u s2 x y H2 I2 rx ry q => hr a b pins s2 σ H2 x y v u Q I2 rx ry q (hs _ _))

def rIxL (K : PySem.W.Frag) : R2 := fun x y H Q => ∃ p xs i v, x = .ref p ∧ y = .int i ∧ SqL K H p xs ∧ atI xs i = some v ∧ Q v H
def rIxT (K : PySem.W.Frag) : R2 := fun x y H Q => ∃ p xs i v, x = .ref p ∧ y = .int i ∧ SqT K H p xs ∧ atI xs i = some v ∧ Q v H
def rIxS : R2 := fun x y H Q => ∃ z i c, x = .str z ∧ y = .int i ∧ z.length ≤ sizeLine ∧ atI z.cps.toList i = some c ∧ Q (.str ⟨#[c]⟩) H
theorem ix_list : IxR X (rIxL X.K) := by
  intro value slice pins s σ H x y v u Q I rx ry h hs
  obtain ⟨p, xs, i, z, rfl, rfl, hq, he, q⟩ := h
  cases rx
  obtain ⟨t, rfl⟩ := ry
  obtain ⟨its, r, pl, hz⟩ := I.list hq
  obtain ⟨j, h1, h2, h3, h4, h5⟩ := atI_get he
  obtain ⟨w, ew, rw'⟩ := r.get h2
  have hl := r.length
  have hn := line63
  have fin : EP X pins σ Q w s := ⟨z, H, I, rw', q⟩
  by_cases h0 : 0 ≤ i
  · have hj : i.toNat = j := by
      rw [seqIndex_of h0 h5] at h1
      exact Option.some.inj h1
    exact item_listR pl.isList h0 (by omega) (by rw [hj]; simpa using ew) fin hs
  · have hj : (i + (its.toArray.size : Int)).toNat = j := by
      rw [seqIndex_neg (by omega) h4] at h1
      rw [List.size_toArray, ← hl]
      exact Option.some.inj h1
    exact subscriptTail_builtinR (x := w) pl.isList.typeIs slot_list_getitem.lookup
      (wpAny_getItem_list_neg (Q := fun r s' => r = w ∧ EP X pins σ Q r s') pl.isList (by omega) (by rw [List.size_toArray] <;> omega) (by omega) (by rw [hj]; simpa using ew) ⟨rfl, fin⟩) hs
theorem ix_tup : IxR X (rIxT X.K) := by
  intro value slice pins s σ H x y v u Q I rx ry h hs
  obtain ⟨p, xs, i, z, rfl, rfl, hq, he, q⟩ := h
  cases rx
  obtain ⟨t, rfl⟩ := ry
  obtain ⟨its, r, pl, hz⟩ := I.tuple hq
  obtain ⟨j, h1, h2, h3, h4, h5⟩ := atI_get he
  obtain ⟨w, ew, rw'⟩ := r.get h2
  have hl := r.length
  have hn := line63
  have fin : EP X pins σ Q w s := ⟨z, H, I, rw', q⟩
  exact subscriptTail_builtinR (x := w) pl.typeIs slot_tuple_getitem.lookup
    (getItem_tuple (j := j) (Q := fun r s' => r = w ∧ EP X pins σ Q r s') pl (by omega) (by omega) (by rw [List.size_toArray, ← hl]; exact h1) (by simpa using ew) ⟨rfl, fin⟩) hs
/-- list, tuple or str -/
def rIx (K : PySem.W.Frag) : R2 := fun x y H Q => rIxL K x y H Q ∨ rIxT K x y H Q ∨ rIxS x y H Q
/-! ### xs[i] = v, any sign -/
/-- the list's object behind a store -/
theorem mapSeq_set (its : List Value) (n j : Nat) (u : Value) : Obj.mapSeq (·.setIfInBounds j u) { cls := .type "list", data := .seq its.toArray n } = { cls := .type "list", data := .seq (its.set j u).toArray n } := by
  simp [Obj.mapSeq]
theorem Inv.lst {pins : List (Addr × Obj)} {σ : St} {H : Hp} {s : Shared} {p : Addr} {xs : List V} (I : Inv X pins σ H s) (h : H p = some (.lst xs)) :
    ∃ (its : List Value) (n : Nat), Vals xs its ∧ s.heap.get? p = some { cls := .type "list", data := .seq its.toArray n } ∧ xs.length ≤ sizeLine := by
  obtain ⟨z, its, n, r, e⟩ := I.hok p _ h
  exact ⟨its, n, r, e, z⟩
/-- the list at p is written by an update of its object -/
theorem Inv.lstUpd {pins : List (Addr × Obj)} {σ : St} {H : Hp} {s : Shared} {p : Addr} {xs ys : List V} {its its' : List Value} {n n' : Nat} {f : Obj → Obj} (I : Inv X pins σ H s) (h : H p = some (.lst xs))
    (ho : s.heap.get? p = some { cls := .type "list", data := .seq its.toArray n }) (hf : f { cls := .type "list", data := .seq its.toArray n } = { cls := .type "list", data := .seq its'.toArray n' }) (r : Vals ys its') (hz : ys.length ≤ sizeLine) (t : Nat) :
    Inv X pins σ (upd H p (.lst ys)) { s with heap := s.heap.update p f, toks := t } := by
  have e : (s.heap.update p f).get? p = some { cls := .type "list", data := .seq its'.toArray n' } := by
    rw [Heap.get?_update_self f ho (by rw [hf] <;> rfl), hf]
  refine I.write (x := p) (e := p) (by rw [h]; trivial) (.inl rfl) (fun b u hb q => (Heap.get?_update_other _ _ (Ne.symm hb)).trans q) ⟨_, e⟩ ?_
  exact ⟨hz, its', n', r, e⟩
def rSetL : V → V → V → Hp → (Hp → Prop) → Prop := fun o i v H Q => ∃ p xs k j, o = .ref p ∧ i = .int k ∧ H p = some (.lst xs) ∧ ixN xs.length k = some j ∧ Q (upd H p (.lst (xs.set j v)))
theorem set_list : PSet X rSetL := by
  intro pins s σ H o i v ov iv u Q I ro ri rv h
  obtain ⟨p, xs, k, j, rfl, rfl, hp, hj, q⟩ := h
  cases ro
  obtain ⟨t, rfl⟩ := ri
  obtain ⟨its, n, r, ho, hz⟩ := I.lst hp
  obtain ⟨h1, h2, h3, h4⟩ := ixN_seq hj
  have hl := r.length
  have hn := line63
  have I' : Inv X pins σ (upd H p (.lst (xs.set j v))) { s with heap := s.heap.update p (Obj.mapSeq (·.setIfInBounds j u)) } :=
    I.lstUpd hp ho (mapSeq_set its n j u) (r.set rv j) (by rw [List.length_set]; exact hz) s.toks
  by_cases h0 : 0 ≤ k
  · have hk : k.toNat = j := by
      rw [seqIndex_of h0 h4] at h1
      exact Option.some.inj h1
    exact PySem.W.ki_setAt ho h0 (by omega) (by rw [List.size_toArray, ← hl]; exact h4) (by rw [hk]; exact ⟨_, I', q⟩)
  · have hk : (k + (its.toArray.size : Int)).toNat = j := by
      rw [seqIndex_neg (by omega) h3] at h1
      rw [List.size_toArray, ← hl]
      exact Option.some.inj h1
    exact PySem.W.ki_setBack ho (by omega) (by rw [List.size_toArray, ← hl]; exact h3) (by omega) (by rw [hk]; exact ⟨_, I', q⟩)

/-! ### slices -/
theorem slice_bounds (lo hi : Option Int) (n : Nat) : (sliceBounds lo hi none n).1 = ((HT.sIx n 0 lo : Nat) : Int) ∧ (sliceBounds lo hi none n).2.1 = ((HT.sIx n n hi : Nat) : Int) ∧ (sliceBounds lo hi none n).2.2 = 1 := by
  refine ⟨?_, ?_, rfl⟩
  · cases lo with
    | none => simp [sliceBounds, HT.sIx]
    | some i =>
      simp only [sliceBounds, HT.sIx, Option.getD_none, show (1 : Int) > 0 by decide, if_true]
      by_cases h : i < 0
      · simp only [h, if_true] <;> omega
      · simp only [h, if_false] <;> omega
  · cases hi with
    | none => simp [sliceBounds, HT.sIx]
    | some i =>
      simp only [sliceBounds, HT.sIx, Option.getD_none, show (1 : Int) > 0 by decide, if_true]
      by_cases h : i < 0
      · simp only [h, if_true] <;> omega
      · simp only [h, if_false] <;> omega
theorem slicePick_cut (its : List Value) (lo hi : Option Int) : slicePick its.toArray lo hi none = ((its.drop (HT.sIx its.length 0 lo)).take (HT.sIx its.length its.length hi - HT.sIx its.length 0 lo)).toArray := by
  obtain ⟨h1, h2, h3⟩ := slice_bounds lo hi its.toArray.size
  unfold slicePick
  rw [h1, h2, h3]
  simp only [sliceRange_one, pick_run, List.size_toArray] <;> rfl
/-- xs[lo:hi] of a list: a new list -/
def rSlL (K : PySem.W.Frag) : V → Option Int → Option Int → Hp → VK → Prop := fun x lo hi H Q => ∃ a xs, x = .ref a ∧ SqL K H a xs ∧ ∀ p, H p = none → Q (.ref p) (upd H p (.lst (cutV xs lo hi)))
theorem sl_list : SlR X (rSlL X.K) := by
  intro pins s σ H x v vl vu lo hi sl Q I rx hs pl pu h
  obtain ⟨a, xs, rfl, hx, q⟩ := h
  cases rx
  obtain ⟨its, r, ht, hz⟩ := I.list hx
  have hlen := r.length
  refine ⟨"list", _, slot_list_getitem.lookup, ht.isList.typeIs, ?_⟩
  refine wpAny_getItem_list_slice ht.isList hs pl pu .none (by simp) ?_ (by rw [List.size_toArray] <;> omega)
  rw [slicePick_cut, ← hlen]
  refine ⟨.ref s.heap.objs.size, _, I.laid (t' := s.toks) (o := .lst (cutV xs lo hi)) (fun b ob q => Heap.get?_push_of_some _ q) (Nat.le_refl _) ?_, rfl, q _ (I.hok.fresh (Nat.le_refl _))⟩
  exact ⟨Nat.le_trans (cutV_length xs lo hi) hz, _, 0, (r.drop (HT.sIx xs.length 0 lo)).take (HT.sIx xs.length xs.length hi - HT.sIx xs.length 0 lo), Heap.get?_push_size _ rfl⟩

/-! ### in, not in: flat items -/
def flatV : V → Bool
  | .non => true
  | .bl _ => true
  | .int _ => true
  | .str _ => true
  | _ => false
/-- == of flat values -/
def eqV : V → V → Bool
  | .non, .non => true
  | .bl a, .bl b => a == b
  | .bl a, .int b => (if a then 1 else 0) == b
  | .int a, .bl b => a == (if b then 1 else 0)
  | .int a, .int b => a == b
  | .str a, .str b => a == b
  | _, _ => false
/-- the items' answers, read off the values (a value's own answer does not lean on its token) -/
def eqU (x : V) (u : Value) : Bool := match u with
  | .none => eqV .non x
  | .bool b => eqV (.bl b) x
  | .int i _ => eqV (.int i) x
  | .str z _ => eqV (.str z) x
  | _ => false
def inV (x : V) (xs : List V) : Bool := xs.any fun y => eqV y x
/-- x in a list or tuple of flat items -/
def rIn (K : PySem.W.Frag) (neg : Bool) : R2 := fun x y H Q => ∃ p xs, y = .ref p ∧ (SqL K H p xs ∨ SqT K H p xs) ∧ flatV x = true ∧ xs.all flatV = true ∧ Q (.bl (if neg then !inV x xs else inV x xs)) H
/-! ### len, list(x), tuple(x) of any list or tuple that is read -/
theorem call_len_seq : CallR X (.builtin "len") (fun xs H Q => ∃ p ys, xs = [.ref p] ∧ (SqL X.K H p ys ∨ SqT X.K H p ys) ∧ Q (.int ys.length) H) := by
  intro pins s σ H xs us Q I r h
  obtain ⟨p, ys, rfl, hq, q⟩ := h
  obtain ⟨u, rfl, rx⟩ := vals1 r
  cases rx
  have hn := line63
  rcases hq with hq | hq
  · obtain ⟨its, r', pl, hz⟩ := I.list hq
    have hlen := r'.length
    exact Calls.call_len_list pl.isList (by simp only [List.size_toArray] <;> omega) ⟨.int ys.length, H, I.tok _, ⟨s.toks + 1, by rw [List.size_toArray, hlen]⟩, q⟩
  · obtain ⟨its, r', pl, hz⟩ := I.tuple hq
    have hlen := r'.length
    exact len_tuple pl (by simp only [List.size_toArray] <;> omega) ⟨.int ys.length, H, I.tok _, ⟨s.toks + 1, by rw [List.size_toArray, hlen]⟩, q⟩
theorem call_list_of : CallR X (.type "list") (fun xs H Q => ∃ p ys, xs = [.ref p] ∧ (SqL X.K H p ys ∨ SqT X.K H p ys) ∧ ∀ l, H l = none → Q (.ref l) (upd H l (.lst ys))) := by
  intro pins s σ H xs us Q I r h
  obtain ⟨p, ys, rfl, hq, q⟩ := h
  obtain ⟨u, rfl, rx⟩ := vals1 r
  cases rx
  have fin : ∀ (its : List Value), Vals ys its → ys.length ≤ sizeLine → ∀ (h' : Heap) (c' : Nat), (∀ b o', s.heap.get? b = some o' → h'.get? b = some o') →
      h'.get? s.heap.objs.size = some { cls := .type "list", dict := none, data := .seq its.toArray c', slots := #[] } → EP X pins σ Q (.ref s.heap.objs.size) { s with heap := h' } := fun its r' hz h' c' kp e =>
    ⟨.ref s.heap.objs.size, _, I.laid (t' := s.toks) kp (Nat.le_refl _) (show ObjOk X.prog X.w _ h' _ (.lst ys) from ⟨hz, its, c', r', e⟩), rfl, q _ (I.hok.fresh (Nat.le_refl _))⟩
  rcases hq with hq | hq
  · obtain ⟨its, r', pl, hz⟩ := I.list hq
    have hlen := r'.length
    obtain ⟨o, ho, hc, n, hd⟩ := pl.isList
    exact call_list_seq p (.inl rfl) ho hc hd (fun h' c' kp e => fin its r' hz h' c' kp e) (by simp only [List.size_toArray] <;> omega)
  · obtain ⟨its, r', pl, hz⟩ := I.tuple hq
    have hlen := r'.length
    obtain ⟨o, ho, hc, n, hd⟩ := pl
    exact call_list_seq p (.inr rfl) ho hc hd (fun h' c' kp e => fin its r' hz h' c' kp e) (by simp only [List.size_toArray] <;> omega)
theorem call_tuple_of : CallR X (.type "tuple") (fun xs H Q => ∃ p ys, xs = [.ref p] ∧ ((SqL X.K H p ys ∧ ∀ l, H l = none → Q (.ref l) (upd H l (.tup ys))) ∨ (SqT X.K H p ys ∧ Q (.ref p) H))) := by
  intro pins s σ H xs us Q I r h
  obtain ⟨p, ys, rfl, h⟩ := h
  obtain ⟨u, rfl, rx⟩ := vals1 r
  cases rx
  rcases h with ⟨hq, q⟩ | ⟨hq, q⟩
  · obtain ⟨its, r', pl, hz⟩ := I.list hq
    have hlen := r'.length
    refine call_tuple_list pl.isList (fun h' kp => ?_) (by simp only [List.size_toArray] <;> omega)
    have I1 : Inv X pins σ H { s with heap := h' } := I.kept (t' := s.toks) kp
    have I2 : Inv X pins σ (upd H h'.objs.size (.tup ys)) { s with heap := h'.push { cls := .type "tuple", data := .seq its.toArray } } :=
      I1.laid (t' := s.toks) (fun b o e => Heap.get?_push_of_some _ e) (Nat.le_refl _) (show ObjOk X.prog X.w _ _ _ (.tup ys) from ⟨hz, its, r', IsTup.new _ _⟩)
    exact ⟨.ref h'.objs.size, _, I2, rfl, q _ (I1.hok.fresh (Nat.le_refl _))⟩
  · obtain ⟨its, r', pl, hz⟩ := I.tuple hq
    exact call_tuple_same pl ⟨.ref p, H, I, rfl, q⟩

/-! ### the call of a builtin's method: o.m(..) -/
/-- the value is of that builtin type -/
def tyV (K : PySem.W.Frag) (T : String) (x : V) (H : Hp) : Prop := match x with
  | .str _ => T = "str"
  | .int _ => T = "int"
  | .ref p => (T = "list" ∧ ∃ xs, SqL K H p xs) ∨ (T = "tuple" ∧ ∃ o, K.lookup p = some o ∧ o.cls = .type "tuple" ∧ o.dict = none) ∨
      (T = "dict" ∧ ((∃ kvs, H p = some (.dK kvs)) ∨ ∃ kvs, H p = some (.dT kvs))) ∨ (T = "set" ∧ ∃ S n, H p = some (.set S n))
  | _ => False
theorem tyV_is {pins : List (Addr × Obj)} {σ : St} {H : Hp} {s : Shared} {T : String} {x : V} {v : Value} (I : Inv X pins σ H s) (r : RelV x v) (ty : tyV X.K T x H) :
    s.TypeIs v T ∧ ∀ a, v = .ref a → ∃ ob, s.heap.get? a = some ob ∧ ob.dict = none := by
  cases x with
  | str z =>
    obtain ⟨t, rfl⟩ := r
    cases (show T = "str" from ty)
    exact ⟨typeIs_str s z t, fun _ e => nomatch e⟩
  | int i =>
    obtain ⟨t, rfl⟩ := r
    cases (show T = "int" from ty)
    exact ⟨typeIs_int s i t, fun _ e => nomatch e⟩
  | ref p =>
    cases r
    rcases ty with ⟨rfl, xs, hq⟩ | ⟨rfl, o, hk, hc, hd⟩ | ⟨rfl, hk⟩ | ⟨rfl, S, n, hk⟩
    · obtain ⟨its, _, pl, _⟩ := I.list hq
      refine ⟨pl.isList.typeIs, fun a e => ?_⟩
      cases e
      obtain ⟨o, n, e, c, hd, _⟩ := pl
      exact ⟨o, e, hd⟩
    · refine ⟨⟨o, I.kIn p o hk, hc⟩, fun a e => ?_⟩
      cases e
      exact ⟨o, I.kIn _ o hk, hd⟩
    · have z : ∃ o, s.heap.get? p = some o ∧ o.ExactDict := by
        rcases hk with ⟨kvs, hk⟩ | ⟨kvs, hk⟩
        · obtain ⟨_, _, _, _, o, _, _, e, ex, _⟩ := I.hok p _ hk
          exact ⟨o, e, ex⟩
        · obtain ⟨_, _, _, _, o, _, _, e, ex, _⟩ := I.hok p _ hk
          exact ⟨o, e, ex⟩
      obtain ⟨o, e, ex⟩ := z
      refine ⟨⟨o, e, ex.1⟩, fun a e2 => ?_⟩
      cases e2
      exact ⟨o, e, ex.2.1⟩
    · obtain ⟨o, _, _, _, e, ex, _⟩ := I.hok p _ hk
      refine ⟨⟨o, e, ex.1⟩, fun a e2 => ?_⟩
      cases e2
      exact ⟨o, e, ex.2.1⟩
  | _ => exact False.elim ty
def tBM0 (K : PySem.W.Frag) (T : String) (r : V → List V → Hp → VK → Prop) (to : TE) : TE := fun σ H Q => to σ H fun x H1 => tyV K T x H1 ∧ r x [] H1 Q
def tBM (K : PySem.W.Frag) (T : String) (r : V → List V → Hp → VK → Prop) (to : TE) (t : TA) : TE := fun σ H Q => to σ H fun x H1 => tyV K T x H1 ∧ t σ H1 fun xs H2 => r x xs H2 Q
variable {o e : Expr} {es : List Expr} {to : TE} {t : TA} {name : Str} {apos cpos : Pos} {T id : String} {r : V → List V → Hp → VK → Prop}
theorem pe_bm0 (pa : PlainAttrs T) (slot : Slot T name id) (hty : typeOf (.builtin id) = pure (.type "method_descriptor")) (hm : MtR X id r) (ho : PE X o to)
    (hbase : attributeBase o name X.env (eval o X.env) = eval o X.env := by rfl) (hline : (apos.endLine == cpos.line) = true := by rfl) : PE X (.Call (.Attribute o name apos) [] [] cpos) (tBM0 X.K T r to) := by
  intro pins s σ H Q I h
  refine wpAny_Call_method0_late hbase hline (thn (ho pins s σ H _ I h) fun v s1 ⟨x, H1, I1, r1, ty, q1⟩ => ?_)
  obtain ⟨h1, h2⟩ := tyV_is I1 r1 ty
  exact ⟨T, id, pa, slot, hty, h1, h2, Calls.callWith_builtin rfl (PySem.evalArgs_none (hm pins s1 σ H1 x [] v [] Q I1 r1 .nil q1))⟩
theorem pe_bm (pa : PlainAttrs T) (slot : Slot T name id) (hty : typeOf (.builtin id) = pure (.type "method_descriptor")) (hm : MtR X id r) (ho : PE X o to) (ha : PA X (e :: es) t)
    (hbase : attributeBase o name X.env (eval o X.env) = eval o X.env := by rfl)
    (hfew : ((backTo cpos (starEach (e :: es) X.env)).all (fun x => !x.1) && (backToKw cpos (keywordEach [] X.env)).all (fun x => x.1.isSome)
      && decide ((e :: es).length + ([] : List Keyword).length + (if ([] : List Keyword).isEmpty then 0 else 1) < 30)) = true := by rfl)
    (hline : (apos.endLine == cpos.line) = true := by rfl) (hs : starEach (e :: es) X.env = (false, eval e X.env) :: starEach es X.env := by rfl) (hplain : (backTo cpos (starEach es X.env)).any (·.1) = false := by rfl) :
    PE X (.Call (.Attribute o name apos) (e :: es) [] cpos) (tBM X.K T r to t) := by
  intro pins s σ H Q I h
  refine wpAny_Call_method_late hbase hfew hline rfl (thn (ho pins s σ H _ I h) fun v s1 ⟨x, H1, I1, r1, ty, q1⟩ => ?_)
  obtain ⟨h1, h2⟩ := tyV_is I1 r1 ty
  refine ⟨T, id, pa, slot, hty, h1, h2, ?_⟩
  have hA := ha cpos pins s1 σ H1 _ I1 q1
  rw [hs] at hA ⊢
  refine Calls.callWith_builtin (by show (false || (backTo cpos (starEach es X.env)).any (·.1)) = false; rw [hplain] <;> rfl) (Calls.evalArgs_plain ?_)
  exact thn hA fun us s2 ⟨vs, H2, I2, r2, q2⟩ => hm pins s2 σ H2 x vs v us Q I2 r1 r2 q2
/- xs.append(e), list.index on a module's tuple .. are MtR facts of 06m -/
end
end L2

namespace L2
open PySem PySem.Spec PyProof.Rows

def MtM (X : Cx) (id : String) (r : V → List V → Hp → VK → Prop) : Prop :=
  ∀ (pins : List (Addr × Obj)) (s : Shared) (σ : St) (H : Hp) (x : V) (xs : List V) (v : Value) (us : List Value) (Q : VK), Inv X pins σ H s → RelV x v → Vals xs us → r x xs H Q →
    wpAny (model X.prog X.w) X.A (call (.builtin id) (v :: us)) (EP X pins σ Q) X.xe s

/-! ### lists of values -/
theorem Vals.one : ∀ {x : V} {us : List Value}, Vals [x] us → ∃ u, us = [u] ∧ RelV x u
  | _, _, .cons r .nil => ⟨_, rfl, r⟩
theorem Vals.two : ∀ {x y : V} {us : List Value}, Vals [x, y] us → ∃ u v, us = [u, v] ∧ RelV x u ∧ RelV y v
  | _, _, _, .cons r (.cons q .nil) => ⟨_, _, rfl, r, q⟩
theorem Vals.zero : ∀ {us : List Value}, Vals [] us → us = []
  | _, .nil => rfl
theorem Vals.dropLast {xs : List V} {us : List Value} (h : Vals xs us) : Vals xs.dropLast us.dropLast := by
  induction h with
  | nil => exact .nil
  | cons r t ih =>
    cases t with
    | nil => exact .nil
    | cons q t' => exact .cons r ih
theorem Vals.rep {xs : List V} {us : List Value} (h : Vals xs us) : ∀ k : Nat, Vals (List.replicate k xs).flatten (List.replicate k us).flatten
  | 0 => .nil
  | k + 1 => by
    rw [List.replicate_succ, List.replicate_succ, List.flatten_cons, List.flatten_cons]
    exact Vals.append h (Vals.rep h k)
theorem erase_last {α : Type} (l : List α) : l.eraseIdx (l.length - 1) = l.dropLast := by
  induction l with
  | nil => rfl
  | cons a r ih =>
    cases r with
    | nil => rfl
    | cons b r =>
      have e : (a :: b :: r).length - 1 = ((b :: r).length - 1) + 1 := by
        have h1 : (a :: b :: r).length = r.length + 2 := rfl
        have h2 : (b :: r).length = r.length + 1 := rfl
        omega
      rw [e, List.eraseIdx_cons_succ, ih]
      all_goals rfl
theorem foldl_rep (its : List Value) : ∀ (k : Nat) (acc : List Value),
    List.foldl (fun x1 x2 => x1 ++ x2) acc.toArray (List.replicate k its.toArray) = (acc ++ (List.replicate k its).flatten).toArray
  | 0, acc => by simp
  | k + 1, acc => by
    have e : acc.toArray ++ its.toArray = (acc ++ its).toArray := by simp
    have e2 : (acc ++ its) ++ (List.replicate k its).flatten = acc ++ (List.replicate (k + 1) its).flatten := by
      rw [List.replicate_succ, List.flatten_cons, List.append_assoc]
    rw [← e2, ← foldl_rep its k (acc ++ its), ← e, List.replicate_succ, List.foldl_cons]

section
variable {X : Cx} {pins : List (Addr × Obj)} {σ : St} {H : Hp} {s : Shared} {l b : Addr} {xs ys zs : List V}

/-! ### the two steps: a tracked list is rewritten, a new list is laid -/
theorem Inv.lset {its its' : List Value} {n : Nat} {f : Array Value → Array Value} {t' : Nat} (I : Inv X pins σ H s) (hH : H l = some (.lst xs))
    (e : s.heap.get? l = some { cls := .type "list", data := .seq its.toArray n }) (hf : f its.toArray = its'.toArray) (hv : Vals ys its') (hz : ys.length ≤ sizeLine) :
    Inv X pins σ (upd H l (.lst ys)) { s with heap := s.heap.update l (Obj.mapSeq f), toks := t' } := by
  have q := PySem.IsL.update e f
  rw [hf] at q
  refine I.write (x := l) (e := l) (by rw [hH]; exact trivial) (.inl rfl) (fun b' u hb hu => (Heap.get?_update_other s.heap (Obj.mapSeq f) (Ne.symm hb)).trans hu) ⟨_, q⟩ ?_
  exact ⟨hz, its', _, hv, q⟩
theorem Inv.lnew {its : List Value} {t' : Nat} (I : Inv X pins σ H s) (hv : Vals ys its) (hz : ys.length ≤ sizeLine) :
    Inv X pins σ (upd H s.heap.objs.size (.lst ys)) { s with heap := s.heap.push { cls := .type "list", data := .seq its.toArray }, toks := t' } :=
  I.laid (fun _ _ q => Heap.get?_push_of_some _ q) (Nat.le_refl _) ⟨hz, its, 0, hv, Heap.get?_push_size _ rfl⟩
theorem Inv.fresh (I : Inv X pins σ H s) : H s.heap.objs.size = none := I.hok.fresh (Nat.le_refl _)
theorem Inv.lstM (I : Inv X pins σ H s) (hH : H l = some (.lst xs)) : xs.length ≤ sizeLine ∧ ∃ (its : List Value) (n : Nat), Vals xs its ∧ xs.length = its.length ∧ s.heap.get? l = some { cls := .type "list", data := .seq its.toArray n } := by
  obtain ⟨z, its, n, r, e⟩ := I.hok l _ hH
  exact ⟨z, its, n, r, r.length, e⟩

theorem notLongL {n : Nat} (h : n ≤ sizeLine) : Builtin.List.listTooLong n = false := by
  unfold Builtin.List.listTooLong
  exact decide_eq_false (by omega)
end

section
variable {X : Cx}

/-! ### methods -/
def rAppend : V → List V → Hp → VK → Prop := fun x vs H Q => ∃ l xs y, x = .ref l ∧ vs = [y] ∧ H l = some (.lst xs) ∧ xs.length < sizeLine ∧ Q .non (upd H l (.lst (xs ++ [y])))
theorem mt_append : MtM X "list.append" rAppend := by
  intro pins s σ H x vs v us Q I rx rv h
  obtain ⟨l, xs, y, rfl, rfl, hH, hz, q⟩ := h
  cases rx
  obtain ⟨u, rfl, ru⟩ := rv.one
  obtain ⟨z, its, n, r, hl, e⟩ := I.lstM hH
  refine call_meets F.slot_list_append ⟨_, e, rfl⟩ F.entry_list_append (F.args_list_append_2 _ _) (PySem.list_append l its.toArray n u (by rw [List.size_toArray]; omega)) ⟨e, ?_⟩
  refine ⟨.non, _, I.lset (its' := its ++ [u]) hH e (by simp) (r.append (.cons ru .nil)) ?_, rfl, q⟩
  rw [List.length_append, List.length_singleton]
  omega

def rExtend : V → List V → Hp → VK → Prop := fun x vs H Q => ∃ l b xs zs, x = .ref l ∧ vs = [.ref b] ∧ H l = some (.lst xs) ∧ H b = some (.lst zs) ∧ xs.length + zs.length ≤ sizeLine ∧ Q .non (upd H l (.lst (xs ++ zs)))
theorem mt_extend : MtM X "list.extend" rExtend := by
  intro pins s σ H x vs v us Q I rx rv h
  obtain ⟨l, b, xs, zs, rfl, rfl, hH, hB, hz, q⟩ := h
  cases rx
  obtain ⟨u, rfl, ru⟩ := rv.one
  cases ru
  obtain ⟨z, its, n, r, hl, e⟩ := I.lstM hH
  obtain ⟨z2, its2, n2, r2, hl2, e2⟩ := I.lstM hB
  have hsz : its.toArray.size + its2.toArray.size ≤ sizeLine := by rw [List.size_toArray, List.size_toArray]; omega
  have hlong : ¬ (!its.toArray.isEmpty && Builtin.List.listTooLong (its.toArray.size + its2.toArray.size)) = true := by
    rw [notLongL hsz, Bool.and_false]
    exact Bool.false_ne_true
  refine call_meets F.slot_list_extend ⟨_, e, rfl⟩ F.entry_list_extend (F.args_list_extend_2 _ _)
    (AutoSeq1.list_extend_list_list_0 l its.toArray n b its2.toArray n2 hlong (by rw [List.size_toArray]; omega) (by omega)) ⟨e, e2, ?_⟩
  refine ⟨.non, _, I.lset (its' := its ++ its2) hH e (by simp) (r.append r2) ?_, rfl, q⟩
  rw [List.length_append]
  omega

def rPop : V → List V → Hp → VK → Prop := fun x vs H Q => ∃ l xs y, x = .ref l ∧ vs = [] ∧ H l = some (.lst xs) ∧ xs[xs.length - 1]? = some y ∧ Q y (upd H l (.lst xs.dropLast))
theorem mt_pop : MtM X "list.pop" rPop := by
  intro pins s σ H x vs v us Q I rx rv h
  obtain ⟨l, xs, y, rfl, rfl, hH, hy, q⟩ := h
  cases rx
  have hus := rv.zero
  subst hus
  obtain ⟨z, its, n, r, hl, e⟩ := I.lstM hH
  obtain ⟨u, hu, ru⟩ := r.get hy
  have hy' : its.toArray[its.toArray.size - 1]? = some u := by
    show its.toArray[its.length - 1]? = some u
    rw [← Array.getElem?_toList, ← hl]
    exact hu
  refine call_meets F.slot_list_pop ⟨_, e, rfl⟩ F.entry_list_pop (F.args_list_pop_1 _) (MeetsSeq.list_pop_last l its.toArray n u hy' (by rw [List.size_toArray]; omega)) ⟨e, ?_⟩
  refine ⟨y, _, I.lset (its' := its.dropLast) hH e ?_ r.dropLast ?_, ru, q⟩
  · show its.toArray.eraseIdxIfInBounds (its.toArray.size - 1) = its.dropLast.toArray
    rw [List.size_toArray, List.eraseIdxIfInBounds_toArray, erase_last]
  · rw [List.length_dropLast]
    omega

def rPopAt : V → List V → Hp → VK → Prop := fun x vs H Q => ∃ l xs i k y, x = .ref l ∧ vs = [.int i] ∧ H l = some (.lst xs) ∧ -(2 ^ 63) ≤ i ∧ i < 2 ^ 63 ∧ seqIndex? i xs.length = some k ∧ xs[k]? = some y ∧ Q y (upd H l (.lst (xs.eraseIdx k)))
def rReverse : V → List V → Hp → VK → Prop := fun x vs H Q => ∃ l xs, x = .ref l ∧ vs = [] ∧ H l = some (.lst xs) ∧ Q .non (upd H l (.lst xs.reverse))
def rClear : V → List V → Hp → VK → Prop := fun x vs H Q => ∃ l xs, x = .ref l ∧ vs = [] ∧ H l = some (.lst xs) ∧ Q .non (upd H l (.lst []))
/-! ### list + list, list += list, list * int -/
def rCat : R2 := fun x y H Q => ∃ l b xs zs, x = .ref l ∧ y = .ref b ∧ H l = some (.lst xs) ∧ H b = some (.lst zs) ∧ xs.length + zs.length ≤ sizeLine ∧ ∀ p, H p = none → Q (.ref p) (upd H p (.lst (xs ++ zs)))
theorem op_cat : OpR X (binaryOp .Add) rCat := by
  intro pins s σ H x y v u Q I rx ry h
  obtain ⟨l, b, xs, zs, rfl, rfl, hH, hB, hz, q⟩ := h
  cases rx
  cases ry
  obtain ⟨z, its, n, r, hl, e⟩ := I.lstM hH
  obtain ⟨z2, its2, n2, r2, hl2, e2⟩ := I.lstM hB
  refine PySem.P.add_list e e2 ?_ (by rw [List.size_toArray, List.size_toArray]; omega)
  have ea : its.toArray ++ its2.toArray = (its ++ its2).toArray := by simp
  rw [ea]
  exact ⟨.ref _, _, I.lnew (t' := s.toks) (r.append r2) (by rw [List.length_append]; omega), rfl, q _ I.fresh⟩
/-- a list times an int (a negative one is nothing) -/
def rRep : R2 := fun x y H Q => ∃ l k xs, x = .ref l ∧ y = .int k ∧ H l = some (.lst xs) ∧ -(2 ^ 63) ≤ k ∧ k < 2 ^ 63 ∧ xs.length * k.toNat ≤ sizeLine ∧
  ∀ p, H p = none → Q (.ref p) (upd H p (.lst (List.replicate k.toNat xs).flatten))
theorem len_rep {α : Type} (xs : List α) (k : Nat) : (List.replicate k xs).flatten.length = k * xs.length := by
  induction k with
  | zero => simp
  | succ k ih => rw [List.replicate_succ, List.flatten_cons, List.length_append, ih, Nat.succ_mul, Nat.add_comm]
theorem op_rep : OpR X (binaryOp .Mult) rRep := by
  intro pins s σ H x y v u Q I rx ry h
  obtain ⟨l, k, xs, rfl, rfl, hH, h1, h2, hz, q⟩ := h
  cases rx
  obtain ⟨t, rfl⟩ := ry
  obtain ⟨z, its, n, r, hl, e⟩ := I.lstM hH
  have hlen : its.toArray.size * k.toNat ≤ sizeLine := by rw [List.size_toArray, ← hl]; exact hz
  have hcap : ¬ its.toArray.size * k.toNat > (2 ^ 63 - 1) / 8 := by
    have : (sizeLine : Nat) ≤ (2 ^ 63 - 1) / 8 := by decide
    omega
  have hfit : ¬ (!Builtin.List.listFitsIndex k) = true := by
    rw [fitsIndex_both h1 h2]
    exact Bool.false_ne_true
  have hlong : ¬ Builtin.List.listTooLong (its.toArray.size * k.toNat) = true := by
    rw [notLongL hlen]
    exact Bool.false_ne_true
  have hnew : List.foldl (fun x1 x2 => x1 ++ x2) #[] (List.replicate (if its.toArray.isEmpty = true then 0 else k.toNat) its.toArray) = (List.replicate k.toNat its).flatten.toArray := by
    have f0 : ∀ m : Nat, List.foldl (fun x1 x2 => x1 ++ x2) #[] (List.replicate m its.toArray) = (List.replicate m its).flatten.toArray := fun m => by
      have := foldl_rep its m []
      rw [List.nil_append] at this
      exact this
    rw [f0]
    cases its with
    | nil => simp
    | cons a r' => rw [if_neg (by simp)]
  refine wpAny_binaryOp_repeat_ref (T := "list") (U := "int") (by decide) ⟨_, e, rfl⟩ (fun s' => typeIs_int s' k t) noFill_list_mul F.fills_int_mul F.slot_int_rmul repeat_list F.slot_int_index.lookup
    (call_meets F.slot_int_rmul (typeIs_int s k t) F.entry_int_rmul (F.args_int_rmul_2 _ _) (int___rmul___int_list k t l its.toArray n)
      ⟨e, rfl, ⟨_, e, rfl⟩, call_meets F.slot_list_mul ⟨_, e, rfl⟩ F.entry_list_mul (F.args_list_mul_2 _ _) (AutoListH.list___mul___list_int_3 l its.toArray n k t hfit hcap hlong) ⟨e, ?_⟩⟩)
  rw [hnew]
  exact ⟨.ref _, _, I.lnew (t' := s.toks) (r.rep k.toNat) (by rw [len_rep, Nat.mul_comm]; exact hz), rfl, q _ I.fresh⟩

/-! ### del xs[i] -/
end

/-! ### xs[a:b] = ys -/
section
variable {prog : Program} {w : World} {A : Around} {E : Value → Shared → Prop} {s : Shared}
end

section
variable {X : Cx}
end
end L2

namespace Att
open PySem PySem.W PySem.Calls PyProof.Rows

/-! ### the script -/
theorem ints_of_wellAll {P : Params} {h : Heap} : ∀ (ns : List Int) (vs : List Value), WellAll P h vs (ns.map WData.int) → IntsAre vs ns := by
  intro ns
  induction ns with
  | nil =>
    intro vs w
    rw [List.map_nil] at w
    cases w
    exact .nil
  | cons n ns ih =>
    intro vs w
    rw [List.map_cons] at w
    cases w with
    | cons a b =>
      cases a
      exact .cons _ _ (ih _ b)

theorem script_of {l : OpenLaw} {n : Nat} (hn : l.most = some n) {P : Params} {h : Heap} {args : List WData} {vals : List Value}
    (hpre : l.row.toRowW.claim.pre args = true) (hwl : WellAll P h vals args) :
    ∃ a vs ns, vals = [Value.ref a] ∧ args = [WData.list (ns.map WData.int)] ∧ h.get? a = some { cls := .type "list", data := .seq vs.toArray } ∧ IntsAre vs ns ∧ ns.length ≤ n := by
  have hsh : WShape.hasAll [] args [.list .int] = true := (pre_splitW hpre).1
  have hc : l.pre.holds [] { args := args } = true := (pre_splitW hpre).2
  obtain ⟨d, r, rfl, h1, h2⟩ := hasAllW_cons hsh
  obtain rfl := hasAllW_nil h2
  obtain ⟨xs, rfl, h3⟩ := hasW_list h1
  obtain ⟨ns, rfl⟩ := items_int h3
  have hlen : ns.length ≤ n := by
    unfold OpenLaw.pre at hc
    have h4 : (WTm.not (.lt (.lit (.int (n : Int))) (.len (.arg 0)))).holds [] { args := [.list (ns.map .int)] } = true := by
      have h4 := (holds_andW hc).1
      rw [hn] at h4
      exact h4
    have h5 := condW_of h4 (w_not (w_lt w_lit (w_len_list (w_arg rfl))))
    rw [List.length_map] at h5
    refine Nat.le_of_not_lt fun q => ?_
    have q' : (n : Int) < ((ns.length : Nat) : Int) := by omega
    first
      | (rw [decide_eq_true q'] at h5; exact absurd h5 (by decide))
      | (simp at h5; omega)
  cases hwl with
  | cons w1 w2 =>
    cases w2
    cases w1 with
    | list ho hall => exact ⟨_, _, ns, rfl, rfl, ho, ints_of_wellAll ns _ hall, hlen⟩

theorem post_true (l : OpenLaw) (args : List WData) : l.row.toRowW.claim.post args (.bool true) args = true :=
  postW_of (r := l.row.toRowW) (X := (true == true))
    (show WShape.has [] (.bool true) .bool = true by first | rfl | decide | simp [WShape.has, WShape.arms, WShape.armsAll])
    (show (WTm.eq .res (.lit (.bool true))).value [] { args := args, res := some (.bool true), after := args } = some (.bool (true == true)) from w_eq_bool (w_res rfl) w_lit) rfl

/-! ### the attachment: holds_open's last premise (the goal 'hc' behind k_head) from a wpAny of the law's body -/
/-- the same from a codeAny of the CALL (for a layer whose function contracts speak of calls) -/
theorem attach_call {l : OpenLaw} {n : Nat} {q : Program} {loose : List Str} {XP : (Str → Option Value) → Heap → Prop} {YP : World → Heap → Prop} {d : DefRec}
    (hn : l.most = some n) (hdf : d.params.defaults = [])
    (call : ∀ (w : World) (s₀ s₁ : Shared) (mg mb : Str → Option Value) (fa : Addr) (o : Obj) (pm cd doc : Value) (a : Addr) (vs : List Value) (ns : List Int),
      Ground q loose [] XP w s₀ mg mb s₁.heap → YP w s₁.heap →
      s₁.heap.get? fa = some o → o.data = .func (docDef d.name d.params d.body d.scope pm cd doc) → s₁.heap.CodeRec cd d.name → mg d.name = some (.ref fa) →
      s₁.heap.get? a = some { cls := .type "list", data := .seq vs.toArray } → IntsAre vs ns → ns.length ≤ n → s₁.gens = #[] →
      codeAny (model l.prog w) callerA (.call (.ref fa) ⟨[.ref a], []⟩) (fun r s' => r = .ok (.ret (.bool true)) ∧ OldK s₁.heap s'.heap ∧ s'.os = s₁.os ∧ AllBare s'.gens) s₁) :
    WalkO q loose XP YP l.row.toRowW d [] (fun f vs => PySem.call f vs) := by
  intro w s₀ s₁ mg mb G Y fa o pm cd doc dV kV ho hd hcd hD hmg hg args vals as hpre hlay hrd hwl hlo
  obtain rfl : dV = .none := Dflts.none hD hdf
  obtain rfl : kV = .none := Dflts.noKw hD
  obtain ⟨a, vs, ns, rfl, rfl, hobj, hints, hlen⟩ := script_of hn hpre hwl
  refine enter_call (codeAny_mono (call w s₀ s₁ mg mb fa o pm cd doc a vs ns G Y ho (fd_plain hd) hcd hmg hobj hints hlen hg) fun r s' hq => ?_)
  obtain ⟨rfl, h2, h3, h4⟩ := hq
  exact ⟨.inl ⟨.bool true, .bool true, [], rfl, fun _ => rfl, .bool true, post_true l _, fun _ => ⟨List.Pairwise.nil, fun _ hm => (nomatch hm)⟩⟩, h2, h3, h4⟩

/-! ### rules over ANY heap (no ledger) from facts about the written part K: the library's own take a ledger (News) for what they write -/
section
variable {prog : Program} {w : World} {A : Around} {E : Value → Shared → Prop} {s : Shared} {K : Frag}

/-! the whole heap as the ledger: makes every rule that writes through a ledger a rule over any heap -/
def noObjs (h : Heap) : Heap := { h with objs := #[] }
def ledger (h : Heap) (L d : Addr) : List (Addr × Obj) := (List.range h.objs.size).filterMap fun a => if a = L ∨ a = d then none else (h.get? a).map fun o => (a, o)
end
end Att

namespace L2
open PySem PySem.Spec PyProof.Rows

theorem vals_ints : ∀ {vs : List Value} {ns : List Int}, IntsAre vs ns → Vals (ns.map V.int) vs
  | _, _, .nil => .nil
  | _, _, .cons n t h => .cons ⟨t, rfl⟩ (vals_ints h)

/-- nothing is tracked but the script, known to the object (or it is an object of the module) -/
def Only (H : Hp) : Prop := ∀ b, H b = none ∨ ∃ o xs, H b = some (.frz o (.lst xs))

/-- THE HEAD: the law's promise, at the heap behind the top. F, the promise of the law's def, may use that base is part of the heap (so K.In base, base.Ns mainGlobals mg stand in Mod) -/
theorem law_call {P : Program} {w : World} {K : PySem.W.Frag} {mg mb : Str → Option Value} {CX : CXT} {k : Nat} {fa a : Addr} {fd : FuncData} {x : Str} {sp : Sp} {s₁ : Shared} {vs : List Value} {ns : List Int}
    (KX : K.In s₁.heap) (hns : s₁.heap.Ns mainGlobals mg) (hb : s₁.heap.Ns builtinsNs mb) (hbb : ∀ x : Str, x ≠ "__name__" → mb x = bootBuiltins x) (hlim : s₁.heap.NoLimit) (hg : s₁.gens = #[])
    (ha : s₁.heap.get? a = some { cls := .type "list", data := .seq vs.toArray }) (hi : IntsAre vs ns) (hl : ns.length ≤ sizeLine) (hr : Room k callerA)
    (F : ∀ base : Heap, K.In base → base.Ns mainGlobals mg → FnOk P w K mg base CX k fa fd [x] sp) (hbind : ∀ (s : Shared) (u : Value), BindsTo s fd ⟨[u], []⟩ [(x, u)])
    (hsp : ∀ H : Hp, Only H → SqL K H a (ns.map V.int) → sp [.ref a] H (fun v _ => v = .bl true) fun _ _ _ => False)
    (hCX : ∀ H e s', CX [] H s₁ (fun _ _ _ => False) e s' → False) :
    codeAny (model P w) callerA (.call (.ref fa) ⟨[.ref a], []⟩) (fun r s' => r = .ok (.ret (.bool true)) ∧ OldK s₁.heap s'.heap ∧ s'.os = s₁.os ∧ AllBare s'.gens) s₁ := by
  have rv := vals_ints hi
  have lenV := hi.length
  -- from an abstract heap in which nothing but the script may be tracked
  have core : ∀ H : Hp, Only H → SqL K H a (ns.map V.int) → HOk P w H s₁.heap → (∀ b, H b ≠ none → b = a) → (H a ≠ none → K.lookup a = none) →
      codeAny (model P w) callerA (.call (.ref fa) ⟨[.ref a], []⟩) (fun r s' => r = .ok (.ret (.bool true)) ∧ OldK s₁.heap s'.heap ∧ s'.os = s₁.os ∧ AllBare s'.gens) s₁ := by
    intro H hO hS hok hA hK
    have base_of : ∀ {b : Addr} {o : Obj}, s₁.heap.get? b = some o → H b = none → (hidT s₁.heap H).get? b = some o := fun e n => hidT_get e n
    have noA : ∀ {b : Addr} {o : Obj} {es : Array DictEntry} {ep : Nat}, s₁.heap.get? b = some o → o.data = .dict es ep → H b = none := fun {b o es ep} e d => by
      cases q : H b with
      | none => rfl
      | some u =>
        have e' : b = a := hA b (by rw [q]; simp)
        subst e'
        rw [ha] at e; cases e
        have d' : Data.seq vs.toArray _ = Data.dict es ep := d
        cases d'
    have nsK : ∀ {b : Addr} {m : Str → Option Value}, s₁.heap.Ns b m → (hidT s₁.heap H).Ns b m := fun {b m} ⟨o, es, ep, e, d, r⟩ => ⟨o, es, ep, base_of e (noA e d), d, r⟩
    have hKb : K.In (hidT s₁.heap H) := fun b o e => base_of (KX b o e) (by
      cases q : H b with
      | none => rfl
      | some u =>
        have e' : b = a := hA b (by rw [q]; simp)
        subst e'
        rw [hK (by rw [q]; simp)] at e; cases e)
    have hM : Mod K mg (hidT s₁.heap H) := ⟨hKb, nsK hns, ⟨mb, nsK hb, hbb⟩, let ⟨mc, h1, h2⟩ := hlim; ⟨mc, nsK h1, h2⟩⟩
    have e0 : Env0 P w K mg (hidT s₁.heap H) callerA [] s₁ H := ⟨rfl, hM, fun b o e => of_hidT e, Nat.le_of_eq (hidT_size _ _), trivial, fun b hb => absurd (show b ∈ ([] : List Addr) from hb) (by simp), hok, .of_eq hg⟩
    refine codeAny_mono ((F _ hKb (nsK hns)).run callerA [] s₁ H ⟨[.ref a], []⟩ [.ref a] [.ref a] _ _ hr e0 (hbind s₁ (.ref a)) (.cons rfl .nil) (hsp H hO hS)) fun r s' h => ?_
    cases r with
    | error e => exact (hCX H e s' h).elim
    | ok fl =>
      cases fl with
      | next => exact False.elim h
      | brk => exact False.elim h
      | cont => exact False.elim h
      | ret u =>
        obtain ⟨v, H', os, bare, un, hok', r', q⟩ := h
        have q' : v = .bl true := q
        subst q'
        obtain rfl : u = Value.bool true := r'
        refine ⟨rfl, OldK.of_keep fun b o e => ?_, os, bare⟩
        cases q : H b with
        | none => exact un.keep b o e q (by intro z; exact absurd (show b ∈ ([] : List Addr) from z) (by simp)) (by simp)
        | some u =>
          rcases hO b with z | ⟨ob, xs, z⟩
          · rw [q] at z; cases z
          · have z2 := un.frzs b ob _ z
            obtain ⟨e1, _⟩ := hok b _ z
            obtain ⟨e2, _⟩ := hok' b _ z2
            rw [e] at e1; cases e1
            exact e2
  cases hk : K.lookup a with
  | some o =>
    -- the script is one of the module's own objects
    have e := KX a o hk
    rw [ha] at e
    cases e
    refine core (fun _ => none) (fun _ => .inl rfl) (.inr ⟨_, vs.toArray, _, hk, rfl, rfl, rfl, by rw [List.size_toArray, lenV]; exact hl, by simpa using rv⟩) (fun b u z => by have z' : (none : Option HO) = some u := z; cases z') (fun b z => absurd rfl z) fun z => absurd rfl z
  | none =>
    refine core (fun b => if b = a then some (.frz { cls := .type "list", data := .seq vs.toArray } (.lst (ns.map V.int))) else none) (fun b => ?_) (.inl (.inr ⟨{ cls := .type "list", data := .seq vs.toArray }, if_pos rfl⟩)) (fun b u z => ?_) (fun b z => ?_) fun _ => hk
    · by_cases hb : b = a
      · exact .inr ⟨_, _, if_pos hb⟩
      · exact .inl (if_neg hb)
    · by_cases hb : b = a
      · have z' := (if_pos hb).symm.trans z
        cases z'
        subst hb
        exact ⟨ha, by rw [List.length_map]; exact hl, vs, _, rv, ha⟩
      · have z' := (if_neg hb).symm.trans z
        cases z'
    · by_cases hb : b = a
      · exact hb
      · exact absurd (if_neg hb) z
end L2

namespace L2
open PySem PySem.Spec PyProof.Rows

abbrev KOf {K : PySem.W.Frag} {h : Heap} (_ : K.In h) : PySem.W.Frag := K

/-- the goal that k_head leaves (case hc), from the law's promise. F gives the function object fd (K's own) once, then the promise over every base -/
theorem walk_of {l : PySem.W.OpenLaw} {n k : Nat} {q : Program} {loose : List Str} {XP : (Str → Option Value) → Heap → Prop} {YP : World → Heap → Prop} {d : DefRec} {K : Params → PySem.W.Frag} {CX : World → CXT} {sp : World → Sp} {x : Str}
    (hn : l.most = some n) (hn2 : n ≤ sizeLine) (hdf : d.params.defaults = []) (hr : Room k callerA)
    (hY : ∀ (w : World) (h : Heap), YP w h → (K w.params).In h)
    (F : ∀ (w : World) (mg : Str → Option Value) (fa : Addr) (h : Heap), (K w.params).In h → h.Ns mainGlobals mg → mg d.name = some (.ref fa) →
      ∃ fd : FuncData, (∀ (s : Shared) (u : Value), BindsTo s fd ⟨[u], []⟩ [(x, u)]) ∧
        ∀ base : Heap, (K w.params).In base → base.Ns mainGlobals mg → FnOk l.prog w (K w.params) mg base (CX w) k fa fd [x] (sp w))
    (hsp : ∀ (w : World) (H : Hp) (a : Addr) (ns : List Int), ns.length ≤ n → Only H → SqL (K w.params) H a (ns.map V.int) → sp w [.ref a] H (fun v _ => v = .bl true) fun _ _ _ => False)
    (hCX : ∀ (w : World) (H : Hp) (s : Shared) (e : Value) (s' : Shared), CX w [] H s (fun _ _ _ => False) e s' → False) :
    PySem.W.WalkO q loose XP YP l.row.toRowW d [] (fun f vs => PySem.call f vs) := by
  refine Att.attach_call hn hdf fun w s₀ s₁ mg mb fa o pm cd doc a vs ns G Y ho hd hcd hmg hobj hints hlen hg => ?_
  have KX := hY w _ Y
  obtain ⟨fd, hb, hF⟩ := F w mg fa _ KX G.T.g hmg
  exact law_call KX G.T.g G.T.b G.T.builtins G.T.nolimit hg hobj hints (Nat.le_trans hlen hn2) hr hF hb (fun H hO hS => hsp w H a ns hlen hO hS) fun H e s' => hCX w H s₁ e s'
end L2

/- THE LAST THEOREM (shape; LID, My.* are yours):
   My.Adr: a structure of the addresses that your layer names (classes, functions); My.Txt K t: a structure (Prop) of the equations over K;
   My.txt_mk : {K} {implicit addresses ..} (e1 : nsIn K mainGlobals "law" = some (some (.ref f))) (e2 : K.lookup f = some ⟨oc, od, .func (fnOf "law" "law" params body scope dV kV doc pm an cdv ct), sl⟩) (e3 : codeIn K cdv "law" = true) .. : ∃ t, My.Txt K t

set_option maxRecDepth 100000 in
set_option maxHeartbeats 0 in
theorem PySem.Challenge.cw_LID_holds : PySem.Challenge.rw_LID.Holds := by
  w_on; o_law; k_head; (case hw => w_witness2)
  k_fill
  refine L2.walk_of (l := PySem.Challenge.rw_LID) (n := 63) (k := 40) (x := "script") (CX := fun w => ..) (sp := fun _ => My.sp_law) rfl (by decide) rfl ⟨rfl, by decide, by decide⟩ (fun w h Y => PySem.W.kIn_of Y) ?F ?S ?C
  case F =>
    intro w mg fa h KX G hmg
    have T : ∃ t, My.Txt (L2.KOf KX) t := by
      dsimp only [L2.KOf]                          -- K must stand as «<heap const> w.params» for k_is
      refine' My.txt_mk ?e1 ?e2 ?e3 ..
      (case e1 => PySem.W.k_is)                    -- in the order: a name -> its address -> its object -> its parts
      (case e2 => PySem.W.k_is)
      ..
    obtain ⟨t, T⟩ := T
    have e0 := hmg.symm.trans (PySem.W.mg_of KX G T.law)
    cases e0                                       -- fa is the law's own address
    exact ⟨_, fun s u => .of_eq rfl, fun base kb nb => My.law_fn T kb nb⟩     -- if «.of_eq rfl» comes too early: refine' ⟨_, ?b, fun base kb nb => My.law_fn T kb nb⟩; exact fun s u => .of_eq rfl
  case S => exact fun w H a ns hl hO hS => ..
  case C => exact ..
(the tactic k_is has no namespace: write k_is) -/

/-! SHORT WORDS over the layer: a def of the text, its body, what a loop and a test want. -/
namespace L2
open PySem PySem.Spec PyProof.Rows

/-! ### the text by places -/
/-- the j-th statement of a class's body -/
def inClass (s : Stmt) (j : Nat) : Stmt := match s with
  | .ClassDef _ _ _ body _ _ _ _ _ _ _ => body.getD j (.Pass ⟨0, 0, 0, 0⟩)
  | _ => .Pass ⟨0, 0, 0, 0⟩
def defArgs (s : Stmt) : Arguments := match s with
  | .FunctionDef _ a _ _ _ _ _ _ _ _ => a
  | _ => { posonlyargs := [], args := [], vararg := none, kwonlyargs := [], kw_defaults := [], kwarg := none, defaults := [] }
def defBody (s : Stmt) : List Stmt := match s with
  | .FunctionDef _ _ b _ _ _ _ _ _ _ => b
  | _ => []
def defScope (s : Stmt) : Scope := match s with
  | .FunctionDef _ _ _ _ _ _ sc _ _ _ => sc
  | _ => { kind := .function, names := [], isGenerator := false, isCoroutine := false }

/-! ### no exception leaves a def -/
abbrev CX0 : CXT := fun _ _ _ _ _ _ => False
abbrev E0 : XK := fun _ _ _ => False
theorem pass0 {X : Cx} : Passes CX0 X E0 := fun _ _ _ _ _ _ _ h => h.elim

/-! ### a def (or method) of the text as it stands behind the top -/
structure Fun (K : PySem.W.Frag) (x qual : Str) (st : Stmt) (f : Addr) (fd : FuncData) : Prop where
  ex : ∃ (oc : Value) (od : Option Addr) (kV doc pm : Value) (an : Option Addr) (cdv ct : Value) (osl : Array (Option Value)),
    fd = PySem.W.fnOf x qual (defArgs st) (defBody st) (defScope st) .none kV doc pm an cdv ct ∧ K.lookup f = some ⟨oc, od, .func fd, osl⟩ ∧ PySem.W.codeIn K cdv qual = true
  kp : PySem.W.keepIn K (.ref f) = true
section
variable {P : Program} {w : World} {K : PySem.W.Frag} {mg : Str → Option Value} {base : Heap}
/-- THE RULE for a def: its body as a term of rules, and the reading of that term -/
theorem Fun.ok {x qual : Str} {st : Stmt} {f : Addr} {fd : FuncData} {N ps : List Str} {k : Nat} {sp : Sp} (F : Fun K x qual st f fd) (S : FnScope N ps (defScope st)) (len : ∀ vs H Q E, sp vs H Q E → vs.length = ps.length)
    (hbody : ∀ (cdv : Value) (A : Around) (outer : List Env) (s : Shared) (H : Hp) (vs : List V) (Q : VK) (E : XK), Room k (A.deeper (envOfC qual (defScope st) s.heap.objs.size f cdv)) → sp vs H Q E →
      ∃ t, PSs (cxOf CX0 P w K mg base N qual (defScope st) f cdv A outer s H E).nox (defBody st) t ∧ t { nx := fun _ H' => Q .non H', rt := Q } (start N vs) H) : FnOk P w K mg base CX0 (k + 1) f fd ps sp := by
  obtain ⟨oc, od, kV, doc, pm, an, cdv, ct, osl, rfl, lk, hcd⟩ := F.ex
  refine fn_of lk hcd S len fun A outer s H vs Q E hr hsp => ?_
  obtain ⟨t, h, q⟩ := hbody cdv A outer s H vs Q E hr hsp
  exact ⟨t, h.nox, q⟩
/-- how its arguments bind (no defaults): h is «fun _ _ _ _ _ _ us hl => match us, hl with | [_, _], _ => rfl», one _ a parameter -/
theorem Fun.binds {x qual : Str} {st : Stmt} {f : Addr} {fd : FuncData} {ps : List Str} (F : Fun K x qual st f fd)
    (h : ∀ (kV doc pm : Value) (an : Option Addr) (cdv ct : Value) (us : List Value), us.length = ps.length → bindArgs (PySem.W.fnOf x qual (defArgs st) (defBody st) (defScope st) .none kV doc pm an cdv ct) ⟨us, []⟩ = pure (ps.zip us)) : Binds K fd ps [] := by
  obtain ⟨oc, od, kV, doc, pm, an, cdv, ct, osl, rfl, lk, hcd⟩ := F.ex
  exact .all (h kV doc pm an cdv ct)
theorem fun_mk {x qual : Str} {st : Stmt} {f : Addr} {oc : Value} {od an : Option Addr} {osl : Array (Option Value)} {kV doc pm cdv ct : Value} (l : K.lookup f = some ⟨oc, od, .func (PySem.W.fnOf x qual (defArgs st) (defBody st) (defScope st) .none kV doc pm an cdv ct), osl⟩)
    (c : PySem.W.codeIn K cdv qual = true) (k : PySem.W.keepIn K (.ref f) = true) : Fun K x qual st f (PySem.W.fnOf x qual (defArgs st) (defBody st) (defScope st) .none kV doc pm an cdv ct) := ⟨⟨oc, od, kV, doc, pm, an, cdv, ct, osl, rfl, l, c⟩, k⟩
end
theorem small1000 {n : Nat} (h : n ≤ 1000) : n < sizeLine := Nat.lt_of_le_of_lt h (by decide)

/-! ### expressions in short: the name that stands in the i-th slot -/
section
variable {X : Cx}
theorem pv (i : Nat) {x : Str} {pos : Pos} (hN : X.N[i]? = some x := by rfl) (hv : Vis X.env.scope x := by first | exact Or.inl rfl | exact Or.inr (Or.inl rfl) | exact Or.inr (Or.inr rfl)) (hd : (x == ("__debug__" : Str)) = false := by decide)
    (hcd : (x == ("__classdict__" : Str)) = false := by decide) : PE X (.Name x pos) (tVar i) := pe_var hN hv hd hcd
end

/-! ### tests -/
theorem iteF {A B : Prop} (h : B) : if false = true then A else B := by
  rw [if_neg Bool.false_ne_true]
  exact h
theorem iteT {A B : Prop} (h : A) : if true = true then A else B := by
  rw [if_pos rfl]
  exact h
theorem ite2 {c A B : Prop} [Decidable c] (h1 : c → A) (h2 : ¬ c → B) : if c then A else B := by
  by_cases h : c
  · rw [if_pos h]
    exact h1 h
  · rw [if_neg h]
    exact h2 h
/-! ### heaps -/
/-- all that was tracked is as it was -/
def Same (H H' : Hp) : Prop := ∀ b o, H b = some o → H' b = some o
theorem Same.refl (H : Hp) : Same H H := fun _ _ h => h
theorem Same.trans {H H1 H2 : Hp} (a : Same H H1) (b : Same H1 H2) : Same H H2 := fun c o h => b c o (a c o h)
theorem Same.free {H H' : Hp} (e : Same H H') {l : Addr} (h : H' l = Option.none) : H l = Option.none := by
  cases q : H l with
  | none => rfl
  | some o =>
    rw [e l o q] at h
    cases h
theorem Same.seq {K : PySem.W.Frag} {H H' : Hp} {a : Addr} {xs : List V} (e : Same H H') (h : SqL K H a xs) : SqL K H' a xs := by
  rcases h with (h | ⟨o, h⟩) | h
  · exact .inl (.inl (e _ _ h))
  · exact .inl (.inr ⟨o, e _ _ h⟩)
  · exact .inr h

end L2
set_option Elab.async false
set_option linter.all false
set_option maxRecDepth 100000
set_option maxHeartbeats 4000000
namespace L2
open PySem PySem.Spec PyProof.Rows

/-! ### a comprehension's block -/
def Cx.comp (X : Cx) (N' : List Str) (scope : Scope) (cl : List (Str × Addr)) (C : Addr) (s2 : Shared) (H2 : Hp) (ex : List Addr) : Cx :=
  { X with N := N', s₀ := s2, H₀ := H2, env := compEnvC scope cl C X.env, outer := X.stack, ex := ex, fn := fun _ => false, pn := [], xe := fun _ _ => False }

theorem closure_go {env : Env} : ∀ (names : List (Str × NameKind)) (acc : List (Str × Addr)), (∀ y ∈ names, y.2 = .free → ∃ c, env.cells.lookup y.1 = some c) →
    (∀ x c, acc.lookup x = some c → env.cells.lookup x = some c) →
    ∃ cl, (forIn names acc fun (x : Str × NameKind) (cs : List (Str × Addr)) => (match x with
      | (name, kind) => if (kind == NameKind.free) = true then do let c ← cellOf env name; pure (ForInStep.yield ((name, c) :: cs)) else pure (ForInStep.yield cs) : Sem (ForInStep (List (Str × Addr))))) = pure cl ∧
      (∀ x c, cl.lookup x = some c → env.cells.lookup x = some c) ∧ (∀ x c, acc.lookup x = some c → cl.lookup x = some c) ∧
      (∀ x, (x, NameKind.free) ∈ names → ∃ c, cl.lookup x = some c)
  | [], acc, _, h2 => ⟨acc, rfl, h2, fun _ _ h => h, fun _ h => nomatch h⟩
  | (n, k) :: r, acc, h1, h2 => by
    rw [List.forIn_cons]
    dsimp only
    by_cases hk : (k == NameKind.free) = true
    · have hk' : k = NameKind.free := by simpa using hk
      obtain ⟨c, hc⟩ := h1 (n, k) List.mem_cons_self hk'
      have e : cellOf env n = pure c := by unfold cellOf; rw [hc]
      obtain ⟨cl, e1, e2, e3, e4⟩ := closure_go r ((n, c) :: acc) (fun y hy => h1 y (List.mem_cons_of_mem _ hy)) (fun x d hd => by
        rw [List.lookup_cons] at hd
        cases hx : x == n with
        | true =>
          rw [hx] at hd
          have : x = n := by simpa using hx
          subst this
          cases hd
          exact hc
        | false =>
          rw [hx] at hd
          exact h2 x d hd)
      have self : cl.lookup n = some c := e3 n c (by rw [List.lookup_cons]; simp)
      refine ⟨cl, ?_, e2, fun x d hd => ?_, fun x hx => ?_⟩
      · rw [if_pos hk, e, pure_bind, pure_bind]
        exact e1
      · by_cases hx : x = n
        · subst hx
          have := h2 x d hd
          rw [hc] at this
          cases this
          exact self
        · exact e3 x d (by rw [List.lookup_cons]; simp only [show (x == n) = false by simpa using hx]; exact hd)
      · rcases List.mem_cons.mp hx with z | z
        · cases z
          exact ⟨c, self⟩
        · exact e4 x z
    · obtain ⟨cl, e1, e2, e3, e4⟩ := closure_go r acc (fun y hy => h1 y (List.mem_cons_of_mem _ hy)) h2
      refine ⟨cl, ?_, e2, e3, fun x hx => ?_⟩
      · rw [if_neg hk, pure_bind]
        exact e1
      · rcases List.mem_cons.mp hx with z | z
        · cases z
          exact absurd rfl hk
        · exact e4 x z
theorem closure_of {scope : Scope} {env : Env} (h : ∀ y ∈ scope.names, y.2 = .free → ∃ c, env.cells.lookup y.1 = some c) :
    ∃ cl, closureFor scope env = pure cl ∧ (∀ x c, cl.lookup x = some c → env.cells.lookup x = some c) ∧ (∀ x, (x, NameKind.free) ∈ scope.names → ∃ c, cl.lookup x = some c) := by
  obtain ⟨cl, e1, e2, e3, e4⟩ := closure_go (env := env) scope.names [] h (fun x c hc => by simp at hc)
  refine ⟨cl, ?_, e2, e4⟩
  unfold closureFor
  simp only [bind_pure]
  exact e1

/-- names of the block: from relabel -/
theorem relabel_lookup {env : Env} {x : Str} {k : NameKind} : ∀ {names : List (Str × NameKind)},
    (names.map fun (n, k) => if (k == NameKind.free && env.scope.kind == .function && env.kindOf n == some .cell) then (n, NameKind.cell) else (n, k)).lookup x = some k →
    ∃ k', names.lookup x = some k' ∧ (k' = k ∨ k' = .free ∧ k = .cell)
  | [], h => by simp at h
  | (n, j) :: r, h => by
    rw [List.map_cons] at h
    dsimp only at h
    have ih := @relabel_lookup env x k r
    by_cases hc : (j == NameKind.free && env.scope.kind == .function && env.kindOf n == some .cell) = true
    · rw [if_pos hc, List.lookup_cons] at h
      rw [List.lookup_cons]
      cases hx : x == n with
      | true =>
        rw [hx] at h
        cases h
        simp only [Bool.and_eq_true] at hc
        exact ⟨j, rfl, .inr ⟨by simpa using hc.1.1, rfl⟩⟩
      | false =>
        rw [hx] at h
        exact ih h
    · rw [if_neg hc, List.lookup_cons] at h
      rw [List.lookup_cons]
      cases hx : x == n with
      | true =>
        rw [hx] at h
        cases h
        exact ⟨_, rfl, .inl rfl⟩
      | false =>
        rw [hx] at h
        exact ih h
theorem relabel_free {env : Env} {x : Str} : ∀ {names : List (Str × NameKind)}, names.lookup x = some .free →
    (names.map fun (n, k) => if (k == NameKind.free && env.scope.kind == .function && env.kindOf n == some .cell) then (n, NameKind.cell) else (n, k)).lookup x = some .cell ∨
    (names.map fun (n, k) => if (k == NameKind.free && env.scope.kind == .function && env.kindOf n == some .cell) then (n, NameKind.cell) else (n, k)).lookup x = some .free
  | [], h => by simp at h
  | (n, j) :: r, h => by
    rw [List.map_cons]
    dsimp only
    have ih := @relabel_free env x r
    rw [List.lookup_cons] at h
    by_cases hc : (j == NameKind.free && env.scope.kind == .function && env.kindOf n == some .cell) = true
    · rw [if_pos hc, List.lookup_cons]
      cases hx : x == n with
      | true => exact .inl rfl
      | false => rw [hx] at h; exact ih h
    · rw [if_neg hc, List.lookup_cons]
      cases hx : x == n with
      | true => rw [hx] at h; cases h; exact .inr rfl
      | false => rw [hx] at h; exact ih h

/-- the loop of a comprehension, with the owned tuple's step -/
theorem compLoop_any {prog : Program} {w : World} {A : Around} {R : Result → Shared → Prop} {s : Shared} {elt target iter : Expr} {ifs : List Expr} {scope : Scope} {pos : Pos} {it acc : Value} {env : Env} (I : Nat → Shared → Prop)
    (turn : ∀ n s, I n s → wpAny (model prog w) A (pyNext it) (fun r s₁ => match r with
      | none => R (.ok .next) s₁
      | some v => wpAny (model prog w) A (letOwnedTupleGo target it v) (fun _ s₁' => wpAny (model prog w) A (assign target env v) (fun _ s₂ =>
          wpAny (model prog w) A (forIn ifs true fun c r => if r = true then do let ok ← isTrue c env (eval c env); pure (ForInStep.yield ok) else pure (ForInStep.yield r)) (fun ok s₃ =>
            if ok = true then wpAny (model prog w) A (eval elt env) (fun x s₄ =>
              wpAny (model prog w) A (call (.builtin "list.append") [acc, x]) (fun _ s₅ => ∃ m, m < n ∧ I m s₅) (fun _ _ => False) s₄) (fun _ _ => False) s₃
            else ∃ m, m < n ∧ I m s₃) (fun _ _ => False) s₂) (fun _ _ => False) s₁') (fun _ _ => False) s₁) (fun _ _ => False) s)
    (n : Nat) (h : I n s) :
    codeAny (model prog w) A (.compLoop (.ListComp elt [⟨target, iter, ifs, 0⟩] scope pos) 0 it acc env) R s := by
  refine codeAny_loop rfl I (fun n s hI => ?_) n h
  show wpAny _ A ((compTurn (.ListComp elt [⟨target, iter, ifs, 0⟩] scope pos) 0 it acc env).onRaise (fun x => do noteFrame x env; theTreesLotGoes x)) _ _ s
  refine wpAny_noted ?_
  rw [compTurn_list]
  refine wpAny_bind (wpAny_standAt (wpAny_bind (wpAny_mono (turn n s hI) (fun r s₁ h₁ => ?_) fun _ _ h' => h'.elim)))
  cases r with
  | none => exact wpAny_pure h₁
  | some v =>
    refine wpAny_bind (wpAny_mono h₁ (fun _ s₁' h₁' => ?_) fun _ _ h' => h'.elim)
    refine wpAny_bind (wpAny_mono h₁' (fun _ s₂ h₂ => wpAny_bind (wpAny_mono h₂ (fun ok s₃ h₃ => ?_) fun _ _ h' => h'.elim)) fun _ _ h' => h'.elim)
    cases ok with
    | false => exact wpAny_pure ⟨rfl, h₃⟩
    | true =>
      exact wpAny_bind (wpAny_bind (wpAny_mono h₃ (fun x s₄ h₄ => wpAny_bind (wpAny_mono h₄ (fun _ s₅ h₅ => wpAny_pure (wpAny_pure ⟨rfl, h₅⟩)) fun _ _ h' => h'.elim)) fun _ _ h' => h'.elim))
end L2
set_option Elab.async false
set_option linter.all false
set_option maxRecDepth 100000
set_option maxHeartbeats 4000000
namespace L2
open PySem PySem.Spec PyProof.Rows

def pick (σ : St) : Option Nat → Option V
  | none => none
  | some i => (σ[i]?).getD none
theorem pick_some {σ : St} {j : Nat} {v : V} (h : pick σ (some j) = some v) : σ[j]? = some (some v) := by
  have h : (σ[j]?).getD none = some v := h
  cases e : σ[j]? with
  | none => rw [e] at h; cases h
  | some o => rw [e] at h; exact congrArg some h

/-- what is asked of the block's names: osc the scope around, N the names around, Nb the block's, ix where each stands around -/
def compOk (osc scope : Scope) (N Nb : List Str) (ix : List (Option Nat)) : Bool :=
  decide (scope.kind = .function) && scope.names.all (fun y => decide (y.2 ≠ .cell)) &&
  scope.names.all (fun y => decide (y.2 = .local → scope.names.lookup y.1 = some .local)) &&
  scope.names.all (fun y => decide (y.2 = .free → osc.names.lookup y.1 = some .cell ∨ osc.names.lookup y.1 = some .free)) &&
  decide (ix.length = Nb.length) &&
  (List.range Nb.length).all (fun i => match ix[i]? with
    | some (some j) => match Nb[i]? with
      | some x => decide (N[j]? = some x ∧ scope.names.lookup x = some .free)
      | none => true
    | _ => true)
structure CompOk (osc scope : Scope) (N Nb : List Str) (ix : List (Option Nat)) : Prop where
  kind : scope.kind = .function
  nocell : ∀ y ∈ scope.names, y.2 ≠ .cell
  names : ∀ y ∈ scope.names, y.2 = .local → scope.names.lookup y.1 = some .local
  fr : ∀ y ∈ scope.names, y.2 = .free → osc.names.lookup y.1 = some .cell ∨ osc.names.lookup y.1 = some .free
  len : ix.length = Nb.length
  src : ∀ (i j : Nat) (x : Str), Nb[i]? = some x → ix[i]? = some (some j) → N[j]? = some x ∧ scope.names.lookup x = some .free
theorem compOk_of {osc scope : Scope} {N Nb : List Str} {ix : List (Option Nat)} (h : compOk osc scope N Nb ix = true) : CompOk osc scope N Nb ix := by
  unfold compOk at h
  simp only [Bool.and_eq_true] at h
  obtain ⟨⟨⟨⟨⟨h1, h2⟩, h3⟩, h4⟩, h5⟩, h6⟩ := h
  refine ⟨of_decide_eq_true h1, fun y hy => of_decide_eq_true (List.all_eq_true.mp h2 y hy), fun y hy => of_decide_eq_true (List.all_eq_true.mp h3 y hy), fun y hy => of_decide_eq_true (List.all_eq_true.mp h4 y hy), of_decide_eq_true h5, fun i j x e1 e2 => ?_⟩
  have hi : i < Nb.length := (List.getElem?_eq_some_iff.mp e1).1
  have q := List.all_eq_true.mp h6 i (List.mem_range.mpr hi)
  rw [e2] at q
  simp only [e1] at q
  exact of_decide_eq_true q

def PIfs (X : Cx) (ifs : List Expr) (t : TT) : Prop :=
  ∀ (pins : List (Addr × Obj)) (s : Shared) (σ : St) (H : Hp) (Q : Bool → Hp → Prop), Inv X pins σ H s → t σ H Q →
    wpAny (model X.prog X.w) X.A (forIn ifs true fun c r => if r = true then do let ok ← isTrue c X.env (eval c X.env); pure (ForInStep.yield ok) else pure (ForInStep.yield r)) (TP X pins σ Q) X.xe s
def tTrue : TT := fun _ H Q => Q true H
theorem pifs_nil {X : Cx} : PIfs X [] tTrue := fun _ _ _ H _ I h => wpAny_tests_nil ⟨H, I, h⟩
theorem pifs_one {X : Cx} {c : Expr} {t : TT} (h : PT X c t) : PIfs X [c] t := fun pins s σ H Q I hq => wpAny_tests_one (h pins s σ H Q I hq)

/-- the block's turns: W the invariant by the turn, a measure, the list so far -/
def CompRun (J : It) (g : TG) (tc : TT) (te : TE) (σ0 : St) (H1 : Hp) (Q : VK) : Prop := ∀ D, H1 D = none →
  ∃ W : Nat → Nat → List V → St → Hp → Prop, (∃ m, W 0 m [] σ0 (upd H1 D (.lst []))) ∧
    ∀ i m ys σ' H', W i m ys σ' H' → H' D = some (.lst ys) ∧ ((J.stop i H' ∧ Q (.ref D) H') ∨ (J.go i H' ∧ ∀ x H2, J.yld i H' x H2 → g x σ' H2 fun σ2 H3 => tc σ2 H3 fun b H4 =>
      if b = true then te σ2 H4 fun y H5 => H5 D = some (.lst ys) ∧ ys.length < sizeLine ∧ ∃ m', m' < m ∧ W (i + 1) m' (ys ++ [y]) σ2 (upd H5 D (.lst (ys ++ [y])))
      else ∃ m', m' < m ∧ W (i + 1) m' ys σ2 H4))
def tComp (wi : TI) (g : TG) (tc : TT) (te : TE) (ix : List (Option Nat)) : TE := fun σ H Q => wi σ H fun J H1 => CompRun J g tc te (ix.map (pick σ)) H1 Q

section
variable {X : Cx} {N' : List Str} {scope osc : Scope} {cl : List (Str × Addr)} {C : Addr} {ex : List Addr} {ix : List (Option Nat)} {pins : List (Addr × Obj)} {σ : St} {H2 : Hp} {s2 : Shared}

theorem comp_ok (I2 : Inv X pins σ H2 s2) (K : CompOk X.env.scope scope X.N N' ix) (e2 : ∀ x c, cl.lookup x = some c → X.env.cells.lookup x = some c) (e3 : ∀ x, (x, NameKind.free) ∈ scope.names → ∃ c, cl.lookup x = some c)
    (hC : s2.heap.objs.size ≤ C) (f2 : ∀ b ∈ ex, FpOk X pins H2 b) (hex : ∀ b ∈ ex, b < s2.heap.objs.size) : (X.comp N' scope cl C s2 H2 ex).Ok where
  mod := I2.ok.mod
  kind := K.kind
  glob := I2.ok.glob
  blt := I2.ok.blt
  above := hC
  inj := fun x y c h1 h2 => I2.ok.inj x y c (e2 x c h1) (e2 y c h2)
  has := fun x hx => by
    have key : ∀ k, (relabel scope X.env).names.lookup x = some k → k = .cell ∨ k = .free → ∃ c, cl.lookup x = some c := fun k hk hk2 => by
      obtain ⟨k', h1, h2⟩ := relabel_lookup hk
      have hm := PySem.mem_of_lookup h1
      rcases h2 with rfl | ⟨rfl, rfl⟩
      · rcases hk2 with rfl | rfl
        · exact absurd rfl (K.nocell _ hm)
        · exact e3 x hm
      · exact e3 x hm
    rcases hx with hx | hx
    · exact key _ hx (.inl rfl)
    · exact key _ hx (.inr rfl)
  cab := fun x c h => by cases h
  hd := I2.ok.hd
  frames := I2.ok.frames
  stk := .inl rfl
  exf := fun b hb => ⟨Nat.ne_of_lt (Nat.lt_of_lt_of_le (hex b hb) hC), fun x c h => (f2 b hb).2.2.2.2.1 x c (e2 x c h)⟩
  bs := I2.bs
  bsz := Nat.le_trans I2.ok.bsz I2.sz
  noex := fun b o e hb => by
    rcases (f2 b hb).2.2.2.1 with z | z
    · exact I2.ok.noex b o e z
    · exact absurd (Nat.lt_of_lt_of_le (Heap.lt_size (I2.ok.bs b o e).1) z) (Nat.lt_irrefl _)
  exfs := fun b hb hf => by
    rcases List.mem_cons.mp (I2.stkSub b hf) with z | z
    · exact (f2 b hb).2.1 z
    · exact (f2 b hb).2.2.1 z
  funs := I2.stack
  frf := I2.stkFree

/-- out of the block -/
theorem comp_out (I2 : Inv X pins σ H2 s2) (f2 : ∀ b ∈ ex, FpOk X pins H2 b) (hC : s2.heap.objs.size ≤ C) {σ3 : St} {H3 : Hp} {s4 : Shared} {h' : Heap}
    (J : Inv (X.comp N' scope cl C s2 H2 ex) [] σ3 H3 s4) (sb : Heap.SameBut C s4.heap h') : Inv X pins σ H3 { s4 with heap := h' } := by
  have ne : ∀ b o, s2.heap.get? b = some o → b ≠ C := fun b o e => Nat.ne_of_lt (Nat.lt_of_lt_of_le (Heap.lt_size e) hC)
  have B := J.base
  have fr : H3 C = none := J.free
  refine I2.call' (s' := { s4 with heap := h' }) (ch := ex) J.os ⟨fun b o e n hb hx => ?_, fun b o e n hb hx => ?_, B.free, fun b o e hx => ?_, B.tups, B.frzs, B.tbls⟩ ?_ J.bare fun b hb => ?_
  · exact (sb.2 b (ne b o e)).trans (B.keep b o e n hb hx)
  · obtain ⟨sl, q⟩ := B.slot b o e n hb hx
    exact ⟨sl, (sb.2 b (ne b o e)).trans q⟩
  · obtain ⟨o', q⟩ := B.there b o e hx
    exact ⟨o', (sb.2 b (ne b o e)).trans q⟩
  · intro b ob e
    refine (J.hok b ob e).stay (fun c w' hc q => (sb.2 c ?_).trans q) (fun _ q => q) fun _ _ q => q
    rintro rfl
    rcases hc with rfl | hc
    · rw [fr] at e; cases e
    · rw [fr] at hc; cases hc
  · obtain ⟨_, f1, _, f3, f4, f5⟩ := f2 b hb
    exact ⟨f3, f1, f4, f5⟩
end

theorem comp_block {X : Cx} {tg iter elt : Expr} {ifs : List Expr} {scope : Scope} {pos : Pos} {g : TG} {tc : TT} {te : TE} {N' : List Str} {ix : List (Option Nat)} {pins : List (Addr × Obj)} {σ : St} {s2 : Shared} {itv : Value} {Q : VK} {cl : List (Str × Addr)}
    {RR : Value → Addr → Result → Shared → Prop} (hc : X.calm = true) (K : CompOk X.env.scope scope X.N N' ix) (e2 : ∀ x c, cl.lookup x = some c → X.env.cells.lookup x = some c) (e3 : ∀ x, (x, NameKind.free) ∈ scope.names → ∃ c, cl.lookup x = some c)
    (hg : ∀ cl C s2 H2 ex, PG (X.comp N' scope cl C s2 H2 ex) tg g) (ht : ∀ cl C s2 H2 ex, PIfs (X.comp N' scope cl C s2 H2 ex) ifs tc) (he : ∀ cl C s2 H2 ex, PE (X.comp N' scope cl C s2 H2 ex) elt te)
    (h2 : PIE X pins σ tg (fun J H1 => CompRun J g tc te (ix.map (pick σ)) H1 Q) itv s2)
    (hRR : ∀ H2 fp C D σ3 H3 s4, Inv X pins σ H2 s2 → (∀ b ∈ fp, FpOk X pins H2 b) → s2.heap.objs.size ≤ C → Inv (X.comp N' scope cl C s2 H2 fp) [] σ3 H3 s4 → Q (.ref D) H3 → RR (.ref D) C (.ok .next) s4) :
    wpAny (model X.prog X.w) X.A (newList []) (fun acc s₃ => wpAny (model X.prog X.w) X.A (newFunctionEnv scope X.env.globals cl [] X.env.qual none .none (some X.env)) (fun cenv s₄ =>
      codeAny (model X.prog X.w) X.A (.compStart (.ListComp elt [⟨tg, iter, ifs, 0⟩] scope pos) 0 itv acc { cenv with scope := relabel scope X.env }) (RR acc cenv.locals) s₄) X.xe s₃) X.xe s2 := by
  obtain ⟨it, fp, tn, J, H2, rfl, I2, T, st2, f2, q⟩ := h2
  refine wpAny_newObj_type (wpAny_newFunctionEnv K.nocell (by intro y hy; simp at hy) (fun h1 hns1 hsb1 => ?_) K.kind)
  dsimp only at hns1 hsb1 ⊢
  generalize hP : s2.heap.push { cls := .type "list", dict := none, data := .seq ([] : List Value).toArray } = P2 at hns1 hsb1 ⊢
  have hCs : P2.objs.size = s2.heap.objs.size + 1 := by rw [← hP, Heap.size_push]
  have hC : s2.heap.objs.size ≤ P2.objs.size := by omega
  have hDC : s2.heap.objs.size ≠ P2.objs.size := by omega
  have old : ∀ b o, s2.heap.get? b = some o → h1.get? b = some o := fun b o e =>
    hsb1.extBut b o (Nat.ne_of_lt (Nat.lt_of_lt_of_le (Heap.lt_size e) hC)) (Heap.get?_push_of_some _ (hP ▸ Heap.get?_push_of_some _ e))
  have hacc : h1.get? s2.heap.objs.size = some { cls := .type "list", dict := none, data := .seq ([] : List Value).toArray } :=
    hsb1.extBut _ _ hDC (Heap.get?_push_of_some _ (hP ▸ Heap.get?_push_size _ rfl))
  have hD : H2 s2.heap.objs.size = none := I2.hok.fresh (Nat.le_refl _)
  have hCn : H2 P2.objs.size = none := I2.hok.fresh hC
  obtain ⟨W, ⟨m0, w0⟩, turn⟩ := q s2.heap.objs.size hD
  have hex : ∀ b ∈ fp, b < s2.heap.objs.size := fun b hb => by
    obtain ⟨o, e, _⟩ := T.obj 0 _ st2 b hb
    exact Heap.lt_size e
  have YOk := comp_ok (cl := cl) (C := P2.objs.size) (ex := fp) I2 K e2 e3 hC f2 hex
  have hok1 : HOk X.prog X.w (upd H2 s2.heap.objs.size (.lst [])) h1 := I2.hok.laid old (Nat.le_refl _) ⟨Nat.zero_le _, [], 0, .nil, hacc⟩
  have IY : Inv (X.comp N' scope cl P2.objs.size s2 H2 fp) [] (ix.map (pick σ)) (upd H2 s2.heap.objs.size (.lst [])) { s2 with heap := h1, toks := s2.toks + ([] : List (Str × Value)).length } := by
    refine ⟨YOk, rfl, I2.bare, ?_, ⟨_, hns1, fun i x v e1 e4 e5 => ?_⟩, fun x c e => ?_, ?_, fun x c e => ?_, fun p hp => absurd (show p ∈ ([] : List (Addr × Obj)) from hp) (by simp), hok1, ?_⟩
    · exact (Un.laid old (Nat.le_refl _) hD).mono (fun _ z => z) (fun _ z => z)
    · rw [List.getElem?_map] at e4
      cases e6 : ix[i]? with
      | none => rw [e6] at e4; cases e4
      | some o =>
        rw [e6] at e4
        cases o with
        | none => cases (Option.some.inj e4)
        | some j =>
          have e7 : σ[j]? = some (some v) := pick_some (Option.some.inj e4)
          obtain ⟨n1, n2⟩ := K.src i j x e1 e6
          have hm := PySem.mem_of_lookup n2
          have kx := K.fr _ hm rfl
          obtain ⟨m, hn, hl⟩ := I2.loc
          obtain ⟨u, r, l⟩ := hl j x v n1 e7 (kx.elim (fun z => .inr (.inl z)) fun z => .inr (.inr z))
          refine ⟨u, r, .inr ⟨?_, ?_⟩⟩
          · exact relabel_free n2
          · rcases l with ⟨k1, _⟩ | ⟨_, c, hc1, hc2⟩
            · exfalso
              have k1' : X.env.scope.names.lookup x = some .local := k1
              rcases kx with z | z
              · rw [k1'] at z; cases z
              · rw [k1'] at z; cases z
            · obtain ⟨c', hc'⟩ := e3 x hm
              have e8 := e2 x c' hc'
              rw [hc1] at e8
              cases e8
              obtain ⟨o, ho, hd⟩ := hc2
              exact ⟨c, hc', o, old _ _ ho, hd⟩
    · obtain ⟨v, o, ho, hd⟩ := I2.cell x c (e2 x c e)
      exact ⟨v, o, old _ _ ho, hd⟩
    · show upd H2 s2.heap.objs.size (.lst []) P2.objs.size = none
      rw [upd_ne (Ne.symm hDC)]
      exact hCn
    · obtain ⟨v, z⟩ := I2.cell x c (e2 x c e)
      rw [upd_ne (Nat.ne_of_lt z.lt)]
      exact I2.freeC x c (e2 x c e)
    · rw [List.length_map]
      exact K.len
  have hnf : ∀ b ∈ fp, b ≠ P2.objs.size := fun b hb => Nat.ne_of_lt (Nat.lt_of_lt_of_le (hex b hb) hC)
  have stat : ∀ {H' : Hp}, (∀ b ∈ fp, H' b = none) → ∀ b ∈ fp, FpOk (X.comp N' scope cl P2.objs.size s2 H2 fp) [] H' b := fun hn b hb =>
    ⟨hn b hb, hnf b hb, YOk.exfs b hb, .inl hb, fun x c e => (f2 b hb).2.2.2.2.1 x c (e2 x c e), fun p hp => absurd (show p ∈ ([] : List (Addr × Obj)) from hp) (by simp)⟩
  have loop : ∀ s₃ : Shared, s₃ = { s2 with heap := h1, toks := s2.toks + ([] : List (Str × Value)).length } →
      codeAny (model X.prog X.w) X.A (.compLoop (.ListComp elt [⟨tg, iter, ifs, 0⟩] scope pos) 0 (.ref it) (.ref s2.heap.objs.size) (compEnvC scope cl P2.objs.size X.env))
        (RR (.ref s2.heap.objs.size) P2.objs.size) s₃ := by
    rintro s₃ rfl
    refine compLoop_any (fun n s' => ∃ i ys σ' H', Inv (X.comp N' scope cl P2.objs.size s2 H2 fp) [] σ' H' s' ∧ tn i s'.heap ∧ (∀ b ∈ fp, H' b = none) ∧ W i n ys σ' H') ?_ m0
      ⟨0, [], _, _, IY, T.keep _ _ _ st2 (fun b hb o e => old b o e), fun b hb => ?_, w0⟩
    · rintro n s3 ⟨i, ys, σ3, H3, I3, st3, fr3, w3⟩
      obtain ⟨hDl, tt⟩ := turn i n ys σ3 H3 w3
      rcases tt with ⟨stop, qn⟩ | ⟨go, step⟩
      · refine thn (T.done (X.comp N' scope cl P2.objs.size s2 H2 fp) rfl rfl rfl hc i [] s3 σ3 H3 (fun _ _ => False) I3 (stat fr3) st3 stop) fun r s4 ⟨hr, I4⟩ => ?_
        subst hr
        exact hRR H2 fp P2.objs.size s2.heap.objs.size σ3 H3 s4 I2 f2 hC I4 qn
      · refine thn (T.item (X.comp N' scope cl P2.objs.size s2 H2 fp) rfl rfl rfl hc i [] s3 σ3 H3 (fun _ _ => False) I3 (stat fr3) st3 go) fun r s4 ⟨u, hr, h4⟩ => ?_
        subst hr
        refine thn h4 fun _ s5 ⟨x, H5, I5, r5, y5, st5, fr5⟩ => ?_
        have I5' := I5.pinned (stat fr5) (T.obj _ _ st5)
        refine thn (hg cl P2.objs.size s2 H2 fp _ s5 σ3 H5 x u _ I5' r5 (step x H5 y5)) fun _ s6 ⟨σ6, H6, I6, q6⟩ => ?_
        refine thn (ht cl P2.objs.size s2 H2 fp _ s6 σ6 H6 _ I6 q6) fun b s7 ⟨H7, I7, q7⟩ => ?_
        have again : ∀ {s8 : Shared} {H8 : Hp} {ys' : List V} {m' : Nat}, Inv (X.comp N' scope cl P2.objs.size s2 H2 fp) ([] ++ pinsAt fp s5.heap) σ6 H8 s8 → m' < n → W (i + 1) m' ys' σ6 H8 →
            ∃ m, m < n ∧ ∃ i ys σ' H', Inv (X.comp N' scope cl P2.objs.size s2 H2 fp) [] σ' H' s8 ∧ tn i s8.heap ∧ (∀ b ∈ fp, H' b = none) ∧ W i m ys σ' H' := fun {s8 H8 ys' m'} I8 hm w8 => by
          refine ⟨m', hm, i + 1, ys', σ6, H8, I8.unpinned, T.keep _ _ _ st5 fun b hb o e => (I8.pin (b, o) (List.mem_append_right _ (List.mem_append_right _ (mem_pinsAt hb e)))).1, fun b hb => ?_, w8⟩
          obtain ⟨o, e, d⟩ := T.obj _ _ st5 b hb
          exact (I8.pin (b, o) (List.mem_append_right _ (List.mem_append_right _ (mem_pinsAt hb e)))).2.1
        cases b with
        | false =>
          obtain ⟨m', hm, w7⟩ : ∃ m', m' < n ∧ W (i + 1) m' ys σ6 H7 := q7
          exact again I7 hm w7
        | true =>
          have q7' : te σ6 H7 _ := q7
          show wpAny _ _ (eval elt (compEnvC scope cl P2.objs.size X.env)) _ _ _
          refine thn (he cl P2.objs.size s2 H2 fp _ s7 σ6 H7 _ I7 q7') fun yv s8 ⟨y, H8, I8, r8, hD8, hz8, m', hm, w8⟩ => ?_
          refine thn (mt_append (X := X.comp N' scope cl P2.objs.size s2 H2 fp) _ s8 σ6 H8 (.ref s2.heap.objs.size) [y] (.ref s2.heap.objs.size) [yv] (fun _ H9 => H9 = upd H8 s2.heap.objs.size (.lst (ys ++ [y]))) I8 rfl (.cons r8 .nil)
            ⟨_, ys, y, rfl, rfl, hD8, hz8, rfl⟩) fun _ s9 ⟨_, H9, I9, _, e9⟩ => ?_
          subst e9
          exact again I9 hm w8
    · show upd H2 s2.heap.objs.size (.lst []) b = none
      rw [upd_ne (Nat.ne_of_lt (hex b hb))]
      exact (f2 b hb).1
  exact codeAny_compStart_list (loop _ rfl) (T.self X.A 0 _ _ _ (T.keep _ _ _ st2 (fun b hb o e => old b o e)) (loop _ rfl))
theorem pe_comp {X : Cx} {tg iter elt : Expr} {ifs : List Expr} {scope : Scope} {pos : Pos} {wi : TI} {g : TG} {tc : TT} {te : TE} (N' : List Str) (ix : List (Option Nat)) (osc : Scope) (N : List Str)
    (hc : X.calm = true) (hi : PI X tg iter wi) (ok : compOk osc scope N N' ix = true)
    (hg : ∀ cl C s2 H2 ex, PG (X.comp N' scope cl C s2 H2 ex) tg g) (ht : ∀ cl C s2 H2 ex, PIfs (X.comp N' scope cl C s2 H2 ex) ifs tc) (he : ∀ cl C s2 H2 ex, PE (X.comp N' scope cl C s2 H2 ex) elt te)
    (hsc : X.env.scope = osc := by rfl) (hN : X.N = N := by rfl) (hs : ∀ x, foldedSetIterable iter X.env x = pure x := by intro _; rfl) : PE X (.ListComp elt [⟨tg, iter, ifs, 0⟩] scope pos) (tComp wi g tc te ix) := by
  intro pins s σ H Q I h
  have K0 := compOk_of ok
  have K : CompOk X.env.scope scope X.N N' ix := by rw [hsc, hN]; exact K0
  obtain ⟨cl, hclos, e2, e3⟩ := closure_of (scope := scope) (env := X.env) (fun y hy hf => I.ok.has y.1 (K.fr y hy hf))
  rw [eval_ListComp]
  refine wpAny_comprehension_free (use := none) rfl hs hclos K.kind K.names (wpAny_mono (hi pins s σ H _ I h) (fun v s1 h1 => thn h1 fun itv s2 h2 => ?_) fun _ _ e => e)
  refine comp_block hc K e2 e3 hg ht he h2 fun H2 fp C D σ3 H3 s4 I2 f2 hC I4 qn => ?_
  obtain ⟨m, hn, _⟩ := I4.loc
  exact ⟨m, hn, fun h' sb => ⟨.ref D, H3, comp_out I2 f2 hC I4 sb, rfl, qn⟩⟩
/-- name = [..]: the store comes ahead of the block's leaving -/
theorem ps_setC {X : Cx} {tg iter elt : Expr} {ifs : List Expr} {scope : Scope} {pos spos py : Pos} {y : Str} {wi : TI} {g : TG} {tc : TT} {te : TE} (N' : List Str) (ix : List (Option Nat)) (osc : Scope) (N : List Str) {i : Nat} (nd : X.N.Nodup) (hiy : X.N[i]? = some y) (hxy : Loc X.env.scope y)
    (hc : X.calm = true) (hi : PI X tg iter wi) (ok : compOk osc scope N N' ix = true)
    (hg : ∀ cl C s2 H2 ex, PG (X.comp N' scope cl C s2 H2 ex) tg g) (ht : ∀ cl C s2 H2 ex, PIfs (X.comp N' scope cl C s2 H2 ex) ifs tc) (he : ∀ cl C s2 H2 ex, PE (X.comp N' scope cl C s2 H2 ex) elt te)
    (hsc : X.env.scope = osc := by rfl) (hN : X.N = N := by rfl) (hs : ∀ x, foldedSetIterable iter X.env x = pure x := by intro _; rfl)
    (hsw : swapsWith (.ListComp elt [⟨tg, iter, ifs, 0⟩] scope pos) (some (.Name y py)) spos.line X.env = pure true := by rfl) (hf : X.fn y = true ∨ X.env.scope.names.lookup y = some .local := by first | exact .inl rfl | exact .inr rfl | assumption) :
    PS X (.Assign [.Name y py] (.ListComp elt [⟨tg, iter, ifs, 0⟩] scope pos) spos) (tAsg (tComp wi g tc te ix) (gName i)) := by
  intro pins s σ H D I h
  have K0 := compOk_of ok
  have K : CompOk X.env.scope scope X.N N' ix := by rw [hsc, hN]; exact K0
  obtain ⟨cl, hclos, e2, e3⟩ := closure_of (scope := scope) (env := X.env) (fun y hy hf => I.ok.has y.1 (K.fr y hy hf))
  rw [exec_Assign_Name_used _ _ _ _ hsw]
  refine wpAny_bind (wpAny_standAt (wpAny_bind ?_))
  show wpAny _ X.A (do let _ ← comprehension (.ListComp elt [⟨tg, iter, ifs, 0⟩] scope pos) scope X.env _ (newList []) false (eval iter X.env) (some (assign (.Name y py) X.env))) _ _ s
  refine wpAny_bind (wpAny_mono (wpAny_comprehension_free (use := some (assign (.Name y py) X.env)) (Q := fun _ s' => SP X pins D .next s') rfl hs hclos K.kind K.names
    (wpAny_mono (hi pins s σ H _ I h) (fun v s1 h1 => thn h1 fun itv s2 h2 => ?_) fun _ _ e => e)) (fun _ s' hq => wpAny_pure (wpAny_pure hq)) fun _ _ e => e)
  refine comp_block hc K e2 e3 hg ht he h2 fun H2 fp C L σ3 H3 s4 I2 f2 hC I4 qn => ?_
  have I5 : Inv X pins σ H3 s4 := comp_out I2 f2 hC I4 (Heap.SameBut.refl ..)
  obtain ⟨m, hn, _⟩ := I4.loc
  have hn : s4.heap.Ns C m := hn
  have fC : FpOk X pins H3 C := I2.fpOk hC I4.free
  show wpAny _ X.A (assign (.Name y py) X.env (.ref L)) _ _ s4
  refine wpAny_assign_Name (store_ok2 I5 nd hiy hxy (v := .ref L) rfl (fun s5 I6 hch => ?_) hf)
  obtain ⟨a, sb, ha⟩ := hch
  have nCa : C ≠ a := by
    rcases ha with rfl | ha
    · exact fC.2.1
    · exact fun z => fC.2.2.2.2.1 y a ha z.symm
  refine ⟨m, hn.sameBut sb nCa, fun h' sb' => ⟨_, H3, ?_, qn⟩⟩
  obtain ⟨f0, f1, f2', f3, f4, f5⟩ := fC
  exact I6.turned (t' := s5.toks) (fun b o hb e => (sb'.2 b hb).trans e) f0 f1 f3 f4 f5
end L2
set_option Elab.async false
set_option linter.all false
set_option maxRecDepth 100000
set_option maxHeartbeats 4000000
namespace L2
open PySem PySem.Spec PyProof.Rows

section
variable {X : Cx}
theorem bools_of : ∀ {bs : List Bool} {us : List Value}, Vals (bs.map V.bl) us → LSm.BoolsAre us bs
  | [], _, .nil => .nil
  | b :: bs, _, .cons r t => by
    cases r
    exact .cons b (bools_of t)
/-! ### all -/
theorem call_all (hc : X.calm = true) : CallR X (.builtin "all") (fun xs H Q => ∃ (p : Addr) (bs : List Bool), xs = [.ref p] ∧ SqL X.K H p (bs.map V.bl) ∧ Q (.bl (bs.all id)) H) := by
  intro pins s σ H xs us Q I rv h
  obtain ⟨p, bs, rfl, hq, q⟩ := h
  obtain ⟨u, rfl, ru⟩ := rv.one
  cases ru
  obtain ⟨its, r, pl, hz⟩ := I.list hq
  have hb := bools_of r
  obtain ⟨m, F⟩ := I.fr
  have hl := pl.isList
  have hlt : p < s.heap.objs.size := by obtain ⟨_, e, _⟩ := hl; exact Heap.lt_size e
  have hh := I.ok.hd hc
  refine call_all_walk (wpAny_pyIter_list hl ?_)
  refine ⟨s.heap.objs.size, [s.heap.objs.size, p], [s.heap.objs.size], its.toArray.size, _, _, fun i => (bs[i]?).getD true, rfl, Walks.list (A := X.A.in1) hh _ p (Nat.ne_of_lt hlt) its.toArray,
    ⟨⟨_, Heap.get?_push_size _ rfl, rfl, rfl⟩, hl.push _⟩, fun i v s' Q' E' hP hQ => ?_, fun h' tk hk => ?_⟩
  · obtain ⟨b, e, rfl⟩ := hb.get i v (by simpa using hP)
    simp only [e, Option.getD_some] at hQ
    exact wpAny_truthy_bool hQ
  · have e : ((List.range its.toArray.size).all fun i => (bs[i]?).getD true) = bs.all id := by
      rw [List.size_toArray, hb.length]; exact LSm.range_all bs
    rw [e]
    exact ⟨.bl _, H, I.kept (LSm.kept_iter hk), rfl, q⟩

/-! ### isinstance -/
theorem call_isinst : CallR X (.builtin "isinstance") (fun xs H Q => ∃ x T t b, xs = [x, .ty T] ∧ TyOf X.K H x t ∧ PySem.W.kitOne X.K t (.type T) = some b ∧ Q (.bl b) H) := by
  intro pins s σ H xs us Q I rv h
  obtain ⟨x, T, t, b, rfl, ty, e, q⟩ := h
  obtain ⟨u, v, rfl, ru, rv⟩ := rv.two
  cases rv
  exact isinst_ok I ru ty e fun tk => ⟨.bl b, H, I.tok tk, rfl, q⟩

/-! ### list.count of ints -/
theorem ints_of : ∀ {ns : List Int} {us : List Value}, Vals (ns.map V.int) us → IntsAre us ns
  | [], _, .nil => .nil
  | b :: bs, _, .cons r t => by
    obtain ⟨tk, rfl⟩ := r
    exact .cons _ _ (ints_of t)
end

/-! ### deep data -/
mutual
inductive RdD (K : PySem.W.Frag) (H : Hp) : V → PyData → Prop
  | non : RdD K H .non .none
  | bl (b : Bool) : RdD K H (.bl b) (.bool b)
  | int (i : Int) : RdD K H (.int i) (.int i)
  | str (x : Str) : RdD K H (.str x) (.str x)
  | lst {a : Addr} {xs : List V} {ds : List PyData} : SqL K H a xs → RdAll K H xs ds → RdD K H (.ref a) (.list ds)
  | tup {a : Addr} {xs : List V} {ds : List PyData} : SqT K H a xs → RdAll K H xs ds → RdD K H (.ref a) (.tuple ds)
inductive RdAll (K : PySem.W.Frag) (H : Hp) : List V → List PyData → Prop
  | nil : RdAll K H [] []
  | cons {x : V} {d : PyData} {xs : List V} {ds : List PyData} : RdD K H x d → RdAll K H xs ds → RdAll K H (x :: xs) (d :: ds)
end
section
variable {X : Cx} {pins : List (Addr × Obj)} {σ : St} {H : Hp} {s : Shared}
mutual
theorem Inv.reads (I : Inv X pins σ H s) : ∀ {x : V} {d : PyData} {u : Value}, RdD X.K H x d → RelV x u → ∃ as, Reads s.heap u d as
  | _, _, _, .non, r => by cases r; exact ⟨_, .none⟩
  | _, _, _, .bl b, r => by cases r; exact ⟨_, .bool b⟩
  | _, _, _, .int i, r => by obtain ⟨t, rfl⟩ := r; exact ⟨_, .int i t⟩
  | _, _, _, .str x, r => by obtain ⟨t, rfl⟩ := r; exact ⟨_, .str x t⟩
  | _, _, _, .lst hq ha, r => by
    cases r
    obtain ⟨its, rv, ⟨o, n, e, c, dd, dt⟩, _⟩ := I.list hq
    obtain ⟨as, q⟩ := Inv.readsAll I ha rv
    exact ⟨_, .list e c dt (by simpa using q)⟩
  | _, _, _, .tup hq ha, r => by
    cases r
    obtain ⟨its, rv, ⟨o, e, c, n, dt⟩, _⟩ := I.tuple hq
    obtain ⟨as, q⟩ := Inv.readsAll I ha rv
    exact ⟨_, .tuple e c dt (by simpa using q)⟩
theorem Inv.readsAll (I : Inv X pins σ H s) : ∀ {xs : List V} {ds : List PyData} {us : List Value}, RdAll X.K H xs ds → Vals xs us → ∃ as, ReadsAll s.heap us ds as
  | _, _, _, .nil, .nil => ⟨_, .nil⟩
  | _, _, _, .cons h t, .cons r rr => by
    obtain ⟨as, q⟩ := Inv.reads I h r
    obtain ⟨bs, p⟩ := Inv.readsAll I t rr
    exact ⟨_, .cons q p⟩
end
def rEqD (K : PySem.W.Frag) (neg : Bool) : R2 := fun x y H Q => ∃ dx dy, RdD K H x dx ∧ RdD K H y dy ∧ SeqAt.shaped dx = true ∧ SeqAt.shaped dy = true ∧ Q (.bl (if neg then !PyData.eqv dx dy else PyData.eqv dx dy)) H
theorem op_eqD (hu : X.A.units + 64 < cLine) : OpR X (compareOp .Eq) (rEqD X.K false) := by
  intro pins s σ H x y v u Q I rx ry h
  obtain ⟨dx, dy, h1, h2, s1, s2, q⟩ := h
  obtain ⟨as, r1⟩ := I.reads h1 rx
  obtain ⟨bs, r2⟩ := I.reads h2 ry
  exact eq_dataH r1 r2 s1 s2 hu ⟨.bl _, H, I, rfl, q⟩
theorem op_neD (hu : X.A.units + 64 < cLine) : OpR X (compareOp .NotEq) (rEqD X.K true) := by
  intro pins s σ H x y v u Q I rx ry h
  obtain ⟨dx, dy, h1, h2, s1, s2, q⟩ := h
  obtain ⟨as, r1⟩ := I.reads h1 rx
  obtain ⟨bs, r2⟩ := I.reads h2 ry
  exact ne_dataH r1 r2 s1 s2 hu ⟨.bl _, H, I, rfl, q⟩
end
end L2
set_option Elab.async false
set_option linter.all false
set_option maxRecDepth 100000
set_option maxHeartbeats 4000000
namespace L2
open PySem PySem.Spec PyProof.Rows

/-! ### enumerate(list) -/
def Ite (K : PySem.W.Frag) (a : Addr) : It :=
  ⟨fun i H => ∃ xs x, SqL K H a xs ∧ xs[i]? = some x, fun i H y H' => ∃ T x, y = .ref T ∧ H T = none ∧ H' = upd H T (.tup [.int (i : Nat), x]) ∧ ∀ xs, SqL K H a xs → xs[i]? = some x, fun i H => ∃ xs, SqL K H a xs ∧ xs.length ≤ i⟩
/-- two records turned, a tuple laid -/
theorem Inv.tupNew {X : Cx} {pins : List (Addr × Obj)} {σ : St} {H : Hp} {s : Shared} {h' : Heap} {t' : Nat} {fp : List Addr} {T : Addr} {xs : List V} {its : List Value} {n : Nat} (I : Inv X pins σ H s) (hf : ∀ b ∈ fp, FpOk X pins H b)
    (hT : s.heap.objs.size ≤ T) (k : ∀ b o, b ∉ fp → s.heap.get? b = some o → h'.get? b = some o) (hz : xs.length ≤ sizeLine) (rv : Vals xs its) (e : h'.get? T = some { cls := .type "tuple", data := .seq its.toArray n })
    (tr : ∀ b ∈ fp, ∃ o, h'.get? b = some o) : Inv X pins σ (upd H T (.tup xs)) { s with heap := h', toks := t' } := by
  have hTn : H T = none := I.hok.fresh hT
  have nT : ∀ b o, s.heap.get? b = some o → b ≠ T := fun b o q => Nat.ne_of_lt (Nat.lt_of_lt_of_le (Heap.lt_size q) hT)
  have nfp : ∀ b o, H b = some o → b ∉ fp := fun b o q hb => by have := (hf b hb).1; rw [q] at this; cases this
  refine I.step (g' := s.gens) (d' := s.drawn) (ch := fp) (fun b hb => ?_) (fun b o _ _ hc q _ => k b o hc q) (fun b o _ _ hc q _ => ⟨o.slots, k b o hc q⟩) (fun b o _ q n => by rw [upd_ne (nT b o q)]; exact n)
    (fun b o hc q => ⟨o, k b o hc q⟩) (fun b ys q => by rw [upd_ne (ne_of_none q hTn)]; exact q) (fun b o u q => by rw [upd_ne (ne_of_none q hTn)]; exact q) (fun b ps q => ⟨#[], by rw [upd_ne (ne_of_none q hTn), q]; simp⟩) (fun m hm => ?_) (fun b u q => ?_) I.bare
  · obtain ⟨_, f1, _, f3, f4, f5⟩ := hf b hb
    exact ⟨f3, f1, f4, f5⟩
  · obtain ⟨o, es, ep, ho, r⟩ := hm
    exact ⟨o, es, ep, k _ o (fun z => (hf _ z).2.1 rfl) ho, r⟩
  · by_cases hb : b = T
    · subst hb
      rw [upd_same] at q
      cases q
      exact ⟨hz, its, rv, _, e, rfl, n, rfl⟩
    · rw [upd_ne hb] at q
      refine (I.hok b u q).stay (fun c v hc w => k c v ?_ w) (fun c w => by rw [upd_ne (ne_of_none w hTn)]; exact w) fun c ys w => by rw [upd_ne (ne_of_none w hTn)]; exact w
      rcases hc with rfl | hc
      · exact nfp _ _ q
      · exact nfp _ _ hc
theorem turn_enum {P : Program} {w : World} {K : PySem.W.Frag} {es : List Expr} {k1} {ps : Pos} (a e it : Addr) : Turn P w K (.Tuple es k1 ps) (Ite K a) [e, it] e (fun i h => (∃ old, IsEnum h e it (i : Nat) old) ∧ h.IsListIter it a i ∧ e ≠ it) where
  mem := by simp
  obj := fun i h st b hb => by
    obtain ⟨⟨old, he⟩, hit, hne⟩ := st
    rcases List.mem_cons.mp hb with rfl | hb
    · exact ⟨_, he, fun v z => by
        have z' : Data.fields _ = Data.cell v := z
        cases z'⟩
    · have z : b = it := by simpa using hb
      subst z
      obtain ⟨o, e, c, d⟩ := hit
      exact ⟨o, e, fun v z => by rw [d] at z; cases z⟩
  keep := fun i h h' st k => by
    obtain ⟨⟨old, he⟩, hit, hne⟩ := st
    exact ⟨⟨old, k e (by simp) _ he⟩, hit.at fun o q => k it (by simp) o q, hne⟩
  item := by
    intro X hP hw hK hc i pins s σ H E I hf st hg
    subst hP hw hK
    obtain ⟨⟨old, he⟩, hit, hne⟩ := st
    obtain ⟨xs, x, hq, hx⟩ := hg
    obtain ⟨its, rv, p, hz⟩ := I.list hq
    obtain ⟨u, hu, ru⟩ := rv.get hx
    refine wpAny_pyNext_enum_item he hit p.isList (x := u) (by simpa using hu) hne fun h' heo hit' hT hsz hk => ?_
    refine ⟨_, rfl, wpAny_letOwnedTupleGo_enum heo fun h2 he2 hs2 => ?_⟩
    have elt : e ≠ s.heap.objs.size := Nat.ne_of_lt (Heap.lt_size he)
    have ilt : it ≠ s.heap.objs.size := by obtain ⟨o, q, _⟩ := hit; exact Nat.ne_of_lt (Heap.lt_size q)
    have hs2' : Heap.SameBut e h' h2 := hs2
    have hT2 : h2.get? s.heap.objs.size = some { cls := .type "tuple", data := .seq #[.int i s.toks, u] } := (hs2'.2 _ (Ne.symm elt)).trans hT
    have hit2 : h2.IsListIter it a (i + 1) := hit'.at fun o q => (hs2'.2 it (Ne.symm hne)).trans q
    have hfr : H s.heap.objs.size = none := I.hok.fresh (Nat.le_refl _)
    have I2 : Inv X pins σ (upd H s.heap.objs.size (.tup [.int (i : Nat), x])) { s with heap := h2, toks := s.toks + 1 } := by
      refine I.tupNew (its := [.int i s.toks, u]) hf (Nat.le_refl _) (fun b o hb q => ?_) (by show 2 ≤ sizeLine; decide) (.cons ⟨_, rfl⟩ (.cons ru .nil)) hT2 (fun b hb => ?_)
      · simp only [List.mem_cons, not_or] at hb
        exact (hs2'.2 b hb.1).trans (hk b o hb.1 hb.2.1 q)
      · rcases List.mem_cons.mp hb with rfl | hb
        · exact ⟨_, he2⟩
        · have z : b = it := by simpa using hb
          subst z
          obtain ⟨o, q, _⟩ := hit2
          exact ⟨o, q⟩
    refine ⟨.ref s.heap.objs.size, _, I2, rfl, ⟨_, x, rfl, hfr, rfl, fun ys hy => by rw [I.list_inj hy hq]; exact hx⟩, ⟨⟨_, by simpa using he2⟩, hit2, hne⟩, fun b hb => ?_⟩
    rw [upd_ne (fun z => ?_)]
    · exact (hf b hb).1
    · rcases List.mem_cons.mp hb with rfl | hb
      · exact elt z
      · have z' : b = it := by simpa using hb
        subst z'
        exact ilt z
  done := by
    intro X hP hw hK hc i pins s σ H E I hf st hg
    subst hP hw hK
    obtain ⟨⟨old, he⟩, hit, hne⟩ := st
    obtain ⟨xs, hq, hx⟩ := hg
    obtain ⟨its, rv, p, hz⟩ := I.list hq
    obtain ⟨f0, f1, f2, f3, f4, f5⟩ := hf it (by simp)
    have hl := rv.length
    exact wpAny_pyNext_enum_end (I.ok.hd hc) he hit p.isList (by simp; omega) fun h' eb => ⟨rfl, I.turned (t' := s.toks) (fun b o hb e => eb b o hb e) f0 f1 f3 f4 f5⟩
  self := fun _ _ _ _ _ st h => by
    obtain ⟨⟨old, he⟩, hit, hne⟩ := st
    exact wpAny_pyIter_enum he h
def iEnum (K : PySem.W.Frag) (ta : TA) : TI := fun σ H R => ta σ H fun vs H1 => ∃ a, vs = [.ref a] ∧ (∃ xs, SqL K H1 a xs) ∧ R (Ite K a) H1
theorem pi_enum {X : Cx} {a : Expr} {ta : TA} {es : List Expr} {k1} {ps p pos : Pos} (hg : Gl X "enumerate") (hm : X.mg "enumerate" = none) (ha : PA X [a] ta) (hs : starEach [a] X.env = [(false, eval a X.env)] := by rfl) :
    PI X (.Tuple es k1 ps) (.Call (.Name "enumerate" p) [a] [] pos) (iEnum X.K ta) := by
  intro pins s σ H R I h
  refine Call_ (ld_blt I hg hm boot_enumerate (PyProof.Rows.callWith_type1 (thn (ha pos pins s σ H _ I h) fun us s1 ⟨vs, H1, I1, r1, q1⟩ => ?_) hs rfl))
  obtain ⟨a, e, ⟨xs, hq⟩, q⟩ := q1
  subst e
  obtain ⟨u, rfl, ru⟩ := r1.one
  cases ru
  obtain ⟨its, rv, pl, hz⟩ := I1.list hq
  refine call_enumerate_list pl.isList fun h' he hit hsz hk => wpAny_pyIter_enum he ?_
  have I2 : Inv X pins σ H1 { s1 with heap := h' } := I1.kept (t' := s1.toks) hk
  refine ⟨s1.heap.objs.size + 1, [s1.heap.objs.size + 1, s1.heap.objs.size], _, _, H1, rfl, I2, turn_enum a _ _, ⟨⟨_, he⟩, hit, Nat.ne_of_gt (Nat.lt_succ_self _)⟩, fun b hb => ?_, q⟩
  rcases List.mem_cons.mp hb with rfl | hb
  · exact I1.fpOk (Nat.le_succ _) (I1.hok.fresh (Nat.le_succ _))
  · have z : b = s1.heap.objs.size := by simpa using hb
    subst z
    exact I1.fpOk (Nat.le_refl _) (I1.hok.fresh (Nat.le_refl _))
/-- a loop over enumerate(list), the list left as it is -/
theorem for_enum {K : PySem.W.Frag} {a : Addr} {xs : List V} {g : TG} {tb : TS} {D : Ends} {σ : St} {H : Hp} (Pv : Nat → St → Hp → Prop) (h0 : Pv 0 σ H) (hl : ∀ i σ H, i ≤ xs.length → Pv i σ H → SqL K H a xs)
    (hs : ∀ i x σ H T, xs[i]? = some x → Pv i σ H → H T = none → g (.ref T) σ (upd H T (.tup [.int (i : Nat), x])) fun σ2 H2 => tb { D with nx := Pv (i + 1), ct := Pv (i + 1), bk := D.nx } σ2 H2) (hd : ∀ σ H, Pv xs.length σ H → D.nx σ H) :
    ∃ W : Nat → Nat → St → Hp → Prop, (∃ m, W 0 m σ H) ∧ ∀ i m σ H, W i m σ H →
      ((Ite K a).stop i H ∧ D.nx σ H) ∨ ((Ite K a).go i H ∧ ∃ N : St → Hp → Prop, (∀ σ' H', N σ' H' → ∃ m', m' < m ∧ W (i + 1) m' σ' H') ∧ ∀ x H', (Ite K a).yld i H x H' → g x σ H' fun σ2 H2 => tb { D with nx := N, ct := N, bk := D.nx } σ2 H2) := by
  refine ⟨fun i m σ H => m = xs.length - i ∧ i ≤ xs.length ∧ Pv i σ H, ⟨xs.length, by simp, Nat.zero_le _, h0⟩, ?_⟩
  rintro i m σ H ⟨rfl, hi, p⟩
  have q := hl i σ H hi p
  by_cases hlt : i < xs.length
  · refine .inr ⟨⟨xs, xs[i], q, by simp [hlt]⟩, Pv (i + 1), fun σ' H' p' => ⟨xs.length - (i + 1), by omega, rfl, hlt, p'⟩, fun x H' y => ?_⟩
    obtain ⟨T, z, rfl, hT, rfl, y⟩ := y
    exact hs i z σ _ T (y xs q) p hT
  · have e : i = xs.length := by omega
    subst e
    exact .inl ⟨⟨xs, q, Nat.le_refl _⟩, hd σ H p⟩

/-! ### a, b = a list -/
def gLst (K : PySem.W.Frag) (n : Nat) (t : TGs) : TG := fun v σ H Q => ∃ a xs, v = .ref a ∧ SqL K H a xs ∧ xs.length = n ∧ t xs σ H Q
end L2
set_option Elab.async false
set_option linter.all false
set_option maxRecDepth 100000
set_option maxHeartbeats 4000000
namespace L2
open PySem PySem.Spec PyProof.Rows

/-! ### readings that change nothing -/
def Pu (te : TE) (σ : St) (H : Hp) (v : V) : Prop := ∀ (H' : Hp) (Q : VK), Same H H' → (∀ H'', Same H' H'' → Q v H'') → te σ H' Q
def PuT (tc : TT) (σ : St) (H : Hp) (b : Bool) : Prop := ∀ (H' : Hp) (Q : Bool → Hp → Prop), Same H H' → (∀ H'', Same H' H'' → Q b H'') → tc σ H' Q
theorem puT_true {σ : St} {H : Hp} : PuT tTrue σ H true := fun H' Q _ q => q H' (Same.refl _)
theorem Same.upd {H H' : Hp} {D : Addr} {o : HO} (e : Same H H') (hD : H D = none) : Same H (upd H' D o) := fun b u q => by
  rw [upd_ne (ne_of_none q hD)]
  exact e b u q
theorem Same.new {H : Hp} {D : Addr} {o : HO} (hD : H D = none) : Same H (L2.upd H D o) := (Same.refl H).upd hD
/-- a comprehension with one name, over any walk: its invariant -/
theorem comp_by {J : It} {n : Nat} {σ0 : St} {H1 : Hp} {D : Addr} {tc : TT} {te : TE} {Q : VK} (Pv : Nat → List V → Hp → Prop) (h0 : Pv 0 [] (upd H1 D (.lst [])))
    (hl : ∀ i ys H', i ≤ n → Pv i ys H' → H' D = some (.lst ys)) (hgo : ∀ i ys H', i < n → Pv i ys H' → J.go i H') (hst : ∀ ys H', Pv n ys H' → J.stop n H')
    (step : ∀ i ys H' x H2, i < n → Pv i ys H' → J.yld i H' x H2 → tc (σ0.set 0 (some x)) H2 fun b H4 => if b = true then te (σ0.set 0 (some x)) H4 fun y H5 => H5 D = some (.lst ys) ∧ ys.length < sizeLine ∧ Pv (i + 1) (ys ++ [y]) (upd H5 D (.lst (ys ++ [y]))) else Pv (i + 1) ys H4)
    (fin : ∀ ys H', Pv n ys H' → Q (.ref D) H') :
    ∃ W : Nat → Nat → List V → St → Hp → Prop, (∃ m, W 0 m [] σ0 (upd H1 D (.lst []))) ∧
      ∀ i m ys σ' H', W i m ys σ' H' → H' D = some (.lst ys) ∧ ((J.stop i H' ∧ Q (.ref D) H') ∨ (J.go i H' ∧ ∀ x H2, J.yld i H' x H2 → gName 0 x σ' H2 fun σ2 H3 => tc σ2 H3 fun b H4 =>
        if b = true then te σ2 H4 fun y H5 => H5 D = some (.lst ys) ∧ ys.length < sizeLine ∧ ∃ m', m' < m ∧ W (i + 1) m' (ys ++ [y]) σ2 (upd H5 D (.lst (ys ++ [y])))
        else ∃ m', m' < m ∧ W (i + 1) m' ys σ2 H4)) := by
  refine ⟨fun i m ys σ' H' => m = n - i ∧ i ≤ n ∧ (∀ x, σ'.set 0 x = σ0.set 0 x) ∧ Pv i ys H', ⟨n, by simp, Nat.zero_le _, fun _ => rfl, h0⟩, ?_⟩
  rintro i m ys σ' H' ⟨rfl, hi, es, p⟩
  refine ⟨hl i ys H' hi p, ?_⟩
  by_cases hlt : i < n
  · refine .inr ⟨hgo i ys H' hlt p, fun x H2 y => ?_⟩
    have st := step i ys H' x H2 hlt p y
    show tc (σ'.set 0 (some x)) H2 _
    rw [es]
    have e1 : ∀ z, (σ0.set 0 (some x)).set 0 z = σ0.set 0 z := fun z => by rw [List.set_set]
    have e2 : ∀ ys' H5, (∃ m', m' < n - i ∧ m' = n - (i + 1) ∧ i + 1 ≤ n ∧ (∀ z, (σ0.set 0 (some x)).set 0 z = σ0.set 0 z) ∧ Pv (i + 1) ys' H5) ↔ Pv (i + 1) ys' H5 := fun ys' H5 =>
      ⟨fun ⟨_, _, _, _, _, q⟩ => q, fun q => ⟨n - (i + 1), by omega, rfl, hlt, e1, q⟩⟩
    simp only [e2]
    exact st
  · have e : i = n := by omega
    subst e
    exact .inl ⟨hst ys H' p, fin ys H' p⟩

/-- over a list, pure: ms the things walked, as values by u -/
theorem comp_of {α : Type} {K : PySem.W.Frag} {a : Addr} {ms : List α} {σ0 : St} {H1 : Hp} {tc : TT} {te : TE} {Q : VK} (u : α → V) (p : α → Bool) (f : α → V) (hq : SqL K H1 a (ms.map u)) (hn : ms.length ≤ sizeLine)
    (ht : ∀ x ∈ ms, PuT tc (σ0.set 0 (some (u x))) H1 (p x)) (he : ∀ x ∈ ms, p x = true → Pu te (σ0.set 0 (some (u x))) H1 (f x))
    (fin : ∀ D H', H1 D = none → Same H1 H' → H' D = some (.lst ((ms.filter p).map f)) → Q (.ref D) H') :
    CompRun (Itl K a) (gName 0) tc te σ0 H1 Q := by
  intro D hD
  refine comp_by (n := ms.length) (fun i ys H' => Same H1 H' ∧ H' D = some (.lst ys) ∧ ys = ((ms.take i).filter p).map f) ⟨Same.new hD, upd_same, by simp⟩ (fun i ys H' _ q => q.2.1) (fun i ys H' hi q => ⟨ms.map u, u ms[i], q.1.seq hq, by simp [hi]⟩)
    (fun ys H' q => ⟨ms.map u, q.1.seq hq, by simp⟩) ?_ (fun ys H' q => ?_)
  · rintro i ys H' x H2 hi ⟨sm, hDl, hys⟩ ⟨rfl, hy⟩
    have hx : (ms.map u)[i]? = some x := hy _ (sm.seq hq)
    obtain ⟨z, hz, rfl⟩ : ∃ z, ms[i]? = some z ∧ u z = x := by
      rw [List.getElem?_map] at hx
      cases e : ms[i]? with
      | none => rw [e] at hx; cases hx
      | some z => rw [e] at hx; exact ⟨z, rfl, Option.some.inj hx⟩
    have hm : z ∈ ms := List.mem_of_getElem? hz
    have tk : ms.take (i + 1) = ms.take i ++ [z] := by
      rw [List.take_add_one, hz]
      simp only [Option.toList]
    have hlen : ys.length ≤ i := by
      rw [hys, List.length_map]
      exact Nat.le_trans (List.length_filter_le _ _) (by rw [List.length_take]; omega)
    refine ht z hm _ _ sm fun H4 s4 => ?_
    cases hp : p z with
    | true =>
      refine iteT ?_
      refine he z hm hp _ _ (sm.trans s4) fun H5 s5 => ⟨s5 _ _ (s4 _ _ hDl), by omega, ((sm.trans s4).trans s5).upd hD, upd_same, ?_⟩
      rw [tk, List.filter_append, List.map_append, ← hys]
      simp [hp]
    | false =>
      refine iteF ⟨sm.trans s4, s4 _ _ hDl, ?_⟩
      rw [tk, List.filter_append, List.map_append, ← hys]
      simp [hp]
  · obtain ⟨sm, hDl, hys⟩ := q
    rw [List.take_length] at hys
    exact fin D H' hD sm (by rw [← hys]; exact hDl)
/-- .. all taken -/
theorem comp_map {α : Type} {K : PySem.W.Frag} {a : Addr} {ms : List α} {σ0 : St} {H1 : Hp} {te : TE} {Q : VK} (u : α → V) (f : α → V) (hq : SqL K H1 a (ms.map u)) (hn : ms.length ≤ sizeLine)
    (he : ∀ x ∈ ms, Pu te (σ0.set 0 (some (u x))) H1 (f x))
    (fin : ∀ D H', H1 D = none → Same H1 H' → H' D = some (.lst (ms.map f)) → Q (.ref D) H') :
    CompRun (Itl K a) (gName 0) tTrue te σ0 H1 Q :=
  comp_of u (fun _ => true) f hq hn (fun _ _ => puT_true) (fun x hx _ => he x hx) fun D H' hD sm e => fin D H' hD sm (by rw [List.filter_eq_self.mpr (fun _ _ => rfl)] at e; exact e)
/-- over a range, pure, all taken -/
theorem comp_range {lo : Int} {n : Nat} {σ0 : St} {H1 : Hp} {te : TE} {Q : VK} (f : Nat → V) (hn : n ≤ sizeLine)
    (he : ∀ i, i < n → Pu te (σ0.set 0 (some (.int (lo + i)))) H1 (f i))
    (fin : ∀ D H', H1 D = none → Same H1 H' → H' D = some (.lst ((List.range n).map f)) → Q (.ref D) H') :
    CompRun (Itr lo n) (gName 0) tTrue te σ0 H1 Q := by
  intro D hD
  refine comp_by (n := n) (fun i ys H' => Same H1 H' ∧ H' D = some (.lst ys) ∧ ys = (List.range i).map f) ⟨Same.new hD, upd_same, by simp⟩ (fun i ys H' _ q => q.2.1) (fun i ys H' hi q => hi)
    (fun ys H' q => Nat.le_refl _) ?_ (fun ys H' q => ?_)
  · rintro i ys H' x H2 hi ⟨sm, hDl, hys⟩ ⟨rfl, rfl⟩
    unfold tTrue
    refine iteT ?_
    refine he i hi _ _ sm fun H5 s5 => ⟨s5 _ _ hDl, ?_, (sm.trans s5).upd hD, upd_same, ?_⟩
    · rw [hys, List.length_map, List.length_range]
      omega
    · rw [List.range_succ, List.map_append, ← hys]
      simp
  · obtain ⟨sm, hDl, hys⟩ := q
    exact fin D H' hD sm (by rw [← hys]; exact hDl)

/-! ### defs of the text -/
/-- a def as the top has made it -/
def DefAt (K : PySem.W.Frag) (mg : Str → Option Value) (x : Str) (st : Stmt) (ps : List Str) : Prop := ∃ f fd, Fun K x x st f fd ∧ mg x = some (.ref f) ∧ Binds K fd ps []
/-- its promise -/
def FnAt (P : Program) (w : World) (K : PySem.W.Frag) (mg : Str → Option Value) (base : Heap) (k : Nat) (x : Str) (ps : List Str) (sp : Sp) : Prop :=
  ∃ f fd, FnOk P w K mg base CX0 k f fd ps sp ∧ mg x = some (.ref f) ∧ PySem.W.keepIn K (.ref f) = true ∧ Binds K fd ps []
theorem FnAt.of {P : Program} {w : World} {K : PySem.W.Frag} {mg : Str → Option Value} {base : Heap} {k : Nat} {x : Str} {st : Stmt} {N ps : List Str} {sp : Sp} (D : DefAt K mg x st ps) (S : FnScope N ps (defScope st)) (len : ∀ vs H Q E, sp vs H Q E → vs.length = ps.length)
    (hbody : ∀ (f : Addr) (cdv : Value) (A : Around) (outer : List Env) (s : Shared) (H : Hp) (vs : List V) (Q : VK) (E : XK), Room k (A.deeper (envOfC x (defScope st) s.heap.objs.size f cdv)) → sp vs H Q E →
      ∃ t, PSs (cxOf CX0 P w K mg base N x (defScope st) f cdv A outer s H E).nox (defBody st) t ∧ t { nx := fun _ H' => Q .non H', rt := Q } (start N vs) H) : FnAt P w K mg base (k + 1) x ps sp := by
  obtain ⟨f, fd, F, hm, hb⟩ := D
  exact ⟨f, fd, F.ok S len fun cdv A outer s H vs Q E hr h => hbody f cdv A outer s H vs Q E hr h, hm, F.kp, hb⟩
def tF (sp : Sp) (t : TA) : TE := fun σ H Q => t σ H fun vs H1 => sp vs H1 Q E0
section
variable {X : Cx} {k : Nat} {x : Str} {ps : List Str} {sp : Sp} {e : Expr} {es : List Expr} {t : TA} {p pos : Pos}
theorem pe_f (F : FnAt X.prog X.w X.K X.mg X.base k x ps sp) (hr : Room k X.A) (ha : PA X (e :: es) t) (hg : Gl X x := by rfl) (hdb : (x == ("__debug__" : Str)) = false := by decide)
    (he : starEach (e :: es) X.env = (false, eval e X.env) :: starEach es X.env := by rfl) (hpl : (backTo pos (starEach es X.env)).any (·.1) = false := by rfl) : PE X (.Call (.Name x p) (e :: es) [] pos) (tF sp t) := by
  obtain ⟨f, fd, F, hm, hk, hb⟩ := F
  have q := pe_call (p := p) (pos := pos) F hr hg hm hk hb .nil (pass0 (X := X)) ha hdb he hpl
  have e : tCall sp [] E0 t = tF sp t := by
    unfold tCall tF
    simp only [List.append_nil]
  rw [e] at q
  exact q
/-- a built-in function -/
theorem pe_b {id : String} {r : List V → Hp → VK → Prop} (hc : CallR X (.builtin id) r) (hm : X.mg x = none) (hv : bootBuiltins x = some (.builtin id)) (ha : PA X (e :: es) t) (hg : Gl X x := by rfl) (hn : x ≠ "__name__" := by decide) (hdb : (x == ("__debug__" : Str)) = false := by decide)
    (he : starEach (e :: es) X.env = (false, eval e X.env) :: starEach es X.env := by rfl) (hpl : (backTo pos (starEach es X.env)).any (·.1) = false := by rfl) : PE X (.Call (.Name x p) (e :: es) [] pos) (tCB r t) := pe_callB hc hg hm hv ha hn hdb he hpl
theorem pe_t {T : String} {r : List V → Hp → VK → Prop} (hc : CallR X (.type T) r) (hm : X.mg x = none) (hv : bootBuiltins x = some (.type T)) (ha : PA X (e :: es) t) (hg : Gl X x := by rfl) (hn : x ≠ "__name__" := by decide) (hdb : (x == ("__debug__" : Str)) = false := by decide)
    (he : starEach (e :: es) X.env = (false, eval e X.env) :: starEach es X.env := by rfl) (hpl : (backTo pos (starEach es X.env)).any (·.1) = false := by rfl) : PE X (.Call (.Name x p) (e :: es) [] pos) (tCB r t) := pe_callTy hc hg hm hv ha hn hdb he hpl
/-- a type as a value -/
theorem pe_ty {T : String} {pos : Pos} (hm : X.mg x = none) (hv : bootBuiltins x = some (.type T)) (hg : Gl X x := by rfl) (hn : x ≠ "__name__" := by decide) (hd : (x == ("__debug__" : Str)) = false := by decide) : PE X (.Name x pos) (tC (.ty T)) :=
  pe_bltn hg hm hv rfl hn hd
/-- a comprehension's own name -/
theorem pg_c {N' : List Str} {scope : Scope} {cl : List (Str × Addr)} {C : Addr} {s2 : Shared} {H2 : Hp} {ex : List Addr} (i : Nat) {y : Str} (nd : N'.Nodup) (hi : N'[i]? = some y := by rfl) (hx : (relabel scope X.env).names.lookup y = some .local := by rfl) :
    PG (X.comp N' scope cl C s2 H2 ex) (.Name y pos) (gName i) := pg_name (X := X.comp N' scope cl C s2 H2 ex) nd hi (.inl hx) (.inr hx)
end
/-! the same rules with the written part named: within a comprehension's block -/
section
variable {X : Cx}
theorem ixL (K : PySem.W.Frag) (hK : X.K = K := by rfl) : IxR X (rIxL K) := by subst hK; exact ix_list
theorem lenK (K : PySem.W.Frag) (hK : X.K = K := by rfl) : CallR X (.builtin "len") (fun xs H Q => ∃ p ys, xs = [.ref p] ∧ (SqL K H p ys ∨ SqT K H p ys) ∧ Q (.int ys.length) H) := by subst hK; exact call_len_seq
theorem listK (K : PySem.W.Frag) (hK : X.K = K := by rfl) : CallR X (.type "list") (fun xs H Q => ∃ p ys, xs = [.ref p] ∧ (SqL K H p ys ∨ SqT K H p ys) ∧ ∀ l, H l = none → Q (.ref l) (upd H l (.lst ys))) := by subst hK; exact call_list_of
end
theorem kit_ii (K : PySem.W.Frag) : PySem.W.kitOne K (.type "int") (.type "int") = some true := by kernel_rfl
theorem kit_ib (K : PySem.W.Frag) : PySem.W.kitOne K (.type "int") (.type "bool") = some false := by kernel_rfl
theorem kit_ll (K : PySem.W.Frag) : PySem.W.kitOne K (.type "list") (.type "list") = some true := by kernel_rfl
end L2
set_option Elab.async false
set_option linter.all false
set_option maxRecDepth 100000
set_option maxHeartbeats 4000000
namespace L2
open PySem PySem.Spec PyProof.Rows
section
variable {X : Cx}
/-! the int operations, their readings written out -/
def rAddI : R2 := fun x y H Q => ∃ i j : Int, x = .int i ∧ y = .int j ∧ Q (.int (i + j)) H
def rSubI : R2 := fun x y H Q => ∃ i j : Int, x = .int i ∧ y = .int j ∧ Q (.int (i - j)) H
def rMulI : R2 := fun x y H Q => ∃ i j : Int, x = .int i ∧ y = .int j ∧ CMul i j ∧ Q (.int (i * j)) H
def rModI : R2 := fun x y H Q => ∃ i j : Int, x = .int i ∧ y = .int j ∧ 0 < j ∧ Q (.int (i % j)) H
def rDivI : R2 := fun x y H Q => ∃ i j : Int, x = .int i ∧ y = .int j ∧ CDiv i j ∧ Q (.int (i / j)) H
def rPowI : R2 := fun x y H Q => ∃ i j : Int, x = .int i ∧ y = .int j ∧ CPow i j ∧ Q (.int (i ^ j.toNat)) H
def rLtI : R2 := fun x y H Q => ∃ i j : Int, x = .int i ∧ y = .int j ∧ Q (.bl (decide (i < j))) H
def rLeI : R2 := fun x y H Q => ∃ i j : Int, x = .int i ∧ y = .int j ∧ Q (.bl (decide (i ≤ j))) H
def rGtI : R2 := fun x y H Q => ∃ i j : Int, x = .int i ∧ y = .int j ∧ Q (.bl (decide (j < i))) H
def rGeI : R2 := fun x y H Q => ∃ i j : Int, x = .int i ∧ y = .int j ∧ Q (.bl (decide (j ≤ i))) H
def rNegI : V → Hp → VK → Prop := fun x H Q => ∃ i : Int, x = .int i ∧ Q (.int (-i)) H
theorem o_add : OpR X (binaryOp .Add) rAddI := op_add
theorem o_sub : OpR X (binaryOp .Sub) rSubI := op_sub
theorem o_mul : OpR X (binaryOp .Mult) rMulI := op_mul
theorem o_mod : OpR X (binaryOp .Mod) rModI := op_mod
theorem o_div : OpR X (binaryOp .FloorDiv) rDivI := op_fdiv
theorem o_pow : OpR X (binaryOp .Pow) rPowI := op_pow
theorem o_lt : OpR X (compareOp .Lt) rLtI := op_lt
theorem o_le : OpR X (compareOp .LtE) rLeI := op_le
theorem o_gt : OpR X (compareOp .Gt) rGtI := op_gt
theorem o_ge : OpR X (compareOp .GtE) rGeI := op_ge
theorem o_neg : UnR X (unaryOp .USub) rNegI := un_neg
end
end L2
set_option Elab.async false
set_option linter.all false
set_option maxRecDepth 100000
set_option maxHeartbeats 4000000
namespace L2
open PySem PySem.Spec PyProof.Rows

/-! ### records of one's own turned, nothing else -/
/-! ### zip(list, list) -/
def Itz (K : PySem.W.Frag) (a c : Addr) : It :=
  ⟨fun i H => ∃ xs ys x y, SqL K H a xs ∧ SqL K H c ys ∧ xs[i]? = some x ∧ ys[i]? = some y,
    fun i H v H' => ∃ T x y, v = .ref T ∧ H T = none ∧ H' = upd H T (.tup [x, y]) ∧ (∀ xs, SqL K H a xs → xs[i]? = some x) ∧ ∀ ys, SqL K H c ys → ys[i]? = some y,
    fun i H => ∃ xs ys, SqL K H a xs ∧ SqL K H c ys ∧ (xs.length ≤ i ∨ ys.length ≤ i)⟩
structure ZipAt (h : Heap) (z TI TO i1 i2 l1 l2 : Addr) (i : Nat) : Prop where
  hz : IsZip h z TI TO .none
  hTI : IsPair h TI (.ref i1) (.ref i2)
  hTO : ∃ a b, IsPair h TO a b
  h1 : h.IsListIter i1 l1 i
  h2 : h.IsListIter i2 l2 i
  nd : [z, TI, TO, i1, i2].Nodup
def iZip (K : PySem.W.Frag) (ta : TA) : TI := fun σ H R => ta σ H fun vs H1 => ∃ a c, vs = [.ref a, .ref c] ∧ (∃ xs, SqL K H1 a xs) ∧ (∃ ys, SqL K H1 c ys) ∧ R (Itz K a c) H1
/-! ### a comprehension over enumerate(list), two names -/
theorem set2 {σ : St} {a b u v : Option V} : ((((σ.set 0 a).set 1 b).set 0 u).set 1 v) = (σ.set 0 u).set 1 v := by
  rw [List.set_comm b u (by decide : (1 : Nat) ≠ 0), List.set_set, List.set_set]
theorem compE_by {K : PySem.W.Frag} {a : Addr} {xs : List V} {σ0 : St} {H1 : Hp} {D : Addr} {tc : TT} {te : TE} {Q : VK} (Pv : Nat → List V → Hp → Prop) (h0 : Pv 0 [] (upd H1 D (.lst [])))
    (hl : ∀ i ys H', i ≤ xs.length → Pv i ys H' → H' D = some (.lst ys) ∧ SqL K H' a xs)
    (step : ∀ i x ys H' T, xs[i]? = some x → Pv i ys H' → H' T = none → tc ((σ0.set 0 (some (.int (i : Nat)))).set 1 (some x)) (upd H' T (.tup [.int (i : Nat), x])) fun b H4 =>
      if b = true then te ((σ0.set 0 (some (.int (i : Nat)))).set 1 (some x)) H4 fun y H5 => H5 D = some (.lst ys) ∧ ys.length < sizeLine ∧ Pv (i + 1) (ys ++ [y]) (upd H5 D (.lst (ys ++ [y]))) else Pv (i + 1) ys H4)
    (fin : ∀ ys H', Pv xs.length ys H' → Q (.ref D) H') :
    ∃ W : Nat → Nat → List V → St → Hp → Prop, (∃ m, W 0 m [] σ0 (upd H1 D (.lst []))) ∧
      ∀ i m ys σ' H', W i m ys σ' H' → H' D = some (.lst ys) ∧ (((Ite K a).stop i H' ∧ Q (.ref D) H') ∨ ((Ite K a).go i H' ∧ ∀ x H2, (Ite K a).yld i H' x H2 → gTup K 2 (gCons (gName 0) (gCons (gName 1) gNil)) x σ' H2 fun σ2 H3 => tc σ2 H3 fun b H4 =>
        if b = true then te σ2 H4 fun y H5 => H5 D = some (.lst ys) ∧ ys.length < sizeLine ∧ ∃ m', m' < m ∧ W (i + 1) m' (ys ++ [y]) σ2 (upd H5 D (.lst (ys ++ [y])))
        else ∃ m', m' < m ∧ W (i + 1) m' ys σ2 H4)) := by
  refine ⟨fun i m ys σ' H' => m = xs.length - i ∧ i ≤ xs.length ∧ (∀ u v, (σ'.set 0 u).set 1 v = (σ0.set 0 u).set 1 v) ∧ Pv i ys H', ⟨xs.length, by simp, Nat.zero_le _, fun _ _ => rfl, h0⟩, ?_⟩
  rintro i m ys σ' H' ⟨rfl, hi, es, p⟩
  obtain ⟨hD, hq⟩ := hl i ys H' hi p
  refine ⟨hD, ?_⟩
  by_cases hlt : i < xs.length
  · refine .inr ⟨⟨xs, xs[i], hq, by simp [hlt]⟩, fun x H2 y => ?_⟩
    obtain ⟨T, z, rfl, hT, rfl, y⟩ := y
    have st := step i z ys H' T (y xs hq) p hT
    refine ⟨T, _, rfl, SqT.of upd_same, rfl, _, _, rfl, _, _, rfl, rfl, ?_⟩
    rw [es]
    have e2 : ∀ ys' H5, (∃ m', m' < xs.length - i ∧ m' = xs.length - (i + 1) ∧ i + 1 ≤ xs.length ∧ (∀ u v, ((((σ0.set 0 (some (.int (i : Nat)))).set 1 (some z)).set 0 u).set 1 v) = (σ0.set 0 u).set 1 v) ∧ Pv (i + 1) ys' H5) ↔ Pv (i + 1) ys' H5 := fun ys' H5 =>
      ⟨fun ⟨_, _, _, _, _, q⟩ => q, fun q => ⟨xs.length - (i + 1), by omega, rfl, hlt, fun _ _ => set2, q⟩⟩
    simp only [e2]
    exact st
  · have e : i = xs.length := by omega
    subst e
    exact .inl ⟨⟨xs, hq, Nat.le_refl _⟩, fin ys H' p⟩
theorem compE_run {K : PySem.W.Frag} {a : Addr} {xs : List V} {σ0 : St} {H1 : Hp} {tc : TT} {te : TE} {Q : VK} (Pv : Addr → Nat → List V → Hp → Prop) (h0 : ∀ D, H1 D = none → Pv D 0 [] (upd H1 D (.lst [])))
    (hl : ∀ D i ys H', H1 D = none → i ≤ xs.length → Pv D i ys H' → H' D = some (.lst ys) ∧ SqL K H' a xs)
    (step : ∀ D i x ys H' T, H1 D = none → xs[i]? = some x → Pv D i ys H' → H' T = none → tc ((σ0.set 0 (some (.int (i : Nat)))).set 1 (some x)) (upd H' T (.tup [.int (i : Nat), x])) fun b H4 =>
      if b = true then te ((σ0.set 0 (some (.int (i : Nat)))).set 1 (some x)) H4 fun y H5 => H5 D = some (.lst ys) ∧ ys.length < sizeLine ∧ Pv D (i + 1) (ys ++ [y]) (upd H5 D (.lst (ys ++ [y]))) else Pv D (i + 1) ys H4)
    (fin : ∀ D ys H', H1 D = none → Pv D xs.length ys H' → Q (.ref D) H') : CompRun (Ite K a) (gTup K 2 (gCons (gName 0) (gCons (gName 1) gNil))) tc te σ0 H1 Q :=
  fun D hD => compE_by (Pv D) (h0 D hD) (fun i ys H' hi p => hl D i ys H' hD hi p) (fun i x ys H' T hx p hT => step D i x ys H' T hD hx p hT) fun ys H' p => fin D ys H' hD p
/-- a, b as a block's own names -/
theorem pg_c2 {X : Cx} {N' : List Str} {scope : Scope} {cl : List (Str × Addr)} {C : Addr} {s2 : Shared} {H2 : Hp} {ex : List Addr} {y z : Str} {p1 p2 pos : Pos} {k : Nat} (K : PySem.W.Frag) (hc : X.calm = true) (nd : N'.Nodup) (h0 : N'[0]? = some y := by rfl) (h1 : N'[1]? = some z := by rfl)
    (hy : (relabel scope X.env).names.lookup y = some .local := by rfl) (hz : (relabel scope X.env).names.lookup z = some .local := by rfl) (hK : X.K = K := by rfl) :
    PG (X.comp N' scope cl C s2 H2 ex) (.Tuple [.Name y p1, .Name z p2] k pos) (gTup K 2 (gCons (gName 0) (gCons (gName 1) gNil))) := by
  subst hK
  exact pg_tup (X := X.comp N' scope cl C s2 H2 ex) hc (pgs_cons (pg_name (X := X.comp N' scope cl C s2 H2 ex) nd h0 (.inl hy) (.inr hy)) (pgs_cons (pg_name (X := X.comp N' scope cl C s2 H2 ex) nd h1 (.inl hz) (.inr hz)) pgs_nil))
end L2
set_option Elab.async false
set_option linter.all false
set_option maxRecDepth 100000
set_option maxHeartbeats 4000000
namespace L2
open PySem PySem.Spec PyProof.Rows
end L2
namespace L2
open PySem PySem.Spec PyProof.Rows
end L2
set_option Elab.async false
set_option linter.all false
set_option maxRecDepth 100000
set_option maxHeartbeats 4000000
/-! ### the tree of questions of a sort, answered by an order -/
namespace SrtT
open PySem PySem.W PyProof.Rows
section
variable {O : KeyOrd} {key : Nat → O.α} {N : Nat} {cmp : Nat → Nat → (Bool → Shared → Prop) → Shared → Prop} {s : Shared}
def kk (key : Nat → O.α) (p : Array Nat) (i : Nat) : O.α := key (p.getD i 0)
def Up (key : Nat → O.α) (p : Array Nat) (k : Nat) : Prop := ∀ i j, i ≤ j → j < k → O.kle (kk key p i) (kk key p j)
def Dn (key : Nat → O.α) (p : Array Nat) (k : Nat) : Prop := ∀ i j, i ≤ j → j < k → O.kle (kk key p j) (kk key p i)
def Fair (key : Nat → O.α) (N : Nat) (cmp : Nat → Nat → (Bool → Shared → Prop) → Shared → Prop) (s : Shared) : Prop := ∀ i j C, i < N → j < N → C (O.blt (key i) (key j)) s → cmp i j C s
def Pm (N : Nat) (p : Array Nat) : Prop := p.Perm (List.toArray (List.range N))
theorem Pm.size {p : Array Nat} (h : Pm N p) : p.size = N := by
  have e := h.size_eq
  simpa using e
theorem Pm.lt {p : Array Nat} (h : Pm N p) {i : Nat} (hi : i < N) : p.getD i 0 < N := by
  have hz := h.size
  have hip : i < p.size := by omega
  have e : p.getD i 0 = p[i] := by simp [Array.getD, hip]
  rw [e]
  have hm : p[i] ∈ (List.range N) := by
    have h1 := (Array.perm_iff_toList_perm.mp h).mem_iff (a := p[i])
    have h2 : p[i] ∈ p.toList := by simp
    simpa using h1.mp h2
  exact List.mem_range.mp hm
theorem Pm.of {p q : Array Nat} (h : Pm N p) (e : q.Perm p) : Pm N q := e.trans h
theorem kk_get {p q : Array Nat} {i j : Nat} (h : p[i]? = q[j]?) : kk key p i = kk key q j := by
  unfold kk
  have e : p.getD i 0 = q.getD j 0 := by
    rw [Array.getD_eq_getD_getElem?, Array.getD_eq_getD_getElem?, h]
  rw [e]
theorem kk_bub {p : Array Nat} {a d : Nat} (ha : a < p.size) (hd : d ≤ a) (k : Nat) :
    kk key (bubble p a d) k = if k = a - d then kk key p a else if a - d < k ∧ k ≤ a then kk key p (k - 1) else kk key p k := by
  have e := getElem?_bubble ha d hd k
  split at e
  · rename_i h1
    rw [if_pos h1]
    exact kk_get e
  · rename_i h1
    rw [if_neg h1]
    split at e
    · rename_i h2
      rw [if_pos h2]
      exact kk_get e
    · rename_i h2
      rw [if_neg h2]
      exact kk_get e
theorem kk_rev {p : Array Nat} {i j : Nat} (hj : j ≤ p.size) (k : Nat) : kk key (kas_rev p i j) k = if i ≤ k ∧ k < j then kk key p (i + j - 1 - k) else kk key p k := by
  have e := getElem?_mirror_all (xs := p) (i := i) hj k
  split at e
  · rename_i h1
    rw [if_pos h1]
    exact kk_get e
  · rename_i h1
    rw [if_neg h1]
    exact kk_get e
theorem kk_alike {p : Array Nat} {i j : Nat} (hj : j ≤ p.size) (he : ∀ k, i ≤ k → k < j → kk key p k = kk key p (j - 1)) (k : Nat) : kk key (kas_rev p i j) k = kk key p k := by
  rw [kk_rev hj]
  by_cases h : i ≤ k ∧ k < j
  · rw [if_pos h, he (i + j - 1 - k) (by omega) (by omega), he k h.1 h.2]
  · rw [if_neg h]
theorem ask {α : Type} {p : Array Nat} {i j : Nat} {k : Bool → KasT α} {Q : α → Shared → Prop} (hf : Fair key N cmp s) (hp : Pm N p) (hi : i < N) (hj : j < N)
    (h : (k (O.blt (kk key p i) (kk key p j))).kasWp cmp Q s) : (KasT.ask (p.getD i 0) (p.getD j 0) k).kasWp cmp Q s := hf _ _ _ (hp.lt hi) (hp.lt hj) h
theorem Up.one {p : Array Nat} : Up key p 1 := fun i j hij hj => by
  have : i = j := by omega
  subst this
  exact KeyOrd.kle_refl _
theorem Up.more {p : Array Nat} {n : Nat} (h1 : 1 ≤ n) (h : Up key p n) (hn : O.kle (kk key p (n - 1)) (kk key p n)) : Up key p (n + 1) := fun i j hij hj => by
  by_cases hjn : j < n
  · exact h i j hij hjn
  · have e : j = n := by omega
    subst e
    by_cases hi : i = j
    · subst hi; exact KeyOrd.kle_refl _
    · exact KeyOrd.kle_trans (h i (j - 1) (by omega) (by omega)) hn
theorem Dn.more {p : Array Nat} {n : Nat} (h1 : 1 ≤ n) (h : Dn key p n) (hn : O.kle (kk key p n) (kk key p (n - 1))) : Dn key p (n + 1) := fun i j hij hj => by
  by_cases hjn : j < n
  · exact h i j hij hjn
  · have e : j = n := by omega
    subst e
    by_cases hi : i = j
    · subst hi; exact KeyOrd.kle_refl _
    · exact KeyOrd.kle_trans hn (h i (j - 1) (by omega) (by omega))
theorem asc {p : Array Nat} {Q : Nat → Shared → Prop} (hf : Fair key N cmp s) (hp : Pm N p) : ∀ f n, 1 ≤ n → n + f ≤ N → Up key p n →
    (∀ m, n ≤ m → m ≤ n + f → Up key p m → (m = n + f ∨ O.klt (kk key p m) (kk key p (m - 1))) → Q m s) → (kas_asc p f n).kasWp cmp Q s
  | 0, n, _, _, hu, q => q n (Nat.le_refl _) (Nat.le_refl _) hu (.inl rfl)
  | f + 1, n, h1, hN, hu, q => by
    refine ask hf hp (by omega) (by omega) ?_
    cases hb : O.blt (kk key p n) (kk key p (n - 1)) with
    | true =>
      rw [if_pos rfl]
      exact q n (Nat.le_refl _) (by omega) hu (.inr hb)
    | false =>
      rw [if_neg (by simp)]
      exact asc hf hp f (n + 1) (by omega) (by omega) (hu.more h1 hb) fun m a b c d => q m (by omega) (by omega) c (d.imp (fun z => by omega) id)
theorem dsc {Q : Array Nat × Nat × Nat → Shared → Prop} (hf : Fair key N cmp s) : ∀ f p n q, Pm N p → 1 ≤ n → n + f ≤ N → Dn key p n → q + 1 ≤ n → (∀ i, n - (q + 1) ≤ i → i < n → kk key p i = kk key p (n - 1)) →
    (∀ p' m q', Pm N p' → n ≤ m → m ≤ n + f → Dn key p' m → q' + 1 ≤ m → (∀ i, m - (q' + 1) ≤ i → i < m → kk key p' i = kk key p' (m - 1)) → Q (p', m, q') s) → (kas_desc f p n q).kasWp cmp Q s
  | 0, p, n, q, hp, h1, hN, hd, hq, he, k => k p n q hp (Nat.le_refl _) (Nat.le_refl _) hd hq he
  | f + 1, p, n, q, hp, h1, hN, hd, hq, he, k => by
    refine ask hf hp (by omega) (by omega) ?_
    have hz := hp.size
    have z0 : ∀ p' : Array Nat, ∀ i, n + 1 - (0 + 1) ≤ i → i < n + 1 → kk key p' i = kk key p' (n + 1 - 1) := fun p' i a b => by
      have : i = n := by omega
      subst this
      rfl
    cases hb : O.blt (kk key p n) (kk key p (n - 1)) with
    | true =>
      rw [if_pos rfl]
      have hle := KeyOrd.kle_of_klt (O := O) hb
      by_cases hq0 : q > 0
      · rw [if_pos hq0]
        have ea := kk_alike (key := key) (p := p) (i := n - (q + 1)) (j := n) (by omega) he
        have hd' : Dn key (kas_rev p (n - (q + 1)) n) (n + 1) := fun i j a b => by
          rw [ea, ea]
          exact (hd.more h1 hle) i j a b
        exact dsc hf f _ (n + 1) 0 (hp.of (mirror_perm _ _ _ _)) (by omega) (by omega) hd' (by omega) (z0 _) fun p' m q' a b c d e g => k p' m q' a (by omega) (by omega) d e g
      · rw [if_neg hq0]
        exact dsc hf f _ (n + 1) 0 hp (by omega) (by omega) (hd.more h1 hle) (by omega) (z0 _) fun p' m q' a b c d e g => k p' m q' a (by omega) (by omega) d e g
    | false =>
      rw [if_neg (by simp)]
      refine ask hf hp (by omega) (by omega) ?_
      cases hb2 : O.blt (kk key p (n - 1)) (kk key p n) with
      | true =>
        rw [if_pos rfl]
        exact k p n q hp (Nat.le_refl _) (by omega) hd hq he
      | false =>
        rw [if_neg (by simp)]
        have ex : kk key p n = kk key p (n - 1) := KeyOrd.kle_antisymm hb2 hb
        have hle : O.kle (kk key p n) (kk key p (n - 1)) := by rw [ex]; exact KeyOrd.kle_refl _
        refine dsc hf f _ (n + 1) (q + 1) hp (by omega) (by omega) (hd.more h1 hle) (by omega) (fun i a b => ?_) fun p' m q' a b c d e g => k p' m q' a (by omega) (by omega) d e g
        show kk key p i = kk key p n
        by_cases hi : i = n
        · rw [hi]
        · rw [ex]
          exact he i (by omega) (by omega)
theorem tl3 {n r : Nat} {p : Array Nat} {Q : Nat × Array Nat → Shared → Prop} (hf : Fair key N cmp s) (hp : Pm N p) (h1 : 1 ≤ n) (hn : n ≤ r) (hr : r ≤ N) (hd : Dn key p n)
    (k : ∀ m p', Pm N p' → 1 ≤ m → m ≤ r → Up key p' m → Q (m, p') s) : (kas_tail3 n r p).kasWp cmp Q s := by
  unfold kas_tail3
  rw [KasT.kasWp_bind]
  have hz := hp.size
  have hp' : Pm N (kas_rev p 0 n) := hp.of (mirror_perm _ _ _ _)
  refine asc hf hp' (r - n) n h1 (by omega) (fun i j a b => ?_) fun m a b c _ => k m _ hp' (by omega) (by omega) c
  rw [kk_rev (by omega), kk_rev (by omega), if_pos (by omega), if_pos (by omega)]
  exact hd _ _ (by omega) (by omega)
theorem dpart {n r : Nat} {p : Array Nat} {Q : Nat × Array Nat → Shared → Prop} (hf : Fair key N cmp s) (hp : Pm N p) (hn : n + 1 ≤ r) (hr : r ≤ N) (hd : Dn key p (n + 1))
    (k : ∀ m p', Pm N p' → 1 ≤ m → m ≤ r → Up key p' m → Q (m, p') s) : (kas_descPart n r p).kasWp cmp Q s := by
  unfold kas_descPart
  rw [KasT.kasWp_bind]
  refine dsc hf (r - (n + 1)) p (n + 1) 0 hp (by omega) (by omega) hd (by omega) (fun i a b => ?_) fun p' m q hp' a b c d e => ?_
  · have : i = n := by omega
    subst this
    rfl
  · have hz := hp'.size
    show (if q > 0 then kas_tail3 m r (kas_rev p' (m - (q + 1)) m) else kas_tail3 m r p').kasWp cmp Q s
    by_cases hq : q > 0
    · rw [if_pos hq]
      have ea := kk_alike (key := key) (p := p') (i := m - (q + 1)) (j := m) (by omega) e
      exact tl3 hf (hp'.of (mirror_perm _ _ _ _)) (by omega) (by omega) hr (fun i j x y => by rw [ea, ea]; exact c i j x y) k
    · rw [if_neg hq]
      exact tl3 hf hp' (by omega) (by omega) hr c k
theorem cnt {r : Nat} {p : Array Nat} {Q : Nat × Array Nat → Shared → Prop} (hf : Fair key N cmp s) (hp : Pm N p) (h1 : 1 ≤ r) (hr : r ≤ N)
    (k : ∀ m p', Pm N p' → 1 ≤ m → m ≤ r → Up key p' m → Q (m, p') s) : (kas_count r p).kasWp cmp Q s := by
  unfold kas_count
  rw [KasT.kasWp_bind]
  have hz := hp.size
  refine asc hf hp (r - 1) 1 (Nat.le_refl _) (by omega) Up.one fun n a b c d => ?_
  by_cases hn : n = r
  · rw [if_pos (by simpa using hn)]
    exact k n p hp a (by omega) c
  · rw [if_neg (by simpa using hn)]
    have hlt : O.klt (kk key p n) (kk key p (n - 1)) := d.resolve_left (by omega)
    by_cases hg : n > 1
    · rw [if_pos hg]
      refine ask hf hp (by omega) (by omega) ?_
      cases hb : O.blt (kk key p 0) (kk key p (n - 1)) with
      | true =>
        rw [if_pos rfl]
        exact k n p hp a (by omega) c
      | false =>
        rw [if_neg (by simp)]
        have all : ∀ i, 0 ≤ i → i < n → kk key p i = kk key p (n - 1) := fun i _ hi =>
          KeyOrd.kle_antisymm (c i (n - 1) (by omega) (by omega)) (KeyOrd.kle_trans (show O.kle _ _ from hb) (c 0 i (Nat.zero_le _) hi))
        have ea := kk_alike (key := key) (p := p) (i := 0) (j := n) (by omega) all
        refine dpart hf (hp.of (mirror_perm _ _ _ _)) (by omega) hr (fun i j x y => ?_) k
        rw [ea, ea]
        refine Dn.more a (fun i j x y => ?_) (KeyOrd.kle_of_klt hlt) i j x y
        rw [all i (by omega) (by omega), all j (by omega) y]
        exact KeyOrd.kle_refl _
    · rw [if_neg hg]
      have e : n = 1 := by omega
      subst e
      refine dpart hf hp (by omega) hr (Dn.more (Nat.le_refl _) (fun i j x y => ?_) (KeyOrd.kle_of_klt hlt)) k
      have : i = j := by omega
      subst this
      exact KeyOrd.kle_refl _
theorem plc {p : Array Nat} {k : Nat} {Q : Nat → Shared → Prop} (hf : Fair key N cmp s) (hp : Pm N p) (hk : k < N) (hu : Up key p k) : ∀ f l r, l ≤ r → r ≤ k → r - l ≤ f → (∀ i, i < l → O.kle (kk key p i) (kk key p k)) → (∀ i, r ≤ i → i < k → O.klt (kk key p k) (kk key p i)) →
    (∀ l, l ≤ k → (∀ i, i < l → O.kle (kk key p i) (kk key p k)) → (∀ i, l ≤ i → i < k → O.klt (kk key p k) (kk key p i)) → Q l s) → (kas_place p k f l r).kasWp cmp Q s
  | 0, l, r, h1, h2, h3, lo, hi, q => by
    have : l = r := by omega
    subst this
    exact q l h2 lo hi
  | f + 1, l, r, h1, h2, h3, lo, hi, q => by
    unfold kas_place
    by_cases hg : l ≥ r
    · rw [if_pos hg]
      have : l = r := by omega
      subst this
      exact q l h2 lo hi
    · rw [if_neg hg]
      refine ask hf hp hk (by omega) ?_
      cases hb : O.blt (kk key p k) (kk key p ((l + r) / 2)) with
      | true =>
        rw [if_pos rfl]
        exact plc hf hp hk hu f l _ (by omega) (by omega) (by omega) lo (fun i a b => KeyOrd.klt_of_klt_of_kle hb (hu _ _ a b)) q
      | false =>
        rw [if_neg (by simp)]
        exact plc hf hp hk hu f _ r (by omega) h2 (by omega) (fun i a => KeyOrd.kle_trans (hu i ((l + r) / 2) (by omega) (by omega)) (show O.kle _ _ from hb)) hi q
theorem bin {Q : Array Nat → Shared → Prop} (hf : Fair key N cmp s) : ∀ f p k, Pm N p → k + f ≤ N → Up key p k → (∀ p', Pm N p' → Up key p' (k + f) → Q p' s) → (kas_bin f p k).kasWp cmp Q s
  | 0, p, k, hp, _, hu, q => q p hp hu
  | f + 1, p, k, hp, hN, hu, q => by
    unfold kas_bin
    rw [KasT.kasWp_bind]
    refine plc hf hp (by omega) hu k 0 k (Nat.zero_le _) (Nat.le_refl _) (by omega) (fun i z => by omega) (fun i a b => by omega) fun l hl lo hi => ?_
    have hz := hp.size
    refine bin hf f _ (k + 1) (hp.of (bubble_perm _ _ _)) (by omega) (fun i j a b => ?_) fun p' hp' hu' => q p' hp' (by rw [show k + (f + 1) = k + 1 + f by omega]; exact hu')
    rw [kk_bub (by omega) (by omega), kk_bub (by omega) (by omega), show k - (k - l) = l by omega]
    by_cases i1 : i = l
    · rw [if_pos i1]
      by_cases j1 : j = l
      · rw [if_pos j1]; exact KeyOrd.kle_refl _
      · rw [if_neg j1, if_pos (by omega)]
        exact KeyOrd.kle_of_klt (hi _ (by omega) (by omega))
    · rw [if_neg i1]
      by_cases i2 : l < i ∧ i ≤ k
      · rw [if_pos i2, if_neg (by omega), if_pos (by omega)]
        exact hu _ _ (by omega) (by omega)
      · rw [if_neg i2]
        by_cases j1 : j = l
        · rw [if_pos j1]; exact lo _ (by omega)
        · rw [if_neg j1]
          by_cases j2 : l < j ∧ j ≤ k
          · rw [if_pos j2]
            exact hu _ _ (by omega) (by omega)
          · rw [if_neg j2]
            exact hu _ _ a (by omega)
theorem srt {Q : Array Nat → Shared → Prop} (hf : Fair key N cmp s) (h2 : 1 ≤ N) (q : ∀ p, Pm N p → Up key p N → Q p s) : (kas_sort N).kasWp cmp Q s := by
  unfold kas_sort
  rw [KasT.kasWp_bind]
  refine cnt hf (Array.Perm.refl _) h2 (Nat.le_refl _) fun m p hp h1 hm hu => ?_
  show (if m < N then kas_bin (N - max m 1) p (max m 1) else KasT.ret p).kasWp cmp Q s
  have e : max m 1 = m := by omega
  rw [e]
  by_cases hlt : m < N
  · rw [if_pos hlt]
    exact bin hf _ _ _ hp (by omega) hu fun p' a b => q p' a (by rw [show m + (N - m) = N by omega] at b; exact b)
  · rw [if_neg hlt]
    have : m = N := by omega
    subst this
    exact q p hp hu
end
end SrtT
set_option Elab.async false
set_option linter.all false
set_option maxRecDepth 100000
set_option maxHeartbeats 4000000
/-! ### lists of ints by < -/
namespace SrtT
open PySem PyProof.Rows
section
open PySem.SeqAt
open PySem.AutoSeq1 (wpAny_loadPart')
open PySem.MeetsSeq PySem.MeetsSeq2 PySem.MeetsSeq3
theorem ints_get : ∀ {vs : List Value} {ns : List Int} {i : Nat}, IntsAre vs ns → i < ns.length → ∃ t, vs[i]? = some (.int (ns.getD i 0) t)
  | _, _, i, .nil, h => by simp at h
  | _, _, 0, .cons n t r, h => ⟨t, by simp⟩
  | _, _, i + 1, .cons n t r, h => by
    obtain ⟨u, e⟩ := ints_get (i := i) r (by simpa using h)
    exact ⟨u, by simpa using e⟩
theorem lex_at {ns ms : List Int} {i : Nat} (h1 : i < ns.length) (h2 : i < ms.length) :
    HT.lexLt (ns.drop i) (ms.drop i) = if ns.getD i 0 = ms.getD i 0 then HT.lexLt (ns.drop (i + 1)) (ms.drop (i + 1)) else decide (ns.getD i 0 < ms.getD i 0) := by
  rw [List.drop_eq_getElem_cons h1, List.drop_eq_getElem_cons h2, HT.lexLt_cons]
  simp [h1, h2]
theorem lex_end {ns ms : List Int} {i : Nat} (h : ns.length ≤ i ∨ ms.length ≤ i) (hi : i ≤ ns.length ∧ i ≤ ms.length) : HT.lexLt (ns.drop i) (ms.drop i) = decide (ns.length < ms.length) := by
  rcases h with h | h
  · rw [List.drop_eq_nil_of_le h]
    by_cases h2 : i < ms.length
    · rw [List.drop_eq_getElem_cons h2, HT.lexLt_nil_cons]
      exact (decide_eq_true (by omega)).symm
    · rw [List.drop_eq_nil_of_le (by omega), HT.lexLt_nil_nil]
      exact (decide_eq_false (by omega)).symm
  · rw [List.drop_eq_nil_of_le h]
    by_cases h2 : i < ns.length
    · rw [List.drop_eq_getElem_cons h2, HT.lexLt_cons_nil]
      exact (decide_eq_false (by omega)).symm
    · rw [List.drop_eq_nil_of_le (by omega), HT.lexLt_nil_nil]
      exact (decide_eq_false (by omega)).symm
theorem ltLoop (l b : Addr) (xs ys : Array Value) (n n2 : Nat) (dd dd2 : Option Addr) (sl sl2 : Array (Option Value)) (ns ms : List Int) (hi : IntsAre xs.toList ns) (hj : IntsAre ys.toList ms) (k : Nat) :
    ∀ i : Nat, ns.length + ms.length - i = k → i ≤ ns.length → i ≤ ms.length → Meets (Builtin.«list.__eq__.loop» ⟨[.ref l, .ref b, rawInt i, rawInt 0], []⟩)
      (fun _ R s => s.heap.get? l = some { cls := .type "list", dict := dd, data := .seq xs n, slots := sl } ∧ s.heap.get? b = some { cls := .type "list", dict := dd2, data := .seq ys n2, slots := sl2 } ∧
        R (.ok (.ret (.bool (HT.lexLt (ns.drop i) (ms.drop i))))) s) := by
  have z1 : xs.size = ns.length := by rw [← hi.length]; simp
  have z2 : ys.size = ms.length := by rw [← hj.length]; simp
  have fin : ∀ i : Nat, i ≤ ns.length → i ≤ ms.length → (ns.length ≤ i ∨ ms.length ≤ i) → Meets (Builtin.«list.__eq__.loop» ⟨[.ref l, .ref b, rawInt i, rawInt 0], []⟩)
      (fun _ R s => s.heap.get? l = some { cls := .type "list", dict := dd, data := .seq xs n, slots := sl } ∧ s.heap.get? b = some { cls := .type "list", dict := dd2, data := .seq ys n2, slots := sl2 } ∧
        R (.ok (.ret (.bool (HT.lexLt (ns.drop i) (ms.drop i))))) s) := by
    intro i h1 h2 h3 prog w A R s h
    obtain ⟨hp, g, d, tk, os⟩ := s
    obtain ⟨hl, hb, h⟩ := h
    rw [lex_end h3 ⟨h1, h2⟩, ← z1, ← z2] at h
    wp_walk using wpAny_loadPart' hl, wpAny_loadPart' hb
    rcases h3 with h3 | h3
    · have q1 : xs[((i : Nat) : Int).toNat]? = none := by simp; omega
      rw [q1]
      wp_walk using wpAny_loadPart' hl, wpAny_loadPart' hb
      exact h
    · have q1 : ys[((i : Nat) : Int).toNat]? = none := by simp; omega
      rw [q1]
      cases xs[((i : Nat) : Int).toNat]? with
      | none =>
        wp_walk using wpAny_loadPart' hl, wpAny_loadPart' hb
        exact h
      | some x =>
        wp_walk using wpAny_loadPart' hl, wpAny_loadPart' hb
        exact h
  induction k with
  | zero => exact fun i hk h1 h2 => fin i h1 h2 (.inl (by omega))
  | succ k ih =>
    intro i hk h1 h2
    by_cases h3 : ns.length ≤ i ∨ ms.length ≤ i
    · exact fin i h1 h2 h3
    · intro prog w A R s h
      obtain ⟨hp, g, d, tk, os⟩ := s
      obtain ⟨hl, hb, h⟩ := h
      have l1 : i < ns.length := by omega
      have l2 : i < ms.length := by omega
      obtain ⟨t1, e1⟩ := ints_get hi l1
      obtain ⟨t2, e2⟩ := ints_get hj l2
      have q1 : xs[((i : Nat) : Int).toNat]? = some (.int (ns.getD i 0) t1) := by rw [← e1]; simp
      have q2 : ys[((i : Nat) : Int).toNat]? = some (.int (ms.getD i 0) t2) := by rw [← e2]; simp
      rw [lex_at l1 l2] at h
      wp_walk using wpAny_loadPart' hl, wpAny_loadPart' hb
      rw [q1, q2]
      have hc : ((i : Int) + 1) = ((i + 1 : Nat) : Int) := by push_cast; rfl
      obtain ⟨e, he, hiff⟩ := HT.eqAt_int A.in1 ⟨hp, g, d, tk, os⟩ (ns.getD i 0) t1 (ms.getD i 0) t2
      refine wpAny_bind (he prog w _ _ ?_)
      cases e with
      | true =>
        rw [if_pos (hiff.mp rfl)] at h
        wp_walk
        rw [hc]
        refine ⟨plainId_quiet plain_eq_loop _, codeAny_builtin entry_eq_loop ?_⟩
        rw [Around.under_plainId plain_eq_loop _]
        exact ih (i + 1) (by omega) (by omega) (by omega) prog w A R _ ⟨hl, hb, h⟩
      | false =>
        rw [if_neg (fun q => absurd (hiff.mpr q) Bool.false_ne_true)] at h
        wp_walk using wpAny_loadPart' hl, wpAny_loadPart' hb
        rw [q1, q2]
        have hri := HT.rcLt_int A.in1 ⟨hp, g, d, tk, os⟩ (ns.getD i 0) t1 (ms.getD i 0) t2 prog w
        wp_walk using hri
        exact h
theorem ltList (l b : Addr) (xs ys : Array Value) (n n2 : Nat) (dd dd2 : Option Addr) (sl sl2 : Array (Option Value)) (ns ms : List Int) (hi : IntsAre xs.toList ns) (hj : IntsAre ys.toList ms) :
    Meets (Builtin.«list.__lt__» ⟨[.ref l, .ref b], []⟩)
      (fun _ R s => s.heap.get? l = some { cls := .type "list", dict := dd, data := .seq xs n, slots := sl } ∧ s.heap.get? b = some { cls := .type "list", dict := dd2, data := .seq ys n2, slots := sl2 } ∧
        R (.ok (.ret (.bool (HT.lexLt ns ms)))) s) := by
  intro prog w A R s h
  obtain ⟨hp, g, d, tk, os⟩ := s
  obtain ⟨hl, hb, h⟩ := h
  have f3 := AutoSeq1.sub_list_list
  wp_walk using wpAny_loadPart' hl, wpAny_loadPart' hb
  refine ⟨plainId_quiet plain_eq_loop _, codeAny_builtin entry_eq_loop ?_⟩
  rw [Around.under_plainId plain_eq_loop _]
  exact ltLoop l b xs ys n n2 dd dd2 sl sl2 ns ms hi hj _ 0 rfl (Nat.zero_le _) (Nat.zero_le _) prog w A R _ ⟨hl, hb, by simpa using h⟩
end
section
variable {prog : Program} {w : World} {A : Around} {E : Value → Shared → Prop} {s : Shared}
theorem one_list {l b : Addr} {xs ys : List Value} {ns ms : List Int} {Q : Bool → Shared → Prop} (hl : PlainL s.heap l xs.toArray) (hb : PlainL s.heap b ys.toArray) (hi : IntsAre xs ns) (hj : IntsAre ys ms) (hu : A.units < cLine)
    (h : Q (HT.lexLt ns ms) s) : wpAny (model prog w) A (oneLt' true (.ref l) (.ref b)) Q E s := by
  obtain ⟨⟨c1, dd, d1, sl⟩, n1, e1, rfl, hd1, rfl⟩ := id hl
  obtain ⟨⟨c2, dd2, d2, sl2⟩, n2, e2, rfl, hd2, rfl⟩ := id hb
  rw [oneLt'_eq]
  simp only [if_true]
  refine wpAny_bind (wpAny_cRoomFor hu ?_)
  refine wpAny_bind (wpAny_callSpecialIfBound?_slot ⟨_, e1, rfl⟩ PySem.F.slot_list_lt ?_)
  refine call_meets PySem.F.slot_list_lt ⟨_, e1, rfl⟩ PySem.F.entry_list_lt (PySem.F.args_list_lt_2 _ _) (ltList l b xs.toArray ys.toArray n1 n2 dd dd2 sl sl2 ns ms (by simpa using hi) (by simpa using hj)) ⟨e1, e2, ?_⟩
  exact wpAny_truthy_bool h
end
end SrtT
set_option Elab.async false
set_option linter.all false
set_option maxRecDepth 100000
set_option maxHeartbeats 4000000
/-! ### sorted, by an order that the heap shows -/
namespace SrtT
open PySem PySem.W PyProof.Rows
def outOf (vs : List Value) (p : Array Nat) : List Value := p.toList.map fun i => vs.getD i Value.none
section
variable {prog : Program} {w : World} {A : Around} {E : Value → Shared → Prop} {s : Shared} {O : KeyOrd} {key : Nat → O.α} {vs : List Value}
def Look (prog : Program) (w : World) (A : Around) (O : KeyOrd) (key : Nat → O.α) (vs : List Value) (s : Shared) : Prop :=
  ∀ h' : Heap, (∀ b o, s.heap.get? b = some o → h'.get? b = some o) → ∃ κ, (2 ≤ vs.length → ∀ (Q : SortKind → Shared → Prop) (E : Value → Shared → Prop), Q κ { s with heap := h' } → wpAny (model prog w) A (keyKind' vs.toArray) Q E { s with heap := h' }) ∧
    Fair key vs.length (kas_ask prog w A κ vs) { s with heap := h' }
theorem upd_hole {h : Heap} {a : Addr} {n : Nat} (qa : h.get? a = some (seqObj "list" vs.toArray n)) : ∃ m, (h.update a (Obj.mapSeq fun _ => (#[] : Array Value))).get? a = some (seqObj "list" #[] m) := ⟨_, get?_update_seq qa fun _ => #[]⟩
theorem sortIn {a : Addr} {n : Nat} {P : PySem.Fin → Shared → Prop} (qa : s.heap.get? a = some (seqObj "list" vs.toArray n)) (hk : ∀ h' : Heap, (∀ b o, b ≠ a → s.heap.get? b = some o → h'.get? b = some o) →
      ∃ κ, (2 ≤ vs.length → ∀ (Q : SortKind → Shared → Prop) (E : Value → Shared → Prop), Q κ { s with heap := h' } → wpAny (model prog w) A (keyKind' vs.toArray) Q E { s with heap := h' }) ∧ Fair key vs.length (kas_ask prog w A κ vs) { s with heap := h' }) (h64 : vs.length < 64)
    (q : ∀ p, Pm vs.length p → Up key p vs.length → P (.done (.ret .none)) { s with heap := sortedHeap s.heap a vs (outOf vs p).toArray }) : wpAny (model prog w) A (Builtin.«list.sort» ⟨[.ref a], []⟩) P E s := by
  have la : a < s.heap.objs.size := Heap.lt_size qa
  obtain ⟨m, q1⟩ := upd_hole qa
  have q6 : (((s.heap.update a (Obj.mapSeq fun _ => (#[] : Array Value))).push (seqObj "tuple" vs.toArray 0)).push (seqObj "list" #[] 0)).get? a = some (seqObj "list" #[] m) := Heap.get?_push_of_some _ (Heap.get?_push_of_some _ q1)
  have keep : ∀ b o, b ≠ a → s.heap.get? b = some o → (((s.heap.update a (Obj.mapSeq fun _ => (#[] : Array Value))).push (seqObj "tuple" vs.toArray 0)).push (seqObj "list" #[] 0)).get? b = some o := fun b o hb e =>
    Heap.get?_push_of_some _ (Heap.get?_push_of_some _ ((Heap.get?_update_ne _ _ _ _ hb).trans e))
  obtain ⟨κ, k1, k2⟩ := hk _ keep
  rw [list_sort_plain]
  refine wpAny_bind (listItems_at qa rfl ?_)
  refine wpAny_bind (listUpdate_at qa rfl ?_ (by rw [List.size_toArray, sizeLine_eq]; omega) (Nat.zero_le _))
  refine wpAny_bind (seqEpoch_at q1 rfl (wpAny_bind (wpAny_newTuple ?_ (by show vs.length ≤ _; rw [sizeLine_eq]; omega))))
  refine wpAny_bind (wpAny_newList (wpAny_holding ?_) (Nat.zero_le _))
  show wpAny (model prog w) A _ P E { s with heap := (((s.heap.update a (Obj.mapSeq fun _ => (#[] : Array Value))).push (seqObj "tuple" vs.toArray 0)).push (seqObj "list" #[] 0)) }
  dsimp only
  have hout : ∀ p, Pm vs.length p → ((p.map (kas_item (pairsOf vs))).map (·.2)) = (outOf vs p).toArray := fun p hp => by
    apply Array.toList_inj.mp
    rw [Array.map_map, Array.toList_map]
    exact List.map_congr_left fun i _ => by show (kas_item (pairsOf vs) i).2 = _; rw [kas_item_eq]
  have hlen : ∀ p, Pm vs.length p → (outOf vs p).toArray.size ≤ sizeLine + 1 := fun p hp => by
    have z := hp.size
    rw [List.size_toArray, outOf, List.length_map, Array.length_toList, z, sizeLine_eq]
    omega
  by_cases h2 : vs.toArray.size < 2
  · rw [if_pos h2, if_pos h2]
    rw [List.size_toArray] at h2
    refine wpAny_bind (wpAny_pure ?_)
    rw [StateT.run_pure]
    refine wpAny_bind (wpAny_pure ?_)
    dsimp only
    have hp : Pm vs.length (List.toArray (List.range vs.length)) := Array.Perm.refl _
    have e0 : (arrOf (SortSt.mk' general' (vs.toArray.zip vs.toArray) #[] 7 none)).map (·.2) = (outOf vs (List.toArray (List.range vs.length))).toArray := by
      rw [← hout _ hp]
      have e := kas_range (pairsOf vs)
      rw [pairsOf_size] at e
      rw [e]
      rfl
    rw [e0]
    refine wpAny_bind (seqEpoch_at q6 rfl (wpAny_bind (listUpdate_at q6 rfl ?_ (Nat.zero_le _) (hlen _ hp))))
    simp only [bne_self_eq_false, Bool.false_eq_true, if_false]
    refine wpAny_pure (q _ hp fun i j a b => ?_)
    have : i = j := by omega
    subst this
    exact KeyOrd.kle_refl _
  · rw [if_neg h2, if_neg h2]
    rw [List.size_toArray] at h2
    refine wpAny_bind (k1 (by omega) _ _ ?_)
    refine wpAny_bind (wpAny_mono (kat_run (κ := κ) (Q := fun st s' => s' = { s with heap := ((s.heap.update a (Obj.mapSeq fun _ => (#[] : Array Value))).push (seqObj "tuple" vs.toArray 0)).push (seqObj "list" #[] 0) } ∧
        ∃ p, Pm vs.length p ∧ Up key p vs.length ∧ arrOf st = p.map (kas_item (pairsOf vs)) ∧ failedOf st = none) (G := fun p s' => s' = { s with heap := ((s.heap.update a (Obj.mapSeq fun _ => (#[] : Array Value))).push (seqObj "tuple" vs.toArray 0)).push (seqObj "list" #[] 0) } ∧ Pm vs.length p ∧ Up key p vs.length)
      rfl (by omega) h64 (fun p st s' _ a1 a2 a3 => ⟨a3.1, p, a3.2.1, a3.2.2, a1, a2⟩) (srt k2 (by omega) fun p a b => ⟨rfl, a, b⟩)) ?_ fun _ _ e => e)
    rintro ⟨⟨⟩, st⟩ s' ⟨rfl, p, hp, hu, har, hfa⟩
    dsimp only
    rw [har, hout p hp]
    refine wpAny_bind (seqEpoch_at q6 rfl (wpAny_bind (listUpdate_at q6 rfl ?_ (Nat.zero_le _) (hlen _ hp))))
    rw [hfa]
    simp only [bne_self_eq_false, Bool.false_eq_true, if_false]
    exact wpAny_pure (q p hp hu)
theorem sortedBy {l : Addr} {Q : Value → Shared → Prop} (hl : s.heap.IsList l vs.toArray) (hk : Look prog w A.in1.in1 O key vs s) (h64 : vs.length < 64)
    (q : ∀ p, Pm vs.length p → Up key p vs.length → Q (.ref (s.heap.objs.size + 1)) { s with heap := sortedAll s.heap vs (outOf vs p).toArray }) : wpAny (model prog w) A (call (.builtin "sorted") [.ref l]) Q E s := by
  refine Calls.call_function_entry kind_sorted plain_sorted entry_sorted (args_sorted1 _) ?_
  unfold Builtin.«sorted»
  refine wpAny_bind (m := checkCount "sorted" 1 1 _) (wpAny_pure (wpAny_bind (collect_list hl (wpAny_bind (wpAny_newList ?_ (by rw [sizeLine_eq]; omega))) (by rw [sizeLine_eq]; omega))))
  have z1 : ((s.heap.push (seqObj "list" #[] 0)).update s.heap.objs.size (Obj.mapSeq (· ++ vs.toArray))).objs.size = s.heap.objs.size + 1 := by rw [Heap.size_update, size_push']
  have q1 : (((s.heap.push (seqObj "list" #[] 0)).update s.heap.objs.size (Obj.mapSeq (· ++ vs.toArray))).push (seqObj "list" vs.toArray 0)).get? (s.heap.objs.size + 1) = some (seqObj "list" vs.toArray 0) := by
    rw [← z1]; exact Heap.get?_push_size _ rfl
  have keep : ∀ b o, s.heap.get? b = some o → (((s.heap.push (seqObj "list" #[] 0)).update s.heap.objs.size (Obj.mapSeq (· ++ vs.toArray))).push (seqObj "list" vs.toArray 0)).get? b = some o := fun b o e => by
    have hlt : b < s.heap.objs.size := Heap.lt_size e
    have n0 : b ≠ s.heap.objs.size := Nat.ne_of_lt hlt
    rw [Heap.get?_push_ne _ _ _ (by rw [z1]; exact Nat.ne_of_lt (Nat.lt_succ_of_lt hlt)), Heap.get?_update_ne _ _ _ _ n0, Heap.get?_push_ne _ _ _ n0]
    exact e
  show wpAny _ _ _ _ _ { s with heap := (((s.heap.push (seqObj "list" #[] 0)).update s.heap.objs.size (Obj.mapSeq (· ++ vs.toArray))).push (seqObj "list" vs.toArray 0)) }
  rw [z1]
  refine wpAny_bind (wpAny_holding (wpAny_call_entry slot_list_sort ⟨_, q1, rfl⟩ entry_list_sort (sortIn (key := key) q1 (fun h' k => hk h' fun b o e => k b o (Nat.ne_of_lt (Nat.lt_succ_of_lt (Heap.lt_size e))) (keep b o e)) h64 fun p a b => ⟨_, rfl, wpAny_pure ⟨_, rfl, q p a b⟩⟩) (args_list_sort _)))
end
/-! the order of lists of ints -/
theorem lex_irr : ∀ a : List Int, HT.lexLt a a = false
  | [] => rfl
  | x :: xs => by rw [HT.lexLt_cons, if_pos rfl, lex_irr xs]
theorem lex_tr : ∀ a b c : List Int, HT.lexLt a b = true → HT.lexLt b c = true → HT.lexLt a c = true
  | [], [], _, h, _ => by simp [HT.lexLt_nil_nil] at h
  | [], _ :: _, [], _, h => by simp [HT.lexLt_cons_nil] at h
  | [], _ :: _, _ :: _, _, _ => rfl
  | _ :: _, [], _, h, _ => by simp [HT.lexLt_cons_nil] at h
  | _ :: _, _ :: _, [], _, h => by simp [HT.lexLt_cons_nil] at h
  | x :: xs, y :: ys, z :: zs, h1, h2 => by
    rw [HT.lexLt_cons] at h1 h2 ⊢
    by_cases e1 : x = y
    · subst e1
      rw [if_pos rfl] at h1
      by_cases e2 : x = z
      · rw [if_pos e2] at h2 ⊢
        exact lex_tr xs ys zs h1 h2
      · rw [if_neg e2] at h2 ⊢
        exact h2
    · rw [if_neg e1] at h1
      by_cases e2 : y = z
      · subst e2
        rw [if_neg e1]
        exact h1
      · rw [if_neg e2] at h2
        have a1 := of_decide_eq_true h1
        have a2 := of_decide_eq_true h2
        rw [if_neg (by omega)]
        exact decide_eq_true (by omega)
theorem lex_nt : ∀ a b c : List Int, HT.lexLt a c = true → HT.lexLt a b = true ∨ HT.lexLt b c = true
  | [], [], [], h => by simp [HT.lexLt_nil_nil] at h
  | [], [], _ :: _, _ => .inr rfl
  | [], _ :: _, _, _ => .inl rfl
  | _ :: _, _, [], h => by simp [HT.lexLt_cons_nil] at h
  | _ :: _, [], _ :: _, _ => .inr rfl
  | x :: xs, y :: ys, z :: zs, h => by
    rw [HT.lexLt_cons] at h
    rw [HT.lexLt_cons, HT.lexLt_cons]
    by_cases e : x = z
    · subst e
      rw [if_pos rfl] at h
      by_cases e1 : x = y
      · subst e1
        rw [if_pos rfl, if_pos rfl]
        exact lex_nt xs ys zs h
      · rw [if_neg e1, if_neg (Ne.symm e1)]
        simp only [decide_eq_true_eq]
        omega
    · rw [if_neg e] at h
      have h := of_decide_eq_true h
      by_cases e1 : x = y
      · subst e1
        rw [if_neg e]
        exact .inr (decide_eq_true h)
      · rw [if_neg e1]
        by_cases h2 : x < y
        · exact .inl (decide_eq_true h2)
        · right
          rw [if_neg (by omega)]
          exact decide_eq_true (by omega)
theorem lex_tot : ∀ a b : List Int, HT.lexLt a b = false → HT.lexLt b a = false → a = b
  | [], [], _, _ => rfl
  | [], _ :: _, h, _ => by simp [HT.lexLt_nil_cons] at h
  | _ :: _, [], _, h => by simp [HT.lexLt_nil_cons] at h
  | x :: xs, y :: ys, h1, h2 => by
    rw [HT.lexLt_cons] at h1 h2
    by_cases e : x = y
    · subst e
      rw [if_pos rfl] at h1 h2
      rw [lex_tot xs ys h1 h2]
    · rw [if_neg e] at h1
      rw [if_neg (Ne.symm e)] at h2
      have a1 := of_decide_eq_false h1
      have a2 := of_decide_eq_false h2
      omega
def lexO : KeyOrd := ⟨List Int, HT.lexLt, lex_irr, lex_tr, lex_nt, lex_tot⟩
end SrtT
namespace L2
open PySem PySem.Spec PyProof.Rows
section
variable {X : Cx}
/-- xs moved by p -/
def mvd {α : Type} (xs : List α) (d : α) (p : Array Nat) : List α := p.toList.map fun i => xs.getD i d
theorem getD_lt' {α : Type} {xs : List α} {i : Nat} {d : α} (h : i < xs.length) : xs.getD i d = xs[i] := by simp [h]
theorem vals_mvd {xs : List V} {us : List Value} (r : Vals xs us) : ∀ is : List Nat, (∀ i ∈ is, i < xs.length) → Vals (is.map fun i => xs.getD i .non) (is.map fun i => us.getD i Value.none)
  | [], _ => .nil
  | i :: is, h => by
    refine .cons ?_ (vals_mvd r is fun j hj => h j (by simp [hj]))
    have hi := h i (by simp)
    obtain ⟨u, e, ru⟩ := r.get (i := i) (x := xs[i]) (by simp [hi])
    have e2 : us.getD i Value.none = u := by rw [List.getD_eq_getElem?_getD, e]; rfl
    show RelV (xs.getD i .non) (us.getD i Value.none)
    rw [getD_lt' hi, e2]
    exact ru
theorem plain_kept {h h' : Heap} {a : Addr} {its : Array Value} (p : PlainL h a its) (k : ∀ b o, h.get? b = some o → h'.get? b = some o) : PlainL h' a its :=
  let ⟨o, n, e, r⟩ := p
  ⟨o, n, k _ _ e, r⟩
/-- sorted of lists of ints: as the order of lists has them -/
theorem call_sortedL (hu : X.A.units + 64 < cLine) : CallR X (.builtin "sorted") (fun xs H Q => ∃ (a : Addr) (rs : List (Addr × List Int)), xs = [.ref a] ∧ SqL X.K H a (rs.map fun r => V.ref r.1) ∧ rs.length < 64 ∧ (∀ r ∈ rs, SqL X.K H r.1 (r.2.map V.int)) ∧
    ∀ (D : Addr) (rs' : List (Addr × List Int)), H D = none → rs'.Perm rs → rs'.Pairwise (fun r q => HT.lexLt q.2 r.2 = false) → Q (.ref D) (upd H D (.lst (rs'.map fun r => V.ref r.1)))) := by
  intro pins s σ H xs us Q I rv h
  obtain ⟨a, rs, rfl, hq, h64, hrs, q⟩ := h
  obtain ⟨u, rfl, ru⟩ := rv.one
  cases ru
  obtain ⟨its, r, pl, hz⟩ := I.list hq
  have hlen : its.length = rs.length := by rw [← r.length, List.length_map]
  have hat : ∀ i, i < rs.length → its.getD i Value.none = .ref (rs.getD i (0, [])).1 := fun i hi => by
    obtain ⟨v, e, rv⟩ := r.get (i := i) (x := .ref rs[i].1) (by simp [hi])
    cases rv
    rw [List.getD_eq_getElem?_getD, e, getD_lt' hi]
    rfl
  have hrow : ∀ i, i < rs.length → ∃ vs, PlainL s.heap (rs.getD i (0, [])).1 vs.toArray ∧ IntsAre vs (rs.getD i (0, [])).2 := fun i hi => by
    rw [getD_lt' hi]
    obtain ⟨vs, r1, p1, _⟩ := I.list (hrs rs[i] (List.getElem_mem hi))
    exact ⟨vs, p1, ints_of r1⟩
  refine SrtT.sortedBy (O := SrtT.lexO) (key := fun i => (rs.getD i (0, [])).2) pl.isList (fun h' k => ⟨oneType', fun h2 Q' E' q' => ?_, fun i j C hi hj c => ?_⟩) (by omega) fun p hp hup => ?_
  · refine PySem.W.kas_kind (T := .type "list") h2 (fun v hv => ?_) (by rfl) (by rfl) q'
    obtain ⟨i, hi, rfl⟩ := List.getElem_of_mem hv
    have e := hat i (by omega)
    rw [getD_lt' hi] at e
    rw [e]
    obtain ⟨vs, ⟨o, n, e1, e2, _⟩, _⟩ := hrow i (by omega)
    rw [← e2]
    exact (PySem.W.Looks.ld (k _ _ e1)).andThen .now
  · unfold PySem.W.kas_ask
    rw [hat i (by omega), hat j (by omega), keyLt'_oneType]
    obtain ⟨vi, pi, ii⟩ := hrow i (by omega)
    obtain ⟨vj, pj, ij⟩ := hrow j (by omega)
    exact SrtT.one_list (plain_kept pi k) (plain_kept pj k) ii ij (by show X.A.units + 1 + 1 < cLine; omega) c
  · rw [hlen] at hp hup
    have hin : ∀ i ∈ p.toList, i < rs.length := fun i hi => by
      obtain ⟨k, hk, rfl⟩ := List.getElem_of_mem hi
      rw [Array.length_toList, hp.size] at hk
      have e := hp.lt hk
      simpa [Array.getD, hp.size, hk] using e
    obtain ⟨e, he⟩ := sortedAll_at s.heap its (SrtT.outOf its p).toArray
    refine ⟨.ref _, _, I.laid (t' := s.toks) (o := .lst ((mvd rs (0, []) p).map fun r => V.ref r.1)) (fun b o => sortedAll_old) (Nat.le_succ _) ⟨?_, SrtT.outOf its p, e, ?_, he⟩, rfl, q _ (mvd rs (0, []) p) (I.hok.fresh (Nat.le_succ _)) ?_ ?_⟩
    · rw [List.length_map, mvd, List.length_map, Array.length_toList, hp.size, sizeLine_eq]
      omega
    · have hv := vals_mvd r p.toList (fun i hi => by rw [List.length_map]; exact hin i hi)
      unfold SrtT.outOf mvd
      rw [List.map_map]
      refine cast (congrArg (fun z => Vals z _) (List.map_congr_left fun i hi => ?_)) hv
      have := hin i hi
      simp [this]
    · have h1 := (Array.perm_iff_toList_perm.mp hp).map fun i => rs.getD i (0, [])
      have h2 : (List.range rs.length).map (fun i => rs.getD i (0, [])) = rs := by
        apply List.ext_getElem (by simp)
        intro i a b
        simp [b]
      unfold mvd
      rw [show (List.toArray (List.range rs.length)).toList = List.range rs.length from rfl, h2] at h1
      exact h1
    · rw [List.pairwise_iff_getElem]
      intro i j hi hj hij
      unfold mvd at hi hj ⊢
      rw [List.length_map, Array.length_toList, hp.size] at hi hj
      have := hup i j (by omega) hj
      unfold SrtT.kk at this
      simp [Array.getD, hp.size, hi, hj] at this ⊢
      exact this
end
end L2
/-! ### sorted of tuples of ints -/
namespace SrtT
open PySem PySem.W PyProof.Rows
section
variable {prog : Program} {w : World} {A : Around} {E : Value → Shared → Prop} {s : Shared}
theorem lexK {b : Bool} {Q : Bool → Shared → Prop} : ∀ {xs ys : List Value} {ns ms : List Int} (fin : Bool) (i : Nat), IntsAre xs ns → IntsAre ys ms → (fin = true ↔ ns.length < ms.length) → Q (HT.lexLt ns ms) s → KatLex prog w A b fin Q (xs.zip ys) i s
  | _, _, _, _, fin, i, .nil, .nil, hf, q => by
    have : fin = false := by
      cases fin with
      | false => rfl
      | true => simp at hf
    subst this
    exact kat_nil q
  | _, _, _, _, fin, i, .nil, .cons m t r, hf, q => by
    have : fin = true := hf.mpr (by simp)
    subst this
    exact kat_nil q
  | _, _, _, _, fin, i, .cons m t r, .nil, hf, q => by
    have : fin = false := by
      cases fin with
      | false => rfl
      | true => simp at hf
    subst this
    exact kat_nil q
  | _, _, _, _, fin, i, .cons n t r, .cons m u r', hf, q => by
    rw [HT.lexLt_cons] at q
    refine kat_cons (wpAny_eqBool_int ?_)
    by_cases e : n = m
    · subst e
      rw [if_pos rfl] at q
      rw [show (n == n) = true by simp]
      exact kat_yes (lexK fin (i + 1) r r' (by simpa using hf) q)
    · rw [if_neg e] at q
      rw [show (n == m) = false by simp [e]]
      refine kat_no ?_
      cases b && i == 0 with
      | true => exact oneLt_int q
      | false => exact kat_one _ _ (lt_int q)
end
end SrtT
namespace L2
open PySem PySem.Spec PyProof.Rows
section
variable {X : Cx}
theorem tups_of {h : Heap} : ∀ {vs fs : List Value}, vs.length = fs.length → (∀ i, i < vs.length → ∃ a o xs n, vs.getD i Value.none = .ref a ∧ h.get? a = some o ∧ o.cls = .type "tuple" ∧ o.data = .seq xs n ∧ xs[0]? = some (fs.getD i Value.none)) → PySem.W.KatTups h vs fs
  | [], [], _, _ => .nil
  | v :: vs, f :: fs, hl, hg => by
    obtain ⟨a, o, xs, n, e1, e2, e3, e4, e5⟩ := hg 0 (by simp)
    have e1 : v = .ref a := by simpa using e1
    subst e1
    refine .cons e2 e3 e4 (by simpa using e5) (tups_of (by simpa using hl) fun i hi => ?_)
    simpa using hg (i + 1) (by simpa using hi)
/-- sorted of tuples of ints, none empty -/
theorem call_sortedT (hu : X.A.units + 64 < cLine) : CallR X (.builtin "sorted") (fun xs H Q => ∃ (a : Addr) (rs : List (Addr × List Int)), xs = [.ref a] ∧ SqL X.K H a (rs.map fun r => V.ref r.1) ∧ rs.length < 64 ∧ (∀ r ∈ rs, SqT X.K H r.1 (r.2.map V.int) ∧ 0 < r.2.length) ∧
    ∀ (D : Addr) (rs' : List (Addr × List Int)), H D = none → rs'.Perm rs → rs'.Pairwise (fun r q => HT.lexLt q.2 r.2 = false) → Q (.ref D) (upd H D (.lst (rs'.map fun r => V.ref r.1)))) := by
  intro pins s σ H xs us Q I rv h
  obtain ⟨a, rs, rfl, hq, h64, hrs, q⟩ := h
  obtain ⟨u, rfl, ru⟩ := rv.one
  cases ru
  obtain ⟨its, r, pl, hz⟩ := I.list hq
  have hlen : its.length = rs.length := by rw [← r.length, List.length_map]
  have hat : ∀ i, i < rs.length → its.getD i Value.none = .ref (rs.getD i (0, [])).1 := fun i hi => by
    obtain ⟨v, e, rv⟩ := r.get (i := i) (x := .ref rs[i].1) (by simp [hi])
    cases rv
    rw [List.getD_eq_getElem?_getD, e, getD_lt' hi]
    rfl
  have hrow : ∀ i, i < rs.length → ∃ vs, IsTup s.heap (rs.getD i (0, [])).1 vs.toArray ∧ IntsAre vs (rs.getD i (0, [])).2 ∧ 0 < vs.length := fun i hi => by
    rw [getD_lt' hi]
    obtain ⟨h1, h2⟩ := hrs rs[i] (List.getElem_mem hi)
    obtain ⟨vs, r1, p1, _⟩ := I.tuple h1
    exact ⟨vs, p1, ints_of r1, by rw [← r1.length, List.length_map]; exact h2⟩
  refine SrtT.sortedBy (O := SrtT.lexO) (key := fun i => (rs.getD i (0, [])).2) pl.isList (fun h' k => ⟨tuples' (Value.type "int" != Value.type "tuple"), fun h2 Q' E' q' => ?_, fun i j C hi hj c => ?_⟩) (by omega) fun p hp hup => ?_
  · have hf : ∀ i, ∃ f : Value, i < rs.length → ∃ t, f = .int ((rs.getD i (0, [])).2.getD 0 0) t ∧ ∃ a o xs n, its.getD i Value.none = .ref a ∧ h'.get? a = some o ∧ o.cls = .type "tuple" ∧ o.data = .seq xs n ∧ xs[0]? = some f := fun i => by
      by_cases hi : i < rs.length
      · obtain ⟨vs, ⟨o, e1, e2, n, e3⟩, i2, l2⟩ := hrow i hi
        obtain ⟨t, e4⟩ := SrtT.ints_get (i := 0) i2 (by rw [← i2.length]; exact l2)
        exact ⟨_, fun _ => ⟨t, rfl, _, o, _, n, hat i hi, k _ _ e1, e2, e3, by simpa using e4⟩⟩
      · exact ⟨.none, fun z => absurd z hi⟩
    let fs := (List.range rs.length).map fun i => Classical.choose (hf i)
    have hfs : ∀ i, i < rs.length → fs.getD i Value.none = Classical.choose (hf i) := fun i hi => by simp [fs, hi]
    refine PySem.W.kat_kind (vs := its) (fs := fs) (T := .type "int") (tups_of (by simp [fs, hlen]) fun i hi => ?_) (by simp [fs]; omega) (fun v hv => ?_) (by rfl) q'
    · rw [hfs i (by omega)]
      obtain ⟨t, _, z⟩ := Classical.choose_spec (hf i) (by omega)
      exact z
    · obtain ⟨i, hi, rfl⟩ := List.mem_map.mp hv
      obtain ⟨t, e, _⟩ := Classical.choose_spec (hf i) (List.mem_range.mp hi)
      rw [e]
      exact .of_pure rfl
  · unfold PySem.W.kas_ask
    rw [hat i (by omega), hat j (by omega)]
    obtain ⟨vi, ⟨o1, a1, b1, n1, c1⟩, ii, _⟩ := hrow i (by omega)
    obtain ⟨vj, ⟨o2, a2, b2, n2, c2⟩, ij, _⟩ := hrow j (by omega)
    refine PySem.W.kat_lt (k _ _ a1) c1 (k _ _ a2) c2 (SrtT.lexK _ 0 (by simpa using ii) (by simpa using ij) ?_ c)
    rw [decide_eq_true_eq, List.size_toArray, List.size_toArray, ii.length, ij.length]
  · rw [hlen] at hp hup
    have hin : ∀ i ∈ p.toList, i < rs.length := fun i hi => by
      obtain ⟨k, hk, rfl⟩ := List.getElem_of_mem hi
      rw [Array.length_toList, hp.size] at hk
      have e := hp.lt hk
      simpa [Array.getD, hp.size, hk] using e
    obtain ⟨e, he⟩ := sortedAll_at s.heap its (SrtT.outOf its p).toArray
    refine ⟨.ref _, _, I.laid (t' := s.toks) (o := .lst ((mvd rs (0, []) p).map fun r => V.ref r.1)) (fun b o => sortedAll_old) (Nat.le_succ _) ⟨?_, SrtT.outOf its p, e, ?_, he⟩, rfl, q _ (mvd rs (0, []) p) (I.hok.fresh (Nat.le_succ _)) ?_ ?_⟩
    · rw [List.length_map, mvd, List.length_map, Array.length_toList, hp.size, sizeLine_eq]
      omega
    · have hv := vals_mvd r p.toList (fun i hi => by rw [List.length_map]; exact hin i hi)
      unfold SrtT.outOf mvd
      rw [List.map_map]
      refine cast (congrArg (fun z => Vals z _) (List.map_congr_left fun i hi => ?_)) hv
      have := hin i hi
      simp [this]
    · have h1 := (Array.perm_iff_toList_perm.mp hp).map fun i => rs.getD i (0, [])
      have h2 : (List.range rs.length).map (fun i => rs.getD i (0, [])) = rs := by
        apply List.ext_getElem (by simp)
        intro i a b
        simp [b]
      unfold mvd
      rw [show (List.toArray (List.range rs.length)).toList = List.range rs.length from rfl, h2] at h1
      exact h1
    · rw [List.pairwise_iff_getElem]
      intro i j hi hj hij
      unfold mvd at hi hj ⊢
      rw [List.length_map, Array.length_toList, hp.size] at hi hj
      have := hup i j (by omega) hj
      unfold SrtT.kk at this
      simp [Array.getD, hp.size, hi, hj] at this ⊢
      exact this
end
end L2
set_option Elab.async false
set_option linter.all false
set_option maxRecDepth 100000
set_option maxHeartbeats 4000000
namespace L2
open PySem PySem.Spec PyProof.Rows
/-- a comprehension whose items are new objects, all taken -/
theorem comp_objs {α : Type} {J : It} {ms : List α} {σ0 : St} {H1 : Hp} {te : TE} {Q : VK} (u : α → V) (o : α → HO) (hn : ms.length ≤ 1000)
    (hgo : ∀ i H', i < ms.length → Same H1 H' → J.go i H') (hst : ∀ H', Same H1 H' → J.stop ms.length H') (hy : ∀ i H' x H2 (h : i < ms.length), Same H1 H' → J.yld i H' x H2 → H2 = H' ∧ x = u ms[i])
    (he : ∀ x ∈ ms, ∀ (H' : Hp) (Q' : VK), Same H1 H' → (∀ l H'', H' l = none → Same H' H'' → H'' l = some (o x) → Q' (.ref l) H'') → te (σ0.set 0 (some (u x))) H' Q')
    (fin : ∀ (D : Addr) (qs : List (Addr × α)) (H' : Hp), H1 D = none → qs.map (·.2) = ms → (qs.map (·.1)).Nodup → (∀ q ∈ qs, H' q.1 = some (o q.2) ∧ H1 q.1 = none ∧ q.1 ≠ D) → Same H1 H' → H' D = some (.lst (qs.map fun q => V.ref q.1)) → Q (.ref D) H') :
    CompRun J (gName 0) tTrue te σ0 H1 Q := by
  intro D hD
  refine comp_by (n := ms.length) (fun i ys H' => ∃ qs : List (Addr × α), Same H1 H' ∧ H' D = some (.lst ys) ∧ ys = (qs.map fun q => V.ref q.1) ∧ qs.map (·.2) = ms.take i ∧ (qs.map (·.1)).Nodup ∧ ∀ q ∈ qs, H' q.1 = some (o q.2) ∧ H1 q.1 = none ∧ q.1 ≠ D)
    ⟨[], Same.new hD, upd_same, rfl, by simp, List.nodup_nil, fun q hq => nomatch hq⟩ (fun i ys H' _ ⟨_, _, e, _⟩ => e) (fun i ys H' hi ⟨_, sm, _⟩ => hgo i H' hi sm) (fun ys H' ⟨_, sm, _⟩ => hst H' sm) ?_ (fun ys H' h => ?_)
  · rintro i ys H' x H2 hi ⟨qs, sm, hDl, hys, hqm, hnd, hq⟩ y
    obtain ⟨rfl, rfl⟩ := hy i H' x H2 hi sm y
    unfold tTrue
    refine iteT (he ms[i] (List.getElem_mem hi) _ _ sm fun l H5 hl s5 el => ?_)
    have nlD : D ≠ l := ne_of_none hDl hl
    have ql : qs.length = i := by
      have := congrArg List.length hqm
      rw [List.length_map, List.length_take] at this
      omega
    refine ⟨s5 _ _ hDl, ?_, qs ++ [(l, ms[i])], (sm.trans s5).upd hD, upd_same, ?_, ?_, ?_, ?_⟩
    · rw [hys, List.length_map, ql]
      exact small1000 (by omega)
    · rw [hys, List.map_append]
      rfl
    · rw [List.map_append, hqm, List.take_add_one, List.getElem?_eq_getElem hi]
      rfl
    · rw [List.map_append, List.nodup_append]
      refine ⟨hnd, by simp, fun a ha b hb e => ?_⟩
      obtain ⟨q, hq1, rfl⟩ := List.mem_map.mp ha
      have hb : b = l := by simpa using hb
      subst hb
      have := (hq q hq1).1
      rw [e, hl] at this
      cases this
    · intro q hq1
      rcases List.mem_append.mp hq1 with z | z
      · obtain ⟨z1, z2, z3⟩ := hq q z
        exact ⟨by rw [upd_ne z3]; exact s5 _ _ z1, z2, z3⟩
      · have : q = (l, ms[i]) := by simpa using z
        subst this
        exact ⟨by rw [upd_ne (Ne.symm nlD)]; exact el, sm.free hl, Ne.symm nlD⟩
  · obtain ⟨qs, sm, hDl, hys, hqm, hnd, hq⟩ := h
    rw [List.take_length] at hqm
    exact fin D qs H' hD hqm hnd hq sm (by rw [← hys]; exact hDl)
/-- over a list -/
theorem comp_objsL {α : Type} {K : PySem.W.Frag} {a : Addr} {ms : List α} {σ0 : St} {H1 : Hp} {te : TE} {Q : VK} (u : α → V) (o : α → HO) (hq : SqL K H1 a (ms.map u)) (hn : ms.length ≤ 1000)
    (he : ∀ x ∈ ms, ∀ (H' : Hp) (Q' : VK), Same H1 H' → (∀ l H'', H' l = none → Same H' H'' → H'' l = some (o x) → Q' (.ref l) H'') → te (σ0.set 0 (some (u x))) H' Q')
    (fin : ∀ (D : Addr) (qs : List (Addr × α)) (H' : Hp), H1 D = none → qs.map (·.2) = ms → (qs.map (·.1)).Nodup → (∀ q ∈ qs, H' q.1 = some (o q.2) ∧ H1 q.1 = none ∧ q.1 ≠ D) → Same H1 H' → H' D = some (.lst (qs.map fun q => V.ref q.1)) → Q (.ref D) H') :
    CompRun (Itl K a) (gName 0) tTrue te σ0 H1 Q :=
  comp_objs u o hn (fun i H' hi sm => ⟨ms.map u, u ms[i], sm.seq hq, by simp [hi]⟩) (fun H' sm => ⟨ms.map u, sm.seq hq, by simp⟩) (fun i H' x H2 hi sm y => ⟨y.1, by
    have := y.2 _ (sm.seq hq)
    rw [List.getElem?_map, List.getElem?_eq_getElem hi] at this
    exact (Option.some.inj this).symm⟩) he fin
section
variable {X : Cx}
/-- x in a list, by what both read as -/
def rInD (K : PySem.W.Frag) (neg : Bool) : R2 := fun x y H Q => ∃ (dx : PyData) (ds : List PyData), RdD K H x dx ∧ RdD K H y (.list ds) ∧ SeqAt.shaped dx = true ∧ SeqAt.shaped (.list ds) = true ∧ Q (.bl (if neg then !(ds.any fun d => PyData.eqv d dx) else ds.any fun d => PyData.eqv d dx)) H
end
end L2
set_option Elab.async false
set_option linter.all false
set_option maxRecDepth 100000
set_option maxHeartbeats 4000000
namespace L2
open PySem PySem.Spec PyProof.Rows
/-! ### any thing, by what it reads as; its objects none of S -/
mutual
inductive RdS (S : List Addr) (H : Hp) : V → PyData → Prop
  | non : RdS S H .non .none
  | bl (b : Bool) : RdS S H (.bl b) (.bool b)
  | int (i : Int) : RdS S H (.int i) (.int i)
  | str (x : Str) : RdS S H (.str x) (.str x)
  | lst {a : Addr} {xs : List V} {ds : List PyData} : H a = some (.lst xs) → a ∉ S → RdSs S H xs ds → RdS S H (.ref a) (.list ds)
  | tup {a : Addr} {xs : List V} {ds : List PyData} : H a = some (.tup xs) → a ∉ S → RdSs S H xs ds → RdS S H (.ref a) (.tuple ds)
  | dct {a : Addr} : H a = some (.dK []) → a ∉ S → RdS S H (.ref a) (.dict [])
inductive RdSs (S : List Addr) (H : Hp) : List V → List PyData → Prop
  | nil : RdSs S H [] []
  | cons {x : V} {d : PyData} {xs : List V} {ds : List PyData} : RdS S H x d → RdSs S H xs ds → RdSs S H (x :: xs) (d :: ds)
end
mutual
theorem RdS.move {S S' : List Addr} {H H' : Hp} (k : ∀ b o, b ∉ S → H b = some o → H' b = some o) (ss : ∀ b, b ∉ S → b ∉ S') : ∀ {x : V} {d : PyData}, RdS S H x d → RdS S' H' x d
  | _, _, .non => .non
  | _, _, .bl b => .bl b
  | _, _, .int i => .int i
  | _, _, .str x => .str x
  | _, _, .lst e n r => .lst (k _ _ n e) (ss _ n) (RdSs.move k ss r)
  | _, _, .tup e n r => .tup (k _ _ n e) (ss _ n) (RdSs.move k ss r)
  | _, _, .dct e n => .dct (k _ _ n e) (ss _ n)
theorem RdSs.move {S S' : List Addr} {H H' : Hp} (k : ∀ b o, b ∉ S → H b = some o → H' b = some o) (ss : ∀ b, b ∉ S → b ∉ S') : ∀ {xs : List V} {ds : List PyData}, RdSs S H xs ds → RdSs S' H' xs ds
  | _, _, .nil => .nil
  | _, _, .cons h t => .cons (RdS.move k ss h) (RdSs.move k ss t)
end
theorem RdS.same {S : List Addr} {H H' : Hp} {x : V} {d : PyData} (r : RdS S H x d) (s : Same H H') : RdS S H' x d := r.move (fun b o _ e => s b o e) fun _ n => n
theorem RdSs.same {S : List Addr} {H H' : Hp} {xs : List V} {ds : List PyData} (r : RdSs S H xs ds) (s : Same H H') : RdSs S H' xs ds := r.move (fun b o _ e => s b o e) fun _ n => n
theorem RdS.any {S : List Addr} {H : Hp} {x : V} {d : PyData} (r : RdS S H x d) : RdS [] H x d := r.move (fun _ _ _ e => e) fun _ _ => by simp
theorem RdSs.length {S : List Addr} {H : Hp} : ∀ {xs : List V} {ds : List PyData}, RdSs S H xs ds → xs.length = ds.length
  | _, _, .nil => rfl
  | _, _, .cons _ t => by simp [t.length]
theorem RdSs.pairs {S : List Addr} {H : Hp} : ∀ {xs : List V} {ds : List PyData}, RdSs S H xs ds → ∃ ms : List (V × PyData), xs = ms.map (·.1) ∧ ds = ms.map (·.2) ∧ ∀ m ∈ ms, RdS S H m.1 m.2
  | _, _, .nil => ⟨[], rfl, rfl, fun m h => nomatch h⟩
  | _, _, .cons (x := x) (d := d) h t => by
    obtain ⟨ms, e1, e2, hm⟩ := t.pairs
    refine ⟨(x, d) :: ms, by rw [e1]; rfl, by rw [e2]; rfl, fun m hmm => ?_⟩
    rcases List.mem_cons.mp hmm with rfl | z
    · exact h
    · exact hm m z
/-- its type -/
def tyD : PyData → String
  | .none => "NoneType"
  | .bool _ => "bool"
  | .int _ => "int"
  | .str _ => "str"
  | .list _ => "list"
  | .tuple _ => "tuple"
  | .dict _ => "dict"
theorem RdS.ty {S : List Addr} {H : Hp} {K : PySem.W.Frag} : ∀ {x : V} {d : PyData}, RdS S H x d → TyOf K H x (.type (tyD d))
  | _, _, .non => .non
  | _, _, .bl b => .bl b
  | _, _, .int i => .int i
  | _, _, .str x => .str x
  | _, _, .lst e _ _ => .lst e
  | _, _, .tup e _ _ => .tup e
  | _, _, .dct e _ => .dK e
def isIntD : PyData → Bool
  | .int _ => true
  | _ => false
theorem kit_int (K : PySem.W.Frag) (d : PyData) : PySem.W.kitOne K (.type (tyD d)) (.type "int") = some (match d with | .int _ => true | .bool _ => true | _ => false) := by
  cases d <;> (simp only [tyD]; kernel_rfl)
theorem kit_bool (K : PySem.W.Frag) (d : PyData) : PySem.W.kitOne K (.type (tyD d)) (.type "bool") = some (match d with | .bool _ => true | _ => false) := by
  cases d <;> (simp only [tyD]; kernel_rfl)
theorem kit_list (K : PySem.W.Frag) (d : PyData) : PySem.W.kitOne K (.type (tyD d)) (.type "list") = some (match d with | .list _ => true | _ => false) := by
  cases d <;> (simp only [tyD]; kernel_rfl)
/-! ### repr -/
section
variable {P : Program} {w : World} {H : Hp} {h : Heap} {S : List Addr}
theorem dict_empty (ok : HOk P w H h) {a : Addr} (e : H a = some (.dK [])) : (a == sysModules) = false ∧ ∃ o n, h.get? a = some o ∧ o.cls = .type "dict" ∧ o.data = .dict #[] n := by
  obtain ⟨_, y, vs, r, o, es, ep, e1, c, d, _, pr, _⟩ := (show ObjOk P w H h a (.dK []) from ok a _ e)
  cases r
  have hl : es.toList.length = 0 := pr.length
  have he : es = #[] := by
    cases es with
    | mk l =>
      have : l = [] := List.length_eq_zero_iff.mp hl
      rw [this]
  rw [he] at d
  exact ⟨y, o, ep, e1, c.1, d⟩
mutual
theorem RdS.shows (ok : HOk P w H h) : ∀ {x : V} {d : PyData} {u : Value}, RdS S H x d → RelV x u → d.showable = true → d.shown.length ≤ sizeLine →
    (∃ as, Reads h u d as) ∧ ∃ bs, ReadAtMost h d.depth bs ∧ ReprK P w bs h d.depth u d.shown
  | _, _, _, .non, r, _, _ => by cases r; exact ⟨⟨_, .none⟩, [], (fun _ h => nomatch h), by simp only [PyData.shown]; exact .of_is ReprIs.none _ _ _⟩
  | _, _, _, .bl b, r, _, _ => by cases r; exact ⟨⟨_, .bool b⟩, [], (fun _ h => nomatch h), by simp only [PyData.shown]; exact .of_is (ReprIs.bool b) _ _ _⟩
  | _, _, _, .int i, r, hs, _ => by obtain ⟨t, rfl⟩ := r; exact ⟨⟨_, .int i t⟩, [], (fun _ h => nomatch h), by simp only [PyData.shown]; exact .of_is (ReprIs.int t (by simpa [PyData.showable] using hs)) _ _ _⟩
  | _, _, _, .str x, r, _, hz => by obtain ⟨t, rfl⟩ := r; exact ⟨⟨_, .str x t⟩, [], (fun _ h => nomatch h), by simp only [PyData.shown]; exact .of_is (ReprIs.str x t (by simpa only [PyData.shown] using hz)) _ _ _⟩
  | _, _, _, .lst (a := a) (ds := ds) e _ ra, r, hs, hz => by
    cases r
    obtain ⟨_, its, n, rv, e1⟩ := (show ObjOk P w H h a (.lst _) from ok a _ e)
    have hz' : (listText (PyData.shownAll ds)).length ≤ sizeLine := by simpa only [PyData.shown] using hz
    obtain ⟨⟨as, rr⟩, bs, hb, hk⟩ := RdSs.shows ok ra rv (by simpa [PyData.showable] using hs) (fun t ht => Nat.le_trans (listText_mem_le ht) hz')
    have rd : Reads h (.ref a) (.list ds) (a :: as) := .list e1 rfl rfl (by simpa using rr)
    have hna : a ∉ bs := not_mem_of_deeper rd (by simp only [PyData.depth]; omega) hb
    refine ⟨⟨_, rd⟩, a :: bs, ReadAtMost.cons rd (by simp only [PyData.depth]; omega) hb, ?_⟩
    simp only [PyData.depth, PyData.shown]
    cases its with
    | nil =>
      cases rr
      simp only [PyData.shownAll, listText_nil]
      exact ReprK.listEmpty e1 rfl rfl
    | cons x l => exact ReprK.list e1 rfl rfl hna (by simpa using hk.length_eq) (fun i y e => hk.item i y (by simpa using e))
  | _, _, _, .tup (a := a) (ds := ds) e _ ra, r, hs, hz => by
    cases r
    obtain ⟨_, its, rv, o, e1, c, n, dt⟩ := (show ObjOk P w H h a (.tup _) from ok a _ e)
    have hz' : (tupleText (PyData.shownAll ds)).length ≤ sizeLine := by simpa only [PyData.shown] using hz
    obtain ⟨⟨as, rr⟩, bs, hb, hk⟩ := RdSs.shows ok ra rv (by simpa [PyData.showable] using hs) (fun t ht => Nat.le_trans (tupleText_mem_le ht) hz')
    have rd : Reads h (.ref a) (.tuple ds) as := .tuple e1 c dt (by simpa using rr)
    have hna : a ∉ bs := not_mem_of_deeper rd (by simp only [PyData.depth]; omega) hb
    refine ⟨⟨_, rd⟩, a :: bs, ReadAtMost.cons rd (by simp only [PyData.depth]; omega) hb, ?_⟩
    simp only [PyData.depth, PyData.shown]
    exact ReprK.tuple e1 c dt hna (by simpa using hk)
  | _, _, _, .dct (a := a) e _, r, hs, hz => by
    cases r
    obtain ⟨hsys, o, n, e1, c, dt⟩ := dict_empty ok e
    have rd : Reads h (.ref a) (.dict []) (a :: [] ++ []) := .dict (kvs := []) e1 c dt .nil .nil
    refine ⟨⟨_, rd⟩, a :: [], ReadAtMost.cons (n := 0) rd (Nat.zero_le _) (fun _ h => nomatch h), ?_⟩
    simp only [PyData.depth, PyData.depthKv, PyData.shown, PyData.shownKv]
    exact ReprK.dict e1 c dt hsys (by simp) .nil
theorem RdSs.shows (ok : HOk P w H h) : ∀ {xs : List V} {ds : List PyData} {us : List Value}, RdSs S H xs ds → Vals xs us → PyData.showableAll ds = true → (∀ t ∈ PyData.shownAll ds, t.length ≤ sizeLine) →
    (∃ as, ReadsAll h us ds as) ∧ ∃ bs, ReadAtMost h (PyData.depthAll ds) bs ∧ ReprAllK P w bs h (PyData.depthAll ds) us (PyData.shownAll ds)
  | _, _, _, .nil, .nil, _, _ => ⟨⟨_, .nil⟩, [], (fun _ h => nomatch h), by simp only [PyData.shownAll]; exact .nil⟩
  | _, _, _, .cons (d := d) (ds := ds) r rs, .cons v vs, hs, hz => by
    have hs' : d.showable = true ∧ PyData.showableAll ds = true := by simpa [PyData.showableAll] using hs
    obtain ⟨⟨a1, r1⟩, b1, hb1, k1⟩ := RdS.shows ok r v hs'.1 (hz _ (by simp only [PyData.shownAll]; exact List.mem_cons_self ..))
    obtain ⟨⟨a2, r2⟩, b2, hb2, k2⟩ := RdSs.shows ok rs vs hs'.2 (fun t ht => hz t (by simp only [PyData.shownAll]; exact List.mem_cons_of_mem _ ht))
    refine ⟨⟨_, .cons r1 r2⟩, b1 ++ b2, ?_, ?_⟩
    · simp only [PyData.depthAll]
      exact (hb1.mono (Nat.le_max_left _ _)).append (hb2.mono (Nat.le_max_right _ _))
    · simp only [PyData.depthAll, PyData.shownAll]
      exact .cons ((k1.more fun b hb => List.mem_append_left _ hb).level_le (Nat.le_max_left _ _)) (k2.more_le (fun b hb => List.mem_append_right _ hb) (Nat.le_max_right _ _))
end
end
end L2
namespace L2
open PySem PySem.Spec PyProof.Rows
section
variable {X : Cx}
theorem Inv.big {pins : List (Addr × Obj)} {σ : St} {H : Hp} {s : Shared} (I : Inv X pins σ H s) : sysModules < s.heap.objs.size := by
  have h : mainGlobals < s.heap.objs.size := (I.mod.glob.keeps I.bk).lt
  exact Nat.lt_trans (by decide) h
/-- repr of any thing -/
def rRepr : List V → Hp → VK → Prop := fun xs H Q => ∃ x d, xs = [x] ∧ RdS [] H x d ∧ d.showable = true ∧ d.shown.length ≤ sizeLine ∧ d.depth ≤ 60 ∧ Q (.str d.shown) H
theorem call_reprS (hg : X.A.guards = some []) (hu : X.A.units + 64 < cLine) : CallR X (.builtin "repr") rRepr := by
  intro pins s σ H xs us Q I rv h
  obtain ⟨x, d, rfl, rd, hs, hz, hdp, q⟩ := h
  obtain ⟨u, rfl, ru⟩ := rv.one
  have fin : ∀ (h' : Heap) (t : Tok) (tk : Nat), (∀ b o, s.heap.get? b = some o → h'.get? b = some o) → EP X pins σ Q (.str d.shown t) { s with heap := h', toks := tk } := fun h' t tk k => ⟨.str d.shown, H, I.kept k, ⟨t, rfl⟩, q⟩
  have hsh := RdS.shows I.hok rd ru hs hz
  cases rd with
  | non => cases ru; simp only [PyData.shown] at fin; exact P.repr_of_none (fin s.heap _ _ fun _ _ e => e)
  | bl b => cases ru; simp only [PyData.shown] at fin; exact P.repr_of_bool (fin s.heap _ _ fun _ _ e => e)
  | int i => obtain ⟨t, rfl⟩ := ru; simp only [PyData.shown] at fin; exact P.repr_of_int (by simpa [PyData.showable] using hs) (fin s.heap _ _ fun _ _ e => e)
  | str y => obtain ⟨t, rfl⟩ := ru; simp only [PyData.shown] at fin; exact P.repr_of_str (fin s.heap _ _ fun _ _ e => e) (by simpa only [PyData.shown] using hz)
  | @lst a xs ds e _ ra =>
    cases ru
    obtain ⟨_, its, n, rv, e1⟩ := (show ObjOk X.prog X.w H s.heap a (.lst _) from I.hok a _ e)
    have hz' : (listText (PyData.shownAll ds)).length ≤ sizeLine := by simpa only [PyData.shown] using hz
    obtain ⟨⟨as, rr⟩, bs, hb, hk⟩ := RdSs.shows I.hok ra rv (by simpa [PyData.showable] using hs) (fun t ht => Nat.le_trans (listText_mem_le ht) hz')
    have rd : Reads s.heap (.ref a) (.list ds) (a :: as) := .list e1 rfl rfl (by simpa using rr)
    have hna : a ∉ bs := not_mem_of_deeper rd (by simp only [PyData.depth]; omega) hb
    simp only [PyData.depth] at hdp
    simp only [PyData.shown] at fin
    refine call_repr_slot (by omega) ⟨_, e1, rfl⟩ F.slot_list_repr.toG ?_
    cases its with
    | nil =>
      cases rr
      simp only [PyData.shownAll, listText_nil] at fin
      exact call_list_repr_empty ⟨_, e1, rfl⟩ e1 rfl ⟨_, _, rfl, fin s.heap _ _ fun _ _ e => e⟩
    | cons x l => exact call_list_reprK e1 rfl rfl hna (by simpa using hk.length_eq) (fun i y e => hk.item i y (by simpa using e)) (A := X.A.in1) hg (fun b _ => Clear.nil b) (by show X.A.units + 1 + (PyData.depthAll ds + 1) < cLine; omega) (fun _ _ e => e) (fun h' t tk k => ⟨_, _, rfl, fin h' t tk k⟩) hz'
  | @tup a xs ds e _ ra =>
    cases ru
    obtain ⟨_, its, rv, o, e1, c, n, dt⟩ := (show ObjOk X.prog X.w H s.heap a (.tup _) from I.hok a _ e)
    have hz' : (tupleText (PyData.shownAll ds)).length ≤ sizeLine := by simpa only [PyData.shown] using hz
    obtain ⟨⟨as, rr⟩, bs, hb, hk⟩ := RdSs.shows I.hok ra rv (by simpa [PyData.showable] using hs) (fun t ht => Nat.le_trans (tupleText_mem_le ht) hz')
    have rd : Reads s.heap (.ref a) (.tuple ds) as := .tuple e1 c dt (by simpa using rr)
    have hna : a ∉ bs := not_mem_of_deeper rd (by simp only [PyData.depth]; omega) hb
    simp only [PyData.depth] at hdp
    simp only [PyData.shown] at fin
    refine call_repr_slot (by omega) ⟨_, e1, c⟩ F.slot_tuple_repr ?_
    exact call_tuple_reprK e1 c dt hna (by simpa using hk) (A := X.A.in1) hg (fun b _ => Clear.nil b) (by show X.A.units + 1 + (PyData.depthAll ds + 1) < cLine; omega) (fun _ _ e => e) (fun h' t tk k => ⟨_, _, rfl, fin h' t tk k⟩) hz'
  | @dct a e _ =>
    cases ru
    obtain ⟨hsys, o, n, e1, c, dt⟩ := dict_empty I.hok e
    simp only [PyData.shown, PyData.shownKv] at fin hz
    refine call_repr_slot (by omega) ⟨_, e1, c⟩ F.slot_dict_repr ?_
    exact call_dict_reprK (as := []) (d := 0) e1 c dt hsys (by simp) .nil (A := X.A.in1) hg (fun b _ => Clear.nil b) (by show X.A.units + 1 + (0 + 1) < cLine; omega) (fun _ _ e => e) (fun h' t tk k => ⟨_, _, rfl, fin h' t tk k⟩) hz
/-- {} -/
def tDict0 : TE := fun _ H Q => ∀ p, H p = none → Q (.ref p) (upd H p (.dK []))
theorem pe_dict0 {pos : Pos} : PE X (.Dict [] [] pos) tDict0 := fun pins s σ H Q I h =>
  wpAny_Dict_empty ⟨.ref s.heap.objs.size, _, I.laid (a := s.heap.objs.size) (o := .dK []) (t' := s.toks) (fun _ _ q => Heap.get?_push_of_some _ q) (Nat.le_refl _)
    ⟨Nat.zero_le _, beq_eq_false_iff_ne.mpr (Ne.symm (Nat.ne_of_lt I.big)), [], .nil, Heap.DictOf.new s.heap⟩, rfl, h _ (I.hok.fresh (Nat.le_refl _))⟩
/-- a[::-1] of a list -/
def tRev (te : TE) (ts : TO) : TE := fun σ H Q => te σ H fun x H1 => ts σ H1 fun st H2 => ∃ a xs, st = some (-1) ∧ x = .ref a ∧ H2 a = some (.lst xs) ∧ ∀ p, H2 p = none → Q (.ref p) (upd H2 p (.lst xs.reverse))
end
/-! ### sizes -/
structure Sz (c k : Nat) (d : PyData) : Prop where
  sh : d.showable = true
  le : d.shown.length ≤ c
  dp : d.depth ≤ k
theorem Sz.mono {c k c' k' : Nat} {d : PyData} (s : Sz c k d) (h1 : c ≤ c') (h2 : k ≤ k') : Sz c' k' d := ⟨s.sh, Nat.le_trans s.le h1, Nat.le_trans s.dp h2⟩
theorem sz_all {c k : Nat} : ∀ {ds : List PyData}, (∀ d ∈ ds, Sz c k d) → PyData.showableAll ds = true ∧ ((PyData.shownAll ds).map (·.length)).sum ≤ ds.length * c ∧ PyData.depthAll ds ≤ k ∧ (PyData.shownAll ds).length = ds.length
  | [], _ => by simp [PyData.showableAll, PyData.shownAll, PyData.depthAll]
  | d :: ds, h => by
    obtain ⟨h1, h2, h3, h4⟩ := sz_all (fun e he => h e (List.mem_cons_of_mem _ he))
    have hd := h d (by simp)
    have a1 := hd.le
    have a2 := hd.dp
    simp only [PyData.showableAll, PyData.shownAll, PyData.depthAll, List.map_cons, List.sum_cons, List.length_cons, hd.sh, h1, Bool.and_self, h4, true_and, and_true, Nat.succ_mul]
    omega
theorem sz_list {c k n : Nat} {ds : List PyData} (h : ∀ d ∈ ds, Sz c k d) (hn : ds.length ≤ n) : Sz (n * c + 2 * n + 3) (k + 1) (.list ds) := by
  obtain ⟨h1, h2, h3, h4⟩ := sz_all h
  have e := listText_len_le (PyData.shownAll ds)
  rw [h4] at e
  have m : ds.length * c ≤ n * c := Nat.mul_le_mul_right _ hn
  exact ⟨by simpa [PyData.showable] using h1, by simp only [PyData.shown]; omega, by simp only [PyData.depth]; omega⟩
theorem sz_tuple {c k n : Nat} {ds : List PyData} (h : ∀ d ∈ ds, Sz c k d) (hn : ds.length ≤ n) : Sz (n * c + 2 * n + 3) (k + 1) (.tuple ds) := by
  obtain ⟨h1, h2, h3, h4⟩ := sz_all h
  have e := tupleText_len_le (PyData.shownAll ds)
  rw [h4] at e
  have m : ds.length * c ≤ n * c := Nat.mul_le_mul_right _ hn
  exact ⟨by simpa [PyData.showable] using h1, by simp only [PyData.shown]; omega, by simp only [PyData.depth]; omega⟩
theorem log_lt {i : Int} (h : i.natAbs < 10 ^ 40) : i.natAbs.log2 < 1920 := by
  by_cases h0 : i.natAbs = 0
  · rw [h0]; decide
  · exact (Nat.log2_lt h0).mpr (Nat.lt_of_lt_of_le (Nat.lt_trans h (show 10 ^ 40 < 2 ^ 200 by decide)) (Nat.pow_le_pow_right (by decide) (by decide)))
theorem sz_int {i : Int} (h : i.natAbs < 10 ^ 40) : Sz 41 0 (.int i) := by
  have e := int_text_length_le10 (k := 40) (by decide) h
  refine ⟨?_, ?_, Nat.le_refl _⟩
  · show decide (i.natAbs.log2 < 1920) = true
    exact decide_eq_true (log_lt h)
  · show (Str.ofString (toString i)).length ≤ 41
    rw [PySem.ofString_length]; exact e
end L2
set_option Elab.async false
set_option linter.all false
set_option maxRecDepth 100000
set_option maxHeartbeats 4000000
namespace L2
open PySem PySem.Spec PyProof.Rows
/-- sum of a list of ints -/
theorem call_sum {X : Cx} (hc : X.calm = true) : CallR X (.builtin "sum") (fun xs H Q => ∃ (p : Addr) (ns : List Int), xs = [.ref p] ∧ SqL X.K H p (ns.map V.int) ∧ Q (.int ns.sum) H) := by
  intro pins s σ H xs us Q I rv h
  obtain ⟨p, ns, rfl, hq, q⟩ := h
  obtain ⟨u, rfl, ru⟩ := rv.one
  cases ru
  obtain ⟨its, r, pl, _⟩ := I.list hq
  have hi := ints_of r
  obtain ⟨ys, e⟩ := hi.allInts.items
  have hl := pl.isList
  have en : ns = ys.toList.map (·.1) := by
    have e1 := hi.numsOf
    have e2 := nums_intItems ys
    rw [← e] at e2
    exact e1.symm.trans e2
  have es : preSum (numAt ys) ys.size = ns.sum := by
    rw [preSum_eq, List.take_of_length_le (by simp), en]
  rw [e] at hl
  refine sum_intListG (I.ok.hd hc) hl fun h' tk t' hk => ?_
  rw [es]
  exact ⟨.int _, H, I.kept hk, ⟨_, rfl⟩, q⟩
/-- list.insert at a place within -/
def rInsert : V → List V → Hp → VK → Prop := fun x vs H Q => ∃ l xs k y, x = .ref l ∧ vs = [.int (k : Nat), y] ∧ H l = some (.lst xs) ∧ k ≤ xs.length ∧ xs.length < 1000 ∧ Q .non (upd H l (.lst (xs.take k ++ [y] ++ xs.drop k)))
end L2
set_option maxRecDepth 100000
namespace L2
open PySem PySem.Spec PyProof.Rows

/-! ### exceptions: how one lies in flight -/
theorem ObjOk.get {P : Program} {w : World} {H : Hp} {h : Heap} {a : Addr} {o : HO} (x : ObjOk P w H h a o) : ∃ u, h.get? a = some u := by
  cases o with
  | lst xs => obtain ⟨_, _, _, _, e⟩ := x; exact ⟨_, e⟩
  | tup xs => obtain ⟨_, _, _, _, e, _⟩ := x; exact ⟨_, e⟩
  | dK kvs => obtain ⟨_, _, _, _, o, _, _, e, _⟩ := x; exact ⟨_, e⟩
  | dT kvs => obtain ⟨_, _, _, _, o, _, _, e, _⟩ := x; exact ⟨_, e⟩
  | set S n => obtain ⟨o, _, _, _, e, _⟩ := x; exact ⟨_, e⟩
  | ins C dx fs => obtain ⟨_, _, _, e, _⟩ := x; exact ⟨_, e⟩
  | own y => exact x
  | xd fs => obtain ⟨_, ⟨_, _, _, e, _⟩, _⟩ := x; exact ⟨_, e⟩
  | rng lo hi => obtain ⟨_, _, _, e⟩ := x; exact ⟨_, e⟩
  | frz ob u => exact ⟨_, x.1⟩
  | tbl ps => exact ⟨_, x⟩
  | met f y => exact ⟨_, x⟩
  | ext φ => exact x.2.1

/-- the exception at e: class cls, a record of its way, the mark fl of the frame that looks at it; both records new since s, untracked -/
def Trc (h : Heap) (H' : Hp) (g : Heap) (e : Addr) (cls fl : Value) : Prop :=
  ∃ a0 oe vs T oT ts, h.get? e = some oe ∧ (oe.cls = cls ∧ vs[0]? = some a0) ∧ oe.data = .fields vs ∧ vs[1]? = some (.ref T) ∧ T ≠ e ∧ h.get? T = some oT ∧ oT.data = .fields ts ∧ ts[3]? = some fl ∧ (H' e = none ∧ H' T = none) ∧ g.get? e = none ∧ g.get? T = none
structure Fli (P : Program) (w : World) (l : List Env) (H : Hp) (s : Shared) (e : Addr) (cls fl : Value) (H' : Hp) (s' : Shared) : Prop where
  os : s'.os = s.os
  bare : AllBare s'.gens
  un : Un (frs l) [] H H' s.heap s'.heap
  hok : HOk P w H' s'.heap
  tr : Trc s'.heap H' s.heap e cls fl
section
variable {P : Program} {w : World} {l : List Env} {H H' : Hp} {s s1 : Shared} {e : Addr} {cls fl : Value}
theorem fli_of {base : Heap} (F : Fli P w l H s e cls fl H' s1) (hfr : s1.heap.FunFrames base l) (hff : ∀ b ∈ frs l, H' b = none) :
    ∃ (B : Heap) (a0 : Value), (B.StaysIn s1.heap ∧ B.get? e = none ∧ s1.heap.FunFrames B l ∧ s1.heap.TracedAtW B e cls a0 fl) ∧
      ∀ h' fl', B.StaysIn h' → h'.TracedAtW B e cls a0 fl' → s1.heap.UpToSlots h' → Fli P w l H s e cls fl' H' { s1 with heap := h' } := by
  obtain ⟨a0, oe, vs, T, oT, ts, h1, h2, h3, h4, h5, h6, h7, h8, ⟨h9, h10⟩, h11, h12⟩ := F.tr
  have none_of : ∀ b, b ∈ e :: T :: frs l → (PySem.W.hideAll s1.heap (e :: T :: frs l)).get? b = none := fun b hb => PySem.W.hideAll_none _ hb
  have at_of : ∀ b o, s1.heap.get? b = some o → b ∉ e :: T :: frs l → (PySem.W.hideAll s1.heap (e :: T :: frs l)).get? b = some o := fun b o q hb => PySem.W.hideAll_get _ q hb
  have nofld : ∀ b ∈ frs l, ∀ o, s1.heap.get? b = some o → ∀ vs, o.data ≠ .fields vs := fun b hb o q => by
    obtain ⟨_, o', ho', hn⟩ := hfr.mem hb
    rw [q] at ho'; cases ho'; exact hn
  have hidT : ∀ b, H' b ≠ none → b ∉ e :: T :: frs l := fun b q z => by
    rcases List.mem_cons.mp z with r | z
    · rw [r] at q; exact q h9
    · rcases List.mem_cons.mp z with r | z
      · rw [r] at q; exact q h10
      · exact q (hff b z)
  refine ⟨PySem.W.hideAll s1.heap (e :: T :: frs l), a0, ⟨fun b o q => PySem.W.of_hideAll _ q, none_of e List.mem_cons_self, PySem.W.funFrames_hide hfr fun env he a ha => ?_, oe, vs, T, oT, ts, h1, h2, h3, h4, none_of T (by simp), h5, h6, h7, h8⟩, fun h' fl' hB ht hu => ?_⟩
  · exact List.mem_cons_of_mem _ (List.mem_cons_of_mem _ (List.mem_filterMap.mpr ⟨env, he, ha⟩))
  · obtain ⟨oe', vs', T', oT', ts', k1, k2, k3, k4, k5, k6, k7, k8, k9⟩ := ht
    have hT' : H' T' = none := by
      cases q : H' T' with
      | none => rfl
      | some u =>
        obtain ⟨ob, hob⟩ := (F.hok _ _ q).get
        have := at_of T' ob hob (hidT T' (by rw [q]; simp))
        rw [k5] at this; cases this
    have gT' : s.heap.get? T' = none := by
      cases q : s.heap.get? T' with
      | none => rfl
      | some u =>
        obtain ⟨ob, hob⟩ := F.un.there T' u q (by simp)
        by_cases z : T' ∈ e :: T :: frs l
        · rcases List.mem_cons.mp z with r | z
          · exact absurd r k6
          · rcases List.mem_cons.mp z with r | z
            · rw [r, h12] at q; cases q
            · obtain ⟨sl, hsl⟩ := hu T' ob hob (nofld T' z ob hob)
              rw [k7] at hsl; cases hsl
              exact absurd k8 (nofld T' z ob hob _)
        · have := at_of T' ob hob z
          rw [k5] at this; cases this
    have new : ∀ b o, s.heap.get? b = some o → b ∉ frs l → b ∉ e :: T :: frs l := fun b o q hb z => by
      rcases List.mem_cons.mp z with r | z
      · rw [r, h11] at q; cases q
      · rcases List.mem_cons.mp z with r | z
        · rw [r, h12] at q; cases q
        · exact hb z
    refine ⟨F.os, F.bare, ⟨fun b o q n hb _ => ?_, fun b o q n hb _ => ?_, F.un.free, fun b o q _ => ?_, F.un.tups, F.un.frzs, F.un.tbls⟩, fun b o q => ?_, a0, oe', vs', T', oT', ts', k1, k2, k3, k4, k6, k7, k8, k9, ⟨h9, hT'⟩, h11, gT'⟩
    · exact hB b o (at_of b o (F.un.keep b o q n hb (by simp)) (new b o q hb))
    · obtain ⟨sl, q1⟩ := F.un.slot b o q n hb (by simp)
      obtain ⟨sl', q2⟩ := hu b _ q1 (nofld b hb _ q1)
      exact ⟨sl', q2⟩
    · obtain ⟨o', q1⟩ := F.un.there b o q (by simp)
      by_cases hb : b ∈ frs l
      · obtain ⟨sl', q2⟩ := hu b _ q1 (nofld b hb _ q1)
        exact ⟨_, q2⟩
      · exact ⟨o', hB b o' (at_of b o' q1 (new b o q hb))⟩
    · refine (F.hok b o q).stay (fun c v hc r => hB c v (at_of c v r (hidT c ?_))) (fun _ z => z) fun _ _ z => z
      rcases hc with z | z
      · rw [z, q]; simp
      · rw [z]; simp
end

/-- how an exception lies behind a call -/
def CXW (P : Program) (w : World) : CXT := fun l H s E ev s' => ∃ e cls H', ev = .ref e ∧ Fli P w l H s e cls .none H' s' ∧ E cls none H'
/-- an exception of a callee, lying in flight, does what this context wants where R holds -/
def Flies (X : Cx) (R : St → Value → Hp → Prop) : Prop := ∀ (pins : List (Addr × Obj)) (σ : St) (H : Hp) (s : Shared) (e : Addr) (cls : Value) (H' : Hp) (s' : Shared), Inv X pins σ H s → Fli X.prog X.w X.stack H s e cls .none H' s' → R σ cls H' → X.xe (.ref e) s'
/-- the same of an exception that is made here -/
def Throws (X : Cx) (R : St → Value → Hp → Prop) : Prop := ∀ (pins : List (Addr × Obj)) (σ : St) (H : Hp) (s : Shared) (e : Addr) (cls : Value) (vs : List Value) (h' : Heap), Inv X pins σ H s → Heap.MadeExcOf s.heap h' e cls vs → R σ cls H → X.xe (.ref e) { s with heap := h' }
section
variable {X : Cx} {pins : List (Addr × Obj)} {σ : St} {H H' : Hp} {s s' : Shared} {e : Addr} {cls fl : Value}
theorem Inv.fly (I : Inv X pins σ H s) (F : Fli X.prog X.w X.stack H s e cls fl H' s') : Inv X pins σ H' s' := I.call' (ch := []) F.os F.un F.hok F.bare fun b z => absurd z (by simp)
theorem Inv.old (I : Inv X pins σ H s) (hex : X.ex = []) {b : Addr} (h : s.heap.get? b = none) : X.s₀.heap.get? b = none := by
  cases q : X.s₀.heap.get? b with
  | none => rfl
  | some o =>
    obtain ⟨o', q'⟩ := I.base.there b o q (by rw [hex]; simp)
    rw [h] at q'; cases q'
/-- behind this frame -/
theorem Fli.out (I : Inv X pins σ H s) (F : Fli X.prog X.w X.stack H s e cls fl H' s') (hex : X.ex = []) : Fli X.prog X.w X.outer X.H₀ X.s₀ e cls fl H' s' := by
  have J := I.fly F
  obtain ⟨a0, oe, vs, T, oT, ts, h1, h2, h3, h4, h5, h6, h7, h8, h9, h11, h12⟩ := F.tr
  refine ⟨J.os, J.bare, ?_, J.hok, a0, oe, vs, T, oT, ts, h1, h2, h3, h4, h5, h6, h7, h8, h9, I.old hex h11, I.old hex h12⟩
  have := J.base
  rw [hex] at this
  exact this
/-- an exception that is made here, behind the frame's leaving -/
theorem fli_made {B h' h'' : Heap} {a0 : Value} {vs : List Value} (I : Inv X pins σ H s) (hB : B = PySem.W.hideAll s.heap (frs X.stack)) (hx : Heap.MadeExcOf s.heap h' e cls vs) (ht : h''.TracedW B e cls a0) (hs : B.StaysIn h'') (hu : h'.UpToSlots h'') :
    Fli X.prog X.w X.stack H s e cls .none H { s with heap := h'' } := by
  subst hB
  obtain ⟨oe, ws, T, oT, ts, k1, k2, k3, k4, k5, k6, k7, k8, k9⟩ := ht
  have nofld : ∀ b ∈ frs X.stack, ∃ o, s.heap.get? b = some o ∧ ∀ vs, o.data ≠ .fields vs := fun b hb => (I.stack.mem hb).2
  have at_of : ∀ b o, s.heap.get? b = some o → b ∉ frs X.stack → h''.get? b = some o := fun b o q hb => hs b o (PySem.W.hideAll_get _ q hb)
  have gT : s.heap.get? T = none := by
    cases q : s.heap.get? T with
    | none => rfl
    | some u =>
      by_cases z : T ∈ frs X.stack
      · obtain ⟨o, ho, hn⟩ := nofld T z
        obtain ⟨sl, hsl⟩ := hu T o (hx.keeps T o ho) hn
        rw [k7] at hsl; cases hsl
        exact absurd k8 (hn _)
      · have := PySem.W.hideAll_get _ q z
        rw [k5] at this; cases this
  have fr : ∀ b, s.heap.get? b = none → H b = none := fun b q => by
    cases r : H b with
    | none => rfl
    | some u =>
      obtain ⟨o, ho⟩ := (I.hok b u r).get
      rw [q] at ho; cases ho
  have sl : ∀ b o, s.heap.get? b = some o → b ∈ frs X.stack → ∃ sl, h''.get? b = some { o with slots := sl } := fun b o q hb => by
    obtain ⟨o', ho', hn⟩ := nofld b hb
    rw [q] at ho'; cases ho'
    exact hu b o (hx.keeps b o q) hn
  refine ⟨rfl, I.bare, ⟨fun b o q _ hb _ => at_of b o q hb, fun b o q _ hb _ => sl b o q hb, fun _ _ _ n _ => n, fun b o q _ => ?_, fun _ _ q => q, fun _ _ _ q => q, fun b ps q => ⟨#[], by rw [q]; simp⟩⟩, fun b o q => ?_, a0, oe, ws, T, oT, ts, k1, k2, k3, k4, k6, k7, k8, k9, ⟨fr e hx.new, fr T gT⟩, hx.new, gT⟩
  · by_cases hb : b ∈ frs X.stack
    · obtain ⟨_, z⟩ := sl b o q hb
      exact ⟨_, z⟩
    · exact ⟨o, at_of b o q hb⟩
  · refine (I.hok b o q).stay (fun c v hc r => at_of c v r fun hb => ?_) (fun _ z => z) fun _ _ z => z
    have n := I.stkFree c hb
    rcases hc with z | z
    · rw [z, q] at n; cases n
    · rw [z] at n; cases n
end

section
variable {P : Program} {w : World} {K : PySem.W.Frag} {mg : Str → Option Value} {base : Heap} {N : List Str} {qual : Str} {scope : Scope} {f : Addr} {cd : Value} {A : Around} {outer : List Env} {s : Shared} {H : Hp} {E : XK}
/-- through a def's frame -/
theorem flies_def : Flies (cxOf (CXW P w) P w K mg base N qual scope f cd A outer s H E) fun _ cls H' => E cls none H' := by
  intro pins σ H1 s1 e cls H' s' I F r
  have J := I.fly F
  obtain ⟨B, a0, ⟨b1, b2, b3, b4⟩, st⟩ := fli_of F J.stack J.stkFree
  refine wpAny_leaves_onW I.ok.frames rfl ⟨b1, b2, b3, b4⟩ fun h' hf hu => ?_
  exact ⟨e, cls, H', rfl, Fli.out I (st h' .none hf.1 hf.2.2.2 hu) rfl, r⟩
theorem throws_def : Throws (cxOf (CXW P w) P w K mg base N qual scope f cd A outer s H E) fun _ cls H' => E cls none H' := by
  intro pins σ H1 s1 e cls vs h' I hx r
  refine wpAny_leaves_madeW (base := PySem.W.hideAll s1.heap (frs (envOfC qual scope s.heap.objs.size f cd :: outer))) I.ok.frames rfl (fun b o q => PySem.W.of_hideAll _ q)
    (PySem.W.funFrames_hide I.stack fun env he a ha => List.mem_filterMap.mpr ⟨env, he, ha⟩) hx fun h'' t hf _ _ hu => ?_
  exact ⟨e, cls, H1, rfl, Fli.out I (fli_made I rfl hx hf.2.2.2 hf.1 hu) rfl, r⟩
end

/-! ### a def that may raise -/
def FnAtX (P : Program) (w : World) (K : PySem.W.Frag) (mg : Str → Option Value) (base : Heap) (k : Nat) (x : Str) (ps : List Str) (sp : Sp) : Prop :=
  ∃ f, mg x = some (.ref f) ∧ PySem.W.keepIn K (.ref f) = true ∧ (∀ vs H Q E, sp vs H Q E → vs.length = ps.length) ∧
    ∀ (A : Around) (outer : List Env) (s : Shared) (H : Hp) (us : List Value) (vs : List V) (Q : VK) (E : XK), Room k A → Env0 P w K mg base A outer s H → Vals vs us → sp vs H Q E → codeAny (model P w) A (.call (.ref f) ⟨us, []⟩) (CR (CXW P w) outer P w H s Q E) s
section
variable {P : Program} {w : World} {K : PySem.W.Frag} {mg : Str → Option Value} {base : Heap} {j k : Nat} {x : Str} {ps : List Str} {sp sp' : Sp}
theorem FnAtX.mono (F : FnAtX P w K mg base j x ps sp) (h : j ≤ k) : FnAtX P w K mg base k x ps sp :=
  let ⟨f, a, b, c, d⟩ := F
  ⟨f, a, b, c, fun A outer s H us vs Q E hr => d A outer s H us vs Q E (hr.mono h)⟩
/-- either promise -/
theorem FnAtX.or (F : FnAtX P w K mg base k x ps sp) (G : FnAtX P w K mg base k x ps sp') : FnAtX P w K mg base k x ps (fun vs H Q E => sp vs H Q E ∨ sp' vs H Q E) := by
  obtain ⟨f, a, b, c, d⟩ := F
  obtain ⟨f', a', b', c', d'⟩ := G
  have e := a.symm.trans a'
  injection e with e
  injection e with e
  subst e
  exact ⟨f, a, b, fun vs H Q E q => q.elim (c vs H Q E) (c' vs H Q E), fun A outer s H us vs Q E hr e0 r q => q.elim (d A outer s H us vs Q E hr e0 r) (d' A outer s H us vs Q E hr e0 r)⟩
theorem FnAtX.at {CX : CXT} {f : Addr} {fd : FuncData} (F : FnOk P w K mg base CX k f fd ps sp) (hm : mg x = some (.ref f)) (hk : PySem.W.keepIn K (.ref f) = true) (hb : Binds K fd ps []) (hc : ∀ l H s E e s', CX l H s E e s' → CXW P w l H s E e s') : FnAtX P w K mg base k x ps sp := by
  refine ⟨f, hm, hk, F.len, fun A outer s H us vs Q E hr e0 r q => ?_⟩
  have hl : us.length = ps.length := by rw [← r.length]; exact F.len _ _ _ _ q
  refine codeAny_mono (F.run A outer s H ⟨us, []⟩ us vs Q E hr e0 (by simpa using hb s us (e0.mod.kin.keeps fun b o z => (e0.bs b o z).1) (by simpa using hl)) r q) fun res s' hq => ?_
  cases res with
  | error ev => exact hc _ _ _ _ _ _ hq
  | ok fl => cases fl <;> exact hq
/-- a def that never raises -/
theorem FnAt.toX (F : FnAt P w K mg base k x ps sp) : FnAtX P w K mg base k x ps sp :=
  let ⟨_, _, a, b, c, d⟩ := F
  .at a b c d fun _ _ _ _ _ _ z => z.elim
theorem FnAtX.of {st : Stmt} {N : List Str} (D : DefAt K mg x st ps) (S : FnScope N ps (defScope st)) (len : ∀ vs H Q E, sp vs H Q E → vs.length = ps.length)
    (hbody : ∀ (f : Addr) (cdv : Value) (A : Around) (outer : List Env) (s : Shared) (H : Hp) (vs : List V) (Q : VK) (E : XK), Room k (A.deeper (envOfC x (defScope st) s.heap.objs.size f cdv)) → sp vs H Q E →
      ∃ t, PSs (cxOf (CXW P w) P w K mg base N x (defScope st) f cdv A outer s H E) (defBody st) t ∧ t { nx := fun _ H' => Q .non H', rt := Q } (start N vs) H) : FnAtX P w K mg base (k + 1) x ps sp := by
  obtain ⟨f, fd, F, hm, hb⟩ := D
  obtain ⟨oc, od, kV, doc, pm, an, cdv, ct, osl, rfl, lk, hcd⟩ := F.ex
  exact .at (CX := CXW P w) (fn_of lk hcd S len fun A outer s H vs Q E hr hsp => hbody f cdv A outer s H vs Q E hr hsp) hm F.kp hb fun _ _ _ _ _ _ z => z
end
/-- a call that may raise: what is wanted of an exception is R, of the names' values, the class and the heap -/
def tFx (sp : Sp) (R : St → Value → Hp → Prop) (t : TA) : TE := fun σ H Q => t σ H fun vs H1 => sp vs H1 Q fun cls _ H' => R σ cls H'
section
variable {X : Cx} {k : Nat} {x : Str} {ps : List Str} {sp : Sp} {e : Expr} {es : List Expr} {t : TA} {p pos : Pos} {R : St → Value → Hp → Prop}
theorem pe_fx (F : FnAtX X.prog X.w X.K X.mg X.base k x ps sp) (hr : Room k X.A) (hR : Flies X R) (ha : PA X (e :: es) t) (hg : Gl X x := by rfl) (hdb : (x == ("__debug__" : Str)) = false := by decide)
    (he : starEach (e :: es) X.env = (false, eval e X.env) :: starEach es X.env := by rfl) (hpl : (backTo pos (starEach es X.env)).any (·.1) = false := by rfl) : PE X (.Call (.Name x p) (e :: es) [] pos) (tFx sp R t) := by
  obtain ⟨f, hm, hk, hl, run⟩ := F
  intro pins s σ H Q I h
  refine wpAny_Call_Name_kw (ld_glob I hg hm ?_ hdb)
  refine PySem.W.callWith_K (h₀ := X.base) I.ok.mod.kin hk (thn (ha pos pins s σ H _ I h) fun us s1 ⟨vs, H1, I1, r, q⟩ => ⟨I1.kIn, ?_⟩) he hpl
  refine wpAny_call (codeAny_mono (run X.A X.stack s1 H1 us vs Q _ hr I1.env0 r q) fun res s' hq => ?_)
  cases res with
  | error ev =>
    obtain ⟨e', cls, H', rfl, Fl, rr⟩ := hq
    exact hR pins σ H1 s1 e' cls H' s' I1 Fl rr
  | ok fl =>
    cases fl with
    | ret u => exact I1.after hq
    | next => exact False.elim hq
    | brk => exact False.elim hq
    | cont => exact False.elim hq
end
end L2
set_option maxRecDepth 100000
namespace L2
open PySem PySem.Spec PySem.Calls PyProof.Rows
open Builtin Builtin.ObjectAttr Builtin.Getset_descriptor

/-! ### own classes of exceptions, under ValueError -/
structure ExcK (K : PySem.W.Frag) (C : Addr) : Prop where
  exc : PySem.W.excIn K C [.type "ValueError", .type "Exception", .type "BaseException", .type "object"] "ValueError.__new__" = true
  ga : PySem.W.findIn K (.ref C) "__getattribute__" = some (some (.builtin "BaseException.__getattribute__"))
  gt : PySem.W.findIn K (.ref C) "__getattr__" = some none
  cl : PySem.W.findIn K (.ref C) "__class__" = some (some (.builtin "object.__class__"))
  ob : PySem.W.mroIn K C (.type "object") = some true
  bx : PySem.W.mroIn K C (.type "BaseException") = some true
theorem exc_obj {K : PySem.W.Frag} {h : Heap} {C : Addr} {nid : String} {bmB : List Value} (Y : K.In h) (q : PySem.W.excIn K C bmB nid = true) :
    ∃ bm N nm qn bs hd sn sub ab col dd k0 k1 k2 k3 k5 mN, h.get? C = some (excClassObj nm qn C N bs bm hd sn sub ab col dd k0 k1 k2 k3 k5 nid) ∧ h.Ns N mN ∧ mN "__init__" = none ∧ OwnTail h bmB bm := by
  unfold PySem.W.excIn at q
  split at q
  · next dd cdt slt hlk =>
    split at q
    · next C1 bm1 j0 j1 j2 j3 n1 j5 hmro hslots =>
      simp only [Bool.and_eq_true, beq_iff_eq, Bool.not_eq_true'] at q
      obtain ⟨⟨⟨⟨⟨e1, e2⟩, hdl⟩, htl⟩, hns⟩, hin⟩ := q
      subst e1 e2
      obtain ⟨nm, bs, mro, ns, qn, hd, sn, sub, ab, col, del⟩ := cdt
      dsimp only at hmro hdl hns hin
      subst hmro hdl
      obtain ⟨sll⟩ := slt
      have hz : sll = [j0, j1, j2, j3, some (.builtin n1), j5] := hslots
      subst hz
      exact ⟨bm1, ns, nm, qn, bs, hd, sn, sub, ab, col, dd, j0, j1, j2, j3, j5, _, Y _ _ hlk, .of_isNs (PySem.W.isNs_of_in Y hns), PySem.W.nsMap_none_of_in Y hns hin, PySem.W.tail_of_in Y htl⟩
    · cases q
  · cases q

/-- raise C(text) -/
def tRaise (R : St → Value → Hp → Prop) (C : Addr) : TS := fun _ σ H => R σ (.ref C) H
theorem ps_raise {X : Cx} {R : St → Value → Hp → Prop} {x : Str} {C : Addr} {e₀ : Expr} {msg : Str} {np cpos pos : Pos} (hx : Throws X R) (hk : ExcK X.K C) (ha : PE X e₀ (tC (.str msg))) (hm : X.mg x = some (.ref C)) (hg : Gl X x := by rfl) (hc : X.calm = true := by rfl)
    (hdb : (x == ("__debug__" : Str)) = false := by decide) (he : starEach [e₀] X.env = (false, eval e₀ X.env) :: starEach [] X.env := by rfl) (hpl : (backTo cpos (starEach ([] : List Expr) X.env)).any (·.1) = false := by rfl) :
    PS X (.Raise (some (.Call (.Name x np) [e₀] [] cpos)) none pos) (tRaise R C) := by
  intro pins s σ H D I h
  obtain ⟨bm, N, nm, qn, bs, hd, sn, sub, ab, col, dd, k0, k1, k2, k3, k5, mN, hC, hN, hni, T⟩ := exc_obj I.ok.mod.kin hk.exc
  have hpa : PA X [e₀] (tCons (tC (.str msg)) tNil) := pa_cons ha pa_nil he
  refine wpAny_Raise_call_subU (nm := nm) (q := qn) (N := N) (bs := bs) (hdct := hd) (sn := sn) (sub := sub) (ab := ab) (col := col) (dd := dd) (k0 := k0) (k1 := k1) (k2 := k2) (k3 := k3) (k5 := k5) PySem.F.excBase_ValueError (by decide) PySem.F.excBase_ValueError (T.hasType (b := true) (by decide)) (I.ok.hd hc) (by rw [he]; show (false || (backTo cpos (starEach ([] : List Expr) X.env)).any (·.1)) = false; rw [hpl]; rfl) hni (ld_glob I hg hm ⟨rfl, ?_⟩ hdb)
  have z := hpa cpos pins s σ H (fun vs H1 => vs = [.str msg] ∧ H1 = H) I ⟨rfl, rfl⟩
  rw [he] at z ⊢
  refine Calls.evalArgs_plain (wpAny_mono z (fun us s2 ⟨vs, H1, I2, r, hv, hH⟩ => ?_) fun _ _ y => y)
  subst hv hH
  have hl : us.length = 1 := by rw [← r.length]; rfl
  refine ⟨rfl, by show us.length ≤ _; rw [hl]; decide, I2.bk _ _ hC, hN.keeps I2.bk, T.keeps I2.bk, fun h' e hx' => ?_⟩
  exact hx pins σ _ s2 e _ _ h' I2 hx' h

/-- except D: of an exception of a class under D -/
theorem exc_match {M : Model} {A : Around} {E : Value → Shared → Prop} {Q : Bool → Shared → Prop} {K : PySem.W.Frag} {e C D : Addr} {oe : Obj} {s : Shared} (Y : K.In s.heap) (hD : ExcK K D) (hm : PySem.W.mroIn K C (.ref D) = some true)
    (he : s.heap.get? e = some oe) (hcls : oe.cls = .ref C) (hq : Q true s) : wpAny M A (excMatches (.ref e) (.ref D)) Q E s := by
  obtain ⟨h, g, d, t, os⟩ := s
  obtain ⟨bm, N, nm, qn, bs, hd, sn, sub, ab, col, dd, k0, k1, k2, k3, k5, mN, hO, hN, hni, T⟩ := exc_obj Y hD.exc
  have hcB : (Value.ref D :: bm).contains (.type "BaseException") = true := by rw [List.contains_cons, T.hasType (b := true) (by decide), Bool.or_true]
  have L := PySem.W.looks_mroIn (M := M) Y hm
  have f := tc_notTuple
  unfold excMatches
  repeat (first | (with_reducible refine wpAny_loadPart_at he ?_; rw [hcls]) | with_reducible refine wpAny_loadPart_at hO ?_ | (with_reducible refine wpAny_isSubtype_exc hO ?_; rw [hcB]) | with_reducible refine L.at ?_ | wp_step)
  exact hq

/-! ### isinstance of an exception -/
def ExcAt (e C : Addr) (h : Heap) : Prop := ∃ oe vs, h.get? e = some oe ∧ oe.cls = .ref C ∧ oe.data = .fields vs
section
variable {K : PySem.W.Frag} {C e : Addr}
theorem excAt_ty {h : Heap} (M : Model) (p : ExcAt e C h) : PySem.W.Looks M h (typeOf (.ref e)) (.ref C) := by
  obtain ⟨oe, vs, h1, h2, _⟩ := p
  exact h2 ▸ (PySem.W.Looks.ld h1).andThen .now
theorem exc_cls (k : ExcK K C) : ∃ c' d' cd sl, K.lookup C = some ⟨c', d', .cls cd, sl⟩ := by
  obtain ⟨cd, a, _⟩ := Option.bind_eq_some_iff.mp k.ob
  unfold PySem.W.clsIn at a
  split at a
  · next z => exact ⟨_, _, _, _, z⟩
  · cases a
theorem exc_check {M : Model} {A : Around} {E : Value → Shared → Prop} {h : Heap} {g : Array GenState} {d : Drawn} {t : Nat} {os : OsState} {nv : Value} {Q : Unit → Shared → Prop} (k : ExcK K C) (Y : K.In h) (p : ExcAt e C h) (hq : Q () ⟨h, g, d, t, os⟩) :
    wpAny M A (checkBuiltinCall "BaseException.__getattribute__" ⟨[.ref e, nv], []⟩) Q E ⟨h, g, d, t, os⟩ := by
  have hkd : builtinKind "BaseException.__getattribute__" = some .slot := by decide +kernel
  have hsp : splitId "BaseException.__getattribute__" = some ("BaseException", "__getattribute__") := by decide +kernel
  have L0 := excAt_ty M p
  have L1 := PySem.W.looks_mroIn (M := M) Y k.bx
  have ha := F.args_bexc_ga (.ref e) nv
  simp only [checkBuiltinCall, hkd, hsp]
  refine wpAny_bind ?_
  unfold isInstance
  repeat (first | with_reducible refine L0.at ?_ | with_reducible refine L1.at ?_ | wp_step)
  exact hq
theorem exc_clsget {prog : Program} {w : World} {A : Around} {h : Heap} {g : Array GenState} {d : Drawn} {t : Nat} {os : OsState} {tp : Value} {R : Result → Shared → Prop} (k : ExcK K C) (Y : K.In h) (p : ExcAt e C h) (hq : R (.ok (.ret (.ref C))) ⟨h, g, d, t, os⟩) :
    codeAny (model prog w) A (.call (.builtin "getset_descriptor.__get__") ⟨[.builtin "object.__class__", .ref e, tp], []⟩) R ⟨h, g, d, t, os⟩ := by
  have L0 := excAt_ty (model prog w) p
  have L1 := PySem.W.looks_mroIn (M := model prog w) Y k.ob
  refine codeAny_call_builtin PySem.W.KF.slot_gs.plain PySem.W.KF.entry_gs (PySem.W.KF.slot_gs.check _ _ _ _ _ _ _ _ PySem.W.KF.type_class (PySem.W.KF.args_gs _ _ _) ?_)
  unfold Builtin.«getset_descriptor.__get__» descrGet
  rw [PySem.W.dga_obj]
  refine wpAny_bind (wpAny_pure ?_)
  unfold descrGetter descrCheckInstance descrNameAndClass isInstance
  simp only [PySem.W.KF.owner_class]
  repeat lk
  refine ⟨Code.quiet_builtin _ (by decide +kernel), codeAny_builtin PySem.W.KF.entry_class ?_⟩
  unfold Builtin.«object.__class__» shownTypeOf
  repeat lk
  exact hq
theorem exc_clsent {prog : Program} {w : World} {A : Around} {E : Value → Shared → Prop} {h : Heap} {g : Array GenState} {d : Drawn} {t : Nat} {os : OsState} {tk : Tok} {Q : Fin → Shared → Prop} (k : ExcK K C) (Y : K.In h) (p : ExcAt e C h) (hq : Q (.done (.ret (.ref C))) ⟨h, g, d, t, os⟩) :
    wpAny (model prog w) A (Builtin.«object.__getattribute__» ⟨[.ref e, .str "__class__" tk], []⟩) Q E ⟨h, g, d, t, os⟩ := by
  have L0 := excAt_ty (model prog w) p
  have L1 := PySem.W.looks_findIn (M := model prog w) Y k.cl
  have hT5 : (⟨h, g, d, t, os⟩ : Shared).TypeIs (.builtin "object.__class__") "getset_descriptor" := F.typeOf_object_class
  have f5 := F.typeOf_object_class
  have f6 := F.slot_gs_get.lookup
  have f7 := F.slot_gs_set.lookup
  repeat (any_goals (first | assumption | with_reducible refine L0.at ?_ | with_reducible refine L1.at ?_ | wp_step))
  refine exc_clsget k Y p ?_
  repeat (any_goals (first | assumption | wp_step))
theorem exc_clsattr {prog : Program} {w : World} {A : Around} {E : Value → Shared → Prop} {Q : Option Value → Shared → Prop} {s : Shared} (k : ExcK K C) (Y : K.In s.heap) (p : ExcAt e C s.heap) (hq : Q (some (.ref C)) { s with toks := s.toks + 1 }) :
    wpAny (model prog w) A (getAttr? (.ref e) "__class__") Q E s := by
  obtain ⟨h, g, d, t, os⟩ := s
  have L0 := excAt_ty (model prog w) p
  have L1 := PySem.W.looks_findIn (M := model prog w) Y k.ga
  have L2 := PySem.W.looks_findIn (M := model prog w) Y k.gt
  have f3 := F.attr_ValueError.ga.bind (.ref e)
  unfold getAttr? getAttrBy? getAttrBy
  refine wpAny_bind (wpAny_mkText (wpAny_bind (wpAny_attempt (wpAny_holding (wpAny_bind (L0.at (wpAny_bind (L1.at ?_))))))))
  show wpAny _ _ (getAttrByItsOwn (.ref e) _ (.ref C) (.builtin "BaseException.__getattribute__") false false) _ _ _
  unfold getAttrByItsOwn
  refine wpAny_bind (m := hookBefore (.ref C)) (L2.at ?_)
  refine wpAny_bind (wpAny_attempt (wpAny_holding ?_))
  show wpAny _ _ (boundAndCalled (.builtin "BaseException.__getattribute__") (.ref e) _) _ _ _
  unfold boundAndCalled
  refine wpAny_bind (wpAny_of_eq f3 ?_)
  refine wpAny_call (codeAny_call_builtin F.attr_ValueError.ga.plain F.entry_bexc_ga (exc_check k Y p (exc_clsent k Y p ?_)))
  show wpAny _ _ (handedOut (.ref C)) _ _ _
  exact wpAny_pure (wpAny_pure hq)
theorem kitx_exc (k : ExcK K C) : PySem.W.KitX K (.ref e) (.ref C) (ExcAt e C) where
  ty := fun M _ _ p => excAt_ty M p
  it := fun _ _ Y _ => by
    obtain ⟨_, _, _, _, z⟩ := exc_cls k
    intro A' Q' E' s' kk q
    unfold isType loadHead
    exact wpAny_bind (wpAny_loadPart (kk _ _ (Y _ _ z)) (wpAny_pure q))
  ne := fun h tp dd its n sl Y htp => by
    obtain ⟨_, _, _, _, z⟩ := exc_cls k
    refine Bool.eq_false_iff.mpr fun q => ?_
    have e' : C = tp := Value.ref.inj (beq_iff_eq.mp q)
    subst e'
    cases (Y _ _ z).symm.trans htp
  ca := fun Y p kk => exc_clsattr k Y p kk
end
end L2
set_option maxRecDepth 100000
namespace L2
open PySem PySem.Spec PySem.Calls PyProof.Rows

/-! ### try .. except D as n -/
/-- a caught exception, tracked -/
def excO (e C : Addr) : HO := .ext (ExcAt e C)
theorem excO_ok {P : Program} {w : World} {H : Hp} {h : Heap} {e C : Addr} (p : ExcAt e C h) : ObjOk P w H h e (excO e C) :=
  ⟨p, let ⟨oe, _, h1, _⟩ := p; ⟨oe, h1⟩, fun _ _ ⟨oe, vs, h1, h2, h3⟩ kk => ⟨oe, vs, kk _ h1, h2, h3⟩⟩
theorem excO_at {X : Cx} {pins : List (Addr × Obj)} {σ : St} {H : Hp} {s : Shared} {e C : Addr} (I : Inv X pins σ H s) (q : H e = some (excO e C)) : ExcAt e C s.heap := (I.hok e _ q).1

abbrev Cx.tryC (X : Cx) (pn : List (Addr × Obj)) (W : Value → Shared → Prop) : Cx := { X with pn := X.pn ++ pn, xe := W }
abbrev Cx.hand (X : Cx) (v : Value) : Cx := { X with A := X.A.mark (some v), calm := false, xe := fun _ _ => False }
section
variable {X : Cx} {pins pn : List (Addr × Obj)} {W : Value → Shared → Prop} {σ : St} {H : Hp} {s : Shared} {v : Value}
theorem Cx.Ok.tryC (ok : X.Ok) (pn : List (Addr × Obj)) (W : Value → Shared → Prop) : (X.tryC pn W).Ok :=
  ⟨ok.mod, ok.kind, ok.glob, ok.blt, ok.above, ok.inj, ok.has, ok.cab, ok.hd, ok.frames, ok.stk, ok.exf, ok.bs, ok.bsz, ok.noex, ok.exfs, ok.funs, ok.frf⟩
theorem Cx.Ok.unTry (ok : (X.tryC pn W).Ok) : X.Ok :=
  ⟨ok.mod, ok.kind, ok.glob, ok.blt, ok.above, ok.inj, ok.has, ok.cab, ok.hd, ok.frames, ok.stk, ok.exf, ok.bs, ok.bsz, ok.noex, ok.exfs, ok.funs, ok.frf⟩
theorem Cx.Ok.hand (ok : X.Ok) (v : Value) : (X.hand v).Ok :=
  ⟨ok.mod, ok.kind, ok.glob, ok.blt, ok.above, ok.inj, ok.has, ok.cab, (fun z => nomatch z), ok.frames, ok.stk, ok.exf, ok.bs, ok.bsz, ok.noex, ok.exfs, ok.funs, ok.frf⟩
theorem Inv.tryIn (I : Inv X pins σ H s) (W : Value → Shared → Prop) : Inv (X.tryC pins W) [] σ H s :=
  ⟨I.ok.tryC pins W, I.os, I.bare, I.base, I.loc, I.cell, I.free, I.freeC, fun p hp => I.pin p (by simpa using hp), I.hok, I.len⟩
theorem Inv.tryOut (I : Inv (X.tryC pn W) pins σ H s) : Inv X pn σ H s :=
  ⟨I.ok.unTry, I.os, I.bare, I.base, I.loc, I.cell, I.free, I.freeC, fun p hp => I.pin p (List.mem_append_left _ hp), I.hok, I.len⟩
theorem Inv.hand (I : Inv X pins σ H s) (v : Value) : Inv (X.hand v) pins σ H s :=
  ⟨I.ok.hand v, I.os, I.bare, I.base, I.loc, I.cell, I.free, I.freeC, I.pin, I.hok, I.len⟩
theorem Inv.unhand (I : Inv (X.hand v) pins σ H s) (ok : X.Ok) : Inv X pins σ H s :=
  ⟨ok, I.os, I.bare, I.base, I.loc, I.cell, I.free, I.freeC, I.pin, I.hok, I.len⟩
theorem SP.tryOut {D : Ends} {f : Flow} {s' : Shared} (h : SP (X.tryC pn W) pins D f s') : SP X pn D f s' := by
  cases f with
  | next => obtain ⟨σ', H', I, q⟩ := h; exact ⟨σ', H', I.tryOut, q⟩
  | brk => obtain ⟨σ', H', I, q⟩ := h; exact ⟨σ', H', I.tryOut, q⟩
  | cont => obtain ⟨σ', H', I, q⟩ := h; exact ⟨σ', H', I.tryOut, q⟩
  | ret u => obtain ⟨v, σ', H', I, r, q⟩ := h; exact ⟨v, σ', H', I.tryOut, r, q⟩
/-- a name is gone -/
theorem Inv.gone {i : Nat} {n : Str} {h' : Heap} {t' : Nat} {v' : Option Value} {m : Str → Option Value} (I : Inv X pins σ H s) (hN : X.N.Nodup) (hi : X.N[i]? = some n)
    (hm : ∀ (j : Nat) (x : Str) (v : V), X.N[j]? = some x → σ[j]? = some (some v) → Vis X.env.scope x → ∃ u, RelV v u ∧ Look X.env s.heap m x u)
    (hn' : h'.Ns X.env.locals (fun x => if x = n then v' else m x)) (hs : Heap.SameBut X.env.locals s.heap h') : Inv X pins (σ.set i none) H { s with heap := h', toks := t' } := by
  obtain ⟨mm, ⟨oL, _, _, hoL, _⟩, _⟩ := id I.loc
  have cne := I.cne
  refine ⟨I.ok, I.os, I.bare, ⟨fun b o e n hb hx => ?_, fun b o e n hb hx => ?_, I.base.free, fun b o e hx => ?_, I.base.tups, I.base.frzs, I.base.tbls⟩, ⟨_, hn', fun j y w e1 e2 e3 => ?_⟩, fun y c e => ?_, I.free, I.freeC, fun p hp => ?_, fun b ob e => ?_, by simpa using I.len⟩
  · exact (hs.2 b (Nat.ne_of_lt (Nat.lt_of_lt_of_le (Heap.lt_size e) I.ok.above))).trans (I.base.keep b o e n hb hx)
  · obtain ⟨sl, e1⟩ := I.base.slot b o e n hb hx
    exact ⟨sl, (hs.2 b (Nat.ne_of_lt (Nat.lt_of_lt_of_le (Heap.lt_size e) I.ok.above))).trans e1⟩
  · obtain ⟨o', e1⟩ := I.base.there b o e hx
    exact ⟨o', (hs.2 b (Nat.ne_of_lt (Nat.lt_of_lt_of_le (Heap.lt_size e) I.ok.above))).trans e1⟩
  · have hji : j ≠ i := by
      rintro rfl
      rw [List.getElem?_set] at e2
      split at e2
      · split at e2 <;> cases e2
      · next z => exact z rfl
    rw [List.getElem?_set_ne (Ne.symm hji)] at e2
    obtain ⟨u, r, q⟩ := hm j y w e1 e2 e3
    refine ⟨u, r, ?_⟩
    rcases q with ⟨kk, q⟩ | ⟨kk, c, q, z⟩
    · refine .inl ⟨kk, ?_⟩
      have : y ≠ n := fun z => hji (nodup_ix hN e1 (z ▸ hi))
      simp [this, q]
    · exact .inr ⟨kk, c, q, z.sameBut hs (cne y c q)⟩
  · obtain ⟨w, z⟩ := I.cell y c e
    exact ⟨w, z.sameBut hs (cne y c e)⟩
  · obtain ⟨e, n, ne, nf, d⟩ := I.pin p hp
    exact ⟨(hs.2 p.1 ne).trans e, n, ne, nf, d⟩
  · refine (I.hok b ob e).stay (fun c w' hc q => (hs.2 c ?_).trans q) (fun _ q => q) fun _ _ q => q
    rintro rfl
    rcases hc with z | hc
    · rw [← z, I.free] at e; cases e
    · rw [I.free] at hc; cases hc
/-- the caught exception, tracked -/
theorem Inv.catch {H' : Hp} {s' : Shared} {e C : Addr} (I : Inv X pins σ H s) (F : Fli X.prog X.w X.stack H s e (.ref C) .none H' s') : Inv X pins σ (upd H' e (excO e C)) s' := by
  obtain ⟨a0, oe, vs, T, oT, ts, h1, h2, h3, h4, h5, h6, h7, h8, ⟨h9, h10⟩, h11, h12⟩ := F.tr
  refine I.call' (ch := []) F.os ⟨F.un.keep, F.un.slot, fun b o q n hx => ?_, F.un.there, fun b xs q => ?_, fun b o u q => ?_, fun b ps q => ?_⟩ (fun b o q => ?_) F.bare fun b z => absurd z (by simp)
  · rw [upd_ne (fun z => by rw [z, h11] at q; cases q)]
    exact F.un.free b o q n hx
  · have z := F.un.tups b xs q
    rw [upd_ne (ne_of_none z h9)]; exact z
  · have z := F.un.frzs b o u q
    rw [upd_ne (ne_of_none z h9)]; exact z
  · obtain ⟨m, z⟩ := F.un.tbls b ps q
    exact ⟨m, by rw [upd_ne (ne_of_none z h9)]; exact z⟩
  · by_cases hb : b = e
    · subst hb
      rw [upd_same] at q; cases q
      exact excO_ok ⟨oe, vs, h1, h2.1, h3⟩
    · rw [upd_ne hb] at q
      exact (F.hok b o q).stay (fun _ _ _ r => r) (fun c r => by rw [upd_ne (ne_of_none r h9)]; exact r) fun c xs r => by rw [upd_ne (ne_of_none r h9)]; exact r
end

/-- what is wanted behind the suite, the name gone -/
def Ends.gone (D : Ends) (i : Nat) : Ends := { nx := fun σ H => D.nx (σ.set i none) H, rt := D.rt, bk := fun σ H => D.bk (σ.set i none) H, ct := fun σ H => D.ct (σ.set i none) H }
def RTry (K : PySem.W.Frag) (Dc : Addr) (i : Nat) (th : TS) (D : Ends) : St → Value → Hp → Prop := fun σ cls H' => ∃ C, cls = .ref C ∧ ExcK K C ∧ PySem.W.mroIn K C (.ref Dc) = some true ∧
  ∀ e, H' e = none → th (D.gone i) (σ.set i (some (.ref e))) (upd H' e (excO e C))
def tTry (K : PySem.W.Frag) (Dc : Addr) (i : Nat) (tb : (St → Value → Hp → Prop) → TS) (th : TS) : TS := fun D σ H => tb (RTry K Dc i th D) D σ H
section
variable {X : Cx}
theorem ps_try {body hs : List Stmt} {b₀ : Stmt} {cn n : Str} {np hpos pos : Pos} {Dc : Addr} {i : Nat} {tb : (St → Value → Hp → Prop) → TS} {th : TS} (hst : X.stack = X.env :: X.outer) (hfr : X.env.frame = some X.env.locals) (hN : X.N.Nodup) (hD : ExcK X.K Dc) (hm : X.mg cn = some (.ref Dc))
    (hb : ∀ (pn : List (Addr × Obj)) (W : Value → Shared → Prop) (R : St → Value → Hp → Prop), Flies (X.tryC pn W) R → PSs (X.tryC pn W) body (tb R)) (hh : ∀ v, PSs (X.hand v) (b₀ :: hs) th)
    (hi : X.N[i]? = some n := by rfl) (hl : X.env.kindOf n = some .local := by rfl) (hg : Gl X cn := by rfl) (hdb : (cn == ("__debug__" : Str)) = false := by decide) :
    PS X (.Try body [.ExceptHandler (some (.Name cn np)) (some n) (b₀ :: hs) hpos] [] [] pos) (tTry X.K Dc i tb th) := by
  intro pins s σ H D I h
  refine wpAny_Try_except ?_
  have key : Flies (X.tryC pins fun e s₁ => wpAny (model X.prog X.w) X.A (noteFrame e X.env) (fun _ s₂ => wpAny (model X.prog X.w) X.A (setFlight e none) (fun _ s₃ => wpAny (model X.prog X.w) X.A (handleBy e X.env [.ExceptHandler (some (.Name cn np)) (some n) (b₀ :: hs) hpos]) (SP X pins D) X.xe s₃) X.xe s₂) X.xe s₁)
      (RTry X.K Dc i th D) := by
    rintro pins' σ' H1 s1 e cls H' s' I0 F ⟨C, rfl, kC, hmC, hth⟩
    have I1 : Inv X pins σ' H1 s1 := I0.tryOut
    have F : Fli X.prog X.w X.stack H1 s1 e (.ref C) .none H' s' := F
    have J := I1.fly F
    obtain ⟨B, a0, fl, st⟩ := fli_of F J.stack J.stkFree
    have frm : X.A.frames = some (X.env :: X.outer) := by rw [← hst]; exact I1.ok.frames
    rw [hst] at fl
    refine wpAny_looks_onW frm hfr fl fun h4 g4 u4 => ?_
    refine wpAny_landsW g4 fun h5 g5 u5 => ?_
    have F5 := st h5 .none g5.1 g5.2.2.2 (u4.trans u5)
    have J5 := I1.fly F5
    obtain ⟨_, oe, _, _, _, _, he, ⟨hc, _⟩, _⟩ := F5.tr
    refine wpAny_handleBy_cons (codeAny_handlers_test (ld_glob (X := X.hand (.ref e)) (J5.hand (.ref e)) hg hm ?_ hdb)) (by intro q; cases q)
    refine exc_match J5.kIn hD hmC he hc ?_
    refine codeAny_handlers_suite_as ?_
    refine lands_againW g5 fun h6 g6 u6 => ?_
    have F6 := st h6 .none g6.1 g6.2.2.2 ((u4.trans u5).trans u6)
    obtain ⟨_, _, _, _, _, _, _, _, _, _, _, _, _, _, ⟨he0, _⟩, _, _⟩ := F6.tr
    have J6 := (I1.catch F6).hand (.ref e)
    refine store_ok (X := X.hand (.ref e)) (v := .ref e) J6 hN hi (.inl hl) rfl (fun s7 J7 => ?_) (.inr hl)
    refine wpAny_mono (hh (.ref e) pins s7 _ _ (D.gone i) J7 (hth e he0)) (fun f s8 q8 => ?_) fun _ _ z => False.elim z
    have hp : (X.env.scope.kind == .class || (X.env.scope.kind == .module && X.env.locals != X.env.globals)) = false := by rw [I.ok.kind]; rfl
    show wpAny (model X.prog X.w) X.A (do bindName X.env n .none; unbindBehindTheSuite X.env n hpos) (fun _ s₃ => SP X pins D f s₃) X.xe s8
    cases f with
    | next =>
      obtain ⟨σ8, H8, I8, q⟩ := q8
      have I9 := I8.unhand I.ok
      obtain ⟨m, hn, hml⟩ := id I9.loc
      exact wpAny_nameGoes_keeps hl hn hp fun h' v' hn' hs' => ⟨_, H8, I9.gone hN hi hml hn' hs', q⟩
    | brk =>
      obtain ⟨σ8, H8, I8, q⟩ := q8
      have I9 := I8.unhand I.ok
      obtain ⟨m, hn, hml⟩ := id I9.loc
      exact wpAny_nameGoes_keeps hl hn hp fun h' v' hn' hs' => ⟨_, H8, I9.gone hN hi hml hn' hs', q⟩
    | cont =>
      obtain ⟨σ8, H8, I8, q⟩ := q8
      have I9 := I8.unhand I.ok
      obtain ⟨m, hn, hml⟩ := id I9.loc
      exact wpAny_nameGoes_keeps hl hn hp fun h' v' hn' hs' => ⟨_, H8, I9.gone hN hi hml hn' hs', q⟩
    | ret u =>
      obtain ⟨v, σ8, H8, I8, r, q⟩ := q8
      have I9 := I8.unhand I.ok
      obtain ⟨m, hn, hml⟩ := id I9.loc
      exact wpAny_nameGoes_keeps hl hn hp fun h' v' hn' hs' => ⟨v, _, H8, I9.gone hN hi hml hn' hs', r, q⟩
  refine wpAny_mono (hb pins _ _ key [] s σ H D (I.tryIn _) h) (fun f s1 q => ?_) fun _ _ z => z
  have q := SP.tryOut q
  cases f with
  | next => exact wpAny_execs_nil q
  | brk => exact q
  | cont => exact q
  | ret u => exact q
end
end L2
set_option Elab.async false
set_option linter.all false
set_option maxRecDepth 100000
set_option maxHeartbeats 4000000
namespace Seek
open PySem L2 PyProof.Rows
def top (i : Nat) : Stmt := PySem.Challenge.pw_stairseek_k23_no_tables_no_places_no_num.main.body.getD i (.Pass ⟨0, 0, 0, 0⟩)
abbrev dIsWhole : Stmt := top 17
abbrev dAllWhole : Stmt := top 18
abbrev dNeverFalls : Stmt := top 19
abbrev dIsRow : Stmt := top 20
abbrev dShape : Stmt := top 21
abbrev dAtPlace : Stmt := top 22
abbrev dSorted : Stmt := top 23
abbrev dIsTable : Stmt := top 24
abbrev dNeedTable : Stmt := top 25
abbrev dNeedNumber : Stmt := top 26
abbrev dLess : Stmt := top 28
abbrev dMost : Stmt := top 29
abbrev dStair : Stmt := top 30
abbrev dHigh : Stmt := top 31
abbrev dDraws : Stmt := top 42
abbrev dTake : Stmt := top 43
abbrev dTable : Stmt := top 44
abbrev dCopy : Stmt := top 45
abbrev dLaw : Stmt := top 53
abbrev dNoTable : Stmt := top 48
abbrev dCless : Stmt := top 38
abbrev dCmost : Stmt := top 39
abbrev dCfrom : Stmt := top 40
abbrev dMany : Stmt := top 33
abbrev dMerged : Stmt := top 34
abbrev dNeedPlace : Stmt := top 35
abbrev dNumberBy : Stmt := top 36
abbrev dMiddle : Stmt := top 37
abbrev dCaught : Stmt := top 50
abbrev dKinds : Stmt := top 46
abbrev dFallen : Stmt := top 47
abbrev dNoWhole : Stmt := top 49
abbrev dRefused : Stmt := top 51
abbrev dNoPlace : Stmt := top 52
end Seek
namespace Seek
open PySem L2 PyProof.Rows

/-! data -/
def Row (H : Hp) (a : Addr) (ns : List Int) : Prop := H a = some (.lst (ns.map V.int))
def nfB (ns : List Int) : Bool := ((List.range (ns.length - 1)).map fun i => decide (ns.getD i 0 ≤ ns.getD (i + 1) 0)).all id
theorem Row.same {H H' : Hp} {a : Addr} {ns : List Int} (e : Same H H') (h : Row H a ns) : Row H' a ns := e _ _ h
theorem Row.sq {K : PySem.W.Frag} {H : Hp} {a : Addr} {ns : List Int} (h : Row H a ns) : SqL K H a (ns.map V.int) := SqL.of h
/-- which built-in names the text leaves alone -/
structure Blt (mg : Str → Option Value) : Prop where
  len : mg "len" = none
  all : mg "all" = none
  isinst : mg "isinstance" = none
  rng : mg "range" = none
  int : mg "int" = none
  bool : mg "bool" = none
  list : mg "list" = none
  enum : mg "enumerate" = none
  abs : mg "abs" = none
  max : mg "max" = none
  mr : ∃ t, mg "MOST_ROWS" = some (.int 6 t)
  mp : ∃ t, mg "MOST_PLACES" = some (.int 6 t)
theorem sl6 {n : Nat} (h : n ≤ 1000) : n ≤ sizeLine := Nat.le_of_lt (small1000 h)

section
variable {P : Program} {w : World} {K : PySem.W.Frag} {mg : Str → Option Value} {base : Heap}
/-! is_whole -/
def spIsWhole : Sp := fun vs H Q _ => ∃ i : Int, vs = [.int i] ∧ Q (.bl true) H
theorem sc_isWhole : FnScope ["thing"] ["thing"] (defScope dIsWhole) := ⟨rfl, rfl, rfl, by decide +kernel, rfl, by decide +kernel, by decide +kernel⟩
theorem ok_isWhole (T : Blt mg) (D : DefAt K mg "is_whole" dIsWhole ["thing"]) : FnAt P w K mg base 1 "is_whole" ["thing"] spIsWhole := by
  refine FnAt.of D sc_isWhole (fun vs H Q E h => ?_) (fun f cdv A outer s H vs Q E hr h => ?_)
  · obtain ⟨i, rfl, _⟩ := h
    rfl
  · obtain ⟨i, rfl, q⟩ := h
    refine ⟨_, pss_one (ps_ret (pe_and (pe_b call_isinst T.isinst boot_isinstance (pa_cons (pv 0) (pa_cons (pe_ty T.int boot_int) pa_nil)))
      (pe_one (pe_not (pe_b call_isinst T.isinst boot_isinstance (pa_cons (pv 0) (pa_cons (pe_ty T.bool boot_bool) pa_nil))))))), ?_⟩
    exact ⟨_, rfl, _, _, _, _, rfl, .int i, kit_ii _, _, rfl, iteT ⟨_, rfl, _, _, _, _, rfl, .int i, kit_ib _, _, rfl, q⟩⟩
/-! all_whole -/
def spAllWhole (K : PySem.W.Frag) : Sp := fun vs H Q _ => ∃ (a : Addr) (ns : List Int), vs = [.ref a] ∧ Row H a ns ∧ ns.length ≤ 1000 ∧ ∀ H', Same H H' → Q (.bl true) H'
theorem sc_allWhole : FnScope ["things"] ["things"] (defScope dAllWhole) := ⟨rfl, rfl, rfl, by decide +kernel, rfl, by decide +kernel, by decide +kernel⟩
theorem all_true {α : Type} (xs : List α) : (xs.map fun _ => true).all id = true := by simp
theorem ok_allWhole (T : Blt mg) (D : DefAt K mg "all_whole" dAllWhole ["things"]) (G1 : FnAt P w K mg base 1 "is_whole" ["thing"] spIsWhole) : FnAt P w K mg base 2 "all_whole" ["things"] (spAllWhole K) := by
  refine FnAt.of D sc_allWhole (fun vs H Q E h => ?_) (fun f cdv A outer s H vs Q E hr h => ?_)
  · obtain ⟨a, ns, rfl, _⟩ := h
    rfl
  · obtain ⟨a, ns, rfl, hR, hn, q⟩ := h
    have nd1 : (["thing"] : List Str).Nodup := by decide +kernel
    refine ⟨_, pss_one (ps_ret (pe_b (call_all rfl) T.all boot_all (pa_cons (pe_comp ["thing"] [none] (defScope dAllWhole) ["things"] rfl (pi_list (pv 0)) (by decide +kernel)
      (fun cl C s2 H2 ex => pg_c 0 nd1) (fun cl C s2 H2 ex => pifs_nil) (fun cl C s2 H2 ex => pe_f G1 hr (pa_cons (pv 0) pa_nil))) pa_nil))), ?_⟩
    refine ⟨_, rfl, a, rfl, ⟨_, hR.sq⟩, comp_map V.int (fun _ => .bl true) hR.sq (sl6 hn) (fun i hx H' Q' sm q' => ?_) fun D H' hD sm hDl => ?_⟩
    · exact ⟨_, rfl, i, rfl, q' _ (Same.refl _)⟩
    · refine ⟨D, ns.map fun _ => true, rfl, SqL.of ?_, ?_⟩
      · rw [hDl]
        simp [Function.comp]
      · rw [all_true]
        exact q H' sm
/-! never_falls -/
def spNF : Sp := fun vs H Q _ => ∃ (a : Addr) (ns : List Int), vs = [.ref a] ∧ Row H a ns ∧ ns.length ≤ 1000 ∧ ∀ H', Same H H' → Q (.bl (nfB ns)) H'
theorem sc_nf : FnScope ["numbers"] ["numbers"] (defScope dNeverFalls) := ⟨rfl, rfl, rfl, by decide +kernel, rfl, by decide +kernel, by decide +kernel⟩
theorem at_row {ns : List Int} {i : Nat} (h : i < ns.length) : atI (ns.map V.int) (i : Int) = some (.int (ns.getD i 0)) := atI_nat (by simp [h])
theorem ok_nf (T : Blt mg) (D : DefAt K mg "never_falls" dNeverFalls ["numbers"]) : FnAt P w K mg base 1 "never_falls" ["numbers"] spNF := by
  refine FnAt.of D sc_nf (fun vs H Q E h => ?_) (fun f cdv A outer s H vs Q E hr h => ?_)
  · obtain ⟨a, ns, rfl, _⟩ := h
    rfl
  · obtain ⟨a, ns, rfl, hR, hn, q⟩ := h
    have nd1 : (["k", "numbers"] : List Str).Nodup := by decide +kernel
    refine ⟨_, pss_one (ps_ret (pe_b (call_all rfl) T.all boot_all (pa_cons (pe_comp ["k", "numbers"] [none, some 0] (defScope dNeverFalls) ["numbers"] rfl
      (pi_range2 rfl T.rng (pa_cons pe_int (pa_cons (pe_b call_len_seq T.len boot_len (pa_cons (pv 0) pa_nil)) pa_nil))) (by decide +kernel)
      (fun cl C s2 H2 ex => pg_c 0 nd1) (fun cl C s2 H2 ex => pifs_nil)
      (fun cl C s2 H2 ex => pe_cmpR op_le (pe_ix (ixL K) (pv 1) (pe_op op_sub (pv 0) pe_int) (fun _ _ => rfl)) (pe_ix (ixL K) (pv 1) (pv 0) (fun _ _ => rfl)) (nomark _))) pa_nil))), ?_⟩
    refine ⟨_, rfl, a, _, rfl, .inl hR.sq, 1, _, rfl, ⟨by omega, by omega, ?_, ?_⟩, ?_⟩
    · omega
    · rw [List.length_map]
      omega
    · rw [List.length_map, show ((ns.length : Int) - 1).toNat = ns.length - 1 by omega]
      refine comp_range (fun i => .bl (decide (ns.getD i 0 ≤ ns.getD (i + 1) 0))) (sl6 (by omega)) (fun i hi H' Q' sm q' => ?_) fun D H' hD sm hDl => ?_
      · have h1 : (1 : Int) + (i : Int) - 1 = ((i : Nat) : Int) := by omega
        have h2 : (1 : Int) + (i : Int) = ((i + 1 : Nat) : Int) := by omega
        refine ⟨_, rfl, _, rfl, _, _, rfl, rfl, a, _, _, _, rfl, rfl, (hR.same sm).sq, (by rw [h1]; exact at_row (by omega)), _, rfl, _, rfl, a, _, _, _, rfl, rfl, (hR.same sm).sq, (by rw [h2]; exact at_row (by omega)), _, _, rfl, rfl, ?_⟩
        exact q' _ (Same.refl _)
      · refine ⟨D, (List.range (ns.length - 1)).map fun i => decide (ns.getD i 0 ≤ ns.getD (i + 1) 0), rfl, SqL.of ?_, q H' sm⟩
        rw [hDl]
        simp [Function.comp]
end
end Seek
namespace Seek
open PySem L2 PyProof.Rows
abbrev Prs := List (Addr × List Int)
structure Tab (H : Hp) (t : Addr) (prs : Prs) : Prop where
  l : H t = some (.lst (prs.map fun p => V.ref p.1))
  r : ∀ p ∈ prs, Row H p.1 p.2
theorem Tab.same {H H' : Hp} {t : Addr} {prs : Prs} (e : Same H H') (h : Tab H t prs) : Tab H' t prs := ⟨e _ _ h.l, fun p hp => (h.r p hp).same e⟩
theorem Tab.sq {K : PySem.W.Frag} {H : Hp} {t : Addr} {prs : Prs} (h : Tab H t prs) : SqL K H t (prs.map fun p => V.ref p.1) := SqL.of h.l
/-- of a size that the machine bears -/
def Sm (prs : Prs) : Prop := prs.length ≤ 1000 ∧ ∀ p ∈ prs, p.2.length ≤ 1000
def rowB (ns : List Int) : Bool := decide (1 ≤ ns.length) && decide (ns.length ≤ 6)
def w0 (prs : Prs) : Nat := (prs.head?.map (·.2.length)).getD 0
def shB (prs : Prs) : Bool := (decide (1 ≤ prs.length) && decide (prs.length ≤ 6)) && ((prs.map fun p => rowB p.2).all id && (prs.map fun p => decide (p.2.length = w0 prs)).all id)
def col (prs : Prs) (j : Nat) : List Int := prs.map fun p => p.2.getD j 0
def srB (prs : Prs) : Bool := (prs.map fun p => nfB p.2).all id && ((List.range (w0 prs)).map fun j => nfB (col prs j)).all id
def tabB (prs : Prs) : Bool := shB prs && srB prs
theorem map_bl {α : Type} (xs : List α) (f : α → Bool) : xs.map (fun x => V.bl (f x)) = (xs.map f).map V.bl := by simp [Function.comp]
theorem dec_nat {i j : Nat} : decide (V.int (i : Int) = V.int (j : Int)) = decide (i = j) := by
  rw [decide_eq_decide]
  constructor
  · intro h
    injection h with h
    omega
  · rintro rfl
    rfl
theorem head_at {prs : Prs} (h : 1 ≤ prs.length) : ∃ p, prs.head? = some p ∧ p ∈ prs ∧ prs[0]? = some p := by
  cases prs with
  | nil => simp at h
  | cons p r => exact ⟨p, rfl, by simp, rfl⟩
section
variable {P : Program} {w : World} {K : PySem.W.Frag} {mg : Str → Option Value} {base : Heap}
/-! is_row -/
def spIsRow : Sp := fun vs H Q _ => ∃ (a : Addr) (ns : List Int), vs = [.ref a] ∧ Row H a ns ∧ ns.length ≤ 1000 ∧ ∀ H', Same H H' → Q (.bl (rowB ns)) H'
theorem sc_isRow : FnScope ["thing"] ["thing"] (defScope dIsRow) := ⟨rfl, rfl, rfl, by decide +kernel, rfl, by decide +kernel, by decide +kernel⟩
theorem ok_isRow (T : Blt mg) (D : DefAt K mg "is_row" dIsRow ["thing"]) (G : FnAt P w K mg base 2 "all_whole" ["things"] (spAllWhole K)) : FnAt P w K mg base 3 "is_row" ["thing"] spIsRow := by
  refine FnAt.of D sc_isRow (fun vs H Q E h => ?_) (fun f cdv A outer s H vs Q E hr h => ?_)
  · obtain ⟨a, ns, rfl, _⟩ := h
    rfl
  · obtain ⟨a, ns, rfl, hR, hn, q⟩ := h
    obtain ⟨tk, mp⟩ := T.mp
    refine ⟨_, pss_one (ps_ret (pe_and (pe_b call_isinst T.isinst boot_isinstance (pa_cons (pv 0) (pa_cons (pe_ty T.list boot_list) pa_nil)))
      (pe_and (pe_chain op_le op_le pe_int (pe_b call_len_seq T.len boot_len (pa_cons (pv 0) pa_nil)) (pe_glob (v := .int 6) rfl mp ⟨_, rfl⟩))
      (pe_one (pe_f G hr (pa_cons (pv 0) pa_nil)))))), ?_⟩
    refine ⟨_, rfl, _, _, _, _, rfl, .lst hR, kit_ll _, _, rfl, iteT ⟨_, rfl, a, _, rfl, .inl hR.sq, 1, _, rfl, rfl, _, rfl, ?_⟩⟩
    rw [List.length_map]
    refine ite2 (fun h1 => ?_) (fun h1 => ?_)
    · have h1 := of_decide_eq_true h1
      refine ⟨_, _, rfl, rfl, _, rfl, ite2 (fun h2 => ?_) (fun h2 => ?_)⟩
      · have h2 := of_decide_eq_true h2
        refine ⟨_, rfl, a, ns, rfl, hR, hn, fun H' sm => ?_⟩
        have e : rowB ns = true := by
          unfold rowB
          rw [decide_eq_true (by omega), decide_eq_true (by omega)]
          rfl
        rw [← e]
        exact q H' sm
      · have e : rowB ns = false := by
          unfold rowB
          rw [decide_eq_false (p := ns.length ≤ 6) (by intro z; exact h2 (decide_eq_true (by omega)))]
          simp
        rw [← e]
        exact q H (Same.refl _)
    · refine ⟨_, rfl, iteF ?_⟩
      have e : rowB ns = false := by
        unfold rowB
        rw [decide_eq_false (p := 1 ≤ ns.length) (by intro z; exact h1 (decide_eq_true (by omega)))]
        simp
      rw [← e]
      exact q H (Same.refl _)
/-! has_table_shape -/
def spShape : Sp := fun vs H Q _ => ∃ (t : Addr) (prs : Prs), vs = [.ref t] ∧ Tab H t prs ∧ Sm prs ∧ ∀ H', Same H H' → Q (.bl (shB prs)) H'
theorem sc_shape : FnScope ["thing", "row"] ["thing"] (defScope dShape) := ⟨rfl, rfl, rfl, by decide +kernel, rfl, by decide +kernel, by decide +kernel⟩
theorem ok_shape (T : Blt mg) (D : DefAt K mg "has_table_shape" dShape ["thing"]) (G : FnAt P w K mg base 3 "is_row" ["thing"] spIsRow) : FnAt P w K mg base 4 "has_table_shape" ["thing"] spShape := by
  refine FnAt.of D sc_shape (fun vs H Q E h => ?_) (fun f cdv A outer s H vs Q E hr h => ?_)
  · obtain ⟨t, prs, rfl, _⟩ := h
    rfl
  · obtain ⟨t, prs, rfl, hT, ⟨hn, hw⟩, q⟩ := h
    obtain ⟨tk, mr⟩ := T.mr
    have nd1 : (["row"] : List Str).Nodup := by decide +kernel
    have nd2 : (["row", "thing"] : List Str).Nodup := by decide +kernel
    refine ⟨_, pss_cons (ps_if (PW.pt (pw_or (pt_not (pt_val (pe_b call_isinst T.isinst boot_isinstance (pa_cons (pv 0) (pa_cons (pe_ty T.list boot_list) pa_nil)))))
        (pw_or1 (pt_not (pt_chain op_le op_le pe_int (pe_b call_len_seq T.len boot_len (pa_cons (pv 0) pa_nil)) (pe_glob (v := .int 6) rfl mr ⟨_, rfl⟩)))))) (pss_one (ps_ret pe_bl)) pss_nil)
      (pss_cons (ps_if (pt_not (pt_val (pe_b (call_all rfl) T.all boot_all (pa_cons (pe_comp ["row"] [none] (defScope dShape) ["thing", "row"] rfl (pi_list (pv 0)) (by decide +kernel)
        (fun cl C s2 H2 ex => pg_c 0 nd1) (fun cl C s2 H2 ex => pifs_nil) (fun cl C s2 H2 ex => pe_f G hr (pa_cons (pv 0) pa_nil))) pa_nil)))) (pss_one (ps_ret pe_bl)) pss_nil)
      (pss_one (ps_ret (pe_b (call_all rfl) T.all boot_all (pa_cons (pe_comp ["row", "thing"] [none, some 0] (defScope dShape) ["thing", "row"] rfl (pi_list (pv 0)) (by decide +kernel)
        (fun cl C s2 H2 ex => pg_c 0 nd2) (fun cl C s2 H2 ex => pifs_nil)
        (fun cl C s2 H2 ex => pe_cmpR op_eq (pe_b (lenK K) T.len boot_len (pa_cons (pv 0) pa_nil)) (pe_b (lenK K) T.len boot_len (pa_cons (pe_ix (ixL K) (pv 1) pe_int (fun _ _ => rfl)) pa_nil)) (nomark _))) pa_nil))))), ?_⟩
    refine ⟨_, rfl, _, _, _, _, rfl, .lst hT.l, kit_ll _, _, rfl, iteF ⟨_, rfl, t, _, rfl, .inl hT.sq, 1, _, rfl, rfl, _, rfl, ?_⟩⟩
    rw [List.length_map]
    have bad : ¬ (1 ≤ prs.length ∧ prs.length ≤ 6) → shB prs = false := fun z => by
      unfold shB
      rw [← Bool.decide_and, decide_eq_false z]
      rfl
    refine ite2 (fun h1 => ?_) (fun h1 => ?_)
    · have h1 := of_decide_eq_true h1
      refine ⟨_, _, rfl, rfl, _, rfl, ?_⟩
      by_cases h2 : prs.length ≤ 6
      · rw [decide_eq_true (show (prs.length : Int) ≤ 6 by omega)]
        refine iteF ?_
        -- rows
        refine ⟨_, rfl, t, rfl, ⟨_, hT.sq⟩, comp_map (fun p => V.ref p.1) (fun p => .bl (rowB p.2)) hT.sq (sl6 hn) (fun p hp H' Q' sm q' => ?_) fun D H' hD sm hDl => ?_⟩
        · exact ⟨_, rfl, p.1, p.2, rfl, (hT.r p hp).same sm, hw p hp, q'⟩
        · refine ⟨D, prs.map fun p => rowB p.2, rfl, SqL.of (by rw [hDl, map_bl]), _, rfl, ?_⟩
          cases e1 : (prs.map fun p => rowB p.2).all id with
          | false =>
            refine iteT ?_
            have e : shB prs = false := by
              unfold shB
              rw [e1]
              simp
            have q1 := q H' sm
            rw [e] at q1
            exact q1
          | true =>
            refine iteF ?_
            have hT1 := hT.same sm
            obtain ⟨p0, hp0, hm0, hx0⟩ := head_at (prs := prs) (by omega)
            have hw0 : w0 prs = p0.2.length := by
              unfold w0
              rw [hp0]
              rfl
            refine ⟨_, rfl, t, rfl, ⟨_, hT1.sq⟩, comp_map (fun p => V.ref p.1) (fun p => .bl (decide (p.2.length = w0 prs))) hT1.sq (sl6 hn) (fun p hp H2 Q' sm2 q' => ?_) fun D2 H2 hD2 sm2 hDl2 => ?_⟩
            · have hT2 := hT1.same sm2
              refine ⟨_, rfl, p.1, _, rfl, .inl (hT2.r p hp).sq, _, rfl, t, _, 0, .ref p0.1, rfl, rfl, hT2.sq, atI_nat (j := 0) (by rw [List.getElem?_map, hx0]; rfl), p0.1, _, rfl, .inl (hT2.r p0 hm0).sq, rfl, ?_⟩
              rw [List.length_map, List.length_map, dec_nat, ← hw0]
              exact q' _ (Same.refl _)
            · refine ⟨D2, prs.map fun p => decide (p.2.length = w0 prs), rfl, SqL.of (by rw [hDl2, map_bl]), ?_⟩
              have q1 := q H2 (sm.trans sm2)
              unfold shB at q1
              rw [e1, decide_eq_true (show 1 ≤ prs.length by omega), decide_eq_true h2] at q1
              exact q1
      · rw [decide_eq_false (show ¬ (prs.length : Int) ≤ 6 by omega)]
        refine iteT ?_
        have q1 := q H (Same.refl _)
        rw [bad (by omega)] at q1
        exact q1
    · refine ⟨_, rfl, iteT ?_⟩
      have q1 := q H (Same.refl _)
      rw [bad (by
        intro z
        exact h1 (decide_eq_true (by omega)))] at q1
      exact q1
end
end Seek
namespace Seek
open PySem L2 PyProof.Rows
section
variable {P : Program} {w : World} {K : PySem.W.Frag} {mg : Str → Option Value} {base : Heap}
/-! numbers_at_place -/
def spAtPlace : Sp := fun vs H Q _ => ∃ (t : Addr) (prs : Prs) (j : Nat), vs = [.ref t, .int j] ∧ Tab H t prs ∧ prs.length ≤ 1000 ∧ (∀ p ∈ prs, j < p.2.length) ∧ ∀ D H', H D = none → Same H H' → Row H' D (col prs j) → Q (.ref D) H'
theorem sc_atPlace : FnScope ["table", "place"] ["table", "place"] (defScope dAtPlace) := ⟨rfl, rfl, rfl, by decide +kernel, rfl, by decide +kernel, by decide +kernel⟩
theorem ok_atPlace (D : DefAt K mg "numbers_at_place" dAtPlace ["table", "place"]) : FnAt P w K mg base 1 "numbers_at_place" ["table", "place"] spAtPlace := by
  refine FnAt.of D sc_atPlace (fun vs H Q E h => ?_) (fun f cdv A outer s H vs Q E hr h => ?_)
  · obtain ⟨t, prs, j, rfl, _⟩ := h
    rfl
  · obtain ⟨t, prs, j, rfl, hT, hn, hj, q⟩ := h
    have nd1 : (["row", "place"] : List Str).Nodup := by decide +kernel
    refine ⟨_, pss_one (ps_ret (pe_comp ["row", "place"] [none, some 1] (defScope dAtPlace) ["table", "place"] rfl (pi_list (pv 0)) (by decide +kernel)
        (fun cl C s2 H2 ex => pg_c 0 nd1) (fun cl C s2 H2 ex => pifs_nil) (fun cl C s2 H2 ex => pe_ix (ixL K) (pv 0) (pv 1) (fun _ _ => rfl)))), ?_⟩
    refine ⟨_, rfl, t, rfl, ⟨_, hT.sq⟩, comp_map (fun p => V.ref p.1) (fun p => .int (p.2.getD j 0)) hT.sq (sl6 hn) (fun p hp H' Q' sm q' => ?_) fun D H' hD sm hDl => ?_⟩
    · exact ⟨_, rfl, _, rfl, p.1, _, _, _, rfl, rfl, ((hT.r p hp).same sm).sq, at_row (hj p hp), q' _ (Same.refl _)⟩
    · refine q D H' hD sm ?_
      unfold Row col
      rw [hDl, List.map_map]
      rfl
/-! is_sorted_both_ways -/
def spSorted : Sp := fun vs H Q _ => ∃ (t : Addr) (prs : Prs), vs = [.ref t] ∧ Tab H t prs ∧ Sm prs ∧ 1 ≤ prs.length ∧ (∀ p ∈ prs, p.2.length = w0 prs) ∧ ∀ H', Same H H' → Q (.bl (srB prs)) H'
theorem sc_sorted : FnScope ["table", "row", "place"] ["table"] (defScope dSorted) := ⟨rfl, rfl, rfl, by decide +kernel, rfl, by decide +kernel, by decide +kernel⟩
theorem ok_sorted (T : Blt mg) (D : DefAt K mg "is_sorted_both_ways" dSorted ["table"]) (G : FnAt P w K mg base 1 "never_falls" ["numbers"] spNF) (G2 : FnAt P w K mg base 1 "numbers_at_place" ["table", "place"] spAtPlace) : FnAt P w K mg base 2 "is_sorted_both_ways" ["table"] spSorted := by
  refine FnAt.of D sc_sorted (fun vs H Q E h => ?_) (fun f cdv A outer s H vs Q E hr h => ?_)
  · obtain ⟨t, prs, rfl, _⟩ := h
    rfl
  · obtain ⟨t, prs, rfl, hT, ⟨hn, hw⟩, h1, hv, q⟩ := h
    have nd1 : (["row"] : List Str).Nodup := by decide +kernel
    have nd2 : (["place", "table"] : List Str).Nodup := by decide +kernel
    obtain ⟨p0, hp0, hm0, hx0⟩ := head_at (prs := prs) h1
    have hw0 : w0 prs = p0.2.length := (hv p0 hm0).symm
    refine ⟨_, pss_cons (ps_if (pt_not (pt_val (pe_b (call_all rfl) T.all boot_all (pa_cons (pe_comp ["row"] [none] (defScope dSorted) ["table", "row", "place"] rfl (pi_list (pv 0)) (by decide +kernel)
        (fun cl C s2 H2 ex => pg_c 0 nd1) (fun cl C s2 H2 ex => pifs_nil) (fun cl C s2 H2 ex => pe_f G hr (pa_cons (pv 0) pa_nil))) pa_nil)))) (pss_one (ps_ret pe_bl)) pss_nil)
      (pss_one (ps_ret (pe_b (call_all rfl) T.all boot_all (pa_cons (pe_comp ["place", "table"] [none, some 0] (defScope dSorted) ["table", "row", "place"] rfl
        (pi_range1 rfl T.rng (pa_cons (pe_b call_len_seq T.len boot_len (pa_cons (pe_ix ix_list (pv 0) pe_int (fun _ _ => rfl)) pa_nil)) pa_nil)) (by decide +kernel)
        (fun cl C s2 H2 ex => pg_c 0 nd2) (fun cl C s2 H2 ex => pifs_nil)
        (fun cl C s2 H2 ex => pe_f G hr (pa_cons (pe_f G2 hr (pa_cons (pv 1) (pa_cons (pv 0) pa_nil))) pa_nil))) pa_nil)))), ?_⟩
    refine ⟨_, rfl, t, rfl, ⟨_, hT.sq⟩, comp_map (fun p => V.ref p.1) (fun p => .bl (nfB p.2)) hT.sq (sl6 hn) (fun p hp H' Q' sm q' => ?_) fun D H' hD sm hDl => ?_⟩
    · exact ⟨_, rfl, p.1, p.2, rfl, (hT.r p hp).same sm, hw p hp, q'⟩
    · refine ⟨D, prs.map fun p => nfB p.2, rfl, SqL.of (by rw [hDl, map_bl]), _, rfl, ?_⟩
      cases e1 : (prs.map fun p => nfB p.2).all id with
      | false =>
        refine iteT ?_
        have q1 := q H' sm
        unfold srB at q1
        rw [e1] at q1
        exact q1
      | true =>
        refine iteF ?_
        have hT1 := hT.same sm
        refine ⟨_, rfl, t, _, 0, .ref p0.1, rfl, rfl, hT1.sq, atI_nat (j := 0) (by rw [List.getElem?_map, hx0]; rfl), p0.1, _, rfl, .inl (hT1.r p0 hm0).sq, _, rfl, ?_, ?_, ?_⟩
        · omega
        · have := hw p0 hm0
          rw [List.length_map]
          omega
        · rw [List.length_map, ← hw0, Int.toNat_natCast]
          have hb : w0 prs ≤ 1000 := by rw [hw0]; exact hw p0 hm0
          refine comp_range (fun j => .bl (nfB (col prs j))) (sl6 hb) (fun j hj H2 Q' sm2 q' => ?_) fun D2 H2 hD2 sm2 hDl2 => ?_
          · have hT2 := hT1.same sm2
            refine ⟨_, rfl, _, rfl, t, prs, j, by rw [Int.zero_add], hT2, hn, fun p hp => by rw [hv p hp]; exact hj, fun D3 H3 hD3 sm3 r3 => ⟨D3, col prs j, rfl, r3, ?_, fun H4 sm4 => q' H4 (sm3.trans sm4)⟩⟩
            unfold col
            rw [List.length_map]
            exact hn
          · refine ⟨D2, (List.range (w0 prs)).map fun j => nfB (col prs j), rfl, SqL.of (by rw [hDl2, map_bl]), ?_⟩
            have q1 := q H2 (sm.trans sm2)
            unfold srB at q1
            rw [e1] at q1
            exact q1
/-! is_table -/
def spIsTable : Sp := fun vs H Q _ => ∃ (t : Addr) (prs : Prs), vs = [.ref t] ∧ Tab H t prs ∧ Sm prs ∧ ∀ H', Same H H' → Q (.bl (tabB prs)) H'
theorem sc_isTable : FnScope ["thing"] ["thing"] (defScope dIsTable) := ⟨rfl, rfl, rfl, by decide +kernel, rfl, by decide +kernel, by decide +kernel⟩
theorem shB_of {prs : Prs} (h : shB prs = true) : 1 ≤ prs.length ∧ prs.length ≤ 6 ∧ (∀ p ∈ prs, 1 ≤ p.2.length ∧ p.2.length ≤ 6) ∧ ∀ p ∈ prs, p.2.length = w0 prs := by
  unfold shB rowB at h
  simp only [Bool.and_eq_true, decide_eq_true_eq, List.all_eq_true, List.mem_map, id] at h
  obtain ⟨⟨h1, h2⟩, h3, h4⟩ := h
  exact ⟨h1, h2, fun p hp => by simpa using h3 _ ⟨p, hp, rfl⟩, fun p hp => by simpa using h4 _ ⟨p, hp, rfl⟩⟩
theorem ok_isTable (D : DefAt K mg "is_table" dIsTable ["thing"]) (G : FnAt P w K mg base 4 "has_table_shape" ["thing"] spShape) (G2 : FnAt P w K mg base 2 "is_sorted_both_ways" ["table"] spSorted) : FnAt P w K mg base 5 "is_table" ["thing"] spIsTable := by
  refine FnAt.of D sc_isTable (fun vs H Q E h => ?_) (fun f cdv A outer s H vs Q E hr h => ?_)
  · obtain ⟨t, prs, rfl, _⟩ := h
    rfl
  · obtain ⟨t, prs, rfl, hT, hs, q⟩ := h
    refine ⟨_, pss_one (ps_ret (pe_and (pe_f G hr (pa_cons (pv 0) pa_nil)) (pe_one (pe_f G2 (hr.mono (by decide)) (pa_cons (pv 0) pa_nil))))), ?_⟩
    refine ⟨_, rfl, t, prs, rfl, hT, hs, fun H' sm => ⟨_, rfl, ?_⟩⟩
    cases e : shB prs with
    | false =>
      refine iteF ?_
      have q1 := q H' sm
      unfold tabB at q1
      rw [e] at q1
      exact q1
    | true =>
      obtain ⟨a1, a2, a3, a4⟩ := shB_of e
      refine iteT ⟨_, rfl, t, prs, rfl, hT.same sm, hs, a1, a4, fun H2 sm2 => ?_⟩
      have q1 := q H2 (sm.trans sm2)
      unfold tabB at q1
      rw [e] at q1
      exact q1
/-! need_table, need_number: of good ones -/
def spNeedTable : Sp := fun vs H Q _ => ∃ (t : Addr) (prs : Prs), vs = [.ref t] ∧ Tab H t prs ∧ Sm prs ∧ tabB prs = true ∧ ∀ H', Same H H' → Q .non H'
theorem sc_needTable : FnScope ["thing"] ["thing"] (defScope dNeedTable) := ⟨rfl, rfl, rfl, by decide +kernel, rfl, by decide +kernel, by decide +kernel⟩
theorem ok_needTable (D : DefAt K mg "need_table" dNeedTable ["thing"]) (G : FnAt P w K mg base 5 "is_table" ["thing"] spIsTable) : FnAt P w K mg base 6 "need_table" ["thing"] spNeedTable := by
  refine FnAt.of D sc_needTable (fun vs H Q E h => ?_) (fun f cdv A outer s H vs Q E hr h => ?_)
  · obtain ⟨t, prs, rfl, _⟩ := h
    rfl
  · obtain ⟨t, prs, rfl, hT, hs, hg, q⟩ := h
    refine ⟨_, pss_one (ps_if (pt_not (pt_val (pe_f G hr (pa_cons (pv 0) pa_nil)))) pss_never pss_nil), ?_⟩
    refine ⟨_, rfl, t, prs, rfl, hT, hs, fun H' sm => ⟨_, rfl, ?_⟩⟩
    rw [hg]
    exact iteF (q H' sm)
def spNeedNumber : Sp := fun vs H Q _ => ∃ i : Int, vs = [.int i] ∧ Q .non H
theorem sc_needNumber : FnScope ["thing"] ["thing"] (defScope dNeedNumber) := ⟨rfl, rfl, rfl, by decide +kernel, rfl, by decide +kernel, by decide +kernel⟩
theorem ok_needNumber (D : DefAt K mg "need_number" dNeedNumber ["thing"]) (G : FnAt P w K mg base 1 "is_whole" ["thing"] spIsWhole) : FnAt P w K mg base 2 "need_number" ["thing"] spNeedNumber := by
  refine FnAt.of D sc_needNumber (fun vs H Q E h => ?_) (fun f cdv A outer s H vs Q E hr h => ?_)
  · obtain ⟨i, rfl, _⟩ := h
    rfl
  · obtain ⟨i, rfl, q⟩ := h
    refine ⟨_, pss_one (ps_if (pt_not (pt_val (pe_f G hr (pa_cons (pv 0) pa_nil)))) pss_never pss_nil), ?_⟩
    exact ⟨_, rfl, i, rfl, _, rfl, iteF q⟩
end
end Seek
namespace Seek
open PySem L2 PyProof.Rows
/-! ### the mathematics of tables -/
def nfP (ns : List Int) : Prop := ∀ i, i + 1 < ns.length → ns.getD i 0 ≤ ns.getD (i + 1) 0
theorem nfB_iff {ns : List Int} : nfB ns = true ↔ nfP ns := by
  unfold nfB nfP
  simp only [List.all_map, List.all_eq_true, List.mem_range, Function.comp, id, decide_eq_true_eq]
  constructor
  · intro h i hi
    exact h i (by omega)
  · intro h i hi
    exact h i (by omega)
def rowAt (prs : Prs) (i : Nat) : List Int := ((prs[i]?).map (·.2)).getD []
theorem rowAt_mem {prs : Prs} {i : Nat} (h : i < prs.length) : ∃ p ∈ prs, prs[i]? = some p ∧ rowAt prs i = p.2 := by
  refine ⟨prs[i], List.getElem_mem h, by simp [h], ?_⟩
  unfold rowAt
  rw [List.getElem?_eq_getElem h]
  rfl
theorem col_len (prs : Prs) (j : Nat) : (col prs j).length = prs.length := by
  unfold col
  rw [List.length_map]
theorem col_at {prs : Prs} {i j : Nat} (h : i < prs.length) : (col prs j).getD i 0 = (rowAt prs i).getD j 0 := by
  unfold col rowAt
  rw [List.getD_eq_getElem?_getD, List.getElem?_map, List.getElem?_eq_getElem h]
  rfl
structure GoodP (wide : Nat) (prs : Prs) : Prop where
  len : ∀ p ∈ prs, p.2.length = wide
  row : ∀ p ∈ prs, nfP p.2
  down : ∀ i, i + 1 < prs.length → ∀ j, j < wide → (rowAt prs i).getD j 0 ≤ (rowAt prs (i + 1)).getD j 0
theorem w0_of {wide : Nat} {prs : Prs} (h : 1 ≤ prs.length) (hl : ∀ p ∈ prs, p.2.length = wide) : w0 prs = wide := by
  obtain ⟨p, h1, h2, _⟩ := head_at h
  unfold w0
  rw [h1]
  exact hl p h2
theorem tabB_of {wide : Nat} {prs : Prs} (g : GoodP wide prs) (h1 : 1 ≤ prs.length) (h2 : prs.length ≤ 6) (h3 : 1 ≤ wide) (h4 : wide ≤ 6) : tabB prs = true := by
  have hw := w0_of h1 g.len
  unfold tabB shB srB rowB
  simp only [Bool.and_eq_true, decide_eq_true_eq, List.all_eq_true, List.mem_map, id]
  refine ⟨⟨⟨h1, h2⟩, ?_, ?_⟩, ?_, ?_⟩
  · rintro b ⟨p, hp, rfl⟩
    have := g.len p hp
    simp only [Bool.and_eq_true, decide_eq_true_eq]
    omega
  · rintro b ⟨p, hp, rfl⟩
    rw [decide_eq_true_eq, hw]
    exact g.len p hp
  · rintro b ⟨p, hp, rfl⟩
    exact nfB_iff.mpr (g.row p hp)
  · rintro b ⟨j, hj, rfl⟩
    rw [List.mem_range, hw] at hj
    refine nfB_iff.mpr fun i hi => ?_
    rw [col_len] at hi
    rw [col_at (by omega), col_at hi]
    exact g.down i hi j hj
theorem good_of {prs : Prs} (h : tabB prs = true) : GoodP (w0 prs) prs ∧ 1 ≤ prs.length ∧ prs.length ≤ 6 ∧ 1 ≤ w0 prs ∧ w0 prs ≤ 6 := by
  unfold tabB at h
  rw [Bool.and_eq_true] at h
  obtain ⟨h1, h2, h3, h4⟩ := shB_of h.1
  obtain ⟨p, e1, e2, _⟩ := head_at h1
  have h5 := h3 p e2
  have h6 := h4 p e2
  have hs := h.2
  unfold srB at hs
  simp only [Bool.and_eq_true, List.all_eq_true, List.mem_map, id] at hs
  refine ⟨⟨h4, fun p hp => nfB_iff.mp (hs.1 _ ⟨p, hp, rfl⟩), fun i hi j hj => ?_⟩, h1, h2, by omega, by omega⟩
  have := nfB_iff.mp (hs.2 _ ⟨j, List.mem_range.mpr hj, rfl⟩) i (by rw [col_len]; exact hi)
  rw [col_at (by omega), col_at hi] at this
  exact this
theorem getD_push {ns : List Int} {v : Int} {i : Nat} : (ns ++ [v]).getD i 0 = if i < ns.length then ns.getD i 0 else if i = ns.length then v else 0 := by
  rw [List.getD_eq_getElem?_getD, List.getD_eq_getElem?_getD]
  by_cases h : i < ns.length
  · rw [if_pos h, List.getElem?_append_left h]
  · rw [if_neg h, List.getElem?_append_right (by omega)]
    by_cases h2 : i = ns.length
    · subst h2
      simp
    · rw [if_neg h2, List.getElem?_eq_none (by simp; omega)]
      rfl
theorem nfP_push {ns : List Int} {v : Int} (h : nfP ns) (hl : ∀ k, k + 1 = ns.length → ns.getD k 0 ≤ v) : nfP (ns ++ [v]) := fun i hi => by
  rw [List.length_append, List.length_singleton] at hi
  rw [getD_push, getD_push, if_pos (by omega)]
  by_cases h2 : i + 1 < ns.length
  · rw [if_pos h2]
    exact h i h2
  · rw [if_neg h2, if_pos (by omega)]
    exact hl i (by omega)
theorem rowAt_push {prs : Prs} {p : Addr × List Int} {i : Nat} (h : i ≤ prs.length) : rowAt (prs ++ [p]) i = if i < prs.length then rowAt prs i else p.2 := by
  unfold rowAt
  by_cases h2 : i < prs.length
  · rw [if_pos h2, List.getElem?_append_left h2]
  · have : i = prs.length := by omega
    subst this
    rw [if_neg h2]
    simp
theorem good_push {wide : Nat} {prs : Prs} {a : Addr} {cur : List Int} (g : GoodP wide prs) (hl : cur.length = wide) (hn : nfP cur) (hd : prs.length = 0 ∨ ∀ j, j < wide → (rowAt prs (prs.length - 1)).getD j 0 ≤ cur.getD j 0) : GoodP wide (prs ++ [(a, cur)]) where
  len := fun p hp => by
    rcases List.mem_append.mp hp with z | z
    · exact g.len p z
    · have : p = (a, cur) := by simpa using z
      subst this
      exact hl
  row := fun p hp => by
    rcases List.mem_append.mp hp with z | z
    · exact g.row p z
    · have : p = (a, cur) := by simpa using z
      subst this
      exact hn
  down := fun i hi j hj => by
    rw [List.length_append, List.length_singleton] at hi
    rw [rowAt_push (by omega), rowAt_push (by omega), if_pos (by omega)]
    by_cases h2 : i + 1 < prs.length
    · rw [if_pos h2]
      exact g.down i h2 j hj
    · rw [if_neg h2]
      rcases hd with z | z
      · omega
      · have := z j hj
        rw [show prs.length - 1 = i by omega] at this
        exact this
theorem at_mem {ns : List Int} {d : Int} (h0 : 0 ≤ d) (h1 : d < ns.length) : ∃ r ∈ ns, atI (ns.map V.int) d = some (.int r) := by
  obtain ⟨k, rfl⟩ : ∃ k : Nat, d = k := ⟨d.toNat, by omega⟩
  have hk : k < ns.length := by omega
  exact ⟨ns[k], List.getElem_mem hk, atI_nat (by simp [hk])⟩
theorem atI_last {α : Type} {xs : List α} {v : α} (h : xs[xs.length - 1]? = some v) : atI xs (-1) = some v := by
  have hl : 0 < xs.length := by
    have := (List.getElem?_eq_some_iff.mp h).1
    omega
  unfold atI ixN
  rw [if_neg (by decide), if_pos (by omega)]
  show xs[((-1 : Int) + (xs.length : Int)).toNat]? = some v
  rw [show ((-1 : Int) + (xs.length : Int)).toNat = xs.length - 1 by omega]
  exact h
theorem at_last {ns : List Int} (h : 0 < ns.length) : atI (ns.map V.int) (-1) = some (.int (ns.getD (ns.length - 1) 0)) := by
  refine atI_last ?_
  rw [List.length_map, List.getElem?_map, List.getD_eq_getElem?_getD, List.getElem?_eq_getElem (by omega)]
  rfl
end Seek
namespace Seek
open PySem L2 PyProof.Rows
theorem Row.push {H : Hp} {D : Addr} {ds : List Int} {v : Int} : Row (upd H D (.lst (ds.map V.int ++ [.int v]))) D (ds ++ [v]) := by
  unfold Row
  rw [upd_same, List.map_append]
  rfl
theorem Row.new {H : Hp} {D : Addr} : Row (upd H D (.lst [])) D [] := upd_same
def Drw (ds : List Int) : Prop := ∀ d ∈ ds, 0 ≤ d ∧ d < 10007
theorem Drw.push {ds : List Int} {v : Int} (h : Drw ds) (h0 : 0 ≤ v) (h1 : v < 10007) : Drw (ds ++ [v]) := fun d hd => by
  rcases List.mem_append.mp hd with z | z
  · exact h d z
  · have : d = v := by simpa using z
    subst this
    exact ⟨h0, h1⟩
theorem mod_b (x : Int) : 0 ≤ x % 10007 ∧ x % 10007 < 10007 := ⟨Int.emod_nonneg _ (by decide), Int.emod_lt_of_pos _ (by decide)⟩
theorem cut_ints (ns : List Int) (lo hi : Option Int) : ∃ ms : List Int, cutV (ns.map V.int) lo hi = ms.map V.int ∧ ms.length ≤ ns.length := by
  refine ⟨(ns.drop (HT.sIx (ns.map V.int).length 0 lo)).take (HT.sIx (ns.map V.int).length (ns.map V.int).length hi - HT.sIx (ns.map V.int).length 0 lo), ?_, ?_⟩
  · unfold cutV
    rw [List.map_take, List.map_drop]
  · rw [List.length_take, List.length_drop]
    omega
section
variable {P : Program} {w : World} {K : PySem.W.Frag} {mg : Str → Option Value} {base : Heap}
def spDraws (K : PySem.W.Frag) : Sp := fun vs H Q _ => ∃ (a : Addr) (ns : List Int), vs = [.ref a, .int 650] ∧ SqL K H a (ns.map V.int) ∧ ns.length ≤ 63 ∧
  ∀ D H' ds, H D = none → Same H H' → Row H' D ds → 650 ≤ ds.length → ds.length ≤ 1000 → Drw ds → Q (.ref D) H'
theorem sc_draws : FnScope ["script", "many", "drawn", "base", "k", "cell", "number", "one"] ["script", "many"] (defScope dDraws) := ⟨rfl, rfl, rfl, by decide +kernel, rfl, by decide +kernel, by decide +kernel⟩
set_option maxHeartbeats 16000000 in
theorem ok_draws (T : Blt mg) (D : DefAt K mg "_law_draws" dDraws ["script", "many"]) : FnAt P w K mg base 1 "_law_draws" ["script", "many"] (spDraws K) := by
  refine FnAt.of D sc_draws (fun vs H Q E h => ?_) (fun f cdv A outer s H vs Q E hr h => ?_)
  · obtain ⟨a, ns, rfl, _⟩ := h
    rfl
  · obtain ⟨a, ns, rfl, hS, hn, q⟩ := h
    refine ⟨_, pss_cons (ps_set (i := 2) sc_draws.nd rfl (Or.inl rfl) (pe_lst pa_nil))
      (pss_cons (ps_set (i := 3) sc_draws.nd rfl (Or.inl rfl) pe_int)
      (pss_cons (ps_for PassesOwn.never rfl (pi_enum rfl T.enum (pa_cons (pe_slice sl_list (pv 0) po_none (po_some pe_int)) pa_nil)) (pg_tup rfl (pgs_cons (pg_name (i := 4) sc_draws.nd rfl (Or.inl rfl)) (pgs_cons (pg_name (i := 5) sc_draws.nd rfl (Or.inl rfl)) pgs_nil)))
        (pss_cons (ps_set (i := 6) sc_draws.nd rfl (Or.inl rfl) (pe_b call_abs T.abs boot_abs (pa_cons (pv 5) pa_nil)))
        (pss_cons (ps_set (i := 3) sc_draws.nd rfl (Or.inl rfl) (pe_op o_mod (pe_op o_add (pe_op o_mul (pv 3) pe_int) (pv 6)) pe_int))
        (pss_one (ps_if (pt_cmpR o_ge (pv 6) (pe_op o_pow pe_int pe_int) (nomark _))
          (pss_one (ps_while PassesOwn.never (PW.pt (pw_and (pt_cmpR o_gt (pv 6) pe_int (nomark _)) (pw_and1 (pt_cmpR o_lt (pe_b call_len_seq T.len boot_len (pa_cons (pv 2) pa_nil)) (pv 1) (nomark _)))))
            (pss_cons (ps_expr (pe_bm PySem.F.plainAttrs_list PySem.F.slot_list_append PySem.F.type_list_append mt_append (pv 2) (pa_cons (pe_op o_mod (pv 6) pe_int) pa_nil)))
            (pss_one (ps_set (i := 6) sc_draws.nd rfl (Or.inl rfl) (pe_op o_div (pv 6) pe_int))))))
          (pss_cons (ps_set (i := 7) sc_draws.nd rfl (Or.inl rfl) (pe_op o_mod (pe_op o_mul (pe_op o_add (pe_op o_add (pe_op o_mod (pv 6) pe_int) (pv 4)) pe_int) pe_int) pe_int))
          (pss_cons (ps_set (i := 7) sc_draws.nd rfl (Or.inl rfl) (pe_op o_mod (pe_op o_mul (pv 7) (pv 7)) pe_int))
          (pss_cons (ps_expr (pe_bm PySem.F.plainAttrs_list PySem.F.slot_list_append PySem.F.type_list_append mt_append (pv 2) (pa_cons (pe_op o_mod (pe_op o_div (pv 7) pe_int) pe_int) pa_nil)))
          (pss_cons (ps_set (i := 7) sc_draws.nd rfl (Or.inl rfl) (pe_op o_mod (pe_op o_add (pe_op o_add (pe_op o_mul (pv 7) pe_int) (pe_op o_mul pe_int (pv 4))) pe_int) pe_int))
          (pss_cons (ps_set (i := 7) sc_draws.nd rfl (Or.inl rfl) (pe_op o_mod (pe_op o_mul (pv 7) (pv 7)) pe_int))
          (pss_one (ps_expr (pe_bm PySem.F.plainAttrs_list PySem.F.slot_list_append PySem.F.type_list_append mt_append (pv 2) (pa_cons (pe_op o_mod (pe_op o_div (pv 7) pe_int) pe_int) pa_nil))))))))))))))
      (pss_cons (ps_for PassesOwn.never rfl (pi_range1 rfl T.rng (pa_cons (pe_op o_sub (pv 1) (pe_b call_len_seq T.len boot_len (pa_cons (pv 2) pa_nil))) pa_nil)) (pg_name (i := 4) sc_draws.nd rfl (Or.inl rfl))
        (pss_cons (ps_set (i := 7) sc_draws.nd rfl (Or.inl rfl) (pe_op o_mod (pe_op o_add (pe_op o_add (pv 3) (pe_op o_mul pe_int (pv 4))) pe_int) pe_int))
        (pss_cons (ps_set (i := 7) sc_draws.nd rfl (Or.inl rfl) (pe_op o_mod (pe_op o_mul (pv 7) (pv 7)) pe_int))
        (pss_cons (ps_set (i := 7) sc_draws.nd rfl (Or.inl rfl) (pe_op o_mod (pe_op o_add (pe_op o_mul (pv 7) pe_int) (pv 4)) pe_int))
        (pss_one (ps_expr (pe_bm PySem.F.plainAttrs_list PySem.F.slot_list_append PySem.F.type_list_append mt_append (pv 2) (pa_cons (pe_op o_mod (pe_op o_div (pe_op o_mod (pe_op o_mul (pv 7) (pv 7)) pe_int) pe_int) pe_int) pa_nil))))))))
      (pss_one (ps_ret (pv 2)))))), ?_⟩
    refine ⟨by decide, fun D hD => ?_⟩
    -- the slice
    refine ⟨_, rfl, _, rfl, a, _, rfl, (Same.new hD).seq hS, fun S hSn => ?_⟩
    obtain ⟨ms, ems, hms⟩ := cut_ints ns none (some 63)
    rw [ems]
    have nSD : S ≠ D := fun z => by rw [z, upd_same] at hSn; cases hSn
    refine ⟨S, rfl, ⟨_, SqL.of upd_same⟩, for_enum (K := K) (a := S) (xs := ms.map V.int) (fun i σ H2 => ∃ (ds : List Int) (b : Int) (k c n o : Option V), σ = [some (.ref a), some (.int 650), some (.ref D), some (.int b), k, c, n, o] ∧ Same H H2 ∧ Row H2 D ds ∧
      H2 S = some (.lst (ms.map V.int)) ∧ ds.length ≤ 650 + 2 * i ∧ Drw ds) ?_ (fun i σ H2 _ ⟨_, _, _, _, _, _, _, _, _, h, _⟩ => SqL.of h) ?_ ?_⟩
    · refine ⟨[], 7, none, none, none, none, rfl, ((Same.new hD).trans (Same.new hSn)), ?_, upd_same, by simp, fun d hd => nomatch hd⟩
      unfold Row
      rw [upd_ne (Ne.symm nSD)]
      exact upd_same
    · rintro i y σ H2 T hi ⟨ds, b, k, c, n, o, rfl, sm, hR, hSl, hl, hd⟩ hT
      have hil : i < ms.length := by
        have := (List.getElem?_eq_some_iff.mp hi).1
        rw [List.length_map] at this
        exact this
      obtain ⟨z, rfl⟩ : ∃ z, y = V.int z := by
        rw [List.getElem?_map] at hi
        cases e : ms[i]? with
        | none => rw [e] at hi; cases hi
        | some z => rw [e] at hi; exact ⟨z, (Option.some.inj hi).symm⟩
      have smT : Same H2 (upd H2 T (.tup [.int (i : Nat), .int z])) := Same.new hT
      have sm1 := sm.trans smT
      have hR1 := hR.same smT
      have hS1 := smT _ _ hSl
      have hTt : (upd H2 T (.tup [.int (i : Nat), .int z])) T = some (.tup [.int (i : Nat), .int z]) := upd_same
      generalize upd H2 T (.tup [.int (i : Nat), .int z]) = H3 at sm1 hR1 hS1 smT hTt ⊢
      refine ⟨T, _, rfl, SqT.of hTt, rfl, _, _, rfl, _, _, rfl, rfl, ?_⟩
      -- number = abs(cell); base = ..
      refine ⟨_, rfl, _, rfl, _, rfl, _, _, rfl, rfl, .inr ⟨by decide, by decide⟩, _, rfl, _, _, rfl, rfl, _, _, rfl, rfl, (by decide), ?_⟩
      have habs : 0 ≤ (if z < 0 then -z else z) := by split <;> omega
      generalize (if z < 0 then -z else z) = nb at habs ⊢
      generalize (b * 31 + nb) % 2147483629 = b1
      refine ⟨_, rfl, _, _, rfl, rfl, ⟨by decide, by decide, by decide⟩, _, _, rfl, rfl, _, rfl, ?_⟩
      refine ite2 (fun _ => ?_) (fun _ => ?_)
      · -- the digits
        refine ⟨fun m σ' H' => ∃ (ds : List Int) (n : Int), m = n.toNat ∧ 0 ≤ n ∧ σ' = [some (.ref a), some (.int 650), some (.ref D), some (.int b1), some (.int (i : Nat)), some (.int z), some (.int n), o] ∧ Same H H' ∧ Row H' D ds ∧
          H' S = some (.lst (ms.map V.int)) ∧ ds.length ≤ 650 + 2 * i ∧ Drw ds, ⟨_, ds, nb, rfl, habs, rfl, sm1, hR1, hS1, hl, hd⟩, ?_⟩
        rintro m σ' H' ⟨ds, n, rfl, h0, rfl, sm2, hR2, hS2, hl2, hd2⟩
        refine ⟨_, rfl, _, _, rfl, rfl, _, rfl, ite2 (fun h1 => ?_) (fun h1 => ?_)⟩
        · have h1 := of_decide_eq_true h1
          refine ⟨_, rfl, D, _, rfl, .inl hR2.sq, _, rfl, _, _, rfl, rfl, _, rfl, ite2 (fun h2 => ?_) (fun h2 => ?_)⟩
          · have h2 := of_decide_eq_true h2
            rw [List.length_map] at h2
            refine ⟨_, fun _ _ hh => hh, ⟨_, rfl, .inl ⟨rfl, _, hR2.sq⟩, _, rfl, _, _, rfl, rfl, (by decide), D, _, _, rfl, rfl, hR2, ?_, ?_⟩⟩
            · rw [List.length_map]
              exact small1000 (by omega)
            · refine ⟨_, rfl, _, _, rfl, rfl, ⟨by decide, by decide⟩, (n / 10007).toNat, ?_, ds ++ [n % 10007], n / 10007, rfl, ?_, rfl, sm2.upd hD, Row.push, ?_, ?_, hd2.push (mod_b n).1 (mod_b n).2⟩
              · omega
              · omega
              · rw [upd_ne nSD]
                exact hS2
              · rw [List.length_append, List.length_singleton]
                omega
          · exact ⟨ds, b1, _, _, _, _, rfl, sm2, hR2, hS2, by omega, hd2⟩
        · refine iteF ?_
          exact ⟨ds, b1, _, _, _, _, rfl, sm2, hR2, hS2, by omega, hd2⟩
      · -- two of a small one
        refine ⟨_, rfl, _, _, rfl, rfl, (by decide), _, rfl, _, _, rfl, rfl, _, _, rfl, rfl, _, _, rfl, rfl, .inr ⟨by decide, by decide⟩, _, _, rfl, rfl, (by decide), ?_⟩
        generalize (nb % 2147483647 + ((i : Nat) : Int) + 1) * 48271 = e1
        have b1' : 0 ≤ e1 % 2147483647 ∧ e1 % 2147483647 < 2147483647 := ⟨Int.emod_nonneg _ (by decide), Int.emod_lt_of_pos _ (by decide)⟩
        generalize e1 % 2147483647 = o1 at b1' ⊢
        refine ⟨_, rfl, _, rfl, _, _, rfl, rfl, .inl ⟨by omega, by omega⟩, _, _, rfl, rfl, (by decide), ?_⟩
        have b2' : 0 ≤ (o1 * o1) % 2147483629 ∧ (o1 * o1) % 2147483629 < 2147483629 := ⟨Int.emod_nonneg _ (by decide), Int.emod_lt_of_pos _ (by decide)⟩
        generalize (o1 * o1) % 2147483629 = o2 at b2' ⊢
        refine ⟨_, rfl, .inl ⟨rfl, _, hR1.sq⟩, _, rfl, _, _, rfl, rfl, ⟨by decide, by decide⟩, _, _, rfl, rfl, (by decide), D, _, _, rfl, rfl, hR1, ?_, ?_⟩
        · rw [List.length_map]
          exact small1000 (by omega)
        have hR4 : Row (upd H3 D (.lst (ds.map V.int ++ [.int (o2 / 8 % 10007)]))) D (ds ++ [o2 / 8 % 10007]) := Row.push
        have sm4 := sm1.upd (o := .lst (ds.map V.int ++ [.int (o2 / 8 % 10007)])) hD
        have hS4 : (upd H3 D (.lst (ds.map V.int ++ [.int (o2 / 8 % 10007)]))) S = some (.lst (ms.map V.int)) := by
          rw [upd_ne nSD]
          exact hS1
        generalize upd H3 D (.lst (ds.map V.int ++ [.int (o2 / 8 % 10007)])) = H4 at hR4 sm4 hS4 ⊢
        have hd4 := hd.push (mod_b (o2 / 8)).1 (mod_b (o2 / 8)).2
        refine ⟨_, rfl, _, _, rfl, rfl, .inr ⟨by decide, by decide⟩, _, rfl, _, _, rfl, rfl, .inl ⟨by decide, by decide⟩, _, _, rfl, rfl, _, _, rfl, rfl, _, _, rfl, rfl, (by decide), ?_⟩
        generalize (o2 * 40692 + 2 * ((i : Nat) : Int) + 1) = e3
        have b3' : 0 ≤ e3 % 2147483563 ∧ e3 % 2147483563 < 2147483563 := ⟨Int.emod_nonneg _ (by decide), Int.emod_lt_of_pos _ (by decide)⟩
        generalize e3 % 2147483563 = o3 at b3' ⊢
        refine ⟨_, rfl, _, rfl, _, _, rfl, rfl, .inl ⟨by omega, by omega⟩, _, _, rfl, rfl, (by decide), ?_⟩
        generalize (o3 * o3) % 2147483647 = o4
        refine ⟨_, rfl, .inl ⟨rfl, _, hR4.sq⟩, _, rfl, _, _, rfl, rfl, ⟨by decide, by decide⟩, _, _, rfl, rfl, (by decide), D, _, _, rfl, rfl, hR4, ?_, ?_⟩
        · rw [List.length_map, List.length_append, List.length_singleton]
          exact small1000 (by omega)
        · refine ⟨_, b1, _, _, _, _, rfl, sm4.upd hD, Row.push, ?_, ?_, hd4.push (mod_b (o4 / 8)).1 (mod_b (o4 / 8)).2⟩
          · rw [upd_ne nSD]
            exact hS4
          · rw [List.length_append, List.length_append, List.length_singleton, List.length_singleton]
            omega
    · -- filled up
      rintro σ H2 ⟨ds, b, k, c, n, o, rfl, sm, hR, hSl, hl, hd⟩
      rw [List.length_map] at hl
      refine ⟨_, rfl, _, rfl, D, _, rfl, .inl hR.sq, _, _, rfl, rfl, _, rfl, ?_, ?_, ?_⟩
      · rw [List.length_map]
        omega
      · rw [List.length_map]
        omega
      rw [List.length_map]
      refine for_range (fun j σ H3 => ∃ (ds' : List Int) (k o : Option V), σ = [some (.ref a), some (.int 650), some (.ref D), some (.int b), k, c, n, o] ∧ Same H H3 ∧ Row H3 D ds' ∧ ds'.length = ds.length + j ∧ Drw ds')
        ⟨ds, k, o, rfl, sm, hR, rfl, hd⟩ ?_ ?_
      · rintro j σ H3 hj ⟨ds', k, o, rfl, sm3, hR3, hl3, hd3⟩
        refine ⟨_, rfl, _, rfl, _, _, rfl, rfl, .inl ⟨by decide, by decide⟩, _, _, rfl, rfl, _, _, rfl, rfl, _, _, rfl, rfl, (by decide), ?_⟩
        generalize (b + 7919 * (0 + ((j : Nat) : Int)) + 13) = e1
        have b1' : 0 ≤ e1 % 2147483629 ∧ e1 % 2147483629 < 2147483629 := ⟨Int.emod_nonneg _ (by decide), Int.emod_lt_of_pos _ (by decide)⟩
        generalize e1 % 2147483629 = o1 at b1' ⊢
        refine ⟨_, rfl, _, rfl, _, _, rfl, rfl, .inl ⟨by omega, by omega⟩, _, _, rfl, rfl, (by decide), ?_⟩
        generalize (o1 * o1) % 2147483647 = o2
        refine ⟨_, rfl, _, _, rfl, rfl, .inr ⟨by decide, by decide⟩, _, rfl, _, _, rfl, rfl, _, _, rfl, rfl, (by decide), ?_⟩
        generalize (o2 * 69621 + (0 + ((j : Nat) : Int))) = e3
        have b3' : 0 ≤ e3 % 2147483563 ∧ e3 % 2147483563 < 2147483563 := ⟨Int.emod_nonneg _ (by decide), Int.emod_lt_of_pos _ (by decide)⟩
        generalize e3 % 2147483563 = o3 at b3' ⊢
        refine ⟨_, rfl, .inl ⟨rfl, _, hR3.sq⟩, _, rfl, _, rfl, _, _, rfl, rfl, .inl ⟨by omega, by omega⟩, _, _, rfl, rfl, (by decide), _, _, rfl, rfl, ⟨by decide, by decide⟩, _, _, rfl, rfl, (by decide), D, _, _, rfl, rfl, hR3, ?_, ?_⟩
        · rw [List.length_map]
          exact small1000 (by omega)
        · refine ⟨_, _, _, rfl, sm3.upd hD, Row.push, ?_, hd3.push (mod_b _).1 (mod_b _).2⟩
          rw [List.length_append, List.length_singleton]
          omega
      · rintro σ H3 ⟨ds', k, o, rfl, sm3, hR3, hl3, hd3⟩
        exact ⟨_, rfl, q D H3 ds' hD sm3 hR3 (by omega) (by omega) hd3⟩
end
end Seek
namespace Seek
open PySem L2 PyProof.Rows
/-! the store -/
def StoreOk (H : Hp) (s D : Addr) : Prop := ∃ (c : Int) (ds : List Int), H s = some (.lst [.ref D, .int c]) ∧ Row H D ds ∧ 1 ≤ ds.length ∧ Drw ds
/-- all but s is as it was -/
def But (s : Addr) (H H' : Hp) : Prop := ∀ b o, b ≠ s → H b = some o → H' b = some o
theorem But.refl (s : Addr) (H : Hp) : But s H H := fun _ _ _ e => e
theorem But.trans {s : Addr} {H H1 H2 : Hp} (a : But s H H1) (b : But s H1 H2) : But s H H2 := fun c o n e => b c o n (a c o n e)
theorem Same.but {s : Addr} {H H' : Hp} (a : Same H H') : But s H H' := fun c o _ e => a c o e
theorem StoreOk.same {H H' : Hp} {s D : Addr} (e : Same H H') (h : StoreOk H s D) : StoreOk H' s D :=
  let ⟨c, ds, h1, h2, h3⟩ := h
  ⟨c, ds, e _ _ h1, h2.same e, h3⟩
theorem StoreOk.row {H : Hp} {s D a : Addr} {ns : List Int} (h : StoreOk H s D) (r : Row H a ns) : a ≠ s := fun z => by
  obtain ⟨c, ds, h1, _⟩ := h
  subst z
  unfold Row at r
  rw [h1] at r
  cases ns with
  | nil => simp at r
  | cons n ns => simp at r
theorem Row.but {H H' : Hp} {s D a : Addr} {ns : List Int} (r : Row H a ns) (h : StoreOk H s D) (e : But s H H') : Row H' a ns := e _ _ (h.row r) r
theorem StoreOk.tab {H : Hp} {s D t : Addr} {prs : Prs} (h : StoreOk H s D) (r : H t = some (.lst (prs.map fun p => V.ref p.1))) : t ≠ s := fun z => by
  obtain ⟨c, ds, h1, _⟩ := h
  subst z
  rw [h1] at r
  cases prs with
  | nil => simp at r
  | cons p prs =>
    cases prs with
    | nil => simp at r
    | cons q prs => simp at r
theorem Tab.but {H H' : Hp} {s D t : Addr} {prs : Prs} (r : Tab H t prs) (h : StoreOk H s D) (e : But s H H') : Tab H' t prs := ⟨e _ _ (h.tab r.l) r.l, fun p hp => (r.r p hp).but h e⟩
/-- a store's object is there: what is new is another -/
theorem StoreOk.ne {H : Hp} {s D a : Addr} (h : StoreOk H s D) (n : H a = none) : s ≠ a := let ⟨_, _, h1, _⟩ := h; ne_of_none h1 n
theorem StoreOk.neD {H : Hp} {s D a : Addr} (h : StoreOk H s D) (n : H a = none) : D ≠ a := let ⟨_, _, _, h2, _⟩ := h; ne_of_none h2 n
theorem But.free {s D a : Addr} {H H' : Hp} (b : But s H H') (S : StoreOk H' s D) (h : H' a = none) : H a = none := by
  cases e : H a with
  | none => rfl
  | some o =>
    by_cases hz : a = s
    · obtain ⟨_, _, z, _⟩ := S
      rw [hz, z] at h
      cases h
    · rw [b a o hz e] at h
      cases h
theorem len0 : 0 ≤ sizeLine := Nat.zero_le _
theorem len1 : 1 ≤ sizeLine := by decide
theorem len2 : 2 ≤ sizeLine := by decide
theorem len3 : 3 ≤ sizeLine := by decide
theorem len6 : 6 ≤ sizeLine := by decide
section
variable {P : Program} {w : World} {K : PySem.W.Frag} {mg : Str → Option Value} {base : Heap}
def spTake : Sp := fun vs H Q _ => ∃ (s D : Addr) (m : Int), vs = [.ref s, .int m] ∧ 0 < m ∧ StoreOk H s D ∧ ∀ d H', 0 ≤ d → d < m → d < 10007 → But s H H' → StoreOk H' s D → Q (.int d) H'
theorem sc_take : FnScope ["store", "many"] ["store", "many"] (defScope dTake) := ⟨rfl, rfl, rfl, by decide +kernel, rfl, by decide +kernel, by decide +kernel⟩
theorem ok_take (T : Blt mg) (D : DefAt K mg "_law_take" dTake ["store", "many"]) : FnAt P w K mg base 1 "_law_take" ["store", "many"] spTake := by
  refine FnAt.of D sc_take (fun vs H Q E h => ?_) (fun f cdv A outer s H vs Q E hr h => ?_)
  · obtain ⟨st, D, m, rfl, _⟩ := h
    rfl
  · obtain ⟨st, D, m, rfl, hm, hS, q⟩ := h
    have hS0 := hS
    obtain ⟨c, ds, h1, h2, h3, h4⟩ := hS
    have hne : D ≠ st := hS0.row h2
    refine ⟨_, pss_cons (ps_asg (pe_op o_add (pe_ix ix_list (pv 0) pe_int (fun _ _ => rfl)) pe_int) (pg_sub (pv 0) pe_int set_list))
      (pss_one (ps_ret (pe_op o_mod (pe_ix ix_list (pe_ix ix_list (pv 0) pe_int (fun _ _ => rfl))
        (pe_op o_mod (pe_op o_sub (pe_ix ix_list (pv 0) pe_int (fun _ _ => rfl)) pe_int) (pe_b call_len_seq T.len boot_len (pa_cons (pe_ix ix_list (pv 0) pe_int (fun _ _ => rfl)) pa_nil))) (fun _ _ => rfl)) (pv 1)))), ?_⟩
    refine ⟨_, rfl, st, _, 1, .int c, rfl, rfl, SqL.of h1, rfl, _, _, rfl, rfl, _, rfl, st, _, 1, 1, rfl, rfl, h1, rfl, ?_⟩
    have e1 : (upd H st (.lst ([V.ref D, .int c].set 1 (.int (c + 1))))) st = some (.lst [.ref D, .int (c + 1)]) := upd_same
    have hb : But st H (upd H st (.lst ([V.ref D, .int c].set 1 (.int (c + 1))))) := fun b o n e => by rw [upd_ne n]; exact e
    have r1 : Row (upd H st (.lst ([V.ref D, .int c].set 1 (.int (c + 1))))) D ds := hb _ _ hne h2
    generalize upd H st (.lst ([V.ref D, .int c].set 1 (.int (c + 1)))) = H1 at e1 hb r1 ⊢
    have hx : (c + 1 - 1) % (ds.length : Int) = (((c + 1 - 1) % (ds.length : Int)).toNat : Nat) := by
      have := Int.emod_nonneg (c + 1 - 1) (show (ds.length : Int) ≠ 0 by omega)
      omega
    have hlt : ((c + 1 - 1) % (ds.length : Int)).toNat < ds.length := by
      have := Int.emod_lt_of_pos (c + 1 - 1) (show (0 : Int) < ds.length by omega)
      omega
    refine ⟨_, rfl, st, _, 0, .ref D, rfl, rfl, SqL.of e1, rfl, _, rfl, st, _, 1, .int (c + 1), rfl, rfl, SqL.of e1, rfl, _, _, rfl, rfl, _, rfl, st, _, 0, .ref D, rfl, rfl, SqL.of e1, rfl, D, _, rfl, .inl r1.sq, _, _, rfl, rfl, ?_, D, _, _, .int (ds.getD ((c + 1 - 1) % (ds.length : Int)).toNat 0), rfl, rfl, r1.sq, ?_, _, rfl, _, _, rfl, rfl, hm, ?_⟩
    · rw [List.length_map]
      omega
    · rw [List.length_map, hx]
      exact at_row hlt
    · have hd := h4 (ds.getD ((c + 1 - 1) % (ds.length : Int)).toNat 0) (by
        rw [List.getD_eq_getElem?_getD, List.getElem?_eq_getElem hlt]
        exact List.getElem_mem hlt)
      generalize ds.getD ((c + 1 - 1) % (ds.length : Int)).toNat 0 = v at hd ⊢
      refine q _ H1 (Int.emod_nonneg _ (by omega)) (Int.emod_lt_of_pos _ hm) ?_ hb ⟨_, ds, e1, r1, h3, h4⟩
      by_cases hv : v < m
      · rw [Int.emod_eq_of_lt hd.1 hv]
        exact hd.2
      · have := Int.emod_lt_of_pos v hm
        omega
end
end Seek
namespace Seek
open PySem L2 PyProof.Rows
section
variable {P : Program} {w : World} {K : PySem.W.Frag} {mg : Str → Option Value} {base : Heap}
def Bnd (prs : Prs) : Prop := ∀ p ∈ prs, ∀ n ∈ p.2, n.natAbs < 10 ^ 38
def spTable : Sp := fun vs H Q _ => ∃ (s D : Addr), vs = [.ref s] ∧ StoreOk H s D ∧ ∀ t prs H', H t = none → (∀ p ∈ prs, H p.1 = none) → (prs.map (·.1)).Nodup → But s H H' → StoreOk H' s D → Tab H' t prs → tabB prs = true → Bnd prs → Q (.ref t) H'
theorem sc_table : FnScope ["store", "x", "rows", "wide", "way", "low", "table", "row", "numbers", "place", "ahead", "more", "some"] ["store"] (defScope dTable) := ⟨rfl, rfl, rfl, by decide +kernel, rfl, by decide +kernel, by decide +kernel⟩
set_option maxHeartbeats 16000000 in
theorem ok_table (T : Blt mg) (D : DefAt K mg "_law_table" dTable ["store"]) (G : FnAt P w K mg base 1 "_law_take" ["store", "many"] spTake) : FnAt P w K mg base 2 "_law_table" ["store"] spTable := by
  refine FnAt.of D sc_table (fun vs H Q E h => ?_) (fun f cdv A outer s H vs Q E hr h => ?_)
  · obtain ⟨st, D, rfl, _⟩ := h
    rfl
  · obtain ⟨st, D, rfl, hS, q⟩ := h
    have nd := sc_table.nd
    refine ⟨_, pss_cons (ps_set (i := 1) nd rfl (Or.inl rfl) (pe_f G hr (pa_cons (pv 0) (pa_cons pe_int pa_nil))))
      (pss_cons (ps_set (i := 2) nd rfl (Or.inl rfl) (pe_ix ix_list (pe_lst (pa_cons (pe_op o_add pe_int (pe_op o_mod (pv 1) pe_int)) (pa_cons pe_int (pa_cons (pe_op o_add pe_int (pe_op o_mod (pe_op o_div (pv 1) pe_int) pe_int)) pa_nil))))
        (pe_f G hr (pa_cons (pv 0) (pa_cons pe_int pa_nil))) (fun _ _ => rfl)))
      (pss_cons (ps_set (i := 3) nd rfl (Or.inl rfl) (pe_ix ix_list (pe_lst (pa_cons (pe_op o_add pe_int (pe_op o_mod (pe_op o_div (pv 1) pe_int) pe_int)) (pa_cons pe_int (pa_cons (pe_op o_add pe_int (pe_op o_mod (pe_op o_div (pv 1) pe_int) pe_int)) pa_nil))))
        (pe_f G hr (pa_cons (pv 0) (pa_cons pe_int pa_nil))) (fun _ _ => rfl)))
      (pss_cons (ps_set (i := 4) nd rfl (Or.inl rfl) (pe_f G hr (pa_cons (pv 0) (pa_cons pe_int pa_nil))))
      (pss_cons (ps_set (i := 5) nd rfl (Or.inl rfl) (pe_ix ix_list (pe_lst (pa_cons pe_int (pa_cons pe_int (pa_cons (pe_un o_neg pe_int) (pa_cons (pe_op o_sub pe_int (pe_f G hr (pa_cons (pv 0) (pa_cons pe_int pa_nil)))) (pa_cons (pe_op o_sub pe_int (pe_op o_pow pe_int pe_int)) (pa_cons (pe_op o_pow pe_int pe_int) pa_nil)))))))
        (pe_f G hr (pa_cons (pv 0) (pa_cons pe_int pa_nil))) (fun _ _ => rfl)))
      (pss_cons (ps_set (i := 6) nd rfl (Or.inl rfl) (pe_lst pa_nil))
      (pss_cons (ps_for PassesOwn.never rfl (pi_range1 rfl T.rng (pa_cons (pv 2) pa_nil)) (pg_name (i := 7) nd rfl (Or.inl rfl))
        (pss_cons (ps_set (i := 8) nd rfl (Or.inl rfl) (pe_lst pa_nil))
        (pss_cons (ps_for PassesOwn.never rfl (pi_range1 rfl T.rng (pa_cons (pv 3) pa_nil)) (pg_name (i := 9) nd rfl (Or.inl rfl))
          (pss_cons (ps_set (i := 10) nd rfl (Or.inl rfl) (pe_ix ix_list (pe_op op_cat (pe_lst (pa_cons (pv 5) pa_nil)) (pv 8)) (pe_un o_neg pe_int) (fun _ _ => rfl)))
          (pss_cons (ps_if (pt_cmpR o_gt (pv 7) pe_int (nomark _))
            (pss_one (ps_set (i := 10) nd rfl (Or.inl rfl) (pe_b (call_max2 rfl) T.max boot_max (pa_cons (pv 10) (pa_cons (pe_ix ix_list (pe_ix ix_list (pv 6) (pe_op o_sub (pv 7) pe_int) (fun _ _ => rfl)) (pv 9) (fun _ _ => rfl)) pa_nil))))) pss_nil)
          (pss_cons (ps_set (i := 11) nd rfl (Or.inl rfl) (pe_f G hr (pa_cons (pv 0) (pa_cons pe_int pa_nil))))
          (pss_cons (ps_set (i := 12) nd rfl (Or.inl rfl) (pe_lst (pa_cons (pe_op o_mod (pv 11) pe_int) (pa_cons (pe_op o_mod (pv 11) pe_int) (pa_cons (pe_op o_mod (pv 11) pe_int) (pa_cons (pv 11) (pa_cons (pe_op o_add (pe_op o_mul (pv 11) (pe_op o_pow pe_int pe_int)) (pe_op o_mod (pv 11) pe_int)) (pa_cons pe_int pa_nil))))))))
          (pss_one (ps_expr (pe_bm PySem.F.plainAttrs_list PySem.F.slot_list_append PySem.F.type_list_append mt_append (pv 8) (pa_cons (pe_op o_add (pv 10) (pe_ix ix_list (pv 12) (pv 4) (fun _ _ => rfl))) pa_nil)))))))))
        (pss_one (ps_expr (pe_bm PySem.F.plainAttrs_list PySem.F.slot_list_append PySem.F.type_list_append mt_append (pv 6) (pa_cons (pv 8) pa_nil)))))))
      (pss_one (ps_ret (pv 6))))))))), ?_⟩
    -- x
    refine ⟨_, rfl, st, D, _, rfl, by decide, hS, fun x H1 x0 x1 _ b1 S1 => ?_⟩
    -- rows
    refine ⟨_, rfl, _, _, rfl, rfl, by decide, _, _, rfl, rfl, _, rfl, _, _, rfl, rfl, ⟨by decide, by decide⟩, _, _, rfl, rfl, by decide, _, _, rfl, rfl, len3, fun l hl => ?_⟩
    have S1' := S1.same (Same.new (o := .lst [.int (1 + x % 6), .int 6, .int (2 + x / 6 % 5)]) hl)
    refine ⟨_, rfl, st, D, _, rfl, by decide, S1', fun d H2 d0 d1 _ b2 S2 => ?_⟩
    obtain ⟨rows, hr1, hr2⟩ := at_mem (ns := [1 + x % 6, 6, 2 + x / 6 % 5]) d0 d1
    refine ⟨l, _, _, .int rows, rfl, rfl, SqL.of (b2 _ _ (Ne.symm (S1.ne hl)) upd_same), hr2, ?_⟩
    have hrows : 1 ≤ rows ∧ rows ≤ 6 := by
      simp only [List.mem_cons, List.not_mem_nil, or_false] at hr1
      omega
    have B2 : But st H H2 := b1.trans ((Same.but (Same.new hl)).trans b2)
    clear hr1 hr2 b1 b2 S1 S1'
    -- wide
    refine ⟨_, rfl, _, _, rfl, rfl, ⟨by decide, by decide⟩, _, _, rfl, rfl, by decide, _, _, rfl, rfl, _, rfl, _, _, rfl, rfl, ⟨by decide, by decide⟩, _, _, rfl, rfl, by decide, _, _, rfl, rfl, len3, fun l2 hl2 => ?_⟩
    have S2' := S2.same (Same.new (o := .lst [.int (1 + x / 30 % 6), .int 6, .int (2 + x / 180 % 5)]) hl2)
    refine ⟨_, rfl, st, D, _, rfl, by decide, S2', fun d2 H3 d20 d21 _ b3 S3 => ?_⟩
    obtain ⟨wide, hw1, hw2⟩ := at_mem (ns := [1 + x / 30 % 6, 6, 2 + x / 180 % 5]) d20 d21
    refine ⟨l2, _, _, .int wide, rfl, rfl, SqL.of (b3 _ _ (Ne.symm (S2.ne hl2)) upd_same), hw2, ?_⟩
    have hwide : 1 ≤ wide ∧ wide ≤ 6 := by
      simp only [List.mem_cons, List.not_mem_nil, or_false] at hw1
      omega
    have B3 : But st H H3 := B2.trans ((Same.but (Same.new hl2)).trans b3)
    clear hw1 hw2 b3 S2 S2' B2
    -- way
    refine ⟨_, rfl, st, D, _, rfl, by decide, S3, fun way H4 way0 way1 _ b4 S4 => ?_⟩
    have B4 := B3.trans b4
    clear b4 S3 B3
    -- low
    refine ⟨_, rfl, _, rfl, st, D, _, rfl, by decide, S4, fun dl H5 dl0 dl1 _ b5 S5 => ?_⟩
    refine ⟨_, _, rfl, rfl, _, _, rfl, rfl, ⟨by decide, by decide, by decide⟩, _, _, rfl, rfl, _, _, rfl, rfl, ⟨by decide, by decide, by decide⟩, len6, fun l3 hl3 => ?_⟩
    have S5' := S5.same (Same.new (o := .lst [.int 0, .int 1, .int (-5), .int (0 - dl), .int (0 - 10 ^ (25 : Int).toNat), .int (10 ^ (25 : Int).toNat)]) hl3)
    refine ⟨_, rfl, st, D, _, rfl, by decide, S5', fun d3 H6 d30 d31 _ b6 S6 => ?_⟩
    obtain ⟨low, hlo1, hlo2⟩ := at_mem (ns := [0, 1, -5, 0 - dl, 0 - 10 ^ (25 : Int).toNat, 10 ^ (25 : Int).toNat]) d30 d31
    refine ⟨l3, _, _, .int low, rfl, rfl, SqL.of (b6 _ _ (Ne.symm (S5.ne hl3)) upd_same), hlo2, ?_⟩
    have B6 : But st H H6 := B4.trans (b5.trans ((Same.but (Same.new hl3)).trans b6))
    have blow : -10000000000000000000000000 ≤ low ∧ low ≤ 10000000000000000000000000 := by
      have e25 : (10 : Int) ^ (25 : Int).toNat = 10000000000000000000000000 := by decide
      rw [e25] at hlo1
      simp only [List.mem_cons, List.not_mem_nil, or_false] at hlo1
      omega
    clear hlo1 hlo2 b5 b6 S5 S5' B4 S4
    -- table = []
    refine ⟨len0, fun tb htb => ?_⟩
    have tb0 : H tb = none := B6.free S6 htb
    have hbt := S6.ne htb
    refine ⟨_, rfl, rows, rfl, by omega, by omega, for_range (fun i σ H2 => ∃ (prs : Prs) (o7 o8 o9 o10 o11 o12 : Option V), σ = [some (.ref st), some (.int x), some (.int rows), some (.int wide), some (.int way), some (.int low), some (.ref tb), o7, o8, o9, o10, o11, o12] ∧
      But st H H2 ∧ StoreOk H2 st D ∧ Tab H2 tb prs ∧ prs.length = i ∧ GoodP wide.toNat prs ∧ (prs.map (·.1)).Nodup ∧ (∀ p ∈ prs, H p.1 = none) ∧ ∀ p ∈ prs, ∀ n ∈ p.2, -(10000000000000000000000000 * (1 + 8 * (i : Int))) ≤ n ∧ n ≤ 10000000000000000000000000 * (1 + 8 * (i : Int)))
      ⟨[], none, none, none, none, none, none, rfl, B6.trans (Same.but (Same.new htb)), S6.same (Same.new htb), ⟨upd_same, fun p hp => nomatch hp⟩, rfl, ⟨fun p hp => (nomatch hp), fun p hp => (nomatch hp), fun i hi => absurd hi (by simp)⟩, by simp, (fun p hp => nomatch hp), fun p hp => nomatch hp⟩ ?_ ?_⟩
    · rintro i σ H2 hi ⟨prs, o7, o8, o9, o10, o11, o12, rfl, B, S, hT, hlen, hg, hnd, hfr, hbd⟩
      refine ⟨len0, fun nn hnn => ?_⟩
      have nn0 : H nn = none := B.free S hnn
      have nnt : tb ≠ nn := ne_of_none hT.l hnn
      have nnp : ∀ p ∈ prs, p.1 ≠ nn := fun p hp => ne_of_none (hT.r p hp) hnn
      have nns : st ≠ nn := S.ne hnn
      have nnD : D ≠ nn := S.neD hnn
      refine ⟨_, rfl, wide, rfl, by omega, by omega, for_range (fun j σ H3 => ∃ (cur : List Int) (o9 o10 o11 o12 : Option V), σ = [some (.ref st), some (.int x), some (.int rows), some (.int wide), some (.int way), some (.int low), some (.ref tb), some (.int (0 + (i : Nat))), some (.ref nn), o9, o10, o11, o12] ∧
        But st H H3 ∧ StoreOk H3 st D ∧ Tab H3 tb prs ∧ Row H3 nn cur ∧ cur.length = j ∧ nfP cur ∧ (i = 0 ∨ ∀ k, k < j → (rowAt prs (i - 1)).getD k 0 ≤ cur.getD k 0) ∧ ∀ n ∈ cur, -(10000000000000000000000000 * (1 + 8 * (i : Int) + (j : Nat))) ≤ n ∧ n ≤ 10000000000000000000000000 * (1 + 8 * (i : Int) + (j : Nat)))
        ⟨[], o9, o10, o11, o12, rfl, B.trans (Same.but (Same.new hnn)), S.same (Same.new hnn), hT.same (Same.new hnn), Row.new, rfl, fun k hk => absurd hk (by simp), .inr (fun k hk => absurd hk (by simp)), fun n hn => nomatch hn⟩ ?_ ?_⟩
      · rintro j σ H3 hj ⟨cur, o9, o10, o11, o12, rfl, B3, S3, hT3, hR3, hcl, hnf, hab, hcb⟩
        -- ahead
        refine ⟨_, rfl, len1, fun la hla => ?_⟩
        have nla : nn ≠ la := ne_of_none hR3 hla
        refine ⟨_, rfl, la, nn, _, _, rfl, rfl, upd_same, (by rw [upd_ne nla]; exact hR3), ?_, fun lb hlb => ?_⟩
        · rw [List.length_map]
          exact sl6 (by simp; omega)
        have sab : Same H3 (upd (upd H3 la (.lst [.int low])) lb (.lst ([.int low] ++ cur.map V.int))) := (Same.new hla).trans (Same.new hlb)
        have hlb2 : (upd (upd H3 la (.lst [.int low])) lb (.lst ([.int low] ++ cur.map V.int))) lb = some (.lst ((low :: cur).map V.int)) := upd_same
        generalize upd (upd H3 la (.lst [.int low])) lb (.lst ([.int low] ++ cur.map V.int)) = H4 at sab hlb2 ⊢
        refine ⟨_, rfl, lb, _, _, _, rfl, rfl, SqL.of hlb2, at_last (by simp), ?_⟩
        have ha0 : ∀ k, k + 1 = cur.length → cur.getD k 0 ≤ (low :: cur).getD ((low :: cur).length - 1) 0 := fun k hk => by
          rw [List.length_cons, show cur.length + 1 - 1 = k + 1 by omega, List.getD_cons_succ]
          exact Int.le_refl _
        have ba0 : -(10000000000000000000000000 * (1 + 8 * (i : Int) + (j : Nat))) ≤ (low :: cur).getD ((low :: cur).length - 1) 0 ∧ (low :: cur).getD ((low :: cur).length - 1) 0 ≤ 10000000000000000000000000 * (1 + 8 * (i : Int) + (j : Nat)) := by
          have hm : (low :: cur).getD ((low :: cur).length - 1) 0 ∈ low :: cur := by
            rw [List.getD_eq_getElem?_getD, List.getElem?_eq_getElem (by simp)]
            exact List.getElem_mem _
          rcases List.mem_cons.mp hm with z | z
          · rw [z]
            omega
          · exact hcb _ z
        generalize (low :: cur).getD ((low :: cur).length - 1) 0 = a0 at ha0 ba0 ⊢
        have S4 := S3.same sab
        have hT4 := hT3.same sab
        have hR4 := hR3.same sab
        have B4 := B3.trans (Same.but sab)
        clear S3 hT3 hR3 B3 sab hlb2 hlb hla nla
        refine ⟨_, rfl, _, _, rfl, rfl, _, rfl, ite2 (fun hrow => ?_) (fun hrow => ?_)⟩
        have hrow := of_decide_eq_true hrow
        have hi0 : 0 < i := by omega
        obtain ⟨p, hp1, hp2, hp3⟩ := rowAt_mem (prs := prs) (i := i - 1) (by omega)
        have hpl := hg.len p hp1
        refine ⟨_, rfl, _, rfl, _, rfl, _, _, rfl, rfl, tb, _, _, .ref p.1, rfl, rfl, hT4.sq, ?_, _, rfl, p.1, _, _, .int (p.2.getD j 0), rfl, rfl, (hT4.r p hp1).sq, ?_, _, _, rfl, ?_⟩
        · rw [show (0 : Int) + (i : Int) - 1 = ((i - 1 : Nat) : Int) by omega]
          exact atI_nat (by rw [List.getElem?_map, hp2]; rfl)
        · rw [Int.zero_add]
          exact at_row (by omega)
        have bah : -(10000000000000000000000000 * (1 + 8 * (i : Int) + (j : Nat))) ≤ (if p.2.getD j 0 > a0 then p.2.getD j 0 else a0) ∧ (if p.2.getD j 0 > a0 then p.2.getD j 0 else a0) ≤ 10000000000000000000000000 * (1 + 8 * (i : Int) + (j : Nat)) := by
          have hb1 := hbd p hp1 (p.2.getD j 0) (by
            rw [List.getD_eq_getElem?_getD, List.getElem?_eq_getElem (by omega)]
            exact List.getElem_mem _)
          split <;> omega
        have hmx : a0 ≤ (if p.2.getD j 0 > a0 then p.2.getD j 0 else a0) ∧ (i = 0 ∨ (rowAt prs (i - 1)).getD j 0 ≤ (if p.2.getD j 0 > a0 then p.2.getD j 0 else a0)) := by
          rw [hp3]
          split <;> omega
        generalize (if p.2.getD j 0 > a0 then p.2.getD j 0 else a0) = ah at hmx bah ⊢
        rotate_left
        have hmx : a0 ≤ a0 ∧ (i = 0 ∨ (rowAt prs (i - 1)).getD j 0 ≤ a0) := by
          refine ⟨Int.le_refl _, .inl ?_⟩
          by_cases z : i = 0
          · exact z
          · exact absurd (decide_eq_true (by omega)) hrow
        have ha1 := ha0
        clear ha0
        have bah := ba0
        generalize hah : a0 = ah at hmx ha1 bah ⊢
        have ha0 : ∀ k, k + 1 = cur.length → cur.getD k 0 ≤ a0 := by rw [hah]; exact ha1
        have hmx : a0 ≤ ah ∧ (i = 0 ∨ (rowAt prs (i - 1)).getD j 0 ≤ ah) := ⟨by omega, hmx.2⟩
        clear hah ha1
        all_goals
          -- more
          refine ⟨_, rfl, st, D, _, rfl, by decide, S4, fun mo H5 m0 m1 _ b5 S5 => ?_⟩
          have hT5 := hT4.but S4 b5
          have hR5 := hR4.but S4 b5
          have B5 := B4.trans b5
          -- some
          refine ⟨_, rfl, _, _, rfl, rfl, by decide, _, rfl, _, _, rfl, rfl, by decide, _, rfl, _, _, rfl, rfl, by decide, _, rfl, _, rfl, _, _, rfl, rfl, ⟨by decide, by decide, by decide⟩, _, _, rfl, rfl, .inl ⟨by omega, by omega⟩, _, rfl, _, _, rfl, rfl, by decide, _, _, rfl, rfl, len6, fun ls hls => ?_⟩
          have sls : Same H5 (upd H5 ls (.lst [.int (mo % 2), .int (mo % 4), .int (mo % 10), .int mo, .int (mo * 10 ^ (20 : Int).toNat + mo % 3), .int 0])) := Same.new hls
          have hls2 : (upd H5 ls (.lst [.int (mo % 2), .int (mo % 4), .int (mo % 10), .int mo, .int (mo * 10 ^ (20 : Int).toNat + mo % 3), .int 0])) ls = some (.lst ([mo % 2, mo % 4, mo % 10, mo, mo * 10 ^ (20 : Int).toNat + mo % 3, 0].map V.int)) := upd_same
          generalize upd H5 ls (.lst [.int (mo % 2), .int (mo % 4), .int (mo % 10), .int mo, .int (mo * 10 ^ (20 : Int).toNat + mo % 3), .int 0]) = H6' at sls hls2 ⊢
          have hT6 := hT5.same sls
          have hR6 := hR5.same sls
          have S6' := S5.same sls
          have B6' := B5.trans (Same.but sls)
          obtain ⟨r, hr1, hr2⟩ := at_mem (ns := [mo % 2, mo % 4, mo % 10, mo, mo * 10 ^ (20 : Int).toNat + mo % 3, 0]) way0 way1
          have hr0 : 0 ≤ r := by
            have hm20 : 0 ≤ mo * 10 ^ (20 : Int).toNat := Int.mul_nonneg m0 (by decide)
            simp only [List.mem_cons, List.not_mem_nil, or_false] at hr1
            generalize mo * 10 ^ (20 : Int).toNat = mm at hr1 hm20
            omega
          have hrM : r ≤ 10000000000000000000000000 := by
            have e20 : (10 : Int) ^ (20 : Int).toNat = 100000000000000000000 := by decide
            rw [e20] at hr1
            simp only [List.mem_cons, List.not_mem_nil, or_false] at hr1
            omega
          refine ⟨_, rfl, .inl ⟨rfl, _, hR6.sq⟩, _, rfl, _, rfl, _, rfl, ls, _, _, .int r, rfl, rfl, SqL.of hls2, hr2, _, _, rfl, rfl, nn, _, _, rfl, rfl, hR6, ?_, ?_⟩
          · rw [List.length_map]
            exact small1000 (by omega)
          · refine ⟨cur ++ [ah + r], _, _, _, _, rfl, ?_, ?_, ?_, Row.push, ?_, ?_, ?_, ?_⟩
            · intro b o hb e
              rw [upd_ne (ne_of_none e nn0)]
              exact B6' b o hb e
            · obtain ⟨c, ds, z1, z2, z3⟩ := S6'
              refine ⟨c, ds, by rw [upd_ne nns]; exact z1, ?_, z3⟩
              unfold Row
              rw [upd_ne nnD]
              exact z2
            · refine ⟨by rw [upd_ne nnt]; exact hT6.l, fun p hp => ?_⟩
              unfold Row
              rw [upd_ne (nnp p hp)]
              exact hT6.r p hp
            · rw [List.length_append, List.length_singleton, hcl]
            · refine nfP_push hnf fun k hk => ?_
              have := ha0 k hk
              omega
            · rcases hab with z | z
              · exact .inl z
              · rcases hmx.2 with z2 | z2
                · exact .inl z2
                · refine .inr fun k hk => ?_
                  rw [getD_push]
                  by_cases hkj : k < cur.length
                  · rw [if_pos hkj]
                    exact z k (by omega)
                  · rw [if_neg hkj, if_pos (by omega), show k = j by omega]
                    omega
            · intro n hn
              rcases List.mem_append.mp hn with z | z
              · have := hcb n z
                omega
              · rw [List.mem_singleton.mp z]
                omega
      · -- table.append(numbers)
        rintro σ H3 ⟨cur, o9, o10, o11, o12, rfl, B3, S3, hT3, hR3, hcl, hnf, hab, hcb⟩
        refine ⟨_, rfl, .inl ⟨rfl, _, hT3.sq⟩, _, rfl, tb, _, _, rfl, rfl, hT3.l, ?_, ?_⟩
        · rw [List.length_map]
          exact small1000 (by omega)
        · have key : ∀ b o, b ≠ tb → H3 b = some o → (upd H3 tb (.lst ((prs.map fun p => V.ref p.1) ++ [.ref nn]))) b = some o := fun b o hb e => by
            rw [upd_ne hb]
            exact e
          have ntb : ∀ p ∈ prs, p.1 ≠ tb := fun p hp z => by
            have h1 := hT3.r p hp
            rw [z] at h1
            have h2 := hT3.l
            unfold Row at h1
            rw [h1] at h2
            have h3 := hg.len p hp
            cases e : p.2 with
            | nil => rw [e] at h3; simp at h3; omega
            | cons u v =>
              rw [e] at h2
              cases prs with
              | nil => simp at h2
              | cons a b => simp at h2
          refine ⟨prs ++ [(nn, cur)], _, _, _, _, _, _, rfl, ?_, ?_, ?_, ?_, ?_, ?_, ?_, ?_⟩
          · intro b o hb e
            exact key b o (ne_of_none e tb0) (B3 b o hb e)
          · obtain ⟨c, ds, z1, z2, z3⟩ := S3
            exact ⟨c, ds, key _ _ hbt z1, key _ _ (fun z => by
              unfold Row at z2
              have z4 := hT3.l
              rw [z] at z2
              rw [z2] at z4
              cases ds with
              | nil => simp at z3
              | cons u v =>
                cases prs with
                | nil => simp at z4
                | cons a b => simp at z4) z2, z3⟩
          · refine ⟨by rw [upd_same, List.map_append]; rfl, fun p hp => ?_⟩
            rcases List.mem_append.mp hp with z | z
            · exact key _ _ (ntb p z) (hT3.r p z)
            · have : p = (nn, cur) := by simpa using z
              subst this
              exact key _ _ (Ne.symm nnt) hR3
          · rw [List.length_append, List.length_singleton, hlen]
          · refine good_push hg (by omega) hnf ?_
            rcases hab with z | z
            · exact .inl (by omega)
            · refine .inr fun k hk => ?_
              rw [hlen]
              exact z k (by omega)
          · rw [List.map_append, List.nodup_append]
            refine ⟨hnd, by simp, fun a ha b hb => ?_⟩
            obtain ⟨p, hp, rfl⟩ := List.mem_map.mp ha
            have : b = nn := by simpa using hb
            subst this
            exact nnp p hp
          · intro p hp
            rcases List.mem_append.mp hp with z | z
            · exact hfr p z
            · have : p = (nn, cur) := by simpa using z
              subst this
              exact nn0
          · intro p hp n hn
            rcases List.mem_append.mp hp with z | z
            · have := hbd p z n hn
              omega
            · have : p = (nn, cur) := by simpa using z
              subst this
              have := hcb n hn
              omega
    · rintro σ H2 ⟨prs, o7, o8, o9, o10, o11, o12, rfl, B, S, hT, hlen, hg, hnd, hfr, hbd⟩
      exact ⟨_, rfl, q tb prs H2 tb0 hfr hnd B S hT (tabB_of hg (by omega) (by omega) (by omega) (by omega)) fun p hp n hn => by
        have := hbd p hp n hn
        have e38 : (10 : Nat) ^ 38 = 100000000000000000000000000000000000000 := by decide
        rw [e38]
        omega⟩
end
end Seek
namespace Seek
open PySem L2 PyProof.Rows
theorem good_bounds {prs : Prs} (h : tabB prs = true) : Sm prs := by
  obtain ⟨g, h1, h2, h3, h4⟩ := good_of h
  exact ⟨by omega, fun p hp => by rw [g.len p hp]; omega⟩
/-- the same rows -/
theorem tabB_rows {prs prs' : Prs} (h : prs'.map (·.2) = prs.map (·.2)) : tabB prs' = tabB prs := by
  have hl : prs'.length = prs.length := by
    have := congrArg List.length h
    simpa using this
  have hm : ∀ (f : List Int → Bool), (prs'.map fun p => f p.2) = (prs.map fun p => f p.2) := fun f => by
    have := congrArg (List.map f) h
    rw [List.map_map, List.map_map] at this
    exact this
  have hm2 : ∀ (f : List Int → Int), (prs'.map fun p => f p.2) = (prs.map fun p => f p.2) := fun f => by
    have := congrArg (List.map f) h
    rw [List.map_map, List.map_map] at this
    exact this
  have hw : w0 prs' = w0 prs := by
    have := congrArg (fun l : List (List Int) => (l.head?.map List.length).getD 0) h
    simp only [List.head?_map, Option.map_map] at this
    exact this
  have hc : ∀ j, col prs' j = col prs j := fun j => hm2 fun ns => ns.getD j 0
  unfold tabB shB srB
  rw [hl, hw, hm rowB, hm fun ns => decide (ns.length = w0 prs), hm nfB]
  simp only [hc]
section
variable {P : Program} {w : World} {K : PySem.W.Frag} {mg : Str → Option Value} {base : Heap}
/-! _law_copy -/
def spCopy : Sp := fun vs H Q _ => ∃ (t : Addr) (prs : Prs), vs = [.ref t] ∧ Tab H t prs ∧ Sm prs ∧ ∀ t' prs' H', H t' = none → (∀ p ∈ prs', H p.1 = none) → Same H H' → Tab H' t' prs' → prs'.map (·.2) = prs.map (·.2) → Q (.ref t') H'
theorem sc_copy : FnScope ["table"] ["table"] (defScope dCopy) := ⟨rfl, rfl, rfl, by decide +kernel, rfl, by decide +kernel, by decide +kernel⟩
theorem ok_copy (T : Blt mg) (D : DefAt K mg "_law_copy" dCopy ["table"]) : FnAt P w K mg base 1 "_law_copy" ["table"] spCopy := by
  refine FnAt.of D sc_copy (fun vs H Q E h => ?_) (fun f cdv A outer s H vs Q E hr h => ?_)
  · obtain ⟨t, prs, rfl, _⟩ := h
    rfl
  · obtain ⟨t, prs, rfl, hT, hs, q⟩ := h
    have nd1 : (["row"] : List Str).Nodup := by decide +kernel
    refine ⟨_, pss_one (ps_ret (pe_comp ["row"] [none] (defScope dCopy) ["table"] rfl (pi_list (pv 0)) (by decide +kernel)
      (fun cl C s2 H2 ex => pg_c 0 nd1) (fun cl C s2 H2 ex => pifs_nil) (fun cl C s2 H2 ex => pe_t (listK K) T.list boot_list (pa_cons (pv 0) pa_nil)))), ?_⟩
    refine ⟨_, rfl, t, rfl, ⟨_, hT.sq⟩, fun D hD => ?_⟩
    refine comp_by (n := prs.length) (fun i ys H' => ∃ qs : Prs, Same H H' ∧ H' D = some (.lst ys) ∧ ys = (qs.map fun p => V.ref p.1) ∧ qs.length = i ∧ qs.map (·.2) = (prs.take i).map (·.2) ∧ (∀ p ∈ qs, Row H' p.1 p.2 ∧ H p.1 = none ∧ p.1 ≠ D))
      ⟨[], Same.new hD, upd_same, rfl, rfl, by simp, fun p hp => nomatch hp⟩ (fun i ys H' _ ⟨_, _, h, _⟩ => h) (fun i ys H' hi ⟨_, sm, _⟩ => ⟨_, .ref prs[i].1, (hT.same sm).sq, by simp [hi]⟩) (fun ys H' ⟨_, sm, _⟩ => ⟨_, (hT.same sm).sq, by simp⟩) ?_ (fun ys H' h => ?_)
    · rintro i ys H' x H2 hi ⟨qs, sm, hDl, hys, hql, hqm, hq⟩ ⟨rfl, hy⟩
      have hx := hy _ (hT.same sm).sq
      rw [List.getElem?_map, List.getElem?_eq_getElem hi] at hx
      have hx : V.ref prs[i].1 = x := Option.some.inj hx
      subst hx
      unfold tTrue
      refine iteT ?_
      have hR := (hT.same sm).r prs[i] (List.getElem_mem hi)
      refine ⟨_, rfl, prs[i].1, _, rfl, .inl hR.sq, fun l hl => ?_⟩
      have nlD : D ≠ l := ne_of_none hDl hl
      refine ⟨(Same.new hl) _ _ hDl, ?_, qs ++ [(l, prs[i].2)], ?_, upd_same, ?_, ?_, ?_, ?_⟩
      · rw [hys, List.length_map, hql]
        exact small1000 (by have := hs.1; omega)
      · exact (sm.trans (Same.new hl)).upd hD
      · rw [hys, List.map_append]
        rfl
      · rw [List.length_append, List.length_singleton, hql]
      · rw [List.map_append, hqm, List.take_add_one, List.getElem?_eq_getElem hi, List.map_append]
        rfl
      · intro p hp
        rcases List.mem_append.mp hp with z | z
        · obtain ⟨z1, z2, z3⟩ := hq p z
          refine ⟨?_, z2, z3⟩
          unfold Row
          rw [upd_ne z3]
          exact (Same.new hl) _ _ z1
        · have : p = (l, prs[i].2) := by simpa using z
          subst this
          refine ⟨?_, sm.free hl, Ne.symm nlD⟩
          unfold Row
          rw [upd_ne (Ne.symm nlD)]
          exact upd_same
    · obtain ⟨qs, sm, hDl, hys, hql, hqm, hq⟩ := h
      rw [List.take_length] at hqm
      exact q D qs H' hD (fun p hp => (hq p hp).2.1) sm ⟨by rw [hDl, hys], fun p hp => (hq p hp).1⟩ hqm
end
end Seek
namespace Seek
open PySem L2 PyProof.Rows
/-! deep data of rows and tables -/
def dRow (ns : List Int) : PyData := .list (ns.map PyData.int)
def dTab (rows : List (List Int)) : PyData := .list (rows.map dRow)
theorem rdAll_ints {K : PySem.W.Frag} {H : Hp} : ∀ ns : List Int, RdAll K H (ns.map V.int) (ns.map PyData.int)
  | [] => .nil
  | n :: r => .cons (.int n) (rdAll_ints r)
theorem Row.rd {K : PySem.W.Frag} {H : Hp} {a : Addr} {ns : List Int} (h : Row H a ns) : RdD K H (.ref a) (dRow ns) := .lst h.sq (rdAll_ints ns)
theorem rdAll_rows {K : PySem.W.Frag} {H : Hp} : ∀ prs : Prs, (∀ p ∈ prs, Row H p.1 p.2) → RdAll K H (prs.map fun p => V.ref p.1) ((prs.map (·.2)).map dRow)
  | [], _ => .nil
  | p :: r, h => .cons (h p (by simp)).rd (rdAll_rows r fun q hq => h q (by simp [hq]))
theorem Tab.rd {K : PySem.W.Frag} {H : Hp} {t : Addr} {prs : Prs} (h : Tab H t prs) : RdD K H (.ref t) (dTab (prs.map (·.2))) := .lst h.sq (rdAll_rows prs h.r)
theorem lay_ints : ∀ ns : List Int, PyData.canLayAll0 (ns.map PyData.int) = true ∧ PyData.depthAll (ns.map PyData.int) ≤ 0
  | [] => by simp [PyData.canLayAll0, PyData.depthAll]
  | n :: r => by
    have h := lay_ints r
    simp only [List.map_cons, PyData.canLayAll0, PyData.canLay0, PyData.depthAll, PyData.depth, h.1, Bool.and_self, true_and]
    have := h.2
    omega
theorem lay_rows : ∀ rows : List (List Int), PyData.canLayAll0 (rows.map dRow) = true ∧ PyData.depthAll (rows.map dRow) ≤ 1
  | [] => by simp [PyData.canLayAll0, PyData.depthAll]
  | ns :: r => by
    have h := lay_rows r
    have h2 := lay_ints ns
    simp only [List.map_cons, dRow, PyData.canLayAll0, PyData.canLay0, PyData.depthAll, PyData.depth, h2.1]
    have a1 := h.2
    have a2 := h2.2
    refine ⟨by rw [Bool.true_and]; exact h.1, ?_⟩
    show max (PyData.depthAll (ns.map PyData.int) + 1) (PyData.depthAll (r.map dRow)) ≤ 1
    omega
theorem shaped_row (ns : List Int) : SeqAt.shaped (dRow ns) = true := by
  have h := lay_ints ns
  have h2 := h.2
  show (PyData.canLay0 (.list (ns.map PyData.int)) && decide (PyData.depth (.list (ns.map PyData.int)) ≤ 64)) = true
  rw [Bool.and_eq_true]
  exact ⟨by simp only [PyData.canLay0]; exact h.1, decide_eq_true (by simp only [PyData.depth]; omega)⟩
theorem shaped_tab (rows : List (List Int)) : SeqAt.shaped (dTab rows) = true := by
  have h := lay_rows rows
  have h2 := h.2
  show (PyData.canLay0 (.list (rows.map dRow)) && decide (PyData.depth (.list (rows.map dRow)) ≤ 64)) = true
  rw [Bool.and_eq_true]
  exact ⟨by simp only [PyData.canLay0]; exact h.1, decide_eq_true (by simp only [PyData.depth]; omega)⟩
theorem eqv_ints : ∀ ns : List Int, PyData.eqvAll (ns.map PyData.int) (ns.map PyData.int) = true
  | [] => by simp [PyData.eqvAll]
  | n :: r => by simp [PyData.eqvAll, PyData.eqv, eqv_ints r]
theorem eqv_row (ns : List Int) : PyData.eqv (dRow ns) (dRow ns) = true := by
  unfold dRow
  simp only [PyData.eqv]
  exact eqv_ints ns
theorem eqv_rows : ∀ rows : List (List Int), PyData.eqvAll (rows.map dRow) (rows.map dRow) = true
  | [] => by simp [PyData.eqvAll]
  | n :: r => by simp [PyData.eqvAll, eqv_row n, eqv_rows r]
theorem eqv_tab (rows : List (List Int)) : PyData.eqv (dTab rows) (dTab rows) = true := by
  unfold dTab
  simp only [PyData.eqv]
  exact eqv_rows rows
end Seek
namespace Seek
open PySem L2 PyProof.Rows
/-! any thing -/
def rowD : PyData → Bool
  | .list ds => (decide (1 ≤ ds.length) && decide (ds.length ≤ 6)) && ds.all isIntD
  | _ => false
theorem rowD_list (ds : List PyData) : rowD (.list ds) = ((decide (1 ≤ ds.length) && decide (ds.length ≤ 6)) && ds.all isIntD) := rfl
def GoodD (d : PyData) : Prop := ∃ rows : List (List Int), d = dTab rows ∧ tabB (rows.map fun r => ((0 : Addr), r)) = true
theorem ints_of {H : Hp} {S : List Addr} : ∀ {xs : List V} {ds : List PyData}, RdSs S H xs ds → ds.all isIntD = true → ∃ ns : List Int, xs = ns.map V.int ∧ ds = ns.map PyData.int
  | _, _, .nil, _ => ⟨[], rfl, rfl⟩
  | _, _, .cons (x := x) (d := d) h t, ha => by
    simp only [List.all_cons, Bool.and_eq_true] at ha
    obtain ⟨ns, e1, e2⟩ := ints_of t ha.2
    cases h with
    | int i => exact ⟨i :: ns, by rw [e1]; rfl, by rw [e2]; rfl⟩
    | _ => exact absurd ha.1 (by simp [isIntD])
theorem row_of {H : Hp} {S : List Addr} {x : V} {d : PyData} (r : RdS S H x d) (h : rowD d = true) : ∃ (a : Addr) (ns : List Int), x = .ref a ∧ d = dRow ns ∧ Row H a ns ∧ rowB ns = true ∧ a ∉ S := by
  cases r with
  | @lst a xs ds e n ra =>
    unfold rowD at h
    rw [Bool.and_eq_true] at h
    obtain ⟨ns, e1, e2⟩ := ints_of ra h.2
    refine ⟨a, ns, rfl, by rw [e2]; rfl, by rw [e1] at e; exact e, ?_, n⟩
    have hl : ds.length = ns.length := by rw [e2, List.length_map]
    unfold rowB
    rw [← hl]
    exact h.1
  | _ => exact absurd h (by simp [rowD])
theorem rows_of {H : Hp} {S : List Addr} : ∀ {ms : List (V × PyData)}, (∀ m ∈ ms, RdS S H m.1 m.2) → (∀ m ∈ ms, rowD m.2 = true) → ∃ prs : Prs, ms.map (·.1) = (prs.map fun p => V.ref p.1) ∧ ms.map (·.2) = (prs.map (·.2)).map dRow ∧ ∀ p ∈ prs, Row H p.1 p.2 ∧ rowB p.2 = true ∧ p.1 ∉ S
  | [], _, _ => ⟨[], rfl, rfl, fun p h => nomatch h⟩
  | m :: ms, h1, h2 => by
    obtain ⟨prs, e1, e2, hp⟩ := rows_of (fun x hx => h1 x (List.mem_cons_of_mem _ hx)) (fun x hx => h2 x (List.mem_cons_of_mem _ hx))
    obtain ⟨a, ns, ea, ed, hr, hb, hn⟩ := row_of (h1 m (by simp)) (h2 m (by simp))
    refine ⟨(a, ns) :: prs, by rw [List.map_cons, ea, e1]; rfl, by rw [List.map_cons, ed, e2]; rfl, fun p hpp => ?_⟩
    rcases List.mem_cons.mp hpp with rfl | z
    · exact ⟨hr, hb, hn⟩
    · exact hp p z
theorem dRow_inj {a b : List Int} (h : dRow a = dRow b) : a = b := by
  unfold dRow at h
  injection h with h
  exact List.map_inj_right (fun x y e => by injection e) |>.mp h
theorem dTab_inj {a b : List (List Int)} (h : dTab a = dTab b) : a = b := by
  unfold dTab at h
  injection h with h
  exact List.map_inj_right (fun x y e => dRow_inj e) |>.mp h
theorem rowD_row (ns : List Int) : rowD (dRow ns) = rowB ns := by
  unfold dRow rowB
  rw [rowD_list, List.length_map, List.all_map]
  have : (ns.all (isIntD ∘ PyData.int)) = true := by simp [isIntD]
  rw [this, Bool.and_true]
theorem goodD_tab {prs : Prs} : GoodD (dTab (prs.map (·.2))) ↔ tabB prs = true := by
  have e : ∀ p : Prs, tabB ((p.map (·.2)).map fun r => ((0 : Addr), r)) = tabB p := fun p => tabB_rows (by rw [List.map_map, List.map_map]; exact List.map_congr_left fun _ _ => rfl)
  constructor
  · rintro ⟨rows, h1, h2⟩
    rw [← dTab_inj h1, e] at h2
    exact h2
  · intro h
    exact ⟨_, rfl, by rw [e]; exact h⟩
/-- what is a table has good rows, as many as may be, all of one length -/
theorem GoodD.rows {ds : List PyData} (h : GoodD (.list ds)) : (1 ≤ ds.length ∧ ds.length ≤ 6) ∧ ∀ d ∈ ds, rowD d = true := by
  obtain ⟨rows, h1, h2⟩ := h
  obtain ⟨g, g1, g2, g3, g4⟩ := good_of h2
  unfold dTab at h1
  injection h1 with h1
  rw [List.length_map] at g1 g2
  refine ⟨by rw [h1, List.length_map]; exact ⟨g1, g2⟩, fun d hd => ?_⟩
  rw [h1] at hd
  obtain ⟨r, hr, rfl⟩ := List.mem_map.mp hd
  have hl := g.len (0, r) (List.mem_map.mpr ⟨r, hr, rfl⟩)
  rw [rowD_row]
  unfold rowB
  have hl : r.length = _ := hl
  rw [decide_eq_true (by omega), decide_eq_true (by omega)]
  rfl
theorem GoodD.list {d : PyData} (h : GoodD d) : ∃ ds, d = .list ds := let ⟨_, h1, _⟩ := h; ⟨_, h1⟩
section
variable {P : Program} {w : World} {K : PySem.W.Frag} {mg : Str → Option Value} {base : Heap}
def spIsWholeA : Sp := fun vs H Q _ => ∃ (x : V) (d : PyData), vs = [x] ∧ RdS [] H x d ∧ Q (.bl (isIntD d)) H
theorem ok_isWholeA (T : Blt mg) (D : DefAt K mg "is_whole" dIsWhole ["thing"]) : FnAt P w K mg base 1 "is_whole" ["thing"] spIsWholeA := by
  refine FnAt.of D sc_isWhole (fun vs H Q E h => ?_) (fun f cdv A outer s H vs Q E hr h => ?_)
  · obtain ⟨x, d, rfl, _⟩ := h
    rfl
  · obtain ⟨x, d, rfl, rd, q⟩ := h
    refine ⟨_, pss_one (ps_ret (pe_and (pe_b call_isinst T.isinst boot_isinstance (pa_cons (pv 0) (pa_cons (pe_ty T.int boot_int) pa_nil)))
      (pe_one (pe_not (pe_b call_isinst T.isinst boot_isinstance (pa_cons (pv 0) (pa_cons (pe_ty T.bool boot_bool) pa_nil))))))), ?_⟩
    refine ⟨_, rfl, _, _, _, _, rfl, rd.ty, kit_int _ d, _, rfl, ?_⟩
    cases d with
    | int i => exact iteT ⟨_, rfl, _, _, _, _, rfl, rd.ty, kit_bool _ _, _, rfl, q⟩
    | bool b => exact iteT ⟨_, rfl, _, _, _, _, rfl, rd.ty, kit_bool _ _, _, rfl, q⟩
    | _ => exact iteF q
def spAllWholeA : Sp := fun vs H Q _ => ∃ (a : Addr) (xs : List V) (ds : List PyData), vs = [.ref a] ∧ H a = some (.lst xs) ∧ RdSs [] H xs ds ∧ ds.length ≤ 1000 ∧ ∀ H', Same H H' → Q (.bl (ds.all isIntD)) H'
theorem ok_allWholeA (T : Blt mg) (D : DefAt K mg "all_whole" dAllWhole ["things"]) (G1 : FnAt P w K mg base 1 "is_whole" ["thing"] spIsWholeA) : FnAt P w K mg base 2 "all_whole" ["things"] spAllWholeA := by
  refine FnAt.of D sc_allWhole (fun vs H Q E h => ?_) (fun f cdv A outer s H vs Q E hr h => ?_)
  · obtain ⟨a, xs, ds, rfl, _⟩ := h
    rfl
  · obtain ⟨a, xs, ds, rfl, hl, rs, hn, q⟩ := h
    obtain ⟨ms, e1, e2, hm⟩ := rs.pairs
    subst e1 e2
    rw [List.length_map] at hn
    have nd1 : (["thing"] : List Str).Nodup := by decide +kernel
    refine ⟨_, pss_one (ps_ret (pe_b (call_all rfl) T.all boot_all (pa_cons (pe_comp ["thing"] [none] (defScope dAllWhole) ["things"] rfl (pi_list (pv 0)) (by decide +kernel)
      (fun cl C s2 H2 ex => pg_c 0 nd1) (fun cl C s2 H2 ex => pifs_nil) (fun cl C s2 H2 ex => pe_f G1 hr (pa_cons (pv 0) pa_nil))) pa_nil))), ?_⟩
    refine ⟨_, rfl, a, rfl, ⟨_, SqL.of hl⟩, comp_map (fun m : V × PyData => m.1) (fun m => .bl (isIntD m.2)) (SqL.of hl) (sl6 hn) (fun m hx H' Q' sm q' => ?_) fun D H' hD sm hDl => ?_⟩
    · exact ⟨_, rfl, m.1, m.2, rfl, (hm m hx).same sm, q' _ (Same.refl _)⟩
    · refine ⟨D, ms.map fun m => isIntD m.2, rfl, SqL.of (by rw [hDl, map_bl]), ?_⟩
      have q1 := q H' sm
      rw [List.all_map] at q1 ⊢
      exact q1
def spIsRowA : Sp := fun vs H Q _ => ∃ (x : V) (d : PyData), vs = [x] ∧ RdS [] H x d ∧ ∀ H', Same H H' → Q (.bl (rowD d)) H'
theorem ok_isRowA (T : Blt mg) (D : DefAt K mg "is_row" dIsRow ["thing"]) (G : FnAt P w K mg base 2 "all_whole" ["things"] spAllWholeA) : FnAt P w K mg base 3 "is_row" ["thing"] spIsRowA := by
  refine FnAt.of D sc_isRow (fun vs H Q E h => ?_) (fun f cdv A outer s H vs Q E hr h => ?_)
  · obtain ⟨x, d, rfl, _⟩ := h
    rfl
  · obtain ⟨x, d, rfl, rd, q⟩ := h
    obtain ⟨tk, mp⟩ := T.mp
    refine ⟨_, pss_one (ps_ret (pe_and (pe_b call_isinst T.isinst boot_isinstance (pa_cons (pv 0) (pa_cons (pe_ty T.list boot_list) pa_nil)))
      (pe_and (pe_chain op_le op_le pe_int (pe_b call_len_seq T.len boot_len (pa_cons (pv 0) pa_nil)) (pe_glob (v := .int 6) rfl mp ⟨_, rfl⟩))
      (pe_one (pe_f G hr (pa_cons (pv 0) pa_nil)))))), ?_⟩
    refine ⟨_, rfl, _, _, _, _, rfl, rd.ty, kit_list _ d, _, rfl, ?_⟩
    cases rd with
    | @lst a xs ds e n ra =>
      have hlen := ra.length
      refine iteT ⟨_, rfl, a, _, rfl, .inl (SqL.of e), 1, _, rfl, rfl, _, rfl, ?_⟩
      rw [hlen]
      refine ite2 (fun h1 => ?_) (fun h1 => ?_)
      · have h1 := of_decide_eq_true h1
        refine ⟨_, _, rfl, rfl, _, rfl, ite2 (fun h2 => ?_) (fun h2 => ?_)⟩
        · have h2 := of_decide_eq_true h2
          refine ⟨_, rfl, a, xs, ds, rfl, e, ra, by omega, fun H' sm => ?_⟩
          have q1 := q H' sm
          rw [rowD_list, decide_eq_true (by omega), decide_eq_true (by omega)] at q1
          exact q1
        · have e : rowD (.list ds) = false := by
            rw [rowD_list, decide_eq_false (p := ds.length ≤ 6) (by intro z; exact h2 (decide_eq_true (by omega)))]
            simp
          rw [← e]
          exact q H (Same.refl _)
      · refine ⟨_, rfl, iteF ?_⟩
        have e : rowD (.list ds) = false := by
          rw [rowD_list, decide_eq_false (p := 1 ≤ ds.length) (by intro z; exact h1 (decide_eq_true (by omega)))]
          simp
        rw [← e]
        exact q H (Same.refl _)
    | _ => exact iteF (q H (Same.refl _))
/-! has_table_shape, is_table -/
def spShapeA : Sp := fun vs H Q _ => ∃ (x : V) (d : PyData), vs = [x] ∧ RdS [] H x d ∧ ∀ b H', (b = true → ∃ (t : Addr) (prs : Prs), x = .ref t ∧ d = dTab (prs.map (·.2)) ∧ Tab H t prs ∧ 1 ≤ prs.length ∧ prs.length ≤ 6 ∧ (∀ p ∈ prs, p.2.length = w0 prs ∧ rowB p.2 = true)) → (b = false → ¬ GoodD d) → Same H H' → Q (.bl b) H'
theorem ok_shapeA (T : Blt mg) (D : DefAt K mg "has_table_shape" dShape ["thing"]) (G : FnAt P w K mg base 3 "is_row" ["thing"] spIsRowA) : FnAt P w K mg base 4 "has_table_shape" ["thing"] spShapeA := by
  refine FnAt.of D sc_shape (fun vs H Q E h => ?_) (fun f cdv A outer s H vs Q E hr h => ?_)
  · obtain ⟨x, d, rfl, _⟩ := h
    rfl
  · obtain ⟨x, d, rfl, rd, q⟩ := h
    obtain ⟨tk, mr⟩ := T.mr
    have nd1 : (["row"] : List Str).Nodup := by decide +kernel
    have nd2 : (["row", "thing"] : List Str).Nodup := by decide +kernel
    refine ⟨_, pss_cons (ps_if (PW.pt (pw_or (pt_not (pt_val (pe_b call_isinst T.isinst boot_isinstance (pa_cons (pv 0) (pa_cons (pe_ty T.list boot_list) pa_nil)))))
        (pw_or1 (pt_not (pt_chain op_le op_le pe_int (pe_b call_len_seq T.len boot_len (pa_cons (pv 0) pa_nil)) (pe_glob (v := .int 6) rfl mr ⟨_, rfl⟩)))))) (pss_one (ps_ret pe_bl)) pss_nil)
      (pss_cons (ps_if (pt_not (pt_val (pe_b (call_all rfl) T.all boot_all (pa_cons (pe_comp ["row"] [none] (defScope dShape) ["thing", "row"] rfl (pi_list (pv 0)) (by decide +kernel)
        (fun cl C s2 H2 ex => pg_c 0 nd1) (fun cl C s2 H2 ex => pifs_nil) (fun cl C s2 H2 ex => pe_f G hr (pa_cons (pv 0) pa_nil))) pa_nil)))) (pss_one (ps_ret pe_bl)) pss_nil)
      (pss_one (ps_ret (pe_b (call_all rfl) T.all boot_all (pa_cons (pe_comp ["row", "thing"] [none, some 0] (defScope dShape) ["thing", "row"] rfl (pi_list (pv 0)) (by decide +kernel)
        (fun cl C s2 H2 ex => pg_c 0 nd2) (fun cl C s2 H2 ex => pifs_nil)
        (fun cl C s2 H2 ex => pe_cmpR op_eq (pe_b (lenK K) T.len boot_len (pa_cons (pv 0) pa_nil)) (pe_b (lenK K) T.len boot_len (pa_cons (pe_ix (ixL K) (pv 1) pe_int (fun _ _ => rfl)) pa_nil)) (nomark _))) pa_nil))))), ?_⟩
    refine ⟨_, rfl, _, _, _, _, rfl, rd.ty, kit_list _ d, _, rfl, ?_⟩
    have notl : (∀ ds, d ≠ .list ds) → ¬ GoodD d := fun h g => by
      obtain ⟨ds, e⟩ := g.list
      exact h ds e
    cases rd with
    | @lst t xs ds e n ra =>
      obtain ⟨ms, e1, e2, hm⟩ := ra.pairs
      subst e1 e2
      refine iteF ⟨_, rfl, t, _, rfl, .inl (SqL.of e), 1, _, rfl, rfl, _, rfl, ?_⟩
      rw [List.length_map]
      have bad : ¬ (1 ≤ ms.length ∧ ms.length ≤ 6) → ¬ GoodD (.list (ms.map (·.2))) := fun z g => z (by
        have := g.rows.1
        rw [List.length_map] at this
        exact this)
      refine ite2 (fun h1 => ?_) (fun h1 => ?_)
      · have h1 := of_decide_eq_true h1
        refine ⟨_, _, rfl, rfl, _, rfl, ?_⟩
        by_cases h2 : ms.length ≤ 6
        · rw [decide_eq_true (show (ms.length : Int) ≤ 6 by omega)]
          refine iteF ?_
          refine ⟨_, rfl, t, rfl, ⟨_, SqL.of e⟩, comp_map (fun m : V × PyData => m.1) (fun m => .bl (rowD m.2)) (SqL.of e) (sl6 (by omega)) (fun m hx H' Q' sm q' => ?_) fun D H' hD sm hDl => ?_⟩
          · exact ⟨_, rfl, m.1, m.2, rfl, (hm m hx).same sm, q'⟩
          · refine ⟨D, ms.map fun m => rowD m.2, rfl, SqL.of (by rw [hDl, map_bl]), _, rfl, ?_⟩
            cases e1 : (ms.map fun m => rowD m.2).all id with
            | false =>
              refine iteT (q false H' (fun z => by cases z) (fun _ g => ?_) sm)
              have : (ms.map fun m => rowD m.2).all id = true := by
                rw [List.all_map, List.all_eq_true]
                exact fun m hmm => g.rows.2 m.2 (List.mem_map.mpr ⟨m, hmm, rfl⟩)
              rw [e1] at this
              cases this
            | true =>
              refine iteF ?_
              rw [List.all_map, List.all_eq_true] at e1
              obtain ⟨prs, p1, p2, hp⟩ := rows_of hm e1
              have hT : Tab H t prs := ⟨by rw [← p1]; exact e, fun p hpp => (hp p hpp).1⟩
              have hT1 := hT.same sm
              have hlp : ms.length = prs.length := by
                have := congrArg List.length p1
                rw [List.length_map, List.length_map] at this
                exact this
              have ed : PyData.list (ms.map (·.2)) = dTab (prs.map (·.2)) := by rw [p2]; rfl
              obtain ⟨p0, hp0, hm0, hx0⟩ := head_at (prs := prs) (by omega)
              have hw0 : w0 prs = p0.2.length := by
                unfold w0
                rw [hp0]
                rfl
              refine ⟨_, rfl, t, rfl, ⟨_, hT1.sq⟩, comp_map (fun p : Addr × List Int => V.ref p.1) (fun p => .bl (decide (p.2.length = w0 prs))) hT1.sq (sl6 (by omega)) (fun p hpp H2 Q' sm2 q' => ?_) fun D2 H2 hD2 sm2 hDl2 => ?_⟩
              · have hT2 := hT1.same sm2
                refine ⟨_, rfl, p.1, _, rfl, .inl (hT2.r p hpp).sq, _, rfl, t, _, 0, .ref p0.1, rfl, rfl, hT2.sq, atI_nat (j := 0) (by rw [List.getElem?_map, hx0]; rfl), p0.1, _, rfl, .inl (hT2.r p0 hm0).sq, rfl, ?_⟩
                rw [List.length_map, List.length_map, ← hw0]
                have e5 : decide (V.int (p.2.length : Nat) = V.int (w0 prs : Nat)) = decide (p.2.length = w0 prs) := decide_eq_decide.mpr ⟨fun h => by injection h with h; omega, fun h => by rw [h]⟩
                rw [e5]
                exact q' _ (Same.refl _)
              · refine ⟨D2, prs.map fun p => decide (p.2.length = w0 prs), rfl, SqL.of (by rw [hDl2, map_bl]), ?_⟩
                refine q _ H2 (fun hb => ⟨t, prs, rfl, ed, hT, by omega, by omega, fun p hpp => ⟨?_, (hp p hpp).2.1⟩⟩) (fun hb g => ?_) (sm.trans sm2)
                · rw [List.all_map, List.all_eq_true] at hb
                  exact of_decide_eq_true (hb p hpp)
                · rw [ed, goodD_tab] at g
                  have gl := (good_of g).1.len
                  have : ((prs.map fun p => decide (p.2.length = w0 prs)).all id) = true := by
                    rw [List.all_map, List.all_eq_true]
                    exact fun p hpp => decide_eq_true (gl p hpp)
                  rw [hb] at this
                  cases this
        · rw [decide_eq_false (show ¬ (ms.length : Int) ≤ 6 by omega)]
          exact iteT (q false H (fun z => by cases z) (fun _ => bad (fun z => h2 z.2)) (Same.refl _))
      · refine ⟨_, rfl, ?_⟩
        exact iteT (q false H (fun z => by cases z) (fun _ => bad (fun z => h1 (decide_eq_true (by omega)))) (Same.refl _))
    | _ => exact iteT (q false H (fun z => by cases z) (fun _ => notl (fun ds z => by cases z)) (Same.refl _))
def spIsTableA : Sp := fun vs H Q _ => ∃ (x : V) (d : PyData), vs = [x] ∧ RdS [] H x d ∧ ∀ b H', (b = true ↔ GoodD d) → Same H H' → Q (.bl b) H'
theorem ok_isTableA (D : DefAt K mg "is_table" dIsTable ["thing"]) (G : FnAt P w K mg base 4 "has_table_shape" ["thing"] spShapeA) (G2 : FnAt P w K mg base 2 "is_sorted_both_ways" ["table"] spSorted) : FnAt P w K mg base 5 "is_table" ["thing"] spIsTableA := by
  refine FnAt.of D sc_isTable (fun vs H Q E h => ?_) (fun f cdv A outer s H vs Q E hr h => ?_)
  · obtain ⟨x, d, rfl, _⟩ := h
    rfl
  · obtain ⟨x, d, rfl, rd, q⟩ := h
    refine ⟨_, pss_one (ps_ret (pe_and (pe_f G hr (pa_cons (pv 0) pa_nil)) (pe_one (pe_f G2 (hr.mono (by decide)) (pa_cons (pv 0) pa_nil))))), ?_⟩
    refine ⟨_, rfl, x, d, rfl, rd, fun b H1 ht hf s1 => ⟨_, rfl, ?_⟩⟩
    cases b with
    | false => exact iteF (q false H1 ⟨fun z => (by cases z), fun g => absurd g (hf rfl)⟩ s1)
    | true =>
      obtain ⟨t, prs, rfl, rfl, hT, h1, h6, hp⟩ := ht rfl
      refine iteT ⟨_, rfl, t, prs, rfl, hT.same s1, ⟨by omega, fun p hpp => ?_⟩, h1, fun p hpp => (hp p hpp).1, fun H2 s2 => q _ H2 ?_ (s1.trans s2)⟩
      · have := (hp p hpp).2
        unfold rowB at this
        rw [Bool.and_eq_true, decide_eq_true_eq, decide_eq_true_eq] at this
        omega
      · rw [goodD_tab]
        unfold tabB
        have : shB prs = true := by
          unfold shB
          rw [decide_eq_true h1, decide_eq_true h6, Bool.true_and, List.all_map, List.all_map, Bool.true_and, Bool.and_eq_true, List.all_eq_true, List.all_eq_true]
          exact ⟨fun p hpp => (hp p hpp).2, fun p hpp => decide_eq_true (hp p hpp).1⟩
        rw [this, Bool.true_and]
end
end Seek
namespace Seek
open PySem L2 PyProof.Rows
/-! what is no table -/
theorem nf_le {ns : List Int} (h : nfP ns) : ∀ (k i : Nat), i + k < ns.length → ns.getD i 0 ≤ ns.getD (i + k) 0
  | 0, i, _ => Int.le_refl _
  | k + 1, i, hk => Int.le_trans (nf_le h k i (by omega)) (h (i + k) (by omega))
structure GoodR (W : Nat) (rows : List (List Int)) : Prop where
  n : 1 ≤ rows.length ∧ rows.length ≤ 6
  w : 1 ≤ W ∧ W ≤ 6
  len : ∀ i, i < rows.length → (rows.getD i []).length = W
  row : ∀ i, i < rows.length → nfP (rows.getD i [])
  down : ∀ i, i + 1 < rows.length → ∀ j, j < W → (rows.getD i []).getD j 0 ≤ (rows.getD (i + 1) []).getD j 0
theorem goodR_of {prs : Prs} (h : tabB prs = true) : GoodR (w0 prs) (prs.map (·.2)) := by
  obtain ⟨g, g1, g2, g3, g4⟩ := good_of h
  have e : ∀ i, (prs.map (·.2)).getD i [] = rowAt prs i := fun i => by
    unfold rowAt
    rw [List.getD_eq_getElem?_getD, List.getElem?_map]
  refine ⟨by rw [List.length_map]; exact ⟨g1, g2⟩, ⟨g3, g4⟩, fun i hi => ?_, fun i hi => ?_, fun i hi j hj => ?_⟩
  · rw [List.length_map] at hi
    obtain ⟨p, hp, _, e2⟩ := rowAt_mem hi
    rw [e, e2]
    exact g.len p hp
  · rw [List.length_map] at hi
    obtain ⟨p, hp, _, e2⟩ := rowAt_mem hi
    rw [e, e2]
    exact g.row p hp
  · rw [List.length_map] at hi
    rw [e, e]
    exact g.down i hi j hj
theorem GoodD.goodR {rows : List (List Int)} (h : GoodD (dTab rows)) : ∃ W, GoodR W rows := by
  obtain ⟨rs, e, ht⟩ := h
  have e := dTab_inj e
  subst e
  have g := goodR_of ht
  rw [List.map_map] at g
  have : ((fun x : Addr × List Int => x.2) ∘ fun r => ((0 : Addr), r)) = id := rfl
  rw [this, List.map_id] at g
  exact ⟨_, g⟩
theorem GoodR.le {W : Nat} {rows : List (List Int)} (g : GoodR W rows) {j : Nat} (hj : j < W) : ∀ (k i : Nat), i + k < rows.length → (rows.getD i []).getD j 0 ≤ (rows.getD (i + k) []).getD j 0
  | 0, i, _ => Int.le_refl _
  | k + 1, i, hk => Int.le_trans (g.le hj k i (by omega)) (g.down (i + k) (by omega) j hj)
/-- the table with another thing for a row -/
def putD (rows : List (List Int)) (r : Nat) (d : PyData) : PyData := .list ((rows.take r).map dRow ++ [d] ++ (rows.drop (r + 1)).map dRow)
theorem putD_row {rows : List (List Int)} {r : Nat} {x : List Int} (hr : r < rows.length) : putD rows r (dRow x) = dTab (rows.set r x) := by
  unfold putD dTab
  rw [List.set_eq_take_append_cons_drop, if_pos hr]
  simp
theorem set_at {rows : List (List Int)} {r i : Nat} {x : List Int} (hr : r < rows.length) : (rows.set r x).getD i [] = if i = r then x else rows.getD i [] := by
  rw [List.getD_eq_getElem?_getD, List.getElem?_set]
  by_cases h : r = i
  · subst h
    rw [if_pos rfl, if_pos hr, if_pos rfl]
    rfl
  · rw [if_neg h, if_neg (Ne.symm h), List.getD_eq_getElem?_getD]
theorem bad_row {rows : List (List Int)} {r : Nat} {d : PyData} (h : rowD d = false) : ¬ GoodD (putD rows r d) := fun g => by
  have := g.rows.2 d (by simp)
  rw [h] at this
  cases this
/-- a row of ints that makes it no table -/
theorem bad_ints {W : Nat} {rows : List (List Int)} {r : Nat} {x : List Int} (g : GoodR W rows) (hr : r < rows.length)
    (h : (x.length ≠ W ∧ ∃ i, i < rows.length ∧ i ≠ r) ∨ (∃ i k, i < k ∧ k < x.length ∧ x.getD k 0 < x.getD i 0) ∨
      (∃ i j, j < W ∧ x.length = W ∧ ((i < r ∧ x.getD j 0 < (rows.getD i []).getD j 0) ∨ (r < i ∧ i < rows.length ∧ (rows.getD i []).getD j 0 < x.getD j 0)))) : ¬ GoodD (putD rows r (dRow x)) := fun gd => by
  rw [putD_row hr] at gd
  obtain ⟨V, q⟩ := gd.goodR
  have hlen : (rows.set r x).length = rows.length := List.length_set
  have lx := q.len r (by omega)
  rw [set_at hr, if_pos rfl] at lx
  rcases h with ⟨h1, i, hi, hir⟩ | ⟨i, k, hik, hk, hlt⟩ | ⟨i, j, hj, hxl, h⟩
  · have li := q.len i (by omega)
    rw [set_at hr, if_neg hir, g.len i hi] at li
    exact h1 (by omega)
  · have nx := q.row r (by omega)
    rw [set_at hr, if_pos rfl] at nx
    have := nf_le nx (k - i) i (by omega)
    rw [show i + (k - i) = k by omega] at this
    omega
  · have hV : V = W := by omega
    subst hV
    rcases h with ⟨hi, hlt⟩ | ⟨hi, hi2, hlt⟩
    · have := q.le hj (r - i) i (by omega)
      rw [show i + (r - i) = r by omega, set_at hr, set_at hr, if_pos rfl, if_neg (by omega)] at this
      omega
    · have := q.le hj (i - r) r (by omega)
      rw [show r + (i - r) = i by omega, set_at hr, set_at hr, if_pos rfl, if_neg (by omega)] at this
      omega
theorem set_get {h : List Int} {p k : Nat} {v : Int} (hp : p < h.length) : (h.set p v).getD k 0 = if k = p then v else h.getD k 0 := by
  rw [List.getD_eq_getElem?_getD, List.getElem?_set]
  by_cases e : p = k
  · subst e
    rw [if_pos rfl, if_pos hp, if_pos rfl]
    rfl
  · rw [if_neg e, if_neg (Ne.symm e), List.getD_eq_getElem?_getD]
section
variable {W : Nat} {rows : List (List Int)} {r p : Nat}
theorem bad_len {x : List Int} (g : GoodR W rows) (hr : r < rows.length) (h2 : 2 ≤ rows.length) (h : x.length ≠ W) : ¬ GoodD (putD rows r (dRow x)) :=
  bad_ints g hr (.inl ⟨h, if r = 0 then 1 else 0, by split <;> omega, by split <;> omega⟩)
theorem bad_set {v : Int} (g : GoodR W rows) (hr : r < rows.length) (hp : p < W)
    (h : (∃ i, i < p ∧ v < (rows.getD r []).getD i 0) ∨ (∃ i, p < i ∧ i < W ∧ (rows.getD r []).getD i 0 < v) ∨ (∃ i, i < r ∧ v < (rows.getD i []).getD p 0) ∨ (∃ i, r < i ∧ i < rows.length ∧ (rows.getD i []).getD p 0 < v)) : ¬ GoodD (putD rows r (dRow ((rows.getD r []).set p v))) := by
  have hl := g.len r hr
  have hp' : p < (rows.getD r []).length := by omega
  rcases h with ⟨i, hi, hv⟩ | ⟨i, hi, hi2, hv⟩ | ⟨i, hi, hv⟩ | ⟨i, hi, hi2, hv⟩
  · exact bad_ints g hr (.inr (.inl ⟨i, p, hi, by rw [List.length_set]; omega, by rw [set_get hp', set_get hp', if_pos rfl, if_neg (by omega)]; exact hv⟩))
  · exact bad_ints g hr (.inr (.inl ⟨p, i, hi, by rw [List.length_set]; omega, by rw [set_get hp', set_get hp', if_pos rfl, if_neg (by omega)]; exact hv⟩))
  · exact bad_ints g hr (.inr (.inr ⟨i, p, hp, by rw [List.length_set]; exact hl, .inl ⟨hi, by rw [set_get hp', if_pos rfl]; exact hv⟩⟩))
  · exact bad_ints g hr (.inr (.inr ⟨i, p, hp, by rw [List.length_set]; exact hl, .inr ⟨hi, hi2, by rw [set_get hp', if_pos rfl]; exact hv⟩⟩))
theorem bad_high (g : GoodR W rows) (hr : r < rows.length) (hp : p < W) (h : ¬ (r = rows.length - 1 ∧ p = W - 1)) : ¬ GoodD (putD rows r (dRow ((rows.getD r []).set p ((rows.getD (rows.length - 1) []).getD (W - 1) 0 + 1)))) := by
  have hl := g.len r hr
  refine bad_set g hr hp ?_
  by_cases e : p = W - 1
  · right; right; right
    refine ⟨rows.length - 1, by omega, by omega, ?_⟩
    rw [e]
    omega
  · right; left
    refine ⟨W - 1, by omega, by omega, ?_⟩
    have := g.le (j := W - 1) (by omega) (rows.length - 1 - r) r (by omega)
    rw [show r + (rows.length - 1 - r) = rows.length - 1 by omega] at this
    omega
theorem bad_low (g : GoodR W rows) (hr : r < rows.length) (hp : p < W) (h : ¬ (r = 0 ∧ p = 0)) : ¬ GoodD (putD rows r (dRow ((rows.getD r []).set p ((rows.getD 0 []).getD 0 0 - 1)))) := by
  refine bad_set g hr hp ?_
  by_cases e : p = 0
  · right; right; left
    refine ⟨0, by omega, ?_⟩
    rw [e]
    omega
  · left
    refine ⟨0, by omega, ?_⟩
    have := g.le (j := 0) (by omega) r 0 (by omega)
    rw [Nat.zero_add] at this
    omega
theorem bad_fall (g : GoodR W rows) (hr : rows.length = 1) : ¬ GoodD (putD rows 0 (dRow (rows.getD 0 [] ++ [(rows.getD 0 []).getD 0 0 - 1]))) := by
  have hl := g.len 0 (by omega)
  have hw := g.w
  refine bad_ints g (by omega) (.inr (.inl ⟨0, W, by omega, by rw [List.length_append, List.length_singleton, hl]; omega, ?_⟩))
  rw [getD_push, getD_push, if_neg (by omega), if_pos hl.symm, if_pos (by omega)]
  omega
end
/-- a list with a wrong count, or a thing among it that is no row -/
theorem bad_count {ds : List PyData} (h : ds.length = 0 ∨ 6 < ds.length) : ¬ GoodD (.list ds) := fun g => by
  have := g.rows.1
  omega
theorem bad_any {ds : List PyData} {d : PyData} (hd : d ∈ ds) (h : rowD d = false) : ¬ GoodD (.list ds) := fun g => by
  have := g.rows.2 d hd
  rw [h] at this
  cases this
theorem bad_kind {d : PyData} (h : ∀ ds, d ≠ .list ds) : ¬ GoodD d := fun g => by
  obtain ⟨ds, e⟩ := g.list
  exact h ds e
theorem bad_lens {rows : List (List Int)} {i k : Nat} (hi : i < rows.length) (hk : k < rows.length) (h : (rows.getD i []).length ≠ (rows.getD k []).length) : ¬ GoodD (dTab rows) := fun g => by
  obtain ⟨W, q⟩ := g.goodR
  exact h ((q.len i hi).trans (q.len k hk).symm)
end Seek
namespace Seek
open PySem L2 PyProof.Rows
def ButS (S : List Addr) (H H' : Hp) : Prop := ∀ b o, b ∉ S → H b = some o → H' b = some o
theorem ButS.refl (S : List Addr) (H : Hp) : ButS S H H := fun _ _ _ e => e
theorem ButS.trans {S : List Addr} {H H1 H2 : Hp} (a : ButS S H H1) (b : ButS S H1 H2) : ButS S H H2 := fun c o n e => b c o n (a c o n e)
theorem Same.butS {S : List Addr} {H H' : Hp} (a : Same H H') : ButS S H H' := fun c o _ e => a c o e
theorem But.butS {s : Addr} {H H' : Hp} (a : But s H H') : ButS [s] H H' := fun c o n e => a c o (fun z => n (by rw [z]; exact List.mem_cons_self)) e
theorem ButS.but {s : Addr} {H H' : Hp} (a : ButS [s] H H') : But s H H' := fun c o n e => a c o (fun z => n (by simpa using z)) e
end Seek
namespace Seek
open PySem L2 PyProof.Rows
/-! ### expressions by what their values are, not which: B the things that others change, and what is held of them -/
structure Ab where
  S : List Addr
  J : Hp → Prop
  same : ∀ {H H' : Hp}, J H → Same H H' → J H'
  fresh : ∀ {H : Hp} {a : Addr}, J H → H a = none → a ∉ S
abbrev Ty := V → Hp → Prop
def Th (B : Ab) (c k : Nat) : Ty := fun x H => ∃ d, RdS B.S H x d ∧ Sz c k d
def Li (B : Ab) (lo hi c k : Nat) : Ty := fun v H => ∃ (a : Addr) (xs : List V), v = .ref a ∧ H a = some (.lst xs) ∧ a ∉ B.S ∧ lo ≤ xs.length ∧ xs.length ≤ hi ∧ ∀ y ∈ xs, Th B c k y H
def Iy : Ty := fun v _ => ∃ n : Int, v = .int n
def Ib : Ty := fun v _ => ∃ n : Int, v = .int n ∧ n.natAbs < 10 ^ 40
abbrev TyB := Ab → Ty
abbrev EnB := Ab → L2.St → Hp → Prop
def Stb (A : TyB) : Prop := ∀ B v H H', A B v H → ButS B.S H H' → A B v H'
def StbE (Γ : EnB) : Prop := ∀ B σ H H', Γ B σ H → ButS B.S H H' → Γ B σ H'
abbrev tTh (c k : Nat) : TyB := fun B => Th B c k
abbrev tLi (lo hi c k : Nat) : TyB := fun B => Li B lo hi c k
abbrev tIy : TyB := fun _ => Iy
theorem th_all {B : Ab} {c k : Nat} {H : Hp} : ∀ {xs : List V}, (∀ y ∈ xs, Th B c k y H) → ∃ ds, RdSs B.S H xs ds ∧ ∀ d ∈ ds, Sz c k d
  | [], _ => ⟨[], .nil, fun d hd => nomatch hd⟩
  | x :: xs, h => by
    obtain ⟨d, r, s⟩ := h x (by simp)
    obtain ⟨ds, rs, ss⟩ := th_all (fun y hy => h y (List.mem_cons_of_mem _ hy))
    refine ⟨d :: ds, .cons r rs, fun e he => ?_⟩
    rcases List.mem_cons.mp he with rfl | z
    · exact s
    · exact ss e z
def tA (Γ : EnB) (A : TyB) : TE := fun σ H Q => ∃ B : Ab, Γ B σ H ∧ B.J H ∧ ∀ v H', ButS B.S H H' → B.J H' → A B v H' → Q v H'
structure AE (X : Cx) (Γ : EnB) (e : Expr) (A : TyB) : Prop where
  pe : PE X e (tA Γ A)
def tAs (Γ : EnB) (n : Nat) (A : TyB) : TA := fun σ H Q => ∃ B : Ab, Γ B σ H ∧ B.J H ∧ ∀ vs H', ButS B.S H H' → B.J H' → vs.length = n → (∀ v ∈ vs, A B v H') → Q vs H'
structure AAs (X : Cx) (Γ : EnB) (es : List Expr) (n : Nat) (A : TyB) : Prop where
  pa : PA X es (tAs Γ n A)
section
variable {X : Cx} {Γ : EnB} {e e1 e2 : Expr} {es : List Expr} {A A' : TyB} {pos : Pos} {n : Nat}
theorem pe_imp {t t' : TE} (h : PE X e t) (i : ∀ σ H Q, t' σ H Q → t σ H Q) : PE X e t' := fun pins s σ H Q I q => h pins s σ H Q I (i σ H Q q)
theorem pa_imp {t t' : TA} (h : PA X es t) (i : ∀ σ H Q, t' σ H Q → t σ H Q) : PA X es t' := fun p pins s σ H Q I q => h p pins s σ H Q I (i σ H Q q)
theorem ae_sub (h : AE X Γ e A) (s : ∀ B v H, A B v H → A' B v H) : AE X Γ e A' := ⟨pe_imp h.pe fun _ _ _ ⟨B, g, j, q⟩ => ⟨B, g, j, fun v H' b j' a => q v H' b j' (s _ v H' a)⟩⟩
theorem ae_var {i : Nat} (h : PE X e (tVar i)) (g : ∀ B σ H, Γ B σ H → ∃ v, σ[i]? = some (some v) ∧ A B v H) : AE X Γ e A := ⟨pe_imp h fun σ H Q ⟨B, hg, j, q⟩ => by
  obtain ⟨v, ev, a⟩ := g _ σ H hg
  exact ⟨v, ev, q v H (ButS.refl _ _) j a⟩⟩
theorem ae_c {v : V} (h : PE X e (tC v)) (a : ∀ B H, A B v H) : AE X Γ e A := ⟨pe_imp h fun σ H Q ⟨B, hg, j, q⟩ => q v H (ButS.refl _ _) j (a _ H)⟩
theorem aa_nil : AAs X Γ [] 0 A := ⟨pa_imp pa_nil fun σ H Q ⟨B, hg, j, q⟩ => q [] H (ButS.refl _ _) j rfl fun v hv => nomatch hv⟩
/-- a part of a slice -/
structure AO (X : Cx) (Γ : EnB) (o : Option Expr) : Prop where
  po : PO X o fun σ H Q => ∃ B : Ab, Γ B σ H ∧ B.J H ∧ ∀ i H', ButS B.S H H' → B.J H' → Q i H'
theorem po_imp {o : Option Expr} {t t' : TO} (h : PO X o t) (i : ∀ σ H Q, t' σ H Q → t σ H Q) : PO X o t' := fun pins s σ H Q I q => h pins s σ H Q I (i σ H Q q)
end
section
variable {X : Cx} {Γ : EnB} {es : List Expr} {A : TyB} {n : Nat} {e1 e2 e3 e4 : Expr}
/-- a display of ints -/
def intsOf : List Expr → Option (List Int)
  | [] => some []
  | .Constant (.int i) _ _ :: es => (intsOf es).map (i :: ·)
  | _ => none
/-! literals -/
mutual
def litOf : Nat → Expr → Option PyData
  | 0, _ => none
  | n + 1, e => match e with
    | .Constant .none _ _ => some .none
    | .Constant (.bool b) _ _ => some (.bool b)
    | .Constant (.int i) _ _ => some (.int i)
    | .Constant (.str x) _ _ => some (.str x)
    | .List es _ => (litAll n es).map .list
    | .Tuple es _ _ => (litAll n es).map .tuple
    | .Dict [] [] _ => some (.dict [])
    | _ => none
def litAll : Nat → List Expr → Option (List PyData)
  | 0, _ => none
  | _ + 1, [] => some []
  | n + 1, e :: es => match litOf n e, litAll n es with
    | some d, some ds => some (d :: ds)
    | _, _ => none
end
abbrev tRd (d : PyData) : TyB := fun B v H => RdS B.S H v d
theorem st_rd {d : PyData} : Stb (tRd d) := fun B v H H' r b => r.move (fun c o n e => b c o n e) fun _ n => n
theorem lit_star {n : Nat} {e : Expr} {d : PyData} {env : Env} (h : litOf n e = some d) : starEach (e :: es) env = (false, eval e env) :: starEach es env := by
  cases n with
  | zero => simp [litOf] at h
  | succ n => cases e <;> first | rfl | (simp [litOf] at h)
theorem litAll_len : ∀ (n : Nat) {es : List Expr} {ds : List PyData}, litAll n es = some ds → ds.length ≤ n
  | 0, es, ds, h => by simp [litAll] at h
  | n + 1, [], ds, h => by
    simp only [litAll, Option.some.injEq] at h
    subst h
    exact Nat.zero_le _
  | n + 1, e :: es, ds, h => by
    unfold litAll at h
    split at h
    · rename_i d0 ds0 he hes
      cases h
      have := litAll_len n hes
      simp only [List.length_cons]
      omega
    · cases h
mutual
theorem lit_ok (sg : StbE Γ) : ∀ (n : Nat) {e : Expr} {d : PyData}, n ≤ 1000 → litOf n e = some d → AE X Γ e (tRd d)
  | 0, e, d, _, h => by simp [litOf] at h
  | n + 1, e, d, hn, h => by
    unfold litOf at h
    split at h
    · cases h; exact ae_c pe_non fun _ _ => .non
    · cases h; exact ae_c pe_bl fun _ _ => .bl _
    · cases h; exact ae_c pe_int fun _ _ => .int _
    · cases h; exact ae_c pe_str fun _ _ => .str _
    · rename_i es p
      cases hl : litAll n es with
      | none => rw [hl] at h; cases h
      | some ds =>
        rw [hl] at h
        simp only [Option.map_some, Option.some.injEq] at h
        subst h
        exact ⟨pe_imp (pe_lst (lit_all sg n (by omega) hl)) fun σ H Q ⟨B, hg, j, q⟩ => ⟨B, hg, j, fun vs H1 b1 j1 r1 => ⟨sl6 (by have := litAll_len n hl; have := r1.length; omega), fun p hp => q _ _ (b1.trans (Same.butS (Same.new hp))) (B.same j1 (Same.new hp)) (.lst upd_same (B.fresh j1 hp) (r1.same (Same.new hp)))⟩⟩⟩
    · rename_i es x p
      cases hl : litAll n es with
      | none => rw [hl] at h; cases h
      | some ds =>
        rw [hl] at h
        simp only [Option.map_some, Option.some.injEq] at h
        subst h
        exact ⟨pe_imp (pe_tup (lit_all sg n (by omega) hl)) fun σ H Q ⟨B, hg, j, q⟩ => ⟨B, hg, j, fun vs H1 b1 j1 r1 => ⟨sl6 (by have := litAll_len n hl; have := r1.length; omega), fun p hp => q _ _ (b1.trans (Same.butS (Same.new hp))) (B.same j1 (Same.new hp)) (.tup upd_same (B.fresh j1 hp) (r1.same (Same.new hp)))⟩⟩⟩
    · cases h
      exact ⟨pe_imp pe_dict0 fun σ H Q ⟨B, hg, j, q⟩ p hp => q _ _ (Same.butS (Same.new hp)) (B.same j (Same.new hp)) (.dct upd_same (B.fresh j hp))⟩
    · cases h
theorem lit_all (sg : StbE Γ) : ∀ (n : Nat) {es : List Expr} {ds : List PyData}, n ≤ 1000 → litAll n es = some ds → PA X es (fun σ H Q => ∃ B : Ab, Γ B σ H ∧ B.J H ∧ ∀ vs H', ButS B.S H H' → B.J H' → RdSs B.S H' vs ds → Q vs H')
  | 0, es, ds, _, h => by simp [litAll] at h
  | n + 1, [], ds, _, h => by
    simp only [litAll, Option.some.injEq] at h
    subst h
    exact pa_imp pa_nil fun σ H Q ⟨B, hg, j, q⟩ => q [] H (ButS.refl _ _) j .nil
  | n + 1, e :: es, ds, hn, h => by
    unfold litAll at h
    split at h
    · rename_i d0 ds0 he hes
      cases h
      exact pa_imp (pa_cons (lit_ok sg n (by omega) he).pe (lit_all sg n (by omega) hes) (lit_star he)) fun σ H Q ⟨B, hg, j, q⟩ => ⟨B, hg, j, fun v H1 b1 j1 a1 => ⟨B, sg _ _ _ _ hg b1, j1, fun vs H2 b2 j2 r2 => q (v :: vs) H2 (b1.trans b2) j2 (.cons (st_rd _ _ _ _ a1 b2) r2)⟩⟩
    · cases h
end
theorem sz_of {c k : Nat} {d : PyData} (h : (d.showable && decide (d.shown.length ≤ c) && decide (d.depth ≤ k)) = true) : Sz c k d := by
  simp only [Bool.and_eq_true, decide_eq_true_eq] at h
  exact ⟨h.1.1, h.1.2, h.2⟩
end
theorem at_memV {xs : List V} {v : Int} (h0 : 0 ≤ v) (h1 : v < xs.length) : ∃ x ∈ xs, atI xs v = some x := by
  obtain ⟨k, rfl⟩ : ∃ k : Nat, v = k := ⟨v.toNat, by omega⟩
  have hk : k < xs.length := by omega
  exact ⟨xs[k], List.getElem_mem hk, atI_nat (by simp [hk])⟩
/-! kept apart from a fresh address -/
mutual
theorem rds_avoid {S : List Addr} {H : Hp} {a : Addr} (ha : H a = none) : ∀ {x : V} {d : PyData}, RdS S H x d → RdS (a :: S) H x d
  | _, _, .non => .non
  | _, _, .bl b => .bl b
  | _, _, .int i => .int i
  | _, _, .str x => .str x
  | _, _, .lst e n r => .lst e (by simp only [List.mem_cons, not_or]; exact ⟨ne_of_none e ha, n⟩) (rdss_avoid ha r)
  | _, _, .tup e n r => .tup e (by simp only [List.mem_cons, not_or]; exact ⟨ne_of_none e ha, n⟩) (rdss_avoid ha r)
  | _, _, .dct e n => .dct e (by simp only [List.mem_cons, not_or]; exact ⟨ne_of_none e ha, n⟩)
theorem rdss_avoid {S : List Addr} {H : Hp} {a : Addr} (ha : H a = none) : ∀ {xs : List V} {ds : List PyData}, RdSs S H xs ds → RdSs (a :: S) H xs ds
  | _, _, .nil => .nil
  | _, _, .cons h t => .cons (rds_avoid ha h) (rdss_avoid ha t)
end
end Seek
namespace Seek
open PySem L2 PyProof.Rows
/-! ### expressions by what is true of the data they read as -/
abbrev tD (φ : PyData → Prop) : TyB := fun B v H => ∃ d, RdS B.S H v d ∧ φ d
theorem st_d {φ : PyData → Prop} : Stb (tD φ) := fun B v H H' ⟨d, r, s⟩ b => ⟨d, r.move (fun c o n e => b c o n e) fun _ n => n, s⟩
theorem rdss_but {S : List Addr} {H H' : Hp} {xs : List V} {ds : List PyData} (r : RdSs S H xs ds) (b : ButS S H H') : RdSs S H' xs ds := r.move (fun c o n e => b c o n e) fun _ n => n
def IP (p : Int → Prop) : PyData → Prop := fun d => ∃ n : Int, d = .int n ∧ p n
def LP (φ : PyData → Prop) (lo hi : Nat) : PyData → Prop := fun d => ∃ ds, d = .list ds ∧ lo ≤ ds.length ∧ ds.length ≤ hi ∧ ∀ e ∈ ds, φ e
structure AX (X : Cx) (Γ : EnB) (es : List Expr) (ψ : List PyData → Prop) : Prop where
  pa : PA X es fun σ H Q => ∃ B : Ab, Γ B σ H ∧ B.J H ∧ ∀ vs ds H', ButS B.S H H' → B.J H' → RdSs B.S H' vs ds → ψ ds → Q vs H'
abbrev AU (X : Cx) (Γ : EnB) (es : List Expr) (n : Nat) (φ : PyData → Prop) : Prop := AX X Γ es fun ds => ds.length = n ∧ ∀ e ∈ ds, φ e
section
variable {X : Cx} {Γ : EnB} {e e1 e2 : Expr} {es : List Expr} {φ φ' : PyData → Prop} {ψ : List PyData → Prop} {pos : Pos} {n : Nat}
theorem ad_imp (h : AE X Γ e (tD φ)) (i : ∀ d, φ d → φ' d) : AE X Γ e (tD φ') := ae_sub h fun _ _ _ ⟨d, r, q⟩ => ⟨d, r, i d q⟩
theorem ax_imp {ψ' : List PyData → Prop} (h : AX X Γ es ψ) (i : ∀ d, ψ d → ψ' d) : AX X Γ es ψ' := ⟨pa_imp h.pa fun _ _ _ ⟨B, g, j, q⟩ => ⟨B, g, j, fun vs ds H' b j' r z => q vs ds H' b j' r (i ds z)⟩⟩
theorem ax_nil : AX X Γ [] (· = []) := ⟨pa_imp pa_nil fun σ H Q ⟨B, hg, j, q⟩ => q [] [] H (ButS.refl _ _) j .nil rfl⟩
theorem ax_cons (sg : StbE Γ) (h : AE X Γ e (tD φ)) (hr : AX X Γ es ψ) (hs : starEach (e :: es) X.env = (false, eval e X.env) :: starEach es X.env := by rfl) : AX X Γ (e :: es) (fun ds => ∃ d r, ds = d :: r ∧ φ d ∧ ψ r) :=
  ⟨pa_imp (pa_cons h.pe hr.pa hs) fun σ H Q ⟨B, hg, j, q⟩ => ⟨B, hg, j, fun v H1 b1 j1 a1 => ⟨B, sg _ _ _ _ hg b1, j1, fun vs ds H2 b2 j2 r2 z2 => by
    obtain ⟨d, r, p⟩ := st_d _ _ _ _ a1 b2
    exact q (v :: vs) (d :: ds) H2 (b1.trans b2) j2 (.cons r r2) ⟨d, ds, rfl, p, z2⟩⟩⟩⟩
theorem au_nil : AU X Γ [] 0 φ := ax_imp ax_nil fun d e => by subst e; exact ⟨rfl, fun x h => nomatch h⟩
theorem au_cons (sg : StbE Γ) (h : AE X Γ e (tD φ)) (hr : AU X Γ es n φ) (hs : starEach (e :: es) X.env = (false, eval e X.env) :: starEach es X.env := by rfl) : AU X Γ (e :: es) (n + 1) φ :=
  ax_imp (ax_cons sg h hr hs) fun ds ⟨d, r, e, p, l, f⟩ => by
    subst e
    refine ⟨by rw [List.length_cons, l], fun x hx => ?_⟩
    rcases List.mem_cons.mp hx with z | z
    · rw [z]; exact p
    · exact f x z
theorem ad_tup {x1} (h : AX X Γ es ψ) (hn : ∀ ds, ψ ds → ds.length ≤ 1000) (hφ : ∀ ds, ψ ds → φ (.tuple ds)) : AE X Γ (.Tuple es x1 pos) (tD φ) :=
  ⟨pe_imp (pe_tup h.pa) fun σ H Q ⟨B, hg, j, q⟩ => ⟨B, hg, j, fun vs ds H1 b1 j1 r1 z1 => ⟨by rw [r1.length]; exact sl6 (hn ds z1), fun p hp =>
    q _ _ (b1.trans (Same.butS (Same.new hp))) (B.same j1 (Same.new hp)) ⟨.tuple ds, .tup upd_same (B.fresh j1 hp) (r1.same (Same.new hp)), hφ ds z1⟩⟩⟩⟩
theorem ad_lst (h : AX X Γ es ψ) (hn : ∀ ds, ψ ds → ds.length ≤ 1000) (hφ : ∀ ds, ψ ds → φ (.list ds)) : AE X Γ (.List es pos) (tD φ) :=
  ⟨pe_imp (pe_lst h.pa) fun σ H Q ⟨B, hg, j, q⟩ => ⟨B, hg, j, fun vs ds H1 b1 j1 r1 z1 => ⟨by rw [r1.length]; exact sl6 (hn ds z1), fun p hp =>
    q _ _ (b1.trans (Same.butS (Same.new hp))) (B.same j1 (Same.new hp)) ⟨.list ds, .lst upd_same (B.fresh j1 hp) (r1.same (Same.new hp)), hφ ds z1⟩⟩⟩⟩
theorem ad_disp (h : AU X Γ es n φ) (hn : n ≤ 1000 := by decide) : AE X Γ (.List es pos) (tD (LP φ n n)) := ad_lst h (fun ds z => by rw [z.1]; exact hn) fun ds z => ⟨ds, rfl, by rw [z.1]; exact Nat.le_refl _, by rw [z.1]; exact Nat.le_refl _, z.2⟩
theorem rdss_app {S : List Addr} {H : Hp} : ∀ {xs ys : List V} {ds es : List PyData}, RdSs S H xs ds → RdSs S H ys es → RdSs S H (xs ++ ys) (ds ++ es)
  | _, _, _, _, .nil, h => h
  | _, _, _, _, .cons r t, h => .cons r (rdss_app t h)
theorem ad_cat {φ1 φ2 : PyData → Prop} (sg : StbE Γ) (h1 : AE X Γ e1 (tD φ1)) (h2 : AE X Γ e2 (tD φ2)) (i1 : ∀ d, φ1 d → ∃ ds, d = .list ds ∧ ds.length ≤ 500) (i2 : ∀ d, φ2 d → ∃ ds, d = .list ds ∧ ds.length ≤ 500) (i : ∀ a b, φ1 (.list a) → φ2 (.list b) → φ (.list (a ++ b))) : AE X Γ (.BinOp e1 .Add e2 pos) (tD φ) :=
  ⟨pe_imp (pe_op op_cat h1.pe h2.pe) fun σ H Q ⟨B, hg, j, q⟩ => ⟨B, hg, j, fun v H1 b1 j1 a1 => ⟨B, sg _ _ _ _ hg b1, j1, fun u H2 b2 j2 a2 => by
    obtain ⟨d, r, p⟩ := st_d _ _ _ _ a1 b2
    obtain ⟨d2, r2, p2⟩ := a2
    obtain ⟨ds, rfl, n1⟩ := i1 d p
    obtain ⟨ds2, rfl, n2⟩ := i2 d2 p2
    cases r with
    | @lst a xs _ ea na ra =>
      cases r2 with
      | @lst b ys _ eb nb rb =>
        refine ⟨a, b, xs, ys, rfl, rfl, ea, eb, sl6 (by rw [ra.length, rb.length]; omega), fun p hp => ?_⟩
        exact q _ _ ((b1.trans b2).trans (Same.butS (Same.new hp))) (B.same j2 (Same.new hp)) ⟨.list (ds ++ ds2), .lst upd_same (B.fresh j2 hp) ((rdss_app ra rb).same (Same.new hp)), i _ _ ‹_› ‹_›⟩⟩⟩⟩
theorem ad_more {lo1 hi1 lo2 hi2 : Nat} (sg : StbE Γ) (h1 : AE X Γ e1 (tD (LP φ lo1 hi1))) (h2 : AE X Γ e2 (tD (LP φ lo2 hi2))) (k1 : hi1 ≤ 500 := by decide) (k2 : hi2 ≤ 500 := by decide) : AE X Γ (.BinOp e1 .Add e2 pos) (tD (LP φ (lo1 + lo2) (hi1 + hi2))) :=
  ad_cat sg h1 h2 (fun d ⟨ds, e, _, l, _⟩ => ⟨ds, e, by omega⟩) (fun d ⟨ds, e, _, l, _⟩ => ⟨ds, e, by omega⟩) fun a b ⟨ds, e, l1, l2, f⟩ ⟨ds2, e2, m1, m2, g⟩ => by
    injection e with e
    injection e2 with e2
    subst e e2
    refine ⟨_, rfl, by rw [List.length_append]; omega, by rw [List.length_append]; omega, fun x hx => ?_⟩
    rcases List.mem_append.mp hx with z | z
    · exact f x z
    · exact g x z
theorem ad_var {i : Nat} (h : PE X e (tVar i)) (g : ∀ B σ H, Γ B σ H → ∃ v, σ[i]? = some (some v) ∧ tD φ B v H) : AE X Γ e (tD φ) := ae_var h g
theorem ad_lit (d : PyData) (sg : StbE Γ) (h : litOf 40 e = some d) (hz : φ d) : AE X Γ e (tD φ) := ae_sub (lit_ok sg 40 (by decide) h) fun B v H r => ⟨d, r, hz⟩
theorem ad_add {p q : Int → Prop} (sg : StbE Γ) (h1 : AE X Γ e1 (tD (IP p))) (h2 : AE X Γ e2 (tD (IP q))) : AE X Γ (.BinOp e1 .Add e2 pos) (tD (IP fun z => ∃ a b, p a ∧ q b ∧ z = a + b)) :=
  ⟨pe_imp (pe_op o_add h1.pe h2.pe) fun σ H Q ⟨B, hg, j, q⟩ => ⟨B, hg, j, fun v H1 b1 j1 a1 => ⟨B, sg _ _ _ _ hg b1, j1, fun u H2 b2 j2 a2 => by
    obtain ⟨_, r1, i, rfl, p1⟩ := a1
    obtain ⟨_, r2, k, rfl, p2⟩ := a2
    cases r1
    cases r2
    exact ⟨i, k, rfl, rfl, q _ _ (b1.trans b2) j2 ⟨_, .int _, _, rfl, i, k, p1, p2, rfl⟩⟩⟩⟩⟩
theorem ad_sub {p q : Int → Prop} (sg : StbE Γ) (h1 : AE X Γ e1 (tD (IP p))) (h2 : AE X Γ e2 (tD (IP q))) : AE X Γ (.BinOp e1 .Sub e2 pos) (tD (IP fun z => ∃ a b, p a ∧ q b ∧ z = a - b)) :=
  ⟨pe_imp (pe_op o_sub h1.pe h2.pe) fun σ H Q ⟨B, hg, j, q⟩ => ⟨B, hg, j, fun v H1 b1 j1 a1 => ⟨B, sg _ _ _ _ hg b1, j1, fun u H2 b2 j2 a2 => by
    obtain ⟨_, r1, i, rfl, p1⟩ := a1
    obtain ⟨_, r2, k, rfl, p2⟩ := a2
    cases r1
    cases r2
    exact ⟨i, k, rfl, rfl, q _ _ (b1.trans b2) j2 ⟨_, .int _, _, rfl, i, k, p1, p2, rfl⟩⟩⟩⟩⟩
/-- an item of a list of things -/
theorem ad_item {lo hi : Nat} (h1 : AE X Γ e1 (tD (LP φ lo hi))) {t2 : TE} (h2 : PE X e2 t2) (pl : PlainIx e2) (g : ∀ B σ H Q, Γ B σ H → B.J H → (∀ (i : Int) H', 0 ≤ i → i < lo → ButS B.S H H' → B.J H' → Q (.int i) H') → t2 σ H Q) (sg : StbE Γ) : AE X Γ (.Subscript e1 e2 pos) (tD φ) :=
  ⟨pe_imp (pe_ix ix_list h1.pe h2 pl) fun σ H Q ⟨B, hg, j, q⟩ => ⟨B, hg, j, fun v H1 b1 j1 a1 => g B σ H1 _ (sg _ _ _ _ hg b1) j1 fun i H2 i0 i1 b2 j2 => by
    obtain ⟨_, r, ds, rfl, l1, l2, f⟩ := st_d _ _ _ _ a1 b2
    cases r with
    | @lst a xs _ ea na ra =>
      obtain ⟨x, hx, hat⟩ := at_memV (xs := xs) i0 (by rw [ra.length]; omega)
      obtain ⟨ms, e1, e2, hm⟩ := ra.pairs
      subst e1 e2
      obtain ⟨m, hm1, hm2⟩ := List.mem_map.mp hx
      subst hm2
      exact ⟨a, _, i, m.1, rfl, rfl, SqL.of ea, hat, q _ _ (b1.trans b2) j2 ⟨m.2, hm m hm1, f m.2 (List.mem_map.mpr ⟨m, hm1, rfl⟩)⟩⟩⟩⟩
end
end Seek
namespace Seek
open PySem L2 PyProof.Rows
/-! ### rules for every value of what is drawn -/
/-! ### expressions whose data is known -/
abbrev tE (d : PyData) : TyB := tD (· = d)
def cutD (xs : List PyData) (lo hi : Option Int) : List PyData := (xs.drop (HT.sIx xs.length 0 lo)).take (HT.sIx xs.length xs.length hi - HT.sIx xs.length 0 lo)
theorem rdss_drop {S : List Addr} {H : Hp} : ∀ {xs : List V} {ds : List PyData} (n : Nat), RdSs S H xs ds → RdSs S H (xs.drop n) (ds.drop n)
  | _, _, 0, h => h
  | _, _, n + 1, .nil => .nil
  | _, _, n + 1, .cons r t => rdss_drop n t
theorem rdss_take {S : List Addr} {H : Hp} : ∀ {xs : List V} {ds : List PyData} (n : Nat), RdSs S H xs ds → RdSs S H (xs.take n) (ds.take n)
  | _, _, 0, h => .nil
  | _, _, n + 1, .nil => .nil
  | _, _, n + 1, .cons r t => .cons r (rdss_take n t)
theorem rdss_cut {S : List Addr} {H : Hp} {xs : List V} {ds : List PyData} (r : RdSs S H xs ds) (lo hi : Option Int) : RdSs S H (cutV xs lo hi) (cutD ds lo hi) := by
  unfold cutV cutD
  rw [r.length]
  exact rdss_take _ (rdss_drop _ r)
theorem rdss_at {S : List Addr} {H : Hp} : ∀ {xs : List V} {ds : List PyData}, RdSs S H xs ds → ∀ {k : Nat} {d : PyData}, ds[k]? = some d → ∃ x, xs[k]? = some x ∧ RdS S H x d
  | _, _, .nil, k, d, h => by simp at h
  | _, _, .cons r t, 0, d, h => by
    simp only [List.getElem?_cons_zero, Option.some.injEq] at h
    subst h
    exact ⟨_, rfl, r⟩
  | _, _, .cons r t, k + 1, d, h => rdss_at t (by simpa using h)
structure AOx (X : Cx) (Γ : EnB) (o : Option Expr) (i : Option Int) : Prop where
  po : PO X o fun σ H Q => ∃ B : Ab, Γ B σ H ∧ B.J H ∧ ∀ H', ButS B.S H H' → B.J H' → Q i H'
section
variable {X : Cx} {Γ : EnB} {e e1 e2 : Expr} {es : List Expr} {φ φ' : PyData → Prop} {pos : Pos} {n : Nat} {d d1 d2 : PyData} {ds es' : List PyData}
theorem ax_none : AOx X Γ none none := ⟨po_imp po_none fun σ H Q ⟨B, hg, j, q⟩ => q H (ButS.refl _ _) j⟩
theorem ax_some {i : Int} (h : AE X Γ e (tE (.int i))) : AOx X Γ (some e) (some i) := ⟨po_imp (po_some h.pe) fun σ H Q ⟨B, hg, j, q⟩ => ⟨B, hg, j, fun v H1 b1 j1 a1 => by
  obtain ⟨_, r, rfl⟩ := a1
  cases r
  exact ⟨i, rfl, q H1 b1 j1⟩⟩⟩
theorem ad_slice {a b : Option Expr} {lo hi : Option Int} {p2 : Pos} (sg : StbE Γ) (h : AE X Γ e (tE (.list ds))) (ha : AOx X Γ a lo) (hb : AOx X Γ b hi) : AE X Γ (.Subscript e (.Slice a b none p2) pos) (tE (.list (cutD ds lo hi))) :=
  ⟨pe_imp (pe_slice sl_list h.pe ha.po hb.po) fun σ H Q ⟨B, hg, j, q⟩ => ⟨B, hg, j, fun v H1 b1 j1 a1 => ⟨B, sg _ _ _ _ hg b1, j1, fun H2 b2 j2 => ⟨B, sg _ _ _ _ hg (b1.trans b2), j2, fun H3 b3 j3 => by
    obtain ⟨_, r, rfl⟩ := st_d _ _ _ _ a1 (b2.trans b3)
    cases r with
    | @lst a xs _ ea na ra =>
      refine ⟨a, xs, rfl, SqL.of ea, fun p hp => ?_⟩
      exact q _ _ ((b1.trans (b2.trans b3)).trans (Same.butS (Same.new hp))) (B.same j3 (Same.new hp)) ⟨_, .lst upd_same (B.fresh j3 hp) ((rdss_cut ra lo hi).same (Same.new hp)), rfl⟩⟩⟩⟩⟩
theorem ad_catE (sg : StbE Γ) (h1 : AE X Γ e1 (tE (.list ds))) (h2 : AE X Γ e2 (tE (.list es'))) (n1 : ds.length ≤ 500) (n2 : es'.length ≤ 500) : AE X Γ (.BinOp e1 .Add e2 pos) (tE (.list (ds ++ es'))) :=
  ad_cat sg h1 h2 (fun d h => ⟨ds, h, n1⟩) (fun d h => ⟨es', h, n2⟩) fun a b ha hb => by
    injection ha with ha
    injection hb with hb
    rw [ha, hb]
theorem ad_ixE {i : Int} {k : Nat} (sg : StbE Γ) (h1 : AE X Γ e1 (tE (.list ds))) (h2 : AE X Γ e2 (tE (.int i))) (pl : PlainIx e2) (hk : ixN ds.length i = some k) (hd : ds[k]? = some d) : AE X Γ (.Subscript e1 e2 pos) (tE d) :=
  ⟨pe_imp (pe_ix ix_list h1.pe h2.pe pl) fun σ H Q ⟨B, hg, j, q⟩ => ⟨B, hg, j, fun v H1 b1 j1 a1 => ⟨B, sg _ _ _ _ hg b1, j1, fun u H2 b2 j2 a2 => by
    obtain ⟨_, r, rfl⟩ := st_d _ _ _ _ a1 b2
    obtain ⟨_, r2, rfl⟩ := a2
    cases r2
    cases r with
    | @lst a xs _ ea na ra =>
      obtain ⟨x, hx, rx⟩ := rdss_at ra hd
      refine ⟨a, xs, i, x, rfl, rfl, SqL.of ea, ?_, q _ _ (b1.trans b2) j2 ⟨_, rx, rfl⟩⟩
      unfold atI
      rw [ra.length, hk]
      exact hx⟩⟩⟩
theorem ad_tupleOf (h : AE X Γ e (tE (.list ds))) {p1 : Pos} (htu : X.mg "tuple" = none) (hg : Gl X "tuple" := by rfl) (he : starEach [e] X.env = (false, eval e X.env) :: starEach [] X.env := by rfl) (hpl : (backTo pos (starEach ([] : List Expr) X.env)).any (·.1) = false := by rfl) : AE X Γ (.Call (.Name "tuple" p1) [e] [] pos) (tE (.tuple ds)) :=
  ⟨pe_imp (pe_t call_tuple_of htu boot_tuple (pa_cons h.pe pa_nil he) hg (by decide) (by decide) he hpl) fun σ H Q ⟨B, hg, j, q⟩ => ⟨B, hg, j, fun v H1 b1 j1 a1 => by
    obtain ⟨_, r, rfl⟩ := a1
    cases r with
    | @lst a xs _ ea na ra => exact ⟨a, xs, rfl, .inl ⟨SqL.of ea, fun l hl => q _ _ (b1.trans (Same.butS (Same.new hl))) (B.same j1 (Same.new hl)) ⟨_, .tup upd_same (B.fresh j1 hl) (ra.same (Same.new hl)), rfl⟩⟩⟩⟩⟩
theorem ad_intE {i : Int} (h : PE X e (tC (.int i))) : AE X Γ e (tE (.int i)) := ae_c h fun _ _ => ⟨_, .int i, rfl⟩
theorem ad_addE {i k : Int} (sg : StbE Γ) (h1 : AE X Γ e1 (tE (.int i))) (h2 : AE X Γ e2 (tE (.int k))) : AE X Γ (.BinOp e1 .Add e2 pos) (tE (.int (i + k))) :=
  ⟨pe_imp (pe_op o_add h1.pe h2.pe) fun σ H Q ⟨B, hg, j, q⟩ => ⟨B, hg, j, fun v H1 b1 j1 a1 => ⟨B, sg _ _ _ _ hg b1, j1, fun u H2 b2 j2 a2 => by
    obtain ⟨_, r1, rfl⟩ := a1
    obtain ⟨_, r2, rfl⟩ := a2
    cases r1
    cases r2
    exact ⟨i, k, rfl, rfl, q _ _ (b1.trans b2) j2 ⟨_, .int _, rfl⟩⟩⟩⟩⟩
theorem ad_subE {i k : Int} (sg : StbE Γ) (h1 : AE X Γ e1 (tE (.int i))) (h2 : AE X Γ e2 (tE (.int k))) : AE X Γ (.BinOp e1 .Sub e2 pos) (tE (.int (i - k))) :=
  ⟨pe_imp (pe_op o_sub h1.pe h2.pe) fun σ H Q ⟨B, hg, j, q⟩ => ⟨B, hg, j, fun v H1 b1 j1 a1 => ⟨B, sg _ _ _ _ hg b1, j1, fun u H2 b2 j2 a2 => by
    obtain ⟨_, r1, rfl⟩ := a1
    obtain ⟨_, r2, rfl⟩ := a2
    cases r1
    cases r2
    exact ⟨i, k, rfl, rfl, q _ _ (b1.trans b2) j2 ⟨_, .int _, rfl⟩⟩⟩⟩⟩
theorem ad_negE {i : Int} (h : AE X Γ e (tE (.int i))) : AE X Γ (.UnaryOp .USub e pos) (tE (.int (-i))) := ⟨pe_imp (pe_un o_neg h.pe) fun σ H Q ⟨B, hg, j, q⟩ => ⟨B, hg, j, fun v H1 b1 j1 a1 => by
  obtain ⟨_, r1, rfl⟩ := a1
  cases r1
  exact ⟨i, rfl, q _ _ b1 j1 ⟨_, .int _, rfl⟩⟩⟩⟩
/-- n copies of a list of things -/
theorem ad_repE {i : Int} (sg : StbE Γ) (h1 : AE X Γ e1 (tD (LP φ 1 1))) (h2 : AE X Γ e2 (tE (.int i))) (h0 : 0 ≤ i) (hm : i ≤ 100) : AE X Γ (.BinOp e1 .Mult e2 pos) (tD (LP φ i.toNat i.toNat)) :=
  ⟨pe_imp (pe_op op_rep h1.pe h2.pe) fun σ H Q ⟨B, hg, j, q⟩ => ⟨B, hg, j, fun v H1 b1 j1 a1 => ⟨B, sg _ _ _ _ hg b1, j1, fun u H2 b2 j2 a2 => by
    obtain ⟨_, r, ds, rfl, l1, l2, f⟩ := st_d _ _ _ _ a1 b2
    obtain ⟨_, r2, rfl⟩ := a2
    cases r2
    cases r with
    | @lst a xs _ ea na ra =>
      have hl := ra.length
      match xs, ds, ra with
      | [x], [d], .cons rx .nil =>
        refine ⟨a, i, _, rfl, rfl, ea, by omega, by omega, by simp only [List.length_singleton, Nat.one_mul]; exact sl6 (by omega), fun p hp => ?_⟩
        have hfl : ∀ m : Nat, RdSs B.S H2 ((List.replicate m [x]).flatten) (List.replicate m d) := fun m => by
          induction m with
          | zero => exact .nil
          | succ m ih => exact .cons rx ih
        refine q _ _ ((b1.trans b2).trans (Same.butS (Same.new hp))) (B.same j2 (Same.new hp)) ⟨_, .lst upd_same (B.fresh j2 hp) ((hfl i.toNat).same (Same.new hp)), _, rfl, by simp, by simp, fun e he => ?_⟩
        rw [List.eq_of_mem_replicate he]
        exact f d (by simp)
      | [], [], _ => simp at l1
      | _ :: _ :: _, _ :: _ :: _, _ => simp at l2⟩⟩⟩
end
/-- a name's thing -/
def Vr (B : Ab) (σ : L2.St) (H : Hp) (i : Nat) (d : PyData) : Prop := ∃ v, σ[i]? = some (some v) ∧ RdS B.S H v d
theorem Vr.but {B : Ab} {σ : L2.St} {H H' : Hp} {i : Nat} {d : PyData} (h : Vr B σ H i d) (b : ButS B.S H H') : Vr B σ H' i d := let ⟨v, e, r⟩ := h; ⟨v, e, r.move (fun c o n e => b c o n e) fun _ n => n⟩
theorem ad_vr {X : Cx} {Γ : EnB} {e : Expr} {i : Nat} {d : PyData} (h : PE X e (tVar i)) (g : ∀ B σ H, Γ B σ H → Vr B σ H i d) : AE X Γ e (tE d) := ae_var h fun B σ H q => let ⟨v, ev, r⟩ := g B σ H q; ⟨v, ev, d, r, rfl⟩
end Seek
namespace Seek
open PySem L2 PyProof.Rows
def abS (s D : Addr) : Ab := ⟨[s], fun H => StoreOk H s D, fun h sm => h.same sm, fun h n => by
  simp only [List.mem_singleton]
  exact fun z => h.ne n z.symm⟩
/-- the store's things, and names whose data is known -/
def EnvD (st D : Addr) (l : List (Nat × PyData)) : EnB := fun B σ H => B = abS st D ∧ σ[0]? = some (some (.ref st)) ∧ ∀ x ∈ l, Vr B σ H x.1 x.2
theorem st_env {st D : Addr} {l : List (Nat × PyData)} : StbE (EnvD st D l) := fun _ _ _ _ ⟨h1, h2, h3⟩ b => ⟨h1, h2, fun x hx => (h3 x hx).but b⟩
section
variable {X : Cx} {Γ : EnB} {st D : Addr} {l : List (Nat × PyData)} {e : Expr} {es : List Expr} {pos : Pos} {d : PyData} {ds : List PyData} {i : Nat}
theorem ad_env (h : PE X e (tVar i)) (hm : (i, d) ∈ l) : AE X (EnvD st D l) e (tE d) := ad_vr h fun B σ H q => q.2.2 _ hm
theorem ax_consE (sg : StbE Γ) (h : AE X Γ e (tE d)) (hr : AX X Γ es (· = ds)) (hs : starEach (e :: es) X.env = (false, eval e X.env) :: starEach es X.env := by rfl) : AX X Γ (e :: es) (· = d :: ds) := ax_imp (ax_cons sg h hr hs) fun z ⟨a, b, e1, e2, e3⟩ => by rw [e1, e2, e3]
theorem ad_lstE (h : AX X Γ es (· = ds)) (hn : ds.length ≤ 1000) : AE X Γ (.List es pos) (tE (.list ds)) := ad_lst h (fun z e => by rw [e]; exact hn) fun z e => by rw [e]
theorem ad_litE (sg : StbE Γ) (h : litOf 40 e = some d) : AE X Γ e (tE d) := ad_lit d sg h rfl
end
theorem cutD_to {ds : List PyData} {p : Nat} (h : p ≤ ds.length) : cutD ds none (some (p : Int)) = ds.take p := by
  unfold cutD
  rw [HT.sIx_none, HT.sIx_nat, List.drop_zero, Nat.sub_zero, Nat.min_eq_left h]
theorem cutD_from {ds : List PyData} {p : Nat} : cutD ds (some (p : Int)) none = ds.drop p := by
  unfold cutD
  rw [HT.sIx_none, HT.sIx_nat]
  by_cases h : p ≤ ds.length
  · rw [Nat.min_eq_left h, List.take_of_length_le (by rw [List.length_drop]; omega)]
  · rw [Nat.min_eq_right (by omega), List.drop_of_length_le (Nat.le_refl _), List.drop_of_length_le (by omega)]
    simp
/-- a row with another thing at a place -/
def setD (h : List Int) (p : Nat) (d : PyData) : PyData := .list (((h.map PyData.int).take p ++ [d]) ++ (h.map PyData.int).drop (p + 1))
theorem setD_int {h : List Int} {p : Nat} {v : Int} (hp : p < h.length) : setD h p (.int v) = dRow (h.set p v) := by
  unfold setD dRow
  rw [List.set_eq_take_append_cons_drop, if_pos hp]
  simp
theorem setD_odd {h : List Int} {p : Nat} {d : PyData} (hd : isIntD d = false) : rowD (setD h p d) = false := by
  unfold setD
  rw [rowD_list]
  have : (((h.map PyData.int).take p ++ [d]) ++ (h.map PyData.int).drop (p + 1)).all isIntD = false := by
    rw [List.all_eq_false]
    exact ⟨d, by simp, by rw [hd]; simp⟩
  rw [this, Bool.and_false]
theorem sz_dRow {h : List Int} (hl : h.length ≤ 8) (hb : ∀ n ∈ h, n.natAbs < 10 ^ 40) : Sz 400 1 (dRow h) := by
  refine (sz_list (c := 41) (k := 0) (n := 8) (fun e he => ?_) (by rw [List.length_map]; exact hl)).mono (by decide) (by decide)
  obtain ⟨n, hn, rfl⟩ := List.mem_map.mp he
  exact sz_int (hb n hn)
theorem sz_setD {h : List Int} {p : Nat} {d : PyData} (hl : h.length ≤ 6) (hb : ∀ n ∈ h, n.natAbs < 10 ^ 40) (hd : Sz 41 1 d) : Sz 400 2 (setD h p d) := by
  refine (sz_list (c := 41) (k := 1) (n := 8) (fun e he => ?_) ?_).mono (by decide) (by decide)
  · simp only [List.mem_append, List.mem_singleton] at he
    have : ∀ e ∈ h.map PyData.int, Sz 41 1 e := fun e he => by
      obtain ⟨n, hn, rfl⟩ := List.mem_map.mp he
      exact (sz_int (hb n hn)).mono (by decide) (by decide)
    rcases he with (h1 | h1) | h1
    · exact this e (List.mem_of_mem_take h1)
    · rw [h1]; exact hd
    · exact this e (List.mem_of_mem_drop h1)
  · simp only [List.length_append, List.length_take, List.length_drop, List.length_map, List.length_singleton]
    omega
theorem ad_setE {X : Cx} {Γ : EnB} {eN eN' eP eP' eO e1 : Expr} {h : List Int} {p : Nat} {o : PyData} {q1 q2 q3 q4 q6 q7 q8 q9 : Pos} (sg : StbE Γ) (hN : AE X Γ eN (tE (dRow h))) (hP : AE X Γ eP (tE (.int (p : Nat)))) (hO : AE X Γ eO (tE o)) (hN' : AE X Γ eN' (tE (dRow h))) (hP' : AE X Γ eP' (tE (.int (p : Nat)))) (h1 : PE X e1 (tC (.int 1))) (hl : h.length ≤ 6) (hp : p < h.length)
    (hs : starEach [eO] X.env = (false, eval eO X.env) :: starEach [] X.env := by rfl) :
    AE X Γ (.BinOp (.BinOp (.Subscript eN (.Slice none (some eP) none q1) q2) .Add (.List [eO] q3) q4) .Add (.Subscript eN' (.Slice (some (.BinOp eP' .Add e1 q6)) none none q7) q8) q9) (tE (setD h p o)) := by
  have z := ad_catE (pos := q9) sg (ad_catE (pos := q4) sg (ad_slice (pos := q2) (p2 := q1) sg hN ax_none (ax_some hP)) (ad_lstE (pos := q3) (ax_consE sg hO ax_nil hs) (by simp)) (by
    rw [cutD_to (by rw [List.length_map]; omega), List.length_take, List.length_map]; omega) (by simp)) (ad_slice (pos := q8) (p2 := q7) sg hN' (ax_some (ad_addE (pos := q6) sg hP' (ad_intE h1))) ax_none) (by
    rw [cutD_to (by rw [List.length_map]; omega), List.length_append, List.length_take, List.length_map, List.length_singleton]; omega) (by
    rw [show ((p : Nat) : Int) + 1 = ((p + 1 : Nat) : Int) by omega, cutD_from, List.length_drop, List.length_map]; omega)
  rw [cutD_to (by rw [List.length_map]; omega), show ((p : Nat) : Int) + 1 = ((p + 1 : Nat) : Int) by omega, cutD_from] at z
  exact z
/-- a thing that is no row of the table in the r-th row's place -/
def BL (rows : List (List Int)) (r : Nat) (d : PyData) : Prop := ¬ GoodD (putD rows r d) ∧ Sz 1000 4 d
end Seek
namespace Seek
open PySem L2 PyProof.Rows
section
variable {P : Program} {w : World} {K : PySem.W.Frag} {mg : Str → Option Value} {base : Heap}
abbrev ntN : List Str := ["store", "table", "row", "place", "numbers", "odd", "bent", "high", "low", "some", "wholes", "to", "made", "one", "wide"]
theorem sc_noTab : FnScope ntN ["store", "table"] (defScope dNoTable) := ⟨rfl, rfl, rfl, by decide +kernel, rfl, by decide +kernel, by decide +kernel⟩
def oddD : List PyData := [.bool true, .bool false, .none, .str "1", .list [.int 1], .tuple [.int 1], .dict [], .str ""]
theorem ixN_last {n : Nat} (h : 1 ≤ n) : ixN n (-1) = some (n - 1) := by
  unfold ixN
  rw [if_neg (by decide), if_pos (by omega)]
  congr 1
  omega
theorem ixN_nat {n k : Nat} (h : k < n) : ixN n (k : Int) = some k := by
  unfold ixN
  rw [if_pos (by omega), if_pos (by omega)]
  congr 1
theorem ad_cast {X : Cx} {Γ : EnB} {e : Expr} {d d' : PyData} (h : AE X Γ e (tE d)) (q : d = d') : AE X Γ e (tE d') := by subst q; exact h
theorem ps_w1 {X : Cx} {s : Stmt} {α : Type} {C : α → Prop} {t : α → TS} (h : ∀ a, C a → PS X s (t a)) : PS X s (fun E σ H => ∃ a, C a ∧ t a E σ H) := fun pins s' σ H D I ⟨a, c, q⟩ => h a c pins s' σ H D I q
theorem ps_w2 {X : Cx} {s : Stmt} {α β : Type} {C : α → β → Prop} {t : α → β → TS} (h : ∀ a b, C a b → PS X s (t a b)) : PS X s (fun E σ H => ∃ a b, C a b ∧ t a b E σ H) := fun pins s' σ H D I ⟨a, b, c, q⟩ => h a b c pins s' σ H D I q
theorem ps_w3 {X : Cx} {s : Stmt} {α β γ : Type} {C : α → β → γ → Prop} {t : α → β → γ → TS} (h : ∀ a b c, C a b c → PS X s (t a b c)) : PS X s (fun E σ H => ∃ a b c, C a b c ∧ t a b c E σ H) := fun pins s' σ H D I ⟨a, b, c, z, q⟩ => h a b c z pins s' σ H D I q
/-- the first statements of _law_no_table: each for all that is drawn -/
structure NtHead (X : Cx) (st D : Addr) (rows : List (List Int)) (W : Nat) : Prop where
  s2 : PS X ((defBody dNoTable).getD 2 (.Pass ⟨0, 0, 0, 0⟩)) (fun E σ H => ∃ r : Nat, r < rows.length ∧ tAsg (tA (EnvD st D [(1, dTab rows), (2, .int (r : Nat))]) (tE (dRow (rows.getD r [])))) (gName 4) E σ H)
  s4 : PS X ((defBody dNoTable).getD 4 (.Pass ⟨0, 0, 0, 0⟩)) (fun E σ H => ∃ (r p : Nat) (o : PyData), (r < rows.length ∧ p < W) ∧ tAsg (tA (EnvD st D [(3, .int (p : Nat)), (4, dRow (rows.getD r [])), (5, o)]) (tE (setD (rows.getD r []) p o))) (gName 6) E σ H)
  s5 : PS X ((defBody dNoTable).getD 5 (.Pass ⟨0, 0, 0, 0⟩)) (fun E σ H => ∃ (r p : Nat), (r < rows.length ∧ p < W) ∧ tAsg (tA (EnvD st D [(1, dTab rows), (3, .int (p : Nat)), (4, dRow (rows.getD r []))]) (tE (setD (rows.getD r []) p (.int ((rows.getD (rows.length - 1) []).getD (W - 1) 0 + 1))))) (gName 7) E σ H)
  s6 : PS X ((defBody dNoTable).getD 6 (.Pass ⟨0, 0, 0, 0⟩)) (fun E σ H => ∃ (r p : Nat), (r < rows.length ∧ p < W) ∧ tAsg (tA (EnvD st D [(1, dTab rows), (3, .int (p : Nat)), (4, dRow (rows.getD r []))]) (tE (setD (rows.getD r []) p (.int ((rows.getD 0 []).getD 0 0 - 1))))) (gName 8) E σ H)
  s7 : PS X ((defBody dNoTable).getD 7 (.Pass ⟨0, 0, 0, 0⟩)) (fun E σ H => ∃ (r : Nat) (b : PyData), (r < rows.length) ∧ tAsg (tA (EnvD st D [(1, dTab rows), (4, dRow (rows.getD r [])), (6, b)]) (tE (.list [b, b, b, dRow ((rows.getD r []).drop 1), dRow (rows.getD r [] ++ [(rows.getD (rows.length - 1) []).getD (W - 1) 0 + 1])]))) (gName 9) E σ H)
  s8 : PS X ((defBody dNoTable).getD 8 (.Pass ⟨0, 0, 0, 0⟩)) (fun E σ H => ∃ (r : Nat) (ds : List PyData), (r < rows.length ∧ ds.length ≤ 20) ∧ tAsg (tA (EnvD st D [(4, dRow (rows.getD r [])), (9, .list ds)]) (tE (.list (ds ++ [.list [], .tuple ((rows.getD r []).map PyData.int), .none, .int 5, .str "", .dict []])))) (gName 9) E σ H)
theorem getD_row {rows : List (List Int)} {r : Nat} (h : r < rows.length) : (rows.map dRow)[r]? = some (dRow (rows.getD r [])) := by
  rw [List.getElem?_map, List.getElem?_eq_getElem h, List.getD_eq_getElem?_getD, List.getElem?_eq_getElem h]
  rfl
theorem getD_num {h : List Int} {k : Nat} (hk : k < h.length) : (h.map PyData.int)[k]? = some (.int (h.getD k 0)) := by
  rw [List.getElem?_map, List.getElem?_eq_getElem hk, List.getD_eq_getElem?_getD, List.getElem?_eq_getElem hk]
  rfl
set_option maxHeartbeats 32000000 in
theorem nt_head {f : Addr} {cdv : Value} {A : Around} {outer : List Env} {s : Shared} {H : Hp} {E : XK} {st D : Addr} {rows : List (List Int)} {W : Nat} (htu : mg "tuple" = none) (g : GoodR W rows) :
    NtHead (cxOf CX0 P w K mg base ntN "_law_no_table" (defScope dNoTable) f cdv A outer s H E).nox st D rows W := by
  have nd := sc_noTab.nd
  have last : ∀ {l : List (Nat × PyData)}, (1, dTab rows) ∈ l → ∀ {p1 p2 p3 p4 p5 p6 p7 : Pos} {j1 j2}, AE (cxOf CX0 P w K mg base ntN "_law_no_table" (defScope dNoTable) f cdv A outer s H E).nox (EnvD st D l) (.Subscript (.Subscript (.Name "table" p1) (.UnaryOp .USub (.Constant (.int 1) j1 p2) p3) p4) (.UnaryOp .USub (.Constant (.int 1) j2 p5) p6) p7) (tE (.int ((rows.getD (rows.length - 1) []).getD (W - 1) 0))) := fun {l} hm {p1 p2 p3 p4 p5 p6 p7 j1 j2} => by
    have hl := g.len (rows.length - 1) (by have := g.n; omega)
    refine ad_ixE (k := W - 1) st_env (ad_ixE (k := rows.length - 1) st_env (ad_env (pv 1) hm) (ad_negE (ad_intE pe_int)) (fun _ _ => rfl) (by rw [List.length_map]; exact ixN_last g.n.1) (getD_row (by have := g.n; omega))) (ad_negE (ad_intE pe_int)) (fun _ _ => rfl) ?_ (getD_num (by have := g.w; omega))
    rw [List.length_map, hl]
    exact ixN_last g.w.1
  have first : ∀ {l : List (Nat × PyData)}, (1, dTab rows) ∈ l → ∀ {p1 p2 p4 p5 p7 : Pos} {j1 j2}, AE (cxOf CX0 P w K mg base ntN "_law_no_table" (defScope dNoTable) f cdv A outer s H E).nox (EnvD st D l) (.Subscript (.Subscript (.Name "table" p1) (.Constant (.int 0) j1 p2) p4) (.Constant (.int 0) j2 p5) p7) (tE (.int ((rows.getD 0 []).getD 0 0))) := fun {l} hm {p1 p2 p4 p5 p7 j1 j2} => by
    have hl := g.len 0 (by have := g.n; omega)
    refine ad_ixE (k := 0) st_env (ad_ixE (k := 0) st_env (ad_env (pv 1) hm) (ad_intE pe_int) (fun _ _ => rfl) (by rw [List.length_map]; exact ixN_nat g.n.1) (getD_row (by have := g.n; omega))) (ad_intE pe_int) (fun _ _ => rfl) ?_ (getD_num (by have := g.w; omega))
    rw [List.length_map, hl]
    exact ixN_nat g.w.1
  refine ⟨ps_w1 fun r hr => ?_, ps_w3 fun r p o hc => ?_, ps_w2 fun r p hc => ?_, ps_w2 fun r p hc => ?_, ps_w2 fun r b hr => ?_, ps_w2 fun r ds hc => ?_⟩
  · exact ps_set (i := 4) nd rfl (Or.inl rfl) (show AE _ (EnvD st D [(1, dTab rows), (2, .int (r : Nat))]) _ (tE (dRow (rows.getD r []))) from ad_ixE st_env (ad_env (pv 1) (.head _)) (ad_env (pv 2) (.tail _ (.head _))) (fun _ _ => rfl) (by rw [List.length_map]; exact ixN_nat hr) (getD_row hr)).pe
  · have hl := g.len r hc.1
    have hw := g.w
    exact ps_set (i := 6) nd rfl (Or.inl rfl) (ad_setE st_env (ad_env (pv 4) (.tail _ (.head _))) (ad_env (pv 3) (.head _)) (ad_env (pv 5) (.tail _ (.tail _ (.head _)))) (ad_env (pv 4) (.tail _ (.head _))) (ad_env (pv 3) (.head _)) pe_int (by omega) (by omega)).pe
  · have hl := g.len r hc.1
    have hw := g.w
    exact ps_set (i := 7) nd rfl (Or.inl rfl) (ad_setE st_env (ad_env (pv 4) (.tail _ (.tail _ (.head _)))) (ad_env (pv 3) (.tail _ (.head _))) (ad_addE st_env (last (.head _)) (ad_intE pe_int)) (ad_env (pv 4) (.tail _ (.tail _ (.head _)))) (ad_env (pv 3) (.tail _ (.head _))) pe_int (by omega) (by omega)).pe
  · have hl := g.len r hc.1
    have hw := g.w
    exact ps_set (i := 8) nd rfl (Or.inl rfl) (ad_setE st_env (ad_env (pv 4) (.tail _ (.tail _ (.head _)))) (ad_env (pv 3) (.tail _ (.head _))) (ad_subE st_env (first (.head _)) (ad_intE pe_int)) (ad_env (pv 4) (.tail _ (.tail _ (.head _)))) (ad_env (pv 3) (.tail _ (.head _))) pe_int (by omega) (by omega)).pe
  · have hl := g.len r hr
    have hw := g.w
    have z : ∀ {p1 p2 p3 p4 : Pos} {j}, AE (cxOf CX0 P w K mg base ntN "_law_no_table" (defScope dNoTable) f cdv A outer s H E).nox (EnvD st D [(1, dTab rows), (4, dRow (rows.getD r [])), (6, b)]) (.Subscript (.Name "numbers" p1) (.Slice (some (.Constant (.int 1) j p2)) none none p3) p4) (tE (dRow ((rows.getD r []).drop 1))) := fun {p1 p2 p3 p4 j} => ad_cast (ad_slice st_env (ad_env (pv 4) (.tail _ (.head _))) (ax_some (ad_intE pe_int)) ax_none) (by
      show PyData.list (cutD _ (some ((1 : Nat) : Int)) none) = _
      rw [cutD_from]
      unfold dRow
      rw [List.map_drop])
    have z2 : ∀ {p1 p2 p3 p4 p5 p6 p7 p8 p9 p10 p11 p12 : Pos} {j1 j2 j3}, AE (cxOf CX0 P w K mg base ntN "_law_no_table" (defScope dNoTable) f cdv A outer s H E).nox (EnvD st D [(1, dTab rows), (4, dRow (rows.getD r [])), (6, b)]) (.BinOp (.Name "numbers" p1) .Add (.List [.BinOp (.Subscript (.Subscript (.Name "table" p2) (.UnaryOp .USub (.Constant (.int 1) j1 p3) p4) p5) (.UnaryOp .USub (.Constant (.int 1) j2 p6) p7) p8) .Add (.Constant (.int 1) j3 p9) p10] p11) p12) (tE (dRow (rows.getD r [] ++ [(rows.getD (rows.length - 1) []).getD (W - 1) 0 + 1]))) := fun {p1 p2 p3 p4 p5 p6 p7 p8 p9 p10 p11 p12 j1 j2 j3} => ad_cast (ad_catE st_env (ad_env (pv 4) (.tail _ (.head _))) (ad_lstE (ax_consE st_env (ad_addE st_env (last (.head _)) (ad_intE pe_int)) ax_nil) (by simp)) (by rw [List.length_map]; omega) (by simp)) (by
      unfold dRow
      rw [List.map_append]
      rfl)
    exact ps_set (i := 9) nd rfl (Or.inl rfl) (ad_lstE (ax_consE st_env (ad_env (pv 6) (.tail _ (.tail _ (.head _)))) (ax_consE st_env (ad_env (pv 6) (.tail _ (.tail _ (.head _)))) (ax_consE st_env (ad_env (pv 6) (.tail _ (.tail _ (.head _)))) (ax_consE st_env z (ax_consE st_env z2 ax_nil))))) (by simp)).pe
  · have hl := g.len r hc.1
    exact ps_set (i := 9) nd rfl (Or.inl rfl) (ad_catE st_env (ad_env (pv 9) (.tail _ (.head _))) (ad_lstE (ax_consE st_env (ad_litE st_env (by kernel_rfl)) (ax_consE st_env (ad_tupleOf (ad_env (pv 4) (.head _)) htu) (ax_consE st_env (ad_litE st_env (by kernel_rfl)) (ax_consE st_env (ad_litE st_env (by kernel_rfl)) (ax_consE st_env (ad_litE st_env (by kernel_rfl)) (ax_consE st_env (ad_litE st_env (by kernel_rfl)) ax_nil)))))) (by simp)) (by omega) (by simp)).pe
end
end Seek
namespace Seek
open PySem L2 PyProof.Rows
/-- an if without else, and what follows it once for all ways -/
theorem if_tail {tc : TT} {t u : TS} {D : Ends} {σ0 : L2.St} {H0 : Hp} (C : (L2.St → Hp → Prop) → Prop) (h : C (u D)) (hA : C (u D) → tc σ0 H0 (fun b H1 => if b = true then t { D with nx := u D } σ0 H1 else u D σ0 H1)) : tSeq (tIfS tc t tNext) u D σ0 H0 := hA h
end Seek
namespace Seek
open PySem L2 PyProof.Rows
theorem asg_tail {v : V} {i : Nat} {u : TS} {D : Ends} {σ : L2.St} {H : Hp} (h : u D (σ.set i (some v)) H) : tSeq (tAsg (tC v) (gName i)) u D σ H := h
def Fall (rows : List (List Int)) (r p : Nat) (v : Int) : Prop := (0 < r ∧ v < (rows.getD (r - 1) []).getD p 0) ∨ (0 < p ∧ v < (rows.getD r []).getD (p - 1) 0)
theorem bad_fallen {W : Nat} {rows : List (List Int)} {r p : Nat} {v : Int} (g : GoodR W rows) (hr : r < rows.length) (hp : p < W) (h : Fall rows r p v) : ¬ GoodD (putD rows r (dRow ((rows.getD r []).set p v))) := by
  refine bad_set g hr hp ?_
  rcases h with ⟨h1, h2⟩ | ⟨h1, h2⟩
  · right; right; left
    exact ⟨r - 1, by omega, h2⟩
  · left
    exact ⟨p - 1, by omega, h2⟩
theorem drop_one {α : Type} {xs : List α} {k : Nat} : (xs.drop (k - 1)).take (k - (k - 1)) = if k = 0 then [] else (xs[k - 1]?).toList := by
  by_cases h : k = 0
  · subst h
    simp
  · rw [if_neg h, show k - (k - 1) = 1 by omega]
    cases e : xs[k - 1]? with
    | none =>
      have := List.getElem?_eq_none_iff.mp e
      rw [List.drop_of_length_le this]
      rfl
    | some x =>
      obtain ⟨h1, h2⟩ := List.getElem?_eq_some_iff.mp e
      rw [List.drop_eq_getElem_cons h1, h2]
      rfl
theorem cutV_one {xs : List V} {k : Nat} (hk : k ≤ xs.length) : cutV xs (some ((k - 1 : Nat) : Int)) (some (k : Int)) = if k = 0 then [] else (xs[k - 1]?).toList := by
  unfold cutV
  rw [HT.sIx_nat, HT.sIx_nat, Nat.min_eq_left hk, Nat.min_eq_left (by omega)]
  exact drop_one
section
variable {P : Program} {w : World} {K : PySem.W.Frag} {mg : Str → Option Value} {base : Heap}
def spFallen : Sp := fun vs H Q _ => ∃ (s D t : Addr) (prs : Prs) (r p : Nat), vs = [.ref s, .ref t, .int (r : Nat), .int (p : Nat)] ∧ StoreOk H s D ∧ Tab H t prs ∧ tabB prs = true ∧ Bnd prs ∧ r < prs.length ∧ p < w0 prs ∧
  ∀ a fs H', H a = none → Row H' a fs → fs.length ≤ 2 → (∀ v ∈ fs, v.natAbs < 10 ^ 39 ∧ Fall (prs.map (·.2)) r p v) → But s H H' → StoreOk H' s D → Q (.ref a) H'
abbrev flN : List Str := ["store", "table", "row", "place", "found", "x", "above", "left", "high", "low", "span"]
theorem sc_fallen : FnScope flN ["store", "table", "row", "place"] (defScope dFallen) := ⟨rfl, rfl, rfl, by decide +kernel, rfl, by decide +kernel, by decide +kernel⟩
theorem max0 {k : Nat} : (if ((k : Nat) : Int) - 1 > 0 then ((k : Nat) : Int) - 1 else 0) = ((k - 1 : Nat) : Int) := by
  split <;> omega
theorem eqv_nilR (ns : List Int) : PyData.eqv (dRow ns) (dRow []) = ns.isEmpty := by
  cases ns <;> simp [PyData.eqv, PyData.eqvAll, dRow]
set_option maxHeartbeats 16000000 in
theorem ok_fallen (T : Blt mg) (D : DefAt K mg "_law_fallen" dFallen ["store", "table", "row", "place"]) (G : FnAt P w K mg base 1 "_law_take" ["store", "many"] spTake) : FnAt P w K mg base 2 "_law_fallen" ["store", "table", "row", "place"] spFallen := by
  refine FnAt.of D sc_fallen (fun vs H Q E h => ?_) (fun f cdv A outer s H vs Q E hr h => ?_)
  · obtain ⟨st, D, t, prs, r, p, rfl, _⟩ := h
    rfl
  · obtain ⟨st, D, t, prs, r, p, rfl, S0, hT, hg, hb, hrr, hpp, q⟩ := h
    obtain ⟨g, g1, g2, g3, g4⟩ := good_of hg
    have nd := sc_fallen.nd
    have nd1 : (["one", "place"] : List Str).Nodup := by decide +kernel
    refine ⟨_, pss_cons (ps_set (i := 4) nd rfl (Or.inl rfl) (pe_lst pa_nil))
      (pss_cons (ps_set (i := 5) nd rfl (Or.inl rfl) (pe_f G hr (pa_cons (pv 0) (pa_cons pe_int pa_nil))))
      (pss_cons (ps_setC ["one", "place"] [none, some 3] (defScope dFallen) flN (i := 6) nd rfl (Or.inl rfl) rfl (pi_list (pe_slice sl_list (pv 1) (po_some (pe_b (call_max2 rfl) T.max boot_max (pa_cons pe_int (pa_cons (pe_op o_sub (pv 2) pe_int) pa_nil)))) (po_some (pv 2)))) (by decide +kernel)
        (fun cl C s2 H2 ex => pg_c 0 nd1) (fun cl C s2 H2 ex => pifs_nil) (fun cl C s2 H2 ex => pe_ix (ixL K) (pv 0) (pv 1) (fun _ _ => rfl)))
      (pss_cons (ps_set (i := 7) nd rfl (Or.inl rfl) (pe_slice sl_list (pe_ix ix_list (pv 1) (pv 2) (fun _ _ => rfl)) (po_some (pe_b (call_max2 rfl) T.max boot_max (pa_cons pe_int (pa_cons (pe_op o_sub (pv 3) pe_int) pa_nil)))) (po_some (pv 3))))
      (pss_cons (ps_for PassesOwn.never rfl (pi_list (pe_lst (pa_cons (pe_tup (pa_cons (pv 6) (pa_cons (pv 7) pa_nil))) (pa_cons (pe_tup (pa_cons (pv 7) (pa_cons (pv 6) pa_nil))) pa_nil)))) (pg_tup rfl (pgs_cons (pg_name (i := 8) nd rfl (Or.inl rfl)) (pgs_cons (pg_name (i := 9) nd rfl (Or.inl rfl)) pgs_nil)))
        (pss_cons (ps_set (i := 10) nd rfl (Or.inl rfl) pe_int)
        (pss_cons (ps_if (PW.pt (pw_and (pt_cmpR (op_neD hr.units) (pv 8) (pe_lst pa_nil) (nomark _)) (pw_and1 (pt_cmpR (op_neD hr.units) (pv 9) (pe_lst pa_nil) (nomark _)))))
          (pss_one (ps_set (i := 10) nd rfl (Or.inl rfl) (pe_op o_sub (pe_ix ix_list (pv 8) pe_int (fun _ _ => rfl)) (pe_ix ix_list (pv 9) pe_int (fun _ _ => rfl))))) pss_nil)
        (pss_one (ps_if (PW.pt (pw_and (pt_cmpR (op_neD hr.units) (pv 8) (pe_lst pa_nil) (nomark _)) (pw_and1 (pt_cmpR o_gt (pv 10) pe_int (nomark _)))))
          (pss_one (ps_expr (pe_bm PySem.F.plainAttrs_list PySem.F.slot_list_append PySem.F.type_list_append mt_append (pv 4) (pa_cons (pe_op o_sub (pe_op o_sub (pe_ix ix_list (pv 8) pe_int (fun _ _ => rfl)) pe_int) (pe_op o_mod (pv 5) (pv 10))) pa_nil)))) pss_nil)))))
      (pss_one (ps_ret (pv 4))))))), ?_⟩
    refine ⟨len0, fun fo hfo => ?_⟩
    have sfo := Same.new (o := .lst []) hfo
    have rfo : Row (upd H fo (.lst [])) fo [] := Row.new
    have nfo : st ≠ fo := S0.ne hfo
    have S1 := S0.same sfo
    have hT1 := hT.same sfo
    have B1 : But st H (upd H fo (.lst [])) := Same.but sfo
    generalize upd H fo (.lst []) = H1 at sfo rfo S1 hT1 B1 ⊢
    refine ⟨_, rfl, st, D, 10007, rfl, by decide, S1, fun x H2 x0 x1 _ b2 S2 => ?_⟩
    have hT2 := hT1.but S1 b2
    have rfo2 := rfo.but S1 b2
    have B2 := B1.trans b2
    -- above
    refine ⟨_, rfl, _, rfl, _, _, rfl, rfl, _, _, rfl, _, rfl, _, rfl, _, rfl, t, _, rfl, hT2.sq, fun l3 hl3 => ?_⟩
    rw [max0, cutV_one (by rw [List.length_map]; omega)]
    have eqs : (if r = 0 then [] else ((prs.map fun p => V.ref p.1)[r - 1]?).toList) = ((if r = 0 then [] else (prs[r - 1]?).toList).map fun p => V.ref p.1) := by
      split
      · rfl
      · rw [List.getElem?_map]
        cases prs[r - 1]? <;> rfl
    rw [eqs]
    have hqs : ∀ pr ∈ (if r = 0 then [] else (prs[r - 1]?).toList), 0 < r ∧ pr ∈ prs ∧ rowAt prs (r - 1) = pr.2 := fun pr hpr => by
      split at hpr
      · nomatch hpr
      · next h0 =>
        obtain ⟨pp, hp1, hp2, hp3⟩ := rowAt_mem (prs := prs) (i := r - 1) (by omega)
        rw [hp2] at hpr
        have : pr = pp := by simpa using hpr
        subst this
        exact ⟨by omega, hp1, hp3⟩
    have hql : (if r = 0 then [] else (prs[r - 1]?).toList).length ≤ 1 := by
      split
      · simp
      · cases prs[r - 1]? <;> simp
    generalize (if r = 0 then [] else (prs[r - 1]?).toList) = qs at hqs hql ⊢
    have s3 := Same.new (o := .lst (qs.map fun p => V.ref p.1)) hl3
    refine ⟨l3, rfl, ⟨_, SqL.of upd_same⟩, comp_map (fun pr : Addr × List Int => V.ref pr.1) (fun pr => .int (pr.2.getD p 0)) (SqL.of upd_same) (sl6 (by omega)) (fun pr hpr H' Q' sm q' => ?_) fun ab H4 hab sm4 hab4 => ?_⟩
    · obtain ⟨_, hm, _⟩ := hqs pr hpr
      exact ⟨_, rfl, _, rfl, pr.1, _, _, _, rfl, rfl, ((hT2.r pr hm).same (s3.trans sm)).sq, at_row (by rw [g.len pr hm]; exact hpp), q' _ (Same.refl _)⟩
    have rab : Row H4 ab (qs.map fun pr => pr.2.getD p 0) := by
      unfold Row
      rw [hab4, List.map_map]
      rfl
    have s34 := s3.trans sm4
    have hT4 := hT2.same s34
    have S4 := S2.same s34
    have rfo4 := rfo2.same s34
    have B4 := B2.trans (Same.but s34)
    have mA : ∀ m ∈ (qs.map fun pr => pr.2.getD p 0), m.natAbs < 10 ^ 38 ∧ ∀ v, v < m → Fall (prs.map (·.2)) r p v := fun m hm => by
      obtain ⟨pr, hpr, rfl⟩ := List.mem_map.mp hm
      obtain ⟨h0, h1, h2⟩ := hqs pr hpr
      have hl := g.len pr h1
      refine ⟨hb pr h1 _ ?_, fun v hv => .inl ⟨h0, ?_⟩⟩
      · rw [List.getD_eq_getElem?_getD, List.getElem?_eq_getElem (by omega)]
        exact List.getElem_mem _
      · have e : (prs.map (·.2)).getD (r - 1) [] = rowAt prs (r - 1) := by
          unfold rowAt
          rw [List.getD_eq_getElem?_getD, List.getElem?_map]
        rw [e, h2]
        exact hv
    have lA : (qs.map fun pr => pr.2.getD p 0).length ≤ 1 := by rw [List.length_map]; exact hql
    generalize (qs.map fun pr => pr.2.getD p 0) = Aw at rab mA lA
    have nab : fo ≠ ab := ne_of_none (rfo2.same s3) hab
    clear hqs hql hab hab4 sm4 s3 eqs
    -- left
    obtain ⟨pr, hp1, hp2, hp3⟩ := rowAt_mem hrr
    have hpl := g.len pr hp1
    refine ⟨_, rfl, _, rfl, t, _, _, .ref pr.1, rfl, rfl, hT4.sq, atI_nat (by rw [List.getElem?_map, hp2]; rfl), _, rfl, _, _, rfl, rfl, _, _, rfl, _, rfl, _, rfl, _, rfl, pr.1, _, rfl, (hT4.r pr hp1).sq, fun lf hlf => ?_⟩
    rw [max0, cutV_one (by rw [List.length_map]; omega)]
    have eqs : (if p = 0 then [] else ((pr.2.map V.int)[p - 1]?).toList) = ((if p = 0 then [] else (pr.2[p - 1]?).toList).map V.int) := by
      split
      · rfl
      · rw [List.getElem?_map]
        cases pr.2[p - 1]? <;> rfl
    rw [eqs]
    have mL : ∀ m ∈ (if p = 0 then [] else (pr.2[p - 1]?).toList), m.natAbs < 10 ^ 38 ∧ ∀ v, v < m → Fall (prs.map (·.2)) r p v := fun m hm => by
      split at hm
      · nomatch hm
      · next h0 =>
        have hm : pr.2[p - 1]? = some m := by simpa using hm
        refine ⟨hb pr hp1 m (List.mem_of_getElem? hm), fun v hv => .inr ⟨by omega, ?_⟩⟩
        have e : (prs.map (·.2)).getD r [] = rowAt prs r := by
          unfold rowAt
          rw [List.getD_eq_getElem?_getD, List.getElem?_map]
        rw [e, hp3, List.getD_eq_getElem?_getD, hm]
        exact hv
    have lL : (if p = 0 then [] else (pr.2[p - 1]?).toList).length ≤ 1 := by
      split
      · simp
      · cases pr.2[p - 1]? <;> simp
    generalize (if p = 0 then [] else (pr.2[p - 1]?).toList) = Lw at mL lL ⊢
    have s5 := Same.new (o := .lst (Lw.map V.int)) hlf
    have rlf : Row (upd H4 lf (.lst (Lw.map V.int))) lf Lw := upd_same
    have rab5 := rab.same s5
    have S5 := S4.same s5
    have rfo5 := rfo4.same s5
    have B5 := B4.trans (Same.but s5)
    have nlf : fo ≠ lf := ne_of_none rfo4 hlf
    generalize upd H4 lf (.lst (Lw.map V.int)) = H5 at s5 rlf rab5 S5 rfo5 B5 ⊢
    clear hT1 hT2 hT4 S1 S2 S4 rfo rfo2 rfo4 B1 B2 B4 rab s34 eqs hlf
    refine ⟨_, rfl, _, rfl, len2, fun t1 ht1 => ⟨_, rfl, _, rfl, len2, fun t2 ht2 => ⟨len2, fun ll hll => ?_⟩⟩⟩
    have s6 : Same H5 _ := ((Same.new (o := .tup [.ref ab, .ref lf]) ht1).trans (Same.new (o := .tup [.ref lf, .ref ab]) ht2)).trans (Same.new (o := .lst [.ref t1, .ref t2]) hll)
    have e1 : (upd (upd (upd H5 t1 (.tup [.ref ab, .ref lf])) t2 (.tup [.ref lf, .ref ab])) ll (.lst [.ref t1, .ref t2])) t1 = some (.tup [.ref ab, .ref lf]) := (Same.new hll) _ _ ((Same.new ht2) _ _ upd_same)
    have e2 : (upd (upd (upd H5 t1 (.tup [.ref ab, .ref lf])) t2 (.tup [.ref lf, .ref ab])) ll (.lst [.ref t1, .ref t2])) t2 = some (.tup [.ref lf, .ref ab]) := (Same.new hll) _ _ upd_same
    have nt1 : fo ≠ t1 := ne_of_none rfo5 ht1
    have nt2 : fo ≠ t2 := ne_of_none (rfo5.same (Same.new ht1)) ht2
    have nll : fo ≠ ll := ne_of_none ((rfo5.same (Same.new ht1)).same (Same.new ht2)) hll
    have e3 : (upd (upd (upd H5 t1 (.tup [.ref ab, .ref lf])) t2 (.tup [.ref lf, .ref ab])) ll (.lst [.ref t1, .ref t2])) ll = some (.lst [.ref t1, .ref t2]) := upd_same
    generalize upd (upd (upd H5 t1 (.tup [.ref ab, .ref lf])) t2 (.tup [.ref lf, .ref ab])) ll (.lst [.ref t1, .ref t2]) = H6 at s6 e1 e2 e3 ⊢
    have nD : D ≠ fo := S0.neD hfo
    refine ⟨ll, rfl, ⟨_, SqL.of e3⟩, for_list (xs := [.ref t1, .ref t2]) (fun k σ H' => ∃ (fs : List Int) (o8 o9 o10 : Option V), σ = [some (.ref st), some (.ref t), some (.int (r : Nat)), some (.int (p : Nat)), some (.ref fo), some (.int x), some (.ref ab), some (.ref lf), o8, o9, o10] ∧ But st H H' ∧ StoreOk H' st D ∧ Row H' fo fs ∧ Row H' ab Aw ∧ Row H' lf Lw ∧ H' t1 = some (.tup [.ref ab, .ref lf]) ∧ H' t2 = some (.tup [.ref lf, .ref ab]) ∧ H' ll = some (.lst [.ref t1, .ref t2]) ∧ fs.length ≤ k ∧ ∀ v ∈ fs, v.natAbs < 10 ^ 39 ∧ Fall (prs.map (·.2)) r p v)
      ⟨[], none, none, none, rfl, B5.trans (Same.but s6), S5.same s6, rfo5.same s6, rab5.same s6, rlf.same s6, e1, e2, e3, Nat.le_refl _, fun v hv => nomatch hv⟩ (fun k σ H' _ ⟨_, _, _, _, _, _, _, _, _, _, _, _, z, _⟩ => SqL.of z) ?_ ?_⟩
    · rintro k y σ H' hk ⟨fs, o8, o9, o10, rfl, B, S, rf, ra, rl, e1, e2, e3, hfl, hfs⟩
      have hk2 : k < 2 := by
        have := (List.getElem?_eq_some_iff.mp hk).1
        simpa using this
      obtain ⟨tt, hi, lo, hs, ls, rfl, ett, rhi, rlo, mhs⟩ : ∃ (tt hi lo : Addr) (hs ls : List Int), y = .ref tt ∧ H' tt = some (.tup [.ref hi, .ref lo]) ∧ Row H' hi hs ∧ Row H' lo ls ∧ ∀ m ∈ hs, m.natAbs < 10 ^ 38 ∧ ∀ v, v < m → Fall (prs.map (·.2)) r p v := by
        match k, hk with
        | 0, hk => exact ⟨t1, ab, lf, Aw, Lw, (Option.some.inj hk).symm, e1, ra, rl, mA⟩
        | 1, hk => exact ⟨t2, lf, ab, Lw, Aw, (Option.some.inj hk).symm, e2, rl, ra, mL⟩
        | n + 2, hk => simp at hk
      refine ⟨tt, _, rfl, SqT.of ett, rfl, _, _, rfl, _, _, rfl, rfl, ?_⟩
      refine asg_tail ?_
      refine if_tail (C := fun kk => ∀ (sp : Int) H2, Same H' H2 → kk [some (.ref st), some (.ref t), some (.int (r : Nat)), some (.int (p : Nat)), some (.ref fo), some (.int x), some (.ref ab), some (.ref lf), some (.ref hi), some (.ref lo), some (.int sp)] H2) (fun sp H2 s2 => ?_) (fun tl => ?_)
      · refine ⟨_, rfl, len0, fun l1 hl1 => ⟨_, _, (rhi.same (s2.trans (Same.new hl1))).rd, (Row.new (H := H2) (D := l1)).rd, shaped_row _, shaped_row [], _, rfl, ?_⟩⟩
        have s3 := s2.trans (Same.new (o := .lst []) hl1)
        generalize upd H2 l1 (.lst []) = H3 at s3 ⊢
        rw [eqv_nilR]
        have nxt : ∃ (fs : List Int) (o8 o9 o10 : Option V), [some (.ref st), some (.ref t), some (.int (r : Nat)), some (.int (p : Nat)), some (.ref fo), some (.int x), some (.ref ab), some (.ref lf), some (.ref hi), some (.ref lo), some (.int sp)] = [some (.ref st), some (.ref t), some (.int (r : Nat)), some (.int (p : Nat)), some (.ref fo), some (.int x), some (.ref ab), some (.ref lf), o8, o9, o10] ∧ But st H H3 ∧ StoreOk H3 st D ∧ Row H3 fo fs ∧ Row H3 ab Aw ∧ Row H3 lf Lw ∧ H3 t1 = some (.tup [.ref ab, .ref lf]) ∧ H3 t2 = some (.tup [.ref lf, .ref ab]) ∧ H3 ll = some (.lst [.ref t1, .ref t2]) ∧ fs.length ≤ k + 1 ∧ ∀ v ∈ fs, v.natAbs < 10 ^ 39 ∧ Fall (prs.map (·.2)) r p v :=
          ⟨fs, _, _, _, rfl, B.trans (Same.but s3), S.same s3, rf.same s3, ra.same s3, rl.same s3, s3 _ _ e1, s3 _ _ e2, s3 _ _ e3, by omega, hfs⟩
        cases hs with
        | nil => exact iteF (iteF nxt)
        | cons m hs' =>
          refine iteT ⟨_, rfl, _, _, rfl, rfl, _, rfl, ?_⟩
          by_cases hsp : sp > 0
          · rw [decide_eq_true hsp]
            refine iteT ⟨_, rfl, .inl ⟨rfl, _, (rf.same s3).sq⟩, _, rfl, hi, _, 0, .int m, rfl, rfl, (rhi.same s3).sq, atI_nat (j := 0) rfl, _, _, rfl, rfl, _, rfl, _, rfl, _, _, rfl, rfl, hsp, _, _, rfl, rfl, fo, _, _, rfl, rfl, rf.same s3, ?_, ?_⟩
            · rw [List.length_map]
              exact small1000 (by omega)
            · have key : ∀ b o, fo ≠ b → H3 b = some o → (upd H3 fo (.lst (fs.map V.int ++ [.int (m - 1 - x % sp)]))) b = some o := fun b o hb' e => by
                rw [upd_ne (Ne.symm hb')]
                exact e
              obtain ⟨z1, z2⟩ := mhs m (by simp)
              have hx1 := Int.emod_nonneg x (show sp ≠ 0 by omega)
              have hx2 : x % sp ≤ x := by
                by_cases h : x < sp
                · rw [Int.emod_eq_of_lt x0 h]
                  exact Int.le_refl _
                · have := Int.emod_lt_of_pos x (show 0 < sp from hsp)
                  omega
              refine ⟨fs ++ [m - 1 - x % sp], _, _, _, rfl, ?_, ?_, Row.push, key _ _ nab (ra.same s3), key _ _ nlf (rl.same s3), key _ _ nt1 (s3 _ _ e1), key _ _ nt2 (s3 _ _ e2), key _ _ nll (s3 _ _ e3), ?_, ?_⟩
              · intro b o hb' e
                exact key b o (fun z => by rw [← z, hfo] at e; cases e) (B.trans (Same.but s3) b o hb' e)
              · obtain ⟨c, ds, y1, y2, y3⟩ := S.same s3
                exact ⟨c, ds, key _ _ (Ne.symm nfo) y1, key _ _ (Ne.symm nD) y2, y3⟩
              · rw [List.length_append, List.length_singleton]
                omega
              · intro v hv
                rcases List.mem_append.mp hv with z | z
                · exact hfs v z
                · rw [List.mem_singleton.mp z]
                  refine ⟨?_, z2 _ (by omega)⟩
                  have e38 : (10 : Nat) ^ 38 = 100000000000000000000000000000000000000 := by decide
                  have e39 : (10 : Nat) ^ 39 = 1000000000000000000000000000000000000000 := by decide
                  rw [e38] at z1
                  rw [e39]
                  omega
          · rw [decide_eq_false hsp]
            exact iteF nxt
      · refine ⟨_, rfl, len0, fun l1 hl1 => ⟨_, _, (rhi.same (Same.new hl1)).rd, (Row.new (H := H') (D := l1)).rd, shaped_row _, shaped_row [], _, rfl, ?_⟩⟩
        have s3 := Same.new (o := .lst []) hl1
        generalize upd H' l1 (.lst []) = H3 at s3 ⊢
        rw [eqv_nilR]
        cases hs with
        | nil => exact iteF (iteF (tl 9 H3 s3))
        | cons m hs' =>
          refine iteT ⟨_, rfl, len0, fun l2 hl2 => ⟨_, _, (rlo.same (s3.trans (Same.new hl2))).rd, (Row.new (H := H3) (D := l2)).rd, shaped_row _, shaped_row [], _, rfl, ?_⟩⟩
          have s4 := s3.trans (Same.new (o := .lst []) hl2)
          generalize upd H3 l2 (.lst []) = H4' at s4 ⊢
          rw [eqv_nilR]
          cases ls with
          | nil => exact iteF (tl 9 H4' s4)
          | cons n ls' => exact iteT ⟨_, rfl, hi, _, 0, .int m, rfl, rfl, (rhi.same s4).sq, atI_nat (j := 0) rfl, _, rfl, lo, _, 0, .int n, rfl, rfl, (rlo.same s4).sq, atI_nat (j := 0) rfl, _, _, rfl, rfl, tl _ H4' s4⟩
    · rintro σ H' ⟨fs, o8, o9, o10, rfl, B, S, rf, _, _, _, _, _, hfl, hfs⟩
      exact ⟨_, rfl, q fo fs H' hfo rf hfl hfs B S⟩
end
end Seek
namespace Seek
open PySem L2 PyProof.Rows
/-! ### statements by what holds ahead and behind -/
def tTr (N N' : L2.St → Hp → Prop) : TS := fun E σ H => N σ H ∧ ∀ σ' H', N' σ' H' → E.nx σ' H'
theorem ps_sub {X : Cx} {s : Stmt} {t t' : TS} (h : PS X s t) (i : ∀ E σ H, t' E σ H → t E σ H) : PS X s t' := fun pins s' σ H D I q => h pins s' σ H D I (i D σ H q)
theorem tr_set {X : Cx} {s : Stmt} {i : Nat} {te : TE} {N N' : L2.St → Hp → Prop} (h : PS X s (tAsg te (gName i))) (hN : ∀ σ H (Q : VK), N σ H → (∀ v H', N' (σ.set i (some v)) H' → Q v H') → te σ H Q) : PS X s (tTr N N') :=
  ps_sub h fun E σ H ⟨n, q⟩ => hN σ H _ n fun v H' z => q _ _ z
def VP (B : Ab) (σ : L2.St) (H : Hp) (i : Nat) (φ : PyData → Prop) : Prop := ∃ v, σ[i]? = some (some v) ∧ tD φ B v H
section
variable {B : Ab} {σ : L2.St} {H H' : Hp} {i k : Nat} {φ φ' : PyData → Prop} {d : PyData} {v : V} {x : Option V}
theorem get_ne (h : σ[i]? = some x) (n : k ≠ i) {y : Option V} : (σ.set k y)[i]? = some x := by rw [List.getElem?_set_ne n]; exact h
theorem get_eq (h : i < σ.length) {y : Option V} : (σ.set i y)[i]? = some y := by rw [List.getElem?_set, if_pos rfl, if_pos h]
theorem VP.but (h : VP B σ H i φ) (b : ButS B.S H H') : VP B σ H' i φ := let ⟨v, e, r⟩ := h; ⟨v, e, st_d _ _ _ _ r b⟩
theorem VP.ne (h : VP B σ H i φ) (n : k ≠ i) : VP B (σ.set k x) H i φ := let ⟨v, e, r⟩ := h; ⟨v, get_ne e n, r⟩
theorem VP.imp (h : VP B σ H i φ) (f : ∀ d, φ d → φ' d) : VP B σ H i φ' := let ⟨v, e, d, r, z⟩ := h; ⟨v, e, d, r, f d z⟩
theorem Vr.ne (h : Vr B σ H i d) (n : k ≠ i) : Vr B (σ.set k x) H i d := let ⟨v, e, r⟩ := h; ⟨v, get_ne e n, r⟩
theorem vr_int {n : Int} (h : σ[i]? = some (some (.int n))) : Vr B σ H i (.int n) := ⟨_, h, .int n⟩
end
/-- what holds in _law_no_table all along -/
structure NtC (st D t : Addr) (prs : Prs) (H0 : Hp) (σ : L2.St) (H : Hp) : Prop where
  len : σ.length = 15
  s0 : σ[0]? = some (some (.ref st))
  s1 : σ[1]? = some (some (.ref t))
  b : But st H0 H
  S : StoreOk H st D
  T : Tab H t prs
section
variable {st D t : Addr} {prs : Prs} {H0 H H' : Hp} {σ : L2.St} {i : Nat} {v : V}
theorem NtC.set (h : NtC st D t prs H0 σ H) (hi : 2 ≤ i) : NtC st D t prs H0 (σ.set i (some v)) H := ⟨by rw [List.length_set]; exact h.len, get_ne h.s0 (by omega), get_ne h.s1 (by omega), h.b, h.S, h.T⟩
theorem NtC.but (h : NtC st D t prs H0 σ H) (b : But st H H') (S : StoreOk H' st D) : NtC st D t prs H0 σ H' := ⟨h.len, h.s0, h.s1, h.b.trans b, S, h.T.but h.S b⟩
theorem NtC.same (h : NtC st D t prs H0 σ H) (s : Same H H') : NtC st D t prs H0 σ H' := h.but (Same.but s) (h.S.same s)
theorem tabRdS {S : List Addr} (hT : Tab H t prs) (h1 : t ∉ S) (h2 : ∀ p ∈ prs, p.1 ∉ S) : RdS S H (.ref t) (dTab (prs.map (·.2))) := by
  refine .lst hT.l h1 ?_
  have : ∀ ps : Prs, (∀ p ∈ ps, Row H p.1 p.2 ∧ p.1 ∉ S) → RdSs S H (ps.map fun p => V.ref p.1) ((ps.map (·.2)).map dRow) := fun ps => by
    induction ps with
    | nil => exact fun _ => .nil
    | cons p ps ih =>
      intro h
      have hp := h p (by simp)
      refine .cons (.lst hp.1 hp.2 ?_) (ih fun q hq => h q (by simp [hq]))
      have hi : ∀ ns : List Int, RdSs S H (ns.map V.int) (ns.map PyData.int) := fun ns => by
        induction ns with
        | nil => exact .nil
        | cons n ns ih => exact .cons (.int n) ih
      exact hi p.2
  exact this prs fun p hp => ⟨hT.r p hp, h2 p hp⟩
theorem NtC.v1 (h : NtC st D t prs H0 σ H) : Vr (abS st D) σ H 1 (dTab (prs.map (·.2))) :=
  ⟨_, h.s1, tabRdS h.T (by simpa [abS] using h.S.tab h.T.l) fun p hp => by simpa [abS] using h.S.row (h.T.r p hp)⟩
end
/-- with a row, a place and the row's numbers -/
structure NtR (st D t : Addr) (prs : Prs) (H0 : Hp) (r p : Nat) (σ : L2.St) (H : Hp) : Prop where
  c : NtC st D t prs H0 σ H
  hr : r < prs.length
  hp : p < w0 prs
  v2 : σ[2]? = some (some (.int (r : Nat)))
  v3 : σ[3]? = some (some (.int (p : Nat)))
  v4 : ∃ a, σ[4]? = some (some (.ref a)) ∧ prs[r]? = some (a, rowAt prs r)
section
variable {st D t : Addr} {prs : Prs} {H0 H H' : Hp} {r p : Nat} {σ : L2.St} {i : Nat} {v : V}
theorem rows_at (prs : Prs) (i : Nat) : (prs.map (·.2)).getD i [] = rowAt prs i := by
  unfold rowAt
  rw [List.getD_eq_getElem?_getD, List.getElem?_map]
theorem NtR.set (h : NtR st D t prs H0 r p σ H) (hi : 5 ≤ i) : NtR st D t prs H0 r p (σ.set i (some v)) H :=
  ⟨h.c.set (by omega), h.hr, h.hp, get_ne h.v2 (by omega), get_ne h.v3 (by omega), let ⟨a, e, q⟩ := h.v4; ⟨a, get_ne e (by omega), q⟩⟩
theorem NtR.but (h : NtR st D t prs H0 r p σ H) (b : But st H H') (S : StoreOk H' st D) : NtR st D t prs H0 r p σ H' := ⟨h.c.but b S, h.hr, h.hp, h.v2, h.v3, h.v4⟩
theorem NtR.same (h : NtR st D t prs H0 r p σ H) (s : Same H H') : NtR st D t prs H0 r p σ H' := h.but (Same.but s) (h.c.S.same s)
theorem NtR.row (h : NtR st D t prs H0 r p σ H) : ∃ a, σ[4]? = some (some (.ref a)) ∧ Row H a (rowAt prs r) := let ⟨a, e, q⟩ := h.v4; ⟨a, e, h.c.T.r _ (List.mem_of_getElem? q)⟩
theorem NtR.d4 (h : NtR st D t prs H0 r p σ H) : Vr (abS st D) σ H 4 (dRow ((prs.map (·.2)).getD r [])) := by
  obtain ⟨a, e, hR⟩ := h.row
  refine ⟨_, e, ?_⟩
  rw [rows_at]
  have hi : ∀ ns : List Int, RdSs (abS st D).S H (ns.map V.int) (ns.map PyData.int) := fun ns => by
    induction ns with
    | nil => exact .nil
    | cons n ns ih => exact .cons (.int n) ih
  exact .lst hR (by simpa [abS] using h.c.S.row hR) (hi _)
/-- the environment of what is known there -/
theorem NtR.env (h : NtR st D t prs H0 r p σ H) {l : List (Nat × PyData)} (hl : ∀ x ∈ l, Vr (abS st D) σ H x.1 x.2) : EnvD st D l (abS st D) σ H := ⟨rfl, h.c.s0, hl⟩
end
end Seek
namespace Seek
open PySem L2 PyProof.Rows
/-- an item of a display of literals -/
theorem pe_litix {X : Cx} {Γ : EnB} {es : List Expr} {ei : Expr} {te : TE} {p1 p2 : Pos} {n : Nat} (sg : StbE Γ) (hi : PE X ei te) (pl : PlainIx ei) (g : ∀ B σ H Q, Γ B σ H → B.J H → (∀ (i : Int) H', 0 ≤ i → i < n → ButS B.S H H' → B.J H' → Q (.int i) H') → te σ H Q) : PE X (.Subscript (.List es p1) ei p2)
    (fun σ H Q => ∃ (B : Ab) (ds : List PyData), Γ B σ H ∧ B.J H ∧ litAll 40 es = some ds ∧ n ≤ ds.length ∧ ∀ v d H', d ∈ ds → RdS B.S H' v d → ButS B.S H H' → B.J H' → Q v H') := fun pins s σ H Q I ⟨B, ds, hg, j, hl, hn, q⟩ => by
  refine pe_ix ix_list (pe_lst (lit_all (Γ := fun B' _ _ => B' = B) (fun _ _ _ _ g _ => g) 40 (by decide) hl)) hi pl pins s σ H Q I ⟨B, rfl, j, fun vs H1 b1 j1 r1 => ⟨sl6 (by have := litAll_len 40 hl; have := r1.length; omega), fun p hp => ?_⟩⟩
  have sp : Same H1 (upd H1 p (.lst vs)) := Same.new hp
  have nB := B.fresh j1 hp
  have b2 := b1.trans (Same.butS sp)
  refine g B σ _ _ (sg _ _ _ _ hg b2) (B.same j1 sp) fun i H3 i0 i1 b3 j3 => ?_
  have r3 := rdss_but (r1.same sp) b3
  obtain ⟨x, hx, hat⟩ := at_memV (xs := vs) i0 (by rw [r1.length]; omega)
  obtain ⟨ms, e1, e2, hm⟩ := r3.pairs
  subst e1 e2
  obtain ⟨m, hm1, hm2⟩ := List.mem_map.mp hx
  subst hm2
  exact ⟨p, _, i, m.1, rfl, rfl, SqL.of (b3 _ _ nB upd_same), hat, q _ m.2 _ (List.mem_map.mpr ⟨m, hm1, rfl⟩) (hm m hm1) (b2.trans b3) j3⟩
end Seek
namespace Seek
open PySem L2 PyProof.Rows
abbrev ntX (P : Program) (w : World) (K : PySem.W.Frag) (mg : Str → Option Value) (base : Heap) (f : Addr) (cdv : Value) (A : Around) (outer : List Env) (s : Shared) (H : Hp) (E : XK) : Cx := (cxOf CX0 P w K mg base ntN "_law_no_table" (defScope dNoTable) f cdv A outer s H E).nox
def ntS (k : Nat) : Stmt := (defBody dNoTable).getD k (.Pass ⟨0, 0, 0, 0⟩)
abbrev rws (prs : Prs) : List (List Int) := prs.map (·.2)
abbrev hiV (prs : Prs) : Int := ((rws prs).getD ((rws prs).length - 1) []).getD (w0 prs - 1) 0 + 1
abbrev loV (prs : Prs) : Int := ((rws prs).getD 0 []).getD 0 0 - 1
abbrev rwD (prs : Prs) (r : Nat) : List Int := (rws prs).getD r []
section
variable (st D t : Addr) (prs : Prs) (H0 : Hp)
def N1 (σ : L2.St) (H : Hp) : Prop := NtC st D t prs H0 σ H ∧ ∃ r : Nat, r < prs.length ∧ σ[2]? = some (some (.int (r : Nat)))
def N2 (σ : L2.St) (H : Hp) : Prop := NtC st D t prs H0 σ H ∧ ∃ r p : Nat, r < prs.length ∧ p < w0 prs ∧ σ[2]? = some (some (.int (r : Nat))) ∧ σ[3]? = some (some (.int (p : Nat)))
def N3 (σ : L2.St) (H : Hp) : Prop := ∃ r p, NtR st D t prs H0 r p σ H
def N4 (σ : L2.St) (H : Hp) : Prop := ∃ r p o, NtR st D t prs H0 r p σ H ∧ isIntD o = false ∧ Sz 41 1 o ∧ Vr (abS st D) σ H 5 o
def N5 (σ : L2.St) (H : Hp) : Prop := ∃ r p b, NtR st D t prs H0 r p σ H ∧ BL (rws prs) r b ∧ Vr (abS st D) σ H 6 b
def N6 (σ : L2.St) (H : Hp) : Prop := ∃ r p b, NtR st D t prs H0 r p σ H ∧ BL (rws prs) r b ∧ Vr (abS st D) σ H 6 b ∧ Vr (abS st D) σ H 7 (setD (rwD prs r) p (.int (hiV prs)))
def N7 (σ : L2.St) (H : Hp) : Prop := ∃ r p b, NtR st D t prs H0 r p σ H ∧ BL (rws prs) r b ∧ Vr (abS st D) σ H 6 b ∧ Vr (abS st D) σ H 7 (setD (rwD prs r) p (.int (hiV prs))) ∧ Vr (abS st D) σ H 8 (setD (rwD prs r) p (.int (loV prs)))
def N8 (σ : L2.St) (H : Hp) : Prop := ∃ r p b, NtR st D t prs H0 r p σ H ∧ BL (rws prs) r b ∧ Vr (abS st D) σ H 6 b ∧ Vr (abS st D) σ H 7 (setD (rwD prs r) p (.int (hiV prs))) ∧ Vr (abS st D) σ H 8 (setD (rwD prs r) p (.int (loV prs))) ∧
  Vr (abS st D) σ H 9 (.list [b, b, b, dRow ((rwD prs r).drop 1), dRow (rwD prs r ++ [hiV prs])])
end
section
variable {P : Program} {w : World} {K : PySem.W.Frag} {mg : Str → Option Value} {base : Heap} {f : Addr} {cdv : Value} {A : Around} {outer : List Env} {s : Shared} {Hs H0 : Hp} {E : XK} {st D t : Addr} {prs : Prs}
theorem tr0 (T : Blt mg) (G : FnAt P w K mg base 1 "_law_take" ["store", "many"] spTake) (hr : Room 1 (ntX P w K mg base f cdv A outer s Hs E).A) (hg : tabB prs = true) : PS (ntX P w K mg base f cdv A outer s Hs E) (ntS 0) (tTr (NtC st D t prs H0) (N1 st D t prs H0)) := by
  have nd := sc_noTab.nd
  refine tr_set (i := 2) (ps_set (i := 2) nd rfl (Or.inl rfl) (pe_f G hr (pa_cons (pv 0) (pa_cons (pe_b call_len_seq T.len boot_len (pa_cons (pv 1) pa_nil)) pa_nil)))) fun σ H Q h q => ?_
  obtain ⟨g, g1, g2, g3, g4⟩ := good_of hg
  refine ⟨_, h.s0, _, h.s1, t, _, rfl, .inl h.T.sq, st, D, _, rfl, by rw [List.length_map]; omega, h.S, fun d H' d0 d1 _ b S => q _ _ ⟨(h.but b S).set (by decide), d.toNat, ?_, ?_⟩⟩
  · rw [List.length_map] at d1
    omega
  · rw [get_eq (by rw [h.len]; decide), show ((d.toNat : Nat) : Int) = d by omega]
theorem tr1 (T : Blt mg) (G : FnAt P w K mg base 1 "_law_take" ["store", "many"] spTake) (hr : Room 1 (ntX P w K mg base f cdv A outer s Hs E).A) (hg : tabB prs = true) : PS (ntX P w K mg base f cdv A outer s Hs E) (ntS 1) (tTr (N1 st D t prs H0) (N2 st D t prs H0)) := by
  have nd := sc_noTab.nd
  refine tr_set (i := 3) (ps_set (i := 3) nd rfl (Or.inl rfl) (pe_f G hr (pa_cons (pv 0) (pa_cons (pe_b call_len_seq T.len boot_len (pa_cons (pe_ix ix_list (pv 1) pe_int (fun _ _ => rfl)) pa_nil)) pa_nil)))) fun σ H Q hh q => ?_
  obtain ⟨h, r, hr, e2⟩ := hh
  obtain ⟨g, g1, g2, g3, g4⟩ := good_of hg
  obtain ⟨p0, hp0, hm0, hx0⟩ := head_at (prs := prs) g1
  refine ⟨_, h.s0, _, h.s1, t, _, 0, .ref p0.1, rfl, rfl, h.T.sq, atI_nat (j := 0) (by rw [List.getElem?_map, hx0]; rfl), p0.1, _, rfl, .inl (h.T.r p0 hm0).sq, st, D, _, rfl, by rw [List.length_map, g.len p0 hm0]; omega, h.S, fun d H' d0 d1 _ b S => q _ _ ⟨(h.but b S).set (by decide), r, d.toNat, hr, ?_, get_ne e2 (by decide), ?_⟩⟩
  · rw [List.length_map, g.len p0 hm0] at d1
    omega
  · rw [get_eq (by rw [h.len]; decide), show ((d.toNat : Nat) : Int) = d by omega]
theorem tr2 : PS (ntX P w K mg base f cdv A outer s Hs E) (ntS 2) (tTr (N2 st D t prs H0) (N3 st D t prs H0)) := by
  have nd := sc_noTab.nd
  refine tr_set (i := 4) (ps_set (i := 4) nd rfl (Or.inl rfl) (pe_ix ix_list (pv 1) (pv 2) (fun _ _ => rfl))) fun σ H Q hh q => ?_
  obtain ⟨h, r, p, hr, hp, e2, e3⟩ := hh
  obtain ⟨pr, hp1, hp2, hp3⟩ := rowAt_mem hr
  refine ⟨_, h.s1, _, e2, t, _, _, .ref pr.1, rfl, rfl, h.T.sq, atI_nat (by rw [List.getElem?_map, hp2]; rfl), q _ _ ⟨r, p, h.set (by decide), hr, hp, get_ne e2 (by decide), get_ne e3 (by decide), pr.1, get_eq (by rw [h.len]; decide), ?_⟩⟩
  rw [hp2, hp3]
theorem tr3 (G : FnAt P w K mg base 1 "_law_take" ["store", "many"] spTake) (hr : Room 1 (ntX P w K mg base f cdv A outer s Hs E).A) : PS (ntX P w K mg base f cdv A outer s Hs E) (ntS 3) (tTr (N3 st D t prs H0) (N4 st D t prs H0)) := by
  have nd := sc_noTab.nd
  have hi : ∀ (q1 q2 q3 q5 : Pos) (j), PE (ntX P w K mg base f cdv A outer s Hs E) (.Call (.Name "_law_take" q1) [.Name "store" q2, .Constant (.int 8) j q3] [] q5) (tF spTake (tCons (tVar 0) (tCons (tC (.int 8)) tNil))) := fun q1 q2 q3 q5 j => pe_f G hr (pa_cons (pv 0) (pa_cons pe_int pa_nil))
  have L := fun (es : List Expr) (p1 p2 p3 : Pos) (p4 : Pos) (q1 q2 q3 q5 : Pos) (j) => ps_set (X := ntX P w K mg base f cdv A outer s Hs E) (pos := p3) (pos' := p4) (i := 5) nd rfl (Or.inl rfl) (pe_litix (es := es) (p1 := p1) (p2 := p2) (Γ := fun B' σ H => B' = abS st D ∧ σ[0]? = some (some (.ref st))) (n := 8) (fun _ _ _ _ h _ => h) (hi q1 q2 q3 q5 j) (fun _ _ => rfl) (fun B' σ H Q hg j q => by
        obtain ⟨e1, e2⟩ := hg
        subst e1
        exact ⟨_, e2, st, D, 8, rfl, by decide, j, fun v H' v0 v1 _ b D => q v H' v0 v1 b.butS D⟩))
  have X0 : PS (ntX P w K mg base f cdv A outer s Hs E) (ntS 3) _ := L _ _ _ _ _ _ _ _ _ _
  obtain ⟨S3, e3⟩ : ∃ S, S = ntS 3 := ⟨_, rfl⟩
  rw [← e3] at X0 ⊢
  clear e3 L hi
  refine tr_set (i := 5) X0 fun σ H Q hh q => ?_
  obtain ⟨r, p, h⟩ := hh
  refine ⟨abS st D, oddD, ⟨rfl, h.c.s0⟩, h.c.S, by kernel_rfl, by decide, fun v e H' he re b S => q _ _ ⟨r, p, e, (h.but b.but S).set (by decide), ?_, ?_, ⟨_, get_eq (by rw [h.c.len]; decide), re⟩⟩⟩
  all_goals
    have hz : oddD.all (fun z => (z.showable && decide (z.shown.length ≤ 41) && decide (z.depth ≤ 1)) && !isIntD z) = true := by decide +kernel
    have z := List.all_eq_true.mp hz e he
    rw [Bool.and_eq_true] at z
  · simpa using z.2
  · exact sz_of z.1
theorem bnd_at (hg : tabB prs = true) (hb : Bnd prs) {i : Nat} (hi : i < prs.length) : ∀ n ∈ rwD prs i, n.natAbs < 10 ^ 38 := by
  obtain ⟨pr, hp1, hp2, hp3⟩ := rowAt_mem hi
  rw [rwD, rows_at, hp3]
  exact hb pr hp1
theorem bnd_get (hg : tabB prs = true) (hb : Bnd prs) {i j : Nat} (hi : i < prs.length) (hj : j < w0 prs) : ((rwD prs i).getD j 0).natAbs < 10 ^ 38 := by
  refine bnd_at hg hb hi _ ?_
  have := (goodR_of hg).len i (by rw [List.length_map]; exact hi)
  have hl : j < (rwD prs i).length := by unfold rwD rws; omega
  rw [List.getD_eq_getElem?_getD, List.getElem?_eq_getElem hl]
  exact List.getElem_mem _
theorem bnd_hi (hg : tabB prs = true) (hb : Bnd prs) : (hiV prs).natAbs < 10 ^ 40 ∧ (loV prs).natAbs < 10 ^ 40 := by
  have g := goodR_of hg
  have g1 := g.n
  have g2 := g.w
  rw [List.length_map] at g1
  have h1 := bnd_get hg hb (i := prs.length - 1) (j := w0 prs - 1) (by omega) (by omega)
  have h2 := bnd_get hg hb (i := 0) (j := 0) (by omega) (by omega)
  have e : (10 : Nat) ^ 40 = 100 * 10 ^ 38 := by decide
  unfold hiV loV rws
  rw [List.length_map]
  unfold rwD rws at h1 h2
  rw [e]
  generalize (10 : Nat) ^ 38 = M at *
  omega
theorem bl_odd (hg : tabB prs = true) (hb : Bnd prs) {r p : Nat} (hr : r < prs.length) {o : PyData} (ho : isIntD o = false) (hz : Sz 41 1 o) : BL (rws prs) r (setD (rwD prs r) p o) := by
  have g := goodR_of hg
  have hl := g.len r (by rw [List.length_map]; exact hr)
  have hw := g.w
  refine ⟨bad_row (setD_odd ho), (sz_setD (by unfold rwD rws; omega) (fun n hn => Nat.lt_of_lt_of_le (bnd_at hg hb hr n hn) (by decide)) hz).mono (by decide) (by decide)⟩
theorem sz_setI (hg : tabB prs = true) (hb : Bnd prs) {r p : Nat} (hr : r < prs.length) {v : Int} (hv : v.natAbs < 10 ^ 40) : Sz 1000 4 (setD (rwD prs r) p (.int v)) := by
  have g := goodR_of hg
  have hl := g.len r (by rw [List.length_map]; exact hr)
  have hw := g.w
  exact (sz_setD (by unfold rwD rws; omega) (fun n hn => Nat.lt_of_lt_of_le (bnd_at hg hb hr n hn) (by decide)) ((sz_int hv).mono (by decide) (by decide))).mono (by decide) (by decide)
theorem tr4 (htu : mg "tuple" = none) (hg : tabB prs = true) (hb : Bnd prs) : PS (ntX P w K mg base f cdv A outer s Hs E) (ntS 4) (tTr (N4 st D t prs H0) (N5 st D t prs H0)) := by
  refine ps_sub (nt_head htu (goodR_of hg)).s4 fun Ee σ H ⟨⟨r, p, o, h, ho, hz, v5⟩, q⟩ => ⟨r, p, o, ⟨by rw [List.length_map]; exact h.hr, h.hp⟩, abS st D, h.env ?_, h.c.S, fun v H' b S ⟨d, rd, e⟩ => q _ _ ⟨r, p, d, (h.but b.but S).set (by decide), by rw [e]; exact bl_odd hg hb h.hr ho hz, ⟨_, get_eq (by rw [h.c.len]; decide), rd⟩⟩⟩
  intro x hx
  simp only [List.mem_cons, List.not_mem_nil, or_false] at hx
  rcases hx with rfl | rfl | rfl
  · exact vr_int h.v3
  · exact h.d4
  · exact v5
theorem tr5 (htu : mg "tuple" = none) (hg : tabB prs = true) : PS (ntX P w K mg base f cdv A outer s Hs E) (ntS 5) (tTr (N5 st D t prs H0) (N6 st D t prs H0)) := by
  refine ps_sub (nt_head htu (goodR_of hg)).s5 fun Ee σ H ⟨⟨r, p, b6, h, hb6, v6⟩, q⟩ => ⟨r, p, ⟨by rw [List.length_map]; exact h.hr, h.hp⟩, abS st D, h.env ?_, h.c.S, fun v H' b S ⟨d, rd, e⟩ => q _ _ ⟨r, p, b6, (h.but b.but S).set (by decide), hb6, (v6.but b).ne (by decide), _, get_eq (by rw [h.c.len]; decide), by rw [e] at rd; exact rd⟩⟩
  intro x hx
  simp only [List.mem_cons, List.not_mem_nil, or_false] at hx
  rcases hx with rfl | rfl | rfl
  · exact h.c.v1
  · exact vr_int h.v3
  · exact h.d4
theorem tr6 (htu : mg "tuple" = none) (hg : tabB prs = true) : PS (ntX P w K mg base f cdv A outer s Hs E) (ntS 6) (tTr (N6 st D t prs H0) (N7 st D t prs H0)) := by
  refine ps_sub (nt_head htu (goodR_of hg)).s6 fun Ee σ H ⟨⟨r, p, b6, h, hb6, v6, v7⟩, q⟩ => ⟨r, p, ⟨by rw [List.length_map]; exact h.hr, h.hp⟩, abS st D, h.env ?_, h.c.S, fun v H' b S ⟨d, rd, e⟩ => q _ _ ⟨r, p, b6, (h.but b.but S).set (by decide), hb6, (v6.but b).ne (by decide), (v7.but b).ne (by decide), _, get_eq (by rw [h.c.len]; decide), by rw [e] at rd; exact rd⟩⟩
  intro x hx
  simp only [List.mem_cons, List.not_mem_nil, or_false] at hx
  rcases hx with rfl | rfl | rfl
  · exact h.c.v1
  · exact vr_int h.v3
  · exact h.d4
theorem tr7 (htu : mg "tuple" = none) (hg : tabB prs = true) : PS (ntX P w K mg base f cdv A outer s Hs E) (ntS 7) (tTr (N7 st D t prs H0) (N8 st D t prs H0)) := by
  refine ps_sub (nt_head htu (goodR_of hg)).s7 fun Ee σ H ⟨⟨r, p, b6, h, hb6, v6, v7, v8⟩, q⟩ => ⟨r, b6, by rw [List.length_map]; exact h.hr, abS st D, h.env ?_, h.c.S, fun v H' b S ⟨d, rd, e⟩ => q _ _ ⟨r, p, b6, (h.but b.but S).set (by decide), hb6, (v6.but b).ne (by decide), (v7.but b).ne (by decide), (v8.but b).ne (by decide), _, get_eq (by rw [h.c.len]; decide), by rw [e] at rd; exact rd⟩⟩
  intro x hx
  simp only [List.mem_cons, List.not_mem_nil, or_false] at hx
  rcases hx with rfl | rfl | rfl
  · exact h.c.v1
  · exact h.d4
  · exact v6
end
end Seek
namespace Seek
open PySem L2 PyProof.Rows
theorem rds_but {S : List Addr} {H H' : Hp} {x : V} {d : PyData} (r : RdS S H x d) (b : ButS S H H') : RdS S H' x d := r.move (fun c o n e => b c o n e) fun _ n => n
end Seek
namespace Seek
open PySem L2 PyProof.Rows
theorem rds_upd {S : List Addr} {H : Hp} {a : Addr} {o : HO} {x : V} {d : PyData} (r : RdS (a :: S) H x d) : RdS (a :: S) (upd H a o) x d := r.move (fun b o' n e => by rw [upd_ne (fun z => n (by rw [z]; exact .head _))]; exact e) fun _ n => n
theorem rdss_upd {S : List Addr} {H : Hp} {a : Addr} {o : HO} {x : List V} {d : List PyData} (r : RdSs (a :: S) H x d) : RdSs (a :: S) (upd H a o) x d := r.move (fun b o' n e => by rw [upd_ne (fun z => n (by rw [z]; exact .head _))]; exact e) fun _ n => n
theorem rds_less {S : List Addr} {H : Hp} {a : Addr} {x : V} {d : PyData} (r : RdS (a :: S) H x d) : RdS S H x d := r.move (fun _ _ _ e => e) fun b n z => n (.tail _ z)
theorem rdss_less {S : List Addr} {H : Hp} {a : Addr} {x : List V} {d : List PyData} (r : RdSs (a :: S) H x d) : RdSs S H x d := r.move (fun _ _ _ e => e) fun b n z => n (.tail _ z)
theorem rdss_set {S : List Addr} {H : Hp} {x : V} {d : PyData} (h : RdS S H x d) : ∀ {xs : List V} {ds : List PyData} (k : Nat), RdSs S H xs ds → RdSs S H (xs.set k x) (ds.set k d)
  | _, _, _, .nil => .nil
  | _, _, 0, .cons r t => .cons h t
  | _, _, k + 1, .cons r t => .cons r (rdss_set h k t)
/-- a name's thing, without the addresses S -/
def VrS (S : List Addr) (σ : L2.St) (H : Hp) (i : Nat) (d : PyData) : Prop := ∃ v, σ[i]? = some (some v) ∧ RdS S H v d
section
variable {st D t a : Addr} {prs : Prs} {H0 H H' : Hp} {r p : Nat} {σ : L2.St} {i k : Nat} {d : PyData} {S : List Addr} {o : HO}
theorem VrS.vr (h : VrS (a :: [st]) σ H i d) : Vr (abS st D) σ H i d := let ⟨v, e, r⟩ := h; ⟨v, e, rds_less r⟩
theorem VrS.ne {x : Option V} (h : VrS S σ H i d) (n : k ≠ i) : VrS S (σ.set k x) H i d := let ⟨v, e, r⟩ := h; ⟨v, get_ne e n, r⟩
theorem VrS.upd (h : VrS (a :: S) σ H i d) : VrS (a :: S) σ (upd H a o) i d := let ⟨v, e, r⟩ := h; ⟨v, e, rds_upd r⟩
theorem VrS.same (h : VrS S σ H i d) (s : Same H H') : VrS S σ H' i d := let ⟨v, e, r⟩ := h; ⟨v, e, r.same s⟩
theorem Vr.avoid (h : Vr (abS st D) σ H i d) (n : H a = none) : VrS (a :: [st]) σ H i d := let ⟨v, e, r⟩ := h; ⟨v, e, rds_avoid n r⟩
/-- an address that came new -/
structure Nu (st D t : Addr) (prs : Prs) (H0 : Hp) (a : Addr) : Prop where
  h0 : H0 a = none
  n1 : a ≠ st
  n2 : a ≠ D
  n3 : a ≠ t
  n4 : ∀ q ∈ prs, q.1 ≠ a
theorem NtC.nu (h : NtC st D t prs H0 σ H) (n : H a = none) : Nu st D t prs H0 a := ⟨h.b.free h.S n, (h.S.ne n).symm, (h.S.neD n).symm, (ne_of_none h.T.l n).symm, fun q hq => ne_of_none (h.T.r q hq) n⟩
theorem NtC.upd (h : NtC st D t prs H0 σ H) (n : Nu st D t prs H0 a) : NtC st D t prs H0 σ (upd H a o) := by
  refine ⟨h.len, h.s0, h.s1, fun b o' nb e => ?_, ?_, ?_, fun q hq => ?_⟩
  · rw [upd_ne (fun z => by rw [z, n.h0] at e; cases e)]
    exact h.b b o' nb e
  · obtain ⟨c, ds, h1, h2, h3⟩ := h.S
    refine ⟨c, ds, ?_, ?_, h3⟩
    · rw [upd_ne n.n1.symm]
      exact h1
    · unfold Row
      rw [upd_ne n.n2.symm]
      exact h2
  · rw [upd_ne n.n3.symm]
    exact h.T.l
  · unfold Row
    rw [upd_ne (n.n4 q hq)]
    exact h.T.r q hq
theorem NtR.upd (h : NtR st D t prs H0 r p σ H) (n : Nu st D t prs H0 a) : NtR st D t prs H0 r p σ (upd H a o) := ⟨h.c.upd n, h.hr, h.hp, h.v2, h.v3, h.v4⟩
end
abbrev endD (prs : Prs) (r : Nat) : List PyData := [.list [], .tuple ((rwD prs r).map PyData.int), .none, .int 5, .str "", .dict []]
section
variable (st D t : Addr) (prs : Prs) (H0 : Hp)
def N9 (σ : L2.St) (H : Hp) : Prop := ∃ r p b a xs, NtR st D t prs H0 r p σ H ∧ BL (rws prs) r b ∧ Nu st D t prs H0 a ∧ σ[9]? = some (some (.ref a)) ∧ H a = some (.lst xs) ∧ VrS [a, st] σ H 6 b ∧ VrS [a, st] σ H 7 (setD (rwD prs r) p (.int (hiV prs))) ∧ VrS [a, st] σ H 8 (setD (rwD prs r) p (.int (loV prs))) ∧
  RdSs [a, st] H xs ([b, b, b, dRow ((rwD prs r).drop 1), dRow (rwD prs r ++ [hiV prs])] ++ endD prs r)
def N10 (σ : L2.St) (H : Hp) : Prop := ∃ r p, NtR st D t prs H0 r p σ H ∧ Vr (abS st D) σ H 7 (setD (rwD prs r) p (.int (hiV prs))) ∧ Vr (abS st D) σ H 8 (setD (rwD prs r) p (.int (loV prs))) ∧ VP (abS st D) σ H 9 (LP (BL (rws prs) r) 11 11)
end
theorem bl_plain {rows : List (List Int)} {r : Nat} {d : PyData} (h : rowD d = false) (hz : Sz 1000 4 d) : BL rows r d := ⟨bad_row h, hz⟩
theorem bl_end {prs : Prs} {r : Nat} (hg : tabB prs = true) (hb : Bnd prs) (hr : r < prs.length) : ∀ d ∈ endD prs r, BL (rws prs) r d := by
  have g := goodR_of hg
  have hl := g.len r (by rw [List.length_map]; exact hr)
  have hw := g.w
  intro d hd
  simp only [List.mem_cons, List.not_mem_nil, or_false] at hd
  rcases hd with rfl | rfl | rfl | rfl | rfl | rfl
  · exact bl_plain rfl (sz_of (by decide +kernel))
  · refine bl_plain rfl ((sz_tuple (c := 41) (k := 0) (n := 8) (fun e he => ?_) (by rw [List.length_map]; unfold rwD rws; omega)).mono (by decide) (by decide))
    obtain ⟨n, hn, rfl⟩ := List.mem_map.mp he
    exact sz_int (Nat.lt_of_lt_of_le (bnd_at hg hb hr n hn) (by decide))
  · exact bl_plain rfl (sz_of (by decide +kernel))
  · exact bl_plain rfl (sz_of (by decide +kernel))
  · exact bl_plain rfl (sz_of (by decide +kernel))
  · exact bl_plain rfl (sz_of (by decide +kernel))
section
variable {P : Program} {w : World} {K : PySem.W.Frag} {mg : Str → Option Value} {base : Heap} {f : Addr} {cdv : Value} {A : Around} {outer : List Env} {s : Shared} {Hs H0 : Hp} {E : XK} {st D t : Addr} {prs : Prs}
theorem tr8 (htu : mg "tuple" = none) (hg : tabB prs = true) : PS (ntX P w K mg base f cdv A outer s Hs E) (ntS 8) (tTr (N8 st D t prs H0) (N9 st D t prs H0)) := by
  have nd := sc_noTab.nd
  have g := goodR_of hg
  have Z : PS (ntX P w K mg base f cdv A outer s Hs E) (ntS 8) (fun E σ H => ∃ r : Nat, r < prs.length ∧ tAsg (tOp rCat (tVar 9) (tA (EnvD st D [(4, dRow (rwD prs r))]) (tE (.list (endD prs r))))) (gName 9) E σ H) := ps_w1 fun r hr => by
    have hl := g.len r (by rw [List.length_map]; exact hr)
    exact ps_set (i := 9) nd rfl (Or.inl rfl) (pe_op op_cat (pv 9) (ad_lstE (ax_consE st_env (ad_litE st_env (by kernel_rfl)) (ax_consE st_env (ad_tupleOf (ad_env (pv 4) (.head _)) htu) (ax_consE st_env (ad_litE st_env (by kernel_rfl)) (ax_consE st_env (ad_litE st_env (by kernel_rfl)) (ax_consE st_env (ad_litE st_env (by kernel_rfl)) (ax_consE st_env (ad_litE st_env (by kernel_rfl)) ax_nil)))))) (by simp)).pe)
  generalize ntS 8 = S8 at Z ⊢
  refine ps_sub Z fun Ee σ H ⟨⟨r, p, b, h, hb, v6, v7, v8, v9⟩, q⟩ => ?_
  obtain ⟨v, e9, r9⟩ := v9
  refine ⟨r, h.hr, v, e9, abS st D, h.env ?_, h.c.S, fun u H1 b1 S1 ⟨d, rd, e⟩ => ?_⟩
  · intro x hx
    simp only [List.mem_cons, List.not_mem_nil, or_false] at hx
    rcases hx with rfl
    exact h.d4
  · subst e
    have r9' := rds_but r9 b1
    cases r9' with
    | @lst a xs _ ea na ra =>
      cases rd with
      | @lst c ys _ ec nc rc =>
        refine ⟨a, c, xs, ys, rfl, rfl, ea, ec, sl6 (by rw [ra.length, rc.length]; simp), fun p9 hp => q _ _ ?_⟩
        have h1 := h.but b1.but S1
        have s9 : Same H1 (upd H1 p9 (.lst (xs ++ ys))) := Same.new hp
        exact ⟨r, p, b, p9, xs ++ ys, (h1.same s9).set (by decide), hb, h1.c.nu hp, get_eq (by rw [h.c.len]; decide), upd_same, (((v6.but b1).avoid hp).same s9).ne (by decide), (((v7.but b1).avoid hp).same s9).ne (by decide), (((v8.but b1).avoid hp).same s9).ne (by decide), (rdss_avoid hp (rdss_app ra rc)).same s9⟩
end
end Seek
namespace Seek
open PySem L2 PyProof.Rows
theorem lp_of {φ : PyData → Prop} {ds : List PyData} {lo hi : Nat} (h1 : lo ≤ ds.length) (h2 : ds.length ≤ hi) (h : ∀ d ∈ ds, φ d) : LP φ lo hi (.list ds) := ⟨ds, rfl, h1, h2, h⟩
theorem ii_int {a b : Int} : decide (V.int a = V.int b) = decide (a = b) := decide_eq_decide.mpr ⟨fun h => by injection h, fun h => by rw [h]⟩
section
variable {P : Program} {w : World} {K : PySem.W.Frag} {mg : Str → Option Value} {base : Heap} {f : Addr} {cdv : Value} {A : Around} {outer : List Env} {s : Shared} {Hs H0 : Hp} {E : XK} {st D t : Addr} {prs : Prs}
theorem bl_len {r : Nat} (hg : tabB prs = true) (hb : Bnd prs) (hr : r < prs.length) (h2 : 2 ≤ prs.length) {x : List Int} (hx : x.length ≠ w0 prs) (hl : x.length ≤ 8) (hn : ∀ n ∈ x, n.natAbs < 10 ^ 40) : BL (rws prs) r (dRow x) :=
  ⟨bad_len (goodR_of hg) (by rw [List.length_map]; exact hr) (by rw [List.length_map]; exact h2) hx, (sz_dRow hl hn).mono (by decide) (by decide)⟩
abbrev aD (prs : Prs) (r : Nat) (b : PyData) : List PyData := [b, b, b, .list [], .tuple ((rwD prs r).map PyData.int), .none, .int 5, .str "", .dict [], b, b]
set_option maxHeartbeats 16000000 in
theorem tr9 (T : Blt mg) (htu : mg "tuple" = none) (hg : tabB prs = true) (hb : Bnd prs) : PS (ntX P w K mg base f cdv A outer s Hs E) (ntS 9) (tTr (N9 st D t prs H0) (N10 st D t prs H0)) := by
  have nd := sc_noTab.nd
  have gR := goodR_of hg
  have Z : PS (ntX P w K mg base f cdv A outer s Hs E) (ntS 9) (fun E σ H => ∃ (r : Nat) (b : PyData), r < prs.length ∧ tIfS _ (tSeq (tAsg (tA (EnvD st D [(4, dRow (rwD prs r)), (6, b)]) (tE (.list (aD prs r b)))) (gName 9)) tNext) (tSeq (tIfS _ _ _) tNext) E σ H) := ps_w2 fun r b hr => by
    have hl := gR.len r (by rw [List.length_map]; exact hr)
    exact ps_if (pt_cmpR op_eq (pe_op o_add (pe_b call_len_seq T.len boot_len (pa_cons (pv 1) pa_nil)) (pe_b call_len_seq T.len boot_len (pa_cons (pe_ix ix_list (pv 1) pe_int (fun _ _ => rfl)) pa_nil))) pe_int (nomark _))
      (pss_one (ps_set (i := 9) nd rfl (Or.inl rfl) (ad_lstE (ax_consE st_env (ad_env (pv 6) (.tail _ (.head _))) (ax_consE st_env (ad_env (pv 6) (.tail _ (.head _))) (ax_consE st_env (ad_env (pv 6) (.tail _ (.head _))) (ax_consE st_env (ad_litE st_env (by kernel_rfl)) (ax_consE st_env (ad_tupleOf (ad_env (pv 4) (.head _)) htu) (ax_consE st_env (ad_litE st_env (by kernel_rfl)) (ax_consE st_env (ad_litE st_env (by kernel_rfl)) (ax_consE st_env (ad_litE st_env (by kernel_rfl)) (ax_consE st_env (ad_litE st_env (by kernel_rfl)) (ax_consE st_env (ad_env (pv 6) (.tail _ (.head _))) (ax_consE st_env (ad_env (pv 6) (.tail _ (.head _))) ax_nil))))))))))) (by simp)).pe))
      (pss_one (ps_if (pt_cmpR op_eq (pe_b call_len_seq T.len boot_len (pa_cons (pv 1) pa_nil)) pe_int (nomark _))
        (pss_cons (ps_asg (pv 6) (pg_sub (pv 9) pe_int set_list))
        (pss_one (ps_asg (pe_op op_cat (pv 4) (pe_lst (pa_cons (pe_op o_sub (pe_ix ix_list (pe_ix ix_list (pv 1) pe_int (fun _ _ => rfl)) pe_int (fun _ _ => rfl)) pe_int) pa_nil))) (pg_sub (pv 9) pe_int set_list)))) pss_nil))
  generalize ntS 9 = S9 at Z ⊢
  refine ps_sub Z fun Ee σ H ⟨⟨r, p, b, a, xs, h, hbb, nu, e9, ea, v6, v7, v8, ra⟩, q⟩ => ?_
  obtain ⟨g, g1, g2, g3, g4⟩ := good_of hg
  obtain ⟨p0, hp0, hm0, hx0⟩ := head_at (prs := prs) g1
  have hl0 := g.len p0 hm0
  have hrw := gR.len r (by rw [List.length_map]; exact h.hr)
  have hrw' : (rwD prs r).length = w0 prs := hrw
  refine ⟨r, b, h.hr, _, h.c.s1, t, _, rfl, .inl h.c.T.sq, _, h.c.s1, t, _, 0, .ref p0.1, rfl, rfl, h.c.T.sq, atI_nat (j := 0) (by rw [List.getElem?_map, hx0]; rfl), p0.1, _, rfl, .inl (h.c.T.r p0 hm0).sq, _, _, rfl, rfl, rfl, _, rfl, ?_⟩
  rw [ii_int, List.length_map, List.length_map, hl0]
  by_cases c1 : ((prs.length : Nat) : Int) + ((w0 prs : Nat) : Int) = 2
  · rw [decide_eq_true c1]
    refine iteT ⟨abS st D, h.env ?_, h.c.S, fun v H' bb S ⟨d, rd, e⟩ => q _ _ ⟨r, p, (h.but bb.but S).set (by decide), (v7.vr.but bb).ne (by decide), (v8.vr.but bb).ne (by decide), _, get_eq (by rw [h.c.len]; decide), d, rd, ?_⟩⟩
    · intro x hx
      simp only [List.mem_cons, List.not_mem_nil, or_false] at hx
      rcases hx with rfl | rfl
      · exact h.d4
      · exact v6.vr
    · rw [e]
      refine lp_of (by simp) (by simp) fun d hd => ?_
      simp only [List.mem_cons, List.not_mem_nil, or_false] at hd
      have he := bl_end hg hb h.hr
      rcases hd with rfl | rfl | rfl | rfl | rfl | rfl | rfl | rfl | rfl | rfl | rfl
      · exact hbb
      · exact hbb
      · exact hbb
      · exact he _ (by simp)
      · exact he _ (by simp)
      · exact he _ (by simp)
      · exact he _ (by simp)
      · exact he _ (by simp)
      · exact he _ (by simp)
      · exact hbb
      · exact hbb
  · rw [decide_eq_false c1]
    refine iteF ⟨_, h.c.s1, t, _, rfl, .inl h.c.T.sq, rfl, _, rfl, ?_⟩
    rw [ii_int, List.length_map]
    have hxl : xs.length = 11 := by rw [ra.length]; rfl
    by_cases c2 : ((prs.length : Nat) : Int) = 1
    · rw [decide_eq_true c2]
      have hr0 : r = 0 := by have := h.hr; omega
      subst hr0
      obtain ⟨vb, e6, r6⟩ := v6
      obtain ⟨a4, e4, hR4⟩ := h.row
      have hp00 : p0.2 = rowAt prs 0 := by
        obtain ⟨pr, hp1, hp2, hp3⟩ := rowAt_mem h.hr
        rw [hp3]
        have hpp : some p0 = some pr := hx0.symm.trans hp2
        injection hpp with hpp
        rw [hpp]
      have nt : t ≠ a := nu.n3.symm
      have n0 : p0.1 ≠ a := nu.n4 p0 hm0
      have n4 : a4 ≠ a := by
        obtain ⟨a', e', q'⟩ := h.v4
        have : a' = a4 := by
          rw [e'] at e4
          injection e4 with e4
          injection e4 with e4
          injection e4
        rw [← this]
        exact nu.n4 _ (List.mem_of_getElem? q')
      refine iteT ⟨vb, e6, _, e9, a, _, _, 3, rfl, rfl, ea, by rw [hxl]; rfl, ?_⟩
      have h1 := h.upd (o := .lst (xs.set 3 vb)) nu
      have ea1 : (upd H a (.lst (xs.set 3 vb))) a = some (.lst (xs.set 3 vb)) := upd_same
      have v71 := v7.upd (o := .lst (xs.set 3 vb))
      have v81 := v8.upd (o := .lst (xs.set 3 vb))
      have ra1 := rdss_upd (o := .lst (xs.set 3 vb)) (rdss_set r6 3 ra)
      generalize upd H a (.lst (xs.set 3 vb)) = H1 at h1 ea1 v71 v81 ra1 ⊢
      have hR41 : Row H1 a4 (rowAt prs 0) := by
        obtain ⟨a', e', hR'⟩ := h1.row
        have : a' = a4 := by
          rw [e'] at e4
          injection e4 with e4
          injection e4 with e4
          injection e4
        rw [← this]
        exact hR'
      have hp0l : 0 < p0.2.length := by omega
      refine ⟨_, e4, _, h1.c.s1, t, _, 0, .ref p0.1, rfl, rfl, h1.c.T.sq, atI_nat (j := 0) (by rw [List.getElem?_map, hx0]; rfl), p0.1, _, 0, _, rfl, rfl, (h1.c.T.r p0 hm0).sq, at_row (i := 0) hp0l, _, _, rfl, rfl, len1, fun l1 hl1 => ?_⟩
      have sl1 : Same H1 (upd H1 l1 (.lst [.int (p0.2.getD 0 0 - 1)])) := Same.new hl1
      refine ⟨a4, l1, _, _, rfl, rfl, sl1 _ _ hR41, upd_same, sl6 (by
        rw [List.length_map]
        have : (rowAt prs 0).length = w0 prs := by rw [← rows_at]; exact hrw
        simp only [List.length_singleton]
        omega), fun p2 hp2 => ?_⟩
      have sp2 := sl1.trans (Same.new (o := .lst ((rowAt prs 0).map V.int ++ [.int (p0.2.getD 0 0 - 1)])) hp2)
      have ep2 : Row (upd (upd H1 l1 (.lst [.int (p0.2.getD 0 0 - 1)])) p2 (.lst ((rowAt prs 0).map V.int ++ [.int (p0.2.getD 0 0 - 1)]))) p2 (rowAt prs 0 ++ [p0.2.getD 0 0 - 1]) := by
        unfold Row
        rw [upd_same, List.map_append]
        rfl
      have np2 : p2 ≠ a := fun z => by
        have := sl1 _ _ ea1
        rw [← z, hp2] at this
        cases this
      have nus : p2 ≠ st := fun z => by
        obtain ⟨c, ds, h1', _⟩ := h1.c.S
        have := sl1 _ _ h1'
        rw [← z, hp2] at this
        cases this
      generalize upd (upd H1 l1 (.lst [.int (p0.2.getD 0 0 - 1)])) p2 (.lst ((rowAt prs 0).map V.int ++ [.int (p0.2.getD 0 0 - 1)])) = H2 at sp2 ep2 ⊢
      have h2 := h1.same sp2
      have ea2 := sp2 _ _ ea1
      have r2 : RdS [a, st] H2 (.ref p2) (dRow (rowAt prs 0 ++ [p0.2.getD 0 0 - 1])) := by
        have hi : ∀ ns : List Int, RdSs [a, st] H2 (ns.map V.int) (ns.map PyData.int) := fun ns => by
          induction ns with
          | nil => exact .nil
          | cons n ns ih => exact .cons (.int n) ih
        exact .lst ep2 (by simp [np2, nus]) (hi _)
      refine ⟨_, e9, a, _, _, 4, rfl, rfl, ea2, by rw [List.length_set, hxl]; rfl, q _ _ ⟨0, p, h2.upd nu, ((v71.same sp2).upd).vr, ((v81.same sp2).upd).vr, _, e9, _, .lst upd_same (by simpa [abS] using nu.n1) (rdss_less (rdss_upd (rdss_set r2 4 (ra1.same sp2)))), ?_⟩⟩
      refine lp_of (by simp) (by simp) fun d hd => ?_
      have he := bl_end hg hb h.hr
      have hlast : BL (rws prs) 0 (dRow (rowAt prs 0 ++ [p0.2.getD 0 0 - 1])) := by
        have ew : rowAt prs 0 = (rws prs).getD 0 [] := (rows_at prs 0).symm
        rw [hp00, ew]
        refine ⟨bad_fall gR (by rw [List.length_map]; omega), (sz_dRow (by rw [List.length_append, List.length_singleton]; unfold rwD at hrw'; omega) (fun n hn => ?_)).mono (by decide) (by decide)⟩
        rcases List.mem_append.mp hn with z | z
        · exact Nat.lt_of_lt_of_le (bnd_at hg hb h.hr n z) (by decide)
        · rw [List.mem_singleton.mp z]
          exact (bnd_hi hg hb).2
      have hd : d ∈ [b, b, b, b, dRow (rowAt prs 0 ++ [p0.2.getD 0 0 - 1])] ++ endD prs 0 := hd
      rcases List.mem_append.mp hd with hd | hd
      · simp only [List.mem_cons, List.not_mem_nil, or_false] at hd
        rcases hd with rfl | rfl | rfl | rfl | rfl
        · exact hbb
        · exact hbb
        · exact hbb
        · exact hbb
        · exact hlast
      · exact he d hd
    · rw [decide_eq_false c2]
      refine iteF (q _ _ ⟨r, p, h, v7.vr, v8.vr, _, e9, _, .lst ea (by simpa [abS] using nu.n1) (rdss_less ra), ?_⟩)
      refine lp_of (by simp) (by simp) fun d hd => ?_
      have he := bl_end hg hb h.hr
      rcases List.mem_append.mp hd with hd | hd
      · simp only [List.mem_cons, List.not_mem_nil, or_false] at hd
        rcases hd with rfl | rfl | rfl | rfl | rfl
        · exact hbb
        · exact hbb
        · exact hbb
        · refine bl_len hg hb h.hr (by omega) (by rw [List.length_drop]; omega) (by rw [List.length_drop]; omega) fun n hn => Nat.lt_of_lt_of_le (bnd_at hg hb h.hr n (List.mem_of_mem_drop hn)) (by decide)
        · refine bl_len hg hb h.hr (by omega) (by rw [List.length_append, List.length_singleton]; omega) (by rw [List.length_append, List.length_singleton]; omega) fun n hn => ?_
          rcases List.mem_append.mp hn with z | z
          · exact Nat.lt_of_lt_of_le (bnd_at hg hb h.hr n z) (by decide)
          · rw [List.mem_singleton.mp z]
            exact (bnd_hi hg hb).1
      · exact he d hd
end
end Seek
namespace Seek
open PySem L2 PyProof.Rows
theorem eqv_pair (a b c d : Int) : PyData.eqv (.tuple [.int a, .int b]) (.tuple [.int c, .int d]) = decide (a = c ∧ b = d) := by
  by_cases h1 : a = c <;> by_cases h2 : b = d <;> simp [PyData.eqv, PyData.eqvAll, h1, h2]
theorem rd_pair {K : PySem.W.Frag} {H : Hp} {x : Addr} {a b : Int} (e : H x = some (.tup [.int a, .int b])) : RdD K H (.ref x) (.tuple [.int a, .int b]) := .tup (SqT.of e) (.cons (.int a) (.cons (.int b) .nil))
/-- what is known, and the list some -/
abbrev EnvL (st D : Addr) (l : List (Nat × PyData)) (i : Nat) (φ : PyData → Prop) : EnB := fun B σ H => EnvD st D l B σ H ∧ VP B σ H i φ
theorem st_envL {st D : Addr} {l : List (Nat × PyData)} {i : Nat} {φ : PyData → Prop} : StbE (EnvL st D l i φ) := fun _ _ _ _ ⟨h1, h2⟩ b => ⟨st_env _ _ _ _ h1 b, h2.but b⟩
theorem ad_envL {X : Cx} {st D : Addr} {l : List (Nat × PyData)} {i k : Nat} {φ : PyData → Prop} {e : Expr} {d : PyData} (h : PE X e (tVar k)) (hm : (k, d) ∈ l) : AE X (EnvL st D l i φ) e (tE d) := ad_vr h fun B σ H q => q.1.2.2 _ hm
theorem ad_some {X : Cx} {st D : Addr} {l : List (Nat × PyData)} {i : Nat} {φ : PyData → Prop} {e : Expr} (h : PE X e (tVar i)) : AE X (EnvL st D l i φ) e (tD φ) := ad_var h fun B σ H q => q.2
theorem lp_mono {φ : PyData → Prop} {lo hi lo' hi' : Nat} {d : PyData} (h : LP φ lo hi d) (h1 : lo' ≤ lo) (h2 : hi ≤ hi') : LP φ lo' hi' d := let ⟨ds, e, a, b, c⟩ := h; ⟨ds, e, by omega, by omega, c⟩
/-- no table, of a size -/
def BT (d : PyData) : Prop := ¬ GoodD d ∧ Sz 100000 8 d
section
variable (st D t : Addr) (prs : Prs) (H0 : Hp)
def N11 (σ : L2.St) (H : Hp) : Prop := ∃ r p, NtR st D t prs H0 r p σ H ∧ Vr (abS st D) σ H 8 (setD (rwD prs r) p (.int (loV prs))) ∧ VP (abS st D) σ H 9 (LP (BL (rws prs) r) 11 13)
def N12 (σ : L2.St) (H : Hp) : Prop := ∃ r p, NtR st D t prs H0 r p σ H ∧ VP (abS st D) σ H 9 (LP (BL (rws prs) r) 11 15)
def N13 (σ : L2.St) (H : Hp) : Prop := ∃ r p, NtR st D t prs H0 r p σ H ∧ VP (abS st D) σ H 9 (LP (BL (rws prs) r) 11 15) ∧ VP (abS st D) σ H 10 (LP BT 0 0)
def N14 (σ : L2.St) (H : Hp) : Prop := ∃ r p, NtR st D t prs H0 r p σ H ∧ VP (abS st D) σ H 9 (LP (BL (rws prs) r) 11 15) ∧ VP (abS st D) σ H 10 (LP BT 0 0) ∧ ∃ to : Nat, to < prs.length ∧ σ[11]? = some (some (.int (to : Nat)))
def N15 (σ : L2.St) (H : Hp) : Prop := ∃ r p, NtR st D t prs H0 r p σ H ∧ VP (abS st D) σ H 9 (LP (BL (rws prs) r) 11 15) ∧ VP (abS st D) σ H 10 (LP BT 0 3)
def N16 (σ : L2.St) (H : Hp) : Prop := ∃ r p, NtR st D t prs H0 r p σ H ∧ VP (abS st D) σ H 9 (LP (BL (rws prs) r) 11 100) ∧ VP (abS st D) σ H 10 (LP BT 0 3)
end
section
variable {P : Program} {w : World} {K : PySem.W.Frag} {mg : Str → Option Value} {base : Heap} {f : Addr} {cdv : Value} {A : Around} {outer : List Env} {s : Shared} {Hs H0 : Hp} {E : XK} {st D t : Addr} {prs : Prs}
set_option maxHeartbeats 16000000 in
theorem tr10 (T : Blt mg) (hr1 : Room 1 (ntX P w K mg base f cdv A outer s Hs E).A) (hg : tabB prs = true) (hb : Bnd prs) : PS (ntX P w K mg base f cdv A outer s Hs E) (ntS 10) (tTr (N10 st D t prs H0) (N11 st D t prs H0)) := by
  have nd := sc_noTab.nd
  have gR := goodR_of hg
  have Z : PS (ntX P w K mg base f cdv A outer s Hs E) (ntS 10) (fun E σ H => ∃ (r : Nat) (d : PyData), True ∧ tIfS _ (tSeq (tAsg (tA (EnvL st D [(7, d)] 9 (LP (BL (rws prs) r) 11 11)) (tD (fun z => BL (rws prs) r d → LP (BL (rws prs) r) (11 + 2) (11 + 2) z))) (gName 9)) tNext) tNext E σ H) := ps_w2 fun r d _ => by
    by_cases hd : BL (rws prs) r d
    · exact ps_if (pt_cmpR (op_neD hr1.units) (pe_tup (pa_cons (pv 2) (pa_cons (pv 3) pa_nil))) (pe_tup (pa_cons (pe_op o_sub (pe_b call_len_seq T.len boot_len (pa_cons (pv 1) pa_nil)) pe_int) (pa_cons (pe_op o_sub (pe_b call_len_seq T.len boot_len (pa_cons (pe_ix ix_list (pv 1) pe_int (fun _ _ => rfl)) pa_nil)) pe_int) pa_nil))) (nomark _))
        (pss_one (ps_set (i := 9) nd rfl (Or.inl rfl) (ad_imp (ad_more (φ := BL (rws prs) r) st_envL (ad_some (pv 9)) (ad_disp (au_cons st_envL (ad_imp (ad_envL (pv 7) (.head _)) fun z e => by rw [e]; exact hd) (au_cons st_envL (ad_imp (ad_envL (pv 7) (.head _)) fun z e => by rw [e]; exact hd) au_nil)))) fun z h _ => h).pe)) pss_nil
    · exact ps_if (pt_cmpR (op_neD hr1.units) (pe_tup (pa_cons (pv 2) (pa_cons (pv 3) pa_nil))) (pe_tup (pa_cons (pe_op o_sub (pe_b call_len_seq T.len boot_len (pa_cons (pv 1) pa_nil)) pe_int) (pa_cons (pe_op o_sub (pe_b call_len_seq T.len boot_len (pa_cons (pe_ix ix_list (pv 1) pe_int (fun _ _ => rfl)) pa_nil)) pe_int) pa_nil))) (nomark _))
        (pss_one (ps_set (i := 9) nd rfl (Or.inl rfl) (ad_imp (ad_more (φ := fun _ => True) st_envL (ad_imp (ad_some (pv 9)) fun z ⟨ds, e, l1, l2, _⟩ => ⟨ds, e, l1, l2, fun _ _ => trivial⟩) (ad_disp (au_cons st_envL (ad_imp (ad_envL (pv 7) (.head _)) fun z e => trivial) (au_cons st_envL (ad_imp (ad_envL (pv 7) (.head _)) fun z e => trivial) au_nil)))) fun z h n => absurd n hd).pe)) pss_nil
  generalize ntS 10 = S10 at Z ⊢
  refine ps_sub Z fun Ee σ H ⟨⟨r, p, h, v7, v8, v9⟩, q⟩ => ?_
  obtain ⟨g, g1, g2, g3, g4⟩ := good_of hg
  obtain ⟨p0, hp0, hm0, hx0⟩ := head_at (prs := prs) g1
  have hl0 := g.len p0 hm0
  refine ⟨r, setD (rwD prs r) p (.int (hiV prs)), trivial, _, h.v2, _, h.v3, len2, fun t1 ht1 => ?_⟩
  have s1 : Same H (upd H t1 (.tup [.int (r : Nat), .int (p : Nat)])) := Same.new ht1
  have e1 : (upd H t1 (.tup [.int (r : Nat), .int (p : Nat)])) t1 = _ := upd_same
  generalize upd H t1 (.tup [.int (r : Nat), .int (p : Nat)]) = H1 at s1 e1 ⊢
  have h1 := h.same s1
  refine ⟨_, h1.c.s1, t, _, rfl, .inl h1.c.T.sq, _, _, rfl, rfl, _, h1.c.s1, t, _, 0, .ref p0.1, rfl, rfl, h1.c.T.sq, atI_nat (j := 0) (by rw [List.getElem?_map, hx0]; rfl), p0.1, _, rfl, .inl (h1.c.T.r p0 hm0).sq, _, _, rfl, rfl, len2, fun t2 ht2 => ?_⟩
  rw [List.length_map, List.length_map, hl0]
  have s2 := Same.new (o := .tup [.int ((prs.length : Nat) - 1), .int ((w0 prs : Nat) - 1)]) ht2
  refine ⟨_, _, rd_pair (s2 _ _ e1), rd_pair upd_same, rfl, rfl, _, rfl, ?_⟩
  have s12 := s1.trans s2
  generalize upd H1 t2 (.tup [.int ((prs.length : Nat) - 1), .int ((w0 prs : Nat) - 1)]) = H2 at s2 s12 ⊢
  have h2 := h.same s12
  have v72 := v7.but (Same.butS s12)
  have v82 := v8.but (Same.butS s12)
  have v92 := v9.but (Same.butS s12)
  rw [eqv_pair]
  by_cases c : ((r : Nat) : Int) = (prs.length : Nat) - 1 ∧ ((p : Nat) : Int) = (w0 prs : Nat) - 1
  · rw [decide_eq_true c]
    exact iteF (q _ _ ⟨r, p, h2, v82, v92.imp fun z hz => lp_mono hz (by decide) (by decide)⟩)
  · rw [decide_eq_false c]
    refine iteT ⟨abS st D, ⟨h2.env ?_, v92⟩, h2.c.S, fun v H' bb S ⟨d, rd, e⟩ => q _ _ ⟨r, p, (h2.but bb.but S).set (by decide), (v82.but bb).ne (by decide), _, get_eq (by rw [h.c.len]; decide), d, rd, ?_⟩⟩
    · intro x hx
      simp only [List.mem_cons, List.not_mem_nil, or_false] at hx
      rcases hx with rfl
      exact v72
    · have hrr : r < (rws prs).length := by rw [List.length_map]; exact h.hr
      have hbl : BL (rws prs) r (setD (rwD prs r) p (.int (hiV prs))) := by
        refine ⟨?_, sz_setI hg hb h.hr (bnd_hi hg hb).1⟩
        rw [setD_int (by have hl : (rwD prs r).length = w0 prs := gR.len r hrr; have := h.hp; omega)]
        exact bad_high gR hrr h.hp fun z => c (by
          obtain ⟨z1, z2⟩ := z
          rw [List.length_map] at z1
          omega)
      exact lp_mono (e hbl) (by decide) (by decide)
set_option maxHeartbeats 16000000 in
theorem tr11 (hr1 : Room 1 (ntX P w K mg base f cdv A outer s Hs E).A) (hg : tabB prs = true) (hb : Bnd prs) : PS (ntX P w K mg base f cdv A outer s Hs E) (ntS 11) (tTr (N11 st D t prs H0) (N12 st D t prs H0)) := by
  have nd := sc_noTab.nd
  have gR := goodR_of hg
  have Z : PS (ntX P w K mg base f cdv A outer s Hs E) (ntS 11) (fun E σ H => ∃ (r : Nat) (d : PyData), True ∧ tIfS _ (tSeq (tAsg (tA (EnvL st D [(8, d)] 9 (LP (BL (rws prs) r) 11 13)) (tD (fun z => BL (rws prs) r d → LP (BL (rws prs) r) (11 + 2) (13 + 2) z))) (gName 9)) tNext) tNext E σ H) := ps_w2 fun r d _ => by
    by_cases hd : BL (rws prs) r d
    · exact ps_if (pt_cmpR (op_neD hr1.units) (pe_tup (pa_cons (pv 2) (pa_cons (pv 3) pa_nil))) (pe_tup (pa_cons pe_int (pa_cons pe_int pa_nil))) (nomark _))
        (pss_one (ps_set (i := 9) nd rfl (Or.inl rfl) (ad_imp (ad_more (φ := BL (rws prs) r) st_envL (ad_some (pv 9)) (ad_disp (au_cons st_envL (ad_imp (ad_envL (pv 8) (.head _)) fun z e => by rw [e]; exact hd) (au_cons st_envL (ad_imp (ad_envL (pv 8) (.head _)) fun z e => by rw [e]; exact hd) au_nil)))) fun z h _ => h).pe)) pss_nil
    · exact ps_if (pt_cmpR (op_neD hr1.units) (pe_tup (pa_cons (pv 2) (pa_cons (pv 3) pa_nil))) (pe_tup (pa_cons pe_int (pa_cons pe_int pa_nil))) (nomark _))
        (pss_one (ps_set (i := 9) nd rfl (Or.inl rfl) (ad_imp (ad_more (φ := fun _ => True) st_envL (ad_imp (ad_some (pv 9)) fun z ⟨ds, e, l1, l2, _⟩ => ⟨ds, e, l1, l2, fun _ _ => trivial⟩) (ad_disp (au_cons st_envL (ad_imp (ad_envL (pv 8) (.head _)) fun z e => trivial) (au_cons st_envL (ad_imp (ad_envL (pv 8) (.head _)) fun z e => trivial) au_nil)))) fun z h n => absurd n hd).pe)) pss_nil
  generalize ntS 11 = S11 at Z ⊢
  refine ps_sub Z fun Ee σ H ⟨⟨r, p, h, v8, v9⟩, q⟩ => ?_
  refine ⟨r, setD (rwD prs r) p (.int (loV prs)), trivial, _, h.v2, _, h.v3, len2, fun t1 ht1 => ?_⟩
  have s1 : Same H (upd H t1 (.tup [.int (r : Nat), .int (p : Nat)])) := Same.new ht1
  have e1 : (upd H t1 (.tup [.int (r : Nat), .int (p : Nat)])) t1 = _ := upd_same
  generalize upd H t1 (.tup [.int (r : Nat), .int (p : Nat)]) = H1 at s1 e1 ⊢
  refine ⟨len2, fun t2 ht2 => ?_⟩
  have s2 := Same.new (o := .tup [.int 0, .int 0]) ht2
  refine ⟨_, _, rd_pair (s2 _ _ e1), rd_pair upd_same, rfl, rfl, _, rfl, ?_⟩
  have s12 := s1.trans s2
  generalize upd H1 t2 (.tup [.int 0, .int 0]) = H2 at s2 s12 ⊢
  have h2 := h.same s12
  have v82 := v8.but (Same.butS s12)
  have v92 := v9.but (Same.butS s12)
  rw [eqv_pair]
  by_cases c : ((r : Nat) : Int) = 0 ∧ ((p : Nat) : Int) = 0
  · rw [decide_eq_true c]
    exact iteF (q _ _ ⟨r, p, h2, v92.imp fun z hz => lp_mono hz (by decide) (by decide)⟩)
  · rw [decide_eq_false c]
    refine iteT ⟨abS st D, ⟨h2.env ?_, v92⟩, h2.c.S, fun v H' bb S ⟨d, rd, e⟩ => q _ _ ⟨r, p, (h2.but bb.but S).set (by decide), _, get_eq (by rw [h.c.len]; decide), d, rd, ?_⟩⟩
    · intro x hx
      simp only [List.mem_cons, List.not_mem_nil, or_false] at hx
      rcases hx with rfl
      exact v82
    · have hrr : r < (rws prs).length := by rw [List.length_map]; exact h.hr
      have hbl : BL (rws prs) r (setD (rwD prs r) p (.int (loV prs))) := by
        refine ⟨?_, sz_setI hg hb h.hr (bnd_hi hg hb).2⟩
        rw [setD_int (by have hl : (rwD prs r).length = w0 prs := gR.len r hrr; have := h.hp; omega)]
        exact bad_low gR hrr h.hp fun z => c (by omega)
      exact lp_mono (e hbl) (by decide) (by decide)
theorem tr12 : PS (ntX P w K mg base f cdv A outer s Hs E) (ntS 12) (tTr (N12 st D t prs H0) (N13 st D t prs H0)) := by
  have nd := sc_noTab.nd
  refine tr_set (i := 10) (ps_set (i := 10) nd rfl (Or.inl rfl) (pe_lst pa_nil)) fun σ H Q hh q => ?_
  obtain ⟨r, p, h, v9⟩ := hh
  refine ⟨len0, fun l hl => q _ _ ?_⟩
  have s1 : Same H (upd H l (.lst [])) := Same.new hl
  exact ⟨r, p, (h.same s1).set (by decide), (v9.but (Same.butS s1)).ne (by decide), _, get_eq (by rw [h.c.len]; decide), _, .lst upd_same ((abS st D).fresh h.c.S hl) .nil, lp_of (by simp) (by simp) fun d hd => nomatch hd⟩
theorem tr13 (T : Blt mg) (G : FnAt P w K mg base 1 "_law_take" ["store", "many"] spTake) (hr : Room 1 (ntX P w K mg base f cdv A outer s Hs E).A) (hg : tabB prs = true) : PS (ntX P w K mg base f cdv A outer s Hs E) (ntS 13) (tTr (N13 st D t prs H0) (N14 st D t prs H0)) := by
  have nd := sc_noTab.nd
  refine tr_set (i := 11) (ps_set (i := 11) nd rfl (Or.inl rfl) (pe_f G hr (pa_cons (pv 0) (pa_cons (pe_b call_len_seq T.len boot_len (pa_cons (pv 1) pa_nil)) pa_nil)))) fun σ H Q hh q => ?_
  obtain ⟨r, p, h, v9, v10⟩ := hh
  obtain ⟨g, g1, g2, g3, g4⟩ := good_of hg
  refine ⟨_, h.c.s0, _, h.c.s1, t, _, rfl, .inl h.c.T.sq, st, D, _, rfl, by rw [List.length_map]; omega, h.c.S, fun d H' d0 d1 _ b S => q _ _ ⟨r, p, (h.but b S).set (by decide), (v9.but b.butS).ne (by decide), (v10.but b.butS).ne (by decide), d.toNat, ?_, ?_⟩⟩
  · rw [List.length_map] at d1
    omega
  · rw [get_eq (by rw [h.c.len]; decide), show ((d.toNat : Nat) : Int) = d by omega]
end
end Seek
namespace Seek
open PySem L2 PyProof.Rows
theorem rdss_intsS {S : List Addr} {H : Hp} : ∀ ns : List Int, RdSs S H (ns.map V.int) (ns.map PyData.int)
  | [] => .nil
  | n :: ns => .cons (.int n) (rdss_intsS ns)
theorem rds_rowS {S : List Addr} {H : Hp} {a : Addr} {ns : List Int} (h : Row H a ns) (n : a ∉ S) : RdS S H (.ref a) (dRow ns) := .lst h n (rdss_intsS ns)
/-- rows at addresses, as data -/
theorem rdss_rowsS {S : List Addr} {H : Hp} : ∀ {as : List Addr} {rows : List (List Int)}, as.length = rows.length → (∀ (i : Nat) a x, as[i]? = some a → rows[i]? = some x → Row H a x ∧ a ∉ S) → RdSs S H (as.map V.ref) (rows.map dRow)
  | [], [], _, _ => .nil
  | a :: as, x :: xs, hl, h => .cons (rds_rowS (h 0 a x rfl rfl).1 (h 0 a x rfl rfl).2) (rdss_rowsS (by simpa using hl) fun i b y e1 e2 => h (i + 1) b y e1 e2)
  | [], _ :: _, hl, _ => by simp at hl
  | _ :: _, [], hl, _ => by simp at hl
theorem sz_rows {rows : List (List Int)} (hn : rows.length ≤ 6) (hr : ∀ x ∈ rows, x.length ≤ 8 ∧ ∀ n ∈ x, n.natAbs < 10 ^ 40) : Sz 100000 8 (dTab rows) := by
  refine (sz_list (c := 400) (k := 1) (n := 6) (fun d hd => ?_) (by rw [List.length_map]; exact hn)).mono (by decide) (by decide)
  obtain ⟨x, hx, rfl⟩ := List.mem_map.mp hd
  exact sz_dRow (hr x hx).1 (hr x hx).2
/-- the rows with one shorter and one longer -/
def mdR (rows : List (List Int)) (r to : Nat) (x : Int) : List (List Int) := (rows.set r (rows.getD r []).dropLast).set to (rows.getD to [] ++ [x])
theorem mdR_get {rows : List (List Int)} {r to i : Nat} {x : Int} (hr : r < rows.length) (ht : to < rows.length) (hne : to ≠ r) : (mdR rows r to x)[i]? = if i = to then some (rows.getD to [] ++ [x]) else if i = r then some (rows.getD r []).dropLast else rows[i]? := by
  unfold mdR
  rw [List.getElem?_set, List.length_set]
  by_cases h : to = i
  · rw [if_pos h, if_pos h.symm, if_pos ht]
  · rw [if_neg h, if_neg (Ne.symm h), List.getElem?_set]
    by_cases h2 : r = i
    · rw [if_pos h2, if_pos h2.symm, if_pos hr]
    · rw [if_neg h2, if_neg (Ne.symm h2)]
theorem mdR_bad {W : Nat} {rows : List (List Int)} (g : GoodR W rows) {r to : Nat} {x : Int} (hr : r < rows.length) (ht : to < rows.length) (hne : to ≠ r) : ¬ GoodD (dTab (mdR rows r to x)) := by
  have l1 : (mdR rows r to x).length = rows.length := by unfold mdR; rw [List.length_set, List.length_set]
  refine bad_lens (i := r) (k := to) (by omega) (by omega) ?_
  have e1 : (mdR rows r to x).getD r [] = (rows.getD r []).dropLast := by rw [List.getD_eq_getElem?_getD, mdR_get hr ht hne, if_neg (Ne.symm hne), if_pos rfl]; rfl
  have e2 : (mdR rows r to x).getD to [] = rows.getD to [] ++ [x] := by rw [List.getD_eq_getElem?_getD, mdR_get hr ht hne, if_pos rfl]; rfl
  rw [e1, e2, List.length_dropLast, List.length_append, List.length_singleton, g.len r hr, g.len to ht]
  have := g.w
  omega
section
variable {P : Program} {w : World} {K : PySem.W.Frag} {mg : Str → Option Value} {base : Heap} {f : Addr} {cdv : Value} {A : Around} {outer : List Env} {s : Shared} {Hs H0 : Hp} {E : XK} {st D t : Addr} {prs : Prs}
theorem atQ {qs : List (Addr × (Addr × List Int))} {prs : Prs} (hm : qs.map (·.2) = prs) {i : Nat} (hi : i < prs.length) : ∃ q, qs[i]? = some q ∧ q ∈ qs ∧ q.2.2 = rwD prs i := by
  subst hm
  rw [List.length_map] at hi
  refine ⟨qs[i], List.getElem?_eq_getElem hi, List.getElem_mem _, ?_⟩
  have : (qs.map (·.2))[i]? = some qs[i].2 := by rw [List.getElem?_map, List.getElem?_eq_getElem hi]; rfl
  unfold rwD rws
  rw [List.getD_eq_getElem?_getD, List.getElem?_map, this]
  rfl
set_option maxHeartbeats 32000000 in
theorem tr14 (T : Blt mg) (G : FnAt P w K mg base 1 "_law_take" ["store", "many"] spTake) (hr1 : Room 1 (ntX P w K mg base f cdv A outer s Hs E).A) (hg : tabB prs = true) (hb : Bnd prs) : PS (ntX P w K mg base f cdv A outer s Hs E) (ntS 14) (tTr (N14 st D t prs H0) (N15 st D t prs H0)) := by
  have nd := sc_noTab.nd
  have nd1 : (["line"] : List Str).Nodup := by decide +kernel
  have gR := goodR_of hg
  have Z : PS (ntX P w K mg base f cdv A outer s Hs E) (ntS 14) _ := ps_if (PW.pt (pw_and (pt_cmpR op_ne (pv 11) (pv 2) (nomark _)) (pw_and1 (pt_cmpR o_gt (pe_b call_len_seq T.len boot_len (pa_cons (pv 4) pa_nil)) pe_int (nomark _)))))
    (pss_cons (ps_setC ["line"] [none] (defScope dNoTable) ntN (i := 12) nd rfl (Or.inl rfl) rfl (pi_list (pv 1)) (by decide +kernel) (fun cl C s2 H2 ex => pg_c 0 nd1) (fun cl C s2 H2 ex => pifs_nil) (fun cl C s2 H2 ex => pe_t (listK K) T.list boot_list (pa_cons (pv 0) pa_nil)))
    (pss_cons (ps_expr (pe_bm0 PySem.F.plainAttrs_list PySem.F.slot_list_pop PySem.F.type_list_pop mt_pop (pe_ix ix_list (pv 12) (pv 2) (fun _ _ => rfl))))
    (pss_cons (ps_expr (pe_bm PySem.F.plainAttrs_list PySem.F.slot_list_append PySem.F.type_list_append mt_append (pe_ix ix_list (pv 12) (pv 11) (fun _ _ => rfl)) (pa_cons (pe_op o_add (pe_ix ix_list (pe_ix ix_list (pv 12) (pv 11) (fun _ _ => rfl)) (pe_un o_neg pe_int) (fun _ _ => rfl)) (pe_f G hr1 (pa_cons (pv 0) (pa_cons pe_int pa_nil)))) pa_nil)))
    (pss_one (ps_set (i := 10) nd rfl (Or.inl rfl) (pe_op op_cat (pv 10) (pe_lst (pa_cons (pv 12) (pa_cons (pv 12) (pa_cons (pv 12) pa_nil)))))))))) pss_nil
  generalize ntS 14 = S14 at Z ⊢
  refine ps_sub Z fun Ee σ H ⟨⟨r, p, h, v9, v10, to, hto, e11⟩, q⟩ => ?_
  obtain ⟨g, g1, g2, g3, g4⟩ := good_of hg
  obtain ⟨a4, e4, hR4⟩ := h.row
  have hl4 : (rowAt prs r).length = w0 prs := by
    have := gR.len r (by rw [List.length_map]; exact h.hr)
    rw [rows_at] at this
    exact this
  have out : N15 st D t prs H0 σ H := ⟨r, p, h, v9, v10.imp fun z hz => lp_mono hz (by decide) (by decide)⟩
  refine ⟨_, e11, _, h.v2, rfl, _, rfl, ?_⟩
  rw [ii_int]
  by_cases c1 : ((to : Nat) : Int) = (r : Nat)
  · rw [decide_eq_true c1]
    exact iteF (iteF (q _ _ out))
  · rw [decide_eq_false c1]
    have hne : to ≠ r := fun z => c1 (by rw [z])
    refine iteT ⟨_, e4, a4, _, rfl, .inl hR4.sq, _, _, rfl, rfl, _, rfl, ?_⟩
    by_cases c2' : ¬ (((rowAt prs r).map V.int).length : Int) > 1
    · rw [decide_eq_false c2']
      exact iteF (q _ _ out)
    · have c2 : (((rowAt prs r).map V.int).length : Int) > 1 := Decidable.not_not.mp c2'
      rw [decide_eq_true c2]
      refine iteT ⟨_, h.c.s1, t, rfl, ⟨_, h.c.T.sq⟩, comp_objsL (fun p : Addr × List Int => V.ref p.1) (fun p => .lst (p.2.map V.int)) h.c.T.sq (by omega) (fun p hp H' Q' sm q' => ?_) fun M qs H2 hM hqm hnd hq s2 eM => ?_⟩
      · exact ⟨_, rfl, p.1, _, rfl, .inl ((h.c.T.same sm).r p hp).sq, fun l hl => q' l _ hl (Same.new hl) upd_same⟩
      · have hql : qs.length = prs.length := by rw [← hqm, List.length_map]
        obtain ⟨qr, hqr, mqr, dqr⟩ := atQ hqm h.hr
        obtain ⟨qt, hqt, mqt, dqt⟩ := atQ hqm hto
        have hlr : (rwD prs r).length = w0 prs := gR.len r (by rw [List.length_map]; exact h.hr)
        have hlt : (rwD prs to).length = w0 prs := gR.len to (by rw [List.length_map]; exact hto)
        have inj : ∀ (i j : Nat) (q q' : Addr × (Addr × List Int)), qs[i]? = some q → qs[j]? = some q' → q.1 = q'.1 → i = j := fun i j x y hi hj e => by
          refine (List.getElem?_inj (l := qs.map (·.1)) ?_ hnd).mp ?_
          · rw [List.length_map]
            exact (List.getElem?_eq_some_iff.mp hi).1
          · rw [List.getElem?_map, List.getElem?_map, hi, hj]
            simp [e]
        have nrt : qr.1 ≠ qt.1 := fun z => hne (inj to r qt qr hqt hqr z.symm)
        have h2 := h.same s2
        have nuQ : ∀ x ∈ qs, Nu st D t prs H0 x.1 := fun x hx => h.c.nu (hq x hx).2.1
        have nuM : Nu st D t prs H0 M := h.c.nu hM
        -- pop
        have er : H2 qr.1 = some (.lst ((rwD prs r).map V.int)) := by rw [(hq qr mqr).1, dqr]
        have e12 : (σ.set 12 (some (.ref M)))[12]? = some (some (.ref M)) := get_eq (by rw [h.c.len]; decide)
        refine ⟨_, e12, _, get_ne h.v2 (by decide), M, _, _, .ref qr.1, rfl, rfl, SqL.of eM, atI_nat (by rw [List.getElem?_map, hqr]; rfl), .inl ⟨rfl, _, SqL.of er⟩, qr.1, _, _, rfl, rfl, er, List.getElem?_eq_getElem (by rw [List.length_map]; omega), ?_⟩
        rw [← List.map_dropLast]
        have h3 := h2.upd (o := .lst ((rwD prs r).dropLast.map V.int)) (nuQ qr mqr)
        have er3 : (upd H2 qr.1 (.lst ((rwD prs r).dropLast.map V.int))) qr.1 = some (.lst ((rwD prs r).dropLast.map V.int)) := upd_same
        have eo3 : ∀ b o, b ≠ qr.1 → H2 b = some o → (upd H2 qr.1 (.lst ((rwD prs r).dropLast.map V.int))) b = some o := fun b o n e => by rw [upd_ne n]; exact e
        have b3 : ∀ b o, H b = some o → (upd H2 qr.1 (.lst ((rwD prs r).dropLast.map V.int))) b = some o := fun b o e => by
          rw [upd_ne (fun z => by rw [z, (hq qr mqr).2.1] at e; cases e)]
          exact s2 _ _ e
        generalize upd H2 qr.1 (.lst ((rwD prs r).dropLast.map V.int)) = H3 at h3 er3 eo3 b3 ⊢
        have eM3 := eo3 M _ (fun z => (hq qr mqr).2.2 z.symm) eM
        have et3 : H3 qt.1 = some (.lst ((rwD prs to).map V.int)) := eo3 _ _ (Ne.symm nrt) (by rw [(hq qt mqt).1, dqt])
        -- append
        have e11' : (σ.set 12 (some (.ref M)))[11]? = some (some (.int (to : Nat))) := get_ne e11 (by decide)
        obtain ⟨y, hy⟩ : ∃ y, ((rwD prs to).map V.int)[(rwD prs to).length - 1]? = some (.int y) := ⟨(rwD prs to)[(rwD prs to).length - 1]'(by omega), by rw [List.getElem?_map, List.getElem?_eq_getElem (by omega)]; rfl⟩
        refine ⟨_, e12, _, e11', M, _, _, .ref qt.1, rfl, rfl, SqL.of eM3, atI_nat (by rw [List.getElem?_map, hqt]; rfl), .inl ⟨rfl, _, SqL.of et3⟩, _, e12, _, e11', M, _, _, .ref qt.1, rfl, rfl, SqL.of eM3, atI_nat (by rw [List.getElem?_map, hqt]; rfl), 1, rfl, qt.1, _, _, .int y, rfl, rfl, SqL.of et3, ?_, _, get_ne h.c.s0 (by decide), st, D, _, rfl, by decide, h3.c.S, fun d H4 d0 d1 _ b4 S4 => ?_⟩
        · unfold atI
          rw [List.length_map, ixN_last (by omega)]
          exact hy
        have h4 := h3.but b4 S4
        have et4 := b4 _ _ (nuQ qt mqt).n1 et3
        have er4 := b4 _ _ (nuQ qr mqr).n1 er3
        have eM4 := b4 _ _ nuM.n1 eM3
        refine ⟨_, _, rfl, rfl, qt.1, _, _, rfl, rfl, et4, sl6 (by rw [List.length_map]; omega), ?_⟩
        have h5 := h4.upd (o := .lst ((rwD prs to).map V.int ++ [.int (y + d)])) (nuQ qt mqt)
        have et5 : Row (upd H4 qt.1 (.lst ((rwD prs to).map V.int ++ [.int (y + d)]))) qt.1 (rwD prs to ++ [y + d]) := by
          unfold Row
          rw [upd_same, List.map_append]
          rfl
        have eo5 : ∀ b o, b ≠ qt.1 → H4 b = some o → (upd H4 qt.1 (.lst ((rwD prs to).map V.int ++ [.int (y + d)]))) b = some o := fun b o n e => by rw [upd_ne n]; exact e
        have b5 : ButS [st] H (upd H4 qt.1 (.lst ((rwD prs to).map V.int ++ [.int (y + d)]))) := fun b o n e => by
          have nb : b ≠ qt.1 := fun z => by rw [z, (hq qt mqt).2.1] at e; cases e
          exact eo5 _ _ nb (b4 _ _ (by simpa using n) (b3 _ _ e))
        generalize upd H4 qt.1 (.lst ((rwD prs to).map V.int ++ [.int (y + d)])) = H5 at h5 et5 eo5 b5 ⊢
        have eM5 := eo5 M _ (fun z => (hq qt mqt).2.2 z.symm) eM4
        have er5 : Row H5 qr.1 (rwD prs r).dropLast := eo5 _ _ nrt er4
        have rM : RdS (abS st D).S H5 (.ref M) (dTab (mdR (rws prs) r to (y + d))) := by
          have hrows := rdss_rowsS (S := (abS st D).S) (H := H5) (as := qs.map (·.1)) (rows := mdR (rws prs) r to (y + d)) (by rw [List.length_map, hql]; unfold mdR; rw [List.length_set, List.length_set, List.length_map]) fun i a x ha hx => by
            rw [List.getElem?_map] at ha
            obtain ⟨qi, hqi, rfl⟩ := Option.map_eq_some_iff.mp ha
            have mqi := List.mem_of_getElem? hqi
            rw [mdR_get (by rw [List.length_map]; exact h.hr) (by rw [List.length_map]; exact hto) hne] at hx
            refine ⟨?_, by simpa [abS] using (nuQ qi mqi).n1⟩
            by_cases c3 : i = to
            · subst c3
              rw [if_pos rfl] at hx
              have : qi = qt := Option.some.inj (hqi.symm.trans hqt)
              subst this
              rw [← Option.some.inj hx]
              exact et5
            · rw [if_neg c3] at hx
              by_cases c4 : i = r
              · subst c4
                rw [if_pos rfl] at hx
                have : qi = qr := Option.some.inj (hqi.symm.trans hqr)
                subst this
                rw [← Option.some.inj hx]
                exact er5
              · rw [if_neg c4] at hx
                have hil : i < prs.length := by rw [← hql]; exact (List.getElem?_eq_some_iff.mp hqi).1
                have n1 : qi.1 ≠ qt.1 := fun z => c3 (inj i to qi qt hqi hqt z)
                have n2 : qi.1 ≠ qr.1 := fun z => c4 (inj i r qi qr hqi hqr z)
                obtain ⟨qj, hqj, mqj, dqj⟩ := atQ hqm hil
                have : qi = qj := Option.some.inj (hqi.symm.trans hqj)
                subst this
                have hxe : x = rwD prs i := by
                  have : (rws prs).getD i [] = x := by rw [List.getD_eq_getElem?_getD, hx]; rfl
                  exact this.symm
                rw [hxe, ← dqj]
                exact eo5 _ _ n1 (b4 _ _ (nuQ qi mqi).n1 (eo3 _ _ n2 (hq qi mqi).1))
          refine .lst (xs := (qs.map (·.1)).map V.ref) ?_ (by simpa [abS] using nuM.n1) hrows
          rw [eM5, List.map_map]
          rfl
        -- wholes
        have v10' : VP (abS st D) (σ.set 12 (some (.ref M))) H5 10 (LP BT 0 0) := (v10.but b5).ne (by decide)
        obtain ⟨v, e10, d10, r10, ds, rfl, _, hds, _⟩ := v10'
        have hds0 : ds = [] := List.length_eq_zero_iff.mp (by omega)
        subst hds0
        cases r10 with
        | @lst a10 xs10 _ ea10 na10 ra10 =>
          have hxs0 : xs10 = [] := by cases ra10; rfl
          subst hxs0
          refine ⟨_, e10, _, e12, _, e12, _, e12, len3, fun l1 hl1 => ⟨a10, l1, _, _, rfl, rfl, (Same.new hl1) _ _ ea10, upd_same, (show 3 ≤ sizeLine by decide), fun l2 hl2 => q _ _ ?_⟩⟩
          have s6 := (Same.new (o := .lst [.ref M, .ref M, .ref M]) hl1).trans (Same.new (o := .lst ([] ++ [.ref M, .ref M, .ref M])) hl2)
          have rM6 := rM.same s6
          refine ⟨r, p, ((h5.same s6).set (by decide)).set (by decide), ((((v9.but b5).but (Same.butS s6))).ne (by decide)).ne (by decide), _, get_eq (by rw [List.length_set, h.c.len]; decide), _, .lst upd_same ((abS st D).fresh ((h5.c.S).same (Same.new hl1)) hl2) (.cons rM6 (.cons rM6 (.cons rM6 .nil))), lp_of (by simp) (by simp) fun z hz => ?_⟩
          have hz : z = dTab (mdR (rws prs) r to (y + d)) := by
            simp only [List.mem_cons, List.not_mem_nil, or_false] at hz
            rcases hz with z | z | z <;> exact z
          rw [hz]
          have hrr : r < (rws prs).length := by rw [List.length_map]; exact h.hr
          have htt : to < (rws prs).length := by rw [List.length_map]; exact hto
          refine ⟨mdR_bad gR hrr htt hne, sz_rows (by unfold mdR; rw [List.length_set, List.length_set, List.length_map]; exact g2) fun x hx => ?_⟩
          obtain ⟨i, hi⟩ := List.mem_iff_getElem?.mp hx
          rw [mdR_get hrr htt hne] at hi
          have hy' : y.natAbs < 10 ^ 38 := by
            refine bnd_at hg hb hto y ?_
            rw [List.getElem?_map] at hy
            obtain ⟨y', h1, h2⟩ := Option.map_eq_some_iff.mp hy
            injection h2 with h2
            rw [← h2]
            exact List.mem_of_getElem? h1
          by_cases c3 : i = to
          · rw [if_pos c3] at hi
            rw [← Option.some.inj hi]
            refine ⟨by rw [List.length_append, List.length_singleton]; unfold rwD at hlt; omega, fun n hn => ?_⟩
            rcases List.mem_append.mp hn with z | z
            · exact Nat.lt_of_lt_of_le (bnd_at hg hb hto n z) (by decide)
            · rw [List.mem_singleton.mp z]
              have : (10 : Nat) ^ 40 = 100 * 10 ^ 38 := by decide
              rw [this]
              generalize (10 : Nat) ^ 38 = MM at *
              omega
          · rw [if_neg c3] at hi
            by_cases c4 : i = r
            · rw [if_pos c4] at hi
              rw [← Option.some.inj hi]
              refine ⟨by rw [List.length_dropLast]; unfold rwD at hlr; omega, fun n hn => Nat.lt_of_lt_of_le (bnd_at hg hb h.hr n (List.dropLast_subset _ hn)) (by decide)⟩
            · rw [if_neg c4] at hi
              have hil : i < prs.length := by have := (List.getElem?_eq_some_iff.mp hi).1; rw [List.length_map] at this; exact this
              have hxe : x = rwD prs i := by
                have : (rws prs).getD i [] = x := by rw [List.getD_eq_getElem?_getD, hi]; rfl
                exact this.symm
              have hli : (rwD prs i).length = w0 prs := gR.len i (by rw [List.length_map]; exact hil)
              rw [hxe]
              exact ⟨by omega, fun n hn => Nat.lt_of_lt_of_le (bnd_at hg hb hil n hn) (by decide)⟩
end
end Seek
namespace Seek
open PySem L2 PyProof.Rows
section
variable {P : Program} {w : World} {K : PySem.W.Frag} {mg : Str → Option Value} {base : Heap} {f : Addr} {cdv : Value} {A : Around} {outer : List Env} {s : Shared} {Hs H0 : Hp} {E : XK} {st D t : Addr} {prs : Prs}
set_option maxHeartbeats 16000000 in
theorem tr15 (G : FnAt P w K mg base 2 "_law_fallen" ["store", "table", "row", "place"] spFallen) (hr2 : Room 2 (ntX P w K mg base f cdv A outer s Hs E).A) (hg : tabB prs = true) (hb : Bnd prs) : PS (ntX P w K mg base f cdv A outer s Hs E) (ntS 15) (tTr (N15 st D t prs H0) (N16 st D t prs H0)) := by
  have nd := sc_noTab.nd
  have gR := goodR_of hg
  have Y : ∀ (c : Nat × Nat × Int × Nat), (c.1 < prs.length ∧ c.2.1 < w0 prs ∧ c.2.2.1.natAbs < 10 ^ 39 ∧ Fall (rws prs) c.1 c.2.1 c.2.2.1 ∧ c.2.2.2 ≤ 100) → ∀ {p1 p2 p3 p4 p5 p6 p7 p8 p9 p10 p11 p12 p13 p14 p15 p16 p17 p18 p19 : Pos} {j1 j2},
      AE (ntX P w K mg base f cdv A outer s Hs E) (EnvL st D [(3, .int (c.2.1 : Nat)), (4, dRow (rwD prs c.1)), (13, .int c.2.2.1)] 9 (LP (BL (rws prs) c.1) 11 c.2.2.2))
        (.BinOp (.Name "some" p1) .Add (.BinOp (.List [.BinOp (.BinOp (.Subscript (.Name "numbers" p2) (.Slice none (some (.Name "place" p3)) none p4) p5) .Add (.List [.Name "one" p6] p7) p8) .Add (.Subscript (.Name "numbers" p9) (.Slice (some (.BinOp (.Name "place" p10) .Add (.Constant (.int 1) j1 p11) p12)) none none p13) p14) p15] p16) .Mult (.Constant (.int 4) j2 p17) p18) p19)
        (tD (LP (BL (rws prs) c.1) (11 + 4) (c.2.2.2 + 4))) := fun c hc {p1 p2 p3 p4 p5 p6 p7 p8 p9 p10 p11 p12 p13 p14 p15 p16 p17 p18 p19 j1 j2} => by
    obtain ⟨c1, c2, c3, c4, c5⟩ := hc
    have hl : (rwD prs c.1).length = w0 prs := gR.len c.1 (by rw [List.length_map]; exact c1)
    have hw := gR.w
    have hbl : BL (rws prs) c.1 (setD (rwD prs c.1) c.2.1 (.int c.2.2.1)) := by
      refine ⟨?_, sz_setI hg hb c1 (Nat.lt_of_lt_of_le c3 (by decide))⟩
      rw [setD_int (by omega)]
      exact bad_fallen gR (by rw [List.length_map]; exact c1) c2 c4
    exact ad_more (φ := BL (rws prs) c.1) st_envL (ad_some (pv 9)) (ad_repE st_envL (ad_disp (au_cons st_envL (ad_imp (ad_setE st_envL (ad_envL (pv 4) (.tail _ (.head _))) (ad_envL (pv 3) (.head _)) (ad_envL (pv 13) (.tail _ (.tail _ (.head _)))) (ad_envL (pv 4) (.tail _ (.head _))) (ad_envL (pv 3) (.head _)) pe_int (by omega) (by omega)) fun z e => by rw [e]; exact hbl) au_nil)) (ad_intE pe_int) (by decide) (by decide)) (by omega) (by decide)
  have Z : PS (ntX P w K mg base f cdv A outer s Hs E) (ntS 15) (tFor _ (gName 13) (tSeq (fun E σ H => ∃ (c : Nat × Nat × Int × Nat), (c.1 < prs.length ∧ c.2.1 < w0 prs ∧ c.2.2.1.natAbs < 10 ^ 39 ∧ Fall (rws prs) c.1 c.2.1 c.2.2.1 ∧ c.2.2.2 ≤ 100) ∧ tAsg (tA (EnvL st D [(3, .int (c.2.1 : Nat)), (4, dRow (rwD prs c.1)), (13, .int c.2.2.1)] 9 (LP (BL (rws prs) c.1) 11 c.2.2.2)) (tD (LP (BL (rws prs) c.1) (11 + 4) (c.2.2.2 + 4)))) (gName 9) E σ H) tNext)) :=
    ps_for PassesOwn.never rfl (pi_list (pe_f G hr2 (pa_cons (pv 0) (pa_cons (pv 1) (pa_cons (pv 2) (pa_cons (pv 3) pa_nil)))))) (pg_name (i := 13) nd rfl (Or.inl rfl))
      (pss_one (ps_w1 fun c hc => ps_set (i := 9) nd rfl (Or.inl rfl) (Y c hc).pe))
  clear Y
  generalize ntS 15 = S15 at Z ⊢
  refine ps_sub Z fun Ee σ H ⟨⟨r, p, h, v9, v10⟩, q⟩ => ?_
  refine ⟨_, h.c.s0, _, h.c.s1, _, h.v2, _, h.v3, st, D, t, prs, r, p, rfl, h.c.S, h.c.T, hg, hb, h.hr, h.hp, fun a fs H1 ha rf hfl hfs b1 S1 => ⟨a, rfl, ⟨_, rf.sq⟩, ?_⟩⟩
  refine for_list (xs := fs.map V.int) (fun k σ' H' => NtR st D t prs H0 r p σ' H' ∧ VP (abS st D) σ' H' 9 (LP (BL (rws prs) r) 11 (15 + 4 * k)) ∧ VP (abS st D) σ' H' 10 (LP BT 0 3) ∧ Row H' a fs)
    ⟨h.but b1 S1, v9.but b1.butS, v10.but b1.butS, rf⟩ (fun k σ' H' _ z => z.2.2.2.sq) ?_ ?_
  · rintro k x σ' H' hk ⟨h', w9, w10, rf'⟩
    have hkl : k < fs.length := by
      have := (List.getElem?_eq_some_iff.mp hk).1
      rwa [List.length_map] at this
    rw [List.getElem?_map, List.getElem?_eq_getElem hkl] at hk
    have hx : V.int fs[k] = x := Option.some.inj hk
    subst hx
    have hm := hfs fs[k] (List.getElem_mem hkl)
    refine ⟨(r, p, fs[k], 15 + 4 * k), ⟨h.hr, h.hp, hm.1, hm.2, by show 15 + 4 * k ≤ 100; omega⟩, abS st D, ⟨(h'.set (by decide)).env ?_, w9.ne (by decide)⟩, h'.c.S, fun v H2 b2 S2 a2 => ?_⟩
    · intro x hx
      simp only [List.mem_cons, List.not_mem_nil, or_false] at hx
      rcases hx with rfl | rfl | rfl
      · exact vr_int (get_ne h'.v3 (by decide))
      · exact h'.d4.ne (by decide)
      · exact vr_int (get_eq (by rw [h'.c.len]; decide))
    · refine ⟨((h'.set (by decide)).but b2.but S2).set (by decide), ⟨_, get_eq (by rw [List.length_set, h'.c.len]; decide), st_d _ _ _ _ ?_ (ButS.refl _ _)⟩, ((w10.ne (by decide)).but b2).ne (by decide), rf'.but h'.c.S b2.but⟩
      obtain ⟨d, rd, e⟩ := a2
      exact ⟨d, rd, lp_mono e (by decide) (by show 15 + 4 * k + 4 ≤ _; omega)⟩
  · rintro σ' H' ⟨h', w9, w10, rf'⟩
    rw [List.length_map] at w9
    exact q _ _ ⟨r, p, h', w9.imp fun z hz => lp_mono hz (by decide) (by omega), w10⟩
end
section
variable (st D t : Addr) (prs : Prs) (H0 : Hp)
def N17 (σ : L2.St) (H : Hp) : Prop := NtC st D t prs H0 σ H ∧ VP (abS st D) σ H 10 (LP BT 0 3) ∧ VP (abS st D) σ H 13 BT
def N18 (σ : L2.St) (H : Hp) : Prop := NtC st D t prs H0 σ H ∧ VP (abS st D) σ H 10 (LP BT 0 3) ∧ VP (abS st D) σ H 13 BT ∧ VP (abS st D) σ H 14 BT
def N19 (σ : L2.St) (H : Hp) : Prop := NtC st D t prs H0 σ H ∧ VP (abS st D) σ H 10 (LP BT 0 3) ∧ VP (abS st D) σ H 9 (LP BT 10 10)
def N20 (σ : L2.St) (H : Hp) : Prop := NtC st D t prs H0 σ H ∧ VP (abS st D) σ H 9 (LP BT 18 21)
end
theorem rdss_at' {S : List Addr} {H : Hp} : ∀ {xs : List V} {ds : List PyData}, RdSs S H xs ds → ∀ {x : V}, x ∈ xs → ∃ d, d ∈ ds ∧ RdS S H x d
  | _, _, .cons r t, x, h => by
    rcases List.mem_cons.mp h with z | z
    · subst z
      exact ⟨_, .head _, r⟩
    · obtain ⟨d, hd, rd⟩ := rdss_at' t z
      exact ⟨d, .tail _ hd, rd⟩
  | _, _, .nil, x, h => nomatch h
theorem cutV_to {xs : List V} {k : Nat} (h : k ≤ xs.length) : cutV xs none (some (k : Int)) = xs.take k := by
  unfold cutV
  rw [HT.sIx_none, HT.sIx_nat, List.drop_zero, Nat.sub_zero, Nat.min_eq_left h]
theorem cutV_fr {xs : List V} {k : Nat} : cutV xs (some (k : Int)) none = xs.drop k := by
  unfold cutV
  rw [HT.sIx_none, HT.sIx_nat]
  by_cases h : k ≤ xs.length
  · rw [Nat.min_eq_left h, List.take_of_length_le (by rw [List.length_drop]; omega)]
  · rw [Nat.min_eq_right (by omega), List.drop_of_length_le (Nat.le_refl _), List.drop_of_length_le (by omega)]
    simp
section
variable {P : Program} {w : World} {K : PySem.W.Frag} {mg : Str → Option Value} {base : Heap} {f : Addr} {cdv : Value} {A : Around} {outer : List Env} {s : Shared} {Hs H0 : Hp} {E : XK} {st D t : Addr} {prs : Prs}
theorem NtC.rows {σ : L2.St} {H : Hp} (h : NtC st D t prs H0 σ H) : RdSs (abS st D).S H (prs.map fun p => V.ref p.1) ((rws prs).map dRow) := by
  have z := tabRdS (S := (abS st D).S) h.T (by simpa [abS] using h.S.tab h.T.l) fun p hp => by simpa [abS] using h.S.row (h.T.r p hp)
  cases z with
  | @lst _ xs _ ea na ra =>
    have := h.T.l.symm.trans ea
    injection this with this
    injection this with this
    rw [this]
    exact ra
theorem bt_put (hg : tabB prs = true) (hb : Bnd prs) {r : Nat} (hr : r < prs.length) {d : PyData} (h : BL (rws prs) r d) : BT (putD (rws prs) r d) := by
  have gR := goodR_of hg
  have hn := gR.n
  rw [List.length_map] at hn
  refine ⟨h.1, (sz_list (c := 1000) (k := 4) (n := 6) (fun e he => ?_) ?_).mono (by decide) (by decide)⟩
  · have row : ∀ x ∈ rws prs, Sz 1000 4 (dRow x) := fun x hx => by
      obtain ⟨i, hi⟩ := List.mem_iff_getElem?.mp hx
      have hil := (List.getElem?_eq_some_iff.mp hi).1
      have hx : x = rwD prs i := by unfold rwD; rw [List.getD_eq_getElem?_getD, hi]; rfl
      have hl := gR.len i hil
      rw [List.length_map] at hil
      have hw := gR.w
      rw [hx]
      exact (sz_dRow (by unfold rwD rws; omega) fun n hn => Nat.lt_of_lt_of_le (bnd_at hg hb hil n hn) (by decide)).mono (by decide) (by decide)
    rcases List.mem_append.mp he with z | z
    · rcases List.mem_append.mp z with z | z
      · obtain ⟨x, hx, rfl⟩ := List.mem_map.mp z
        exact row x (List.mem_of_mem_take hx)
      · rw [List.mem_singleton.mp z]
        exact h.2
    · obtain ⟨x, hx, rfl⟩ := List.mem_map.mp z
      exact row x (List.mem_of_mem_drop hx)
  · simp only [List.length_append, List.length_map, List.length_take, List.length_drop, List.length_singleton]
    omega
set_option maxHeartbeats 16000000 in
theorem tr16 (T : Blt mg) (G : FnAt P w K mg base 1 "_law_take" ["store", "many"] spTake) (hr1 : Room 1 (ntX P w K mg base f cdv A outer s Hs E).A) (hg : tabB prs = true) (hb : Bnd prs) : PS (ntX P w K mg base f cdv A outer s Hs E) (ntS 16) (tTr (N16 st D t prs H0) (N17 st D t prs H0)) := by
  have nd := sc_noTab.nd
  have gR := goodR_of hg
  have Z : PS (ntX P w K mg base f cdv A outer s Hs E) (ntS 16) _ := ps_set (i := 13) nd rfl (Or.inl rfl) (pe_op op_cat (pe_op op_cat (pe_slice sl_list (pv 1) po_none (po_some (pv 2))) (pe_lst (pa_cons (pe_ix ix_list (pv 9) (pe_f G hr1 (pa_cons (pv 0) (pa_cons (pe_b call_len_seq T.len boot_len (pa_cons (pv 9) pa_nil)) pa_nil))) (fun _ _ => rfl)) pa_nil))) (pe_slice sl_list (pv 1) (po_some (pe_op o_add (pv 2) pe_int)) po_none))
  generalize ntS 16 = S16 at Z ⊢
  refine tr_set (i := 13) Z fun σ H Q ⟨r, p, h, v9, v10⟩ q => ?_
  have hn := gR.n
  rw [List.length_map] at hn
  refine ⟨_, h.c.s1, _, h.v2, _, rfl, t, _, rfl, h.c.T.sq, fun l1 hl1 => ?_⟩
  rw [cutV_to (by rw [List.length_map]; exact Nat.le_of_lt h.hr)]
  have s1 : Same H (upd H l1 (.lst ((prs.map fun p => V.ref p.1).take r))) := Same.new hl1
  have e1 : (upd H l1 (.lst ((prs.map fun p => V.ref p.1).take r))) l1 = _ := upd_same
  have h1 := h.same s1
  have nu1 : l1 ≠ st := (h.c.nu hl1).n1
  have v91 := v9.but (Same.butS s1)
  have v101 := v10.but (Same.butS s1)
  generalize upd H l1 (.lst ((prs.map fun p => V.ref p.1).take r)) = H1 at s1 e1 h1 v91 v101 ⊢
  obtain ⟨v, e9, d9, r9, ds, rfl, hd1, hd2, hds⟩ := v91
  cases r9 with
  | @lst a9 xs _ ea na ra =>
    refine ⟨_, e9, _, h1.c.s0, _, e9, a9, _, rfl, .inl (SqL.of ea), st, D, _, rfl, by rw [ra.length]; omega, h1.c.S, fun d H2 d0 d1 _ b2 S2 => ?_⟩
    have h2 := h1.but b2 S2
    have ra2 := rdss_but ra b2.butS
    have ea2 := b2.butS _ _ na ea
    obtain ⟨x, hx, hat⟩ := at_memV (xs := xs) d0 d1
    obtain ⟨dx, hdx, rx⟩ := rdss_at' ra2 hx
    refine ⟨a9, xs, d, x, rfl, rfl, SqL.of ea2, hat, len1, fun l2 hl2 => ⟨l1, l2, _, _, rfl, rfl, (Same.new hl2) _ _ (b2 _ _ nu1 e1), upd_same, sl6 (by
      rw [List.length_take, List.length_map]
      simp only [List.length_singleton]
      omega), fun l3 hl3 => ?_⟩⟩
    have s3 := (Same.new (o := .lst [x]) hl2).trans (Same.new (o := .lst ((prs.map fun p => V.ref p.1).take r ++ [x])) hl3)
    have e3 : (upd (upd H2 l2 (.lst [x])) l3 (.lst ((prs.map fun p => V.ref p.1).take r ++ [x]))) l3 = _ := upd_same
    have h3 := h2.same s3
    generalize upd (upd H2 l2 (.lst [x])) l3 (.lst ((prs.map fun p => V.ref p.1).take r ++ [x])) = H3 at s3 e3 h3 ⊢
    refine ⟨_, h3.c.s1, _, h3.v2, _, _, rfl, rfl, _, rfl, t, _, rfl, h3.c.T.sq, fun l4 hl4 => ?_⟩
    rw [show ((r : Nat) : Int) + 1 = ((r + 1 : Nat) : Int) by omega, cutV_fr]
    refine ⟨l3, l4, _, _, rfl, rfl, (Same.new hl4) _ _ e3, upd_same, sl6 (by
      rw [List.length_append, List.length_take, List.length_drop, List.length_map]
      simp only [List.length_singleton]
      omega), fun l5 hl5 => q _ _ ?_⟩
    have s5 := (Same.new (o := .lst ((prs.map fun p => V.ref p.1).drop (r + 1))) hl4).trans (Same.new (o := .lst (((prs.map fun p => V.ref p.1).take r ++ [x]) ++ (prs.map fun p => V.ref p.1).drop (r + 1))) hl5)
    have h5 := h3.same s5
    have s4 := s3.trans (Same.new (o := .lst ((prs.map fun p => V.ref p.1).drop (r + 1))) hl4)
    refine ⟨h5.c.set (by decide), ((v101.but b2.butS).but (Same.butS (s3.trans s5))).ne (by decide), _, get_eq (by rw [h.c.len]; decide), putD (rws prs) r dx, ?_, bt_put hg hb h.hr (hds dx hdx)⟩
    have rr := h5.c.rows
    have := RdS.lst (S := (abS st D).S) (H := upd (upd H3 l4 (.lst ((prs.map fun p => V.ref p.1).drop (r + 1)))) l5 (.lst (((prs.map fun p => V.ref p.1).take r ++ [x]) ++ (prs.map fun p => V.ref p.1).drop (r + 1)))) (a := l5) upd_same ((abS st D).fresh (h3.c.S.same (Same.new hl4)) hl5) (rdss_app (rdss_app (rdss_take r rr) (.cons (rx.same (s3.trans s5)) .nil)) (rdss_drop (r + 1) rr))
    unfold putD
    rw [List.map_take, List.map_drop]
    exact this
end
end Seek
namespace Seek
open PySem L2 PyProof.Rows
theorem rowD_long {ds : List PyData} (h : 6 < ds.length) : rowD (.list ds) = false := by
  rw [rowD_list]
  have : decide (ds.length ≤ 6) = false := decide_eq_false (by omega)
  simp [this]
def wdR (x : List Int) : List Int := x ++ List.replicate 6 (x.getD (x.length - 1) 0)
theorem bt_wide {prs : Prs} (hg : tabB prs = true) (hb : Bnd prs) : BT (dTab ((rws prs).map wdR)) := by
  have gR := goodR_of hg
  have hn := gR.n
  have hw := gR.w
  have row : ∀ x ∈ rws prs, x.length = w0 prs ∧ ∀ n ∈ x, n.natAbs < 10 ^ 38 := fun x hx => by
    obtain ⟨i, hi⟩ := List.mem_iff_getElem?.mp hx
    have hil := (List.getElem?_eq_some_iff.mp hi).1
    have hx : x = rwD prs i := by unfold rwD; rw [List.getD_eq_getElem?_getD, hi]; rfl
    have hl := gR.len i hil
    rw [List.length_map] at hil
    rw [hx]
    exact ⟨hl, bnd_at hg hb hil⟩
  refine ⟨?_, (sz_list (c := 600) (k := 1) (n := 6) (fun d hd => ?_) (by rw [List.length_map, List.length_map]; exact hn.2)).mono (by decide) (by decide)⟩
  · have h0 : 0 < (rws prs).length := hn.1
    refine bad_any (d := dRow (wdR ((rws prs)[0]'h0))) (List.mem_map.mpr ⟨_, List.mem_map.mpr ⟨_, List.getElem_mem h0, rfl⟩, rfl⟩) (rowD_long ?_)
    rw [List.length_map]
    unfold wdR
    rw [List.length_append, List.length_replicate]
    have := (row _ (List.getElem_mem h0)).1
    omega
  · obtain ⟨y, hy, rfl⟩ := List.mem_map.mp hd
    obtain ⟨x, hx, rfl⟩ := List.mem_map.mp hy
    have hrx := row x hx
    refine (sz_list (c := 41) (k := 0) (n := 12) (fun e he => ?_) (by rw [List.length_map]; unfold wdR; rw [List.length_append, List.length_replicate]; omega)).mono (by decide) (by decide)
    obtain ⟨n, hn', rfl⟩ := List.mem_map.mp he
    refine sz_int (Nat.lt_of_lt_of_le ?_ (show (10 : Nat) ^ 38 ≤ 10 ^ 40 by decide))
    unfold wdR at hn'
    rcases List.mem_append.mp hn' with z | z
    · exact hrx.2 n z
    · rw [List.eq_of_mem_replicate z]
      refine hrx.2 _ ?_
      rw [List.getD_eq_getElem?_getD, List.getElem?_eq_getElem (by omega)]
      exact List.getElem_mem _
theorem bt_lit {d : PyData} (h : ∀ ds, d ≠ .list ds) (hz : (d.showable && decide (d.shown.length ≤ 1000) && decide (d.depth ≤ 4)) = true) : BT d := ⟨bad_kind h, (sz_of hz).mono (by decide) (by decide)⟩
theorem flat_rep {n : Nat} {x : V} : (List.replicate n [x]).flatten = List.replicate n x := by
  induction n with
  | zero => rfl
  | succ n ih => rw [List.replicate_succ, List.flatten_cons, ih, List.replicate_succ]; rfl
section
variable {P : Program} {w : World} {K : PySem.W.Frag} {mg : Str → Option Value} {base : Heap} {f : Addr} {cdv : Value} {A : Around} {outer : List Env} {s : Shared} {Hs H0 : Hp} {E : XK} {st D t : Addr} {prs : Prs}
set_option maxHeartbeats 16000000 in
theorem tr17 (hg : tabB prs = true) (hb : Bnd prs) : PS (ntX P w K mg base f cdv A outer s Hs E) (ntS 17) (tTr (N17 st D t prs H0) (N18 st D t prs H0)) := by
  have nd := sc_noTab.nd
  have nd1 : (["numbers"] : List Str).Nodup := by decide +kernel
  have Z : PS (ntX P w K mg base f cdv A outer s Hs E) (ntS 17) _ := ps_setC ["numbers"] [none] (defScope dNoTable) ntN (i := 14) nd rfl (Or.inl rfl) rfl (pi_list (pv 1)) (by decide +kernel) (fun cl C s2 H2 ex => pg_c 0 nd1) (fun cl C s2 H2 ex => pifs_nil) (fun cl C s2 H2 ex => pe_op op_cat (pv 0) (pe_op op_rep (pe_lst (pa_cons (pe_ix (ixL K) (pv 0) (pe_un o_neg pe_int) (fun _ _ => rfl)) pa_nil)) pe_int))
  generalize ntS 17 = S17 at Z ⊢
  refine tr_set (i := 14) Z fun σ H Q ⟨h, v10, v13⟩ q => ?_
  obtain ⟨g, g1, g2, g3, g4⟩ := good_of hg
  refine ⟨_, h.s1, t, rfl, ⟨_, h.T.sq⟩, comp_objsL (fun p : Addr × List Int => V.ref p.1) (fun p => .lst ((wdR p.2).map V.int)) h.T.sq (by omega) (fun p hp H' Q' sm q' => ?_) fun M qs H2 hM hqm hnd hq s2 eM => ?_⟩
  · have hR := (h.T.same sm).r p hp
    have hl := g.len p hp
    refine ⟨_, rfl, _, rfl, 1, rfl, p.1, _, _, .int (p.2.getD (p.2.length - 1) 0), rfl, rfl, hR.sq, ?_, len1, fun l1 hl1 => ⟨l1, 6, _, rfl, rfl, upd_same, by decide, by decide, sl6 (show 6 ≤ 1000 by decide), fun l2 hl2 => ⟨p.1, l2, _, _, rfl, rfl, (Same.new hl2) _ _ ((Same.new hl1) _ _ hR), upd_same, ?_, fun l3 hl3 => q' l3 _ ?_ ?_ ?_⟩⟩⟩
    · unfold atI
      rw [List.length_map, ixN_last (by omega)]
      show (p.2.map V.int)[p.2.length - 1]? = _
      rw [List.getElem?_map, List.getElem?_eq_getElem (by omega), List.getD_eq_getElem?_getD, List.getElem?_eq_getElem (by omega)]
      rfl
    · rw [List.length_map]
      exact sl6 (by show p.2.length + 6 ≤ _; omega)
    · exact (Same.new hl1).free ((Same.new hl2).free hl3)
    · exact (Same.new hl1).trans ((Same.new hl2).trans (Same.new hl3))
    · rw [upd_same]
      unfold wdR
      rw [List.map_append, List.map_replicate]
      show some (HO.lst (_ ++ (List.replicate (6 : Int).toNat [V.int (p.2.getD (p.2.length - 1) 0)]).flatten)) = _
      rw [flat_rep]
      rfl
  · refine q _ _ ⟨(h.same s2).set (by decide), (v10.but (Same.butS s2)).ne (by decide), (v13.but (Same.butS s2)).ne (by decide), _, get_eq (by rw [h.len]; decide), _, ?_, bt_wide hg hb⟩
    have nuQ : ∀ x ∈ qs, Nu st D t prs H0 x.1 := fun x hx => h.nu (hq x hx).2.1
    have hrows := rdss_rowsS (S := (abS st D).S) (H := H2) (as := qs.map (·.1)) (rows := (rws prs).map wdR) (by rw [List.length_map, List.length_map, List.length_map, ← hqm, List.length_map]) fun i a x ha hx => by
      rw [List.getElem?_map] at ha
      obtain ⟨qi, hqi, rfl⟩ := Option.map_eq_some_iff.mp ha
      have mqi := List.mem_of_getElem? hqi
      refine ⟨?_, by simpa [abS] using (nuQ qi mqi).n1⟩
      unfold rws at hx
      rw [← hqm, List.map_map, List.map_map, List.getElem?_map, hqi] at hx
      rw [← Option.some.inj hx]
      exact (hq qi mqi).1
    refine .lst (xs := (qs.map (·.1)).map V.ref) ?_ (by simpa [abS] using (h.nu hM).n1) hrows
    rw [eM, List.map_map]
    rfl
set_option maxHeartbeats 16000000 in
theorem tr18 (htu : mg "tuple" = none) (hg : tabB prs = true) (hb : Bnd prs) : PS (ntX P w K mg base f cdv A outer s Hs E) (ntS 18) (tTr (N18 st D t prs H0) (N19 st D t prs H0)) := by
  have nd := sc_noTab.nd
  have nd1 : (["numbers"] : List Str).Nodup := by decide +kernel
  have Z : PS (ntX P w K mg base f cdv A outer s Hs E) (ntS 18) _ := ps_set (i := 9) nd rfl (Or.inl rfl) (pe_lst (pa_cons (pv 13) (pa_cons (pv 13) (pa_cons (pv 13) (pa_cons (pv 13) (pa_cons (pv 13) (pa_cons (pv 13) (pa_cons (pe_lst pa_nil) (pa_cons (pe_comp ["numbers"] [none] (defScope dNoTable) ntN rfl (pi_list (pv 1)) (by decide +kernel) (fun cl C s2 H2 ex => pg_c 0 nd1) (fun cl C s2 H2 ex => pifs_nil) (fun cl C s2 H2 ex => pe_lst pa_nil)) (pa_cons (pe_t call_tuple_of htu boot_tuple (pa_cons (pv 1) pa_nil)) (pa_cons (pv 14) pa_nil)))))))))))
  generalize ntS 18 = S18 at Z ⊢
  refine tr_set (i := 9) Z fun σ H Q ⟨h, v10, v13, v14⟩ q => ?_
  obtain ⟨g, g1, g2, g3, g4⟩ := good_of hg
  have gR := goodR_of hg
  obtain ⟨x13, e13, d13, r13, b13⟩ := v13
  obtain ⟨x14, e14, d14, r14, b14⟩ := v14
  refine ⟨_, e13, _, e13, _, e13, _, e13, _, e13, _, e13, len0, fun l1 hl1 => ?_⟩
  have s1 : Same H (upd H l1 (.lst [])) := Same.new hl1
  have e1 : RdS (abS st D).S (upd H l1 (.lst [])) (.ref l1) (.list []) := .lst upd_same ((abS st D).fresh h.S hl1) .nil
  have h1 := h.same s1
  generalize upd H l1 (.lst []) = H1 at s1 e1 h1 ⊢
  refine ⟨_, h1.s1, t, rfl, ⟨_, h1.T.sq⟩, comp_objsL (fun p : Addr × List Int => V.ref p.1) (fun p => .lst []) h1.T.sq (by omega) (fun p hp H' Q' sm q' => ⟨len0, fun l hl => q' l _ hl (Same.new hl) upd_same⟩) fun M qs H2 hM hqm hnd hq s2 eM => ?_⟩
  have h2 := h1.same s2
  have rM : RdS (abS st D).S H2 (.ref M) (.list (prs.map fun _ => .list [])) := by
    have : ∀ (l : List (Addr × (Addr × List Int))), (∀ x ∈ l, H2 x.1 = some (.lst []) ∧ x.1 ∉ (abS st D).S) → RdSs (abS st D).S H2 (l.map fun q => V.ref q.1) ((l.map (·.2)).map fun _ => .list []) := fun l => by
      induction l with
      | nil => exact fun _ => .nil
      | cons x l ih => exact fun hh => .cons (.lst (hh x (.head _)).1 (hh x (.head _)).2 .nil) (ih fun y hy => hh y (.tail _ hy))
    have z := this qs fun x hx => ⟨(hq x hx).1, by simpa [abS] using (h1.nu (hq x hx).2.1).n1⟩
    rw [hqm] at z
    exact .lst eM (by simpa [abS] using (h1.nu hM).n1) z
  refine ⟨_, h2.s1, t, _, rfl, .inl ⟨h2.T.sq, fun l3 hl3 => ⟨_, e14, (show 10 ≤ sizeLine by decide), fun l4 hl4 => q _ _ ?_⟩⟩⟩
  have s3 : Same H2 (upd H2 l3 (.tup (prs.map fun p => V.ref p.1))) := Same.new hl3
  have r3 : RdS (abS st D).S (upd H2 l3 (.tup (prs.map fun p => V.ref p.1))) (.ref l3) (.tuple ((rws prs).map dRow)) := .tup upd_same ((abS st D).fresh h2.S hl3) ((h2.same s3).rows)
  have h3 := h2.same s3
  generalize upd H2 l3 (.tup (prs.map fun p => V.ref p.1)) = H3 at s3 r3 h3 hl4 ⊢
  have s4 := Same.new (o := .lst [x13, x13, x13, x13, x13, x13, .ref l1, .ref M, .ref l3, x14]) hl4
  have sa := s1.trans (s2.trans (s3.trans s4))
  have r13' := r13.same sa
  refine ⟨(h3.same s4).set (by decide), (v10.but (Same.butS sa)).ne (by decide), _, get_eq (by rw [h.len]; decide), _, .lst upd_same ((abS st D).fresh h3.S hl4) (.cons r13' (.cons r13' (.cons r13' (.cons r13' (.cons r13' (.cons r13' (.cons (e1.same (s2.trans (s3.trans s4))) (.cons (rM.same (s3.trans s4)) (.cons (r3.same s4) (.cons (r14.same sa) .nil)))))))))), lp_of (by simp) (by simp) fun z hz => ?_⟩
  simp only [List.mem_cons, List.not_mem_nil, or_false] at hz
  rcases hz with rfl | rfl | rfl | rfl | rfl | rfl | rfl | rfl | rfl | rfl
  · exact b13
  · exact b13
  · exact b13
  · exact b13
  · exact b13
  · exact b13
  · exact ⟨bad_count (.inl rfl), (sz_of (c := 1000) (k := 4) (by decide +kernel)).mono (by decide) (by decide)⟩
  · refine ⟨?_, (sz_list (c := 2) (k := 1) (n := 6) (fun d hd => ?_) (by rw [List.length_map]; exact g2)).mono (by decide) (by decide)⟩
    · have h0 : 0 < prs.length := g1
      exact bad_any (d := .list []) (List.mem_map.mpr ⟨_, List.getElem_mem h0, rfl⟩) rfl
    · obtain ⟨_, _, rfl⟩ := List.mem_map.mp hd
      exact sz_of (by decide +kernel)
  · refine ⟨bad_kind (fun ds e => by cases e), (sz_tuple (c := 400) (k := 1) (n := 6) (fun d hd => ?_) (by rw [List.length_map, List.length_map]; exact g2)).mono (by decide) (by decide)⟩
    obtain ⟨x, hx, rfl⟩ := List.mem_map.mp hd
    obtain ⟨p, hp, rfl⟩ := List.mem_map.mp hx
    exact sz_dRow (by rw [g.len p hp]; omega) fun n hn => Nat.lt_of_lt_of_le (hb p hp n hn) (by decide)
  · exact b14
end
end Seek
namespace Seek
open PySem L2 PyProof.Rows
theorem cutD_last {ds : List PyData} (h : 1 ≤ ds.length) : cutD ds (some (-1)) none = ds.drop (ds.length - 1) := by
  unfold cutD
  have e : HT.sIx ds.length 0 (some (-1)) = ds.length - 1 := by
    unfold HT.sIx
    simp
    omega
  rw [e, HT.sIx_none, List.take_of_length_le (by rw [List.length_drop]; omega)]
section
variable {P : Program} {w : World} {K : PySem.W.Frag} {mg : Str → Option Value} {base : Heap} {f : Addr} {cdv : Value} {A : Around} {outer : List Env} {s : Shared} {Hs H0 : Hp} {E : XK} {st D t : Addr} {prs : Prs}
abbrev En19 (st D : Addr) (prs : Prs) : EnB := fun B σ H => EnvL st D [(1, dTab (rws prs))] 9 (LP BT 10 10) B σ H ∧ VP B σ H 10 (LP BT 0 3)
theorem st_19 : StbE (En19 st D prs) := fun _ _ _ _ ⟨h1, h2⟩ b => ⟨st_envL _ _ _ _ h1 b, h2.but b⟩
theorem sz_row0 (hg : tabB prs = true) (hb : Bnd prs) : ∀ x ∈ rws prs, Sz 400 1 (dRow x) ∧ 1 ≤ x.length := by
  obtain ⟨g, g1, g2, g3, g4⟩ := good_of hg
  intro x hx
  obtain ⟨p, hp, rfl⟩ := List.mem_map.mp hx
  exact ⟨sz_dRow (by rw [g.len p hp]; omega) fun n hn => Nat.lt_of_lt_of_le (hb p hp n hn) (by decide), by rw [g.len p hp]; omega⟩
set_option maxHeartbeats 32000000 in
theorem tr19 (hg : tabB prs = true) (hb : Bnd prs) : PS (ntX P w K mg base f cdv A outer s Hs E) (ntS 19) (tTr (N19 st D t prs H0) (N20 st D t prs H0)) := by
  have nd := sc_noTab.nd
  have gR := goodR_of hg
  have hn : 1 ≤ prs.length ∧ prs.length ≤ 6 := by
    have := gR.n
    rwa [List.length_map] at this
  have hT : ∀ p1 : Pos, AE (ntX P w K mg base f cdv A outer s Hs E) (En19 st D prs) (.Name "table" p1) (tE (.list ((rws prs).map dRow))) := fun p1 => ad_vr (pv 1) fun B σ H q => q.1.1.2.2 _ (.head _)
  have hA : ∀ {p1 p2 p3 p4 p5 p6 p7 p8 p9 : Pos} {j1 j2}, AE (ntX P w K mg base f cdv A outer s Hs E) (En19 st D prs) (.BinOp (.Name "table" p1) .Add (.BinOp (.Subscript (.Name "table" p2) (.Slice (some (.UnaryOp .USub (.Constant (.int 1) j1 p3) p4)) none none p5) p6) .Mult (.Constant (.int 6) j2 p7) p8) p9) (tD BT) := fun {p1 p2 p3 p4 p5 p6 p7 p8 p9 j1 j2} => by
    refine ad_cat st_19 (hT p1) (ad_repE (φ := Sz 400 1) st_19 (ad_imp (ad_slice st_19 (hT p2) (ax_some (ad_negE (ad_intE pe_int))) ax_none) fun z e => ?_) (ad_intE pe_int) (by decide) (by decide)) (fun d e => ⟨_, e, by simp only [List.length_map]; omega⟩) (fun d ⟨ds, e, l1, l2, _⟩ => ⟨ds, e, by have : (6 : Int).toNat = 6 := rfl; omega⟩) fun a b ha ⟨ds, e, l1, l2, hz⟩ => ?_
    · rw [e, cutD_last (by simp only [List.length_map]; exact hn.1)]
      refine lp_of ?_ ?_ fun d hd => ?_
      · simp only [List.length_drop, List.length_map]; omega
      · simp only [List.length_drop, List.length_map]; omega
      · obtain ⟨x, hx, rfl⟩ := List.mem_map.mp (List.mem_of_mem_drop hd)
        exact (sz_row0 hg hb x hx).1
    · injection ha with ha
      injection e with e
      subst ha e
      have e6 : (6 : Int).toNat = 6 := rfl
      rw [e6] at l1 l2
      refine ⟨bad_count (.inr ?_), (sz_list (c := 400) (k := 1) (n := 12) (fun d hd => ?_) ?_).mono (by decide) (by decide)⟩
      · simp only [List.length_append, List.length_map]; omega
      · rcases List.mem_append.mp hd with z | z
        · obtain ⟨x, hx, rfl⟩ := List.mem_map.mp z
          exact (sz_row0 hg hb x hx).1
        · exact hz d z
      · simp only [List.length_append, List.length_map]; omega
  have hB : ∀ {p1 p2 p3 : Pos} {j1}, AE (ntX P w K mg base f cdv A outer s Hs E) (En19 st D prs) (.Subscript (.Name "table" p1) (.Constant (.int 0) j1 p2) p3) (tD BT) := fun {p1 p2 p3 j1} => by
    have h0 : 0 < (rws prs).length := by simp only [List.length_map]; exact hn.1
    refine ad_imp (ad_ixE (k := 0) st_19 (hT p1) (ad_intE pe_int) (fun _ _ => rfl) (by rw [List.length_map]; exact ixN_nat h0) (getD_row h0)) fun z e => ?_
    rw [e]
    have hm : (rws prs).getD 0 [] ∈ rws prs := by rw [List.getD_eq_getElem?_getD, List.getElem?_eq_getElem h0]; exact List.getElem_mem h0
    have hx := sz_row0 hg hb _ hm
    have hl0 : 0 < ((rws prs).getD 0 []).length := hx.2
    exact ⟨bad_any (d := .int (((rws prs).getD 0 [])[0]'hl0)) (List.mem_map.mpr ⟨_, List.getElem_mem hl0, rfl⟩) rfl, hx.1.mono (by decide) (by decide)⟩
  have Z : PS (ntX P w K mg base f cdv A outer s Hs E) (ntS 19) (tAsg (tA (En19 st D prs) (tD (LP BT (10 + 8 + 0) (10 + 8 + 3)))) (gName 9)) :=
    ps_set (i := 9) nd rfl (Or.inl rfl) (ad_more (φ := BT) st_19 (ad_more (φ := BT) st_19 (ad_var (pv 9) fun B σ H q => q.1.2)
      (ad_disp (au_cons st_19 hA (au_cons st_19 (ad_lit .none st_19 (by kernel_rfl) (bt_lit (fun _ e => by cases e) (by decide +kernel))) (au_cons st_19 (ad_lit (.int 0) st_19 (by kernel_rfl) (bt_lit (fun _ e => by cases e) (by decide +kernel))) (au_cons st_19 (ad_lit (.str "") st_19 (by kernel_rfl) (bt_lit (fun _ e => by cases e) (by decide +kernel))) (au_cons st_19 (ad_lit (.dict []) st_19 (by kernel_rfl) (bt_lit (fun _ e => by cases e) (by decide +kernel))) (au_cons st_19 (ad_lit (.bool true) st_19 (by kernel_rfl) (bt_lit (fun _ e => by cases e) (by decide +kernel))) (au_cons st_19 (ad_lit (.tuple []) st_19 (by kernel_rfl) (bt_lit (fun _ e => by cases e) (by decide +kernel))) (au_cons st_19 hB au_nil))))))))))
      (ad_var (pv 10) fun B σ H q => q.2)).pe
  generalize ntS 19 = S19 at Z ⊢
  refine tr_set (i := 9) Z fun σ H Q ⟨h, v10, v9⟩ q => ?_
  refine ⟨abS st D, ⟨⟨⟨rfl, h.s0, fun x hx => ?_⟩, v9⟩, v10⟩, h.S, fun v H' b S a => ?_⟩
  · simp only [List.mem_cons, List.not_mem_nil, or_false] at hx
    rcases hx with rfl
    exact h.v1
  · obtain ⟨d, rd, z⟩ := a
    exact q _ _ ⟨(h.but b.but S).set (by decide), _, get_eq (by rw [h.len]; decide), d, rd, lp_mono z (by decide) (by decide)⟩
def tEnd (N N' : L2.St → Hp → Prop) (t : TS) : TS := fun E σ H => N σ H ∧ ∀ σ' H', N' σ' H' → t E σ' H'
theorem pss_tr {X : Cx} {S : Stmt} {ss : List Stmt} {N N1 N' : L2.St → Hp → Prop} {t : TS} (h : PS X S (tTr N N1)) (h2 : PSs X ss (tEnd N1 N' t)) : PSs X (S :: ss) (tEnd N N' t) := fun pins s σ H D I ⟨n, q⟩ => pss_cons h h2 pins s σ H D I ⟨n, fun _ _ z => ⟨z, q⟩⟩
theorem pss_end {X : Cx} {ss : List Stmt} {N : L2.St → Hp → Prop} {t : TS} (h : PSs X ss t) : PSs X ss (tEnd N N t) := fun pins s σ H D I ⟨n, q⟩ => h pins s σ H D I (q _ _ n)
def spNoTab9 : Sp := fun vs H Q _ => ∃ (s D t : Addr) (prs : Prs), vs = [.ref s, .ref t] ∧ StoreOk H s D ∧ Tab H t prs ∧ tabB prs = true ∧ Bnd prs ∧ ∀ x d H', But s H H' → StoreOk H' s D → RdS [s] H' x d → BT d → Q x H'
set_option maxHeartbeats 16000000 in
theorem ok_noTab9 (T : Blt mg) (htu : mg "tuple" = none) (Df : DefAt K mg "_law_no_table" dNoTable ["store", "table"]) (G : FnAt P w K mg base 1 "_law_take" ["store", "many"] spTake) (G2 : FnAt P w K mg base 2 "_law_fallen" ["store", "table", "row", "place"] spFallen) : FnAt P w K mg base 3 "_law_no_table" ["store", "table"] spNoTab9 := by
  refine FnAt.of Df sc_noTab (fun vs H Q E h => ?_) (fun f cdv A outer s H vs Q E hr h => ?_)
  · obtain ⟨st, D, t, prs, rfl, _⟩ := h
    rfl
  · obtain ⟨st, D, t, prs, rfl, hS0, hT, hg, hb, q⟩ := h
    have hr1 : Room 1 (ntX P w K mg base f cdv A outer s H E).A := hr.mono (by decide)
    have hr2 : Room 2 (ntX P w K mg base f cdv A outer s H E).A := hr
    have T0 := tr0 (f := f) (cdv := cdv) (A := A) (outer := outer) (s := s) (Hs := H) (E := E) (st := st) (D := D) (t := t) (H0 := H) T G hr1 hg
    have T1 := tr1 (f := f) (cdv := cdv) (A := A) (outer := outer) (s := s) (Hs := H) (E := E) (st := st) (D := D) (t := t) (H0 := H) T G hr1 hg
    have T2 := tr2 (P := P) (w := w) (K := K) (mg := mg) (base := base) (f := f) (cdv := cdv) (A := A) (outer := outer) (s := s) (Hs := H) (E := E) (st := st) (D := D) (t := t) (prs := prs) (H0 := H)
    have T3 := @tr3 P w K mg base f cdv A outer s H H E st D t prs G hr1
    have T4 := tr4 (P := P) (w := w) (K := K) (mg := mg) (base := base) (f := f) (cdv := cdv) (A := A) (outer := outer) (s := s) (Hs := H) (E := E) (st := st) (D := D) (t := t) (H0 := H) htu hg hb
    have T5 := tr5 (P := P) (w := w) (K := K) (mg := mg) (base := base) (f := f) (cdv := cdv) (A := A) (outer := outer) (s := s) (Hs := H) (E := E) (st := st) (D := D) (t := t) (H0 := H) htu hg
    have T6 := tr6 (P := P) (w := w) (K := K) (mg := mg) (base := base) (f := f) (cdv := cdv) (A := A) (outer := outer) (s := s) (Hs := H) (E := E) (st := st) (D := D) (t := t) (H0 := H) htu hg
    have T7 := tr7 (P := P) (w := w) (K := K) (mg := mg) (base := base) (f := f) (cdv := cdv) (A := A) (outer := outer) (s := s) (Hs := H) (E := E) (st := st) (D := D) (t := t) (H0 := H) htu hg
    have T8 := tr8 (P := P) (w := w) (K := K) (mg := mg) (base := base) (f := f) (cdv := cdv) (A := A) (outer := outer) (s := s) (Hs := H) (E := E) (st := st) (D := D) (t := t) (H0 := H) htu hg
    have T9 := tr9 (P := P) (w := w) (K := K) (mg := mg) (base := base) (f := f) (cdv := cdv) (A := A) (outer := outer) (s := s) (Hs := H) (E := E) (st := st) (D := D) (t := t) (H0 := H) T htu hg hb
    have T10 := tr10 (f := f) (cdv := cdv) (A := A) (outer := outer) (s := s) (Hs := H) (E := E) (st := st) (D := D) (t := t) (H0 := H) T hr1 hg hb
    have T11 := tr11 (P := P) (w := w) (K := K) (mg := mg) (base := base) (f := f) (cdv := cdv) (A := A) (outer := outer) (s := s) (Hs := H) (E := E) (st := st) (D := D) (t := t) (H0 := H) hr1 hg hb
    have T12 := tr12 (P := P) (w := w) (K := K) (mg := mg) (base := base) (f := f) (cdv := cdv) (A := A) (outer := outer) (s := s) (Hs := H) (E := E) (st := st) (D := D) (t := t) (prs := prs) (H0 := H)
    have T13 := tr13 (f := f) (cdv := cdv) (A := A) (outer := outer) (s := s) (Hs := H) (E := E) (st := st) (D := D) (t := t) (H0 := H) T G hr1 hg
    have T14 := tr14 (f := f) (cdv := cdv) (A := A) (outer := outer) (s := s) (Hs := H) (E := E) (st := st) (D := D) (t := t) (H0 := H) T G hr1 hg hb
    have T15 := tr15 (f := f) (cdv := cdv) (A := A) (outer := outer) (s := s) (Hs := H) (E := E) (st := st) (D := D) (t := t) (H0 := H) G2 hr2 hg hb
    have T16 := tr16 (f := f) (cdv := cdv) (A := A) (outer := outer) (s := s) (Hs := H) (E := E) (st := st) (D := D) (t := t) (H0 := H) T G hr1 hg hb
    have T17 := tr17 (P := P) (w := w) (K := K) (mg := mg) (base := base) (f := f) (cdv := cdv) (A := A) (outer := outer) (s := s) (Hs := H) (E := E) (st := st) (D := D) (t := t) (H0 := H) hg hb
    have T18 := tr18 (P := P) (w := w) (K := K) (mg := mg) (base := base) (f := f) (cdv := cdv) (A := A) (outer := outer) (s := s) (Hs := H) (E := E) (st := st) (D := D) (t := t) (H0 := H) htu hg hb
    have T19 := tr19 (P := P) (w := w) (K := K) (mg := mg) (base := base) (f := f) (cdv := cdv) (A := A) (outer := outer) (s := s) (Hs := H) (E := E) (st := st) (D := D) (t := t) (H0 := H) hg hb
    have T20 : PS (ntX P w K mg base f cdv A outer s H E) (ntS 20) _ := ps_ret (pe_ix ix_list (pv 9) (pe_f G hr1 (pa_cons (pv 0) (pa_cons (pe_b call_len_seq T.len boot_len (pa_cons (pv 9) pa_nil)) pa_nil))) (fun _ _ => rfl))
    have n0 : NtC st D t prs H (start ntN [.ref st, .ref t]) H := ⟨rfl, rfl, rfl, But.refl _ _, hS0, hT⟩
    have hbd : defBody dNoTable = [ntS 0, ntS 1, ntS 2, ntS 3, ntS 4, ntS 5, ntS 6, ntS 7, ntS 8, ntS 9, ntS 10, ntS 11, ntS 12, ntS 13, ntS 14, ntS 15, ntS 16, ntS 17, ntS 18, ntS 19, ntS 20] := by kernel_rfl
    rw [hbd]
    clear hbd
    generalize ntS 0 = S0 at *
    generalize ntS 1 = S1 at *
    generalize ntS 2 = S2 at *
    generalize ntS 3 = S3 at *
    generalize ntS 4 = S4 at *
    generalize ntS 5 = S5 at *
    generalize ntS 6 = S6 at *
    generalize ntS 7 = S7 at *
    generalize ntS 8 = S8 at *
    generalize ntS 9 = S9 at *
    generalize ntS 10 = S10 at *
    generalize ntS 11 = S11 at *
    generalize ntS 12 = S12 at *
    generalize ntS 13 = S13 at *
    generalize ntS 14 = S14 at *
    generalize ntS 15 = S15 at *
    generalize ntS 16 = S16 at *
    generalize ntS 17 = S17 at *
    generalize ntS 18 = S18 at *
    generalize ntS 19 = S19 at *
    generalize ntS 20 = S20 at *
    refine ⟨_, pss_tr T0 (pss_tr T1 (pss_tr T2 (pss_tr T3 (pss_tr T4 (pss_tr T5 (pss_tr T6 (pss_tr T7 (pss_tr T8 (pss_tr T9 (pss_tr T10 (pss_tr T11 (pss_tr T12 (pss_tr T13 (pss_tr T14 (pss_tr T15 (pss_tr T16 (pss_tr T17 (pss_tr T18 (pss_tr T19 (pss_end (pss_one T20))))))))))))))))))))), n0, fun σ H1 n => ?_⟩
    obtain ⟨h, v, e9, d9, r9, ds, rfl, hd1, hd2, hds⟩ := n
    cases r9 with
    | @lst a9 xs _ ea na ra =>
      refine ⟨_, e9, _, h.s0, _, e9, a9, _, rfl, .inl (SqL.of ea), st, D, _, rfl, by rw [ra.length]; omega, h.S, fun d H2 d0 d1 _ b2 S2 => ?_⟩
      have ra2 := rdss_but ra b2.butS
      have ea2 := b2.butS _ _ na ea
      obtain ⟨x, hx, hat⟩ := at_memV (xs := xs) d0 d1
      obtain ⟨dx, hdx, rx⟩ := rdss_at' ra2 hx
      exact ⟨a9, xs, d, x, rfl, rfl, SqL.of ea2, hat, q x dx H2 (h.b.trans b2) S2 rx (hds dx hdx)⟩
end
end Seek
namespace Seek
open PySem L2 PyProof.Rows
def lessN (x : Int) (ns : List Int) : Nat := (ns.filter fun n => decide (n < x)).length
def mostN (x : Int) (ns : List Int) : Nat := (ns.filter fun n => decide (n ≤ x)).length
end Seek
namespace Seek
open PySem L2 PyProof.Rows
section
variable {P : Program} {w : World} {K : PySem.W.Frag} {mg : Str → Option Value} {base : Heap}
def spLess : Sp := fun vs H Q _ => ∃ (a : Addr) (ns : List Int) (x : Int), vs = [.ref a, .int x] ∧ Row H a ns ∧ ns.length ≤ 1000 ∧ ∀ H', Same H H' → Q (.int (lessN x ns : Nat)) H'
theorem sc_less : FnScope ["row", "x"] ["row", "x"] (defScope dLess) := ⟨rfl, rfl, rfl, by decide +kernel, rfl, by decide +kernel, by decide +kernel⟩
theorem ok_less (T : Blt mg) (D : DefAt K mg "how_many_less" dLess ["row", "x"]) : FnAt P w K mg base 1 "how_many_less" ["row", "x"] spLess := by
  refine FnAt.of D sc_less (fun vs H Q E h => ?_) (fun f cdv A outer s H vs Q E hr h => ?_)
  · obtain ⟨a, ns, x, rfl, _⟩ := h
    rfl
  · obtain ⟨a, ns, x, rfl, hR, hn, q⟩ := h
    have nd1 : (["number", "x"] : List Str).Nodup := by decide +kernel
    refine ⟨_, pss_one (ps_ret (pe_b call_len_seq T.len boot_len (pa_cons (pe_comp ["number", "x"] [none, some 1] (defScope dLess) ["row", "x"] rfl (pi_list (pv 0)) (by decide +kernel)
        (fun cl C s2 H2 ex => pg_c 0 nd1) (fun cl C s2 H2 ex => pifs_one (pt_cmpR op_lt (pv 0) (pv 1) (nomark _))) (fun cl C s2 H2 ex => pv 0)) pa_nil))), ?_⟩
    refine ⟨_, rfl, a, rfl, ⟨_, hR.sq⟩, comp_of V.int (fun n => decide (n < x)) V.int hR.sq (sl6 hn) (fun n hx H' Q' sm q' => ?_) (fun n hx _ H' Q' sm q' => ?_) fun D H' hD sm hDl => ?_⟩
    · exact ⟨_, rfl, _, rfl, _, _, rfl, rfl, _, rfl, q' _ (Same.refl _)⟩
    · exact ⟨_, rfl, q' _ (Same.refl _)⟩
    · refine ⟨D, _, rfl, .inl (SqL.of hDl), ?_⟩
      rw [List.length_map]
      exact q H' sm
/-! stair_of, high_stair: of good tables -/
def spStair (f : Int → List Int → Nat) : Sp := fun vs H Q _ => ∃ (t : Addr) (prs : Prs) (x : Int), vs = [.ref t, .int x] ∧ Tab H t prs ∧ Sm prs ∧ tabB prs = true ∧
  ∀ D H', H D = none → Same H H' → Row H' D (prs.map fun p => (f x p.2 : Int)) → Q (.ref D) H'
theorem sc_stair : FnScope ["table", "x"] ["table", "x"] (defScope dStair) := ⟨rfl, rfl, rfl, by decide +kernel, rfl, by decide +kernel, by decide +kernel⟩
theorem ok_stair (D : DefAt K mg "stair_of" dStair ["table", "x"]) (G1 : FnAt P w K mg base 6 "need_table" ["thing"] spNeedTable) (G2 : FnAt P w K mg base 2 "need_number" ["thing"] spNeedNumber) (G3 : FnAt P w K mg base 1 "how_many_less" ["row", "x"] spLess) :
    FnAt P w K mg base 7 "stair_of" ["table", "x"] (spStair lessN) := by
  refine FnAt.of D sc_stair (fun vs H Q E h => ?_) (fun f cdv A outer s H vs Q E hr h => ?_)
  · obtain ⟨t, prs, x, rfl, _⟩ := h
    rfl
  · obtain ⟨t, prs, x, rfl, hT, hs, hg, q⟩ := h
    have nd1 : (["row", "x"] : List Str).Nodup := by decide +kernel
    refine ⟨_, pss_cons (ps_expr (pe_f G1 hr (pa_cons (pv 0) pa_nil))) (pss_cons (ps_expr (pe_f G2 (hr.mono (by decide)) (pa_cons (pv 1) pa_nil)))
      (pss_one (ps_ret (pe_comp ["row", "x"] [none, some 1] (defScope dStair) ["table", "x"] rfl (pi_list (pv 0)) (by decide +kernel)
        (fun cl C s2 H2 ex => pg_c 0 nd1) (fun cl C s2 H2 ex => pifs_nil) (fun cl C s2 H2 ex => pe_f G3 (hr.mono (by decide)) (pa_cons (pv 0) (pa_cons (pv 1) pa_nil))))))), ?_⟩
    refine ⟨_, rfl, t, prs, rfl, hT, hs, hg, fun H1 s1 => ⟨_, rfl, x, rfl, ?_⟩⟩
    have hT1 := hT.same s1
    refine ⟨_, rfl, t, rfl, ⟨_, hT1.sq⟩, comp_map (fun p => V.ref p.1) (fun p => .int (lessN x p.2 : Nat)) hT1.sq (sl6 hs.1) (fun p hp H' Q' sm q' => ?_) fun D H' hD sm hDl => ?_⟩
    · exact ⟨_, rfl, _, rfl, p.1, p.2, x, rfl, (hT1.r p hp).same sm, hs.2 p hp, q'⟩
    · refine q D H' (s1.free hD) (s1.trans sm) ?_
      unfold Row
      rw [hDl, List.map_map]
      rfl
end
end Seek
namespace Seek
open PySem L2 PyProof.Rows
section
variable {P : Program} {w : World} {K : PySem.W.Frag} {mg : Str → Option Value} {base : Heap}
def spMost : Sp := fun vs H Q _ => ∃ (a : Addr) (ns : List Int) (x : Int), vs = [.ref a, .int x] ∧ Row H a ns ∧ ns.length ≤ 1000 ∧ ∀ H', Same H H' → Q (.int (mostN x ns : Nat)) H'
theorem sc_most : FnScope ["row", "x"] ["row", "x"] (defScope dMost) := ⟨rfl, rfl, rfl, by decide +kernel, rfl, by decide +kernel, by decide +kernel⟩
theorem ok_most (T : Blt mg) (D : DefAt K mg "how_many_at_most" dMost ["row", "x"]) : FnAt P w K mg base 1 "how_many_at_most" ["row", "x"] spMost := by
  refine FnAt.of D sc_most (fun vs H Q E h => ?_) (fun f cdv A outer s H vs Q E hr h => ?_)
  · obtain ⟨a, ns, x, rfl, _⟩ := h
    rfl
  · obtain ⟨a, ns, x, rfl, hR, hn, q⟩ := h
    have nd1 : (["number", "x"] : List Str).Nodup := by decide +kernel
    refine ⟨_, pss_one (ps_ret (pe_b call_len_seq T.len boot_len (pa_cons (pe_comp ["number", "x"] [none, some 1] (defScope dMost) ["row", "x"] rfl (pi_list (pv 0)) (by decide +kernel)
        (fun cl C s2 H2 ex => pg_c 0 nd1) (fun cl C s2 H2 ex => pifs_one (pt_cmpR op_le (pv 0) (pv 1) (nomark _))) (fun cl C s2 H2 ex => pv 0)) pa_nil))), ?_⟩
    refine ⟨_, rfl, a, rfl, ⟨_, hR.sq⟩, comp_of V.int (fun n => decide (n ≤ x)) V.int hR.sq (sl6 hn) (fun n hx H' Q' sm q' => ?_) (fun n hx _ H' Q' sm q' => ?_) fun D H' hD sm hDl => ?_⟩
    · exact ⟨_, rfl, _, rfl, _, _, rfl, rfl, _, rfl, q' _ (Same.refl _)⟩
    · exact ⟨_, rfl, q' _ (Same.refl _)⟩
    · refine ⟨D, _, rfl, .inl (SqL.of hDl), ?_⟩
      rw [List.length_map]
      exact q H' sm
theorem sc_high : FnScope ["table", "x"] ["table", "x"] (defScope dHigh) := ⟨rfl, rfl, rfl, by decide +kernel, rfl, by decide +kernel, by decide +kernel⟩
theorem ok_high (D : DefAt K mg "high_stair" dHigh ["table", "x"]) (G1 : FnAt P w K mg base 6 "need_table" ["thing"] spNeedTable) (G2 : FnAt P w K mg base 2 "need_number" ["thing"] spNeedNumber) (G3 : FnAt P w K mg base 1 "how_many_at_most" ["row", "x"] spMost) :
    FnAt P w K mg base 7 "high_stair" ["table", "x"] (spStair mostN) := by
  refine FnAt.of D sc_high (fun vs H Q E h => ?_) (fun f cdv A outer s H vs Q E hr h => ?_)
  · obtain ⟨t, prs, x, rfl, _⟩ := h
    rfl
  · obtain ⟨t, prs, x, rfl, hT, hs, hg, q⟩ := h
    have nd1 : (["row", "x"] : List Str).Nodup := by decide +kernel
    refine ⟨_, pss_cons (ps_expr (pe_f G1 hr (pa_cons (pv 0) pa_nil))) (pss_cons (ps_expr (pe_f G2 (hr.mono (by decide)) (pa_cons (pv 1) pa_nil)))
      (pss_one (ps_ret (pe_comp ["row", "x"] [none, some 1] (defScope dHigh) ["table", "x"] rfl (pi_list (pv 0)) (by decide +kernel)
        (fun cl C s2 H2 ex => pg_c 0 nd1) (fun cl C s2 H2 ex => pifs_nil) (fun cl C s2 H2 ex => pe_f G3 (hr.mono (by decide)) (pa_cons (pv 0) (pa_cons (pv 1) pa_nil))))))), ?_⟩
    refine ⟨_, rfl, t, prs, rfl, hT, hs, hg, fun H1 s1 => ⟨_, rfl, x, rfl, ?_⟩⟩
    have hT1 := hT.same s1
    refine ⟨_, rfl, t, rfl, ⟨_, hT1.sq⟩, comp_map (fun p => V.ref p.1) (fun p => .int (mostN x p.2 : Nat)) hT1.sq (sl6 hs.1) (fun p hp H' Q' sm q' => ?_) fun D H' hD sm hDl => ?_⟩
    · exact ⟨_, rfl, _, rfl, p.1, p.2, x, rfl, (hT1.r p hp).same sm, hs.2 p hp, q'⟩
    · refine q D H' (s1.free hD) (s1.trans sm) ?_
      unfold Row
      rw [hDl, List.map_map]
      rfl
end
end Seek
namespace Seek
open PySem L2 PyProof.Rows
/-! ### counts over all rows -/
def flatP (prs : Prs) : List Int := (prs.map (·.2)).flatten
def amidN (a b : Int) (ns : List Int) : Nat := (ns.filter fun n => decide (a ≤ n) && decide (n ≤ b)).length
theorem flatP_cons (p : Addr × List Int) (r : Prs) : flatP (p :: r) = p.2 ++ flatP r := rfl
theorem less_flat (x : Int) : ∀ prs : Prs, (prs.map fun p => (lessN x p.2 : Int)).sum = (lessN x (flatP prs) : Nat)
  | [] => rfl
  | p :: r => by
    rw [List.map_cons, List.sum_cons, less_flat x r, flatP_cons]
    unfold lessN
    rw [List.filter_append, List.length_append]
    omega
theorem most_flat (x : Int) : ∀ prs : Prs, (prs.map fun p => (mostN x p.2 : Int)).sum = (mostN x (flatP prs) : Nat)
  | [] => rfl
  | p :: r => by
    rw [List.map_cons, List.sum_cons, most_flat x r, flatP_cons]
    unfold mostN
    rw [List.filter_append, List.length_append]
    omega
theorem amid_le {a b : Int} (h : a ≤ b) : ∀ ns : List Int, mostN b ns = lessN a ns + amidN a b ns
  | [] => rfl
  | n :: r => by
    have ih := amid_le h r
    unfold mostN lessN amidN at ih ⊢
    simp only [List.filter_cons]
    by_cases h1 : n < a
    · rw [if_pos (decide_eq_true (show n ≤ b by omega)), if_pos (decide_eq_true h1), if_neg (by rw [decide_eq_false (show ¬ a ≤ n by omega)]; simp)]
      simp only [List.length_cons]
      omega
    · by_cases h2 : n ≤ b
      · rw [if_pos (decide_eq_true h2), if_neg (by simpa using h1), if_pos (by rw [decide_eq_true (show a ≤ n by omega), decide_eq_true h2]; rfl)]
        simp only [List.length_cons]
        omega
      · rw [if_neg (by simpa using h2), if_neg (by simpa using h1), if_neg (by rw [decide_eq_false h2]; simp)]
        exact ih
theorem amid_gt {a b : Int} (h : b < a) : ∀ ns : List Int, amidN a b ns = 0 ∧ mostN b ns ≤ lessN a ns
  | [] => ⟨rfl, Nat.le_refl _⟩
  | n :: r => by
    have ih := amid_gt h r
    unfold mostN lessN amidN at ih ⊢
    simp only [List.filter_cons]
    have h3 : ¬ ((decide (a ≤ n) && decide (n ≤ b)) = true) := by
      simp
      omega
    rw [if_neg h3]
    refine ⟨ih.1, ?_⟩
    by_cases h2 : n ≤ b
    · rw [if_pos (decide_eq_true h2), if_pos (decide_eq_true (show n < a by omega))]
      simp only [List.length_cons]
      omega
    · rw [if_neg (by simpa using h2)]
      by_cases h1 : n < a
      · rw [if_pos (decide_eq_true h1)]
        simp only [List.length_cons]
        omega
      · rw [if_neg (by simpa using h1)]
        exact ih.2
theorem amid_max (a b : Int) (ns : List Int) : (if (mostN b ns : Int) - (lessN a ns : Int) > 0 then (mostN b ns : Int) - (lessN a ns : Int) else 0) = (amidN a b ns : Nat) := by
  by_cases h : a ≤ b
  · have := amid_le h ns
    split <;> omega
  · have := amid_gt (show b < a by omega) ns
    split <;> omega
end Seek
namespace Seek
open PySem L2 PyProof.Rows
/-! ### sorted lists -/
/-! ### the entries of a table -/
def entR (i : Nat) (ns : List Int) (k : Nat) : List (List Int) := (List.range k).map fun j => [ns.getD j 0, (i : Int), (j : Int)]
def entsUp (prs : Prs) : Nat → List (List Int)
  | 0 => []
  | i + 1 => entsUp prs i ++ entR i (rowAt prs i) (rowAt prs i).length
theorem entR_succ (i : Nat) (ns : List Int) (k : Nat) : entR i ns (k + 1) = entR i ns k ++ [[ns.getD k 0, (i : Int), (k : Int)]] := by
  unfold entR
  rw [List.range_succ, List.map_append]
  rfl
theorem entR_len (i : Nat) (ns : List Int) (k : Nat) : (entR i ns k).length = k := by
  unfold entR
  rw [List.length_map, List.length_range]
theorem entsUp_mem {prs : Prs} {e : List Int} : ∀ {i : Nat}, e ∈ entsUp prs i → ∃ n r p : Int, e = [n, r, p]
  | 0, h => nomatch h
  | i + 1, h => by
    rcases List.mem_append.mp h with z | z
    · exact entsUp_mem z
    · obtain ⟨j, _, rfl⟩ := List.mem_map.mp z
      exact ⟨_, _, _, rfl⟩
def hdI (e : List Int) : Int := e.getD 0 0
theorem range_getD : ∀ ns : List Int, (List.range ns.length).map (fun j => ns.getD j 0) = ns := fun ns => by
  apply List.ext_getElem (by simp)
  intro i h1 h2
  simp [h2]
theorem entR_heads (i : Nat) (ns : List Int) : (entR i ns ns.length).map hdI = ns := by
  unfold entR
  rw [List.map_map]
  exact range_getD ns
theorem entsUp_heads (prs : Prs) : ∀ i, i ≤ prs.length → (entsUp prs i).map hdI = flatP (prs.take i)
  | 0, _ => by simp [entsUp, flatP]
  | i + 1, h => by
    have ih := entsUp_heads prs i (by omega)
    show (entsUp prs i ++ _).map hdI = _
    rw [List.map_append, ih, entR_heads]
    unfold flatP rowAt
    rw [List.take_add_one, List.getElem?_eq_getElem (by omega), List.map_append, List.flatten_append]
    simp
theorem entsUp_flat (prs : Prs) : (entsUp prs prs.length).map hdI = flatP prs := by
  rw [entsUp_heads prs _ (Nat.le_refl _), List.take_length]
theorem lex_heads {e f : List Int} (he : ∃ n r p : Int, e = [n, r, p]) (hf : ∃ n r p : Int, f = [n, r, p]) (h : HT.lexLt f e = false) : hdI e ≤ hdI f := by
  obtain ⟨n, r, p, rfl⟩ := he
  obtain ⟨m, r', p', rfl⟩ := hf
  rw [HT.lexLt_cons] at h
  show n ≤ m
  by_cases z : m = n
  · omega
  · rw [if_neg z] at h
    have := of_decide_eq_false h
    omega
/-- the list of all entries in order -/
structure Sorted (prs : Prs) (fs : List (List Int)) : Prop where
  pm : fs.Perm (entsUp prs prs.length)
  up : fs.Pairwise (fun r q => HT.lexLt q r = false)
theorem Sorted.heads {prs : Prs} {fs : List (List Int)} (h : Sorted prs fs) : (fs.map hdI).Perm (flatP prs) ∧ (fs.map hdI).Pairwise (· ≤ ·) := by
  refine ⟨?_, ?_⟩
  · rw [← entsUp_flat]
    exact h.pm.map hdI
  · rw [List.pairwise_map]
    refine List.Pairwise.imp_of_mem (fun {a b} ha hb z => ?_) h.up
    exact lex_heads (entsUp_mem (h.pm.subset ha)) (entsUp_mem (h.pm.subset hb)) z
theorem flatP_len {prs : Prs} {wide : Nat} (h : ∀ p ∈ prs, p.2.length = wide) : (flatP prs).length = prs.length * wide := by
  induction prs with
  | nil => simp [flatP]
  | cons p r ih =>
    rw [flatP_cons, List.length_append, h p (by simp), ih fun q hq => h q (by simp [hq]), List.length_cons, Nat.add_mul, Nat.one_mul, Nat.add_comm]
theorem Sorted.len {prs : Prs} {fs : List (List Int)} (s : Sorted prs fs) : fs.length = (flatP prs).length := by
  have := s.heads.1.length_eq
  rw [List.length_map] at this
  exact this
structure Kth (n : Int) (k : Nat) (ns : List Int) : Prop where
  mem : n ∈ ns
  lo : lessN n ns ≤ k
  hi : k < mostN n ns
end Seek
namespace Seek
open PySem L2 PyProof.Rows
abbrev Es := List (Addr × List Int)
def EntAt (H : Hp) (e : Addr × List Int) : Prop := H e.1 = some (.tup (e.2.map V.int))
/-! deep data of lists of tuples of ints -/
def dEnt (e : List Int) : PyData := .tuple (e.map PyData.int)
def dEnts (fs : List (List Int)) : PyData := .list (fs.map dEnt)
end Seek
namespace Seek
open PySem L2 PyProof.Rows
section
variable {P : Program} {w : World} {K : PySem.W.Frag} {mg : Str → Option Value} {base : Heap}
/-! how_many_cells -/
def spMany : Sp := fun vs H Q _ => ∃ (t : Addr) (prs : Prs), vs = [.ref t] ∧ Tab H t prs ∧ tabB prs = true ∧ Q (.int ((prs.length : Int) * (w0 prs : Int))) H
theorem sc_many : FnScope ["table"] ["table"] (defScope dMany) := ⟨rfl, rfl, rfl, by decide +kernel, rfl, by decide +kernel, by decide +kernel⟩
theorem ok_many (T : Blt mg) (D : DefAt K mg "how_many_cells" dMany ["table"]) : FnAt P w K mg base 1 "how_many_cells" ["table"] spMany := by
  refine FnAt.of D sc_many (fun vs H Q E h => ?_) (fun f cdv A outer s H vs Q E hr h => ?_)
  · obtain ⟨t, prs, rfl, _⟩ := h
    rfl
  · obtain ⟨t, prs, rfl, hT, hg, q⟩ := h
    obtain ⟨g, g1, g2, g3, g4⟩ := good_of hg
    obtain ⟨p0, hp0, hm0, hx0⟩ := head_at (prs := prs) g1
    refine ⟨_, pss_one (ps_ret (pe_op o_mul (pe_b call_len_seq T.len boot_len (pa_cons (pv 0) pa_nil)) (pe_b call_len_seq T.len boot_len (pa_cons (pe_ix ix_list (pv 0) pe_int (fun _ _ => rfl)) pa_nil)))), ?_⟩
    refine ⟨_, rfl, t, _, rfl, .inl hT.sq, _, rfl, t, _, 0, .ref p0.1, rfl, rfl, hT.sq, atI_nat (j := 0) (by rw [List.getElem?_map, hx0]; rfl), p0.1, _, rfl, .inl (hT.r p0 hm0).sq, _, _, rfl, rfl, .inl ⟨by omega, by rw [List.length_map]; omega⟩, ?_⟩
    rw [List.length_map, List.length_map, g.len p0 hm0]
    exact q
/-! merged -/
def spMerged : Sp := fun vs H Q _ => ∃ (t : Addr) (prs : Prs), vs = [.ref t] ∧ Tab H t prs ∧ tabB prs = true ∧
  ∀ L (es : Es) H', H L = none → Same H H' → H' L = some (.lst (es.map fun e => V.ref e.1)) → (∀ e ∈ es, EntAt H' e ∧ H e.1 = none) → Sorted prs (es.map (·.2)) → Q (.ref L) H'
theorem sc_merged : FnScope ["table", "entries", "row", "numbers"] ["table"] (defScope dMerged) := ⟨rfl, rfl, rfl, by decide +kernel, rfl, by decide +kernel, by decide +kernel⟩
set_option maxHeartbeats 16000000 in
theorem ok_merged (T : Blt mg) (hso : mg "sorted" = none) (D : DefAt K mg "merged" dMerged ["table"]) (G1 : FnAt P w K mg base 6 "need_table" ["thing"] spNeedTable) : FnAt P w K mg base 7 "merged" ["table"] spMerged := by
  refine FnAt.of D sc_merged (fun vs H Q E h => ?_) (fun f cdv A outer s H vs Q E hr h => ?_)
  · obtain ⟨t, prs, rfl, _⟩ := h
    rfl
  · obtain ⟨t, prs, rfl, hT, hg, q⟩ := h
    obtain ⟨g, g1, g2, g3, g4⟩ := good_of hg
    have hs := good_bounds hg
    have nd := sc_merged.nd
    have nd1 : (["place", "number", "row"] : List Str).Nodup := by decide +kernel
    refine ⟨_, pss_cons (ps_expr (pe_f G1 hr (pa_cons (pv 0) pa_nil)))
      (pss_cons (ps_set (i := 1) nd rfl (Or.inl rfl) (pe_lst pa_nil))
      (pss_cons (ps_for PassesOwn.never rfl (pi_enum rfl T.enum (pa_cons (pv 0) pa_nil)) (pg_tup rfl (pgs_cons (pg_name (i := 2) nd rfl (Or.inr rfl)) (pgs_cons (pg_name (i := 3) nd rfl (Or.inl rfl)) pgs_nil)))
        (pss_one (ps_expr (pe_bm PySem.F.plainAttrs_list PySem.F.slot_list_extend PySem.F.type_list_extend mt_extend (pv 1) (pa_cons
          (pe_comp ["place", "number", "row"] [none, none, some 2] (defScope dMerged) ["table", "entries", "row", "numbers"] rfl (pi_enum rfl T.enum (pa_cons (pv 3) pa_nil)) (by decide +kernel)
            (fun cl C s2 H2 ex => pg_c2 K rfl nd1) (fun cl C s2 H2 ex => pifs_nil) (fun cl C s2 H2 ex => pe_tup (pa_cons (pv 1) (pa_cons (pv 2) (pa_cons (pv 0) pa_nil))))) pa_nil)))))
      (pss_one (ps_ret (pe_b (call_sortedT hr.units) hso boot_sorted (pa_cons (pv 1) pa_nil)))))), ?_⟩
    refine ⟨_, rfl, t, prs, rfl, hT, hs, hg, fun H1 s1 => ⟨len0, fun L hL => ?_⟩⟩
    have L0 : H L = none := s1.free hL
    have s2 : Same H (upd H1 L (.lst [])) := s1.trans (Same.new hL)
    refine ⟨_, rfl, t, rfl, ⟨_, (hT.same s2).sq⟩, for_enum (K := K) (a := t) (xs := prs.map fun p => V.ref p.1) (fun i σ H2 => ∃ (cs : Es) (o2 o3 : Option V), σ = [some (.ref t), some (.ref L), o2, o3] ∧ Same H H2 ∧ H2 L = some (.lst (cs.map fun e => V.ref e.1)) ∧
      (∀ c ∈ cs, EntAt H2 c ∧ H c.1 = none) ∧ cs.map (·.2) = entsUp prs i ∧ cs.length ≤ 6 * i)
      ⟨[], none, none, rfl, s2, upd_same, fun c hc => (nomatch hc), rfl, by simp⟩ (fun i σ H2 _ ⟨_, _, _, _, sm, _⟩ => (hT.same sm).sq) ?_ ?_⟩
    · rintro i y σ H2 T1 hi ⟨cs, o2, o3, rfl, sm, hLl, hcs, hcm, hcl⟩ hT1
      have hil : i < prs.length := by
        have := (List.getElem?_eq_some_iff.mp hi).1
        rw [List.length_map] at this
        exact this
      obtain ⟨p, hp1, hp2, hp3⟩ := rowAt_mem hil
      rw [List.getElem?_map, hp2] at hi
      have hy : V.ref p.1 = y := Option.some.inj hi
      subst hy
      have hpl := g.len p hp1
      have smT : Same H2 (upd H2 T1 (.tup [.int (i : Nat), .ref p.1])) := Same.new hT1
      have eT : (upd H2 T1 (.tup [.int (i : Nat), .ref p.1])) T1 = some (.tup [.int (i : Nat), .ref p.1]) := upd_same
      generalize upd H2 T1 (.tup [.int (i : Nat), .ref p.1]) = H3 at smT eT ⊢
      refine ⟨T1, _, rfl, SqT.of eT, rfl, _, _, rfl, _, _, rfl, rfl, ?_⟩
      have sm3 := sm.trans smT
      have hR3 := (hT.same sm3).r p hp1
      have hL3 := smT _ _ hLl
      refine ⟨_, rfl, .inl ⟨rfl, _, SqL.of hL3⟩, _, rfl, p.1, rfl, ⟨_, hR3.sq⟩, ?_⟩
      refine compE_run (xs := p.2.map V.int) (fun D2 k ys H' => ∃ qs : Es, Same H3 H' ∧ H' D2 = some (.lst ys) ∧ ys = (qs.map fun e => V.ref e.1) ∧ (∀ c ∈ qs, EntAt H' c ∧ H3 c.1 = none ∧ c.1 ≠ D2) ∧ qs.map (·.2) = entR i p.2 k)
        (fun D2 hD2 => ⟨[], Same.new hD2, upd_same, rfl, fun c hc => (nomatch hc), rfl⟩) (fun D2 k ys H' _ _ ⟨_, sm', e, _⟩ => ⟨e, (hR3.same sm').sq⟩) ?_ ?_
      · rintro D2 k z ys H' T2 hD2 hz ⟨qs, sm', eD, hys, hqs, hqm⟩ hT2
        have hkl : k < p.2.length := by
          have := (List.getElem?_eq_some_iff.mp hz).1
          rw [List.length_map] at this
          exact this
        have ez : z = .int (p.2.getD k 0) := by
          rw [List.getElem?_map, List.getElem?_eq_getElem hkl] at hz
          rw [List.getD_eq_getElem?_getD, List.getElem?_eq_getElem hkl]
          exact (Option.some.inj hz).symm
        subst ez
        have smT2 : Same H' (upd H' T2 (.tup [.int (k : Nat), .int (p.2.getD k 0)])) := Same.new hT2
        generalize upd H' T2 (.tup [.int (k : Nat), .int (p.2.getD k 0)]) = H4 at smT2 ⊢
        have ql : qs.length = k := by
          have := congrArg List.length hqm
          rw [List.length_map, entR_len] at this
          exact this
        unfold tTrue
        refine iteT ⟨_, rfl, _, rfl, _, rfl, len3, fun T3 hT3 => ?_⟩
        have nT3 : D2 ≠ T3 := ne_of_none (smT2 _ _ eD) hT3
        have s3T : Same H4 (upd H4 T3 (.tup [.int (p.2.getD k 0), .int (i : Nat), .int (k : Nat)])) := Same.new hT3
        refine ⟨s3T _ _ (smT2 _ _ eD), ?_, qs ++ [(T3, [p.2.getD k 0, (i : Int), (k : Int)])], ((sm'.trans smT2).trans s3T).upd hD2, upd_same, ?_, fun c hc => ?_, ?_⟩
        · rw [hys, List.length_map]
          exact small1000 (by omega)
        · rw [hys, List.map_append]
          rfl
        · rcases List.mem_append.mp hc with z | z
          · obtain ⟨z1, z2, z3⟩ := hqs c z
            refine ⟨?_, z2, z3⟩
            unfold EntAt
            rw [upd_ne z3]
            exact s3T _ _ (smT2 _ _ z1)
          · have : c = (T3, [p.2.getD k 0, (i : Int), (k : Int)]) := by simpa using z
            subst this
            refine ⟨?_, (sm'.trans smT2).free hT3, Ne.symm nT3⟩
            unfold EntAt
            rw [upd_ne (Ne.symm nT3)]
            exact upd_same
        · rw [List.map_append, hqm, entR_succ]
          rfl
      · rintro D2 ys H' hD2 ⟨qs, sm', eD, hys, hqs, hqm⟩
        rw [List.length_map] at hqm
        have ql : qs.length = p.2.length := by
          have := congrArg List.length hqm
          rw [List.length_map, entR_len] at this
          exact this
        have hL4 := sm' _ _ hL3
        refine ⟨L, D2, _, _, rfl, rfl, hL4, eD, ?_, ?_⟩
        · rw [List.length_map, hys, List.length_map]
          exact sl6 (by omega)
        · refine ⟨cs ++ qs, _, _, rfl, (sm3.trans sm').upd L0, ?_, fun c hc => ?_, ?_, ?_⟩
          · rw [upd_same, hys, List.map_append]
          · have nL : ∀ c : Addr × List Int, EntAt H' c → c.1 ≠ L := fun c h => ne_of h hL4 (by intro z; cases z)
            rcases List.mem_append.mp hc with z | z
            · obtain ⟨z1, z2⟩ := hcs c z
              have z3 : EntAt H' c := sm' _ _ (smT _ _ z1)
              refine ⟨?_, z2⟩
              unfold EntAt
              rw [upd_ne (nL c z3)]
              exact z3
            · obtain ⟨z1, z2, z3⟩ := hqs c z
              refine ⟨?_, sm3.free z2⟩
              unfold EntAt
              rw [upd_ne (nL c z1)]
              exact z1
          · rw [List.map_append, hcm, hqm]
            show _ = entsUp prs i ++ _
            rw [hp3]
          · rw [List.length_append]
            omega
    · rintro σ H2 ⟨cs, o2, o3, rfl, sm, hLl, hcs, hcm, hcl⟩
      rw [List.length_map] at hcm hcl
      refine ⟨_, rfl, L, cs, rfl, SqL.of hLl, by omega, fun c hc => ⟨SqT.of (hcs c hc).1, ?_⟩, fun D rs' hD hpm hup => ?_⟩
      · have : c.2 ∈ entsUp prs prs.length := by
          rw [← hcm]
          exact List.mem_map.mpr ⟨c, hc, rfl⟩
        obtain ⟨n, r, p, e⟩ := entsUp_mem this
        rw [e]
        exact Nat.succ_pos _
      · refine q D rs' _ (sm.free hD) (sm.trans (Same.new hD)) upd_same (fun e he => ?_) ⟨?_, ?_⟩
        · obtain ⟨z1, z2⟩ := hcs e (hpm.subset he)
          exact ⟨(Same.new hD) _ _ z1, z2⟩
        · rw [← hcm]
          exact hpm.map _
        · rw [List.pairwise_map]
          exact hup
/-! need_place, number_by: of good ones -/
def spNeedPlace : Sp := fun vs H Q _ => ∃ (t : Addr) (prs : Prs) (k : Nat), vs = [.ref t, .int (k : Nat)] ∧ Tab H t prs ∧ tabB prs = true ∧ k < prs.length * w0 prs ∧ Q .non H
theorem sc_needPlace : FnScope ["table", "thing"] ["table", "thing"] (defScope dNeedPlace) := ⟨rfl, rfl, rfl, by decide +kernel, rfl, by decide +kernel, by decide +kernel⟩
theorem ok_needPlace (D : DefAt K mg "need_place" dNeedPlace ["table", "thing"]) (G1 : FnAt P w K mg base 1 "is_whole" ["thing"] spIsWhole) (G2 : FnAt P w K mg base 1 "how_many_cells" ["table"] spMany) : FnAt P w K mg base 2 "need_place" ["table", "thing"] spNeedPlace := by
  refine FnAt.of D sc_needPlace (fun vs H Q E h => ?_) (fun f cdv A outer s H vs Q E hr h => ?_)
  · obtain ⟨t, prs, k, rfl, _⟩ := h
    rfl
  · obtain ⟨t, prs, k, rfl, hT, hg, hk, q⟩ := h
    refine ⟨_, pss_one (ps_if (PW.pt (pw_or (pt_not (pt_val (pe_f G1 hr (pa_cons (pv 1) pa_nil)))) (pw_or1 (pt_not (pt_chain o_le o_lt pe_int (pv 1) (pe_f G2 hr (pa_cons (pv 0) pa_nil))))))) pss_never pss_nil), ?_⟩
    refine ⟨_, rfl, _, rfl, _, rfl, iteF ⟨_, rfl, _, _, rfl, rfl, _, rfl, ?_⟩⟩
    rw [decide_eq_true (show (0 : Int) ≤ (k : Nat) by omega)]
    refine iteT ⟨_, rfl, t, prs, rfl, hT, hg, _, _, rfl, rfl, _, rfl, ?_⟩
    rw [decide_eq_true (show ((k : Nat) : Int) < (prs.length : Int) * (w0 prs : Int) by rw [← Int.natCast_mul]; omega)]
    exact iteF q
def spNumberBy : Sp := fun vs H Q _ => ∃ (t : Addr) (prs : Prs) (k : Nat), vs = [.ref t, .int (k : Nat)] ∧ Tab H t prs ∧ tabB prs = true ∧ k < prs.length * w0 prs ∧ ∀ fs H', Same H H' → Sorted prs fs → Q (.int (hdI (fs.getD k []))) H'
theorem sc_numberBy : FnScope ["table", "k"] ["table", "k"] (defScope dNumberBy) := ⟨rfl, rfl, rfl, by decide +kernel, rfl, by decide +kernel, by decide +kernel⟩
theorem ok_numberBy (D : DefAt K mg "number_by" dNumberBy ["table", "k"]) (G1 : FnAt P w K mg base 6 "need_table" ["thing"] spNeedTable) (G2 : FnAt P w K mg base 2 "need_place" ["table", "thing"] spNeedPlace) (G3 : FnAt P w K mg base 7 "merged" ["table"] spMerged) : FnAt P w K mg base 8 "number_by" ["table", "k"] spNumberBy := by
  refine FnAt.of D sc_numberBy (fun vs H Q E h => ?_) (fun f cdv A outer s H vs Q E hr h => ?_)
  · obtain ⟨t, prs, k, rfl, _⟩ := h
    rfl
  · obtain ⟨t, prs, k, rfl, hT, hg, hk, q⟩ := h
    obtain ⟨g, g1, g2, g3, g4⟩ := good_of hg
    refine ⟨_, pss_cons (ps_expr (pe_f G1 (hr.mono (by decide)) (pa_cons (pv 0) pa_nil))) (pss_cons (ps_expr (pe_f G2 (hr.mono (by decide)) (pa_cons (pv 0) (pa_cons (pv 1) pa_nil))))
      (pss_one (ps_ret (pe_ix ix_tup (pe_ix ix_list (pe_f G3 hr (pa_cons (pv 0) pa_nil)) (pv 1) (fun _ _ => rfl)) pe_int (fun _ _ => rfl))))), ?_⟩
    refine ⟨_, rfl, t, prs, rfl, hT, good_bounds hg, hg, fun H1 s1 => ⟨_, rfl, _, rfl, t, prs, k, rfl, hT.same s1, hg, hk, ?_⟩⟩
    refine ⟨_, rfl, t, prs, rfl, hT.same s1, hg, fun L es H2 hL s2 hLl hes hso => ?_⟩
    have hl : es.length = prs.length * w0 prs := by
      have := hso.len
      rw [List.length_map, flatP_len g.len] at this
      exact this
    have hk2 : k < es.length := by omega
    have he := (hes es[k] (List.getElem_mem hk2)).1
    obtain ⟨n, r, p, e3⟩ : ∃ n r p : Int, es[k].2 = [n, r, p] := entsUp_mem (hso.pm.subset (List.mem_map.mpr ⟨es[k], List.getElem_mem hk2, rfl⟩))
    unfold EntAt at he
    rw [e3] at he
    refine ⟨_, rfl, L, _, _, .ref es[k].1, rfl, rfl, SqL.of hLl, atI_nat (by simp [hk2]), es[k].1, _, 0, .int n, rfl, rfl, SqT.of he, rfl, ?_⟩
    have := q (es.map (·.2)) H2 (s1.trans s2) hso
    have e4 : hdI ((es.map (·.2)).getD k []) = n := by
      rw [List.getD_eq_getElem?_getD, List.getElem?_map, List.getElem?_eq_getElem hk2]
      show hdI es[k].2 = n
      rw [e3]
      rfl
    rw [e4] at this
    exact this
end
end Seek
namespace Seek
open PySem L2 PyProof.Rows
section
variable {P : Program} {w : World} {K : PySem.W.Frag} {mg : Str → Option Value} {base : Heap}
def spCount (f : Int → List Int → Nat) : Sp := fun vs H Q _ => ∃ (t : Addr) (prs : Prs) (x : Int), vs = [.ref t, .int x] ∧ Tab H t prs ∧ tabB prs = true ∧ ∀ H', Same H H' → Q (.int (f x (flatP prs) : Nat)) H'
theorem sc_cless : FnScope ["table", "x"] ["table", "x"] (defScope dCless) := ⟨rfl, rfl, rfl, by decide +kernel, rfl, by decide +kernel, by decide +kernel⟩
theorem ok_cless (hs : mg "sum" = none) (D : DefAt K mg "count_less" dCless ["table", "x"]) (G : FnAt P w K mg base 7 "stair_of" ["table", "x"] (spStair lessN)) : FnAt P w K mg base 8 "count_less" ["table", "x"] (spCount lessN) := by
  refine FnAt.of D sc_cless (fun vs H Q E h => ?_) (fun f cdv A outer s H vs Q E hr h => ?_)
  · obtain ⟨t, prs, x, rfl, _⟩ := h
    rfl
  · obtain ⟨t, prs, x, rfl, hT, hg, q⟩ := h
    refine ⟨_, pss_one (ps_ret (pe_b (call_sum rfl) hs boot_sum (pa_cons (pe_f G hr (pa_cons (pv 0) (pa_cons (pv 1) pa_nil))) pa_nil))), ?_⟩
    refine ⟨_, rfl, _, rfl, t, prs, x, rfl, hT, good_bounds hg, hg, fun D H' hD sm hR => ⟨D, _, rfl, hR.sq, ?_⟩⟩
    rw [less_flat]
    exact q H' sm
theorem sc_cmost : FnScope ["table", "x"] ["table", "x"] (defScope dCmost) := ⟨rfl, rfl, rfl, by decide +kernel, rfl, by decide +kernel, by decide +kernel⟩
theorem ok_cmost (hs : mg "sum" = none) (D : DefAt K mg "count_most" dCmost ["table", "x"]) (G : FnAt P w K mg base 7 "high_stair" ["table", "x"] (spStair mostN)) : FnAt P w K mg base 8 "count_most" ["table", "x"] (spCount mostN) := by
  refine FnAt.of D sc_cmost (fun vs H Q E h => ?_) (fun f cdv A outer s H vs Q E hr h => ?_)
  · obtain ⟨t, prs, x, rfl, _⟩ := h
    rfl
  · obtain ⟨t, prs, x, rfl, hT, hg, q⟩ := h
    refine ⟨_, pss_one (ps_ret (pe_b (call_sum rfl) hs boot_sum (pa_cons (pe_f G hr (pa_cons (pv 0) (pa_cons (pv 1) pa_nil))) pa_nil))), ?_⟩
    refine ⟨_, rfl, _, rfl, t, prs, x, rfl, hT, good_bounds hg, hg, fun D H' hD sm hR => ⟨D, _, rfl, hR.sq, ?_⟩⟩
    rw [most_flat]
    exact q H' sm
def spCountFrom : Sp := fun vs H Q _ => ∃ (t : Addr) (prs : Prs) (a b : Int), vs = [.ref t, .int a, .int b] ∧ Tab H t prs ∧ tabB prs = true ∧ ∀ H', Same H H' → Q (.int (amidN a b (flatP prs) : Nat)) H'
theorem sc_cfrom : FnScope ["table", "a", "b"] ["table", "a", "b"] (defScope dCfrom) := ⟨rfl, rfl, rfl, by decide +kernel, rfl, by decide +kernel, by decide +kernel⟩
theorem ok_cfrom (T : Blt mg) (D : DefAt K mg "count_from" dCfrom ["table", "a", "b"]) (G1 : FnAt P w K mg base 8 "count_less" ["table", "x"] (spCount lessN)) (G2 : FnAt P w K mg base 8 "count_most" ["table", "x"] (spCount mostN)) : FnAt P w K mg base 9 "count_from" ["table", "a", "b"] spCountFrom := by
  refine FnAt.of D sc_cfrom (fun vs H Q E h => ?_) (fun f cdv A outer s H vs Q E hr h => ?_)
  · obtain ⟨t, prs, a, b, rfl, _⟩ := h
    rfl
  · obtain ⟨t, prs, a, b, rfl, hT, hg, q⟩ := h
    refine ⟨_, pss_one (ps_ret (pe_b (call_max2 rfl) T.max boot_max (pa_cons pe_int (pa_cons (pe_op o_sub (pe_f G2 hr (pa_cons (pv 0) (pa_cons (pv 2) pa_nil))) (pe_f G1 hr (pa_cons (pv 0) (pa_cons (pv 1) pa_nil)))) pa_nil)))), ?_⟩
    refine ⟨_, rfl, _, rfl, t, prs, b, rfl, hT, hg, fun H1 s1 => ⟨_, rfl, _, rfl, t, prs, a, rfl, hT.same s1, hg, fun H2 s2 => ⟨_, _, rfl, rfl, _, _, rfl, ?_⟩⟩⟩
    rw [amid_max]
    exact q H2 (s1.trans s2)
end
end Seek
namespace Seek
open PySem L2 PyProof.Rows
/-- one class of the twelve (the i-th of cs), as the laws ask of it -/
structure Err (K : PySem.W.Frag) (S : Addr) (cs : List Addr) (i : Nat) (C : Addr) : Prop where
  k : ExcK K C
  sk : PySem.W.mroIn K C (.ref S) = some true
  kv : PySem.W.kitOne K (.ref C) (.type "ValueError") = some true
  ks : ∀ j D, cs[j]? = some D → PySem.W.kitOne K (.ref C) (.ref D) = some (decide (j = i))
theorem rdss_ints {S : List Addr} {H : Hp} : ∀ ns : List Int, RdSs S H (ns.map V.int) (ns.map PyData.int)
  | [] => .nil
  | n :: r => .cons (.int n) (rdss_ints r)
theorem rdss_rows {H : Hp} : ∀ prs : Prs, (∀ p ∈ prs, Row H p.1 p.2) → RdSs [] H (prs.map fun p => V.ref p.1) ((prs.map (·.2)).map dRow)
  | [], _ => .nil
  | p :: r, h => .cons (.lst (h p (by simp)) (by simp) (rdss_ints p.2)) (rdss_rows r fun q hq => h q (by simp [hq]))
theorem tab_rds {H : Hp} {t : Addr} {prs : Prs} (hT : Tab H t prs) : RdS [] H (.ref t) (dTab (prs.map (·.2))) := .lst hT.l (by simp) (rdss_rows prs hT.r)
section
variable {P : Program} {w : World} {K : PySem.W.Frag} {mg : Str → Option Value} {base : Heap} {c c0 c1 c2 : Addr}
/-! need_table, need_number of any thing -/
def spNeedTX (c : Addr) : Sp := fun vs H Q E => ∃ (x : V) (d : PyData), vs = [x] ∧ RdS [] H x d ∧ (GoodD d → ∀ H', Same H H' → Q .non H') ∧ (¬ GoodD d → ∀ H', Same H H' → E (.ref c) none H')
theorem ok_needTX (hk : ExcK K c) (hm : mg "NoTable" = some (.ref c)) (D : DefAt K mg "need_table" dNeedTable ["thing"]) (G : FnAt P w K mg base 5 "is_table" ["thing"] spIsTableA) : FnAtX P w K mg base 6 "need_table" ["thing"] (spNeedTX c) := by
  refine FnAtX.of D sc_needTable (fun vs H Q E h => ?_) (fun f cdv A outer s H vs Q E hr h => ?_)
  · obtain ⟨x, d, rfl, _⟩ := h
    rfl
  · obtain ⟨x, d, rfl, rd, hq, he⟩ := h
    refine ⟨_, pss_one (ps_if (pt_not (pt_val (pe_f G hr (pa_cons (pv 0) pa_nil)))) (pss_one (ps_raise throws_def hk pe_str hm)) pss_nil), ?_⟩
    refine ⟨_, rfl, x, d, rfl, rd, fun b H1 hb s1 => ⟨_, rfl, ?_⟩⟩
    cases b with
    | false => exact iteT (he (fun g => by have := hb.mpr g; cases this) H1 s1)
    | true => exact iteF (hq (hb.mp rfl) H1 s1)
def spNeedNX (c : Addr) : Sp := fun vs H Q E => ∃ (x : V) (d : PyData), vs = [x] ∧ RdS [] H x d ∧ (isIntD d = true → Q .non H) ∧ (isIntD d = false → E (.ref c) none H)
theorem ok_needNX (hk : ExcK K c) (hm : mg "NoNumber" = some (.ref c)) (D : DefAt K mg "need_number" dNeedNumber ["thing"]) (G : FnAt P w K mg base 1 "is_whole" ["thing"] spIsWholeA) : FnAtX P w K mg base 2 "need_number" ["thing"] (spNeedNX c) := by
  refine FnAtX.of D sc_needNumber (fun vs H Q E h => ?_) (fun f cdv A outer s H vs Q E hr h => ?_)
  · obtain ⟨x, d, rfl, _⟩ := h
    rfl
  · obtain ⟨x, d, rfl, rd, hq, he⟩ := h
    refine ⟨_, pss_one (ps_if (pt_not (pt_val (pe_f G hr (pa_cons (pv 0) pa_nil)))) (pss_one (ps_raise throws_def hk pe_str hm)) pss_nil), ?_⟩
    refine ⟨_, rfl, x, d, rfl, rd, _, rfl, ?_⟩
    cases e : isIntD d with
    | false => exact iteT (he e)
    | true => exact iteF (hq e)
end
end Seek
namespace L2
open PySem PySem.Spec PyProof.Rows
theorem boot_ValueError : bootBuiltins "ValueError" = some (.type "ValueError") := by kernel_rfl
section
variable {X : Cx}
/-- isinstance of a caught exception -/
theorem call_isinstE (K : PySem.W.Frag) (hK : X.K = K := by rfl) : CallR X (.builtin "isinstance") (fun xs H Q => ∃ e C D b, xs = [.ref e, .ref D] ∧ H e = some (excO e C) ∧ ExcK K C ∧ PySem.W.kitOne K (.ref C) (.ref D) = some b ∧ Q (.bl b) H) := by
  subst hK
  intro pins s σ H xs us Q I rv h
  obtain ⟨e, C, D, b, rfl, he, kC, hk, q⟩ := h
  obtain ⟨u, v, rfl, r1, r2⟩ := rv.two
  obtain rfl : u = .ref e := r1
  obtain rfl : v = .ref D := r2
  exact PySem.W.kia_one (kitx_exc kC) I.kIn (excO_at I he) hk (fun z => nomatch z) fun tk => ⟨.bl b, H, I.tok tk, rfl, q⟩
theorem call_isinstET (K : PySem.W.Frag) (hK : X.K = K := by rfl) : CallR X (.builtin "isinstance") (fun xs H Q => ∃ e C T b, xs = [.ref e, .ty T] ∧ H e = some (excO e C) ∧ ExcK K C ∧ PySem.W.kitOne K (.ref C) (.type T) = some b ∧ Q (.bl b) H) := by
  subst hK
  intro pins s σ H xs us Q I rv h
  obtain ⟨e, C, T, b, rfl, he, kC, hk, q⟩ := h
  obtain ⟨u, v, rfl, r1, r2⟩ := rv.two
  obtain rfl : u = .ref e := r1
  obtain rfl : v = .type T := r2
  exact PySem.W.kia_one (kitx_exc kC) I.kIn (excO_at I he) hk (fun z => nomatch z) fun tk => ⟨.bl b, H, I.tok tk, rfl, q⟩
end
end L2
namespace Seek
open PySem L2 PyProof.Rows
/-- the classes by name, and the one above them -/
structure Nms (mg : Str → Option Value) (S : Addr) (cs : List Addr) : Prop where
  len : cs.length = 12
  seek : mg "SeekError" = some (.ref S)
  n0 : mg "NoTable" = some (.ref (cs.getD 0 0))
  n1 : mg "NoCell" = some (.ref (cs.getD 1 0))
  n2 : mg "NoNumber" = some (.ref (cs.getD 2 0))
  n3 : mg "NoSize" = some (.ref (cs.getD 3 0))
  n4 : mg "NoStair" = some (.ref (cs.getD 4 0))
  n5 : mg "NoLook" = some (.ref (cs.getD 5 0))
  n6 : mg "NoPlace" = some (.ref (cs.getD 6 0))
  n7 : mg "NoFit" = some (.ref (cs.getD 7 0))
  n8 : mg "NoChange" = some (.ref (cs.getD 8 0))
  n9 : mg "NoText" = some (.ref (cs.getD 9 0))
  n10 : mg "NoName" = some (.ref (cs.getD 10 0))
  n11 : mg "NoRow" = some (.ref (cs.getD 11 0))
theorem Err.kit {K : PySem.W.Frag} {S : Addr} {cs : List Addr} {i : Nat} {C : Addr} (h : Err K S cs i C) (hl : cs.length = 12) (j : Nat) (hj : j < 12) : PySem.W.kitOne K (.ref C) (.ref (cs.getD j 0)) = some (decide (j = i)) :=
  h.ks j _ (by rw [List.getD_eq_getElem?_getD, List.getElem?_eq_getElem (by omega)]; rfl)
def pmL : List Nat := [0, 2, 6, 1, 3, 4, 5, 7, 8, 9, 10, 11]
section
variable {P : Program} {w : World} {K : PySem.W.Frag} {mg : Str → Option Value} {base : Heap} {S : Addr} {cs : List Addr}
def spKinds (K : PySem.W.Frag) (S : Addr) (cs : List Addr) : Sp := fun vs H Q _ => ∃ (e C : Addr) (k : Nat), vs = [.ref e, .int (k : Nat)] ∧ H e = some (excO e C) ∧ Err K S cs (pmL.getD k 0) C ∧ k < 12 ∧ ∀ H', Same H H' → Q (.bl true) H'
theorem sc_kinds : FnScope ["caught", "due", "kinds"] ["caught", "due"] (defScope dKinds) := ⟨rfl, rfl, rfl, by decide +kernel, rfl, by decide +kernel, by decide +kernel⟩
theorem bls_rd {K : PySem.W.Frag} {H : Hp} : ∀ bs : List Bool, RdAll K H (bs.map V.bl) (bs.map PyData.bool)
  | [] => .nil
  | b :: r => .cons (.bl b) (bls_rd r)
theorem lay_bls : ∀ bs : List Bool, PyData.canLayAll0 (bs.map PyData.bool) = true ∧ PyData.depthAll (bs.map PyData.bool) ≤ 0
  | [] => by simp [PyData.canLayAll0, PyData.depthAll]
  | n :: r => by
    have h := lay_bls r
    simp only [List.map_cons, PyData.canLayAll0, PyData.canLay0, PyData.depthAll, PyData.depth, h.1, Bool.and_self, true_and]
    have := h.2
    omega
theorem shp_bls (bs : List Bool) : SeqAt.shaped (.list (bs.map PyData.bool)) = true := by
  have h := lay_bls bs
  have h2 := h.2
  show (PyData.canLay0 (.list (bs.map PyData.bool)) && decide (PyData.depth (.list (bs.map PyData.bool)) ≤ 64)) = true
  rw [Bool.and_eq_true]
  exact ⟨by simp only [PyData.canLay0]; exact h.1, decide_eq_true (by simp only [PyData.depth]; omega)⟩
theorem eqv_bls : ∀ bs : List Bool, PyData.eqvAll (bs.map PyData.bool) (bs.map PyData.bool) = true
  | [] => by simp [PyData.eqvAll]
  | b :: r => by simp [PyData.eqvAll, PyData.eqv, eqv_bls r]
/-- the list of what it is, so far -/
def kb (i m : Nat) : List Bool := (pmL.take m).map fun c => decide (c = i)
def Kn (H0 : Hp) (e C : Addr) (k m : Nat) (σ : L2.St) (H : Hp) : Prop := Same H0 H ∧ H e = some (excO e C) ∧ ∃ (l : Addr), σ = [some (.ref e), some (.int (k : Nat)), some (.ref l)] ∧ H0 l = none ∧ H l = some (.lst ((kb (pmL.getD k 0) m).map V.bl))
abbrev tIsi (K : PySem.W.Frag) (D : Addr) : TE := tCB (fun xs H Q => ∃ e C D b, xs = [V.ref e, .ref D] ∧ H e = some (excO e C) ∧ ExcK K C ∧ PySem.W.kitOne K (.ref C) (.ref D) = some b ∧ Q (.bl b) H) (tCons (tVar 0) (tCons (tC (.ref D)) tNil))
theorem kn_step {X : Cx} {s : Stmt} {H0 : Hp} {e C : Addr} {k m a b : Nat} (N : cs.length = 12) (er : Err K S cs (pmL.getD k 0) C) (h : PS X s (tAsg (tOp rCat (tVar 2) (tLst (tCons (tIsi K (cs.getD a 0)) (tCons (tIsi K (cs.getD b 0)) tNil)))) (gName 2))) (ha : a < 12) (hb : b < 12) (hm : m ≤ 12) (he : kb (pmL.getD k 0) (m + 2) = kb (pmL.getD k 0) m ++ [decide (a = pmL.getD k 0), decide (b = pmL.getD k 0)]) : PS X s (tTr (Kn H0 e C k m) (Kn H0 e C k (m + 2))) := by
  refine tr_set (i := 2) h fun σ H Q hh q => ?_
  obtain ⟨s0, ee, l, rfl, l0, el⟩ := hh
  refine ⟨_, rfl, _, rfl, e, C, _, _, rfl, ee, er.k, er.kit N a ha, _, rfl, e, C, _, _, rfl, ee, er.k, er.kit N b hb, len2, fun l1 h1 => ⟨l, l1, _, _, rfl, rfl, Same.new h1 _ _ el, upd_same, ?_, fun l2 h2 => q _ _ ?_⟩⟩
  · have : (kb (pmL.getD k 0) m).length ≤ 12 := by unfold kb; rw [List.length_map, List.length_take]; exact Nat.le_trans (Nat.min_le_right _ _) (by decide)
    rw [List.length_map]
    exact sl6 (by simp only [List.length_cons, List.length_nil]; omega)
  · have s1 := (Same.new (o := .lst [.bl (decide (a = pmL.getD k 0)), .bl (decide (b = pmL.getD k 0))]) h1).trans (Same.new (o := .lst ((kb (pmL.getD k 0) m).map V.bl ++ [.bl (decide (a = pmL.getD k 0)), .bl (decide (b = pmL.getD k 0))])) h2)
    refine ⟨s0.trans s1, s1 _ _ ee, l2, rfl, s0.free ((Same.new h1).free h2), ?_⟩
    rw [upd_same, he, List.map_append]
    rfl
set_option maxHeartbeats 16000000 in
theorem ok_kinds (T : Blt mg) (hve : mg "ValueError" = none) (N : Nms mg S cs) (D : DefAt K mg "_law_kinds" dKinds ["caught", "due"]) : FnAt P w K mg base 1 "_law_kinds" ["caught", "due"] (spKinds K S cs) := by
  refine FnAt.of D sc_kinds (fun vs H Q E h => ?_) (fun f cdv A outer s H vs Q E hr h => ?_)
  · obtain ⟨e, C, k, rfl, _⟩ := h
    rfl
  · obtain ⟨e, C, k, rfl, he, er, hk, q⟩ := h
    have nd := sc_kinds.nd
    have nd1 : (["k", "due"] : List Str).Nodup := by decide +kernel
    let X : Cx := (cxOf CX0 P w K mg base ["caught", "due", "kinds"] "_law_kinds" (defScope dKinds) f cdv A outer s H E).nox
    have A0 : PS X ((defBody dKinds).getD 0 (.Pass ⟨0, 0, 0, 0⟩)) _ := ps_set (i := 2) nd rfl (Or.inl rfl) (pe_lst (pa_cons (pe_b (call_isinstE K) T.isinst boot_isinstance (pa_cons (pv 0) (pa_cons (pe_glob (v := .ref _) rfl N.n0 rfl) pa_nil))) (pa_cons (pe_b (call_isinstE K) T.isinst boot_isinstance (pa_cons (pv 0) (pa_cons (pe_glob (v := .ref _) rfl N.n2 rfl) pa_nil))) (pa_cons (pe_b (call_isinstE K) T.isinst boot_isinstance (pa_cons (pv 0) (pa_cons (pe_glob (v := .ref _) rfl N.n6 rfl) pa_nil))) pa_nil))))
    have A1 : PS X ((defBody dKinds).getD 1 (.Pass ⟨0, 0, 0, 0⟩)) (tTr (Kn H e C k 3) (Kn H e C k 5)) := kn_step (m := 3) (a := 1) (b := 3) N.len er (ps_set (i := 2) nd rfl (Or.inl rfl) (pe_op op_cat (pv 2) (pe_lst (pa_cons (pe_b (call_isinstE K) T.isinst boot_isinstance (pa_cons (pv 0) (pa_cons (pe_glob (v := .ref _) rfl N.n1 rfl) pa_nil))) (pa_cons (pe_b (call_isinstE K) T.isinst boot_isinstance (pa_cons (pv 0) (pa_cons (pe_glob (v := .ref _) rfl N.n3 rfl) pa_nil))) pa_nil))))) (by decide) (by decide) (by decide) (by rfl)
    have A2 : PS X ((defBody dKinds).getD 2 (.Pass ⟨0, 0, 0, 0⟩)) (tTr (Kn H e C k 5) (Kn H e C k 7)) := kn_step (m := 5) (a := 4) (b := 5) N.len er (ps_set (i := 2) nd rfl (Or.inl rfl) (pe_op op_cat (pv 2) (pe_lst (pa_cons (pe_b (call_isinstE K) T.isinst boot_isinstance (pa_cons (pv 0) (pa_cons (pe_glob (v := .ref _) rfl N.n4 rfl) pa_nil))) (pa_cons (pe_b (call_isinstE K) T.isinst boot_isinstance (pa_cons (pv 0) (pa_cons (pe_glob (v := .ref _) rfl N.n5 rfl) pa_nil))) pa_nil))))) (by decide) (by decide) (by decide) (by rfl)
    have A3 : PS X ((defBody dKinds).getD 3 (.Pass ⟨0, 0, 0, 0⟩)) (tTr (Kn H e C k 7) (Kn H e C k 9)) := kn_step (m := 7) (a := 7) (b := 8) N.len er (ps_set (i := 2) nd rfl (Or.inl rfl) (pe_op op_cat (pv 2) (pe_lst (pa_cons (pe_b (call_isinstE K) T.isinst boot_isinstance (pa_cons (pv 0) (pa_cons (pe_glob (v := .ref _) rfl N.n7 rfl) pa_nil))) (pa_cons (pe_b (call_isinstE K) T.isinst boot_isinstance (pa_cons (pv 0) (pa_cons (pe_glob (v := .ref _) rfl N.n8 rfl) pa_nil))) pa_nil))))) (by decide) (by decide) (by decide) (by rfl)
    have A4 : PS X ((defBody dKinds).getD 4 (.Pass ⟨0, 0, 0, 0⟩)) (tTr (Kn H e C k 9) (Kn H e C k 11)) := kn_step (m := 9) (a := 9) (b := 10) N.len er (ps_set (i := 2) nd rfl (Or.inl rfl) (pe_op op_cat (pv 2) (pe_lst (pa_cons (pe_b (call_isinstE K) T.isinst boot_isinstance (pa_cons (pv 0) (pa_cons (pe_glob (v := .ref _) rfl N.n9 rfl) pa_nil))) (pa_cons (pe_b (call_isinstE K) T.isinst boot_isinstance (pa_cons (pv 0) (pa_cons (pe_glob (v := .ref _) rfl N.n10 rfl) pa_nil))) pa_nil))))) (by decide) (by decide) (by decide) (by rfl)
    have A5 : PS X ((defBody dKinds).getD 5 (.Pass ⟨0, 0, 0, 0⟩)) _ := ps_expr (pe_bm PySem.F.plainAttrs_list PySem.F.slot_list_append PySem.F.type_list_append mt_append (pv 2) (pa_cons (pe_b (call_isinstE K) T.isinst boot_isinstance (pa_cons (pv 0) (pa_cons (pe_glob (v := .ref _) rfl N.n11 rfl) pa_nil))) pa_nil))
    have A6 : PS X ((defBody dKinds).getD 6 (.Pass ⟨0, 0, 0, 0⟩)) _ := ps_if (PW.pt (pw_or (pt_cmpR op_isN (pv 0) pe_non (nomark _)) (pw_or1 (pt_not (pt_val (pe_b (call_isinstET K) T.isinst boot_isinstance (pa_cons (pv 0) (pa_cons (pe_ty hve boot_ValueError) pa_nil)))))))) (pss_one (ps_ret pe_bl)) pss_nil
    have A7 : PS X ((defBody dKinds).getD 7 (.Pass ⟨0, 0, 0, 0⟩)) _ := ps_ret (pe_cmpR (op_eqD hr.units) (pv 2) (pe_comp ["k", "due"] [none, some 1] (defScope dKinds) ["caught", "due", "kinds"] rfl (pi_range1 rfl T.rng (pa_cons pe_int pa_nil)) (by decide +kernel)
        (fun cl C s2 H2 ex => pg_c 0 nd1) (fun cl C s2 H2 ex => pifs_nil) (fun cl C s2 H2 ex => pe_cmpR op_eq (pv 0) (pv 1) (nomark _))) (nomark _))
    obtain ⟨B0, e0⟩ : ∃ S, S = (defBody dKinds).getD 0 (.Pass ⟨0, 0, 0, 0⟩) := ⟨_, rfl⟩
    rw [← e0] at A0
    obtain ⟨B1, e1⟩ : ∃ S, S = (defBody dKinds).getD 1 (.Pass ⟨0, 0, 0, 0⟩) := ⟨_, rfl⟩
    rw [← e1] at A1
    obtain ⟨B2, e2⟩ : ∃ S, S = (defBody dKinds).getD 2 (.Pass ⟨0, 0, 0, 0⟩) := ⟨_, rfl⟩
    rw [← e2] at A2
    obtain ⟨B3, e3⟩ : ∃ S, S = (defBody dKinds).getD 3 (.Pass ⟨0, 0, 0, 0⟩) := ⟨_, rfl⟩
    rw [← e3] at A3
    obtain ⟨B4, e4⟩ : ∃ S, S = (defBody dKinds).getD 4 (.Pass ⟨0, 0, 0, 0⟩) := ⟨_, rfl⟩
    rw [← e4] at A4
    obtain ⟨B5, e5⟩ : ∃ S, S = (defBody dKinds).getD 5 (.Pass ⟨0, 0, 0, 0⟩) := ⟨_, rfl⟩
    rw [← e5] at A5
    obtain ⟨B6, e6⟩ : ∃ S, S = (defBody dKinds).getD 6 (.Pass ⟨0, 0, 0, 0⟩) := ⟨_, rfl⟩
    rw [← e6] at A6
    obtain ⟨B7, e7⟩ : ∃ S, S = (defBody dKinds).getD 7 (.Pass ⟨0, 0, 0, 0⟩) := ⟨_, rfl⟩
    rw [← e7] at A7
    have hbd : defBody dKinds = [B0, B1, B2, B3, B4, B5, B6, B7] := by
      rw [e0, e1, e2, e3, e4, e5, e6, e7]
      kernel_rfl
    rw [hbd]
    clear hbd e0 e1 e2 e3 e4 e5 e6 e7
    have kk := er.kit N.len
    refine ⟨_, pss_cons A0 (pss_tr A1 (pss_tr A2 (pss_tr A3 (pss_tr A4 (pss_end (pss_cons A5 (pss_cons A6 (pss_one A7)))))))), ?_⟩
    refine ⟨_, rfl, e, C, _, _, rfl, he, er.k, kk 0 (by decide), _, rfl, e, C, _, _, rfl, he, er.k, kk 2 (by decide), _, rfl, e, C, _, _, rfl, he, er.k, kk 6 (by decide), len3, fun l1 h1 => ⟨⟨Same.new h1, Same.new h1 _ _ he, l1, rfl, h1, ?_⟩, fun σ H1 hh => ?_⟩⟩
    · rw [upd_same]
      rfl
    obtain ⟨s1, ee, l, rfl, l0, el⟩ := hh
    refine ⟨_, rfl, .inl ⟨rfl, _, SqL.of el⟩, _, rfl, e, C, _, _, rfl, ee, er.k, kk 11 (by decide), l, _, _, rfl, rfl, el, sl6 (show 12 ≤ 1000 by decide), ?_⟩
    have s2 : Same H (upd H1 l (.lst ((kb (pmL.getD k 0) 11).map V.bl ++ [.bl (decide (11 = pmL.getD k 0))]))) := s1.upd l0
    have ee2 : (upd H1 l (.lst ((kb (pmL.getD k 0) 11).map V.bl ++ [.bl (decide (11 = pmL.getD k 0))]))) e = some (excO e C) := by
      rw [upd_ne (fun z => by rw [z, l0] at he; cases he)]
      exact ee
    have el2 : (upd H1 l (.lst ((kb (pmL.getD k 0) 11).map V.bl ++ [.bl (decide (11 = pmL.getD k 0))]))) l = some (.lst (((List.range 12).map fun j => decide (j = k)).map V.bl)) := by
      rw [upd_same]
      have : (List.range 12).map (fun j => decide (j = k)) = kb (pmL.getD k 0) 11 ++ [decide (11 = pmL.getD k 0)] := by
        have : ∀ k : Fin 12, (List.range 12).map (fun j => decide (j = k.1)) = kb (pmL.getD k.1 0) 11 ++ [decide (11 = pmL.getD k.1 0)] := by decide
        exact this ⟨k, hk⟩
      rw [this, List.map_append]
      rfl
    generalize upd H1 l (.lst ((kb (pmL.getD k 0) 11).map V.bl ++ [.bl (decide (11 = pmL.getD k 0))])) = H2 at s2 ee2 el2 ⊢
    refine ⟨_, rfl, rfl, _, rfl, iteF ⟨_, rfl, e, C, _, _, rfl, ee2, er.k, er.kv, _, rfl, iteF ?_⟩⟩
    refine ⟨_, rfl, 12, rfl, by decide, by decide, ?_⟩
    refine comp_range (fun j => .bl (decide (j = k))) (by decide) (fun j hj H6 Q' s6 q' => ?_) fun D6 H6 hD6 s6 hDl6 => ?_
    · refine ⟨_, rfl, _, rfl, rfl, ?_⟩
      have ed : decide (V.int (0 + (j : Nat)) = V.int (k : Nat)) = decide (j = k) := decide_eq_decide.mpr ⟨fun h => by injection h with h; omega, fun h => by rw [h]; congr 1; omega⟩
      rw [ed]
      exact q' _ (Same.refl _)
    · refine ⟨_, _, .lst (SqL.of (s6 _ _ el2)) (bls_rd _), .lst (SqL.of (by rw [hDl6, List.map_map]; rfl)) (bls_rd ((List.range 12).map fun j => decide (j = k))), shp_bls _, shp_bls _, ?_⟩
      have : PyData.eqv (.list (((List.range 12).map fun j => decide (j = k)).map PyData.bool)) (.list (((List.range 12).map fun j => decide (j = k)).map PyData.bool)) = true := by
        simp only [PyData.eqv]
        exact eqv_bls _
      rw [this]
      exact q H6 (s2.trans s6)
end
end Seek
namespace Seek
open PySem L2 PyProof.Rows
section
variable {P : Program} {w : World} {K : PySem.W.Frag} {mg : Str → Option Value} {base : Heap}
/-! middle -/
def spMiddle : Sp := fun vs H Q _ => ∃ (t : Addr) (prs : Prs), vs = [.ref t] ∧ Tab H t prs ∧ tabB prs = true ∧ ∀ fs H', Same H H' → Sorted prs fs → Q (.int (hdI (fs.getD ((prs.length * w0 prs - 1) / 2) []))) H'
theorem sc_middle : FnScope ["table"] ["table"] (defScope dMiddle) := ⟨rfl, rfl, rfl, by decide +kernel, rfl, by decide +kernel, by decide +kernel⟩
theorem ok_middle (D : DefAt K mg "middle" dMiddle ["table"]) (G1 : FnAt P w K mg base 6 "need_table" ["thing"] spNeedTable) (G2 : FnAt P w K mg base 8 "number_by" ["table", "k"] spNumberBy) (G3 : FnAt P w K mg base 1 "how_many_cells" ["table"] spMany) : FnAt P w K mg base 9 "middle" ["table"] spMiddle := by
  refine FnAt.of D sc_middle (fun vs H Q E h => ?_) (fun f cdv A outer s H vs Q E hr h => ?_)
  · obtain ⟨t, prs, rfl, _⟩ := h
    rfl
  · obtain ⟨t, prs, rfl, hT, hg, q⟩ := h
    obtain ⟨g, g1, g2, g3, g4⟩ := good_of hg
    have hm : 1 * 1 ≤ prs.length * w0 prs := Nat.mul_le_mul g1 g3
    refine ⟨_, pss_cons (ps_expr (pe_f G1 (hr.mono (by decide)) (pa_cons (pv 0) pa_nil)))
      (pss_one (ps_ret (pe_f G2 hr (pa_cons (pv 0) (pa_cons (pe_op o_div (pe_op o_sub (pe_f G3 (hr.mono (by decide)) (pa_cons (pv 0) pa_nil)) pe_int) pe_int) pa_nil))))), ?_⟩
    refine ⟨_, rfl, t, prs, rfl, hT, good_bounds hg, hg, fun H1 s1 => ⟨_, rfl, _, rfl, t, prs, rfl, hT.same s1, hg, _, _, rfl, rfl, _, _, rfl, rfl, ⟨by decide, by decide⟩, t, prs, (prs.length * w0 prs - 1) / 2, ?_, hT.same s1, hg, by omega, fun fs H' s' hso => q fs H' (s1.trans s') hso⟩⟩
    have e : ((prs.length : Int) * (w0 prs : Int) - 1) / 2 = (((prs.length * w0 prs - 1) / 2 : Nat) : Int) := by
      rw [← Int.natCast_mul]
      omega
    rw [e]
end
end Seek
namespace Seek
open PySem L2 PyProof.Rows
/-- a place in the order of n numbers -/
def placeD (n : Nat) : PyData → Bool
  | .int k => decide (0 ≤ k) && decide (k < (n : Int))
  | _ => false
section
variable {P : Program} {w : World} {K : PySem.W.Frag} {mg : Str → Option Value} {base : Heap} {c0 c2 c6 : Addr}
def spMX (c0 : Addr) : Sp := fun vs H Q E => ∃ (x : V) (d : PyData), vs = [x] ∧ RdS [] H x d ∧ ¬ GoodD d ∧ ∀ H', Same H H' → E (.ref c0) none H'
theorem ok_mergedX (D : DefAt K mg "merged" dMerged ["table"]) (G1 : FnAtX P w K mg base 6 "need_table" ["thing"] (spNeedTX c0)) : FnAtX P w K mg base 7 "merged" ["table"] (spMX c0) := by
  refine FnAtX.of D sc_merged (fun vs H Q E h => ?_) (fun f cdv A outer s H vs Q E hr h => ?_)
  · obtain ⟨x, d, rfl, _⟩ := h
    rfl
  · obtain ⟨x, d, rfl, rd, hn, he⟩ := h
    exact ⟨_, pss_cons (ps_expr (pe_fx G1 hr flies_def (pa_cons (pv 0) pa_nil))) pss_never, _, rfl, x, d, rfl, rd, fun g => absurd g hn, fun _ => he⟩
theorem ok_middleX (D : DefAt K mg "middle" dMiddle ["table"]) (G1 : FnAtX P w K mg base 6 "need_table" ["thing"] (spNeedTX c0)) : FnAtX P w K mg base 7 "middle" ["table"] (spMX c0) := by
  refine FnAtX.of D sc_middle (fun vs H Q E h => ?_) (fun f cdv A outer s H vs Q E hr h => ?_)
  · obtain ⟨x, d, rfl, _⟩ := h
    rfl
  · obtain ⟨x, d, rfl, rd, hn, he⟩ := h
    exact ⟨_, pss_cons (ps_expr (pe_fx G1 hr flies_def (pa_cons (pv 0) pa_nil))) pss_never, _, rfl, x, d, rfl, rd, fun g => absurd g hn, fun _ => he⟩
def spNeedPX (c6 : Addr) : Sp := fun vs H Q E => ∃ (t : Addr) (prs : Prs) (x : V) (d : PyData), vs = [.ref t, x] ∧ Tab H t prs ∧ tabB prs = true ∧ RdS [] H x d ∧ placeD (prs.length * w0 prs) d = false ∧ E (.ref c6) none H
theorem ok_needPX (hk : ExcK K c6) (hm : mg "NoPlace" = some (.ref c6)) (D : DefAt K mg "need_place" dNeedPlace ["table", "thing"]) (G1 : FnAt P w K mg base 1 "is_whole" ["thing"] spIsWholeA) (G2 : FnAt P w K mg base 1 "how_many_cells" ["table"] spMany) : FnAtX P w K mg base 2 "need_place" ["table", "thing"] (spNeedPX c6) := by
  refine FnAtX.of D sc_needPlace (fun vs H Q E h => ?_) (fun f cdv A outer s H vs Q E hr h => ?_)
  · obtain ⟨t, prs, x, d, rfl, _⟩ := h
    rfl
  · obtain ⟨t, prs, x, d, rfl, hT, hg, rd, hp, he⟩ := h
    refine ⟨_, pss_one (ps_if (PW.pt (pw_or (pt_not (pt_val (pe_f G1 hr (pa_cons (pv 1) pa_nil)))) (pw_or1 (pt_not (pt_chain o_le o_lt pe_int (pv 1) (pe_f G2 hr (pa_cons (pv 0) pa_nil))))))) (pss_one (ps_raise throws_def hk pe_str hm)) pss_nil), ?_⟩
    refine ⟨_, rfl, x, d, rfl, rd, _, rfl, ?_⟩
    cases rd with
    | int k =>
      refine iteF ⟨_, rfl, _, _, rfl, rfl, _, rfl, ?_⟩
      by_cases h0 : (0 : Int) ≤ k
      · rw [decide_eq_true h0]
        refine iteT ⟨_, rfl, t, prs, rfl, hT, hg, _, _, rfl, rfl, _, rfl, ?_⟩
        have h1 : ¬ k < (prs.length : Int) * (w0 prs : Int) := fun z => by
          have hp' : (decide (0 ≤ k) && decide (k < ((prs.length * w0 prs : Nat) : Int))) = false := hp
          rw [decide_eq_true h0, Int.natCast_mul, decide_eq_true z] at hp'
          cases hp'
        rw [decide_eq_false h1]
        exact iteT he
      · rw [decide_eq_false h0]
        exact iteF ⟨_, rfl, iteT he⟩
    | _ => exact iteT he
def spNbX (c0 c6 : Addr) : Sp := fun vs H Q E => ∃ (x y : V), vs = [x, y] ∧ ((∃ d, RdS [] H x d ∧ ¬ GoodD d ∧ ∀ H', Same H H' → E (.ref c0) none H') ∨
  ∃ (t : Addr) (prs : Prs) (e : PyData), x = .ref t ∧ Tab H t prs ∧ tabB prs = true ∧ RdS [] H y e ∧ placeD (prs.length * w0 prs) e = false ∧ ∀ H', Same H H' → E (.ref c6) none H')
theorem ok_numberByX (D : DefAt K mg "number_by" dNumberBy ["table", "k"]) (G1 : FnAtX P w K mg base 6 "need_table" ["thing"] (spNeedTX c0)) (G2 : FnAtX P w K mg base 2 "need_place" ["table", "thing"] (spNeedPX c6)) : FnAtX P w K mg base 7 "number_by" ["table", "k"] (spNbX c0 c6) := by
  refine FnAtX.of D sc_numberBy (fun vs H Q E h => ?_) (fun f cdv A outer s H vs Q E hr h => ?_)
  · obtain ⟨x, y, rfl, _⟩ := h
    rfl
  · obtain ⟨x, y, rfl, h⟩ := h
    refine ⟨_, pss_cons (ps_expr (pe_fx G1 hr flies_def (pa_cons (pv 0) pa_nil))) (pss_cons (ps_expr (pe_fx G2 (hr.mono (by decide)) flies_def (pa_cons (pv 0) (pa_cons (pv 1) pa_nil)))) pss_never), ?_⟩
    rcases h with ⟨d, rd, hn, he⟩ | ⟨t, prs, e, rfl, hT, hg, re, hc, he⟩
    · exact ⟨_, rfl, x, d, rfl, rd, fun g => absurd g hn, fun _ => he⟩
    · exact ⟨_, rfl, _, _, rfl, tab_rds hT, fun _ H1 s1 => ⟨_, rfl, _, rfl, t, prs, y, e, rfl, hT.same s1, hg, re.same s1, hc, he H1 s1⟩, fun z => absurd (goodD_tab.mpr hg) z⟩
def spTX (c0 c2 : Addr) : Sp := fun vs H Q E => ∃ (x y : V), vs = [x, y] ∧ ((∃ d, RdS [] H x d ∧ ¬ GoodD d ∧ ∀ H', Same H H' → E (.ref c0) none H') ∨
  ∃ (t : Addr) (prs : Prs) (e : PyData), x = .ref t ∧ Tab H t prs ∧ tabB prs = true ∧ RdS [] H y e ∧ isIntD e = false ∧ ∀ H', Same H H' → E (.ref c2) none H')
theorem ok_stairX (D : DefAt K mg "stair_of" dStair ["table", "x"]) (G1 : FnAtX P w K mg base 6 "need_table" ["thing"] (spNeedTX c0)) (G2 : FnAtX P w K mg base 2 "need_number" ["thing"] (spNeedNX c2)) : FnAtX P w K mg base 7 "stair_of" ["table", "x"] (spTX c0 c2) := by
  refine FnAtX.of D sc_stair (fun vs H Q E h => ?_) (fun f cdv A outer s H vs Q E hr h => ?_)
  · obtain ⟨x, y, rfl, _⟩ := h
    rfl
  · obtain ⟨x, y, rfl, h⟩ := h
    refine ⟨_, pss_cons (ps_expr (pe_fx G1 hr flies_def (pa_cons (pv 0) pa_nil))) (pss_cons (ps_expr (pe_fx G2 (hr.mono (by decide)) flies_def (pa_cons (pv 1) pa_nil))) pss_never), ?_⟩
    rcases h with ⟨d, rd, hn, he⟩ | ⟨t, prs, e, rfl, hT, hg, re, hc, he⟩
    · exact ⟨_, rfl, x, d, rfl, rd, fun g => absurd g hn, fun _ => he⟩
    · exact ⟨_, rfl, _, _, rfl, tab_rds hT, fun _ H1 s1 => ⟨_, rfl, y, e, rfl, re.same s1, (fun z => by rw [hc] at z; cases z), fun _ => he H1 s1⟩, fun z => absurd (goodD_tab.mpr hg) z⟩
theorem ok_highX (D : DefAt K mg "high_stair" dHigh ["table", "x"]) (G1 : FnAtX P w K mg base 6 "need_table" ["thing"] (spNeedTX c0)) (G2 : FnAtX P w K mg base 2 "need_number" ["thing"] (spNeedNX c2)) : FnAtX P w K mg base 7 "high_stair" ["table", "x"] (spTX c0 c2) := by
  refine FnAtX.of D sc_high (fun vs H Q E h => ?_) (fun f cdv A outer s H vs Q E hr h => ?_)
  · obtain ⟨x, y, rfl, _⟩ := h
    rfl
  · obtain ⟨x, y, rfl, h⟩ := h
    refine ⟨_, pss_cons (ps_expr (pe_fx G1 hr flies_def (pa_cons (pv 0) pa_nil))) (pss_cons (ps_expr (pe_fx G2 (hr.mono (by decide)) flies_def (pa_cons (pv 1) pa_nil))) pss_never), ?_⟩
    rcases h with ⟨d, rd, hn, he⟩ | ⟨t, prs, e, rfl, hT, hg, re, hc, he⟩
    · exact ⟨_, rfl, x, d, rfl, rd, fun g => absurd g hn, fun _ => he⟩
    · exact ⟨_, rfl, _, _, rfl, tab_rds hT, fun _ H1 s1 => ⟨_, rfl, y, e, rfl, re.same s1, (fun z => by rw [hc] at z; cases z), fun _ => he H1 s1⟩, fun z => absurd (goodD_tab.mpr hg) z⟩
theorem ok_clessX (hs : mg "sum" = none) (D : DefAt K mg "count_less" dCless ["table", "x"]) (G : FnAtX P w K mg base 7 "stair_of" ["table", "x"] (spTX c0 c2)) : FnAtX P w K mg base 8 "count_less" ["table", "x"] (spTX c0 c2) := by
  refine FnAtX.of D sc_cless (fun vs H Q E h => ?_) (fun f cdv A outer s H vs Q E hr h => ?_)
  · obtain ⟨x, y, rfl, _⟩ := h
    rfl
  · obtain ⟨x, y, rfl, h⟩ := h
    exact ⟨_, pss_one (ps_ret (pe_b (call_sum rfl) hs boot_sum (pa_cons (pe_fx G hr flies_def (pa_cons (pv 0) (pa_cons (pv 1) pa_nil))) pa_nil))), _, rfl, _, rfl, x, y, rfl, h⟩
theorem ok_cmostX (hs : mg "sum" = none) (D : DefAt K mg "count_most" dCmost ["table", "x"]) (G : FnAtX P w K mg base 7 "high_stair" ["table", "x"] (spTX c0 c2)) : FnAtX P w K mg base 8 "count_most" ["table", "x"] (spTX c0 c2) := by
  refine FnAtX.of D sc_cmost (fun vs H Q E h => ?_) (fun f cdv A outer s H vs Q E hr h => ?_)
  · obtain ⟨x, y, rfl, _⟩ := h
    rfl
  · obtain ⟨x, y, rfl, h⟩ := h
    exact ⟨_, pss_one (ps_ret (pe_b (call_sum rfl) hs boot_sum (pa_cons (pe_fx G hr flies_def (pa_cons (pv 0) (pa_cons (pv 1) pa_nil))) pa_nil))), _, rfl, _, rfl, x, y, rfl, h⟩
def spFrX (c0 c2 : Addr) : Sp := fun vs H Q E => ∃ (x y z : V), vs = [x, y, z] ∧ ((∃ d, RdS [] H x d ∧ ¬ GoodD d ∧ ∀ H', Same H H' → E (.ref c0) none H') ∨
  ∃ (t : Addr) (prs : Prs), x = .ref t ∧ Tab H t prs ∧ tabB prs = true ∧ ((∃ e, RdS [] H z e ∧ isIntD e = false) ∨ ∃ (n : Int) (e : PyData), z = .int n ∧ RdS [] H y e ∧ isIntD e = false) ∧ ∀ H', Same H H' → E (.ref c2) none H')
theorem ok_cfromX (T : Blt mg) (D : DefAt K mg "count_from" dCfrom ["table", "a", "b"]) (G1 : FnAtX P w K mg base 8 "count_less" ["table", "x"] (spTX c0 c2)) (G2 : FnAt P w K mg base 8 "count_most" ["table", "x"] (spCount mostN)) (G2x : FnAtX P w K mg base 8 "count_most" ["table", "x"] (spTX c0 c2)) : FnAtX P w K mg base 9 "count_from" ["table", "a", "b"] (spFrX c0 c2) := by
  refine FnAtX.of D sc_cfrom (fun vs H Q E h => ?_) (fun f cdv A outer s H vs Q E hr h => ?_)
  · obtain ⟨x, y, z, rfl, _⟩ := h
    rfl
  · obtain ⟨x, y, z, rfl, h⟩ := h
    have g2 := G2.toX.or G2x
    refine ⟨_, pss_one (ps_ret (pe_b (call_max2 rfl) T.max boot_max (pa_cons pe_int (pa_cons (pe_op o_sub (pe_fx g2 hr flies_def (pa_cons (pv 0) (pa_cons (pv 2) pa_nil))) (pe_fx G1 hr flies_def (pa_cons (pv 0) (pa_cons (pv 1) pa_nil)))) pa_nil)))), ?_⟩
    rcases h with ⟨d, rd, hn, he⟩ | ⟨t, prs, rfl, hT, hg, hc, he⟩
    · exact ⟨_, rfl, _, rfl, .inr ⟨x, z, rfl, .inl ⟨d, rd, hn, he⟩⟩⟩
    · rcases hc with ⟨e, re, hi⟩ | ⟨n, e, rfl, re, hi⟩
      · exact ⟨_, rfl, _, rfl, .inr ⟨_, z, rfl, .inr ⟨t, prs, e, rfl, hT, hg, re, hi, he⟩⟩⟩
      · exact ⟨_, rfl, _, rfl, .inl ⟨t, prs, n, rfl, hT, hg, fun H1 s1 => ⟨_, rfl, _, rfl, _, y, rfl, .inr ⟨t, prs, e, rfl, hT.same s1, hg, re.same s1, hi, fun H2 s2 => he H2 (s1.trans s2)⟩⟩⟩⟩
end
end Seek
namespace Seek
open PySem L2 PyProof.Rows
/-- no place, of a size -/
def NP (n : Nat) (d : PyData) : Prop := placeD n d = false ∧ Sz 1000 8 d
theorem np_int {n : Nat} {z : Int} (h : ¬ (0 ≤ z ∧ z < n)) (hz : z.natAbs < 10 ^ 40) : NP n (.int z) := by
  refine ⟨?_, (sz_int hz).mono (by decide) (by decide)⟩
  cases e : placeD n (.int z) with
  | false => rfl
  | true =>
    simp only [placeD, Bool.and_eq_true, decide_eq_true_eq] at e
    exact absurd e h
theorem np_lit {n : Nat} {d : PyData} (h : placeD n d = false) (hz : (d.showable && decide (d.shown.length ≤ 1000) && decide (d.depth ≤ 8)) = true) : NP n d := ⟨h, sz_of hz⟩
theorem ad_take {X : Cx} {Γ : EnB} {e : Expr} {m : Int} (h : PE X e (tF spTake (tCons (tVar 0) (tCons (tC (.int m)) tNil)))) (h0 : 0 < m) (g : ∀ B σ H, Γ B σ H → ∃ st D, B = abS st D ∧ σ[0]? = some (some (.ref st))) : AE X Γ e (tD (IP fun n => 0 ≤ n ∧ n < m)) :=
  ⟨pe_imp h fun σ H Q ⟨B, hg, j, q⟩ => by
    obtain ⟨st, D, rfl, e0⟩ := g B σ H hg
    exact ⟨_, e0, st, D, m, rfl, h0, j, fun v H' v0 v1 _ b S => q _ H' b.butS S ⟨_, .int v, v, rfl, v0, v1⟩⟩⟩
theorem ad_eqI {X : Cx} {Γ : EnB} {e : Expr} {i : Int} (h : AE X Γ e (tE (.int i))) : AE X Γ e (tD (IP (· = i))) := ad_imp h fun d e => ⟨i, e, rfl⟩
section
variable {P : Program} {w : World} {K : PySem.W.Frag} {mg : Str → Option Value} {base : Heap}
def spNoPlace : Sp := fun vs H Q _ => ∃ (s D : Addr) (n : Nat), vs = [.ref s, .int (n : Nat)] ∧ 1 ≤ n ∧ n ≤ 36 ∧ StoreOk H s D ∧ ∀ x e H', But s H H' → StoreOk H' s D → RdS [s] H' x e → placeD n e = false → Sz 1000 8 e → Q x H'
theorem sc_noPlace : FnScope ["store", "many", "odd"] ["store", "many"] (defScope dNoPlace) := ⟨rfl, rfl, rfl, by decide +kernel, rfl, by decide +kernel, by decide +kernel⟩
set_option maxHeartbeats 16000000 in
theorem ok_noPlace (Df : DefAt K mg "_law_no_place" dNoPlace ["store", "many"]) (G : FnAt P w K mg base 1 "_law_take" ["store", "many"] spTake) : FnAt P w K mg base 2 "_law_no_place" ["store", "many"] spNoPlace := by
  refine FnAt.of Df sc_noPlace (fun vs H Q E h => ?_) (fun f cdv A outer s H vs Q E hr h => ?_)
  · obtain ⟨s, D, n, rfl, _⟩ := h
    rfl
  · obtain ⟨st, D, n, rfl, n1, n2, S0, q⟩ := h
    have nd := sc_noPlace.nd
    let X : Cx := (cxOf CX0 P w K mg base ["store", "many", "odd"] "_law_no_place" (defScope dNoPlace) f cdv A outer s H E).nox
    have tk : ∀ {Γ : EnB}, (∀ B σ H, Γ B σ H → ∃ st D, B = abS st D ∧ σ[0]? = some (some (.ref st))) → ∀ {q1 q2 q3 q5 : Pos} {j}, AE X Γ (.Call (.Name "_law_take" q1) [.Name "store" q2, .Constant (.int 40) j q3] [] q5) (tD (IP fun n => 0 ≤ n ∧ n < 40)) := fun {Γ} g {q1 q2 q3 q5 j} => ad_take (pe_f G hr (pa_cons (pv 0) (pa_cons pe_int pa_nil))) (by decide) g
    let Γ0 : EnB := EnvD st D [(1, .int (n : Nat))]
    let Γ1 : EnB := EnvL st D [(1, .int (n : Nat))] 2 (LP (NP n) 12 12)
    have g0 : ∀ B σ H, Γ0 B σ H → ∃ st D, B = abS st D ∧ σ[0]? = some (some (.ref st)) := fun B σ H h => ⟨st, D, h.1, h.2.1⟩
    have g1 : ∀ B σ H, Γ1 B σ H → ∃ st D, B = abS st D ∧ σ[0]? = some (some (.ref st)) := fun B σ H h => ⟨st, D, h.1.1, h.1.2.1⟩
    have s0 : StbE Γ0 := st_env
    have s1 : StbE Γ1 := st_envL
    have m0 : ∀ {p : Pos}, AE X Γ0 (.Name "many" p) (tE (.int (n : Nat))) := fun {p} => ad_env (pv 1) (.head _)
    have m1 : ∀ {p : Pos}, AE X Γ1 (.Name "many" p) (tE (.int (n : Nat))) := fun {p} => ad_envL (pv 1) (.head _)
    have big : (1000 : Nat) ≤ 10 ^ 40 := by decide
    have i0 : ∀ {p1 p2 : Pos} {j}, AE X Γ0 (.UnaryOp .USub (.Constant (.int 1) j p1) p2) (tD (NP n)) := fun {p1 p2 j} => ad_imp (ad_negE (ad_intE pe_int)) fun z e => by rw [e]; exact np_int (by omega) (by omega)
    have i1 : ∀ {p : Pos}, AE X Γ0 (.Name "many" p) (tD (NP n)) := fun {p} => ad_imp m0 fun z e => by rw [e]; exact np_int (by omega) (by omega)
    have i2 : ∀ {p1 p2 q1 q2 q3 q5 : Pos} {j}, AE X Γ0 (.BinOp (.Name "many" p1) .Add (.Call (.Name "_law_take" q1) [.Name "store" q2, .Constant (.int 40) j q3] [] q5) p2) (tD (NP n)) := fun {p1 p2 q1 q2 q3 q5 j} => ad_imp (ad_add s0 (ad_eqI m0) (tk g0)) fun z ⟨k, e, a, b, ha, hb, hk⟩ => by rw [e]; exact np_int (by omega) (by omega)
    have i3 : ∀ {p1 p2 p3 : Pos} {j1 j2}, AE X Γ0 (.BinOp (.Constant (.int 10) j1 p1) .Pow (.Constant (.int 25) j2 p2) p3) (tD (NP n)) := fun {p1 p2 p3 j1 j2} => ⟨pe_imp (pe_op o_pow pe_int pe_int) fun σ H Q ⟨B, hg, j, q⟩ => ⟨_, _, rfl, rfl, ⟨by decide, by decide, by decide⟩, q _ H (ButS.refl _ _) j ⟨_, .int _, np_int (by
        have : ((10 : Int) ^ (25 : Int).toNat) = 10000000000000000000000000 := by decide
        rw [this]
        omega) (by decide)⟩⟩⟩
    have Z0 : PS X ((defBody dNoPlace).getD 0 (.Pass ⟨0, 0, 0, 0⟩)) (tAsg (tA Γ0 (tD (LP (NP n) 12 12))) (gName 2)) := ps_set (i := 2) nd rfl (Or.inl rfl) (ad_disp (au_cons s0 i0 (au_cons s0 i1 (au_cons s0 i2 (au_cons s0 (ad_lit (.bool true) s0 (by kernel_rfl) (np_lit rfl (by decide +kernel))) (au_cons s0 (ad_lit (.bool false) s0 (by kernel_rfl) (np_lit rfl (by decide +kernel))) (au_cons s0 (ad_lit .none s0 (by kernel_rfl) (np_lit rfl (by decide +kernel))) (au_cons s0 (ad_lit (.str "0") s0 (by kernel_rfl) (np_lit rfl (by decide +kernel)))
      (au_cons s0 (ad_lit (.list [.int 0]) s0 (by kernel_rfl) (np_lit rfl (by decide +kernel))) (au_cons s0 (ad_lit (.tuple [.int 0]) s0 (by kernel_rfl) (np_lit rfl (by decide +kernel))) (au_cons s0 (ad_lit (.dict []) s0 (by kernel_rfl) (np_lit rfl (by decide +kernel))) (au_cons s0 i3 (au_cons s0 (ad_lit (.str "") s0 (by kernel_rfl) (np_lit rfl (by decide +kernel))) au_nil))))))))))))).pe
    have Z1 : PS X ((defBody dNoPlace).getD 1 (.Pass ⟨0, 0, 0, 0⟩)) (tRet (tA Γ1 (tD (NP n)))) := ps_ret (ad_item (ad_more (φ := NP n) s1 (ad_some (pv 2)) (ad_disp (au_cons s1 (ad_lit (.list []) s1 (by kernel_rfl) (np_lit rfl (by decide +kernel))) (au_cons s1 (ad_imp (ad_sub s1 (ad_eqI (ad_negE (ad_intE pe_int))) (tk g1)) fun z ⟨k, e, a, b, ha, hb, hk⟩ => by rw [e]; exact np_int (by omega) (by omega)) (au_cons s1 (ad_imp (ad_sub s1 (ad_eqI (ad_intE pe_int)) (ad_eqI m1)) fun z ⟨k, e, a, b, ha, hb, hk⟩ => by rw [e]; exact np_int (by omega) (by omega)) au_nil)))))
      (pe_f G hr (pa_cons (pv 0) (pa_cons pe_int pa_nil))) (fun _ _ => rfl) (fun B σ H Q hg j q => by
        obtain ⟨⟨e1, e2, _⟩, _⟩ := hg
        subst e1
        exact ⟨_, e2, st, D, 15, rfl, by decide, j, fun v H' v0 v1 _ b S => q v H' v0 v1 b.butS S⟩) s1).pe
    obtain ⟨B0, e0⟩ : ∃ S, S = (defBody dNoPlace).getD 0 (.Pass ⟨0, 0, 0, 0⟩) := ⟨_, rfl⟩
    rw [← e0] at Z0
    obtain ⟨B1, e1⟩ : ∃ S, S = (defBody dNoPlace).getD 1 (.Pass ⟨0, 0, 0, 0⟩) := ⟨_, rfl⟩
    rw [← e1] at Z1
    have hbd0 : defBody dNoPlace = [B0, B1] := by
      rw [e0, e1]
      kernel_rfl
    rw [hbd0]
    clear hbd0 e0 e1
    refine ⟨_, pss_cons Z0 (pss_one Z1), ?_⟩
    refine ⟨abS st D, ⟨rfl, rfl, fun x hx => ?_⟩, S0, fun v H1 b1 S1 a1 => ⟨abS st D, ⟨⟨rfl, rfl, fun x hx => ?_⟩, v, rfl, a1⟩, S1, fun x H2 b2 S2 ⟨e, re, he⟩ => q x e H2 (b1.trans b2).but S2 re he.1 he.2⟩⟩
    all_goals
      simp only [List.mem_cons, List.not_mem_nil, or_false] at hx
      rcases hx with rfl
      exact vr_int rfl
end
end Seek
namespace Seek
open PySem L2 PyProof.Rows
theorem boot_repr : bootBuiltins "repr" = some (.builtin "repr") := by kernel_rfl
theorem sizeM {n : Nat} (h : n ≤ 1000000) : n ≤ sizeLine := Nat.le_trans h (by decide)
section
variable {P : Program} {w : World} {K : PySem.W.Frag} {mg : Str → Option Value} {base : Heap} {S c0 c2 c6 : Addr} {cs : List Addr}
/-- what the doors do with a thing for a table and two for numbers: refuse it by the i-th class, or take it -/
inductive Door (H : Hp) : Int → V → V → V → Option Nat → Prop
  | tab {door : Int} {x y z : V} {d : PyData} : RdS [] H x d → ¬ GoodD d → Door H door x y z (some 0)
  | place {t : Addr} {prs : Prs} {y z : V} {e : PyData} : Tab H t prs → tabB prs = true → RdS [] H y e → placeD (prs.length * w0 prs) e = false → Door H 2 (.ref t) y z (some 6)
  | num {door : Int} {t : Addr} {prs : Prs} {y z : V} {e : PyData} : Tab H t prs → tabB prs = true → RdS [] H y e → isIntD e = false → ((∃ e, RdS [] H z e ∧ isIntD e = false) ∨ ∃ n : Int, z = .int n) → (door = 3 ∨ door = 4 ∨ door = 5) → Door H door (.ref t) y z (some 2)
  | num5 {t : Addr} {prs : Prs} {y z : V} {e : PyData} : Tab H t prs → tabB prs = true → RdS [] H z e → isIntD e = false → Door H 5 (.ref t) y z (some 2)
  | all {door : Int} {t : Addr} {prs : Prs} {n : Int} : Tab H t prs → tabB prs = true → Door H door (.ref t) (.int 0) (.int n) none
def spCaught (K : PySem.W.Frag) (S : Addr) (cs : List Addr) : Sp := fun vs H Q _ => ∃ (door : Int) (x y z : V) (o : Option Nat), vs = [.int door, x, y, z] ∧ Door H door x y z o ∧
  match o with
  | some i => ∀ e C H', Err K S cs i C → Same H H' → H' e = some (excO e C) → Q (.ref e) H'
  | none => ∀ H', Same H H' → Q .non H'
theorem sc_caught : FnScope ["door", "table", "one", "other", "caught", "e"] ["door", "table", "one", "other"] (defScope dCaught) := ⟨rfl, rfl, rfl, by decide +kernel, rfl, by decide +kernel, by decide +kernel⟩
set_option maxHeartbeats 16000000 in
theorem ok_caught (N : Nms mg S cs) (kS : ExcK K S) (E0 : Err K S cs 0 c0) (E2 : Err K S cs 2 c2) (E6 : Err K S cs 6 c6) (D : DefAt K mg "_law_caught" dCaught ["door", "table", "one", "other"])
    (G1 : FnAt P w K mg base 7 "merged" ["table"] spMerged) (G1x : FnAtX P w K mg base 7 "merged" ["table"] (spMX c0))
    (G2 : FnAt P w K mg base 9 "middle" ["table"] spMiddle) (G2x : FnAtX P w K mg base 7 "middle" ["table"] (spMX c0))
    (G3 : FnAt P w K mg base 8 "number_by" ["table", "k"] spNumberBy) (G3x : FnAtX P w K mg base 7 "number_by" ["table", "k"] (spNbX c0 c6))
    (G4 : FnAt P w K mg base 8 "count_less" ["table", "x"] (spCount lessN)) (G4x : FnAtX P w K mg base 8 "count_less" ["table", "x"] (spTX c0 c2))
    (G5 : FnAt P w K mg base 8 "count_most" ["table", "x"] (spCount mostN)) (G5x : FnAtX P w K mg base 8 "count_most" ["table", "x"] (spTX c0 c2))
    (G6 : FnAt P w K mg base 9 "count_from" ["table", "a", "b"] spCountFrom) (G6x : FnAtX P w K mg base 9 "count_from" ["table", "a", "b"] (spFrX c0 c2)) : FnAt P w K mg base 10 "_law_caught" ["door", "table", "one", "other"] (spCaught K S cs) := by
  refine FnAt.of D sc_caught (fun vs H Q E h => ?_) (fun f cdv A outer s H vs Q E hr h => ?_)
  · obtain ⟨door, x, y, z, o, rfl, _⟩ := h
    rfl
  · obtain ⟨door, x, y, z, o, rfl, hd, q⟩ := h
    have nd := sc_caught.nd
    have g1 := G1.toX.or G1x
    have g2 := G2.toX.or (G2x.mono (by decide))
    have g3 := G3.toX.or (G3x.mono (by decide))
    have g4 := G4.toX.or G4x
    have g5 := G5.toX.or G5x
    have g6 := G6.toX.or G6x
    have hr7 : Room 7 _ := hr.mono (by decide)
    have hr8 : Room 8 _ := hr.mono (by decide)
    refine ⟨_, pss_cons (ps_set (i := 4) nd rfl (Or.inl rfl) pe_non) (pss_cons (ps_try (i := 5) rfl rfl nd kS N.seek (fun pn W R hR => pss_one (ps_if (pt_cmpR op_eq (pv 0) pe_int (nomark _)) (pss_one (ps_expr (pe_fx g1 hr7 hR (pa_cons (pv 1) pa_nil)))) (pss_one (ps_if (pt_cmpR op_eq (pv 0) pe_int (nomark _)) (pss_one (ps_expr (pe_fx g2 hr hR (pa_cons (pv 1) pa_nil)))) (pss_one (ps_if (pt_cmpR op_eq (pv 0) pe_int (nomark _)) (pss_one (ps_expr (pe_fx g3 hr8 hR (pa_cons (pv 1) (pa_cons (pv 2) pa_nil))))) (pss_one (ps_if (pt_cmpR op_eq (pv 0) pe_int (nomark _)) (pss_one (ps_expr (pe_fx g4 hr8 hR (pa_cons (pv 1) (pa_cons (pv 2) pa_nil))))) (pss_one (ps_if (pt_cmpR op_eq (pv 0) pe_int (nomark _)) (pss_one (ps_expr (pe_fx g5 hr8 hR (pa_cons (pv 1) (pa_cons (pv 2) pa_nil))))) (pss_one (ps_expr (pe_fx g6 hr hR (pa_cons (pv 1) (pa_cons (pv 2) (pa_cons (pv 3) pa_nil))))))))))))))))
      (fun v => pss_one (ps_set (i := 4) nd rfl (Or.inl rfl) (pv 5)))) (pss_one (ps_ret (pv 4)))), ?_⟩
    have up : ∀ {i : Nat} {C : Addr} {H' : Hp}, o = some i → Err K S cs i C → Same H H' → RTry K S 5 (tAsg (tVar 5) (gName 4)) { nx := (tRet (tVar 4)) { nx := fun _ H' => Q .non H', rt := Q }, rt := Q } [some (.int door), some x, some y, some z, some .non, none] (.ref C) H' := fun {i C H'} ho er s' => by
      subst ho
      exact ⟨C, rfl, er.k, er.sk, fun e he => ⟨_, rfl, _, rfl, q e C _ er (s'.trans (Same.new he)) upd_same⟩⟩
    refine ⟨_, rfl, rfl, _, rfl, ?_⟩
    cases hd with
    | @tab door x y z d r n =>
      refine ite2 (fun _ => ?_) (fun _ => ⟨_, rfl, rfl, _, rfl, ite2 (fun _ => ?_) (fun _ => ⟨_, rfl, rfl, _, rfl, ite2 (fun _ => ?_) (fun _ => ⟨_, rfl, rfl, _, rfl, ite2 (fun _ => ?_) (fun _ => ⟨_, rfl, rfl, _, rfl, ite2 (fun _ => ?_) (fun _ => ?_)⟩)⟩)⟩)⟩)
      · exact ⟨_, rfl, .inr ⟨x, d, rfl, r, n, fun H' s' => up rfl E0 s'⟩⟩
      · exact ⟨_, rfl, .inr ⟨x, d, rfl, r, n, fun H' s' => up rfl E0 s'⟩⟩
      · exact ⟨_, rfl, _, rfl, .inr ⟨x, y, rfl, .inl ⟨d, r, n, fun H' s' => up rfl E0 s'⟩⟩⟩
      · exact ⟨_, rfl, _, rfl, .inr ⟨x, y, rfl, .inl ⟨d, r, n, fun H' s' => up rfl E0 s'⟩⟩⟩
      · exact ⟨_, rfl, _, rfl, .inr ⟨x, y, rfl, .inl ⟨d, r, n, fun H' s' => up rfl E0 s'⟩⟩⟩
      · exact ⟨_, rfl, _, rfl, _, rfl, .inr ⟨x, y, z, rfl, .inl ⟨d, r, n, fun H' s' => up rfl E0 s'⟩⟩⟩
    | @place t prs y z e hT hg re hc =>
      exact iteF ⟨_, rfl, rfl, _, rfl, iteF ⟨_, rfl, rfl, _, rfl, iteT ⟨_, rfl, _, rfl, .inr ⟨_, y, rfl, .inr ⟨t, prs, e, rfl, hT, hg, re, hc, fun H' s' => up rfl E6 s'⟩⟩⟩⟩⟩
    | @num door t prs y z e hT hg re hc hz hdoor =>
      rcases hdoor with rfl | rfl | rfl
      · exact iteF ⟨_, rfl, rfl, _, rfl, iteF ⟨_, rfl, rfl, _, rfl, iteF ⟨_, rfl, rfl, _, rfl, iteT ⟨_, rfl, _, rfl, .inr ⟨_, y, rfl, .inr ⟨t, prs, e, rfl, hT, hg, re, hc, fun H' s' => up rfl E2 s'⟩⟩⟩⟩⟩⟩
      · exact iteF ⟨_, rfl, rfl, _, rfl, iteF ⟨_, rfl, rfl, _, rfl, iteF ⟨_, rfl, rfl, _, rfl, iteF ⟨_, rfl, rfl, _, rfl, iteT ⟨_, rfl, _, rfl, .inr ⟨_, y, rfl, .inr ⟨t, prs, e, rfl, hT, hg, re, hc, fun H' s' => up rfl E2 s'⟩⟩⟩⟩⟩⟩⟩
      · refine iteF ⟨_, rfl, rfl, _, rfl, iteF ⟨_, rfl, rfl, _, rfl, iteF ⟨_, rfl, rfl, _, rfl, iteF ⟨_, rfl, rfl, _, rfl, iteF ⟨_, rfl, _, rfl, _, rfl, .inr ⟨_, y, z, rfl, .inr ⟨t, prs, rfl, hT, hg, ?_, fun H' s' => up rfl E2 s'⟩⟩⟩⟩⟩⟩⟩
        rcases hz with h | ⟨n, h⟩
        · exact .inl h
        · exact .inr ⟨n, e, h, re, hc⟩
    | @num5 t prs y z e hT hg re hc =>
      exact iteF ⟨_, rfl, rfl, _, rfl, iteF ⟨_, rfl, rfl, _, rfl, iteF ⟨_, rfl, rfl, _, rfl, iteF ⟨_, rfl, rfl, _, rfl, iteF ⟨_, rfl, _, rfl, _, rfl, .inr ⟨_, y, z, rfl, .inr ⟨t, prs, rfl, hT, hg, .inl ⟨e, re, hc⟩, fun H' s' => up rfl E2 s'⟩⟩⟩⟩⟩⟩⟩
    | @all door t prs n hT hg =>
      obtain ⟨g, g1', g2', g3', g4'⟩ := good_of hg
      have hm : 1 * 1 ≤ prs.length * w0 prs := Nat.mul_le_mul g1' g3'
      refine ite2 (fun _ => ?_) (fun _ => ⟨_, rfl, rfl, _, rfl, ite2 (fun _ => ?_) (fun _ => ⟨_, rfl, rfl, _, rfl, ite2 (fun _ => ?_) (fun _ => ⟨_, rfl, rfl, _, rfl, ite2 (fun _ => ?_) (fun _ => ⟨_, rfl, rfl, _, rfl, ite2 (fun _ => ?_) (fun _ => ?_)⟩)⟩)⟩)⟩)
      · exact ⟨_, rfl, .inl ⟨t, prs, rfl, hT, hg, fun L es H' hL s' _ _ _ => ⟨_, rfl, q H' s'⟩⟩⟩
      · exact ⟨_, rfl, .inl ⟨t, prs, rfl, hT, hg, fun fs H' s' _ => ⟨_, rfl, q H' s'⟩⟩⟩
      · exact ⟨_, rfl, _, rfl, .inl ⟨t, prs, 0, rfl, hT, hg, by omega, fun fs H' s' _ => ⟨_, rfl, q H' s'⟩⟩⟩
      · exact ⟨_, rfl, _, rfl, .inl ⟨t, prs, 0, rfl, hT, hg, fun H' s' => ⟨_, rfl, q H' s'⟩⟩⟩
      · exact ⟨_, rfl, _, rfl, .inl ⟨t, prs, 0, rfl, hT, hg, fun H' s' => ⟨_, rfl, q H' s'⟩⟩⟩
      · exact ⟨_, rfl, _, rfl, _, rfl, .inl ⟨t, prs, 0, n, rfl, hT, hg, fun H' s' => ⟨_, rfl, q H' s'⟩⟩⟩
/-! _law_refused -/
def spRefused : Sp := fun vs H Q _ => ∃ (door : Int) (l : Addr) (k : Nat) (x y z : V) (d e g : PyData), vs = [.int door, .ref l, .int (k : Nat)] ∧ H l = some (.lst [x, y, z]) ∧ k < 12 ∧ Door H door x y z (some (pmL.getD k 0)) ∧ RdS [] H x d ∧ RdS [] H y e ∧ RdS [] H z g ∧ Sz 100000 50 d ∧ Sz 100000 50 e ∧ Sz 100000 50 g ∧ ∀ H', Same H H' → Q (.bl true) H'
theorem sc_refused : FnScope ["door", "row", "due", "kept", "caught"] ["door", "row", "due"] (defScope dRefused) := ⟨rfl, rfl, rfl, by decide +kernel, rfl, by decide +kernel, by decide +kernel⟩
set_option maxHeartbeats 16000000 in
theorem ok_refused (hre : mg "repr" = none) (D : DefAt K mg "_law_refused" dRefused ["door", "row", "due"]) (G1 : FnAt P w K mg base 10 "_law_caught" ["door", "table", "one", "other"] (spCaught K S cs)) (G2 : FnAt P w K mg base 1 "_law_kinds" ["caught", "due"] (spKinds K S cs)) :
    FnAt P w K mg base 11 "_law_refused" ["door", "row", "due"] spRefused := by
  refine FnAt.of D sc_refused (fun vs H Q E h => ?_) (fun f cdv A outer s H vs Q E hr h => ?_)
  · obtain ⟨door, l, k, x, y, z, d, e, g, rfl, _⟩ := h
    rfl
  · obtain ⟨door, l, k, x, y, z, d, e, g, rfl, el, hk, hd, rd, re, rg, sd, se, sg, q⟩ := h
    have nd := sc_refused.nd
    have hr1 : Room 1 _ := hr.mono (by decide)
    refine ⟨_, pss_cons (ps_set (i := 3) nd rfl (Or.inl rfl) (pe_b (call_reprS hr.gd hr.units) hre boot_repr (pa_cons (pv 1) pa_nil)))
      (pss_cons (ps_set (i := 4) nd rfl (Or.inl rfl) (pe_f G1 hr (pa_cons (pv 0) (pa_cons (pe_ix ix_list (pv 1) pe_int (fun _ _ => rfl)) (pa_cons (pe_ix ix_list (pv 1) pe_int (fun _ _ => rfl)) (pa_cons (pe_ix ix_list (pv 1) pe_int (fun _ _ => rfl)) pa_nil))))))
      (pss_one (ps_ret (pe_and (pe_f G2 hr1 (pa_cons (pv 4) (pa_cons (pv 2) pa_nil))) (pe_one (pe_cmpR op_eq (pe_b (call_reprS hr.gd hr.units) hre boot_repr (pa_cons (pv 1) pa_nil)) (pv 3) (nomark _))))))), ?_⟩
    have sz : Sz 1000000 60 (.list [d, e, g]) := (sz_list (n := 3) (fun z hz => by
      simp only [List.mem_cons, List.not_mem_nil, or_false] at hz
      rcases hz with h | h | h
      · rw [h]; exact sd
      · rw [h]; exact se
      · rw [h]; exact sg) (Nat.le_refl _)).mono (by decide) (by decide)
    have rl : RdS [] H (.ref l) (.list [d, e, g]) := .lst el (by simp) (.cons rd (.cons re (.cons rg .nil)))
    refine ⟨_, rfl, _, _, rfl, rl, sz.sh, sizeM sz.le, sz.dp, ?_⟩
    refine ⟨_, rfl, _, rfl, l, _, 0, x, rfl, rfl, SqL.of el, rfl, _, rfl, l, _, 1, y, rfl, rfl, SqL.of el, rfl, _, rfl, l, _, 2, z, rfl, rfl, SqL.of el, rfl, door, x, y, z, _, rfl, hd, ?_⟩
    intro ex C H2 er s2 hex
    refine ⟨_, rfl, _, rfl, ex, C, k, rfl, hex, er, hk, fun H3 s3 => ⟨_, rfl, iteT ⟨_, rfl, _, _, rfl, rl.same (s2.trans s3), sz.sh, sizeM sz.le, sz.dp, _, rfl, rfl, ?_⟩⟩⟩
    rw [decide_eq_true rfl]
    exact q _ (s2.trans s3)
/-! _law_no_whole -/
def spNoWhole : Sp := fun vs H Q _ => ∃ (s D : Addr), vs = [.ref s] ∧ StoreOk H s D ∧ ∀ x e H', But s H H' → StoreOk H' s D → RdS [s] H' x e → isIntD e = false → Sz 1000 8 e → Q x H'
theorem sc_noWhole : FnScope ["store"] ["store"] (defScope dNoWhole) := ⟨rfl, rfl, rfl, by decide +kernel, rfl, by decide +kernel, by decide +kernel⟩
def nwD : List PyData := [.bool true, .bool false, .none, .str "5", .list [.int 5], .tuple [.int 5], .dict [], .str "", .list [], .tuple [], .str "-1"]
theorem ok_noWhole (D : DefAt K mg "_law_no_whole" dNoWhole ["store"]) (G : FnAt P w K mg base 1 "_law_take" ["store", "many"] spTake) : FnAt P w K mg base 2 "_law_no_whole" ["store"] spNoWhole := by
  refine FnAt.of D sc_noWhole (fun vs H Q E h => ?_) (fun f cdv A outer s H vs Q E hr h => ?_)
  · obtain ⟨st, D, rfl, _⟩ := h
    rfl
  · obtain ⟨st, D, rfl, S0, q⟩ := h
    let X : Cx := (cxOf CX0 P w K mg base ["store"] "_law_no_whole" (defScope dNoWhole) f cdv A outer s H E).nox
    have hi : ∀ (q1 q2 q3 q5 : Pos) (j), PE X (.Call (.Name "_law_take" q1) [.Name "store" q2, .Constant (.int 11) j q3] [] q5) (tF spTake (tCons (tVar 0) (tCons (tC (.int 11)) tNil))) := fun q1 q2 q3 q5 j => pe_f G hr (pa_cons (pv 0) (pa_cons pe_int pa_nil))
    have L := fun (es : List Expr) (p1 p2 p3 q1 q2 q3 q5 : Pos) (j) => ps_ret (X := X) (pos := p3) (pe_litix (es := es) (p1 := p1) (p2 := p2) (Γ := fun B' σ H => B' = abS st D ∧ σ = [some (.ref st)]) (n := 11) (fun _ _ _ _ h _ => h) (hi q1 q2 q3 q5 j) (fun _ _ => rfl) (fun B' σ H Q hg j q => by
        obtain ⟨e1, e2⟩ := hg
        subst e1 e2
        exact ⟨_, rfl, st, D, 11, rfl, by decide, j, fun v H' v0 v1 _ b D => q v H' v0 v1 b.butS D⟩))
    have X0 : PS X ((defBody dNoWhole).getD 0 (.Pass ⟨0, 0, 0, 0⟩)) _ := L _ _ _ _ _ _ _ _ _
    obtain ⟨S0', e0⟩ : ∃ S, S = (defBody dNoWhole).getD 0 (.Pass ⟨0, 0, 0, 0⟩) := ⟨_, rfl⟩
    rw [← e0] at X0
    have hbd0 : defBody dNoWhole = [S0'] := by
      rw [e0]
      kernel_rfl
    rw [hbd0]
    clear hbd0 e0
    refine ⟨_, pss_one X0, ?_⟩
    refine ⟨abS st D, nwD, ⟨rfl, rfl⟩, S0, by kernel_rfl, by decide, fun v e H' he re b S => ?_⟩
    have hz : nwD.all (fun z => (z.showable && decide (z.shown.length ≤ 1000) && decide (z.depth ≤ 8)) && !isIntD z) = true := by decide +kernel
    have z := List.all_eq_true.mp hz e he
    rw [Bool.and_eq_true] at z
    exact q v e H' b.but S re (by simpa using z.2) (sz_of z.1)
end
end Seek
namespace Seek
open PySem L2 PyProof.Rows
theorem sz_tabB {prs : Prs} (hg : tabB prs = true) (hb : Bnd prs) : Sz 100000 50 (dTab (prs.map (·.2))) := by
  obtain ⟨g, g1, g2, g3, g4⟩ := good_of hg
  refine (sz_rows (by rw [List.length_map]; exact g2) fun x hx => ?_).mono (by decide) (by decide)
  obtain ⟨p, hp, rfl⟩ := List.mem_map.mp hx
  exact ⟨by rw [g.len p hp]; omega, fun n hn => Nat.lt_of_lt_of_le (hb p hp n hn) (by decide)⟩
theorem tw3 (u v : V) (k : Int) : ∃ y : Nat, y < 2 ∧ atI [u, v] (k % 2) = some (if y = 0 then u else v) := by
  obtain ⟨y, hy, hy2⟩ : ∃ y : Nat, k % 2 = y ∧ y < 2 := ⟨(k % 2).toNat, by omega, by omega⟩
  refine ⟨y, hy2, ?_⟩
  rw [hy]
  have : y = 0 ∨ y = 1 := by omega
  rcases this with rfl | rfl <;> rfl
theorem rw_of {prs prs' : Prs} (h : prs'.map (·.2) = prs.map (·.2)) : prs'.length * w0 prs' = prs.length * w0 prs := by
  have hl : prs'.length = prs.length := by
    have := congrArg List.length h
    simpa using this
  have hw : w0 prs' = w0 prs := by
    have := congrArg (fun l : List (List Int) => (l.head?.map List.length).getD 0) h
    simp only [List.head?_map, Option.map_map] at this
    exact this
  rw [hl, hw]
section
variable {P : Program} {w : World} {K : PySem.W.Frag} {mg : Str → Option Value} {base : Heap} {S : Addr} {cs : List Addr}
def spLaw (K : PySem.W.Frag) : Sp := fun vs H Q _ => ∃ (a : Addr) (ns : List Int), vs = [.ref a] ∧ SqL K H a (ns.map V.int) ∧ ns.length ≤ 63 ∧ ∀ H', Q (.bl true) H'
abbrev lawN : List Str := ["script", "store", "turn", "table", "handed", "many", "k", "bad", "odd", "place", "door"]
theorem sc_law : FnScope lawN ["script"] (defScope dLaw) := ⟨rfl, rfl, rfl, by decide +kernel, rfl, by decide +kernel, by decide +kernel⟩
set_option maxHeartbeats 32000000 in
theorem ok_law (T : Blt mg) {f : Addr} {fd : FuncData} (F : Fun K "law" "law" dLaw f fd) (G1 : FnAt P w K mg base 1 "_law_draws" ["script", "many"] (spDraws K)) (G2 : FnAt P w K mg base 2 "_law_table" ["store"] spTable) (G3 : FnAt P w K mg base 1 "_law_copy" ["table"] spCopy)
    (G4 : FnAt P w K mg base 3 "_law_no_table" ["store", "table"] spNoTab9) (G5 : FnAt P w K mg base 2 "_law_no_whole" ["store"] spNoWhole) (G8 : FnAt P w K mg base 2 "_law_no_place" ["store", "many"] spNoPlace) (G6 : FnAt P w K mg base 10 "_law_caught" ["door", "table", "one", "other"] (spCaught K S cs)) (G7 : FnAt P w K mg base 11 "_law_refused" ["door", "row", "due"] spRefused) : FnOk P w K mg base CX0 12 f fd ["script"] (spLaw K) := by
  refine F.ok sc_law (fun vs H Q E h => ?_) (fun cdv A outer s H vs Q E hr h => ?_)
  · obtain ⟨a, ns, rfl, _⟩ := h
    rfl
  · obtain ⟨a, ns, rfl, hS, hlen, q⟩ := h
    have nd := sc_law.nd
    have hr1 : Room 1 _ := hr.mono (by decide)
    have hr2 : Room 2 _ := hr.mono (by decide)
    have hr3 : Room 3 _ := hr.mono (by decide)
    have hr10 : Room 10 _ := hr.mono (by decide)
    refine ⟨_, pss_cons (ps_set (i := 1) nd rfl (Or.inl rfl) (pe_lst (pa_cons (pe_f G1 hr1 (pa_cons (pv 0) (pa_cons pe_int pa_nil))) (pa_cons pe_int pa_nil))))
      (pss_cons (ps_for PassesOwn.never rfl (pi_range1 rfl T.rng (pa_cons pe_int pa_nil)) (pg_name (i := 2) nd rfl (Or.inl rfl))
        (pss_cons (ps_set (i := 3) nd rfl (Or.inl rfl) (pe_f G2 hr2 (pa_cons (pv 1) pa_nil)))
        (pss_cons (ps_set (i := 4) nd rfl (Or.inl rfl) (pe_f G3 hr1 (pa_cons (pv 3) pa_nil)))
        (pss_cons (ps_set (i := 5) nd rfl (Or.inl rfl) (pe_op o_mul (pe_b call_len_seq T.len boot_len (pa_cons (pv 3) pa_nil)) (pe_b call_len_seq T.len boot_len (pa_cons (pe_ix ix_list (pv 3) pe_int (fun _ _ => rfl)) pa_nil))))
        (pss_cons (ps_for PassesOwn.never rfl (pi_range1 rfl T.rng (pa_cons pe_int pa_nil)) (pg_name (i := 6) nd rfl (Or.inl rfl))
          (pss_cons (ps_set (i := 7) nd rfl (Or.inl rfl) (pe_f G4 hr3 (pa_cons (pv 1) (pa_cons (pv 3) pa_nil))))
          (pss_cons (ps_set (i := 8) nd rfl (Or.inl rfl) (pe_f G5 hr2 (pa_cons (pv 1) pa_nil)))
          (pss_cons (ps_set (i := 9) nd rfl (Or.inl rfl) (pe_f G8 hr2 (pa_cons (pv 1) (pa_cons (pv 5) pa_nil))))
          (pss_cons (ps_for PassesOwn.never rfl (pi_range1 rfl T.rng (pa_cons pe_int pa_nil)) (pg_name (i := 10) nd rfl (Or.inl rfl))
            (pss_one (ps_if (pt_not (pt_val (pe_f G7 hr (pa_cons (pv 10) (pa_cons (pe_lst (pa_cons (pv 7) (pa_cons (pe_ix ix_list (pe_lst (pa_cons pe_int (pa_cons (pv 8) pa_nil))) (pe_op o_mod (pv 6) pe_int) (fun _ _ => rfl)) (pa_cons (pe_ix ix_list (pe_lst (pa_cons pe_int (pa_cons (pv 9) pa_nil))) (pe_op o_mod (pe_op o_div (pv 6) pe_int) pe_int) (fun _ _ => rfl)) pa_nil)))) (pa_cons pe_int pa_nil)))))) (pss_one (ps_ret pe_bl)) pss_nil)))
          (pss_cons (ps_if (pt_not (pt_val (pe_f G7 hr (pa_cons pe_int (pa_cons (pe_lst (pa_cons (pv 4) (pa_cons (pv 9) (pa_cons pe_int pa_nil)))) (pa_cons pe_int pa_nil)))))) (pss_one (ps_ret pe_bl)) pss_nil)
          (pss_cons (ps_for PassesOwn.never rfl (pi_range2 rfl T.rng (pa_cons pe_int (pa_cons pe_int pa_nil))) (pg_name (i := 10) nd rfl (Or.inl rfl))
            (pss_one (ps_if (pt_not (pt_val (pe_f G7 hr (pa_cons (pv 10) (pa_cons (pe_lst (pa_cons (pv 4) (pa_cons (pv 8) (pa_cons (pe_ix ix_list (pe_lst (pa_cons pe_int (pa_cons (pv 8) pa_nil))) (pe_op o_mod (pv 6) pe_int) (fun _ _ => rfl)) pa_nil)))) (pa_cons pe_int pa_nil)))))) (pss_one (ps_ret pe_bl)) pss_nil)))
          (pss_one (ps_if (pt_not (pt_val (pe_f G7 hr (pa_cons pe_int (pa_cons (pe_lst (pa_cons (pv 4) (pa_cons pe_int (pa_cons (pv 8) pa_nil)))) (pa_cons pe_int pa_nil)))))) (pss_one (ps_ret pe_bl)) pss_nil)))))))))
        (pss_one (ps_for PassesOwn.never rfl (pi_range1 rfl T.rng (pa_cons pe_int pa_nil)) (pg_name (i := 10) nd rfl (Or.inl rfl))
          (pss_one (ps_if (PW.pt (pw_or (pt_cmpR op_notN (pe_f G6 hr10 (pa_cons (pv 10) (pa_cons (pv 4) (pa_cons pe_int (pa_cons pe_int pa_nil))))) pe_non (nomark _)) (pw_or1 (pt_cmpR (op_neD hr.units) (pv 4) (pv 3) (nomark _))))) (pss_one (ps_ret pe_bl)) pss_nil)))))))))
      (pss_one (ps_ret pe_bl))), ?_⟩
    refine ⟨_, rfl, a, ns, rfl, hS, hlen, fun D H1 ds hD s1 rD d1 d2 dd => ⟨len2, fun st hst => ?_⟩⟩
    have S0 : StoreOk (upd H1 st (.lst [.ref D, .int 0])) st D := ⟨0, ds, upd_same, rD.same (Same.new hst), by omega, dd⟩
    refine ⟨5, rfl, by decide, by decide, for_range (fun i σ H2 => ∃ o2 o3 o4 o5 o6 o7 o8 o9 o10 : Option V, σ = [some (.ref a), some (.ref st), o2, o3, o4, o5, o6, o7, o8, o9, o10] ∧ StoreOk H2 st D) ⟨none, none, none, none, none, none, none, none, none, rfl, S0⟩ ?_ (fun σ H2 _ => q _)⟩
    rintro i σ H2 hi ⟨o2, o3, o4, o5, o6, o7, o8, o9, o10, rfl, S2⟩
    refine ⟨_, rfl, st, D, rfl, S2, fun t prs H3 ht hfr hnd B3 S3 hT3 hg hb => ?_⟩
    obtain ⟨g, g1, g2, g3, g4⟩ := good_of hg
    obtain ⟨p0, hp0, hm0, hx0⟩ := head_at (prs := prs) g1
    refine ⟨_, rfl, t, prs, rfl, hT3, good_bounds hg, fun h prs' H4 hh hfr' s4 hT4' hrows => ?_⟩
    have hg' : tabB prs' = true := by rw [tabB_rows hrows]; exact hg
    have S4 := S3.same s4
    have hT4 := hT3.same s4
    have sT := sz_tabB hg hb
    refine ⟨_, rfl, t, _, rfl, .inl hT4.sq, _, rfl, t, _, 0, .ref p0.1, rfl, rfl, hT4.sq, atI_nat (j := 0) (by rw [List.getElem?_map, hx0]; rfl), p0.1, _, rfl, .inl (hT4.r p0 hm0).sq, _, _, rfl, rfl, .inl ⟨by omega, by rw [List.length_map]; omega⟩, ?_⟩
    rw [List.length_map, List.length_map, g.len p0 hm0, ← Int.natCast_mul]
    have n1 : 1 * 1 ≤ prs.length * w0 prs := Nat.mul_le_mul g1 g3
    have n2 : prs.length * w0 prs ≤ 6 * 6 := Nat.mul_le_mul g2 g4
    have hnn := rw_of hrows
    generalize hN : prs.length * w0 prs = n at n1 n2 hnn ⊢
    refine ⟨8, rfl, by decide, by decide, for_range (fun k σ H5 => ∃ o2 o6 o7 o8 o9 o10 : Option V, σ = [some (.ref a), some (.ref st), o2, some (.ref t), some (.ref h), some (.int (n : Nat)), o6, o7, o8, o9, o10] ∧ StoreOk H5 st D ∧ Tab H5 t prs ∧ Tab H5 h prs') ⟨_, _, _, _, _, _, rfl, S4, hT4, hT4'⟩ ?_ ?_⟩
    · rintro k σ H5 hk ⟨o2, o6, o7, o8, o9, o10, rfl, S5, hT5, hT5'⟩
      refine ⟨_, rfl, _, rfl, st, D, t, prs, rfl, S5, hT5, hg, hb, fun xb db H6 b6 S6 rb6 bt => ?_⟩
      have hT6 := hT5.but S5 b6
      have hT6' := hT5'.but S5 b6
      refine ⟨_, rfl, st, D, rfl, S6, fun xo eo H7 b7 S7 ro7 hno so => ?_⟩
      have hT7 := hT6.but S6 b7
      have hT7' := hT6'.but S6 b7
      have rb7 := rds_but rb6 b7.butS
      refine ⟨_, rfl, _, rfl, st, D, n, rfl, by omega, by omega, S7, fun xp ep H8 b8 S8 rp8 hnp sp => ?_⟩
      have hT : Tab H8 t prs := hT7.but S7 b8
      have hT' : Tab H8 h prs' := hT7'.but S7 b8
      have rb : RdS [] H8 xb db := (rds_but rb7 b8.butS).any
      have ro : RdS [] H8 xo eo := (rds_but ro7 b8.butS).any
      have rp : RdS [] H8 xp ep := rp8.any
      have rh : RdS [] H8 (.ref h) (dTab (prs.map (·.2))) := by
        have z := tab_rds hT'
        rw [hrows] at z
        exact z
      have sb : Sz 100000 50 db := bt.2.mono (by decide) (by decide)
      have so' : Sz 100000 50 eo := so.mono (by decide) (by decide)
      have sp' : Sz 100000 50 ep := sp.mono (by decide) (by decide)
      have s0' : Sz 100000 50 (.int 0) := (sz_of (c := 1000) (k := 4) (by decide +kernel)).mono (by decide) (by decide)
      have s3' : Sz 100000 50 (.int 3) := (sz_of (c := 1000) (k := 4) (by decide +kernel)).mono (by decide) (by decide)
      have pk : ∀ (y : Nat) (m : Int) (x : V) (e : PyData), RdS [] H8 x e → RdS [] H8 (if y = 0 then V.int m else x) (if y = 0 then PyData.int m else e) := fun y m x e r => by
        split
        · exact .int m
        · exact r
      have pz : ∀ (y : Nat) (m : Int) (e : PyData), Sz 100000 50 (.int m) → Sz 100000 50 e → Sz 100000 50 (if y = 0 then PyData.int m else e) := fun y m e h1 h2 => by split <;> assumption
      clear b6 b7 b8 rb6 rb7 ro7 rp8 hT5 hT6 hT7 hT5' hT6' hT7'
      have kp : ∀ {H' : Hp}, Same H8 H' → ∃ (o2' o6' o7' o8' o9' o10' : Option V), [some (.ref a), some (.ref st), o2, some (.ref t), some (.ref h), some (.int (n : Nat)), some (.int (0 + (k : Nat))), some xb, some xo, some xp, o10] = [some (.ref a), some (.ref st), o2', some (.ref t), some (.ref h), some (.int (n : Nat)), o6', o7', o8', o9', o10'] ∧ True := fun _ => ⟨_, _, _, _, _, _, rfl, trivial⟩
      clear kp
      refine ⟨6, rfl, by decide, by decide, for_range (fun j σ H' => ∃ o10 : Option V, σ = [some (.ref a), some (.ref st), o2, some (.ref t), some (.ref h), some (.int (n : Nat)), some (.int (0 + (k : Nat))), some xb, some xo, some xp, o10] ∧ Same H8 H') ⟨_, rfl, Same.refl _⟩ ?_ ?_⟩
      · rintro j σ H' hj ⟨o10, rfl, sm⟩
        obtain ⟨y1, _, hat1⟩ := tw3 (.int 0) xo (0 + (k : Nat))
        obtain ⟨y2, _, hat2⟩ := tw3 (.int 0) xp ((0 + (k : Nat)) / 2)
        refine ⟨_, rfl, _, rfl, _, rfl, len2, fun m1 hm1 => ⟨_, rfl, _, _, rfl, rfl, by decide, m1, _, _, _, rfl, rfl, SqL.of upd_same, hat1, ?_⟩⟩
        have sm1 := sm.trans (Same.new (o := .lst [.int 0, xo]) hm1)
        generalize upd H' m1 (.lst [.int 0, xo]) = Ha at sm1 ⊢
        refine ⟨_, rfl, len2, fun m2 hm2 => ⟨_, rfl, _, _, rfl, rfl, ⟨by decide, by decide⟩, _, _, rfl, rfl, by decide, m2, _, _, _, rfl, rfl, SqL.of upd_same, hat2, len3, fun m3 hm3 => ?_⟩⟩
        have sm3 := (sm1.trans (Same.new (o := .lst [.int 0, xp]) hm2)).trans (Same.new (o := .lst [xb, if y1 = 0 then .int 0 else xo, if y2 = 0 then .int 0 else xp]) hm3)
        dsimp only [tCons, tC, tNil]
        refine ⟨_, m3, 0, xb, _, _, db, _, _, rfl, upd_same, by decide, .tab (rb.same sm3) bt.1, rb.same sm3, (pk y1 0 xo eo ro).same sm3, (pk y2 0 xp ep rp).same sm3, sb, pz y1 0 eo s0' so', pz y2 0 ep s0' sp', fun H12 s12 => ⟨_, rfl, iteF ⟨_, rfl, sm3.trans s12⟩⟩⟩
      · rintro σ H' ⟨o10, rfl, sm⟩
        refine ⟨_, rfl, _, rfl, len3, fun m1 hm1 => ?_⟩
        have sm1 := sm.trans (Same.new (o := .lst [.ref h, xp, .int 0]) hm1)
        dsimp only [tCons, tC, tNil]
        refine ⟨2, m1, 2, .ref h, xp, .int 0, _, ep, .int 0, rfl, upd_same, by decide, .place (hT'.same sm1) hg' (rp.same sm1) (by rw [hnn]; exact hnp), rh.same sm1, rp.same sm1, .int 0, sT, sp', s0', fun H9 s9 => ⟨_, rfl, iteF ?_⟩⟩
        have sm2 := sm1.trans s9
        refine ⟨3, 6, rfl, ⟨by decide, by decide, by decide, by decide⟩, for_range (fun j σ H' => ∃ o10 : Option V, σ = [some (.ref a), some (.ref st), o2, some (.ref t), some (.ref h), some (.int (n : Nat)), some (.int (0 + (k : Nat))), some xb, some xo, some xp, o10] ∧ Same H8 H') ⟨_, rfl, sm2⟩ ?_ ?_⟩
        · rintro j σ H' hj ⟨o10, rfl, sm⟩
          obtain ⟨y1, _, hat1⟩ := tw3 (.int 3) xo (0 + (k : Nat))
          have hj3 : j < 3 := hj
          refine ⟨_, rfl, _, rfl, _, rfl, _, rfl, len2, fun m1 hm1 => ⟨_, rfl, _, _, rfl, rfl, by decide, m1, _, _, _, rfl, rfl, SqL.of upd_same, hat1, len3, fun m2 hm2 => ?_⟩⟩
          have sm2 := (sm.trans (Same.new (o := .lst [.int 3, xo]) hm1)).trans (Same.new (o := .lst [.ref h, xo, if y1 = 0 then .int 3 else xo]) hm2)
          dsimp only [tCons, tC, tNil]
          have hz : (∃ e, RdS [] H8 (if y1 = 0 then V.int 3 else xo) e ∧ isIntD e = false) ∨ ∃ n : Int, (if y1 = 0 then V.int 3 else xo) = .int n := by
            split
            · exact .inr ⟨3, rfl⟩
            · exact .inl ⟨eo, ro, hno⟩
          refine ⟨_, m2, 1, .ref h, xo, _, _, eo, _, rfl, upd_same, by decide, .num (hT'.same sm2) hg' (ro.same sm2) hno (hz.elim (fun ⟨e, r, c⟩ => .inl ⟨e, r.same sm2, c⟩) .inr) (by omega), rh.same sm2, ro.same sm2, (pk y1 3 xo eo ro).same sm2, sT, so', pz y1 3 eo s3' so', fun H12 s12 => ⟨_, rfl, iteF ⟨_, rfl, sm2.trans s12⟩⟩⟩
        · rintro σ H' ⟨o10, rfl, sm⟩
          refine ⟨_, rfl, _, rfl, len3, fun m1 hm1 => ?_⟩
          have sm1 := sm.trans (Same.new (o := .lst [.ref h, .int 3, xo]) hm1)
          dsimp only [tCons, tC, tNil]
          exact ⟨5, m1, 1, .ref h, .int 3, xo, _, .int 3, eo, rfl, upd_same, by decide, .num5 (hT'.same sm1) hg' (ro.same sm1) hno, rh.same sm1, .int 3, ro.same sm1, sT, s3', so', fun H9 s9 => ⟨_, rfl, iteF ⟨_, _, _, _, _, _, rfl, S8.same (sm1.trans s9), hT.same (sm1.trans s9), hT'.same (sm1.trans s9)⟩⟩⟩
    · rintro σ H5 ⟨o2, o6, o7, o8, o9, o10, rfl, S5, hT5, hT5'⟩
      refine ⟨6, rfl, by decide, by decide, for_range (fun j σ H' => ∃ o10 : Option V, σ = [some (.ref a), some (.ref st), o2, some (.ref t), some (.ref h), some (.int (n : Nat)), o6, o7, o8, o9, o10] ∧ Same H5 H') ⟨_, rfl, Same.refl _⟩ ?_ (fun σ H' ⟨o10, e, sm⟩ => ⟨_, _, _, _, _, _, _, _, _, e, S5.same sm⟩)⟩
      rintro j σ H' hj ⟨o10, rfl, sm⟩
      refine ⟨_, rfl, _, rfl, _, _, _, _, none, rfl, .all (hT5'.same sm) hg', fun H6 s6 => ⟨rfl, _, rfl, iteF ?_⟩⟩
      have sm6 := sm.trans s6
      refine ⟨_, rfl, _, rfl, _, _, (hT5'.same sm6).rd, (hT5.same sm6).rd, shaped_tab _, shaped_tab _, _, rfl, ?_⟩
      rw [hrows, eqv_tab]
      exact iteF ⟨_, rfl, sm6⟩
end
end Seek
namespace Seek
open PySem L2 PyProof.Rows
theorem defAt_mk {K : PySem.W.Frag} {h : Heap} {mg : Str → Option Value} {x : Str} {st : Stmt} {ps : List Str} {f : Addr} (X : K.In h) (G : h.Ns mainGlobals mg) {od an : Option Addr} {sl : Array (Option Value)} {oc kV dc pm cd ct : Value}
    (a : PySem.W.nsIn K mainGlobals x = some (some (.ref f))) (l : K.lookup f = some ⟨oc, od, .func (PySem.W.fnOf x x (defArgs st) (defBody st) (defScope st) .none kV dc pm an cd ct), sl⟩) (c : PySem.W.codeIn K cd x = true) (k : PySem.W.keepIn K (.ref f) = true)
    (b : ∀ (kV doc pm : Value) (an : Option Addr) (cdv ct : Value) (us : List Value), us.length = ps.length → bindArgs (PySem.W.fnOf x x (defArgs st) (defBody st) (defScope st) .none kV doc pm an cdv ct) ⟨us, []⟩ = pure (ps.zip us)) : DefAt K mg x st ps := by
  have F := fun_mk (st := st) l c k
  exact ⟨f, _, F, PySem.W.mg_of X G a, F.binds b⟩
theorem blt_mk {K : PySem.W.Frag} {h : Heap} {mg : Str → Option Value} {t1 t2 : Tok} (X : K.In h) (G : h.Ns mainGlobals mg) (e1 : PySem.W.nsIn K mainGlobals "len" = some none) (e2 : PySem.W.nsIn K mainGlobals "all" = some none) (e3 : PySem.W.nsIn K mainGlobals "isinstance" = some none)
    (e4 : PySem.W.nsIn K mainGlobals "range" = some none) (e5 : PySem.W.nsIn K mainGlobals "int" = some none) (e6 : PySem.W.nsIn K mainGlobals "bool" = some none) (e7 : PySem.W.nsIn K mainGlobals "list" = some none) (e8 : PySem.W.nsIn K mainGlobals "enumerate" = some none)
    (e9 : PySem.W.nsIn K mainGlobals "abs" = some none) (e10 : PySem.W.nsIn K mainGlobals "max" = some none) (e11 : PySem.W.nsIn K mainGlobals "MOST_ROWS" = some (some (.int 6 t1))) (e12 : PySem.W.nsIn K mainGlobals "MOST_PLACES" = some (some (.int 6 t2))) : Blt mg :=
  ⟨PySem.W.mg_none_of X G e1, PySem.W.mg_none_of X G e2, PySem.W.mg_none_of X G e3, PySem.W.mg_none_of X G e4, PySem.W.mg_none_of X G e5, PySem.W.mg_none_of X G e6, PySem.W.mg_none_of X G e7, PySem.W.mg_none_of X G e8, PySem.W.mg_none_of X G e9, PySem.W.mg_none_of X G e10,
    ⟨_, PySem.W.mg_of X G e11⟩, ⟨_, PySem.W.mg_of X G e12⟩⟩
theorem walk {l : PySem.W.OpenLaw} {q : Program} {loose : List Str} {XP : (Str → Option Value) → Heap → Prop} {YP : World → Heap → Prop} {d : DefRec} {K : Params → PySem.W.Frag} (hn : l.most = some 63) (hdf : d.params.defaults = [])
    (hY : ∀ (w : World) (h : Heap), YP w h → (K w.params).In h)
    (F : ∀ (w : World) (mg : Str → Option Value) (fa : Addr) (h : Heap), (K w.params).In h → h.Ns mainGlobals mg → mg d.name = some (.ref fa) →
      ∃ fd : FuncData, (∀ (s : Shared) (u : Value), BindsTo s fd ⟨[u], []⟩ [("script", u)]) ∧ ∀ base : Heap, (K w.params).In base → base.Ns mainGlobals mg → FnOk l.prog w (K w.params) mg base CX0 20 fa fd ["script"] (spLaw (K w.params))) :
    PySem.W.WalkO q loose XP YP l.row.toRowW d [] (fun f vs => PySem.call f vs) :=
  L2.walk_of (n := 63) (k := 20) (x := "script") (CX := fun _ => CX0) (sp := fun w => spLaw (K w.params)) hn (by decide) hdf ⟨rfl, by decide, by decide, rfl⟩ hY F (fun _ _ a ns hl _ hS => ⟨a, ns, rfl, hS, hl, fun _ => rfl⟩) fun _ _ _ _ _ z => z
end Seek
namespace Seek
open PySem L2 PyProof.Rows
theorem nms_mk {K : PySem.W.Frag} {h : Heap} {mg : Str → Option Value} {S a0 a1 a2 a3 a4 a5 a6 a7 a8 a9 a10 a11 : Addr} (X : K.In h) (G : h.Ns mainGlobals mg) (e : PySem.W.nsIn K mainGlobals "SeekError" = some (some (.ref S))) (e0 : PySem.W.nsIn K mainGlobals "NoTable" = some (some (.ref a0))) (e1 : PySem.W.nsIn K mainGlobals "NoCell" = some (some (.ref a1)))
    (e2 : PySem.W.nsIn K mainGlobals "NoNumber" = some (some (.ref a2))) (e3 : PySem.W.nsIn K mainGlobals "NoSize" = some (some (.ref a3))) (e4 : PySem.W.nsIn K mainGlobals "NoStair" = some (some (.ref a4))) (e5 : PySem.W.nsIn K mainGlobals "NoLook" = some (some (.ref a5)))
    (e6 : PySem.W.nsIn K mainGlobals "NoPlace" = some (some (.ref a6))) (e7 : PySem.W.nsIn K mainGlobals "NoFit" = some (some (.ref a7))) (e8 : PySem.W.nsIn K mainGlobals "NoChange" = some (some (.ref a8))) (e9 : PySem.W.nsIn K mainGlobals "NoText" = some (some (.ref a9)))
    (e10 : PySem.W.nsIn K mainGlobals "NoName" = some (some (.ref a10))) (e11 : PySem.W.nsIn K mainGlobals "NoRow" = some (some (.ref a11))) : Nms mg S [a0, a1, a2, a3, a4, a5, a6, a7, a8, a9, a10, a11] :=
  ⟨rfl, PySem.W.mg_of X G e, PySem.W.mg_of X G e0, PySem.W.mg_of X G e1, PySem.W.mg_of X G e2, PySem.W.mg_of X G e3, PySem.W.mg_of X G e4, PySem.W.mg_of X G e5, PySem.W.mg_of X G e6, PySem.W.mg_of X G e7, PySem.W.mg_of X G e8, PySem.W.mg_of X G e9, PySem.W.mg_of X G e10, PySem.W.mg_of X G e11⟩
theorem err_mk {K : PySem.W.Frag} {S C a0 a1 a2 a3 a4 a5 a6 a7 a8 a9 a10 a11 : Addr} {i : Nat} (k : ExcK K C) (sk : PySem.W.mroIn K C (.ref S) = some true) (kv : PySem.W.kitOne K (.ref C) (.type "ValueError") = some true)
    (k0 : PySem.W.kitOne K (.ref C) (.ref a0) = some (decide (0 = i))) (k1 : PySem.W.kitOne K (.ref C) (.ref a1) = some (decide (1 = i))) (k2 : PySem.W.kitOne K (.ref C) (.ref a2) = some (decide (2 = i))) (k3 : PySem.W.kitOne K (.ref C) (.ref a3) = some (decide (3 = i)))
    (k4 : PySem.W.kitOne K (.ref C) (.ref a4) = some (decide (4 = i))) (k5 : PySem.W.kitOne K (.ref C) (.ref a5) = some (decide (5 = i))) (k6 : PySem.W.kitOne K (.ref C) (.ref a6) = some (decide (6 = i))) (k7 : PySem.W.kitOne K (.ref C) (.ref a7) = some (decide (7 = i)))
    (k8 : PySem.W.kitOne K (.ref C) (.ref a8) = some (decide (8 = i))) (k9 : PySem.W.kitOne K (.ref C) (.ref a9) = some (decide (9 = i))) (k10 : PySem.W.kitOne K (.ref C) (.ref a10) = some (decide (10 = i))) (k11 : PySem.W.kitOne K (.ref C) (.ref a11) = some (decide (11 = i))) :
    Err K S [a0, a1, a2, a3, a4, a5, a6, a7, a8, a9, a10, a11] i C :=
  ⟨k, sk, kv, fun j D h => match j, h with
    | 0, h => by cases h; exact k0
    | 1, h => by cases h; exact k1
    | 2, h => by cases h; exact k2
    | 3, h => by cases h; exact k3
    | 4, h => by cases h; exact k4
    | 5, h => by cases h; exact k5
    | 6, h => by cases h; exact k6
    | 7, h => by cases h; exact k7
    | 8, h => by cases h; exact k8
    | 9, h => by cases h; exact k9
    | 10, h => by cases h; exact k10
    | 11, h => by cases h; exact k11
    | n + 12, h => by simp at h⟩
end Seek
namespace Seek
open PySem L2 PyProof.Rows
theorem all_mk {l : PySem.W.OpenLaw} {w : World} {K : PySem.W.Frag} {mg : Str → Option Value} {fa S a0 a1 a2 a3 a4 a5 a6 a7 a8 a9 a10 a11 : Addr} (hfa : mg "law" = some (.ref fa)) (T : Blt mg) (h_tuple : mg "tuple" = none) (h_sorted : mg "sorted" = none) (h_sum : mg "sum" = none) (h_repr : mg "repr" = none) (h_ValueError : mg "ValueError" = none) (N : Nms mg S [a0, a1, a2, a3, a4, a5, a6, a7, a8, a9, a10, a11]) (kS : ExcK K S) (E0 : Err K S [a0, a1, a2, a3, a4, a5, a6, a7, a8, a9, a10, a11] 0 a0) (E2 : Err K S [a0, a1, a2, a3, a4, a5, a6, a7, a8, a9, a10, a11] 2 a2) (E6 : Err K S [a0, a1, a2, a3, a4, a5, a6, a7, a8, a9, a10, a11] 6 a6)
    (d_is_whole : DefAt K mg "is_whole" dIsWhole ["thing"])
    (d_all_whole : DefAt K mg "all_whole" dAllWhole ["things"])
    (d_never_falls : DefAt K mg "never_falls" dNeverFalls ["numbers"])
    (d_is_row : DefAt K mg "is_row" dIsRow ["thing"])
    (d_has_table_shape : DefAt K mg "has_table_shape" dShape ["thing"])
    (d_numbers_at_place : DefAt K mg "numbers_at_place" dAtPlace ["table", "place"])
    (d_is_sorted_both_ways : DefAt K mg "is_sorted_both_ways" dSorted ["table"])
    (d_is_table : DefAt K mg "is_table" dIsTable ["thing"])
    (d_need_table : DefAt K mg "need_table" dNeedTable ["thing"])
    (d_need_number : DefAt K mg "need_number" dNeedNumber ["thing"])
    (d_how_many_less : DefAt K mg "how_many_less" dLess ["row", "x"])
    (d_how_many_at_most : DefAt K mg "how_many_at_most" dMost ["row", "x"])
    (d_stair_of : DefAt K mg "stair_of" dStair ["table", "x"])
    (d_high_stair : DefAt K mg "high_stair" dHigh ["table", "x"])
    (d_how_many_cells : DefAt K mg "how_many_cells" dMany ["table"])
    (d_merged : DefAt K mg "merged" dMerged ["table"])
    (d_need_place : DefAt K mg "need_place" dNeedPlace ["table", "thing"])
    (d_number_by : DefAt K mg "number_by" dNumberBy ["table", "k"])
    (d_middle : DefAt K mg "middle" dMiddle ["table"])
    (d_count_less : DefAt K mg "count_less" dCless ["table", "x"])
    (d_count_most : DefAt K mg "count_most" dCmost ["table", "x"])
    (d_count_from : DefAt K mg "count_from" dCfrom ["table", "a", "b"])
    (d__law_draws : DefAt K mg "_law_draws" dDraws ["script", "many"])
    (d__law_take : DefAt K mg "_law_take" dTake ["store", "many"])
    (d__law_table : DefAt K mg "_law_table" dTable ["store"])
    (d__law_copy : DefAt K mg "_law_copy" dCopy ["table"])
    (d__law_kinds : DefAt K mg "_law_kinds" dKinds ["caught", "due"])
    (d__law_fallen : DefAt K mg "_law_fallen" dFallen ["store", "table", "row", "place"])
    (d__law_no_table : DefAt K mg "_law_no_table" dNoTable ["store", "table"])
    (d__law_no_whole : DefAt K mg "_law_no_whole" dNoWhole ["store"])
    (d__law_no_place : DefAt K mg "_law_no_place" dNoPlace ["store", "many"])
    (d__law_caught : DefAt K mg "_law_caught" dCaught ["door", "table", "one", "other"])
    (d__law_refused : DefAt K mg "_law_refused" dRefused ["door", "row", "due"])
    (d_law : DefAt K mg "law" dLaw ["script"])
    : ∃ fd : FuncData, (∀ (s : Shared) (v : Value), BindsTo s fd ⟨[v], []⟩ [("script", v)]) ∧ ∀ base : Heap, K.In base → base.Ns mainGlobals mg → FnOk l.prog w K mg base CX0 20 fa fd ["script"] (spLaw K) := by
  obtain ⟨f, fd, F, hm, hb⟩ := d_law
  have e := hfa.symm.trans hm
  cases e
  refine ⟨fd, ?_, fun base _ _ => ?_⟩
  · obtain ⟨oc, od, kV, doc, pm, an, cdv, ct, osl, rfl, lk, hcd⟩ := F.ex
    exact fun s v => .of_eq rfl
  · have g_is_whole := ok_isWholeA (P := l.prog) (w := w) (base := base) T d_is_whole
    have g_is_wholeI := ok_isWhole (P := l.prog) (w := w) (base := base) T d_is_whole
    have g_all_whole := ok_allWholeA T d_all_whole g_is_whole
    have g_all_wholeI := ok_allWhole T d_all_whole g_is_wholeI
    have g_never_falls := ok_nf (P := l.prog) (w := w) (base := base) T d_never_falls
    have g_is_row := ok_isRowA T d_is_row g_all_whole
    have g_is_rowI := ok_isRow T d_is_row g_all_wholeI
    have g_has_table_shape := ok_shapeA T d_has_table_shape g_is_row
    have g_has_table_shapeI := ok_shape T d_has_table_shape g_is_rowI
    have g_numbers_at_place := ok_atPlace (P := l.prog) (w := w) (base := base) d_numbers_at_place
    have g_is_sorted_both_ways := ok_sorted T d_is_sorted_both_ways g_never_falls g_numbers_at_place
    have g_is_table := ok_isTableA d_is_table g_has_table_shape g_is_sorted_both_ways
    have g_is_tableI := ok_isTable d_is_table g_has_table_shapeI g_is_sorted_both_ways
    have g_need_table := ok_needTX E0.k N.n0 d_need_table g_is_table
    have g_need_tableI := ok_needTable d_need_table g_is_tableI
    have g_need_number := ok_needNX E2.k N.n2 d_need_number g_is_whole
    have g_need_numberI := ok_needNumber d_need_number g_is_wholeI
    have g_how_many_less := ok_less (P := l.prog) (w := w) (base := base) T d_how_many_less
    have g_how_many_at_most := ok_most (P := l.prog) (w := w) (base := base) T d_how_many_at_most
    have g_stair_of := ok_stairX d_stair_of g_need_table g_need_number
    have g_stair_ofI := ok_stair d_stair_of g_need_tableI g_need_numberI g_how_many_less
    have g_high_stair := ok_highX d_high_stair g_need_table g_need_number
    have g_high_stairI := ok_high d_high_stair g_need_tableI g_need_numberI g_how_many_at_most
    have g_how_many_cells := ok_many (P := l.prog) (w := w) (base := base) T d_how_many_cells
    have g_merged := ok_mergedX d_merged g_need_table
    have g_mergedI := ok_merged T h_sorted d_merged g_need_tableI
    have g_need_place := ok_needPX E6.k N.n6 d_need_place g_is_whole g_how_many_cells
    have g_need_placeI := ok_needPlace d_need_place g_is_wholeI g_how_many_cells
    have g_number_by := ok_numberByX d_number_by g_need_table g_need_place
    have g_number_byI := ok_numberBy d_number_by g_need_tableI g_need_placeI g_mergedI
    have g_middle := ok_middleX d_middle g_need_table
    have g_middleI := ok_middle d_middle g_need_tableI g_number_byI g_how_many_cells
    have g_count_less := ok_clessX h_sum d_count_less g_stair_of
    have g_count_lessI := ok_cless h_sum d_count_less g_stair_ofI
    have g_count_most := ok_cmostX h_sum d_count_most g_high_stair
    have g_count_mostI := ok_cmost h_sum d_count_most g_high_stairI
    have g_count_from := ok_cfromX T d_count_from g_count_less g_count_mostI g_count_most
    have g_count_fromI := ok_cfrom T d_count_from g_count_lessI g_count_mostI
    have g__law_draws := ok_draws (P := l.prog) (w := w) (base := base) T d__law_draws
    have g__law_take := ok_take (P := l.prog) (w := w) (base := base) T d__law_take
    have g__law_table := ok_table T d__law_table g__law_take
    have g__law_copy := ok_copy (P := l.prog) (w := w) (base := base) T d__law_copy
    have g__law_kinds := ok_kinds (P := l.prog) (w := w) (base := base) T h_ValueError N d__law_kinds
    have g__law_fallen := ok_fallen T d__law_fallen g__law_take
    have g__law_no_table := ok_noTab9 T h_tuple d__law_no_table g__law_take g__law_fallen
    have g__law_no_whole := ok_noWhole d__law_no_whole g__law_take
    have g__law_no_place := ok_noPlace d__law_no_place g__law_take
    have g__law_caught := ok_caught N kS E0 E2 E6 d__law_caught g_mergedI g_merged g_middleI g_middle g_number_byI g_number_by g_count_lessI g_count_less g_count_mostI g_count_most g_count_fromI g_count_from
    have g__law_refused := ok_refused h_repr d__law_refused g__law_caught g__law_kinds
    exact FnOk.mono (ok_law T F g__law_draws g__law_table g__law_copy g__law_no_table g__law_no_whole g__law_no_place g__law_caught g__law_refused) (by decide)
end Seek
def PySem.W.Fast.tw10007001628540953112 : Unit := ()
def PySem.W.Fast.tw10999670653859159948 : Unit := ()
def PySem.W.Fast.tw11683633555352986651 : Unit := ()
def PySem.W.Fast.tw12575156627966855226 : Unit := ()
def PySem.W.Fast.tw12882146981202262710 : Unit := ()
def PySem.W.Fast.tw13812735099970980286 : Unit := ()
def PySem.W.Fast.tw14756203635573293901 : Unit := ()
def PySem.W.Fast.tw15105458915283150785 : Unit := ()
def PySem.W.Fast.tw15487529481946967517 : Unit := ()
def PySem.W.Fast.tw16234740934342952274 : Unit := ()
def PySem.W.Fast.tw16252858456239079478 : Unit := ()
def PySem.W.Fast.tw16413158072081075662 : Unit := ()
def PySem.W.Fast.tw17806217497081936090 : Unit := ()
def PySem.W.Fast.tw18063918531575649468 : Unit := ()
def PySem.W.Fast.tw18402230493187585475 : Unit := ()
def PySem.W.Fast.tw2167423965313453990 : Unit := ()
def PySem.W.Fast.tw2364545843454420677 : Unit := ()
def PySem.W.Fast.tw3033225619016495130 : Unit := ()
def PySem.W.Fast.tw3176609315075613169 : Unit := ()
def PySem.W.Fast.tw3241761514686948819 : Unit := ()
def PySem.W.Fast.tw3706308873928583228 : Unit := ()
def PySem.W.Fast.tw4251164556185050988 : Unit := ()
def PySem.W.Fast.tw4263646696358960166 : Unit := ()
def PySem.W.Fast.tw4736868259182286070 : Unit := ()
def PySem.W.Fast.tw545482972560161736 : Unit := ()
def PySem.W.Fast.tw5899250643618346560 : Unit := ()
def PySem.W.Fast.tw6395266731310534276 : Unit := ()
def PySem.W.Fast.tw6844008573122531236 : Unit := ()
def PySem.W.Fast.tw6925449187793360309 : Unit := ()
def PySem.W.Fast.tw7249621765005017156 : Unit := ()
def PySem.W.Fast.tw7466161183059110151 : Unit := ()
def PySem.W.Fast.tw7565030331308176979 : Unit := ()
def PySem.W.Fast.tw7915432818776999635 : Unit := ()
def PySem.W.Fast.tw8325202540997472816 : Unit := ()
def PySem.W.Fast.tw9117022883991435530 : Unit := ()
def PySem.W.Fast.tw9206703660671388088 : Unit := ()
def PySem.W.Fast.tw9775369454537478695 : Unit := ()
open PySem PySem.W PyProof.Rows
set_option maxRecDepth 100000 in
set_option maxHeartbeats 0 in
theorem PySem.Challenge.cw_stairseek_k23_no_tables_no_places_no_num_holds : PySem.Challenge.rw_stairseek_k23_no_tables_no_places_no_num.Holds := by
  w_on; o_law; k_head; (case hw => w_witness2)
  k_fill
  refine Seek.walk (l := PySem.Challenge.rw_stairseek_k23_no_tables_no_places_no_num) rfl rfl (fun w h Y => PySem.W.kIn_of Y) ?F
  case F =>
    intro w mg fa h KX G hmg
    refine' Seek.all_mk hmg ?T ?x_tuple ?x_sorted ?x_sum ?x_repr ?x_ValueError ?zN ?zS ?zE0 ?zE2 ?zE6 ?d_is_whole ?d_all_whole ?d_never_falls ?d_is_row ?d_has_table_shape ?d_numbers_at_place ?d_is_sorted_both_ways ?d_is_table ?d_need_table ?d_need_number ?d_how_many_less ?d_how_many_at_most ?d_stair_of ?d_high_stair ?d_how_many_cells ?d_merged ?d_need_place ?d_number_by ?d_middle ?d_count_less ?d_count_most ?d_count_from ?d__law_draws ?d__law_take ?d__law_table ?d__law_copy ?d__law_kinds ?d__law_fallen ?d__law_no_table ?d__law_no_whole ?d__law_no_place ?d__law_caught ?d__law_refused ?d_law
    case T =>
      refine' Seek.blt_mk KX G ?e1 ?e2 ?e3 ?e4 ?e5 ?e6 ?e7 ?e8 ?e9 ?e10 ?e11 ?e12
      (case e1 => k_is); (case e2 => k_is); (case e3 => k_is); (case e4 => k_is); (case e5 => k_is); (case e6 => k_is); (case e7 => k_is); (case e8 => k_is); (case e9 => k_is); (case e10 => k_is); (case e11 => k_is); (case e12 => k_is)
    case x_tuple =>
      refine' PySem.W.mg_none_of KX G ?e
      (case e => k_is)
    case x_sorted =>
      refine' PySem.W.mg_none_of KX G ?e
      (case e => k_is)
    case x_sum =>
      refine' PySem.W.mg_none_of KX G ?e
      (case e => k_is)
    case x_repr =>
      refine' PySem.W.mg_none_of KX G ?e
      (case e => k_is)
    case x_ValueError =>
      refine' PySem.W.mg_none_of KX G ?e
      (case e => k_is)
    case zN =>
      refine' Seek.nms_mk KX G ?e ?e0 ?e1 ?e2 ?e3 ?e4 ?e5 ?e6 ?e7 ?e8 ?e9 ?e10 ?e11
      (case e => k_is); (case e0 => k_is); (case e1 => k_is); (case e2 => k_is); (case e3 => k_is); (case e4 => k_is); (case e5 => k_is); (case e6 => k_is); (case e7 => k_is); (case e8 => k_is); (case e9 => k_is); (case e10 => k_is); (case e11 => k_is)
    case zS =>
      refine' L2.ExcK.mk ?exc ?ga ?gt ?cl ?ob ?bx
      (case exc => k_exc); (case ga => k_is); (case gt => k_is); (case cl => k_is); (case ob => k_is); (case bx => k_is)
    case zE0 =>
      refine' Seek.err_mk (L2.ExcK.mk ?exc ?ga ?gt ?cl ?ob ?bx) ?sk ?kv ?k0 ?k1 ?k2 ?k3 ?k4 ?k5 ?k6 ?k7 ?k8 ?k9 ?k10 ?k11
      (case exc => k_exc); (case ga => k_is); (case gt => k_is); (case cl => k_is); (case ob => k_is); (case bx => k_is)
      (case sk => k_is); (case kv => kit_is); (case k0 => kit_is); (case k1 => kit_is); (case k2 => kit_is); (case k3 => kit_is); (case k4 => kit_is); (case k5 => kit_is); (case k6 => kit_is); (case k7 => kit_is); (case k8 => kit_is); (case k9 => kit_is); (case k10 => kit_is); (case k11 => kit_is)
    case zE2 =>
      refine' Seek.err_mk (L2.ExcK.mk ?exc ?ga ?gt ?cl ?ob ?bx) ?sk ?kv ?k0 ?k1 ?k2 ?k3 ?k4 ?k5 ?k6 ?k7 ?k8 ?k9 ?k10 ?k11
      (case exc => k_exc); (case ga => k_is); (case gt => k_is); (case cl => k_is); (case ob => k_is); (case bx => k_is)
      (case sk => k_is); (case kv => kit_is); (case k0 => kit_is); (case k1 => kit_is); (case k2 => kit_is); (case k3 => kit_is); (case k4 => kit_is); (case k5 => kit_is); (case k6 => kit_is); (case k7 => kit_is); (case k8 => kit_is); (case k9 => kit_is); (case k10 => kit_is); (case k11 => kit_is)
    case zE6 =>
      refine' Seek.err_mk (L2.ExcK.mk ?exc ?ga ?gt ?cl ?ob ?bx) ?sk ?kv ?k0 ?k1 ?k2 ?k3 ?k4 ?k5 ?k6 ?k7 ?k8 ?k9 ?k10 ?k11
      (case exc => k_exc); (case ga => k_is); (case gt => k_is); (case cl => k_is); (case ob => k_is); (case bx => k_is)
      (case sk => k_is); (case kv => kit_is); (case k0 => kit_is); (case k1 => kit_is); (case k2 => kit_is); (case k3 => kit_is); (case k4 => kit_is); (case k5 => kit_is); (case k6 => kit_is); (case k7 => kit_is); (case k8 => kit_is); (case k9 => kit_is); (case k10 => kit_is); (case k11 => kit_is)
    case d_is_whole =>
      refine' Seek.defAt_mk KX G ?a ?l ?c ?k ?b
      (case a => k_is); (case l => k_is); (case c => k_is); (case k => k_is)
      case b => exact fun _ _ _ _ _ _ us hl => match us, hl with | [_], _ => rfl
    case d_all_whole =>
      refine' Seek.defAt_mk KX G ?a ?l ?c ?k ?b
      (case a => k_is); (case l => k_is); (case c => k_is); (case k => k_is)
      case b => exact fun _ _ _ _ _ _ us hl => match us, hl with | [_], _ => rfl
    case d_never_falls =>
      refine' Seek.defAt_mk KX G ?a ?l ?c ?k ?b
      (case a => k_is); (case l => k_is); (case c => k_is); (case k => k_is)
      case b => exact fun _ _ _ _ _ _ us hl => match us, hl with | [_], _ => rfl
    case d_is_row =>
      refine' Seek.defAt_mk KX G ?a ?l ?c ?k ?b
      (case a => k_is); (case l => k_is); (case c => k_is); (case k => k_is)
      case b => exact fun _ _ _ _ _ _ us hl => match us, hl with | [_], _ => rfl
    case d_has_table_shape =>
      refine' Seek.defAt_mk KX G ?a ?l ?c ?k ?b
      (case a => k_is); (case l => k_is); (case c => k_is); (case k => k_is)
      case b => exact fun _ _ _ _ _ _ us hl => match us, hl with | [_], _ => rfl
    case d_numbers_at_place =>
      refine' Seek.defAt_mk KX G ?a ?l ?c ?k ?b
      (case a => k_is); (case l => k_is); (case c => k_is); (case k => k_is)
      case b => exact fun _ _ _ _ _ _ us hl => match us, hl with | [_, _], _ => rfl
    case d_is_sorted_both_ways =>
      refine' Seek.defAt_mk KX G ?a ?l ?c ?k ?b
      (case a => k_is); (case l => k_is); (case c => k_is); (case k => k_is)
      case b => exact fun _ _ _ _ _ _ us hl => match us, hl with | [_], _ => rfl
    case d_is_table =>
      refine' Seek.defAt_mk KX G ?a ?l ?c ?k ?b
      (case a => k_is); (case l => k_is); (case c => k_is); (case k => k_is)
      case b => exact fun _ _ _ _ _ _ us hl => match us, hl with | [_], _ => rfl
    case d_need_table =>
      refine' Seek.defAt_mk KX G ?a ?l ?c ?k ?b
      (case a => k_is); (case l => k_is); (case c => k_is); (case k => k_is)
      case b => exact fun _ _ _ _ _ _ us hl => match us, hl with | [_], _ => rfl
    case d_need_number =>
      refine' Seek.defAt_mk KX G ?a ?l ?c ?k ?b
      (case a => k_is); (case l => k_is); (case c => k_is); (case k => k_is)
      case b => exact fun _ _ _ _ _ _ us hl => match us, hl with | [_], _ => rfl
    case d_how_many_less =>
      refine' Seek.defAt_mk KX G ?a ?l ?c ?k ?b
      (case a => k_is); (case l => k_is); (case c => k_is); (case k => k_is)
      case b => exact fun _ _ _ _ _ _ us hl => match us, hl with | [_, _], _ => rfl
    case d_how_many_at_most =>
      refine' Seek.defAt_mk KX G ?a ?l ?c ?k ?b
      (case a => k_is); (case l => k_is); (case c => k_is); (case k => k_is)
      case b => exact fun _ _ _ _ _ _ us hl => match us, hl with | [_, _], _ => rfl
    case d_stair_of =>
      refine' Seek.defAt_mk KX G ?a ?l ?c ?k ?b
      (case a => k_is); (case l => k_is); (case c => k_is); (case k => k_is)
      case b => exact fun _ _ _ _ _ _ us hl => match us, hl with | [_, _], _ => rfl
    case d_high_stair =>
      refine' Seek.defAt_mk KX G ?a ?l ?c ?k ?b
      (case a => k_is); (case l => k_is); (case c => k_is); (case k => k_is)
      case b => exact fun _ _ _ _ _ _ us hl => match us, hl with | [_, _], _ => rfl
    case d_how_many_cells =>
      refine' Seek.defAt_mk KX G ?a ?l ?c ?k ?b
      (case a => k_is); (case l => k_is); (case c => k_is); (case k => k_is)
      case b => exact fun _ _ _ _ _ _ us hl => match us, hl with | [_], _ => rfl
    case d_merged =>
      refine' Seek.defAt_mk KX G ?a ?l ?c ?k ?b
      (case a => k_is); (case l => k_is); (case c => k_is); (case k => k_is)
      case b => exact fun _ _ _ _ _ _ us hl => match us, hl with | [_], _ => rfl
    case d_need_place =>
      refine' Seek.defAt_mk KX G ?a ?l ?c ?k ?b
      (case a => k_is); (case l => k_is); (case c => k_is); (case k => k_is)
      case b => exact fun _ _ _ _ _ _ us hl => match us, hl with | [_, _], _ => rfl
    case d_number_by =>
      refine' Seek.defAt_mk KX G ?a ?l ?c ?k ?b
      (case a => k_is); (case l => k_is); (case c => k_is); (case k => k_is)
      case b => exact fun _ _ _ _ _ _ us hl => match us, hl with | [_, _], _ => rfl
    case d_middle =>
      refine' Seek.defAt_mk KX G ?a ?l ?c ?k ?b
      (case a => k_is); (case l => k_is); (case c => k_is); (case k => k_is)
      case b => exact fun _ _ _ _ _ _ us hl => match us, hl with | [_], _ => rfl
    case d_count_less =>
      refine' Seek.defAt_mk KX G ?a ?l ?c ?k ?b
      (case a => k_is); (case l => k_is); (case c => k_is); (case k => k_is)
      case b => exact fun _ _ _ _ _ _ us hl => match us, hl with | [_, _], _ => rfl
    case d_count_most =>
      refine' Seek.defAt_mk KX G ?a ?l ?c ?k ?b
      (case a => k_is); (case l => k_is); (case c => k_is); (case k => k_is)
      case b => exact fun _ _ _ _ _ _ us hl => match us, hl with | [_, _], _ => rfl
    case d_count_from =>
      refine' Seek.defAt_mk KX G ?a ?l ?c ?k ?b
      (case a => k_is); (case l => k_is); (case c => k_is); (case k => k_is)
      case b => exact fun _ _ _ _ _ _ us hl => match us, hl with | [_, _, _], _ => rfl
    case d__law_draws =>
      refine' Seek.defAt_mk KX G ?a ?l ?c ?k ?b
      (case a => k_is); (case l => k_is); (case c => k_is); (case k => k_is)
      case b => exact fun _ _ _ _ _ _ us hl => match us, hl with | [_, _], _ => rfl
    case d__law_take =>
      refine' Seek.defAt_mk KX G ?a ?l ?c ?k ?b
      (case a => k_is); (case l => k_is); (case c => k_is); (case k => k_is)
      case b => exact fun _ _ _ _ _ _ us hl => match us, hl with | [_, _], _ => rfl
    case d__law_table =>
      refine' Seek.defAt_mk KX G ?a ?l ?c ?k ?b
      (case a => k_is); (case l => k_is); (case c => k_is); (case k => k_is)
      case b => exact fun _ _ _ _ _ _ us hl => match us, hl with | [_], _ => rfl
    case d__law_copy =>
      refine' Seek.defAt_mk KX G ?a ?l ?c ?k ?b
      (case a => k_is); (case l => k_is); (case c => k_is); (case k => k_is)
      case b => exact fun _ _ _ _ _ _ us hl => match us, hl with | [_], _ => rfl
    case d__law_kinds =>
      refine' Seek.defAt_mk KX G ?a ?l ?c ?k ?b
      (case a => k_is); (case l => k_is); (case c => k_is); (case k => k_is)
      case b => exact fun _ _ _ _ _ _ us hl => match us, hl with | [_, _], _ => rfl
    case d__law_fallen =>
      refine' Seek.defAt_mk KX G ?a ?l ?c ?k ?b
      (case a => k_is); (case l => k_is); (case c => k_is); (case k => k_is)
      case b => exact fun _ _ _ _ _ _ us hl => match us, hl with | [_, _, _, _], _ => rfl
    case d__law_no_table =>
      refine' Seek.defAt_mk KX G ?a ?l ?c ?k ?b
      (case a => k_is); (case l => k_is); (case c => k_is); (case k => k_is)
      case b => exact fun _ _ _ _ _ _ us hl => match us, hl with | [_, _], _ => rfl
    case d__law_no_whole =>
      refine' Seek.defAt_mk KX G ?a ?l ?c ?k ?b
      (case a => k_is); (case l => k_is); (case c => k_is); (case k => k_is)
      case b => exact fun _ _ _ _ _ _ us hl => match us, hl with | [_], _ => rfl
    case d__law_no_place =>
      refine' Seek.defAt_mk KX G ?a ?l ?c ?k ?b
      (case a => k_is); (case l => k_is); (case c => k_is); (case k => k_is)
      case b => exact fun _ _ _ _ _ _ us hl => match us, hl with | [_, _], _ => rfl
    case d__law_caught =>
      refine' Seek.defAt_mk KX G ?a ?l ?c ?k ?b
      (case a => k_is); (case l => k_is); (case c => k_is); (case k => k_is)
      case b => exact fun _ _ _ _ _ _ us hl => match us, hl with | [_, _, _, _], _ => rfl
    case d__law_refused =>
      refine' Seek.defAt_mk KX G ?a ?l ?c ?k ?b
      (case a => k_is); (case l => k_is); (case c => k_is); (case k => k_is)
      case b => exact fun _ _ _ _ _ _ us hl => match us, hl with | [_, _, _], _ => rfl
    case d_law =>
      refine' Seek.defAt_mk KX G ?a ?l ?c ?k ?b
      (case a => k_is); (case l => k_is); (case c => k_is); (case k => k_is)
      case b => exact fun _ _ _ _ _ _ us hl => match us, hl with | [_], _ => rfl
