import PyProof.Rows.All
import Wide.All
import OpenK.AllK
import Wide.FinOn
import Lean
import PyProof.EqAt
import PyProof.EqKinds
import PyProof.TupleCall
import PySem.Challenge.RW_stairseek_k12_no_tables_and_no_numbers
-- CHANGE: your row's module here, as the last of these rows
set_option Elab.async false
set_option linter.all false
set_option maxRecDepth 100000
/-! THE HAND LAYER, for ints, bools, texts, own classes, LISTS and tuples (index, slices, in, append, pop ..), calls, loops. Paste it whole ahead of your own text; what your proof does not reach may be deleted. -/
namespace L2
open PySem PySem.Spec PyProof.Rows

/-- a key: an int or a str -/
abbrev Key := Sum Int Str
def keyIs : Key → Value → Bool
  | .inl k, v => Value.isInt k v
  | .inr x, v => Value.isStrOf x v
def keyH (w : World) : Key → Int
  | .inl k => hashInt k
  | .inr x => hashStr w x
theorem keyIs_shape : ∀ {k : Key} {v : Value}, keyIs k v = true → (∃ i t, k = Sum.inl i ∧ v = Value.int i t) ∨ (∃ x t, k = Sum.inr x ∧ v = Value.str x t)
  | .inl i, v, h => by
    obtain ⟨t, e⟩ := Value.isInt_shape (k := i) (v := v) h
    exact .inl ⟨i, t, rfl, e⟩
  | .inr x, v, h => by
    obtain ⟨t, e⟩ := Value.isStrOf_shape (x := x) (v := v) h
    exact .inr ⟨x, t, rfl, e⟩
theorem keyIs_int (i : Int) (t : Tok) : keyIs (.inl i) (.int i t) = true := by simp [keyIs, Value.isInt]
theorem keyIs_str (x : Str) (t : Tok) : keyIs (.inr x) (.str x t) = true := by simp [keyIs, Value.isStrOf]
theorem key_ll (a b : Int) : decide ((Sum.inl a : Key) = Sum.inl b) = (a == b) := by
  by_cases e : a = b
  · subst e; simp
  · have h : ¬ (Sum.inl a : Key) = Sum.inl b := fun q => e (Sum.inl.inj q)
    rw [decide_eq_false h]
    exact (beq_eq_false_iff_ne.mpr e).symm
theorem key_rr (a b : Str) : decide ((Sum.inr a : Key) = Sum.inr b) = decide (a = b) := by
  by_cases e : a = b
  · subst e; simp
  · have h : ¬ (Sum.inr a : Key) = Sum.inr b := fun q => e (Sum.inr.inj q)
    rw [decide_eq_false h, decide_eq_false e]
theorem key_lr (a : Int) (b : Str) : decide ((Sum.inl a : Key) = Sum.inr b) = false := decide_eq_false (fun q => nomatch q)
theorem key_rl (a : Str) (b : Int) : decide ((Sum.inr a : Key) = Sum.inl b) = false := decide_eq_false (fun q => nomatch q)

def mixKind (prog : Program) (w : World) : PySem.KeyKind prog w Key where
  is := keyIs
  hash := keyH w
  inj := fun v a b ha hb => by
    rcases keyIs_shape ha with ⟨i, t, rfl, rfl⟩ | ⟨x, t, rfl, rfl⟩
    · rcases keyIs_shape hb with ⟨j, u, rfl, e⟩ | ⟨y, u, rfl, e⟩
      · injection e with e1 _; rw [e1]
      · exact nomatch e
    · rcases keyIs_shape hb with ⟨j, u, rfl, e⟩ | ⟨y, u, rfl, e⟩
      · exact nomatch e
      · injection e with e1 _; rw [e1]
  byValue := fun k v h => by
    rcases keyIs_shape h with ⟨i, t, rfl, rfl⟩ | ⟨x, t, rfl, rfl⟩ <;> rfl
  pyHash := fun hv h => by
    rcases keyIs_shape hv with ⟨i, t, rfl, rfl⟩ | ⟨x, t, rfl, rfl⟩
    · exact wpAny_pyHash_int h
    · exact wpAny_pyHash_str h
  eqBool := fun hu hv h => by
    rcases keyIs_shape hu with ⟨i, t, rfl, rfl⟩ | ⟨x, t, rfl, rfl⟩
    · rcases keyIs_shape hv with ⟨j, u, rfl, rfl⟩ | ⟨y, u, rfl, rfl⟩
      · rw [key_ll] at h; exact wpAny_eqBool_int h
      · rw [key_lr] at h; exact SeqAt.EqAt.int_str i t y u _ _ _ _ h
    · rcases keyIs_shape hv with ⟨j, u, rfl, rfl⟩ | ⟨y, u, rfl, rfl⟩
      · rw [key_rl] at h; exact SeqAt.EqAt.str_int x t j u _ _ _ _ h
      · rw [key_rr] at h; exact wpAny_eqBool_str h
  «strs» := fun k x t v h => by
    rcases keyIs_shape h with ⟨i, u, rfl, e⟩ | ⟨y, u, rfl, e⟩
    · exact nomatch e
    · injection e with e1 _
      subst e1
      cases v <;> rfl

theorem mixKind_is (prog : Program) (w : World) (k : Key) (v : Value) : (mixKind prog w).is k v = keyIs k v := rfl
theorem mixKind_int (prog : Program) (w : World) (i : Int) (t : Tok) : (mixKind prog w).is (.inl i) (.int i t) = true := keyIs_int i t
theorem mixKind_str (prog : Program) (w : World) (x : Str) (t : Tok) : (mixKind prog w).is (.inr x) (.str x t) = true := keyIs_str x t
end L2

namespace L2
open PySem PySem.Spec PyProof.Rows

/-- a value, without the heap -/
inductive V where
  | non | bl (b : Bool) | int (i : Int) | str (x : Str) | byt (b : Array UInt8) | flt (b : UInt64) | ref (a : Addr) | ty (n : String)
  deriving DecidableEq

def RelV : V → Value → Prop
  | .non, u => u = Value.none
  | .bl b, u => u = Value.bool b
  | .int i, u => ∃ t, u = Value.int i t
  | .str x, u => ∃ t, u = Value.str x t
  | .byt b, u => ∃ t, u = Value.bytes b t
  | .flt b, u => ∃ t, u = Value.float b t
  | .ref a, u => u = Value.ref a
  | .ty n, u => u = Value.type n

abbrev Vals : List V → List Value → Prop := Paired RelV
theorem Vals.length {xs : List V} {us : List Value} (r : Vals xs us) : xs.length = us.length := Paired.length r
theorem Vals.get : ∀ {xs : List V} {us : List Value} {i : Nat} {x : V}, Vals xs us → xs[i]? = some x → ∃ u, us[i]? = some u ∧ RelV x u
  | _, _, _, _, .nil, e => by simp at e
  | _, _, 0, _, .cons r _, e => by simp at e; subst e; exact ⟨_, rfl, r⟩
  | _, _, i + 1, x, .cons _ t, e => by
    obtain ⟨u, h1, h2⟩ := Vals.get (i := i) (x := x) t (by simpa using e)
    exact ⟨u, by simpa using h1, h2⟩
theorem Vals.set {x : V} {u : Value} (r : RelV x u) : ∀ {xs : List V} {us : List Value} (i : Nat), Vals xs us → Vals (xs.set i x) (us.set i u)
  | _, _, _, .nil => .nil
  | _, _, 0, .cons _ t => .cons r t
  | _, _, i + 1, .cons q t => .cons q (Vals.set r i t)
theorem Vals.append : ∀ {xs ys : List V} {us ws : List Value}, Vals xs us → Vals ys ws → Vals (xs ++ ys) (us ++ ws)
  | _, _, _, _, .nil, s => s
  | _, _, _, _, .cons r t, s => .cons r (Vals.append t s)
theorem Vals.take : ∀ {xs : List V} {us : List Value} (n : Nat), Vals xs us → Vals (xs.take n) (us.take n)
  | _, _, 0, _ => .nil
  | _, _, _ + 1, .nil => .nil
  | _, _, n + 1, .cons r t => .cons r (Vals.take n t)
theorem Vals.drop : ∀ {xs : List V} {us : List Value} (n : Nat), Vals xs us → Vals (xs.drop n) (us.drop n)
  | _, _, 0, r => r
  | _, _, _ + 1, .nil => .nil
  | _, _, n + 1, .cons _ t => Vals.drop n t
theorem Vals.none_of : ∀ {xs : List V} {us : List Value} {i : Nat}, Vals xs us → xs[i]? = none → us[i]? = none := fun {xs us i} r e => by
  have h1 := r.length
  have h2 : xs.length ≤ i := List.getElem?_eq_none_iff.mp e
  exact List.getElem?_eq_none_iff.mpr (by omega)

def RelO : Option V → Option Value → Prop
  | some v, some u => RelV v u
  | none, none => True
  | _, _ => False
def KV {κ : Type} : List (κ × V) → List (κ × Value) → Prop := Paired fun (p : κ × V) (q : κ × Value) => p.1 = q.1 ∧ RelV p.2 q.2

/-- a key of a dict (00_mix): an int or a text -/
def kV : Key → V
  | .inl i => .int i
  | .inr x => .str x

/-- what stands at a tracked address -/
inductive HO where
  /-- a list -/
  | lst (xs : List V)
  /-- a tuple (never changes) -/
  | tup (xs : List V)
  /-- a dict whose keys are ints and texts; one whose keys are tuples of ints and texts (the empty one is both) -/
  | dK (kvs : List (Key × V)) | dT (kvs : List (List Key × V))
  /-- a set of ints: its members, its size -/
  | set (S : Int → Bool) (n : Nat)
  /-- an instance of the class at C, its dict at dx, its attributes -/
  | ins (C dx : Addr) (fs : List (Str × V))
  /-- the dict of the instance at x -/
  | own (x : Addr)
  /-- the dict of an exception -/
  | xd (fs : List (Str × V))
  /-- a bound method, f of x -/
  | met (f x : Addr)
  /-- a range object lo, lo + 1, .. below hi -/
  | rng (lo hi : Int)
  /-- a thing that is known to the object (the script; a dict while a loop walks it): read, never written while it is so -/
  | frz (o : Obj) (u : HO)
  /-- a code object's table -/
  | tbl (ps : Array Value)
  /-- any other thing, by what is true of its one object (a def of one's own: SetO a S n := HO.ext fun h => ..) -/
  | ext (φ : Heap → Prop)

abbrev Hp := Addr → Option HO
def upd (H : Hp) (a : Addr) (o : HO) : Hp := fun b => if b = a then some o else H b
theorem upd_same {H : Hp} {a : Addr} {o : HO} : upd H a o a = some o := by unfold upd; rw [if_pos rfl]
theorem upd_ne {H : Hp} {a b : Addr} {o : HO} (h : b ≠ a) : upd H a o b = H b := by unfold upd; rw [if_neg h]
theorem upd_upd {H : Hp} {a : Addr} {o u : HO} : upd (upd H a o) a u = upd H a u := by
  funext b; unfold upd; split <;> rfl
/-- two objects of different content stand apart -/
theorem ne_of {H : Hp} {a b : Addr} {o u : HO} (h : H a = some o) (h' : H b = some u) (d : o ≠ u) : a ≠ b := by
  intro e; subst e; rw [h] at h'; exact d (Option.some.inj h')
theorem ne_of_none {H : Hp} {a b : Addr} {o : HO} (h : H a = some o) (h' : H b = none) : a ≠ b := by
  intro e; subst e; rw [h] at h'; cases h'

section
variable (P : Program) (w : World)
def ObjOk (H : Hp) (h : Heap) (a : Addr) : HO → Prop
  | .lst xs => xs.length ≤ sizeLine ∧ ∃ (its : List Value) (n : Nat), Vals xs its ∧ h.get? a = some { cls := .type "list", data := .seq its.toArray n }
  | .tup xs => xs.length ≤ sizeLine ∧ ∃ its : List Value, Vals xs its ∧ IsTup h a its.toArray
  | .dK kvs => kvs.length ≤ sizeLine ∧ (a == sysModules) = false ∧ ∃ vs, KV kvs vs ∧ h.DictOf (mixKind P w) a vs
  | .dT kvs => kvs.length ≤ sizeLine ∧ (a == sysModules) = false ∧ ∃ xs : List (List Key × Addr × Value),
      Paired (fun (p : List Key × V) (q : List Key × Addr × Value) => p.1 = q.1 ∧ H q.2.1 = some (.tup (p.1.map kV)) ∧ RelV p.2 q.2.2) kvs xs ∧
      ∃ o es ep, h.get? a = some o ∧ o.ExactDict ∧ o.data = .dict es ep ∧ es.toList = xs.map (entryOfKey (tupleKind (mixKind P w))) ∧ (xs.map (·.1)).Nodup
  | .set S n => h.SetOf (intKind P w) a S n
  | .ins C dx fs => H dx = some (.own a) ∧ fs.length ≤ 1000 ∧ dx ≠ a ∧ h.get? a = some (PySem.W.instObj C dx) ∧
      ∃ mA, h.Ns1 dx mA ∧ (∀ f, RelO (fs.lookup f) (mA f)) ∧ PySem.Within mA (fs.map (·.1))
  | .own _ => ∃ o, h.get? a = some o
  | .xd fs => ∃ mA, h.Ns1 a mA ∧ ∀ f, RelO (fs.lookup f) (mA f)
  | .rng lo hi => ∃ t u v, h.get? a = some { cls := .type "range", data := .fields #[.int lo t, .int hi u, .int 1 v] }
  | .frz o u => h.get? a = some o ∧ ObjOk H h a u
  | .tbl ps => h.get? a = some { cls := .none, data := .fields ps }
  | .met f x => h.get? a = some (PySem.W.methodObj (.ref f) (.ref x))
  | .ext φ => φ h ∧ (∃ o, h.get? a = some o) ∧ ∀ h1 h2 : Heap, φ h1 → (∀ o, h1.get? a = some o → h2.get? a = some o) → φ h2
/-- the abstract heap is held -/
def HOk (H : Hp) (h : Heap) : Prop := ∀ a o, H a = some o → ObjOk P w H h a o
end

section
variable {P : Program} {w : World} {H H' : Hp} {h h' : Heap} {a : Addr} {o : HO}
theorem ObjOk.lt (x : ObjOk P w H h a o) : a < h.objs.size := by
  cases o with
  | lst xs => obtain ⟨_, _, _, _, e⟩ := x; exact Heap.lt_size e
  | tup xs => obtain ⟨_, _, _, p⟩ := x; exact p.lt
  | dK kvs => obtain ⟨_, _, _, _, o, _, _, e, _⟩ := x; exact Heap.lt_size e
  | dT kvs => obtain ⟨_, _, _, _, o, _, _, e, _⟩ := x; exact Heap.lt_size e
  | set S n => obtain ⟨o, _, _, _, e, _⟩ := x; exact Heap.lt_size e
  | ins C dx fs => obtain ⟨_, _, _, e, _⟩ := x; exact Heap.lt_size e
  | own y => obtain ⟨_, e⟩ := x; exact Heap.lt_size e
  | xd fs => obtain ⟨_, ⟨_, _, _, e, _⟩, _⟩ := x; exact Heap.lt_size e
  | rng lo hi => obtain ⟨_, _, _, e⟩ := x; exact Heap.lt_size e
  | frz ob u => obtain ⟨e, _⟩ := x; exact Heap.lt_size e
  | tbl ps => exact Heap.lt_size (show h.get? a = some _ from x)
  | met f y => exact Heap.lt_size (show h.get? a = some _ from x)
  | ext φ => obtain ⟨_, ⟨_, e⟩, _⟩ := x; exact Heap.lt_size e
theorem Paired.mapP {α β : Type} {F G : α → β → Prop} : ∀ {l₁ : List α} {l₂ : List β}, Paired F l₁ l₂ → (∀ a b, F a b → G a b) → Paired G l₁ l₂
  | _, _, .nil, _ => .nil
  | _, _, .cons r t, f => .cons (f _ _ r) (Paired.mapP t f)
theorem Paired.imp' {α β : Type} {F G : α → β → Prop} (f : ∀ a b, F a b → G a b) {l₁ : List α} {l₂ : List β} (r : Paired F l₁ l₂) : Paired G l₁ l₂ := Paired.mapP r f
/-- what an object's description leans on: its own object, its own dict, the tuples -/
theorem ObjOk.stay (x : ObjOk P w H h a o) (k : ∀ b u, (b = a ∨ H b = some (.own a)) → h.get? b = some u → h'.get? b = some u)
    (ho : ∀ b, H b = some (.own a) → H' b = some (.own a)) (ht : ∀ b xs, H b = some (.tup xs) → H' b = some (.tup xs)) : ObjOk P w H' h' a o := by
  induction o with
  | lst xs => obtain ⟨z, its, n, r, e⟩ := x; exact ⟨z, its, n, r, k _ _ (.inl rfl) e⟩
  | tup xs => obtain ⟨z, its, r, ob, e, c⟩ := x; exact ⟨z, its, r, ob, k _ _ (.inl rfl) e, c⟩
  | dK kvs => obtain ⟨z, y, vs, r, ob, es, ep, e, c⟩ := x; exact ⟨z, y, vs, r, ob, es, ep, k _ _ (.inl rfl) e, c⟩
  | dT kvs =>
    obtain ⟨z, y, xs, r, ob, es, ep, e, c⟩ := x
    exact ⟨z, y, xs, Paired.mapP r fun p q z => ⟨z.1, ht _ _ z.2.1, z.2.2⟩, ob, es, ep, k _ _ (.inl rfl) e, c⟩
  | set S n => obtain ⟨ob, es, ep, t, e, c⟩ := x; exact ⟨ob, es, ep, t, k _ _ (.inl rfl) e, c⟩
  | ins C dx fs =>
    obtain ⟨d, z, ne, e, mA, ⟨od, es, ep, e2, c⟩, r⟩ := x
    exact ⟨ho _ d, z, ne, k _ _ (.inl rfl) e, mA, ⟨od, es, ep, k _ _ (.inr d) e2, c⟩, r⟩
  | own y => obtain ⟨ob, e⟩ := x; exact ⟨ob, k _ _ (.inl rfl) e⟩
  | xd fs => obtain ⟨mA, ⟨od, es, ep, e, c⟩, r⟩ := x; exact ⟨mA, ⟨od, es, ep, k _ _ (.inl rfl) e, c⟩, r⟩
  | rng lo hi => obtain ⟨t, u, v, e⟩ := x; exact ⟨t, u, v, k _ _ (.inl rfl) e⟩
  | frz ob u ih => obtain ⟨e, q⟩ := x; exact ⟨k _ _ (.inl rfl) e, ih q⟩
  | tbl ps =>
    have e : h.get? a = some { cls := .none, data := .fields ps } := x
    show h'.get? a = some { cls := .none, data := .fields ps }
    exact k a _ (.inl rfl) e
  | met f y =>
    have e : h.get? a = some (PySem.W.methodObj (.ref f) (.ref y)) := x
    show h'.get? a = some (PySem.W.methodObj (.ref f) (.ref y))
    exact k a _ (.inl rfl) e
  | ext φ => obtain ⟨p, ⟨o, e⟩, st⟩ := x; exact ⟨st _ _ p fun o q => k _ _ (.inl rfl) q, ⟨o, k _ _ (.inl rfl) e⟩, st⟩
theorem HOk.lt (x : HOk P w H h) (e : H a = some o) : a < h.objs.size := (x a o e).lt
theorem HOk.fresh (x : HOk P w H h) (e : h.objs.size ≤ a) : H a = none := by
  cases q : H a with
  | none => rfl
  | some u => exact absurd (Nat.lt_of_lt_of_le (x.lt q) e) (Nat.lt_irrefl _)
/-- every object of the heap is kept -/
theorem HOk.kept (x : HOk P w H h) (k : ∀ b u, h.get? b = some u → h'.get? b = some u) : HOk P w H h' := fun a o e =>
  (x a o e).stay (fun b u _ q => k b u q) (fun _ q => q) fun _ _ q => q
/-- a new object is laid and tracked -/
theorem HOk.laid (x : HOk P w H h) (k : ∀ b u, h.get? b = some u → h'.get? b = some u) (hp : h.objs.size ≤ a) (new : ObjOk P w (upd H a o) h' a o) : HOk P w (upd H a o) h' := fun b u e => by
  have hn := x.fresh hp
  by_cases hb : b = a
  · subst hb; rw [upd_same] at e; cases e; exact new
  · rw [upd_ne hb] at e
    exact (x b u e).stay (fun c v _ q => k c v q) (fun c q => by rw [upd_ne (ne_of_none q hn)]; exact q) fun c xs q => by rw [upd_ne (ne_of_none q hn)]; exact q
end

/-- what may be read as u: it is u, or a known u -/
def Rd (H : Hp) (a : Addr) (u : HO) : Prop := H a = some u ∨ ∃ o, H a = some (.frz o u)
theorem Rd.of {H : Hp} {a : Addr} {u : HO} (h : H a = some u) : Rd H a u := .inl h
theorem Rd.ok {P : Program} {w : World} {H : Hp} {h : Heap} {a : Addr} {u : HO} (r : Rd H a u) (x : HOk P w H h) : ObjOk P w H h a u := by
  rcases r with r | ⟨o, r⟩
  · exact x a u r
  · obtain ⟨_, q⟩ := x a _ r
    exact q
/-- what may be written -/
def Mut : Option HO → Prop
  | some (.lst _) => True
  | some (.dK _) => True
  | some (.dT _) => True
  | some (.set _ _) => True
  | some (.ins _ _ _) => True
  | some (.ext _) => True
  | _ => False
section
variable {P : Program} {w : World} {H : Hp} {h h' : Heap} {x e : Addr} {o' : HO}
/-- the object at e is changed: x itself, or the dict of the instance x -/
theorem HOk.write (ok : HOk P w H h) (mu : Mut (H x)) (he : e = x ∨ H e = some (.own x)) (k : ∀ b u, b ≠ e → h.get? b = some u → h'.get? b = some u) (heo : ∃ u, h'.get? e = some u)
    (new : ObjOk P w (upd H x o') h' x o') : HOk P w (upd H x o') h' := fun b u q => by
  have nown : ∀ c y, H c = some (.own y) → c ≠ x := fun c y r z => by subst z; rw [r] at mu; exact mu
  have ntup : ∀ c xs, H c = some (.tup xs) → c ≠ x := fun c xs r z => by subst z; rw [r] at mu; exact mu
  by_cases hb : b = x
  · subst hb; rw [upd_same] at q; cases q; exact new
  · rw [upd_ne hb] at q
    by_cases hbe : b = e
    · have q' : H b = some (.own x) := by
        rcases he with z | z
        · exact absurd (hbe.trans z) hb
        · rw [hbe]; exact z
      rw [q] at q'; cases q'
      obtain ⟨v, hv⟩ := heo
      exact ⟨v, by rw [hbe]; exact hv⟩
    · refine (ok b u q).stay (fun c v hc r => k c v ?_ r) (fun c r => by rw [upd_ne (nown c b r)]; exact r) fun c xs r => by rw [upd_ne (ntup c xs r)]; exact r
      rcases hc with rfl | hc
      · exact hbe
      · rintro rfl
        rcases he with z | z
        · exact nown c b hc z
        · rw [hc] at z; cases z; exact hb rfl
end

/-! ### kept unless tracked; of the frames at fs (the callers') the slots may change (an exception that passes writes there); of the records at ex (iterators) nothing is said -/
structure Un (fs ex : List Addr) (H H' : Hp) (h h' : Heap) : Prop where
  keep : ∀ b o, h.get? b = some o → H b = none → b ∉ fs → b ∉ ex → h'.get? b = some o
  slot : ∀ b o, h.get? b = some o → H b = none → b ∈ fs → b ∉ ex → ∃ sl, h'.get? b = some { o with slots := sl }
  free : ∀ b o, h.get? b = some o → H b = none → b ∉ ex → H' b = none
  there : ∀ b o, h.get? b = some o → b ∉ ex → ∃ o', h'.get? b = some o'
  tups : ∀ b xs, H b = some (.tup xs) → H' b = some (.tup xs)
  frzs : ∀ b o u, H b = some (.frz o u) → H' b = some (.frz o u)
  tbls : ∀ b ps, H b = some (.tbl ps) → ∃ more, H' b = some (.tbl (ps ++ more))
section
variable {fs fs' ex ex' : List Addr} {H H1 H2 : Hp} {h h1 h2 h' : Heap} {a x e : Addr} {o : HO}
theorem Un.any (u : Un fs ex H H1 h h1) {b : Addr} {ob : Obj} (q : h.get? b = some ob) (n : H b = none) (hx : b ∉ ex) : ∃ sl, h1.get? b = some { ob with slots := sl } := by
  by_cases hb : b ∈ fs
  · exact u.slot b ob q n hb hx
  · exact ⟨ob.slots, u.keep b ob q n hb hx⟩
theorem Un.trans (a : Un fs ex H H1 h h1) (b : Un fs ex H1 H2 h1 h2) : Un fs ex H H2 h h2 where
  keep := fun c ob q n hc hx => b.keep c ob (a.keep c ob q n hc hx) (a.free c ob q n hx) hc hx
  slot := fun c ob q n hc hx => by
    obtain ⟨sl, e1⟩ := a.slot c ob q n hc hx
    obtain ⟨sl', e2⟩ := b.slot c _ e1 (a.free c ob q n hx) hc hx
    exact ⟨sl', e2⟩
  free := fun c ob q n hx => by
    obtain ⟨o', e1⟩ := a.there c ob q hx
    exact b.free c o' e1 (a.free c ob q n hx) hx
  there := fun c ob q hx => by
    obtain ⟨o', e1⟩ := a.there c ob q hx
    exact b.there c o' e1 hx
  tups := fun c xs q => b.tups c xs (a.tups c xs q)
  frzs := fun c ob xs q => b.frzs c ob xs (a.frzs c ob xs q)
  tbls := fun c ps q => by
    obtain ⟨m1, e1⟩ := a.tbls c ps q
    obtain ⟨m2, e2⟩ := b.tbls c _ e1
    exact ⟨m1 ++ m2, by rw [e2, Array.append_assoc]⟩
theorem Un.kept (k : ∀ b u, h.get? b = some u → h'.get? b = some u) : Un fs ex H H h h' :=
  ⟨fun b ob q _ _ _ => k b ob q, fun b ob q _ _ _ => ⟨ob.slots, k b ob q⟩, fun _ _ _ n _ => n, fun b ob q _ => ⟨ob, k b ob q⟩, fun _ _ q => q, fun _ _ _ q => q, fun _ ps q => ⟨#[], by rw [q]; simp⟩⟩
theorem Un.refl : Un fs ex H H h h := Un.kept fun _ _ q => q
theorem Un.laid (k : ∀ b u, h.get? b = some u → h'.get? b = some u) (hp : h.objs.size ≤ a) (hn : H a = none) : Un fs ex H (upd H a o) h h' where
  keep := fun b u q _ _ _ => k b u q
  slot := fun b u q _ _ _ => ⟨u.slots, k b u q⟩
  free := fun b u q n _ => by rw [upd_ne (Nat.ne_of_lt (Nat.lt_of_lt_of_le (Heap.lt_size q) hp))]; exact n
  there := fun b u q _ => ⟨u, k b u q⟩
  tups := fun b xs q => by rw [upd_ne (ne_of_none q hn)]; exact q
  frzs := fun b u xs q => by rw [upd_ne (ne_of_none q hn)]; exact q
  tbls := fun b ps q => ⟨#[], by rw [upd_ne (ne_of_none q hn), q]; simp⟩
theorem Un.write (mu : Mut (H x)) (he : e = x ∨ H e = some (.own x)) (k : ∀ b u, b ≠ e → h.get? b = some u → h'.get? b = some u) (heo : ∃ u, h'.get? e = some u) : Un fs ex H (upd H x o) h h' := by
  have hx : ∀ b, H b = none → b ≠ x := fun b n z => by subst z; rw [n] at mu; exact mu
  have hb : ∀ b, H b = none → b ≠ e := fun b n z => by
    subst z
    rcases he with r | r
    · exact hx b n r
    · rw [n] at r; cases r
  have hm : ∀ b u, H b = some u → ¬ Mut (some u) → b ≠ x := fun b u q nm z => by subst z; rw [q] at mu; exact nm mu
  refine ⟨fun b u q n _ _ => k b u (hb b n) q, fun b u q n _ _ => ⟨u.slots, k b u (hb b n) q⟩, fun b u q n _ => by rw [upd_ne (hx b n)]; exact n, fun b u q _ => ?_,
    fun b xs q => by rw [upd_ne (hm b _ q fun z => z)]; exact q, fun b u xs q => by rw [upd_ne (hm b _ q fun z => z)]; exact q, fun b ps q => ⟨#[], by rw [upd_ne (hm b _ q fun z => z), q]; simp⟩⟩
  by_cases hbe : b = e
  · subst hbe; exact heo
  · exact ⟨u, k b u hbe q⟩
theorem Un.mono (u : Un fs ex H H1 h h1) (hs : ∀ b ∈ fs, b ∈ fs') (hx : ∀ b ∈ ex, b ∈ ex') : Un fs' ex' H H1 h h1 :=
  ⟨fun b ob q n hb he => u.keep b ob q n (fun z => hb (hs b z)) fun z => he (hx b z), fun _ _ q n _ he => u.any q n fun z => he (hx _ z), fun b ob q n he => u.free b ob q n fun z => he (hx b z), fun b ob q he => u.there b ob q fun z => he (hx b z), u.tups, u.frzs, u.tbls⟩
end

/-! ### the heap without what is tracked -/
def trk (h : Heap) (H : Hp) : List Addr := (List.range h.objs.size).filter fun a => (H a).isSome
def hidT (h : Heap) (H : Hp) : Heap := PySem.W.hideAll h (trk h H)
theorem hidT_size (h : Heap) (H : Hp) : (hidT h H).objs.size = h.objs.size := PySem.W.hideAll_size _ _
theorem hidT_get {h : Heap} {H : Hp} {b : Addr} {o : Obj} (e : h.get? b = some o) (n : H b = none) : (hidT h H).get? b = some o :=
  PySem.W.hideAll_get _ e fun hm => by
    have q : (H b).isSome = true := (List.mem_filter.mp hm).2
    rw [n] at q; simp at q
theorem of_hidT {h : Heap} {H : Hp} {b : Addr} {o : Obj} (e : (hidT h H).get? b = some o) : h.get? b = some o ∧ H b = none := by
  have e' : h.get? b = some o := PySem.W.of_hideAll (trk h H) e
  refine ⟨e', ?_⟩
  cases q : H b with
  | none => rfl
  | some x =>
    have hm : b ∈ trk h H := List.mem_filter.mpr ⟨List.mem_range.mpr (Heap.lt_size e'), by simp [q]⟩
    have z : (hidT h H).get? b = none := PySem.W.hideAll_none (trk h H) hm
    rw [z] at e; cases e

/-! ### OpenK's ledger, filled with every new object but one -/
def allNews (g h : Heap) (L : Addr) : List (Addr × Obj) := (List.range h.objs.size).filterMap fun a => if a = L ∨ (g.get? a).isSome = true then none else (h.get? a).map fun o => (a, o)
theorem mem_allNews {g h : Heap} {L a : Addr} {o : Obj} (h1 : a ≠ L) (h2 : g.get? a = none) (h3 : h.get? a = some o) : (a, o) ∈ allNews g h L :=
  List.mem_filterMap.mpr ⟨a, List.mem_range.mpr (Heap.lt_size h3), by simp [h1, h2, h3]⟩
theorem of_mem_allNews {g h : Heap} {L : Addr} {p : Addr × Obj} (hp : p ∈ allNews g h L) : p.1 ≠ L ∧ g.get? p.1 = none ∧ h.get? p.1 = some p.2 := by
  obtain ⟨b, _, e⟩ := List.mem_filterMap.mp hp
  split at e
  · cases e
  · rename_i hn
    cases q : h.get? b with
    | none => rw [q] at e; simp at e
    | some u =>
      rw [q] at e
      simp only [Option.map_some, Option.some.injEq] at e
      subst e
      refine ⟨fun z => hn (.inl z), ?_, q⟩
      show g.get? b = none
      cases r : g.get? b with
      | none => rfl
      | some v => exact (hn (.inr (by simp [r]))).elim
def rest (g h : Heap) (L d : Addr) : List (Addr × Obj) := (allNews g h L).filter fun p => decide (p.1 ≠ d)
theorem rest_ne {g h : Heap} {L d : Addr} : ∀ p ∈ rest g h L d, p.1 ≠ d := fun p hp => of_decide_eq_true (List.mem_filter.mp hp).2
theorem mem_rest {g h : Heap} {L d a : Addr} {o : Obj} (h1 : a ≠ L) (h2 : g.get? a = none) (h3 : h.get? a = some o) (h4 : a ≠ d) : (a, o) ∈ rest g h L d :=
  List.mem_filter.mpr ⟨mem_allNews h1 h2 h3, decide_eq_true h4⟩
theorem news_all {g h : Heap} {L : Addr} : News g L h (allNews g h L) := fun p hp => let ⟨a, b, c⟩ := of_mem_allNews hp; ⟨c, a, b⟩
theorem news_at {g h : Heap} {L d : Addr} {o : Obj} (h1 : d ≠ L) (h2 : g.get? d = none) (h3 : h.get? d = some o) : News g L h ((d, o) :: rest g h L d) := fun p hp => by
  rcases List.mem_cons.mp hp with rfl | hp
  · exact ⟨h3, h1, h2⟩
  · exact news_all p (List.mem_filter.mp hp).1
/-- behind a rule that changed d alone: all else but the frame is kept -/
theorem kept_of_news {g h h' : Heap} {L d : Addr} {m : Str → Option Value} (k : ∀ b o, g.get? b = some o → h.get? b = some o) (F : Fr g L h' m) (N : News g L h' (rest g h L d)) :
    ∀ b o, b ≠ L → b ≠ d → h.get? b = some o → h'.get? b = some o := fun b o h1 h2 e => by
  cases q : g.get? b with
  | some u =>
    have := k b u q
    rw [e] at this; cases this
    exact F.keep b _ q
  | none => exact (N (b, o) (mem_rest h1 q e h2)).1
end L2

namespace L2
open PySem PySem.Spec PyProof.Rows

/-- the module's facts, over the base: the heap at the law's entry without what is tracked there -/
structure Mod (K : PySem.W.Frag) (mg : Str → Option Value) (base : Heap) : Prop where
  kin : K.In base
  glob : base.Ns mainGlobals mg
  blt : ∃ mb, base.Ns builtinsNs mb ∧ ∀ x : Str, x ≠ "__name__" → mb x = bootBuiltins x
  nolimit : base.NoLimit

/-- the context: a def's body (or a comprehension's block) running. base: fixed through the whole law; s₀, H₀: the entry; outer: the frames whose slots others may change (a def's callers); stack: all frames that run;
   ex: iterators that were made ahead of the entry and are walked here (a comprehension's); fn: the names whose cells were made at the entry (a def: all; a comprehension's block: its own); calm: not within an except suite; pn: pins that every state bears; xe: what is wanted of an exception that leaves the code -/
structure Cx where
  prog : Program
  w : World
  K : PySem.W.Frag
  mg : Str → Option Value
  base : Heap
  A : Around
  N : List Str
  s₀ : Shared
  H₀ : Hp
  env : Env
  outer : List Env
  stack : List Env
  ex : List Addr
  fn : Str → Bool
  calm : Bool
  pn : List (Addr × Obj)
  xe : Value → Shared → Prop
/-- the callers' frames -/
def frs (l : List Env) : List Addr := l.filterMap (·.frame)
abbrev Cx.fs (X : Cx) : List Addr := frs X.outer

def Vis (sc : Scope) (x : Str) : Prop := sc.names.lookup x = some .local ∨ sc.names.lookup x = some .cell ∨ sc.names.lookup x = some .free
def Loc (sc : Scope) (x : Str) : Prop := sc.names.lookup x = some .local ∨ sc.names.lookup x = some .cell
def Look (env : Env) (h : Heap) (m : Str → Option Value) (x : Str) (u : Value) : Prop :=
  (env.kindOf x = some .local ∧ m x = some u) ∨ ((env.kindOf x = some .cell ∨ env.kindOf x = some .free) ∧ ∃ c, env.cells.lookup x = some c ∧ h.IsCell c (some u))

structure Cx.Ok (X : Cx) : Prop where
  mod : Mod X.K X.mg X.base
  kind : X.env.scope.kind = .function
  glob : X.env.globals = mainGlobals
  blt : X.env.builtins = builtinsNs
  above : X.s₀.heap.objs.size ≤ X.env.locals
  inj : ∀ x y c, X.env.cells.lookup x = some c → X.env.cells.lookup y = some c → x = y
  has : ∀ x, (X.env.kindOf x = some .cell ∨ X.env.kindOf x = some .free) → ∃ c, X.env.cells.lookup x = some c
  cab : ∀ x c, X.fn x = true → X.env.cells.lookup x = some c → X.s₀.heap.objs.size ≤ c
  hd : X.calm = true → X.A.handled = none
  frames : X.A.frames = some X.stack
  stk : X.stack = X.outer ∨ (X.stack = X.env :: X.outer ∧ X.env.frame = some X.env.locals)
  exf : ∀ b ∈ X.ex, b ≠ X.env.locals ∧ ∀ x c, X.env.cells.lookup x = some c → c ≠ b
  bs : ∀ b o, X.base.get? b = some o → X.s₀.heap.get? b = some o ∧ X.H₀ b = none
  bsz : X.base.objs.size ≤ X.s₀.heap.objs.size
  noex : ∀ b o, X.base.get? b = some o → b ∉ X.ex
  exfs : ∀ b ∈ X.ex, b ∉ X.fs
  funs : X.s₀.heap.FunFrames X.base X.outer
  frf : ∀ b ∈ X.fs, X.H₀ b = none

structure Inv (X : Cx) (pins : List (Addr × Obj)) (σ : List (Option V)) (H : Hp) (s : Shared) : Prop where
  ok : X.Ok
  os : s.os = X.s₀.os
  bare : AllBare s.gens
  base : Un X.fs X.ex X.H₀ H X.s₀.heap s.heap
  loc : ∃ m, s.heap.Ns X.env.locals m ∧ ∀ (i : Nat) (x : Str) (v : V), X.N[i]? = some x → σ[i]? = some (some v) → Vis X.env.scope x → ∃ u, RelV v u ∧ Look X.env s.heap m x u
  cell : ∀ x c, X.env.cells.lookup x = some c → ∃ v, s.heap.IsCell c v
  free : H X.env.locals = none
  freeC : ∀ x c, X.env.cells.lookup x = some c → H c = none
  pin : ∀ p ∈ X.pn ++ pins, s.heap.get? p.1 = some p.2 ∧ H p.1 = none ∧ p.1 ≠ X.env.locals ∧ p.1 ∉ X.fs ∧ ∀ v, p.2.data ≠ .cell v
  hok : HOk X.prog X.w H s.heap
  len : σ.length = X.N.length

section
variable {X : Cx} {pins : List (Addr × Obj)} {σ : List (Option V)} {H H' : Hp} {s : Shared} {h' : Heap}

theorem Cx.Ok.nofr (ok : X.Ok) {b : Addr} {o : Obj} (e : X.base.get? b = some o) : b ∉ X.fs := fun hb => by
  have := (ok.funs.mem hb).1
  rw [e] at this; cases this
theorem Inv.bs (I : Inv X pins σ H s) : ∀ b o, X.base.get? b = some o → s.heap.get? b = some o ∧ H b = none := fun b o e =>
  ⟨I.base.keep b o (I.ok.bs b o e).1 (I.ok.bs b o e).2 (I.ok.nofr e) (I.ok.noex b o e), I.base.free b o (I.ok.bs b o e).1 (I.ok.bs b o e).2 (I.ok.noex b o e)⟩
theorem Inv.bk (I : Inv X pins σ H s) : ∀ b o, X.base.get? b = some o → s.heap.get? b = some o := fun b o e => (I.bs b o e).1
theorem Inv.mod (I : Inv X pins σ H s) : Mod X.K X.mg X.base := I.ok.mod
theorem Inv.kIn (I : Inv X pins σ H s) : X.K.In s.heap := I.ok.mod.kin.keeps I.bk
theorem Inv.nolimit (I : Inv X pins σ H s) : s.heap.NoLimit := I.ok.mod.nolimit.keeps I.bk
/-- the frame over the base: for OpenK's rules (K.In X.base is I.mod.kin) -/
theorem Inv.fr (I : Inv X pins σ H s) : ∃ m, Fr X.base X.env.locals s.heap m :=
  let ⟨m, hn, _⟩ := I.loc
  ⟨m, hn, I.bk, Nat.le_trans I.ok.bsz I.ok.above⟩
theorem Inv.lt (I : Inv X pins σ H s) : X.env.locals < s.heap.objs.size := let ⟨_, hn, _⟩ := I.loc; hn.lt
theorem Inv.sz (I : Inv X pins σ H s) : X.s₀.heap.objs.size ≤ s.heap.objs.size := Nat.le_trans I.ok.above (Nat.le_of_lt I.lt)
theorem Inv.nofs (I : Inv X pins σ H s) {a : Addr} (h : s.heap.objs.size ≤ a) : a ∉ X.fs := fun hb => by
  obtain ⟨_, o, ho, _⟩ := I.ok.funs.mem hb
  exact absurd (Nat.lt_of_lt_of_le (Heap.lt_size ho) (Nat.le_trans I.sz h)) (Nat.lt_irrefl _)
theorem Inv.cne (I : Inv X pins σ H s) : ∀ x c, X.env.cells.lookup x = some c → c ≠ X.env.locals := fun x c e z => by
  obtain ⟨v, o, ho, hd⟩ := I.cell x c e
  obtain ⟨m, ⟨o', es, ep, ho', hd', _⟩, _⟩ := I.loc
  rw [z, ho'] at ho; cases ho; rw [hd'] at hd; cases hd
theorem Inv.funs (I : Inv X pins σ H s) : s.heap.FunFrames X.base X.outer := by
  have all : ∀ (l : List Env), (∀ b ∈ frs l, b ∈ X.fs) → X.s₀.heap.FunFrames X.base l → s.heap.FunFrames X.base l := by
    intro l
    induction l with
    | nil => intro _ _; trivial
    | cons env r ih =>
      intro hs hl
      obtain ⟨hk, ⟨L, o, hf, hn, ho, hd⟩, hr⟩ := hl
      have hL : L ∈ X.fs := hs L (by unfold frs; rw [List.filterMap_cons, hf]; exact List.mem_cons_self)
      obtain ⟨sl, e⟩ := I.base.slot L o ho (I.ok.frf L hL) hL fun z => I.ok.exfs L z hL
      exact ⟨hk, ⟨L, _, hf, hn, e, hd⟩, ih (fun b hb => hs b (by unfold frs; rw [List.filterMap_cons, hf]; exact List.mem_cons_of_mem _ hb)) hr⟩
  exact all X.outer (fun _ hb => hb) I.ok.funs

/-- the frames that run, for a call -/
theorem Inv.stack (I : Inv X pins σ H s) : s.heap.FunFrames X.base X.stack := by
  rcases I.ok.stk with e | ⟨e, hf⟩
  · rw [e]; exact I.funs
  · rw [e]
    obtain ⟨m, hn, _⟩ := I.loc
    refine .cons (by rw [I.ok.kind]; decide) hf hn ?_ I.funs
    exact Heap.get?_none_of_le (Nat.le_trans I.ok.bsz I.ok.above)
theorem Inv.stkSub (I : Inv X pins σ H s) : ∀ b ∈ frs X.stack, b ∈ X.env.locals :: X.fs := fun b hb => by
  rcases I.ok.stk with e | ⟨e, hf⟩
  · rw [e] at hb; exact List.mem_cons_of_mem _ hb
  · rw [e] at hb
    unfold frs at hb
    rw [List.filterMap_cons, hf] at hb
    exact hb
theorem Inv.stkFree (I : Inv X pins σ H s) : ∀ b ∈ frs X.stack, H b = none := fun b hb => by
  rcases List.mem_cons.mp (I.stkSub b hb) with e | hb
  · rw [e]; exact I.free
  · obtain ⟨_, o, ho, _⟩ := I.ok.funs.mem hb
    exact I.base.free b o ho (I.ok.frf b hb) fun z => I.ok.exfs b z hb

/-- THE STEP: the untracked objects but the frame and the records at ch are kept (the callers' frames up to slots), the frame's map is kept, the new abstract heap is held -/
theorem Inv.step {g' : Array GenState} {t' : Nat} {d' : Drawn} {ch : List Addr} (I : Inv X pins σ H s)
    (hch : ∀ b ∈ ch, (b ∈ X.ex ∨ X.s₀.heap.objs.size ≤ b) ∧ b ≠ X.env.locals ∧ (∀ x c, X.env.cells.lookup x = some c → c ≠ b) ∧ ∀ p ∈ X.pn ++ pins, p.1 ≠ b)
    (keep : ∀ b o, b ≠ X.env.locals → b ∉ X.fs → b ∉ ch → s.heap.get? b = some o → H b = none → h'.get? b = some o)
    (slot : ∀ b o, b ≠ X.env.locals → b ∈ X.fs → b ∉ ch → s.heap.get? b = some o → H b = none → ∃ sl, h'.get? b = some { o with slots := sl }) (free : ∀ b o, b ∉ ch → s.heap.get? b = some o → H b = none → H' b = none)
    (there : ∀ b o, b ∉ ch → s.heap.get? b = some o → ∃ o', h'.get? b = some o')
    (tups : ∀ b xs, H b = some (.tup xs) → H' b = some (.tup xs)) (frzs : ∀ b o u, H b = some (.frz o u) → H' b = some (.frz o u)) (tbls : ∀ b ps, H b = some (.tbl ps) → ∃ more, H' b = some (.tbl (ps ++ more)))
    (ns : ∀ m, s.heap.Ns X.env.locals m → h'.Ns X.env.locals m) (hok : HOk X.prog X.w H' h') (hg : AllBare g') :
    Inv X pins σ H' { s with heap := h', gens := g', drawn := d', toks := t' } := by
  have neL : ∀ b o, X.s₀.heap.get? b = some o → b ≠ X.env.locals := fun b o e => Nat.ne_of_lt (Nat.lt_of_lt_of_le (Heap.lt_size e) I.ok.above)
  have neC : ∀ b o, X.s₀.heap.get? b = some o → b ∉ X.ex → b ∉ ch := fun b o e hx hb => by
    rcases (hch b hb).1 with z | z
    · exact hx z
    · exact absurd (Nat.lt_of_lt_of_le (Heap.lt_size e) z) (Nat.lt_irrefl _)
  have cellK : ∀ x c, X.env.cells.lookup x = some c → ∀ v, s.heap.IsCell c v → h'.IsCell c v := fun x c e v ⟨o, ho, hd⟩ => by
    have nch : c ∉ ch := fun z => (hch c z).2.2.1 x c e rfl
    by_cases hc : c ∈ X.fs
    · obtain ⟨sl, q⟩ := slot c o (I.cne x c e) hc nch ho (I.freeC x c e)
      exact ⟨_, q, hd⟩
    · exact ⟨o, keep c o (I.cne x c e) hc nch ho (I.freeC x c e), hd⟩
  refine ⟨I.ok, I.os, hg, ⟨fun b o e n hb hx => ?_, fun b o e n hb hx => ?_, fun b o e n hx => ?_, fun b o e hx => ?_, fun b xs e => tups b xs (I.base.tups b xs e), fun b o xs e => frzs b o xs (I.base.frzs b o xs e), fun b ps e => ?_⟩, ?_, fun x c e => ?_, ?_, fun x c e => ?_, fun p hp => ?_, hok, I.len⟩
  · exact keep b o (neL b o e) hb (neC b o e hx) (I.base.keep b o e n hb hx) (I.base.free b o e n hx)
  · obtain ⟨sl, e1⟩ := I.base.slot b o e n hb hx
    obtain ⟨sl', e2⟩ := slot b _ (neL b o e) hb (neC b o e hx) e1 (I.base.free b o e n hx)
    exact ⟨sl', e2⟩
  · obtain ⟨o', e1⟩ := I.base.there b o e hx
    exact free b o' (neC b o e hx) e1 (I.base.free b o e n hx)
  · obtain ⟨o', e1⟩ := I.base.there b o e hx
    exact there b o' (neC b o e hx) e1
  · obtain ⟨m1, e1⟩ := I.base.tbls b ps e
    obtain ⟨m2, e2⟩ := tbls b _ e1
    exact ⟨m1 ++ m2, by rw [e2, Array.append_assoc]⟩
  · obtain ⟨m, hn, hl⟩ := I.loc
    refine ⟨m, ns m hn, fun i x v e1 e2 e3 => ?_⟩
    obtain ⟨u, r, l⟩ := hl i x v e1 e2 e3
    refine ⟨u, r, ?_⟩
    rcases l with l | ⟨k, c, e, z⟩
    · exact .inl l
    · exact .inr ⟨k, c, e, cellK x c e _ z⟩
  · obtain ⟨v, z⟩ := I.cell x c e
    exact ⟨v, cellK x c e v z⟩
  · obtain ⟨m, ⟨o, _, _, ho, _⟩, _⟩ := I.loc
    exact free _ o (fun z => (hch _ z).2.1 rfl) ho I.free
  · obtain ⟨v, o, ho, hd⟩ := I.cell x c e
    exact free c o (fun z => (hch c z).2.2.1 x c e rfl) ho (I.freeC x c e)
  · obtain ⟨e, n, ne, nf, d⟩ := I.pin p hp
    have nch : p.1 ∉ ch := fun z => (hch p.1 z).2.2.2 p hp rfl
    exact ⟨keep p.1 p.2 ne nf nch e n, free p.1 p.2 nch e n, ne, nf, d⟩
/-- .. where the frame's own object is kept too -/
theorem Inv.un {t' : Nat} (I : Inv X pins σ H s) (u : Un X.fs [] H H' s.heap h') (hok : HOk X.prog X.w H' h') : Inv X pins σ H' { s with heap := h', toks := t' } := by
  obtain ⟨m, ⟨o, es, ep, ho, r⟩, _⟩ := id I.loc
  obtain ⟨sl, hL⟩ := u.any ho I.free (by simp)
  exact I.step (g' := s.gens) (d' := s.drawn) (ch := []) (fun _ z => nomatch z) (fun b o _ hb _ e n => u.keep b o e n hb (by simp)) (fun b o _ hb _ e n => u.slot b o e n hb (by simp)) (fun b o _ e n => u.free b o e n (by simp)) (fun b o _ e => u.there b o e (by simp)) u.tups u.frzs u.tbls (fun m' hm => by
    obtain ⟨o', es', ep', ho', r'⟩ := hm
    rw [ho] at ho'; cases ho'
    exact ⟨_, es', ep', hL, r'⟩) hok I.bare
/-- behind a call (or a comprehension's block): the slots of this frame may have changed too, the records at ch may have turned -/
theorem Inv.call {g' : Array GenState} {t' : Nat} {d' : Drawn} {ch : List Addr} (I : Inv X pins σ H s) (u : Un (frs X.stack) ch H H' s.heap h') (hok : HOk X.prog X.w H' h') (hg : AllBare g')
    (hch : ∀ b ∈ ch, (b ∈ X.ex ∨ X.s₀.heap.objs.size ≤ b) ∧ b ≠ X.env.locals ∧ (∀ x c, X.env.cells.lookup x = some c → c ≠ b) ∧ ∀ p ∈ X.pn ++ pins, p.1 ≠ b) :
    Inv X pins σ H' { s with heap := h', gens := g', drawn := d', toks := t' } := by
  obtain ⟨m, ⟨o, es, ep, ho, r⟩, _⟩ := id I.loc
  obtain ⟨sl, hL⟩ := u.any ho I.free fun z => (hch _ z).2.1 rfl
  exact I.step (ch := ch) hch (fun b o hL hb hc e n => u.keep b o e n (fun z => (List.mem_cons.mp (I.stkSub b z)).elim hL hb) hc) (fun b o _ _ hc e n => u.any e n hc) (fun b o hc e n => u.free b o e n hc) (fun b o hc e => u.there b o e hc) u.tups u.frzs u.tbls (fun m' hm => by
    obtain ⟨o', es', ep', ho', r'⟩ := hm
    rw [ho] at ho'; cases ho'
    exact ⟨_, es', ep', hL, r'⟩) hok hg
/-- an untracked record of ours (an iterator) has turned -/
theorem Inv.turned {t' : Nat} {it : Addr} (I : Inv X pins σ H s) (k : ∀ b o, b ≠ it → s.heap.get? b = some o → h'.get? b = some o) (hn : H it = none) (hL : it ≠ X.env.locals)
    (h1 : it ∈ X.ex ∨ X.s₀.heap.objs.size ≤ it) (h2 : ∀ x c, X.env.cells.lookup x = some c → c ≠ it) (h3 : ∀ p ∈ X.pn ++ pins, p.1 ≠ it) : Inv X pins σ H { s with heap := h', toks := t' } := by
  have nit : ∀ b u, H b = some u → b ≠ it := fun b u e z => by rw [z, hn] at e; cases e
  refine I.step (g' := s.gens) (d' := s.drawn) (ch := [it]) (fun b hb => ?_) (fun b o _ _ hc e _ => k b o (fun z => hc (by simp [z])) e) (fun b o _ _ hc e _ => ⟨o.slots, k b o (fun z => hc (by simp [z])) e⟩) (fun _ _ _ _ n => n)
    (fun b o hc e => ⟨o, k b o (fun z => hc (by simp [z])) e⟩) (fun _ _ e => e) (fun _ _ _ e => e) (fun b ps e => ⟨#[], by rw [e]; simp⟩) (fun m hm => ?_) (fun b u e => ?_) I.bare
  · have e : b = it := by simpa using hb
    subst e
    exact ⟨h1, hL, h2, h3⟩
  · obtain ⟨o, es, ep, ho, r⟩ := hm
    exact ⟨o, es, ep, k _ o (Ne.symm hL) ho, r⟩
  · refine (I.hok b u e).stay (fun c v hc q => k c v ?_ q) (fun _ q => q) fun _ _ q => q
    rcases hc with z | z
    · rw [z]; exact nit b u e
    · exact nit c _ z
theorem Inv.tok (I : Inv X pins σ H s) (t : Nat) : Inv X pins σ H { s with toks := t } := I.un (h' := s.heap) (t' := t) Un.refl I.hok
/-- all objects kept -/
theorem Inv.kept {t' : Nat} (I : Inv X pins σ H s) (k : ∀ b u, s.heap.get? b = some u → h'.get? b = some u) : Inv X pins σ H { s with heap := h', toks := t' } := I.un (Un.kept k) (I.hok.kept k)
/-- a new object laid and tracked -/
theorem Inv.laid {a : Addr} {o : HO} {t' : Nat} (I : Inv X pins σ H s) (k : ∀ b u, s.heap.get? b = some u → h'.get? b = some u) (hp : s.heap.objs.size ≤ a) (new : ObjOk X.prog X.w (upd H a o) h' a o) :
    Inv X pins σ (upd H a o) { s with heap := h', toks := t' } := I.un (Un.laid k hp (I.hok.fresh hp)) (I.hok.laid k hp new)
/-- an object written -/
theorem Inv.write {x e : Addr} {o : HO} {t' : Nat} (I : Inv X pins σ H s) (mu : Mut (H x)) (he : e = x ∨ H e = some (.own x)) (k : ∀ b u, b ≠ e → s.heap.get? b = some u → h'.get? b = some u) (heo : ∃ u, h'.get? e = some u)
    (new : ObjOk X.prog X.w (upd H x o) h' x o) : Inv X pins σ (upd H x o) { s with heap := h', toks := t' } := I.un (Un.write mu he k heo) (I.hok.write mu he k heo new)
/-- forgetting slots, pins -/
theorem Inv.weak {σ' : List (Option V)} (I : Inv X pins σ H s) (hl : σ'.length = σ.length) (w : ∀ (i : Nat) v, σ'[i]? = some (some v) → σ[i]? = some (some v)) : Inv X pins σ' H s :=
  ⟨I.ok, I.os, I.bare, I.base, let ⟨m, hn, hl'⟩ := I.loc; ⟨m, hn, fun i x v e1 e2 e3 => hl' i x v e1 (w i v e2) e3⟩, I.cell, I.free, I.freeC, I.pin, I.hok, hl.trans I.len⟩
theorem Inv.pins_of {pins' : List (Addr × Obj)} (I : Inv X pins σ H s) (h : ∀ p ∈ pins', s.heap.get? p.1 = some p.2 ∧ H p.1 = none ∧ p.1 ≠ X.env.locals ∧ p.1 ∉ X.fs ∧ ∀ v, p.2.data ≠ .cell v) : Inv X pins' σ H s :=
  ⟨I.ok, I.os, I.bare, I.base, I.loc, I.cell, I.free, I.freeC, fun p hp => (List.mem_append.mp hp).elim (fun z => I.pin p (List.mem_append_left _ z)) (h p), I.hok, I.len⟩

theorem nodup_ix {N : List Str} (hN : N.Nodup) {i j : Nat} {x : Str} (a : N[i]? = some x) (b : N[j]? = some x) : i = j := by
  obtain ⟨h1, e1⟩ := List.getElem?_eq_some_iff.mp a
  obtain ⟨h2, e2⟩ := List.getElem?_eq_some_iff.mp b
  exact (List.getElem_inj hN).mp (e1.trans e2.symm)

/-- a name is stored; what changed -/
theorem store_ok2 {M : Model} {A : Around} {E : Value → Shared → Prop} {i : Nat} {x : Str} {v : V} {u : Value} {Q : Unit → Shared → Prop} (I : Inv X pins σ H s) (hN : X.N.Nodup) (hi : X.N[i]? = some x) (hx : Loc X.env.scope x) (r : RelV v u)
    (h : ∀ s', Inv X pins (σ.set i (some v)) H s' → (∃ a, Heap.SameBut a s.heap s'.heap ∧ (a = X.env.locals ∨ X.env.cells.lookup x = some a)) → Q () s') (hf : X.fn x = true ∨ X.env.scope.names.lookup x = some .local := by first | exact .inl rfl | exact .inr rfl | assumption) : wpAny M A (storeName X.env x u) Q E s := by
  obtain ⟨m, hn, hl⟩ := id I.loc
  have hcls : (X.env.scope.kind == .class || (X.env.scope.kind == .module && X.env.locals != X.env.globals)) = false := by rw [I.ok.kind]; rfl
  have hiσ : i < σ.length := by rw [I.len]; exact (List.getElem?_eq_some_iff.mp hi).1
  have cne := I.cne
  have tracked : ∀ {a : Addr} {h' : Heap}, (∃ o, s.heap.get? a = some o ∧ H a = none) → Heap.SameBut a s.heap h' → HOk X.prog X.w H h' := fun {a h'} ha hs b ob e => by
    obtain ⟨_, _, hfree⟩ := ha
    refine (I.hok b ob e).stay (fun c w' hc q => (hs.2 c ?_).trans q) (fun _ q => q) fun _ _ q => q
    rintro rfl
    rcases hc with rfl | hc
    · rw [hfree] at e; cases e
    · rw [hfree] at hc; cases hc
  rcases hx with hk | hk
  · refine wpAny_storeName_local hk hn (fun h' hn' hs => ?_) hcls
    obtain ⟨oL, _, _, hoL, _⟩ := id hn
    refine h _ ⟨I.ok, I.os, I.bare, ⟨fun b o e n hb hx => ?_, fun b o e n hb hx => ?_, I.base.free, fun b o e hx => ?_, I.base.tups, I.base.frzs, I.base.tbls⟩, ⟨_, hn', fun j y v' e1 e2 e3 => ?_⟩, fun y c e => ?_, I.free, I.freeC, fun p hp => ?_, tracked ⟨oL, hoL, I.free⟩ hs, by simpa using I.len⟩ ⟨_, hs, .inl rfl⟩
    · exact (hs.2 b (Nat.ne_of_lt (Nat.lt_of_lt_of_le (Heap.lt_size e) I.ok.above))).trans (I.base.keep b o e n hb hx)
    · obtain ⟨sl, e1⟩ := I.base.slot b o e n hb hx
      exact ⟨sl, (hs.2 b (Nat.ne_of_lt (Nat.lt_of_lt_of_le (Heap.lt_size e) I.ok.above))).trans e1⟩
    · obtain ⟨o', e1⟩ := I.base.there b o e hx
      exact ⟨o', (hs.2 b (Nat.ne_of_lt (Nat.lt_of_lt_of_le (Heap.lt_size e) I.ok.above))).trans e1⟩
    · by_cases hj : j = i
      · subst hj
        rw [hi] at e1; cases e1
        rw [List.getElem?_set_self hiσ] at e2
        cases e2
        exact ⟨u, r, .inl ⟨hk, by simp⟩⟩
      · rw [List.getElem?_set_ne (Ne.symm hj)] at e2
        obtain ⟨u', r', q⟩ := hl j y v' e1 e2 e3
        refine ⟨u', r', ?_⟩
        rcases q with ⟨k, e⟩ | ⟨k, c, e, z⟩
        · refine .inl ⟨k, ?_⟩
          have : y ≠ x := fun e => hj (nodup_ix hN e1 (e ▸ hi))
          simp [this, e]
        · exact .inr ⟨k, c, e, z.sameBut hs (cne y c e)⟩
    · obtain ⟨w', z⟩ := I.cell y c e
      exact ⟨w', z.sameBut hs (cne y c e)⟩
    · obtain ⟨e, n, ne, nf, d⟩ := I.pin p hp
      exact ⟨(hs.2 p.1 ne).trans e, n, ne, nf, d⟩
  · have hfn : X.fn x = true := by
      rcases hf with z | z
      · exact z
      · rw [z] at hk; cases hk
    obtain ⟨c, hc⟩ := I.ok.has x (.inl hk)
    obtain ⟨w', z⟩ := I.cell x c hc
    refine wpAny_storeName_cell I.ok.kind hk hc z (fun h' hc' hs => ?_)
    obtain ⟨oc, hoc, hocd⟩ := id z
    refine h { s with heap := h' } ⟨I.ok, I.os, I.bare, ⟨fun b o e n hb hx => ?_, fun b o e n hb hx => ?_, I.base.free, fun b o e hx => ?_, I.base.tups, I.base.frzs, I.base.tbls⟩, ⟨m, hn.sameBut hs (Ne.symm (cne x c hc)), fun j y v' e1 e2 e3 => ?_⟩, fun y c' e => ?_, I.free, I.freeC, fun p hp => ?_, tracked ⟨oc, hoc, I.freeC x c hc⟩ hs, by simpa using I.len⟩ ⟨c, hs, .inr hc⟩
    · exact (hs.2 b (Nat.ne_of_lt (Nat.lt_of_lt_of_le (Heap.lt_size e) (I.ok.cab x c hfn hc)))).trans (I.base.keep b o e n hb hx)
    · obtain ⟨sl, e1⟩ := I.base.slot b o e n hb hx
      exact ⟨sl, (hs.2 b (Nat.ne_of_lt (Nat.lt_of_lt_of_le (Heap.lt_size e) (I.ok.cab x c hfn hc)))).trans e1⟩
    · obtain ⟨o', e1⟩ := I.base.there b o e hx
      exact ⟨o', (hs.2 b (Nat.ne_of_lt (Nat.lt_of_lt_of_le (Heap.lt_size e) (I.ok.cab x c hfn hc)))).trans e1⟩
    · by_cases hj : j = i
      · subst hj
        rw [hi] at e1; cases e1
        rw [List.getElem?_set_self hiσ] at e2
        cases e2
        exact ⟨u, r, .inr ⟨.inl hk, c, hc, hc'⟩⟩
      · rw [List.getElem?_set_ne (Ne.symm hj)] at e2
        obtain ⟨u', r', q⟩ := hl j y v' e1 e2 e3
        refine ⟨u', r', ?_⟩
        rcases q with q | ⟨k, c', e, z'⟩
        · exact .inl q
        · refine .inr ⟨k, c', e, z'.sameBut hs ?_⟩
          rintro rfl
          exact hj (nodup_ix hN e1 (I.ok.inj _ _ _ e hc ▸ hi))
    · by_cases hcc : c' = c
      · subst hcc; exact ⟨_, hc'⟩
      · obtain ⟨w2, z2⟩ := I.cell y c' e
        exact ⟨w2, z2.sameBut hs hcc⟩
    · obtain ⟨e, n, ne, nf, d⟩ := I.pin p hp
      refine ⟨(hs.2 p.1 ?_).trans e, n, ne, nf, d⟩
      intro q
      rw [q, hoc] at e
      have q' : oc = p.2 := Option.some.inj e
      exact d w' (by rw [← q']; exact hocd)
theorem store_ok {M : Model} {A : Around} {E : Value → Shared → Prop} {i : Nat} {x : Str} {v : V} {u : Value} {Q : Unit → Shared → Prop} (I : Inv X pins σ H s) (hN : X.N.Nodup) (hi : X.N[i]? = some x) (hx : Loc X.env.scope x) (r : RelV v u)
    (h : ∀ s', Inv X pins (σ.set i (some v)) H s' → Q () s') (hf : X.fn x = true ∨ X.env.scope.names.lookup x = some .local := by first | exact .inl rfl | exact .inr rfl | assumption) : wpAny M A (storeName X.env x u) Q E s :=
  store_ok2 I hN hi hx r (fun s' I' _ => h s' I') hf
/-- behind a call or a block, the state as it is -/
theorem Inv.call' {s' : Shared} {ch : List Addr} (I : Inv X pins σ H s) (ho : s'.os = s.os) (u : Un (frs X.stack) ch H H' s.heap s'.heap) (hok : HOk X.prog X.w H' s'.heap) (hg : AllBare s'.gens)
    (hch : ∀ b ∈ ch, (b ∈ X.ex ∨ X.s₀.heap.objs.size ≤ b) ∧ b ≠ X.env.locals ∧ (∀ x c, X.env.cells.lookup x = some c → c ≠ b) ∧ ∀ p ∈ X.pn ++ pins, p.1 ≠ b) : Inv X pins σ H' s' := by
  obtain ⟨h', g', d', t', o'⟩ := s'
  have e : o' = s.os := ho
  subst e
  exact I.call (g' := g') (t' := t') (d' := d') u hok hg hch
end

/-! ### the judgements -/
/-- an exception: its class, its own dict's address (where it has one), the abstract heap behind it -/
abbrev XK := Value → Option Addr → Hp → Prop
abbrev St := List (Option V)
abbrev VK := V → Hp → Prop
/-- an expression's reading; a test's; an argument list's -/
abbrev TE := St → Hp → VK → Prop
abbrev TT := St → Hp → (Bool → Hp → Prop) → Prop
abbrev TA := St → Hp → (List V → Hp → Prop) → Prop
/-- what is wanted behind a statement -/
structure Ends where
  nx : St → Hp → Prop
  rt : VK
  bk : St → Hp → Prop := fun _ _ => False
  ct : St → Hp → Prop := fun _ _ => False
abbrev TS := Ends → St → Hp → Prop

def EP (X : Cx) (pins : List (Addr × Obj)) (σ : St) (Q : VK) (u : Value) (s' : Shared) : Prop := ∃ v H', Inv X pins σ H' s' ∧ RelV v u ∧ Q v H'
def TP (X : Cx) (pins : List (Addr × Obj)) (σ : St) (Q : Bool → Hp → Prop) (b : Bool) (s' : Shared) : Prop := ∃ H', Inv X pins σ H' s' ∧ Q b H'
def AP (X : Cx) (pins : List (Addr × Obj)) (σ : St) (Q : List V → Hp → Prop) (us : List Value) (s' : Shared) : Prop := ∃ vs H', Inv X pins σ H' s' ∧ Vals vs us ∧ Q vs H'
def SP (X : Cx) (pins : List (Addr × Obj)) (D : Ends) (f : Flow) (s' : Shared) : Prop :=
  match f with
  | .next => ∃ σ' H', Inv X pins σ' H' s' ∧ D.nx σ' H'
  | .brk => ∃ σ' H', Inv X pins σ' H' s' ∧ D.bk σ' H'
  | .cont => ∃ σ' H', Inv X pins σ' H' s' ∧ D.ct σ' H'
  | .ret u => ∃ v σ' H', Inv X pins σ' H' s' ∧ RelV v u ∧ D.rt v H'

def PE (X : Cx) (e : Expr) (t : TE) : Prop :=
  ∀ (pins : List (Addr × Obj)) (s : Shared) (σ : St) (H : Hp) (Q : VK), Inv X pins σ H s → t σ H Q → wpAny (model X.prog X.w) X.A (eval e X.env) (EP X pins σ Q) X.xe s
def PT (X : Cx) (e : Expr) (t : TT) : Prop :=
  ∀ (pins : List (Addr × Obj)) (s : Shared) (σ : St) (H : Hp) (Q : Bool → Hp → Prop), Inv X pins σ H s → t σ H Q → wpAny (model X.prog X.w) X.A (isTrue e X.env (eval e X.env)) (TP X pins σ Q) X.xe s
/-- a test whatever its 'whole' is (and, or) -/
def PW (X : Cx) (e : Expr) (t : TT) : Prop :=
  ∀ (whole : Sem Value) (pins : List (Addr × Obj)) (s : Shared) (σ : St) (H : Hp) (Q : Bool → Hp → Prop), Inv X pins σ H s → t σ H Q → wpAny (model X.prog X.w) X.A (isTrue e X.env whole) (TP X pins σ Q) X.xe s
theorem PW.pt {X : Cx} {e : Expr} {t : TT} (h : PW X e t) : PT X e t := h _
/-- an argument list (no star), from the left -/
def PA (X : Cx) (es : List Expr) (t : TA) : Prop :=
  ∀ (pos : Pos) (pins : List (Addr × Obj)) (s : Shared) (σ : St) (H : Hp) (Q : List V → Hp → Prop), Inv X pins σ H s → t σ H Q → wpAny (model X.prog X.w) X.A (spliced (backTo pos (starEach es X.env))) (AP X pins σ Q) X.xe s
def PS (X : Cx) (st : Stmt) (t : TS) : Prop :=
  ∀ (pins : List (Addr × Obj)) (s : Shared) (σ : St) (H : Hp) (D : Ends), Inv X pins σ H s → t D σ H → wpAny (model X.prog X.w) X.A (exec st X.env) (SP X pins D) X.xe s
def PSs (X : Cx) (st : List Stmt) (t : TS) : Prop :=
  ∀ (pins : List (Addr × Obj)) (s : Shared) (σ : St) (H : Hp) (D : Ends), Inv X pins σ H s → t D σ H → wpAny (model X.prog X.w) X.A (execs st X.env) (SP X pins D) X.xe s
/-- weaken the end -/
theorem thn {α : Type} {t : Sem α} {Q Q' : α → Shared → Prop} {M : Model} {A : Around} {E : Value → Shared → Prop} {s : Shared} (h : wpAny M A t Q E s) (hQ : ∀ a s, Q a s → Q' a s) : wpAny M A t Q' E s := wpAny_mono h hQ fun _ _ x => x
end L2

namespace L2
open PySem PySem.Spec PyProof.Rows
section
variable {X : Cx}

/-- two expressions in a row -/
theorem bin {a b : Expr} {ta tb : TE} (ha : PE X a ta) (hb : PE X b tb) {pins : List (Addr × Obj)} {s : Shared} {σ : St} {H : Hp} {R : V → V → Hp → Prop} (I : Inv X pins σ H s) (h : ta σ H fun x H1 => tb σ H1 fun y H2 => R x y H2)
    {α : Type} {Q : α → Shared → Prop} {f : Value → Value → Sem α}
    (hf : ∀ v u s2 x y H2, Inv X pins σ H2 s2 → RelV x v → RelV y u → R x y H2 → wpAny (model X.prog X.w) X.A (f v u) Q X.xe s2) :
    wpAny (model X.prog X.w) X.A (eval a X.env) (fun v s₁ => wpAny (model X.prog X.w) X.A (eval b X.env) (fun u s₂ => wpAny (model X.prog X.w) X.A (f v u) Q X.xe s₂) X.xe s₁) X.xe s := by
  refine thn (ha pins s σ H _ I h) fun v s1 ⟨x, H1, I1, r1, q1⟩ => ?_
  refine thn (hb pins s1 σ H1 _ I1 q1) fun u s2 ⟨y, H2, I2, r2, q2⟩ => ?_
  exact hf v u s2 x y H2 I2 r1 r2 q2

/-! ### names and constants -/
def tVar (i : Nat) : TE := fun σ H Q => ∃ v, σ[i]? = some (some v) ∧ Q v H
def tC (v : V) : TE := fun _ H Q => Q v H
theorem pe_var {i : Nat} {x : Str} {pos : Pos} (hN : X.N[i]? = some x) (hv : Vis X.env.scope x) (hd : (x == ("__debug__" : Str)) = false := by decide) (hcd : (x == ("__classdict__" : Str)) = false := by decide) : PE X (.Name x pos) (tVar i) := by
  intro pins s σ H Q I h
  obtain ⟨v, e, h⟩ := h
  obtain ⟨m, hn, hl⟩ := I.loc
  obtain ⟨u, r, l⟩ := hl i x v hN e hv
  have fin : EP X pins σ Q u s := ⟨v, H, I, r, h⟩
  rcases l with ⟨hk, hm⟩ | ⟨hk, c, hc, hcell⟩
  · exact wpAny_Name (wpAny_loadName_local I.ok.kind hk hn hm fin) hd
  · rcases hk with hk | hk
    · exact wpAny_Name (wpAny_loadName_cell I.ok.kind hk hc hcell fin) hd
    · exact wpAny_Name (wpAny_loadName_free I.ok.kind hk hc hcell fin hcd) hd
theorem pe_int {i j pos} : PE X (.Constant (.int i) j pos) (tC (.int i)) := fun _ _ _ H _ I h => wpAny_Constant_int ⟨.int i, H, I.tok _, ⟨_, rfl⟩, h⟩
theorem pe_bl {b j pos} : PE X (.Constant (.bool b) j pos) (tC (.bl b)) := fun _ _ _ H _ I h => Constant_bool ⟨.bl b, H, I, rfl, h⟩
theorem pe_non {j pos} : PE X (.Constant .none j pos) (tC .non) := fun _ _ _ H _ I h => Constant_none ⟨.non, H, I, rfl, h⟩
theorem pe_str {x j pos} : PE X (.Constant (.str x) j pos) (tC (.str x)) := fun _ _ _ H _ I h => Calls.Constant_str ⟨.str x, H, I.tok _, ⟨_, rfl⟩, h⟩

/-- a global name of the def -/
def Gl (X : Cx) (x : Str) : Prop := X.env.kindOf x = some .globalImplicit
theorem ld_glob {E : Value → Shared → Prop} {pins : List (Addr × Obj)} {s : Shared} {σ : St} {H : Hp} {x : Str} {u : Value} {pos : Pos} {Q : Value → Shared → Prop} (I : Inv X pins σ H s) (hg : Gl X x) (hm : X.mg x = some u) (h : Q u s)
    (hd : (x == ("__debug__" : Str)) = false := by decide) : wpAny (model X.prog X.w) X.A (eval (.Name x pos) X.env) Q E s :=
  Calls.Name_function_global I.ok.kind hg (Calls.loadGlobal_global (by rw [I.ok.glob]; exact I.mod.glob.keeps I.bk) hm h) hd
theorem ld_blt {E : Value → Shared → Prop} {pins : List (Addr × Obj)} {s : Shared} {σ : St} {H : Hp} {x : Str} {u : Value} {pos : Pos} {Q : Value → Shared → Prop} (I : Inv X pins σ H s) (hg : Gl X x) (hm : X.mg x = none) (hv : bootBuiltins x = some u) (h : Q u s)
    (hn : x ≠ "__name__" := by decide) (hd : (x == ("__debug__" : Str)) = false := by decide) : wpAny (model X.prog X.w) X.A (eval (.Name x pos) X.env) Q E s := by
  obtain ⟨mb, h1, h2⟩ := I.mod.blt
  exact Calls.Name_function_global I.ok.kind hg (Calls.loadGlobal_builtin (by rw [I.ok.glob]; exact I.mod.glob.keeps I.bk) hm (by rw [I.ok.blt]; exact h1.keeps I.bk) ((h2 x hn).trans hv) h) hd
/-- a module's constant, a class, a function, as a value -/
theorem pe_glob {x : Str} {v : V} {u : Value} {pos : Pos} (hg : Gl X x) (hm : X.mg x = some u) (r : RelV v u) (hd : (x == ("__debug__" : Str)) = false := by decide) : PE X (.Name x pos) (tC v) :=
  fun _ _ _ H _ I h => ld_glob I hg hm ⟨v, H, I, r, h⟩ hd
theorem pe_bltn {x : Str} {v : V} {u : Value} {pos : Pos} (hg : Gl X x) (hm : X.mg x = none) (hv : bootBuiltins x = some u) (r : RelV v u) (hn : x ≠ "__name__" := by decide) (hd : (x == ("__debug__" : Str)) = false := by decide) : PE X (.Name x pos) (tC v) :=
  fun _ _ _ H _ I h => ld_blt I hg hm hv ⟨v, H, I, r, h⟩ hn hd

/-! ### arithmetic -/
/-- two ints -/
def t2I (ta tb : TE) (k : Int → Int → Hp → Prop) : St → Hp → Prop := fun σ H => ta σ H fun x H1 => tb σ H1 fun y H2 => ∃ i j, x = .int i ∧ y = .int j ∧ k i j H2
def tAdd (ta tb : TE) : TE := fun σ H Q => t2I ta tb (fun i j H2 => Q (.int (i + j)) H2) σ H
def tSub (ta tb : TE) : TE := fun σ H Q => t2I ta tb (fun i j H2 => Q (.int (i - j)) H2) σ H
/-- the left factor below 2^64 -/
def tMul (ta tb : TE) : TE := fun σ H Q => t2I ta tb (fun i j H2 => (-(2 ^ 64) < i ∧ i < 2 ^ 64) ∧ Q (.int (i * j)) H2) σ H
variable {a b : Expr} {ta tb : TE} {pos : Pos}
theorem pe_add (ha : PE X a ta) (hb : PE X b tb) : PE X (.BinOp a .Add b pos) (tAdd ta tb) := by
  intro pins s σ H Q I h
  refine wpAny_BinOp (bin ha hb I h fun v u s2 x y H2 I2 rx ry q => ?_)
  obtain ⟨i, j, rfl, rfl, q⟩ := q
  obtain ⟨t, rfl⟩ := rx
  obtain ⟨t', rfl⟩ := ry
  exact add_int ⟨.int _, H2, I2.tok _, ⟨_, rfl⟩, q⟩
theorem pe_sub (ha : PE X a ta) (hb : PE X b tb) : PE X (.BinOp a .Sub b pos) (tSub ta tb) := by
  intro pins s σ H Q I h
  refine wpAny_BinOp (bin ha hb I h fun v u s2 x y H2 I2 rx ry q => ?_)
  obtain ⟨i, j, rfl, rfl, q⟩ := q
  obtain ⟨t, rfl⟩ := rx
  obtain ⟨t', rfl⟩ := ry
  exact sub_int ⟨.int _, H2, I2.tok _, ⟨_, rfl⟩, q⟩
theorem pe_mul (ha : PE X a ta) (hb : PE X b tb) : PE X (.BinOp a .Mult b pos) (tMul ta tb) := by
  intro pins s σ H Q I h
  refine wpAny_BinOp (bin ha hb I h fun v u s2 x y H2 I2 rx ry q => ?_)
  obtain ⟨i, j, rfl, rfl, ⟨q1, q2⟩, q⟩ := q
  obtain ⟨t, rfl⟩ := rx
  obtain ⟨t', rfl⟩ := ry
  exact mul_int ⟨.int _, H2, I2.tok _, ⟨_, rfl⟩, q⟩ (.of_left (intBits_le_64 q1 q2))

/-! ### comparisons -/
def PC (X : Cx) (op : CmpOp) (a b : Expr) (t : TE) : Prop :=
  ∀ (pins : List (Addr × Obj)) (s : Shared) (σ : St) (H : Hp) (Q : VK), Inv X pins σ H s → t σ H Q →
    wpAny (model X.prog X.w) X.A (eval a X.env) (fun v s₁ => wpAny (model X.prog X.w) X.A (eval b X.env) (fun u s₂ => wpAny (model X.prog X.w) X.A (compareOp op v u) (EP X pins σ Q) X.xe s₂) X.xe s₁) X.xe s
theorem nobehind (b : Expr) {op : CmpOp} (h : op ≠ .In) (h2 : op ≠ .NotIn) : behindInMarks op b = false := by
  have e1 : (op == CmpOp.In) = false := by cases op <;> first | rfl | exact absurd rfl h
  have e2 : (op == CmpOp.NotIn) = false := by cases op <;> first | rfl | exact absurd rfl h2
  cases b <;> simp [behindInMarks, e1, e2]
def tCmp (p : Int → Int → Bool) (ta tb : TE) : TE := fun σ H Q => t2I ta tb (fun i j H2 => Q (.bl (p i j)) H2) σ H
abbrev tLt : TE → TE → TE := tCmp fun i j => decide (i < j)
abbrev tLe : TE → TE → TE := tCmp fun i j => decide (i ≤ j)
abbrev tGt : TE → TE → TE := tCmp fun i j => decide (j < i)
abbrev tGe : TE → TE → TE := tCmp fun i j => decide (j ≤ i)
abbrev tEqI : TE → TE → TE := tCmp fun i j => decide (i = j)
abbrev tNeI : TE → TE → TE := tCmp fun i j => !decide (i = j)
/-- a comparison of two ints, by its rule -/
theorem pc_int {op : CmpOp} {p : Int → Int → Bool} (ha : PE X a ta) (hb : PE X b tb)
    (rule : ∀ (i j : Int) (t u : Tok) (Q : Value → Shared → Prop) (s : Shared), Q (.bool (p i j)) s → wpAny (model X.prog X.w) X.A (compareOp op (.int i t) (.int j u)) Q X.xe s) : PC X op a b (tCmp p ta tb) := by
  intro pins s σ H Q I h
  refine bin ha hb I h fun v u s2 x y H2 I2 rx ry q => ?_
  obtain ⟨i, j, rfl, rfl, q⟩ := q
  obtain ⟨t, rfl⟩ := rx
  obtain ⟨t', rfl⟩ := ry
  exact rule i j t t' _ s2 ⟨.bl _, H2, I2, rfl, q⟩
theorem pc_lt (ha : PE X a ta) (hb : PE X b tb) : PC X .Lt a b (tLt ta tb) := pc_int ha hb fun _ _ _ _ _ _ h => lt_int h
theorem pc_le (ha : PE X a ta) (hb : PE X b tb) : PC X .LtE a b (tLe ta tb) := pc_int ha hb fun _ _ _ _ _ _ h => le_int h
theorem pc_gt (ha : PE X a ta) (hb : PE X b tb) : PC X .Gt a b (tGt ta tb) := pc_int ha hb fun _ _ _ _ _ _ h => gt_int h
theorem pc_ge (ha : PE X a ta) (hb : PE X b tb) : PC X .GtE a b (tGe ta tb) := pc_int ha hb fun _ _ _ _ _ _ h => ge_int h
theorem pc_eqI (ha : PE X a ta) (hb : PE X b tb) : PC X .Eq a b (tEqI ta tb) := pc_int ha hb fun _ _ _ _ _ _ h => eq_int (by rw [Bool.beq_eq_decide_eq]; exact h)
theorem pc_neI (ha : PE X a ta) (hb : PE X b tb) : PC X .NotEq a b (tNeI ta tb) := pc_int ha hb fun _ _ _ _ _ _ h => ne_int (by rw [bne, Bool.beq_eq_decide_eq]; exact h)
/-- is None -/
def tIsN (ta : TE) : TE := fun σ H Q => ta σ H fun x H1 => Q (.bl (decide (x = .non))) H1
def tNotN (ta : TE) : TE := fun σ H Q => ta σ H fun x H1 => Q (.bl (!decide (x = .non))) H1
theorem RelV.none_iff {x : V} {v : Value} (r : RelV x v) : (v == Value.none) = decide (x = .non) := by
  cases x with
  | non => cases r; rfl
  | bl _ => cases r; rfl
  | int _ => obtain ⟨t, rfl⟩ := r; rfl
  | str _ => obtain ⟨t, rfl⟩ := r; rfl
  | byt _ => obtain ⟨t, rfl⟩ := r; rfl
  | flt _ => obtain ⟨t, rfl⟩ := r; rfl
  | ref _ => cases r; rfl
  | ty _ => cases r; rfl
theorem pc_isN {j pos'} (ha : PE X a ta) : PC X .Is a (.Constant .none j pos') (tIsN ta) := by
  intro pins s σ H Q I h
  refine thn (ha pins s σ H _ I h) fun v s1 ⟨x, H1, I1, r1, q1⟩ => ?_
  exact Constant_none (is_none_gen ⟨.bl _, H1, I1, by rw [r1.none_iff]; rfl, q1⟩)
theorem pc_notN {j pos'} (ha : PE X a ta) : PC X .IsNot a (.Constant .none j pos') (tNotN ta) := by
  intro pins s σ H Q I h
  refine thn (ha pins s σ H _ I h) fun v s1 ⟨x, H1, I1, r1, q1⟩ => ?_
  exact Constant_none (isnot_none_gen ⟨.bl _, H1, I1, by rw [r1.none_iff]; rfl, q1⟩)
/-- a comparison as a value, as a test -/
def tB (t : TE) : TT := fun σ H Q => t σ H fun x H1 => ∃ c, x = .bl c ∧ Q c H1
theorem pe_cmp {op : CmpOp} {t : TE} (h : PC X op a b t) (h1 : behindInMarks op b = false := by first | exact nobehind _ (by decide) (by decide) | rfl) : PE X (.Compare a [op] [b] pos) t := fun pins s σ H Q I hw => wpAny_Compare1 (h pins s σ H Q I hw) h1
theorem pt_cmp {op : CmpOp} {t : TE} (h : PC X op a b t) (h1 : behindInMarks op b = false := by first | exact nobehind _ (by decide) (by decide) | rfl) : PT X (.Compare a [op] [b] pos) (tB t) := by
  intro pins s σ H Q I hw
  refine wpAny_isTrue_Compare1 (thn (h pins s σ H _ I hw) fun v s1 h1 => thn h1 fun u s2 h2 => thn h2 fun c s3 ⟨x, H1, I1, r1, q1⟩ => ?_) h1
  obtain ⟨d, rfl, q⟩ := q1
  cases r1
  exact wpAny_truthy_bool ⟨H1, I1, q⟩
/-- an expression whose value is a bool, as a test -/
theorem pt_val {e : Expr} {t : TE} (h : PE X e t) (he : ∀ whole, isTrue e X.env whole = (do let v ← whole; standAt e.pos; holding [v] (truthy v)) := by intro _; rfl) : PT X e (tB t) := by
  intro pins s σ H Q I hw
  refine isTrue_plain (thn (h pins s σ H _ I hw) fun v s1 ⟨x, H1, I1, r1, q1⟩ => ?_) (he _)
  obtain ⟨d, rfl, q⟩ := q1
  cases r1
  exact wpAny_truthy_bool ⟨H1, I1, q⟩

/-! ### and, or, not -/
variable {tA tB' : TT} {rest : List Expr}
def tAnd (t u : TT) : TT := fun σ H Q => t σ H fun c H1 => if c = true then u σ H1 Q else Q false H1
def tOr (t u : TT) : TT := fun σ H Q => t σ H fun c H1 => if c = true then Q true H1 else u σ H1 Q
def tNot (t : TT) : TT := fun σ H Q => t σ H fun c H1 => Q (!c) H1
theorem pw_and1 (ha : PT X a tA) : PW X (.BoolOp .And [a] pos) tA := by
  intro wh pins s σ H Q I h
  refine isTrue_and (thn (ha pins s σ H Q I h) fun c s1 e => ?_)
  cases c with
  | true => exact isTrue_and_nil e
  | false => exact e
theorem pw_or1 (ha : PT X a tA) : PW X (.BoolOp .Or [a] pos) tA := by
  intro wh pins s σ H Q I h
  refine isTrue_or (thn (ha pins s σ H Q I h) fun c s1 e => ?_)
  cases c with
  | false => exact isTrue_or_nil e
  | true => exact e
theorem pw_and (ha : PT X a tA) (hb : PW X (.BoolOp .And (b :: rest) pos) tB') : PW X (.BoolOp .And (a :: b :: rest) pos) (tAnd tA tB') := by
  intro wh pins s σ H Q I h
  refine isTrue_and (thn (ha pins s σ H _ I h) fun c s1 ⟨H1, I1, q1⟩ => ?_)
  cases c with
  | true => exact hb wh pins s1 σ H1 Q I1 q1
  | false => exact ⟨H1, I1, q1⟩
theorem pw_or (ha : PT X a tA) (hb : PW X (.BoolOp .Or (b :: rest) pos) tB') : PW X (.BoolOp .Or (a :: b :: rest) pos) (tOr tA tB') := by
  intro wh pins s σ H Q I h
  refine isTrue_or (thn (ha pins s σ H _ I h) fun c s1 ⟨H1, I1, q1⟩ => ?_)
  cases c with
  | true => exact ⟨H1, I1, q1⟩
  | false => exact hb wh pins s1 σ H1 Q I1 q1
theorem pt_not (ha : PT X a tA) : PT X (.UnaryOp .Not a pos) (tNot tA) := by
  intro pins s σ H Q I h
  exact isTrue_not (ha pins s σ H (fun c H1 => Q (!c) H1) I h)
/-- .. as values (bools) -/
def tAndV (ta tb : TE) : TE := fun σ H Q => ta σ H fun x H1 => ∃ c, x = .bl c ∧ if c = true then tb σ H1 Q else Q (.bl false) H1
def tOrV (ta tb : TE) : TE := fun σ H Q => ta σ H fun x H1 => ∃ c, x = .bl c ∧ if c = true then Q (.bl true) H1 else tb σ H1 Q
def tNotV (ta : TE) : TE := fun σ H Q => ta σ H fun x H1 => ∃ c, x = .bl c ∧ Q (.bl (!c)) H1
theorem pe_one {op} {t : TE} (h : PE X a t) : PE X (.BoolOp op [a] pos) t := fun pins s σ H Q I hw => BoolOp_one (h pins s σ H Q I hw)
theorem pe_and (ha : PE X a ta) (hb : PE X (.BoolOp .And (b :: rest) pos) tb) : PE X (.BoolOp .And (a :: b :: rest) pos) (tAndV ta tb) := by
  intro pins s σ H Q I h
  refine BoolOp_and (thn (ha pins s σ H _ I h) fun v s1 ⟨x, H1, I1, r1, q1⟩ => ?_)
  obtain ⟨c, rfl, q1⟩ := q1
  cases r1
  refine wpAny_truthy_bool ?_
  cases c with
  | true => exact hb pins s1 σ H1 Q I1 q1
  | false => exact ⟨.bl false, H1, I1, rfl, q1⟩
theorem pe_or (ha : PE X a ta) (hb : PE X (.BoolOp .Or (b :: rest) pos) tb) : PE X (.BoolOp .Or (a :: b :: rest) pos) (tOrV ta tb) := by
  intro pins s σ H Q I h
  refine BoolOp_or (thn (ha pins s σ H _ I h) fun v s1 ⟨x, H1, I1, r1, q1⟩ => ?_)
  obtain ⟨c, rfl, q1⟩ := q1
  cases r1
  refine wpAny_truthy_bool ?_
  cases c with
  | false => exact hb pins s1 σ H1 Q I1 q1
  | true => exact ⟨.bl true, H1, I1, rfl, q1⟩
theorem pe_not (ha : PE X a ta) : PE X (.UnaryOp .Not a pos) (tNotV ta) := by
  intro pins s σ H Q I h
  refine UnaryOp_ (thn (ha pins s σ H _ I h) fun v s1 ⟨x, H1, I1, r1, q1⟩ => ?_)
  obtain ⟨c, rfl, q1⟩ := q1
  cases r1
  exact not_of (wpAny_truthy_bool ⟨.bl (!c), H1, I1, rfl, q1⟩)
/-- a if t else b -/
def tIf (t : TT) (ta tb : TE) : TE := fun σ H Q => t σ H fun c H1 => if c = true then ta σ H1 Q else tb σ H1 Q
theorem pe_ifExp {c : Expr} (hc : PT X c tA) (ha : PE X a ta) (hb : PE X b tb) : PE X (.IfExp c a b pos) (tIf tA ta tb) := by
  intro pins s σ H Q I h
  refine wpAny_IfExp (thn (hc pins s σ H _ I h) fun d s1 ⟨H1, I1, q1⟩ => ?_)
  cases d with
  | true => exact ha pins s1 σ H1 Q I1 q1
  | false => exact hb pins s1 σ H1 Q I1 q1
end
end L2

namespace L2
open PySem PySem.Spec PyProof.Rows

/-! ### a list, a tuple that is read: tracked, frozen, or an object of the module -/
def SqL (K : PySem.W.Frag) (H : Hp) (a : Addr) (xs : List V) : Prop :=
  Rd H a (.lst xs) ∨
    ∃ (o : Obj) (its : Array Value) (n : Nat), K.lookup a = some o ∧ o.cls = .type "list" ∧ o.dict = none ∧ o.data = .seq its n ∧ its.size ≤ sizeLine ∧ Vals xs its.toList
def SqT (K : PySem.W.Frag) (H : Hp) (a : Addr) (xs : List V) : Prop :=
  Rd H a (.tup xs) ∨
    ∃ (o : Obj) (its : Array Value) (n : Nat), K.lookup a = some o ∧ o.cls = .type "tuple" ∧ o.data = .seq its n ∧ its.size ≤ sizeLine ∧ Vals xs its.toList
def absV : Value → Option V
  | .none => some .non
  | .bool b => some (.bl b)
  | .int i _ => some (.int i)
  | .str x _ => some (.str x)
  | .bytes b _ => some (.byt b)
  | .float b _ => some (.flt b)
  | .ref a => some (.ref a)
  | .type n => some (.ty n)
  | _ => none
theorem RelV.abs {x : V} {u : Value} (r : RelV x u) : absV u = some x := by
  cases x with
  | non => cases r; rfl
  | bl _ => cases r; rfl
  | int _ => obtain ⟨t, rfl⟩ := r; rfl
  | str _ => obtain ⟨t, rfl⟩ := r; rfl
  | byt _ => obtain ⟨t, rfl⟩ := r; rfl
  | flt _ => obtain ⟨t, rfl⟩ := r; rfl
  | ref _ => cases r; rfl
  | ty _ => cases r; rfl
theorem RelV.inj {x y : V} {u : Value} (r : RelV x u) (q : RelV y u) : x = y := Option.some.inj (r.abs.symm.trans q.abs)
theorem Vals.inj : ∀ {xs ys : List V} {us : List Value}, Vals xs us → Vals ys us → xs = ys
  | _, _, _, .nil, .nil => rfl
  | _, _, _, .cons r t, .cons r' t' => by rw [r.inj r', Vals.inj t t']
section
variable {X : Cx} {pins : List (Addr × Obj)} {σ : St} {H : Hp} {s : Shared} {a : Addr} {xs ys : List V}
theorem SqL.of {K : PySem.W.Frag} (h : H a = some (.lst xs)) : SqL K H a xs := .inl (.inl h)
theorem SqT.of {K : PySem.W.Frag} (h : H a = some (.tup xs)) : SqT K H a xs := .inl (.inl h)
theorem Inv.list (I : Inv X pins σ H s) (h : SqL X.K H a xs) : ∃ its : List Value, Vals xs its ∧ PlainL s.heap a its.toArray ∧ xs.length ≤ sizeLine := by
  rcases h with h | ⟨o, its, n, hk, hc, hd, hs, hz, r⟩
  · obtain ⟨z, its, n, r, e⟩ := h.ok I.hok
    exact ⟨its, r, ⟨_, n, e, rfl, rfl, rfl⟩, z⟩
  · refine ⟨its.toList, r, ⟨o, n, I.kIn a o hk, hc, hd, by simpa using hs⟩, ?_⟩
    have e := r.length
    simp only [Array.length_toList] at e
    omega
theorem Inv.tuple (I : Inv X pins σ H s) (h : SqT X.K H a xs) : ∃ its : List Value, Vals xs its ∧ IsTup s.heap a its.toArray ∧ xs.length ≤ sizeLine := by
  rcases h with h | ⟨o, its, n, hk, hc, hs, hz, r⟩
  · obtain ⟨z, its, r, p⟩ := h.ok I.hok
    exact ⟨its, r, p, z⟩
  · refine ⟨its.toList, r, ⟨o, I.kIn a o hk, hc, n, by simpa using hs⟩, ?_⟩
    have e := r.length
    simp only [Array.length_toList] at e
    omega
theorem Inv.list_inj (I : Inv X pins σ H s) (h : SqL X.K H a xs) (h' : SqL X.K H a ys) : xs = ys := by
  obtain ⟨its, r, ⟨o, n, e, _, _, d⟩, _⟩ := I.list h
  obtain ⟨its', r', ⟨o', n', e', _, _, d'⟩, _⟩ := I.list h'
  rw [e] at e'; cases e'
  rw [d] at d'
  injection d' with d1 _
  have : its = its' := by simpa using congrArg Array.toList d1
  subst this
  exact r.inj r'
theorem Inv.tuple_inj (I : Inv X pins σ H s) (h : SqT X.K H a xs) (h' : SqT X.K H a ys) : xs = ys := by
  obtain ⟨its, r, ⟨o, e, _, n, d⟩, _⟩ := I.tuple h
  obtain ⟨its', r', ⟨o', e', _, n', d'⟩, _⟩ := I.tuple h'
  rw [e] at e'; cases e'
  rw [d] at d'
  injection d' with d1 _
  have : its = its' := by simpa using congrArg Array.toList d1
  subst this
  exact r.inj r'
end

/-! ### another wish about exceptions -/
abbrev Cx.wish (X : Cx) (E : Value → Shared → Prop) : Cx := { X with xe := E }
/-- no exception leaves -/
abbrev Cx.nox (X : Cx) : Cx := X.wish fun _ _ => False
theorem Cx.Ok.wish {X : Cx} (ok : X.Ok) (E : Value → Shared → Prop) : (X.wish E).Ok :=
  ⟨ok.mod, ok.kind, ok.glob, ok.blt, ok.above, ok.inj, ok.has, ok.cab, ok.hd, ok.frames, ok.stk, ok.exf, ok.bs, ok.bsz, ok.noex, ok.exfs, ok.funs, ok.frf⟩
theorem Cx.Ok.unwish {X : Cx} {E : Value → Shared → Prop} (ok : (X.wish E).Ok) : X.Ok :=
  ⟨ok.mod, ok.kind, ok.glob, ok.blt, ok.above, ok.inj, ok.has, ok.cab, ok.hd, ok.frames, ok.stk, ok.exf, ok.bs, ok.bsz, ok.noex, ok.exfs, ok.funs, ok.frf⟩
section
variable {X : Cx} {pins : List (Addr × Obj)} {σ : St} {H : Hp} {s : Shared} {E : Value → Shared → Prop}
theorem Inv.wish (I : Inv X pins σ H s) (E : Value → Shared → Prop) : Inv (X.wish E) pins σ H s := ⟨I.ok.wish E, I.os, I.bare, I.base, I.loc, I.cell, I.free, I.freeC, I.pin, I.hok, I.len⟩
theorem Inv.unwish (I : Inv (X.wish E) pins σ H s) : Inv X pins σ H s := ⟨I.ok.unwish, I.os, I.bare, I.base, I.loc, I.cell, I.free, I.freeC, I.pin, I.hok, I.len⟩
theorem SP.unwish {D : Ends} {f : Flow} {s' : Shared} (h : SP (X.wish E) pins D f s') : SP X pins D f s' := by
  cases f with
  | next => obtain ⟨σ', H', I, q⟩ := h; exact ⟨σ', H', I.unwish, q⟩
  | brk => obtain ⟨σ', H', I, q⟩ := h; exact ⟨σ', H', I.unwish, q⟩
  | cont => obtain ⟨σ', H', I, q⟩ := h; exact ⟨σ', H', I.unwish, q⟩
  | ret u => obtain ⟨v, σ', H', I, r, q⟩ := h; exact ⟨v, σ', H', I.unwish, r, q⟩
theorem PE.nox {e : Expr} {t : TE} (h : PE X.nox e t) : PE X e t := fun pins s σ H Q I hw =>
  wpAny_mono (h pins s σ H Q (I.wish _) hw) (fun _ _ ⟨v, H', I', r, q⟩ => ⟨v, H', I'.unwish, r, q⟩) fun _ _ z => False.elim z
theorem PT.nox {e : Expr} {t : TT} (h : PT X.nox e t) : PT X e t := fun pins s σ H Q I hw =>
  wpAny_mono (h pins s σ H Q (I.wish _) hw) (fun _ _ ⟨H', I', q⟩ => ⟨H', I'.unwish, q⟩) fun _ _ z => False.elim z
theorem PSs.nox {st : List Stmt} {t : TS} (h : PSs X.nox st t) : PSs X st t := fun pins s σ H D I hw =>
  wpAny_mono (h pins s σ H D (I.wish _) hw) (fun _ _ q => q.unwish) fun _ _ z => False.elim z
end

/-! ### blocks and small statements -/
section
variable {X : Cx} {st : Stmt} {rest : List Stmt} {t u : TS} {e : Expr} {te : TE} {pos : Pos}
def tNext : TS := fun D σ H => D.nx σ H
def tSeq (t u : TS) : TS := fun D σ H => t { D with nx := u D } σ H
theorem pss_nil : PSs X [] tNext := fun _ _ σ H _ I h => wpAny_execs_nil ⟨σ, H, I, h⟩
theorem pss_cons (h1 : PS X st t) (h2 : PSs X rest u) : PSs X (st :: rest) (tSeq t u) := by
  intro pins s σ H D I h
  refine wpAny_execs_cons (thn (h1 pins s σ H { D with nx := u D } I h) fun f s1 q => ?_)
  cases f with
  | next =>
    obtain ⟨σ', H', I', q⟩ := q
    exact h2 pins s1 σ' H' D I' q
  | ret v => exact q
  | brk => exact q
  | cont => exact q
theorem pss_one (h1 : PS X st t) : PSs X [st] t := by
  intro pins s σ H D I h
  refine wpAny_execs_cons (thn (h1 pins s σ H D I h) fun f s1 q => ?_)
  cases f with
  | next => exact wpAny_execs_nil q
  | ret v => exact q
  | brk => exact q
  | cont => exact q
def tBreak : TS := fun D σ H => D.bk σ H
def tCont : TS := fun D σ H => D.ct σ H
theorem ps_pass : PS X (.Pass pos) tNext := fun _ _ σ H _ I h => wpAny_Pass ⟨σ, H, I, h⟩
theorem ps_break : PS X (.Break pos) tBreak := fun _ _ σ H _ I h => wpAny_Break ⟨σ, H, I, h⟩
theorem ps_continue : PS X (.Continue pos) tCont := fun _ _ σ H _ I h => wpAny_Continue ⟨σ, H, I, h⟩
/-- in a def's body nothing is shown -/
theorem Inv.quiet {pins : List (Addr × Obj)} {σ : St} {H : Hp} {s : Shared} (I : Inv X pins σ H s) : interactive X.env = false := by simp [interactive, I.ok.kind]
/-- a docstring -/
theorem ps_doc {x j pos pos'} : PS X (.Expr (.Constant (.str x) j pos) pos') tNext := fun _ s σ H _ I h => wpAny_Expr (Calls.Constant_str (show SP X _ _ .next { s with toks := s.toks + 1 } from ⟨σ, H, I.tok _, h⟩)) I.quiet
/-- an expression whose value is dropped -/
def tDrop (te : TE) : TS := fun D σ H => te σ H fun _ H1 => D.nx σ H1
theorem ps_expr (he : PE X e te) (hs : swapsWith e none pos.line X.env = pure false := by rfl) : PS X (.Expr e pos) (tDrop te) := by
  intro pins s σ H D I h
  exact wpAny_Expr_any (thn (he pins s σ H _ I h) fun v s1 ⟨x, H1, I1, r1, q1⟩ => ⟨σ, H1, I1, q1⟩) I.quiet hs
def tRet (te : TE) : TS := fun D σ H => te σ H D.rt
theorem ps_ret (he : PE X e te) : PS X (.Return (some e) pos) (tRet te) := by
  intro pins s σ H D I h
  exact wpAny_Return_some (thn (he pins s σ H _ I h) fun v s1 ⟨x, H1, I1, r1, q1⟩ => ⟨x, σ, H1, I1, r1, q1⟩)
def tRetN : TS := fun D _ H => D.rt .non H
theorem ps_retN : PS X (.Return none pos) tRetN := fun _ _ σ H _ I h => wpAny_Return_none ⟨.non, σ, H, I, rfl, h⟩
def tIfS (c : TT) (t u : TS) : TS := fun D σ H => c σ H fun b H1 => if b = true then t D σ H1 else u D σ H1
theorem ps_if {c : Expr} {a b : List Stmt} {tc : TT} (hc : PT X c tc) (ha : PSs X a t) (hb : PSs X b u) : PS X (.If c a b pos) (tIfS tc t u) := by
  intro pins s σ H D I h
  refine wpAny_If (thn (hc pins s σ H _ I h) fun d s1 ⟨H1, I1, q1⟩ => ?_)
  cases d with
  | true => exact ha pins s1 σ H1 D I1 q1
  | false => exact hb pins s1 σ H1 D I1 q1
/-- code that the proof never comes to -/
def tNever : TS := fun _ _ _ => False
theorem ps_never : PS X st tNever := fun _ _ _ _ _ _ h => h.elim
theorem pss_never {sts : List Stmt} : PSs X sts tNever := fun _ _ _ _ _ _ h => h.elim
end

/-! ### targets -/
abbrev TG := V → St → Hp → (St → Hp → Prop) → Prop
abbrev TGs := List V → St → Hp → (St → Hp → Prop) → Prop
def PG (X : Cx) (target : Expr) (t : TG) : Prop :=
  ∀ (pins : List (Addr × Obj)) (s : Shared) (σ : St) (H : Hp) (v : V) (u : Value) (Q : St → Hp → Prop), Inv X pins σ H s → RelV v u → t v σ H Q →
    wpAny (model X.prog X.w) X.A (assign target X.env u) (fun _ s' => ∃ σ' H', Inv X pins σ' H' s' ∧ Q σ' H') X.xe s
/-- several targets, one after another -/
def PGs (X : Cx) (ts : List Expr) (t : TGs) : Prop :=
  ∀ (pins : List (Addr × Obj)) (s : Shared) (σ : St) (H : Hp) (vs : List V) (us : List Value) (Q : St → Hp → Prop), Inv X pins σ H s → Vals vs us → t vs σ H Q →
    wpAny (model X.prog X.w) X.A (assignInOrder ((assignEach ts X.env).map (·.2)) us) (fun _ s' => ∃ σ' H', Inv X pins σ' H' s' ∧ Q σ' H') X.xe s
/-- o[i] = v, by values -/
abbrev TSet := V → V → V → Hp → (Hp → Prop) → Prop
def PSet (X : Cx) (t : TSet) : Prop :=
  ∀ (pins : List (Addr × Obj)) (s : Shared) (σ : St) (H : Hp) (o i v : V) (ov iv u : Value) (Q : Hp → Prop), Inv X pins σ H s → RelV o ov → RelV i iv → RelV v u → t o i v H Q →
    wpAny (model X.prog X.w) X.A (setItem ov iv u) (fun _ s' => ∃ H', Inv X pins σ H' s' ∧ Q H') X.xe s
/-- a op= b, by values -/
abbrev TIp := V → V → Hp → VK → Prop
def PIp (X : Cx) (op : Operator) (t : TIp) : Prop :=
  ∀ (pins : List (Addr × Obj)) (s : Shared) (σ : St) (H : Hp) (x y : V) (v u : Value) (Q : VK), Inv X pins σ H s → RelV x v → RelV y u → t x y H Q →
    wpAny (model X.prog X.w) X.A (inplaceOp op v u) (EP X pins σ Q) X.xe s
section
variable {X : Cx} {pos : Pos}
def gName (i : Nat) : TG := fun v σ H Q => Q (σ.set i (some v)) H
theorem pg_name {i : Nat} {x : Str} (hN : X.N.Nodup) (hi : X.N[i]? = some x) (hx : Loc X.env.scope x) (hf : X.fn x = true ∨ X.env.scope.names.lookup x = some .local := by first | exact .inl rfl | exact .inr rfl | assumption) : PG X (.Name x pos) (gName i) := by
  intro pins s σ H v u Q I r h
  exact wpAny_assign_Name (store_ok I hN hi hx r (fun s' I' => ⟨_, H, I', h⟩) hf)
def gNil : TGs := fun vs σ H Q => vs = [] ∧ Q σ H
def gCons (t : TG) (u : TGs) : TGs := fun vs σ H Q => ∃ v r, vs = v :: r ∧ t v σ H fun σ' H' => u r σ' H' Q
theorem pgs_nil : PGs X [] gNil := by
  intro pins s σ H vs us Q I r h
  obtain ⟨e, h⟩ := h
  subst e
  cases r
  exact assignInOrder_nil ⟨σ, H, I, h⟩
theorem pgs_cons {e : Expr} {es : List Expr} {t : TG} {u : TGs} (h1 : PG X e t) (h2 : PGs X es u)
    (hs : (assignEach (e :: es) X.env).map (·.2) = assign e X.env :: (assignEach es X.env).map (·.2) := by rfl) : PGs X (e :: es) (gCons t u) := by
  intro pins s σ H vs us Q I r h
  obtain ⟨v, vr, e1, h⟩ := h
  subst e1
  cases r with
  | cons r rr =>
    rw [hs]
    refine assignInOrder_cons (thn (h1 pins s σ H _ _ _ I r h) fun _ s1 ⟨σ1, H1, I1, q1⟩ => ?_)
    exact h2 pins s1 σ1 H1 _ _ Q I1 rr q1
/-- (a, b, ..) = a tuple of that length -/
def gTup (K : PySem.W.Frag) (n : Nat) (t : TGs) : TG := fun v σ H Q => ∃ a xs, v = .ref a ∧ SqT K H a xs ∧ xs.length = n ∧ t xs σ H Q
theorem pg_tup {es : List Expr} {k : Nat} {t : TGs} {n : Nat} (hc : X.calm = true) (h : PGs X es t)
    (hn : (assignEach es X.env).length = n := by rfl) (hst : (assignEach es X.env).findIdx? (·.1) = none := by rfl) : PG X (.Tuple es k pos) (gTup X.K n t) := by
  intro pins s σ H v u Q I r hw
  obtain ⟨a, xs, e1, hq, hl, hw⟩ := hw
  subst e1
  cases r
  obtain ⟨its, rv, ht, hz⟩ := I.tuple hq
  refine assign_Tuple_tuple (I.ok.hd hc) ht (by simp [hn, ← hl, rv.length]) hst fun h' hx => ?_
  have I1 : Inv X pins σ H { s with heap := h' } := I.kept (t' := s.toks) fun b o e => hx b o (Nat.ne_of_lt (Heap.lt_size e)) e
  exact h pins _ σ H xs _ Q I1 (by simpa using rv) hw
/-- o[i] = .. -/
def gSub (to ti : TE) (t : TSet) : TG := fun v σ H Q => to σ H fun o H1 => ti σ H1 fun i H2 => t o i v H2 fun H3 => Q σ H3
theorem pg_sub {o i : Expr} {to ti : TE} {t : TSet} (ho : PE X o to) (hi : PE X i ti) (hs : PSet X t)
    (ha : ∀ v, assign (.Subscript o i pos) X.env v = (do
      let ov ← holding [v] (eval o X.env)
      let iv ← holding [v, ov] (eval i X.env)
      standAt pos
      holding [v, ov, iv] (setItem ov iv v)
      release [v, ov, iv] []) := by intro _; rfl) : PG X (.Subscript o i pos) (gSub to ti t) := by
  intro pins s σ H v u Q I r h
  rw [ha]
  refine wpAny_bind (wpAny_holding (thn (ho pins s σ H _ I h) fun ov s1 ⟨x, H1, I1, r1, q1⟩ => ?_))
  refine wpAny_bind (wpAny_holding (thn (hi pins s1 σ H1 _ I1 q1) fun iv s2 ⟨y, H2, I2, r2, q2⟩ => ?_))
  refine wpAny_bind (wpAny_standAt (wpAny_bind (wpAny_holding (thn (hs pins s2 σ H2 x y v ov iv u _ I2 r1 r2 r q2) fun _ s3 ⟨H3, I3, q3⟩ => ?_))))
  exact wpAny_release ⟨σ, H3, I3, q3⟩
/-- target = value -/
def tAsg (te : TE) (g : TG) : TS := fun D σ H => te σ H fun x H1 => g x σ H1 D.nx
theorem ps_asg {tg e : Expr} {te : TE} {g : TG} (he : PE X e te) (hg : PG X tg g) (hs : swapsWithSole [tg] e pos.line X.env = pure false := by rfl) (hw : swappedStores [tg] e X.env = pure none := by rfl)
    (h1 : (assignEach [tg] X.env).map (·.2) = [assign tg X.env] := by rfl) : PS X (.Assign [tg] e pos) (tAsg te g) := by
  intro pins s σ H D I h
  refine wpAny_Assign_stores (thn (he pins s σ H _ I h) fun v s1 ⟨x, H1, I1, r1, q1⟩ => ?_) hs hw
  rw [h1]
  exact thn (hg pins s1 σ H1 x v _ I1 r1 q1) fun _ s2 q => q
/-- name = value -/
theorem ps_set {i : Nat} {x : Str} {e : Expr} {te : TE} {pos' : Pos} (hN : X.N.Nodup) (hi : X.N[i]? = some x) (hx : Loc X.env.scope x) (he : PE X e te) (hs : swapsWith e (some (.Name x pos')) pos.line X.env = pure false := by rfl) (hf : X.fn x = true ∨ X.env.scope.names.lookup x = some .local := by first | exact .inl rfl | exact .inr rfl | assumption) :
    PS X (.Assign [.Name x pos'] e pos) (tAsg te (gName i)) := by
  intro pins s σ H D I h
  refine wpAny_Assign_Name (thn (he pins s σ H _ I h) fun v s1 ⟨y, H1, I1, r1, q1⟩ => ?_) hs
  exact store_ok I1 hN hi hx r1 (fun s2 I2 => ⟨_, H1, I2, q1⟩) hf
/-- a, b = x, y with plain local names: stored from the right; the pair itself is not tracked (the opening rows as in PyProof/Rows/TupAssign.lean:23) -/
def tPar (i j : Nat) (ta : TA) : TS := fun D σ H => ta σ H fun vs H1 => ∃ v w, vs = [v, w] ∧ D.nx ((σ.set i (some v)).set j (some w)) H1
theorem ps_par {i j : Nat} {x y : Str} {a b : Expr} {ta : TA} {px py pt : Pos} {kt k2 pt2} (hc : X.calm = true) (hN : X.N.Nodup) (hi : X.N[i]? = some x) (hj : X.N[j]? = some y) (hij : i ≠ j)
    (hx : X.env.scope.names.lookup x = some .local) (hy : X.env.scope.names.lookup y = some .local) (ha : PA X [a, b] ta)
    (hw : swappedStores [.Tuple [.Name x px, .Name y py] kt pt] (.Tuple [a, b] k2 pt2) X.env = pure (some [x, y]))
    (hs : swapsWithSole [.Tuple [.Name x px, .Name y py] kt pt] (.Tuple [a, b] k2 pt2) pos.line X.env = pure false := by rfl) :
    PS X (.Assign [.Tuple [.Name x px, .Name y py] kt pt] (.Tuple [a, b] k2 pt2) pos) (tPar i j ta) := by
  intro pins s σ H D I h
  rw [exec_Assign_arm]
  refine wpAny_bind (wpAny_standAt ?_)
  rw [hs]
  refine wpAny_bind (wpAny_pure ?_)
  rw [if_neg (by decide)]
  refine wpAny_bind (Tuple_ (thn (ha _ pins s σ H _ I h) fun us s1 ⟨vs, H1, I1, r1, q1⟩ => ?_))
  obtain ⟨v, w, e1, q1⟩ := q1
  subst e1
  obtain ⟨u1, u2, rfl, rv, rw'⟩ : ∃ u1 u2, us = [u1, u2] ∧ RelV v u1 ∧ RelV w u2 := by
    cases r1 with
    | cons p q =>
      cases q with
      | cons p' q' =>
        cases q'
        exact ⟨_, _, rfl, p, p'⟩
  refine wpAny_newObj_type ?_ (by show 2 ≤ sizeLine; decide)
  have I2 : Inv X pins σ H1 { s1 with heap := s1.heap.push { cls := .type "tuple", data := .seq [u1, u2].toArray } } := I1.kept (t' := s1.toks) fun b o e => Heap.get?_push_of_some _ e
  rw [hw]
  refine wpAny_bind (wpAny_pure ?_)
  show wpAny (model X.prog X.w) X.A (do rule "assign.swapped-stores"; let items ← unpackItems (.ref s1.heap.objs.size) 2 none; assignInOrder [fun v => bindName X.env y v, fun v => bindName X.env x v] items.reverse; pure Flow.next) _ _ _
  refine wpAny_bind (wpAny_rule (wpAny_bind (unpackItems_tuple (items := #[u1, u2]) (I.ok.hd hc) (IsTup.new s1.heap _) fun h' hx' => ?_)))
  have I3 := I2.kept (h' := h') (t' := s1.toks) fun b o e => hx' b o (Nat.ne_of_lt (Heap.lt_size e)) e
  show wpAny _ _ (assignInOrder [fun v => bindName X.env y v, fun v => bindName X.env x v] [u2, u1] >>= fun _ => pure Flow.next) _ _ _
  refine wpAny_bind (assignInOrder_cons (wpAny_bindName (store_ok I3 hN hj (.inl hy) rw' (fun s2 I4 => ?_) (.inr hy))))
  refine assignInOrder_cons (wpAny_bindName (store_ok I4 hN hi (.inl hx) rv (fun s3 I5 => assignInOrder_nil (wpAny_pure ?_)) (.inr hx)))
  rw [List.set_comm _ _ (Ne.symm hij)] at I5
  exact ⟨_, H1, I5, q1⟩
/-- name op= e -/
def tAug (i : Nat) (te : TE) (ti : TIp) : TS := fun D σ H => ∃ x, σ[i]? = some (some x) ∧ te σ H fun y H1 => ti x y H1 fun z H2 => D.nx (σ.set i (some z)) H2
theorem ps_aug {i : Nat} {x : Str} {e : Expr} {te : TE} {op : Operator} {ti : TIp} {pos' : Pos} (hN : X.N.Nodup) (hi : X.N[i]? = some x) (hx : Loc X.env.scope x) (he : PE X e te) (ho : PIp X op ti) (hf : X.fn x = true ∨ X.env.scope.names.lookup x = some .local := by first | exact .inl rfl | exact .inr rfl | assumption) :
    PS X (.AugAssign (.Name x pos') op e pos) (tAug i te ti) := by
  intro pins s σ H D I h
  obtain ⟨v, e1, h⟩ := h
  obtain ⟨m, hn, hl⟩ := I.loc
  have vis : Vis X.env.scope x := by rcases hx with k | k; exact .inl k; exact .inr (.inl k)
  obtain ⟨u, r, l⟩ := hl i x v hi e1 vis
  refine wpAny_AugAssign_Name ?_
  have go : wpAny (model X.prog X.w) X.A (eval e X.env) (fun w s₂ => wpAny (model X.prog X.w) X.A (inplaceOp op u w) (fun r s₃ => wpAny (model X.prog X.w) X.A (storeName X.env x r) (fun _ => SP X pins D .next) X.xe s₃) X.xe s₂) X.xe s := by
    refine thn (he pins s σ H _ I h) fun w s1 ⟨y, H1, I1, r1, q1⟩ => ?_
    refine thn (ho pins s1 σ H1 v y u w _ I1 r r1 q1) fun z s2 ⟨zv, H2, I2, r2, q2⟩ => ?_
    exact store_ok I2 hN hi hx r2 (fun s3 I3 => ⟨_, H2, I3, q2⟩) hf
  rcases l with ⟨hk, hm⟩ | ⟨hk, c, hc, hcell⟩
  · exact wpAny_loadName_local I.ok.kind hk hn hm go
  · rcases hk with hk | hk
    · exact wpAny_loadName_cell I.ok.kind hk hc hcell go
    · rcases hx with k | k
      · have : X.env.scope.names.lookup x = some .free := hk
        rw [k] at this; cases this
      · have : X.env.scope.names.lookup x = some .free := hk
        rw [k] at this; cases this
/-- o[i] op= e -/
def tAugS (to ti te : TE) (tget : V → V → Hp → VK → Prop) (tip : TIp) (tset : TSet) : TS := fun D σ H => to σ H fun o H1 => ti σ H1 fun i H2 => tget o i H2 fun x H3 => te σ H3 fun y H4 => tip x y H4 fun z H5 => tset o i z H5 fun H6 => D.nx σ H6
/-- o[i], by values -/
def PGet (X : Cx) (t : V → V → Hp → VK → Prop) : Prop :=
  ∀ (pins : List (Addr × Obj)) (s : Shared) (σ : St) (H : Hp) (o i : V) (ov iv : Value) (Q : VK), Inv X pins σ H s → RelV o ov → RelV i iv → t o i H Q →
    wpAny (model X.prog X.w) X.A (getItem ov iv) (EP X pins σ Q) X.xe s
theorem ps_augS {o i e : Expr} {to ti te : TE} {tget : V → V → Hp → VK → Prop} {tip : TIp} {tset : TSet} {op : Operator} {tpos : Pos} (ho : PE X o to) (hi : PE X i ti) (hg : PGet X tget) (he : PE X e te) (hp : PIp X op tip) (hs : PSet X tset)
    (ha : ∀ ov iv new, augStore i ov iv new = (do holding [new, ov, iv] (setItem ov iv new); release [new, ov, iv] []; pure .next) := by intros; rfl) : PS X (.AugAssign (.Subscript o i tpos) op e pos) (tAugS to ti te tget tip tset) := by
  intro pins s σ H D I h
  refine wpAny_AugAssign_SubscriptAny (thn (ho pins s σ H _ I h) fun ov s1 ⟨x1, H1, I1, r1, q1⟩ => ?_) ha
  refine thn (hi pins s1 σ H1 _ I1 q1) fun iv s2 ⟨x2, H2, I2, r2, q2⟩ => ?_
  refine thn (hg pins s2 σ H2 x1 x2 ov iv _ I2 r1 r2 q2) fun old s3 ⟨x3, H3, I3, r3, q3⟩ => ?_
  refine thn (he pins s3 σ H3 _ I3 q3) fun v s4 ⟨x4, H4, I4, r4, q4⟩ => ?_
  refine thn (hp pins s4 σ H4 x3 x4 old v _ I4 r3 r4 q4) fun new s5 ⟨x5, H5, I5, r5, q5⟩ => ?_
  exact thn (hs pins s5 σ H5 x1 x2 x5 ov iv new _ I5 r1 r2 r5 q5) fun _ s6 ⟨H6, I6, q6⟩ => ⟨σ, H6, I6, q6⟩
/-- ints -/
def ipI (f : Int → Int → Int) : TIp := fun x y H Q => ∃ i j, x = .int i ∧ y = .int j ∧ Q (.int (f i j)) H
theorem ip_add : PIp X .Add (ipI fun i j => i + j) := by
  intro pins s σ H x y v u Q I r1 r2 h
  obtain ⟨i, j, e1, e2, q⟩ := h
  subst e1; subst e2
  obtain ⟨t, rfl⟩ := r1
  obtain ⟨t', rfl⟩ := r2
  exact iadd_int ⟨.int _, H, I.tok _, ⟨_, rfl⟩, q⟩
theorem ip_sub : PIp X .Sub (ipI fun i j => i - j) := by
  intro pins s σ H x y v u Q I r1 r2 h
  obtain ⟨i, j, e1, e2, q⟩ := h
  subst e1; subst e2
  obtain ⟨t, rfl⟩ := r1
  obtain ⟨t', rfl⟩ := r2
  exact isub_int ⟨.int _, H, I.tok _, ⟨_, rfl⟩, q⟩
end

/-! ### while -/
section
variable {X : Cx} {pos : Pos}
/-- the invariant W with its measure -/
def tWhile (c : TT) (tb : TS) : TS := fun D σ H => ∃ W : Nat → St → Hp → Prop, (∃ m, W m σ H) ∧ ∀ m σ H, W m σ H →
  c σ H fun b H1 => if b = true then ∃ N : St → Hp → Prop, (∀ σ' H', N σ' H' → ∃ m', m' < m ∧ W m' σ' H') ∧ tb { D with nx := N, ct := N, bk := D.nx } σ H1 else D.nx σ H1
theorem ps_while {c : Expr} {body : List Stmt} {tc : TT} {tb : TS} (hp : PassesOwn (model X.prog X.w) X.A X.env X.xe) (hc : PT X c tc) (hb : PSs X body tb) : PS X (.While c body [] pos) (tWhile tc tb) := by
  intro pins s σ H D I h
  obtain ⟨W, ⟨m0, w0⟩, turn⟩ := h
  refine wpAny_While (codeAny_whileLoop (fun n s' => ∃ σ' H', Inv X pins σ' H' s' ∧ W n σ' H') ?_ m0 ⟨σ, H, I, w0⟩)
  rintro n s1 ⟨σ1, H1, I1, w1⟩
  refine wpAny_passesOwn hp (thn (hc pins s1 σ1 H1 _ I1 (turn n σ1 H1 w1)) fun b s2 ⟨H2, I2, q2⟩ => ?_)
  cases b with
  | true =>
    obtain ⟨N, hN, q2⟩ := q2
    rw [if_pos rfl]
    refine wpAny_passesOwn hp (thn (hb pins s2 σ1 H2 _ I2 q2) fun f s3 q3 => ?_)
    cases f with
    | next =>
      obtain ⟨σ3, H3, I3, n3⟩ := q3
      obtain ⟨m', hm, w3⟩ := hN σ3 H3 n3
      exact ⟨m', hm, σ3, H3, I3, w3⟩
    | cont =>
      obtain ⟨σ3, H3, I3, n3⟩ := q3
      obtain ⟨m', hm, w3⟩ := hN σ3 H3 n3
      exact ⟨m', hm, σ3, H3, I3, w3⟩
    | brk => exact q3
    | ret v => exact q3
  | false =>
    rw [if_neg Bool.false_ne_true]
    exact wpAny_execs_nil ⟨σ1, H2, I2, q2⟩
end

/-! ### what a loop or a comprehension walks -/
/-- at turn i: it yields x (the heap may grow), or it stops -/
structure It where
  go : Nat → Hp → Prop
  yld : Nat → Hp → V → Hp → Prop
  stop : Nat → Hp → Prop
/-- the iterator's own objects may turn: they are not the frame's, not pinned, younger than the entry (or a comprehension's own) -/
def FpOk (X : Cx) (pins : List (Addr × Obj)) (H : Hp) (b : Addr) : Prop :=
  H b = none ∧ b ≠ X.env.locals ∧ b ∉ X.fs ∧ (b ∈ X.ex ∨ X.s₀.heap.objs.size ≤ b) ∧ (∀ x c, X.env.cells.lookup x = some c → c ≠ b) ∧ ∀ p ∈ X.pn ++ pins, p.1 ≠ b
theorem Inv.fpOk {X : Cx} {pins : List (Addr × Obj)} {σ : St} {H H' : Hp} {s : Shared} {b : Addr} (I : Inv X pins σ H s) (hb : s.heap.objs.size ≤ b) (hn : H' b = none) : FpOk X pins H' b := by
  refine ⟨hn, Nat.ne_of_gt (Nat.lt_of_lt_of_le I.lt hb), I.nofs hb, .inr (Nat.le_trans I.sz hb), fun x c e z => ?_, fun p hp z => ?_⟩
  · obtain ⟨v, q⟩ := I.cell x c e
    exact absurd (Nat.lt_of_lt_of_le q.lt (by rw [z]; exact hb)) (Nat.lt_irrefl _)
  · exact absurd (Nat.lt_of_lt_of_le (Heap.lt_size (I.pin p hp).1) (by rw [z]; exact hb)) (Nat.lt_irrefl _)
structure Turn (P : Program) (w : World) (K : PySem.W.Frag) (tg : Expr) (J : It) (fp : List Addr) (it : Addr) (tn : Nat → Heap → Prop) : Prop where
  mem : it ∈ fp
  obj : ∀ i h, tn i h → ∀ b ∈ fp, ∃ o, h.get? b = some o ∧ ∀ v, o.data ≠ .cell v
  keep : ∀ i h h', tn i h → (∀ b ∈ fp, ∀ o, h.get? b = some o → h'.get? b = some o) → tn i h'
  item : ∀ (X : Cx), X.prog = P → X.w = w → X.K = K → X.calm = true → ∀ (i : Nat) (pins : List (Addr × Obj)) (s : Shared) (σ : St) (H : Hp) (E : Value → Shared → Prop), Inv X pins σ H s → (∀ b ∈ fp, FpOk X pins H b) → tn i s.heap → J.go i H →
    wpAny (model P w) X.A (pyNext (.ref it)) (fun r s1 => ∃ u, r = some u ∧
      wpAny (model P w) X.A (letOwnedTupleGo tg (.ref it) u) (fun _ s2 => ∃ x H', Inv X pins σ H' s2 ∧ RelV x u ∧ J.yld i H x H' ∧ tn (i + 1) s2.heap ∧ ∀ b ∈ fp, H' b = none) E s1) E s
  done : ∀ (X : Cx), X.prog = P → X.w = w → X.K = K → X.calm = true → ∀ (i : Nat) (pins : List (Addr × Obj)) (s : Shared) (σ : St) (H : Hp) (E : Value → Shared → Prop), Inv X pins σ H s → (∀ b ∈ fp, FpOk X pins H b) → tn i s.heap → J.stop i H →
    wpAny (model P w) X.A (pyNext (.ref it)) (fun r s1 => r = none ∧ Inv X pins σ H s1) E s
  self : ∀ (A : Around) (i : Nat) (s : Shared) (Q : Value → Shared → Prop) (E : Value → Shared → Prop), tn i s.heap → Q (.ref it) s → wpAny (model P w) A (pyIter (.ref it)) Q E s
abbrev TI := St → Hp → (It → Hp → Prop) → Prop
/-- an iterator has come -/
def PIE (X : Cx) (pins : List (Addr × Obj)) (σ : St) (tg : Expr) (R : It → Hp → Prop) (itv : Value) (s2 : Shared) : Prop :=
  ∃ (it : Addr) (fp : List Addr) (tn : Nat → Heap → Prop) (J : It) (H' : Hp), itv = .ref it ∧ Inv X pins σ H' s2 ∧ Turn X.prog X.w X.K tg J fp it tn ∧ tn 0 s2.heap ∧ (∀ b ∈ fp, FpOk X pins H' b) ∧ R J H'
def PI (X : Cx) (tg iter : Expr) (wi : TI) : Prop :=
  ∀ (pins : List (Addr × Obj)) (s : Shared) (σ : St) (H : Hp) (R : It → Hp → Prop), Inv X pins σ H s → wi σ H R →
    wpAny (model X.prog X.w) X.A (eval iter X.env) (fun v s1 => wpAny (model X.prog X.w) X.A (pyIter v) (PIE X pins σ tg R) X.xe s1) X.xe s

/-- the step ahead of the store is nothing for an iterator that keeps no tuple -/
theorem go_of {M : Model} {A : Around} {E : Value → Shared → Prop} {s : Shared} {tg : Expr} {it : Addr} {u : Value} {o : Obj} {n : String} {vs : Array Value} {Q : Unit → Shared → Prop} (ho : s.heap.get? it = some o) (hc : o.cls = .type n) (hd : o.data = .fields vs)
    (hn : ["enumerate", "zip", "dict_itemiterator", "dict_reverseitemiterator", "odict_iterator", "itertools.zip_longest", "itertools.pairwise"].contains n = false) (hQ : Q () s) : wpAny M A (letOwnedTupleGo tg (.ref it) u) Q E s := by
  unfold letOwnedTupleGo
  cases tg <;> first
    | exact wpAny_pure hQ
    | (cases u <;> first
        | exact wpAny_pure hQ
        | (refine wpAny_bind (wpAny_load ho ?_)
           rw [hc, hd]
           show wpAny M A (if (["enumerate", "zip", "dict_itemiterator", "dict_reverseitemiterator", "odict_iterator", "itertools.zip_longest", "itertools.pairwise"].contains n && vs[0]? == some (rawInt _)) = true then _ else _) Q E s
           rw [if_neg (by intro h; rw [hn, Bool.false_and] at h; cases h)]
           exact wpAny_pure hQ))

/-- the list at a, as it stands at each turn (a loop may append to it) -/
def Itl (K : PySem.W.Frag) (a : Addr) : It :=
  ⟨fun i H => ∃ xs x, SqL K H a xs ∧ xs[i]? = some x, fun i H x H' => H' = H ∧ ∀ xs, SqL K H a xs → xs[i]? = some x, fun i H => ∃ xs, SqL K H a xs ∧ xs.length ≤ i⟩
def Itt (K : PySem.W.Frag) (a : Addr) : It :=
  ⟨fun i H => ∃ xs x, SqT K H a xs ∧ xs[i]? = some x, fun i H x H' => H' = H ∧ ∀ xs, SqT K H a xs → xs[i]? = some x, fun i H => ∃ xs, SqT K H a xs ∧ xs.length ≤ i⟩
/-- lo, lo + 1, .. (n of them) -/
def Itr (lo : Int) (n : Nat) : It := ⟨fun i _ => i < n, fun i H x H' => H' = H ∧ x = .int (lo + i), fun i _ => n ≤ i⟩
theorem turn_list {P : Program} {w : World} {K : PySem.W.Frag} {tg : Expr} (a it : Addr) : Turn P w K tg (Itl K a) [it] it (fun i h => h.IsListIter it a i) where
  mem := by simp
  obj := fun i h st b hb => by
    have e : b = it := by simpa using hb
    subst e
    obtain ⟨o, e, c, d⟩ := st
    exact ⟨o, e, fun v z => by rw [d] at z; cases z⟩
  keep := fun i h h' st k => st.at fun o e => k it (by simp) o e
  item := by
    intro X hP hw hK hc i pins s σ H E I hf st hg
    subst hP hw hK
    obtain ⟨xs, x, hq, hx⟩ := hg
    obtain ⟨its, rv, p, hz⟩ := I.list hq
    obtain ⟨u, hu, ru⟩ := rv.get hx
    obtain ⟨f0, f1, f2, f3, f4, f5⟩ := hf it (by simp)
    refine wpAny_pyNext_list_item st p.isList (x := u) (by simpa using hu) fun h' st' sb => ?_
    have I1 : Inv X pins σ H { s with heap := h' } := I.turned (t' := s.toks) (fun b o hb e => (sb.2 b hb).trans e) f0 f1 f3 f4 f5
    obtain ⟨o, e, c, d⟩ := id st'
    exact ⟨u, rfl, go_of (s := { s with heap := h' }) e c d (by decide) ⟨x, H, I1, ru, ⟨rfl, fun ys hy => by rw [I.list_inj hy hq]; exact hx⟩, st', fun b hb => (hf b hb).1⟩⟩
  done := by
    intro X hP hw hK hc i pins s σ H E I hf st hg
    subst hP hw hK
    obtain ⟨xs, hq, hx⟩ := hg
    obtain ⟨its, rv, p, hz⟩ := I.list hq
    obtain ⟨f0, f1, f2, f3, f4, f5⟩ := hf it (by simp)
    have hl := rv.length
    exact wpAny_pyNext_list_end (I.ok.hd hc) st p.isList (by simp; omega) fun h' eb => ⟨rfl, I.turned (t' := s.toks) (fun b o hb e => eb b o hb e) f0 f1 f3 f4 f5⟩
  self := fun _ _ _ _ _ st h => wpAny_pyIter_listiter st h
theorem turn_tuple {P : Program} {w : World} {K : PySem.W.Frag} {tg : Expr} (a it : Addr) : Turn P w K tg (Itt K a) [it] it (fun i h => h.IsTupleIter it a i) where
  mem := by simp
  obj := fun i h st b hb => by
    have e : b = it := by simpa using hb
    subst e
    obtain ⟨o, e, c, d⟩ := st
    exact ⟨o, e, fun v z => by rw [d] at z; cases z⟩
  keep := fun i h h' st k => st.at fun o e => k it (by simp) o e
  item := by
    intro X hP hw hK hc i pins s σ H E I hf st hg
    subst hP hw hK
    obtain ⟨xs, x, hq, hx⟩ := hg
    obtain ⟨its, rv, p, hz⟩ := I.tuple hq
    obtain ⟨u, hu, ru⟩ := rv.get hx
    obtain ⟨f0, f1, f2, f3, f4, f5⟩ := hf it (by simp)
    refine wpAny_pyNext_tuple_item st (show s.heap.IsTuple a its.toArray from p) (x := u) (by simpa using hu) fun h' st' sb => ?_
    have I1 : Inv X pins σ H { s with heap := h' } := I.turned (t' := s.toks) (fun b o hb e => (sb.2 b hb).trans e) f0 f1 f3 f4 f5
    obtain ⟨o, e, c, d⟩ := id st'
    exact ⟨u, rfl, go_of (s := { s with heap := h' }) e c d (by decide) ⟨x, H, I1, ru, ⟨rfl, fun ys hy => by rw [I.tuple_inj hy hq]; exact hx⟩, st', fun b hb => (hf b hb).1⟩⟩
  done := by
    intro X hP hw hK hc i pins s σ H E I hf st hg
    subst hP hw hK
    obtain ⟨xs, hq, hx⟩ := hg
    obtain ⟨its, rv, p, hz⟩ := I.tuple hq
    obtain ⟨f0, f1, f2, f3, f4, f5⟩ := hf it (by simp)
    have hl := rv.length
    exact wpAny_pyNext_tuple_end (I.ok.hd hc) st (show s.heap.IsTuple a its.toArray from p) (by simp; omega) fun h' eb => ⟨rfl, I.turned (t' := s.toks) (fun b o hb e => eb b o hb e) f0 f1 f3 f4 f5⟩
  self := fun _ _ _ _ _ st h => wpAny_pyIter_tupleiter st h
theorem turn_range {P : Program} {w : World} {K : PySem.W.Frag} {tg : Expr} (it : Addr) (lo : Int) (n : Nat) : Turn P w K tg (Itr lo n) [it] it (fun i h => IsRangeIter h it (lo + (i : Nat) * 1) ((n : Int) - (i : Nat)) 1) where
  mem := by simp
  obj := fun i h st b hb => by
    have e : b = it := by simpa using hb
    subst e
    exact ⟨_, st, fun v z => by
      have z' : Data.fields _ = Data.cell v := z
      cases z'⟩
  keep := fun i h h' st k => k it (by simp) _ st
  item := by
    intro X hP hw hK hc i pins s σ H E I hf st hg
    subst hP hw hK
    obtain ⟨f0, f1, f2, f3, f4, f5⟩ := hf it (by simp)
    have W := Walks.range (prog := X.prog) (w := X.w) (I.ok.hd hc) it lo 1 n
    refine W.item i s _ _ hg st fun v h' tk hv st' kk => ?_
    obtain ⟨t, rfl⟩ := hv
    have I1 : Inv X pins σ H { s with heap := h', toks := tk } := I.turned (fun b o hb e => kk b o (by simpa using hb) e) f0 f1 f3 f4 f5
    refine ⟨_, rfl, go_of (s := { s with heap := h', toks := tk }) (n := "range_iterator") st' rfl rfl (by decide) ⟨.int (lo + i), H, I1, ⟨t, ?_⟩, ⟨rfl, rfl⟩, st', fun b hb => (hf b hb).1⟩⟩
    rw [Int.mul_one]
  done := by
    intro X hP hw hK hc i pins s σ H E I hf st hg
    subst hP hw hK
    obtain ⟨f0, f1, f2, f3, f4, f5⟩ := hf it (by simp)
    exact wpAny_pyNext_range_end (I.ok.hd hc) st (by have : n ≤ i := hg; omega) fun h' eb => ⟨rfl, I.turned (t' := s.toks) (fun b o hb e => eb b o hb e) f0 f1 f3 f4 f5⟩
  self := fun _ _ _ _ _ st h => wpAny_pyIter_rangeiter st h
end L2

namespace L2
open PySem PySem.Spec PyProof.Rows
section
variable {X : Cx} {tg : Expr}
def iList (K : PySem.W.Frag) (tl : TE) : TI := fun σ H R => tl σ H fun x H1 => ∃ a, x = .ref a ∧ (∃ xs, SqL K H1 a xs) ∧ R (Itl K a) H1
def iTup (K : PySem.W.Frag) (tl : TE) : TI := fun σ H R => tl σ H fun x H1 => ∃ a, x = .ref a ∧ (∃ xs, SqT K H1 a xs) ∧ R (Itt K a) H1
theorem pi_list {l : Expr} {tl : TE} (hl : PE X l tl) : PI X tg l (iList X.K tl) := by
  intro pins s σ H R I h
  refine thn (hl pins s σ H _ I h) fun v s1 ⟨x, H1, I1, r1, q1⟩ => ?_
  obtain ⟨a, e, ⟨xs, hq⟩, q⟩ := q1
  subst e
  cases r1
  obtain ⟨its, rv, p, hz⟩ := I1.list hq
  refine wpAny_pyIter_list p.isList ?_
  refine ⟨s1.heap.objs.size, [s1.heap.objs.size], _, _, H1, rfl, I1.kept (t' := s1.toks) fun b o e => Heap.get?_push_of_some _ e, turn_list a _, ⟨_, Heap.get?_push_size _ rfl, rfl, rfl⟩, fun b hb => ?_, q⟩
  have e : b = s1.heap.objs.size := by simpa using hb
  subst e
  exact I1.fpOk (Nat.le_refl _) (I1.hok.fresh (Nat.le_refl _))
theorem pi_tup {l : Expr} {tl : TE} (hl : PE X l tl) : PI X tg l (iTup X.K tl) := by
  intro pins s σ H R I h
  refine thn (hl pins s σ H _ I h) fun v s1 ⟨x, H1, I1, r1, q1⟩ => ?_
  obtain ⟨a, e, ⟨xs, hq⟩, q⟩ := q1
  subst e
  cases r1
  obtain ⟨its, rv, p, hz⟩ := I1.tuple hq
  refine wpAny_pyIter_tuple (show s1.heap.IsTuple a its.toArray from p) ?_
  refine ⟨s1.heap.objs.size, [s1.heap.objs.size], _, _, H1, rfl, I1.kept (t' := s1.toks) fun b o e => Heap.get?_push_of_some _ e, turn_tuple a _, ⟨_, Heap.get?_push_size _ rfl, rfl, rfl⟩, fun b hb => ?_, q⟩
  have e : b = s1.heap.objs.size := by simpa using hb
  subst e
  exact I1.fpOk (Nat.le_refl _) (I1.hok.fresh (Nat.le_refl _))
/-- a range object just made, walked -/
theorem range_it {pins : List (Addr × Obj)} {σ : St} {H : Hp} {s : Shared} {R : It → Hp → Prop} {E : Value → Shared → Prop} {lo hi : Int} {t u v : Tok} {tk : Nat} (I : Inv X pins σ H s) (h1 : -(2 ^ 62) ≤ lo) (h2 : lo < 2 ^ 62) (h3 : -(2 ^ 62) ≤ hi) (h4 : hi < 2 ^ 62)
    (q : R (Itr lo (hi - lo).toNat) H) : wpAny (model X.prog X.w) X.A (pyIter (.ref s.heap.objs.size)) (PIE X pins σ tg R) E { s with heap := s.heap.push { cls := .type "range", data := .fields #[.int lo t, .int hi u, .int 1 v] }, toks := tk } := by
  refine wpAny_pyIter_range (IsRange.new ..) (small_one h1 h2 h3 h4) ?_
  have I1 : Inv X pins σ H { s with heap := s.heap.push { cls := .type "range", data := .fields #[.int lo t, .int hi u, .int 1 v] }, toks := tk } := I.kept fun b o e => Heap.get?_push_of_some _ e
  refine ⟨(s.heap.push { cls := .type "range", data := .fields #[.int lo t, .int hi u, .int 1 v] }).objs.size, [(s.heap.push { cls := .type "range", data := .fields #[.int lo t, .int hi u, .int 1 v] }).objs.size], _, _, H, rfl,
    I1.kept (t' := tk) fun b o e => Heap.get?_push_of_some _ e, turn_range _ lo (hi - lo).toNat, ?_, fun b hb => ?_, q⟩
  · have e1 : lo + ((0 : Nat) : Int) * 1 = lo := by simp
    have e2 : (((hi - lo).toNat : Nat) : Int) - ((0 : Nat) : Int) = Builtin.Range.rangeSize lo hi 1 := by rw [rangeSize_one]; split <;> omega
    show IsRangeIter _ _ (lo + ((0 : Nat) : Int) * 1) ((((hi - lo).toNat : Nat) : Int) - ((0 : Nat) : Int)) 1
    rw [e1, e2]
    exact Heap.get?_push_size _ rfl
  · have e : b = (s.heap.push { cls := .type "range", data := .fields #[.int lo t, .int hi u, .int 1 v] }).objs.size := by simpa using hb
    subst e
    exact I1.fpOk (Nat.le_refl _) (I1.hok.fresh (Nat.le_refl _))
def iRng1 (ta : TA) : TI := fun σ H R => ta σ H fun vs H1 => ∃ j : Int, vs = [.int j] ∧ -(2 ^ 62) ≤ j ∧ j < 2 ^ 62 ∧ R (Itr 0 j.toNat) H1
def iRng2 (ta : TA) : TI := fun σ H R => ta σ H fun vs H1 => ∃ i j : Int, vs = [.int i, .int j] ∧ (-(2 ^ 62) ≤ i ∧ i < 2 ^ 62 ∧ -(2 ^ 62) ≤ j ∧ j < 2 ^ 62) ∧ R (Itr i (j - i).toNat) H1
theorem pi_range1 {a : Expr} {ta : TA} {p pos : Pos} (hg : Gl X "range") (hm : X.mg "range" = none) (ha : PA X [a] ta) (hs : starEach [a] X.env = [(false, eval a X.env)] := by rfl) : PI X tg (.Call (.Name "range" p) [a] [] pos) (iRng1 ta) := by
  intro pins s σ H R I h
  refine Call_ (ld_blt I hg hm boot_range (PyProof.Rows.callWith_type1 (thn (ha pos pins s σ H _ I h) fun us s1 ⟨vs, H1, I1, r1, q1⟩ => ?_) hs rfl))
  obtain ⟨j, e, q1, q2, q⟩ := q1
  subst e
  cases r1 with
  | cons r rr =>
    cases rr
    obtain ⟨t, rfl⟩ := r
    exact call_range_1 (range_it I1 (by omega) (by omega) q1 q2 (by simpa using q))
theorem pi_range2 {a b : Expr} {ta : TA} {p pos : Pos} (hg : Gl X "range") (hm : X.mg "range" = none) (ha : PA X [a, b] ta) (hs : starEach [a, b] X.env = [(false, eval a X.env), (false, eval b X.env)] := by rfl) (hs2 : starEach [b] X.env = [(false, eval b X.env)] := by rfl) :
    PI X tg (.Call (.Name "range" p) [a, b] [] pos) (iRng2 ta) := by
  intro pins s σ H R I h
  refine Call_ (ld_blt I hg hm boot_range (PyProof.Rows.callWith_type1 (thn (ha pos pins s σ H _ I h) fun us s1 ⟨vs, H1, I1, r1, q1⟩ => ?_) (by rw [hs, hs2]) (by rw [hs2]; rfl)))
  obtain ⟨i, j, e, ⟨q1, q2, q3, q4⟩, q⟩ := q1
  subst e
  cases r1 with
  | cons r rr =>
    cases rr with
    | cons r' rr =>
      cases rr
      obtain ⟨t, rfl⟩ := r
      obtain ⟨t', rfl⟩ := r'
      exact call_range_2 (range_it I1 q1 q2 q3 q4 q)

/-! ### for -/
/-- W: the invariant by the turn and a measure; N: what the body is to reach -/
def tFor (wi : TI) (g : TG) (tb : TS) : TS := fun D σ H => wi σ H fun J H1 => ∃ W : Nat → Nat → St → Hp → Prop, (∃ m, W 0 m σ H1) ∧ ∀ i m σ H, W i m σ H →
  (J.stop i H ∧ D.nx σ H) ∨ (J.go i H ∧ ∃ N : St → Hp → Prop, (∀ σ' H', N σ' H' → ∃ m', m' < m ∧ W (i + 1) m' σ' H') ∧ ∀ x H', J.yld i H x H' → g x σ H' fun σ2 H2 => tb { D with nx := N, ct := N, bk := D.nx } σ2 H2)
/-- the records at fp as they stand -/
def pinsAt (fp : List Addr) (h : Heap) : List (Addr × Obj) := fp.filterMap fun b => (h.get? b).map fun o => (b, o)
theorem mem_pinsAt {fp : List Addr} {h : Heap} {b : Addr} {o : Obj} (hb : b ∈ fp) (e : h.get? b = some o) : (b, o) ∈ pinsAt fp h := List.mem_filterMap.mpr ⟨b, hb, by rw [e]; rfl⟩
theorem of_pinsAt {fp : List Addr} {h : Heap} {p : Addr × Obj} (hp : p ∈ pinsAt fp h) : p.1 ∈ fp ∧ h.get? p.1 = some p.2 := by
  obtain ⟨b, hb, e⟩ := List.mem_filterMap.mp hp
  cases q : h.get? b with
  | none => rw [q] at e; cases e
  | some o =>
    rw [q] at e
    have e' : (b, o) = p := Option.some.inj e
    subst e'
    exact ⟨hb, q⟩
theorem Inv.pinned {pins : List (Addr × Obj)} {σ : St} {H : Hp} {s : Shared} {fp : List Addr} (I : Inv X pins σ H s) (hf : ∀ b ∈ fp, FpOk X pins H b) (ho : ∀ b ∈ fp, ∃ o, s.heap.get? b = some o ∧ ∀ v, o.data ≠ .cell v) : Inv X (pins ++ pinsAt fp s.heap) σ H s :=
  I.pins_of fun p hp => (List.mem_append.mp hp).elim (fun z => I.pin p (List.mem_append_right _ z)) fun z => by
    obtain ⟨hb, e⟩ := of_pinsAt z
    obtain ⟨f0, f1, f2, _⟩ := hf p.1 hb
    obtain ⟨o, e', d⟩ := ho p.1 hb
    rw [e] at e'; cases e'
    exact ⟨e, f0, f1, f2, d⟩
theorem Inv.unpinned {pins pl : List (Addr × Obj)} {σ : St} {H : Hp} {s : Shared} (I : Inv X (pins ++ pl) σ H s) : Inv X pins σ H s := I.pins_of fun p hp => I.pin p (List.mem_append_right _ (List.mem_append_left _ hp))
theorem ps_for {iter : Expr} {body : List Stmt} {wi : TI} {g : TG} {tb : TS} {pos : Pos} (hp : PassesOwn (model X.prog X.w) X.A X.env X.xe) (hc : X.calm = true) (hi : PI X tg iter wi) (hg : PG X tg g) (hb : PSs X body tb)
    (hs : ∀ x, foldedSetIterable iter X.env x = pure x := by intro _; rfl) : PS X (.For tg iter body [] pos) (tFor wi g tb) := by
  intro pins s σ H D I h
  refine wpAny_For (thn (hi pins s σ H _ I h) fun v s1 h1 => thn h1 fun itv s2 h2 => ?_) hs
  obtain ⟨it, fp, tn, J, H2, e, I2, T, st2, f2, W, ⟨m0, w0⟩, turn⟩ := h2
  subst e
  -- what stays true of the iterator's objects through the loop
  have stat : ∀ {H' : Hp}, (∀ b ∈ fp, H' b = none) → ∀ b ∈ fp, FpOk X pins H' b := fun hn b hb => ⟨hn b hb, (f2 b hb).2⟩
  refine codeAny_forLoop_any (fun n s' => ∃ i σ' H', Inv X pins σ' H' s' ∧ tn i s'.heap ∧ (∀ b ∈ fp, H' b = none) ∧ W i n σ' H') ?_ m0 ⟨0, σ, H2, I2, st2, fun b hb => (f2 b hb).1, w0⟩
  rintro n s3 ⟨i, σ3, H3, I3, st3, fr3, w3⟩
  rcases turn i n σ3 H3 w3 with ⟨stop, qn⟩ | ⟨go, N, hN, step⟩
  · refine wpAny_passesOwn hp (thn (T.done X rfl rfl rfl hc i pins s3 σ3 H3 X.xe I3 (stat fr3) st3 stop) fun r s4 ⟨hr, I4⟩ => ?_)
    subst hr
    exact wpAny_execs_nil ⟨σ3, H3, I4, qn⟩
  · refine wpAny_passesOwn hp (thn (T.item X rfl rfl rfl hc i pins s3 σ3 H3 X.xe I3 (stat fr3) st3 go) fun r s4 ⟨u, hr, h4⟩ => ?_)
    subst hr
    refine wpAny_passesOwn hp (thn h4 fun _ s5 ⟨x, H5, I5, r5, y5, st5, fr5⟩ => ?_)
    have I5' := I5.pinned (stat fr5) (T.obj _ _ st5)
    refine wpAny_passesOwn hp (thn (hg _ s5 σ3 H5 x u _ I5' r5 (step x H5 y5)) fun _ s6 ⟨σ6, H6, I6, q6⟩ => ?_)
    refine wpAny_passesOwn hp (thn (hb _ s6 σ6 H6 _ I6 q6) fun f s7 q7 => ?_)
    have again : ∀ {σ7 : St} {H7 : Hp}, Inv X (pins ++ pinsAt fp s5.heap) σ7 H7 s7 → N σ7 H7 → ∃ m, m < n ∧ ∃ i σ' H', Inv X pins σ' H' s7 ∧ tn i s7.heap ∧ (∀ b ∈ fp, H' b = none) ∧ W i m σ' H' := fun {σ7 H7} I7 n7 => by
      obtain ⟨m', hm, w7⟩ := hN σ7 H7 n7
      refine ⟨m', hm, i + 1, σ7, H7, I7.unpinned, T.keep _ _ _ st5 fun b hb o e => (I7.pin (b, o) (List.mem_append_right _ (List.mem_append_right _ (mem_pinsAt hb e)))).1, fun b hb => ?_, w7⟩
      obtain ⟨o, e, d⟩ := T.obj _ _ st5 b hb
      exact (I7.pin (b, o) (List.mem_append_right _ (List.mem_append_right _ (mem_pinsAt hb e)))).2.1
    cases f with
    | next => obtain ⟨σ7, H7, I7, n7⟩ := q7; exact again I7 n7
    | cont => obtain ⟨σ7, H7, I7, n7⟩ := q7; exact again I7 n7
    | brk => obtain ⟨σ7, H7, I7, q7⟩ := q7; exact ⟨σ7, H7, I7.unpinned, q7⟩
    | ret v => obtain ⟨x7, σ7, H7, I7, r7, q7⟩ := q7; exact ⟨x7, σ7, H7, I7.unpinned, r7, q7⟩
end

/-! ### the forms one uses -/
/-- over a list that the body leaves as it is -/
theorem for_list {K : PySem.W.Frag} {a : Addr} {xs : List V} {g : TG} {tb : TS} {D : Ends} {σ : St} {H : Hp} (Pv : Nat → St → Hp → Prop) (h0 : Pv 0 σ H) (hl : ∀ i σ H, i ≤ xs.length → Pv i σ H → SqL K H a xs)
    (hs : ∀ i x σ H, xs[i]? = some x → Pv i σ H → g x σ H fun σ2 H2 => tb { D with nx := Pv (i + 1), ct := Pv (i + 1), bk := D.nx } σ2 H2) (hd : ∀ σ H, Pv xs.length σ H → D.nx σ H) :
    ∃ W : Nat → Nat → St → Hp → Prop, (∃ m, W 0 m σ H) ∧ ∀ i m σ H, W i m σ H →
      ((Itl K a).stop i H ∧ D.nx σ H) ∨ ((Itl K a).go i H ∧ ∃ N : St → Hp → Prop, (∀ σ' H', N σ' H' → ∃ m', m' < m ∧ W (i + 1) m' σ' H') ∧ ∀ x H', (Itl K a).yld i H x H' → g x σ H' fun σ2 H2 => tb { D with nx := N, ct := N, bk := D.nx } σ2 H2) := by
  refine ⟨fun i m σ H => m = xs.length - i ∧ i ≤ xs.length ∧ Pv i σ H, ⟨xs.length, by simp, Nat.zero_le _, h0⟩, ?_⟩
  rintro i m σ H ⟨rfl, hi, p⟩
  have q := hl i σ H hi p
  by_cases hlt : i < xs.length
  · refine .inr ⟨⟨xs, xs[i], q, by simp [hlt]⟩, Pv (i + 1), fun σ' H' p' => ⟨xs.length - (i + 1), by omega, rfl, hlt, p'⟩, fun x H' y => ?_⟩
    obtain ⟨e, y⟩ := y
    subst e
    exact hs i x σ _ (y xs q) p
  · have e : i = xs.length := by omega
    subst e
    exact .inl ⟨⟨xs, q, Nat.le_refl _⟩, hd σ H p⟩
theorem for_tup {K : PySem.W.Frag} {a : Addr} {xs : List V} {g : TG} {tb : TS} {D : Ends} {σ : St} {H : Hp} (Pv : Nat → St → Hp → Prop) (h0 : Pv 0 σ H) (hl : ∀ i σ H, i ≤ xs.length → Pv i σ H → SqT K H a xs)
    (hs : ∀ i x σ H, xs[i]? = some x → Pv i σ H → g x σ H fun σ2 H2 => tb { D with nx := Pv (i + 1), ct := Pv (i + 1), bk := D.nx } σ2 H2) (hd : ∀ σ H, Pv xs.length σ H → D.nx σ H) :
    ∃ W : Nat → Nat → St → Hp → Prop, (∃ m, W 0 m σ H) ∧ ∀ i m σ H, W i m σ H →
      ((Itt K a).stop i H ∧ D.nx σ H) ∨ ((Itt K a).go i H ∧ ∃ N : St → Hp → Prop, (∀ σ' H', N σ' H' → ∃ m', m' < m ∧ W (i + 1) m' σ' H') ∧ ∀ x H', (Itt K a).yld i H x H' → g x σ H' fun σ2 H2 => tb { D with nx := N, ct := N, bk := D.nx } σ2 H2) := by
  refine ⟨fun i m σ H => m = xs.length - i ∧ i ≤ xs.length ∧ Pv i σ H, ⟨xs.length, by simp, Nat.zero_le _, h0⟩, ?_⟩
  rintro i m σ H ⟨rfl, hi, p⟩
  have q := hl i σ H hi p
  by_cases hlt : i < xs.length
  · refine .inr ⟨⟨xs, xs[i], q, by simp [hlt]⟩, Pv (i + 1), fun σ' H' p' => ⟨xs.length - (i + 1), by omega, rfl, hlt, p'⟩, fun x H' y => ?_⟩
    obtain ⟨e, y⟩ := y
    subst e
    exact hs i x σ _ (y xs q) p
  · have e : i = xs.length := by omega
    subst e
    exact .inl ⟨⟨xs, q, Nat.le_refl _⟩, hd σ H p⟩
theorem for_range {lo : Int} {n : Nat} {g : TG} {tb : TS} {D : Ends} {σ : St} {H : Hp} (Pv : Nat → St → Hp → Prop) (h0 : Pv 0 σ H)
    (hs : ∀ i σ H, i < n → Pv i σ H → g (.int (lo + i)) σ H fun σ2 H2 => tb { D with nx := Pv (i + 1), ct := Pv (i + 1), bk := D.nx } σ2 H2) (hd : ∀ σ H, Pv n σ H → D.nx σ H) :
    ∃ W : Nat → Nat → St → Hp → Prop, (∃ m, W 0 m σ H) ∧ ∀ i m σ H, W i m σ H →
      ((Itr lo n).stop i H ∧ D.nx σ H) ∨ ((Itr lo n).go i H ∧ ∃ N : St → Hp → Prop, (∀ σ' H', N σ' H' → ∃ m', m' < m ∧ W (i + 1) m' σ' H') ∧ ∀ x H', (Itr lo n).yld i H x H' → g x σ H' fun σ2 H2 => tb { D with nx := N, ct := N, bk := D.nx } σ2 H2) := by
  refine ⟨fun i m σ H => m = n - i ∧ i ≤ n ∧ Pv i σ H, ⟨n, by simp, Nat.zero_le _, h0⟩, ?_⟩
  rintro i m σ H ⟨rfl, hi, p⟩
  by_cases hlt : i < n
  · refine .inr ⟨hlt, Pv (i + 1), fun σ' H' p' => ⟨n - (i + 1), by omega, rfl, hlt, p'⟩, fun x H' y => ?_⟩
    obtain ⟨e, y⟩ := y
    subst e y
    exact hs i σ _ hlt p
  · have e : i = n := by omega
    subst e
    exact .inl ⟨Nat.le_refl _, hd σ H p⟩
/-- while, by a word and a measure of the state -/
theorem while_by {c : TT} {tb : TS} {D : Ends} {σ : St} {H : Hp} (Pv : St → Hp → Prop) (μ : St → Hp → Nat) (h0 : Pv σ H)
    (hs : ∀ σ H, Pv σ H → c σ H fun b H1 => if b = true then tb { D with nx := fun σ' H' => Pv σ' H' ∧ μ σ' H' < μ σ H, ct := fun σ' H' => Pv σ' H' ∧ μ σ' H' < μ σ H, bk := D.nx } σ H1 else D.nx σ H1)
    (mono : ∀ σ H Q Q', (∀ b H1, Q b H1 → Q' b H1) → c σ H Q → c σ H Q') : tWhile c tb D σ H := by
  refine ⟨fun m σ H => m = μ σ H ∧ Pv σ H, ⟨_, rfl, h0⟩, ?_⟩
  rintro m σ H ⟨rfl, p⟩
  refine mono σ H _ _ (fun b H1 q => ?_) (hs σ H p)
  cases b with
  | true => exact ⟨_, fun σ' H' ⟨p', l⟩ => ⟨_, l, rfl, p'⟩, q⟩
  | false => exact q
end L2

namespace L2
open PySem PySem.Spec PyProof.Rows

abbrev R2 := V → V → Hp → VK → Prop
/-- a two-place operation on values: f is binaryOp op, inplaceOp op or compareOp op -/
def OpR (X : Cx) (f : Value → Value → Sem Value) (r : R2) : Prop :=
  ∀ (pins : List (Addr × Obj)) (s : Shared) (σ : St) (H : Hp) (x y : V) (v u : Value) (Q : VK), Inv X pins σ H s → RelV x v → RelV y u → r x y H Q →
    wpAny (model X.prog X.w) X.A (f v u) (EP X pins σ Q) X.xe s
/-- a one-place operation -/
def UnR (X : Cx) (f : Value → Sem Value) (r : V → Hp → VK → Prop) : Prop :=
  ∀ (pins : List (Addr × Obj)) (s : Shared) (σ : St) (H : Hp) (x : V) (v : Value) (Q : VK), Inv X pins σ H s → RelV x v → r x H Q →
    wpAny (model X.prog X.w) X.A (f v) (EP X pins σ Q) X.xe s
/-- a call of a value that is known (a builtin, a type) with values -/
def CallR (X : Cx) (f : Value) (r : List V → Hp → VK → Prop) : Prop :=
  ∀ (pins : List (Addr × Obj)) (s : Shared) (σ : St) (H : Hp) (xs : List V) (us : List Value) (Q : VK), Inv X pins σ H s → Vals xs us → r xs H Q →
    wpAny (model X.prog X.w) X.A (call f us) (EP X pins σ Q) X.xe s
/-- a value's truth -/
def TruR (X : Cx) (r : V → Hp → (Bool → Hp → Prop) → Prop) : Prop :=
  ∀ (pins : List (Addr × Obj)) (s : Shared) (σ : St) (H : Hp) (x : V) (v : Value) (Q : Bool → Hp → Prop), Inv X pins σ H s → RelV x v → r x H Q →
    wpAny (model X.prog X.w) X.A (truthy v) (TP X pins σ Q) X.xe s

def tOp (r : R2) (ta tb : TE) : TE := fun σ H Q => ta σ H fun x H1 => tb σ H1 fun y H2 => r x y H2 Q
def tUn (r : V → Hp → VK → Prop) (ta : TE) : TE := fun σ H Q => ta σ H fun x H1 => r x H1 Q
/-- ints in, under C, and a value out -/
def rI (C : Int → Int → Prop) (g : Int → Int → V) : R2 := fun x y H Q => ∃ i j, x = .int i ∧ y = .int j ∧ C i j ∧ Q (g i j) H
def rI0 (g : Int → Int → V) : R2 := fun x y H Q => ∃ i j, x = .int i ∧ y = .int j ∧ Q (g i j) H
def rU (g : Int → V) : V → Hp → VK → Prop := fun x H Q => ∃ i, x = .int i ∧ Q (g i) H

section
variable {X : Cx} {a b c : Expr} {ta tb tc : TE} {pos : Pos}

theorem binT (ha : PE X a ta) (hb : PE X b tb) {pins : List (Addr × Obj)} {s : Shared} {σ : St} {H : Hp} {R : V → V → Hp → Prop} (I : Inv X pins σ H s)
    (h : ta σ H fun x H1 => tb σ H1 fun y H2 => R x y H2) {Q : Value → Shared → Prop} {f : Value → Value → Sem Value}
    (hf : ∀ v u s2 x y H2, Inv X pins σ H2 s2 → RelV x v → RelV y u → R x y H2 → wpAny (model X.prog X.w) X.A (f v u) Q X.xe s2) :
    wpAny (model X.prog X.w) X.A (eval a X.env) (fun v s₁ => wpAny (model X.prog X.w) X.A (eval b X.env) (fun u s₂ => wpAny (model X.prog X.w) X.A (f v u) Q X.xe s₂) X.xe s₁) X.xe s := by
  refine thn (ha pins s σ H _ I h) fun v s1 ⟨x, H1, I1, r1, q1⟩ => ?_
  refine thn (hb pins s1 σ H1 _ I1 q1) fun u s2 ⟨y, H2, I2, r2, q2⟩ => ?_
  exact hf v u s2 x y H2 I2 r1 r2 q2

theorem pe_op {op : Operator} {r : R2} (ho : OpR X (binaryOp op) r) (ha : PE X a ta) (hb : PE X b tb) : PE X (.BinOp a op b pos) (tOp r ta tb) := by
  intro pins s σ H Q I h
  exact wpAny_BinOp (binT ha hb I h fun v u s2 x y H2 I2 rx ry q => ho pins s2 σ H2 x y v u Q I2 rx ry q)
theorem pe_un {op : UnaryOp} {r : V → Hp → VK → Prop} (ho : UnR X (unaryOp op) r) (ha : PE X a ta) : PE X (.UnaryOp op a pos) (tUn r ta) := by
  intro pins s σ H Q I h
  exact UnaryOp_ (thn (ha pins s σ H _ I h) fun v s1 ⟨x, H1, I1, r1, q1⟩ => ho pins s1 σ H1 x v Q I1 r1 q1)
/-- a op= e at a name: the name's slot i -/
theorem augR {op : Operator} {r : R2} (ho : OpR X (inplaceOp op) r) {pins : List (Addr × Obj)} {s : Shared} {σ : St} {H : Hp} {x y : V} {v u : Value} {Q : VK} (I : Inv X pins σ H s)
    (rx : RelV x v) (ry : RelV y u) (q : r x y H Q) : wpAny (model X.prog X.w) X.A (inplaceOp op v u) (EP X pins σ Q) X.xe s := ho pins s σ H x y v u Q I rx ry q

/-! ### ints -/
theorem opI {f : Value → Value → Sem Value} {C : Int → Int → Prop} {g : Int → Int → Int}
    (rule : ∀ (i j : Int) (t u : Tok) (s : Shared) (Q : Value → Shared → Prop) (E : Value → Shared → Prop), C i j → Q (.int (g i j) s.toks) { s with toks := s.toks + 1 } → wpAny (model X.prog X.w) X.A (f (.int i t) (.int j u)) Q E s) :
    OpR X f (rI C fun i j => .int (g i j)) := by
  intro pins s σ H x y v u Q I rx ry h
  obtain ⟨i, j, rfl, rfl, hc, q⟩ := h
  obtain ⟨t, rfl⟩ := rx
  obtain ⟨t', rfl⟩ := ry
  exact rule i j t t' s _ _ hc ⟨.int (g i j), H, I.tok _, ⟨_, rfl⟩, q⟩
theorem opI0 {f : Value → Value → Sem Value} {g : Int → Int → Int}
    (rule : ∀ (i j : Int) (t u : Tok) (s : Shared) (Q : Value → Shared → Prop) (E : Value → Shared → Prop), Q (.int (g i j) s.toks) { s with toks := s.toks + 1 } → wpAny (model X.prog X.w) X.A (f (.int i t) (.int j u)) Q E s) :
    OpR X f (rI0 fun i j => .int (g i j)) := by
  intro pins s σ H x y v u Q I rx ry h
  obtain ⟨i, j, rfl, rfl, q⟩ := h
  obtain ⟨t, rfl⟩ := rx
  obtain ⟨t', rfl⟩ := ry
  exact rule i j t t' s _ _ ⟨.int (g i j), H, I.tok _, ⟨_, rfl⟩, q⟩
theorem opB0 {f : Value → Value → Sem Value} {g : Int → Int → Bool}
    (rule : ∀ (i j : Int) (t u : Tok) (s : Shared) (Q : Value → Shared → Prop) (E : Value → Shared → Prop), Q (.bool (g i j)) s → wpAny (model X.prog X.w) X.A (f (.int i t) (.int j u)) Q E s) :
    OpR X f (rI0 fun i j => .bl (g i j)) := by
  intro pins s σ H x y v u Q I rx ry h
  obtain ⟨i, j, rfl, rfl, q⟩ := h
  obtain ⟨t, rfl⟩ := rx
  obtain ⟨t', rfl⟩ := ry
  exact rule i j t t' s _ _ ⟨.bl (g i j), H, I, rfl, q⟩

def CDiv (i j : Int) : Prop := 0 < j ∧ j < 1073741824
def CDivN (i j : Int) : Prop := j ≠ 0 ∧ j.natAbs < 1073741824
def CPow (i j : Int) : Prop := 0 ≤ j ∧ j ≤ 1000000 ∧ i.natAbs < 2 ^ 64
def CMul (i j : Int) : Prop := (-(2 ^ 64) < i ∧ i < 2 ^ 64) ∨ (-(2 ^ 64) < j ∧ j < 2 ^ 64)
theorem CMul.ok {i j : Int} (h : CMul i j) : IntMulOk i j := by
  rcases h with ⟨h1, h2⟩ | ⟨h1, h2⟩
  · exact .of_left (intBits_le_64 h1 h2)
  · exact .of_right (intBits_le_64 h1 h2)
theorem two_pow_nn (k : Nat) : (0 : Int) ≤ 2 ^ k := by
  rw [two_pow_cast]
  exact Int.natCast_nonneg _

theorem op_add : OpR X (binaryOp .Add) (rI0 fun i j => .int (i + j)) := opI0 fun _ _ _ _ _ _ _ q => add_int q
theorem op_sub : OpR X (binaryOp .Sub) (rI0 fun i j => .int (i - j)) := opI0 fun _ _ _ _ _ _ _ q => sub_int q
theorem op_mul : OpR X (binaryOp .Mult) (rI CMul fun i j => .int (i * j)) := opI fun _ _ _ _ _ _ _ hc q => mul_int q hc.ok
/-- // by a positive divisor -/
theorem op_fdiv : OpR X (binaryOp .FloorDiv) (rI CDiv fun i j => .int (i / j)) := opI fun i j _ _ _ _ _ hc q => by
  have h1 : (0 : Int) < j := hc.1
  have h2 : j < 1073741824 := hc.2
  exact floordiv_int (by omega) (by rw [Int.fdiv_eq_ediv_of_nonneg i (by omega)]; exact q) (.inl (PyProof.noPylong_small (by omega)))
theorem op_fdivN : OpR X (binaryOp .FloorDiv) (rI CDivN fun i j => .int (i.fdiv j)) := opI fun _ _ _ _ _ _ _ hc q => floordiv_int hc.1 q (.inl (PyProof.noPylong_small hc.2))
/-- % by a positive divisor of any size -/
theorem op_mod : OpR X (binaryOp .Mod) (rI (fun _ j => 0 < j) fun i j => .int (i % j)) := opI fun i j _ _ _ _ _ hc q => by
  have h1 : (0 : Int) < j := hc
  exact mod_int' (by omega) (by rw [Int.fmod_eq_emod_of_nonneg i (by omega)]; exact q)
theorem op_modN : OpR X (binaryOp .Mod) (rI (fun _ j => j ≠ 0) fun i j => .int (i.fmod j)) := opI fun _ _ _ _ _ _ _ hc q => mod_int' hc q
theorem op_pow : OpR X (binaryOp .Pow) (rI CPow fun i j => .int (i ^ j.toNat)) := opI fun _ _ _ _ _ _ _ hc q => pow_int_small hc.1 hc.2.1 hc.2.2 q
theorem op_shl : OpR X (binaryOp .LShift) (rI CPow fun i j => .int (i * 2 ^ j.toNat)) := opI fun _ _ _ _ _ _ _ hc q => lshift_int_small hc.1 hc.2.1 hc.2.2 q
theorem op_shr : OpR X (binaryOp .RShift) (rI (fun _ j => 0 ≤ j) fun i j => .int (i / 2 ^ j.toNat)) := opI fun i j _ _ _ _ _ hc q =>
  rshift_int hc (by rw [Int.fdiv_eq_ediv_of_nonneg i (two_pow_nn _)]; exact q)
theorem op_and : OpR X (binaryOp .BitAnd) (rI0 fun i j => .int (Builtin.bitAnd i j)) := opI0 fun _ _ _ _ _ _ _ q => and_int q
theorem op_or : OpR X (binaryOp .BitOr) (rI0 fun i j => .int (Builtin.bitOr i j)) := opI0 fun _ _ _ _ _ _ _ q => or_int q
theorem op_xor : OpR X (binaryOp .BitXor) (rI0 fun i j => .int (Builtin.bitXor i j)) := opI0 fun _ _ _ _ _ _ _ q => xor_int q

theorem iop_add : OpR X (inplaceOp .Add) (rI0 fun i j => .int (i + j)) := opI0 fun _ _ _ _ _ _ _ q => iadd_int q
theorem iop_sub : OpR X (inplaceOp .Sub) (rI0 fun i j => .int (i - j)) := opI0 fun _ _ _ _ _ _ _ q => isub_int q
theorem iop_mul : OpR X (inplaceOp .Mult) (rI CMul fun i j => .int (i * j)) := opI fun _ _ _ _ _ _ _ hc q => imul_int q hc.ok
theorem iop_fdiv : OpR X (inplaceOp .FloorDiv) (rI CDiv fun i j => .int (i / j)) := opI fun i j _ _ _ _ _ hc q => by
  have h1 : (0 : Int) < j := hc.1
  have h2 : j < 1073741824 := hc.2
  exact ifloordiv_int (by omega) (by rw [Int.fdiv_eq_ediv_of_nonneg i (by omega)]; exact q) (.inl (PyProof.noPylong_small (by omega)))
theorem iop_mod : OpR X (inplaceOp .Mod) (rI (fun _ j => 0 < j) fun i j => .int (i % j)) := opI fun i j _ _ _ _ _ hc q => by
  have h1 : (0 : Int) < j := hc
  exact imod_int (by omega) (by rw [Int.fmod_eq_emod_of_nonneg i (by omega)]; exact q)
theorem iop_shl : OpR X (inplaceOp .LShift) (rI CPow fun i j => .int (i * 2 ^ j.toNat)) := opI fun _ _ _ _ _ _ _ hc q => ilshift_int_small hc.1 hc.2.1 hc.2.2 q
theorem iop_shr : OpR X (inplaceOp .RShift) (rI (fun _ j => 0 ≤ j) fun i j => .int (i / 2 ^ j.toNat)) := opI fun i j _ _ _ _ _ hc q =>
  irshift_int hc (by rw [Int.fdiv_eq_ediv_of_nonneg i (two_pow_nn _)]; exact q)
theorem iop_and : OpR X (inplaceOp .BitAnd) (rI0 fun i j => .int (Builtin.bitAnd i j)) := opI0 fun _ _ _ _ _ _ _ q => iand_int q
theorem iop_or : OpR X (inplaceOp .BitOr) (rI0 fun i j => .int (Builtin.bitOr i j)) := opI0 fun _ _ _ _ _ _ _ q => ior_int q
theorem iop_xor : OpR X (inplaceOp .BitXor) (rI0 fun i j => .int (Builtin.bitXor i j)) := opI0 fun _ _ _ _ _ _ _ q => ixor_int q

theorem unI {f : Value → Sem Value} {g : Int → Int}
    (rule : ∀ (i : Int) (t : Tok) (s : Shared) (Q : Value → Shared → Prop) (E : Value → Shared → Prop), Q (.int (g i) s.toks) { s with toks := s.toks + 1 } → wpAny (model X.prog X.w) X.A (f (.int i t)) Q E s) :
    UnR X f (rU fun i => .int (g i)) := by
  intro pins s σ H x v Q I rx h
  obtain ⟨i, rfl, q⟩ := h
  obtain ⟨t, rfl⟩ := rx
  exact rule i t s _ _ ⟨.int (g i), H, I.tok _, ⟨_, rfl⟩, q⟩
theorem un_neg : UnR X (unaryOp .USub) (rU fun i => .int (-i)) := unI fun _ _ _ _ _ q => neg_int q
theorem un_inv : UnR X (unaryOp .Invert) (rU fun i => .int (Builtin.bitNot i)) := unI fun _ _ _ _ _ q => invert_int q

/-! ### bools among ints: n += (a < b) -/
theorem op_add_ib : OpR X (binaryOp .Add) (fun x y H Q => ∃ i k, x = .int i ∧ y = .bl k ∧ Q (.int (i + b2i k)) H) := by
  intro pins s σ H x y v u Q I rx ry h
  obtain ⟨i, k, rfl, rfl, q⟩ := h
  obtain ⟨t, rfl⟩ := rx
  cases ry
  exact add_int_bool ⟨.int (i + b2i k), H, I.tok _, ⟨_, rfl⟩, q⟩
end

/-! ### comparisons -/
/-- the scalars that == tells apart as data does -/
def scal : V → V → Bool
  | .non, .non => true | .non, .int _ => true | .int _, .non => true | .non, .bl _ => true | .bl _, .non => true | .non, .str _ => true | .str _, .non => true
  | .int _, .int _ => true | .bl _, .bl _ => true | .str _, .str _ => true | .byt _, .byt _ => true
  | .int _, .str _ => true | .str _, .int _ => true | .bl _, .str _ => true | .str _, .bl _ => true
  | _, _ => false
def rEq : R2 := fun x y H Q => scal x y = true ∧ Q (.bl (decide (x = y))) H
def rNe : R2 := fun x y H Q => scal x y = true ∧ Q (.bl (!decide (x = y))) H

theorem dec_int {i j : Int} : decide (V.int i = V.int j) = (i == j) := by
  rw [Bool.eq_iff_iff]
  simp
theorem dec_bl {i j : Bool} : decide (V.bl i = V.bl j) = (i == j) := by
  rw [Bool.eq_iff_iff]
  simp
theorem dec_str {i j : Str} : decide (V.str i = V.str j) = (i == j) := by
  rw [Bool.eq_iff_iff]
  simp
theorem dec_byt {i j : Array UInt8} : decide (V.byt i = V.byt j) = (i.toList == j.toList) := by
  rw [Bool.eq_iff_iff]
  cases i
  cases j
  simp

section
variable {X : Cx} {a b c : Expr} {ta tb tc : TE} {pos : Pos}
theorem fin_bl {pins : List (Addr × Obj)} {σ : St} {H : Hp} {s : Shared} {Q : VK} {k k' : Bool} (I : Inv X pins σ H s) (q : Q (.bl k) H) (e : k = k') : EP X pins σ Q (.bool k') s := by
  subst e
  exact ⟨.bl k, H, I, rfl, q⟩
theorem op_eq : OpR X (compareOp .Eq) rEq := by
  intro pins s σ H x y v u Q I rx ry h
  obtain ⟨hs, q⟩ := h
  cases x with
  | non =>
    cases rx
    cases y with
    | non => cases ry; exact PySem.EqNone.eq_none_none (fin_bl I q (by simp))
    | bl j => cases ry; exact PySem.EqNone.eq_none_bool (fin_bl I q (by simp))
    | int j => obtain ⟨t', rfl⟩ := ry; exact PySem.EqNone.eq_none_int (fin_bl I q (by simp))
    | str j => obtain ⟨t', rfl⟩ := ry; exact PySem.EqNone.eq_none_str (fin_bl I q (by simp))
    | _ => exact absurd (show false = true from hs) Bool.false_ne_true
  | bl i =>
    cases rx
    cases y with
    | non => cases ry; exact PySem.EqNone.eq_bool_none (fin_bl I q (by simp))
    | bl j => cases ry; exact eq_bool (fin_bl I q dec_bl)
    | str j => obtain ⟨t', rfl⟩ := ry; exact PySem.EqMixed.eq_bool_str (fin_bl I q (by simp))
    | _ => exact absurd (show false = true from hs) Bool.false_ne_true
  | int i =>
    obtain ⟨t, rfl⟩ := rx
    cases y with
    | non => cases ry; exact PySem.EqNone.eq_int_none (fin_bl I q (by simp))
    | int j => obtain ⟨t', rfl⟩ := ry; exact eq_int (fin_bl I q dec_int)
    | str j => obtain ⟨t', rfl⟩ := ry; exact PySem.EqMixed.eq_int_str (fin_bl I q (by simp))
    | _ => exact absurd (show false = true from hs) Bool.false_ne_true
  | str i =>
    obtain ⟨t, rfl⟩ := rx
    cases y with
    | non => cases ry; exact PySem.EqNone.eq_str_none (fin_bl I q (by simp))
    | bl j => cases ry; exact PySem.EqMixed.eq_str_bool (fin_bl I q (by simp))
    | int j => obtain ⟨t', rfl⟩ := ry; exact PySem.EqMixed.eq_str_int (fin_bl I q (by simp))
    | str j => obtain ⟨t', rfl⟩ := ry; exact eq_str (fin_bl I q dec_str)
    | _ => exact absurd (show false = true from hs) Bool.false_ne_true
  | byt i =>
    obtain ⟨t, rfl⟩ := rx
    cases y with
    | byt j => obtain ⟨t', rfl⟩ := ry; exact PySem.W.eq_bytes (fin_bl I q dec_byt)
    | _ => exact absurd (show false = true from hs) Bool.false_ne_true
  | _ => cases y <;> exact absurd (show false = true from hs) Bool.false_ne_true
theorem op_ne : OpR X (compareOp .NotEq) rNe := by
  intro pins s σ H x y v u Q I rx ry h
  obtain ⟨hs, q⟩ := h
  cases x with
  | non =>
    cases rx
    cases y with
    | non => cases ry; exact PySem.EqNone.ne_none_none (fin_bl I q (by simp))
    | bl j => cases ry; exact PySem.EqNone.ne_none_bool (fin_bl I q (by simp))
    | int j => obtain ⟨t', rfl⟩ := ry; exact PySem.EqNone.ne_none_int (fin_bl I q (by simp))
    | str j => obtain ⟨t', rfl⟩ := ry; exact PySem.EqNone.ne_none_str (fin_bl I q (by simp))
    | _ => exact absurd (show false = true from hs) Bool.false_ne_true
  | bl i =>
    cases rx
    cases y with
    | non => cases ry; exact PySem.EqNone.ne_bool_none (fin_bl I q (by simp))
    | bl j => cases ry; exact ne_bool (fin_bl I q (congrArg not dec_bl))
    | str j => obtain ⟨t', rfl⟩ := ry; exact PySem.EqMixed.ne_bool_str (fin_bl I q (by simp))
    | _ => exact absurd (show false = true from hs) Bool.false_ne_true
  | int i =>
    obtain ⟨t, rfl⟩ := rx
    cases y with
    | non => cases ry; exact PySem.EqNone.ne_int_none (fin_bl I q (by simp))
    | int j => obtain ⟨t', rfl⟩ := ry; exact ne_int (fin_bl I q (congrArg not dec_int))
    | str j => obtain ⟨t', rfl⟩ := ry; exact PySem.EqMixed.ne_int_str (fin_bl I q (by simp))
    | _ => exact absurd (show false = true from hs) Bool.false_ne_true
  | str i =>
    obtain ⟨t, rfl⟩ := rx
    cases y with
    | non => cases ry; exact PySem.EqNone.ne_str_none (fin_bl I q (by simp))
    | bl j => cases ry; exact PySem.EqMixed.ne_str_bool (fin_bl I q (by simp))
    | int j => obtain ⟨t', rfl⟩ := ry; exact PySem.EqMixed.ne_str_int (fin_bl I q (by simp))
    | str j => obtain ⟨t', rfl⟩ := ry; exact ne_str (fin_bl I q (congrArg not dec_str))
    | _ => exact absurd (show false = true from hs) Bool.false_ne_true
  | byt i =>
    obtain ⟨t, rfl⟩ := rx
    cases y with
    | byt j => obtain ⟨t', rfl⟩ := ry; exact PySem.W.ne_bytes (fin_bl I q (congrArg not dec_byt))
    | _ => exact absurd (show false = true from hs) Bool.false_ne_true
  | _ => cases y <;> exact absurd (show false = true from hs) Bool.false_ne_true

theorem op_lt : OpR X (compareOp .Lt) (rI0 fun i j => .bl (decide (i < j))) := opB0 fun _ _ _ _ _ _ _ q => lt_int q
theorem op_le : OpR X (compareOp .LtE) (rI0 fun i j => .bl (decide (i ≤ j))) := opB0 fun _ _ _ _ _ _ _ q => le_int q
theorem op_gt : OpR X (compareOp .Gt) (rI0 fun i j => .bl (decide (j < i))) := opB0 fun _ _ _ _ _ _ _ q => gt_int q
theorem op_ge : OpR X (compareOp .GtE) (rI0 fun i j => .bl (decide (j ≤ i))) := opB0 fun _ _ _ _ _ _ _ q => ge_int q
theorem op_lt_str : OpR X (compareOp .Lt) (fun x y H Q => ∃ i j, x = .str i ∧ y = .str j ∧ Q (.bl (decide (i.cps.toList < j.cps.toList))) H) := by
  intro pins s σ H x y v u Q I rx ry h
  obtain ⟨i, j, rfl, rfl, q⟩ := h
  obtain ⟨t, rfl⟩ := rx
  obtain ⟨t', rfl⟩ := ry
  exact lt_str (fin_bl I q rfl)
/-- the one string within the other -/
theorem op_in_str : OpR X (compareOp .In) (fun x y H Q => ∃ i j, x = .str i ∧ y = .str j ∧ Q (.bl (!(Builtin.Str.occurrences j i 0 j.length 1).isEmpty)) H) := by
  intro pins s σ H x y v u Q I rx ry h
  obtain ⟨i, j, rfl, rfl, q⟩ := h
  obtain ⟨t, rfl⟩ := rx
  obtain ⟨t', rfl⟩ := ry
  exact in_str (fin_bl I q rfl)

/-- is None, is not None: the right side a value none -/
theorem op_isN : OpR X (compareOp .Is) (fun x y H Q => y = .non ∧ Q (.bl (decide (x = .non))) H) := by
  intro pins s σ H x y v u Q I rx ry h
  obtain ⟨rfl, q⟩ := h
  cases ry
  refine is_none_gen (fin_bl I q ?_)
  cases x <;> first
    | (cases rx; rfl)
    | (obtain ⟨t, rfl⟩ := rx; rfl)
theorem op_notN : OpR X (compareOp .IsNot) (fun x y H Q => y = .non ∧ Q (.bl (!decide (x = .non))) H) := by
  intro pins s σ H x y v u Q I rx ry h
  obtain ⟨rfl, q⟩ := h
  cases ry
  refine isnot_none_gen (fin_bl I q ?_)
  cases x <;> first
    | (cases rx; rfl)
    | (obtain ⟨t, rfl⟩ := rx; rfl)

theorem op_notin_str : OpR X (compareOp .NotIn) (fun x y H Q => ∃ i j, x = .str i ∧ y = .str j ∧ Q (.bl (!(!(Builtin.Str.occurrences j i 0 j.length 1).isEmpty))) H) := by
  intro pins s σ H x y v u Q I rx ry h
  obtain ⟨i, j, rfl, rfl, q⟩ := h
  obtain ⟨t, rfl⟩ := rx
  obtain ⟨t', rfl⟩ := ry
  exact notIn_str (fin_bl I q rfl)
/-- is, is not of two objects that are tracked lists or instances -/
def isObj : HO → Bool
  | .lst _ => true
  | .ins _ _ _ => true
  | _ => false
theorem obj_there {pins : List (Addr × Obj)} {s : Shared} {σ : St} {H : Hp} {a : Addr} {o : HO} (I : Inv X pins σ H s) (h : H a = some o) (p : isObj o = true) : ∃ ob, s.heap.get? a = some ob ∧ ob.cls ≠ .type "tuple" := by
  cases o with
  | lst xs =>
    obtain ⟨_, its, n, _, e⟩ : xs.length ≤ sizeLine ∧ ∃ (its : List Value) (n : Nat), Vals xs its ∧ s.heap.get? a = some { cls := .type "list", data := .seq its.toArray n } := I.hok a _ h
    exact ⟨_, e, (by show Value.type "list" ≠ .type "tuple"; decide +kernel)⟩
  | ins C dx fs =>
    have x := I.hok a _ h
    obtain ⟨_, _, _, e, _⟩ := x
    exact ⟨_, e, (by show Value.ref C ≠ .type "tuple"; exact fun z => by cases z)⟩
  | _ => exact absurd (show false = true from p) Bool.false_ne_true
theorem op_is_ref : OpR X (compareOp .Is) (fun x y H Q => ∃ a b oa ob, x = .ref a ∧ y = .ref b ∧ H a = some oa ∧ isObj oa = true ∧ H b = some ob ∧ isObj ob = true ∧ Q (.bl (decide (a = b))) H) := by
  intro pins s σ H x y v u Q I rx ry h
  obtain ⟨a, b, oa, ob, rfl, rfl, ha, pa, hb, pb, q⟩ := h
  cases rx
  cases ry
  obtain ⟨o1, e1, n1⟩ := obj_there I ha pa
  obtain ⟨o2, e2, _⟩ := obj_there I hb pb
  by_cases z : a = b
  · subst z
    exact wpAny_is_ref_self (fin_bl I q (by simp))
  · exact wpAny_is_ref_other z e1 e2 n1 (fin_bl I q (by simp [z]))
theorem op_isnot_ref : OpR X (compareOp .IsNot) (fun x y H Q => ∃ a b oa ob, x = .ref a ∧ y = .ref b ∧ H a = some oa ∧ isObj oa = true ∧ H b = some ob ∧ isObj ob = true ∧ Q (.bl (!decide (a = b))) H) := by
  intro pins s σ H x y v u Q I rx ry h
  obtain ⟨a, b, oa, ob, rfl, rfl, ha, pa, hb, pb, q⟩ := h
  cases rx
  cases ry
  obtain ⟨o1, e1, n1⟩ := obj_there I ha pa
  obtain ⟨o2, e2, _⟩ := obj_there I hb pb
  by_cases z : a = b
  · subst z
    exact wpAny_isNot_ref_self (fin_bl I q (by simp))
  · exact wpAny_isNot_ref_other z e1 e2 n1 (fin_bl I q (by simp [z]))

/-- two rules for one operation: by cases -/
theorem OpR.or {f : Value → Value → Sem Value} {r r' : R2} (h : OpR X f r) (h' : OpR X f r') : OpR X f (fun x y H Q => r x y H Q ∨ r' x y H Q) := by
  intro pins s σ H x y v u Q I rx ry q
  rcases q with q | q
  · exact h pins s σ H x y v u Q I rx ry q
  · exact h' pins s σ H x y v u Q I rx ry q

theorem nomark (b : Expr) {op : CmpOp} (h : op ≠ .In := by decide) (h2 : op ≠ .NotIn := by decide) : behindInMarks op b = false := by
  have e1 : (op == CmpOp.In) = false := by cases op <;> first | rfl | exact absurd rfl h
  have e2 : (op == CmpOp.NotIn) = false := by cases op <;> first | rfl | exact absurd rfl h2
  cases b <;> simp [behindInMarks, e1, e2]
/-- a comparison as a value; hm: nomark b, or (for in, not in) by with_unfolding_all rfl -/
theorem pe_cmpR {op : CmpOp} {r : R2} (ho : OpR X (compareOp op) r) (ha : PE X a ta) (hb : PE X b tb) (hm : behindInMarks op b = false) : PE X (.Compare a [op] [b] pos) (tOp r ta tb) := by
  intro pins s σ H Q I h
  exact wpAny_Compare1 (binT ha hb I h fun v u s2 x y H2 I2 rx ry q => ho pins s2 σ H2 x y v u Q I2 rx ry q) hm
/-- a reading of a value as a test -/
def tTest (t : TE) : TT := fun σ H Q => t σ H fun x H' => ∃ k, x = .bl k ∧ Q k H'
theorem pt_cmpR {op : CmpOp} {r : R2} (ho : OpR X (compareOp op) r) (ha : PE X a ta) (hb : PE X b tb) (hm : behindInMarks op b = false) : PT X (.Compare a [op] [b] pos) (tTest (tOp r ta tb)) := by
  intro pins s σ H Q I h
  refine wpAny_isTrue_Compare1 (thn (ha pins s σ H _ I h) fun v s1 ⟨x, H1, I1, r1, q1⟩ => thn (hb pins s1 σ H1 _ I1 q1) fun u s2 ⟨y, H2, I2, r2, q2⟩ =>
    thn (ho pins s2 σ H2 x y v u _ I2 r1 r2 q2) fun c s3 ⟨z, H3, I3, r3, k, e, q3⟩ => ?_) hm
  subst e
  cases r3
  exact wpAny_truthy_bool ⟨H3, I3, q3⟩
/-- a op1 b op2 c -/
def tChain (r r' : R2) (ta tb tc : TE) : TE := fun σ H Q => ta σ H fun x H1 => tb σ H1 fun y H2 => r x y H2 fun z H3 => ∃ k, z = .bl k ∧
  (if k = true then tc σ H3 fun w' H4 => r' y w' H4 Q else Q (.bl false) H3)
theorem pe_chain {op op' : CmpOp} {r r' : R2} (ho : OpR X (compareOp op) r) (ho' : OpR X (compareOp op') r') (ha : PE X a ta) (hb : PE X b tb) (hc : PE X c tc)
    (hm : lastMarks [op, op'] [b, c] = false := by with_unfolding_all rfl) : PE X (.Compare a [op, op'] [b, c] pos) (tChain r r' ta tb tc) := by
  intro pins s σ H Q I h
  refine Compare_chain (thn (ha pins s σ H _ I h) fun v s1 ⟨x, H1, I1, r1, q1⟩ => chain_link (thn (hb pins s1 σ H1 _ I1 q1) fun u s2 ⟨y, H2, I2, r2, q2⟩ =>
    thn (ho pins s2 σ H2 x y v u _ I2 r1 r2 q2) fun d s3 ⟨z, H3, I3, r3, k, e, q3⟩ => ?_)) hm
  subst e
  cases r3
  refine wpAny_truthy_bool ?_
  cases k with
  | false => exact ite_ff ⟨.bl false, H3, I3, rfl, q3⟩
  | true => exact ite_tt (chain_last (thn (hc pins s3 σ H3 _ I3 q3) fun w' s4 ⟨z', H4, I4, r4, q4⟩ => ho' pins s4 σ H4 y z' u w' Q I4 r2 r4 q4))
theorem pt_chain {op op' : CmpOp} {r r' : R2} (ho : OpR X (compareOp op) r) (ho' : OpR X (compareOp op') r') (ha : PE X a ta) (hb : PE X b tb) (hc : PE X c tc)
    (hm : lastMarks [op, op'] [b, c] = false := by with_unfolding_all rfl) : PT X (.Compare a [op, op'] [b, c] pos) (tTest (tChain r r' ta tb tc)) := by
  intro pins s σ H Q I h
  refine isTrue_chain (thn (ha pins s σ H _ I h) fun v s1 ⟨x, H1, I1, r1, q1⟩ => test_link (thn (hb pins s1 σ H1 _ I1 q1) fun u s2 ⟨y, H2, I2, r2, q2⟩ =>
    thn (ho pins s2 σ H2 x y v u _ I2 r1 r2 q2) fun d s3 ⟨z, H3, I3, r3, k, e, q3⟩ => ?_)) hm
  subst e
  cases r3
  refine wpAny_truthy_bool ?_
  cases k with
  | false =>
    obtain ⟨k', e', q'⟩ := q3
    cases e'
    exact ite_ff ⟨H3, I3, q'⟩
  | true =>
    refine ite_tt (test_last (thn (hc pins s3 σ H3 _ I3 q3) fun w' s4 ⟨z', H4, I4, r4, q4⟩ => thn (ho' pins s4 σ H4 y z' u w' _ I4 r2 r4 q4) fun d' s5 ⟨z2, H5, I5, r5, k2, e2, q5⟩ => ?_))
    subst e2
    cases r5
    exact wpAny_truthy_bool ⟨H5, I5, q5⟩

/-! ### truth -/
/-- a value's truth by the abstract heap -/
def TruV (K : PySem.W.Frag) (x : V) (H : Hp) (k : Bool) : Prop :=
  match x with
  | .non => k = false
  | .bl b => k = b
  | .int i => k = (i != 0)
  | .str y => y.length ≤ sizeLine ∧ k = ((y.length : Int) != 0)
  | .byt y => y.size ≤ sizeLine ∧ k = ((y.size : Int) != 0)
  | .ref p => (∃ xs, SqL K H p xs ∧ k = !xs.isEmpty) ∨ (∃ xs, SqT K H p xs ∧ k = !xs.isEmpty) ∨ ∃ kvs, H p = some (.dK kvs) ∧ k = !kvs.isEmpty
  | _ => False
theorem isEmpty_kv {κ : Type} {kvs : List (κ × V)} {vs : List (κ × Value)} (r : KV kvs vs) : (!vs.isEmpty) = !kvs.isEmpty := by
  cases r <;> rfl
theorem isEmpty_of {xs : List V} {its : List Value} (r : Vals xs its) : (!its.toArray.isEmpty) = !xs.isEmpty := by
  cases r <;> simp
theorem line63 : (sizeLine : Nat) < 2 ^ 63 := by rw [sizeLine_eq]; decide
theorem tru_ok : TruR X (fun x H Q => ∃ k, TruV X.K x H k ∧ Q k H) := by
  intro pins s σ H x v Q I rx h
  obtain ⟨k, e, q⟩ := h
  have hl := line63
  have hs : sizeLine = 16777216 := sizeLine_eq
  cases x with
  | non =>
    cases rx
    have e' : k = false := e
    subst e'
    exact truthy_none ⟨H, I, q⟩
  | bl b =>
    cases rx
    have e' : k = b := e
    subst e'
    exact wpAny_truthy_bool ⟨H, I, q⟩
  | int i =>
    obtain ⟨t, rfl⟩ := rx
    have e' : k = (i != 0) := e
    subst e'
    exact PySem.P.truthy_int ⟨H, I, q⟩
  | str y =>
    obtain ⟨t, rfl⟩ := rx
    obtain ⟨hy, e'⟩ : y.length ≤ sizeLine ∧ k = ((y.length : Int) != 0) := e
    subst e'
    exact PySem.P.truthy_str (by omega) ⟨H, I.tok _, q⟩
  | byt y =>
    obtain ⟨t, rfl⟩ := rx
    obtain ⟨hy, e'⟩ : y.size ≤ sizeLine ∧ k = ((y.size : Int) != 0) := e
    subst e'
    exact PySem.W.truthy_bytes (by omega) ⟨H, I.tok _, q⟩
  | ref p =>
    cases rx
    have e' : (∃ xs, SqL X.K H p xs ∧ k = !xs.isEmpty) ∨ (∃ xs, SqT X.K H p xs ∧ k = !xs.isEmpty) ∨ ∃ kvs, H p = some (.dK kvs) ∧ k = !kvs.isEmpty := e
    rcases e' with ⟨xs, hx, e'⟩ | ⟨xs, hx, e'⟩ | ⟨kvs, hx, e'⟩
    · subst e'
      obtain ⟨its, r, pl, hz⟩ := I.list hx
      have hlen := r.length
      exact wpAny_truthy_list pl.isList (by simp only [List.size_toArray]; omega) ⟨H, I.tok _, by rw [isEmpty_of r]; exact q⟩
    · subst e'
      obtain ⟨its, r, pl, hz⟩ := I.tuple hx
      have hlen := r.length
      exact truthy_tuple pl (by simp only [List.size_toArray]; omega) ⟨H, I.tok _, by rw [isEmpty_of r]; exact q⟩
    · subst e'
      obtain ⟨hz, hS, vs, r, m⟩ : kvs.length ≤ sizeLine ∧ (p == sysModules) = false ∧ ∃ vs, KV kvs vs ∧ s.heap.DictOf (mixKind X.prog X.w) p vs := I.hok p _ hx
      have hlen : kvs.length = vs.length := Paired.length r
      exact wpAny_truthy_dict hS m (by omega) ⟨H, I.tok _, by rw [isEmpty_kv r]; exact q⟩
  | _ => exact (show False from e).elim
/-- any expression whose test is its value's truth (a name, a call, a subscript, a field ..: he by fun _ => rfl) -/
theorem pt_truth (ha : PE X a ta) (he : ∀ whole, isTrue a X.env whole = (do let v ← whole; standAt a.pos; holding [v] (truthy v))) :
    PT X a (fun σ H Q => ta σ H fun x H' => ∃ k, TruV X.K x H' k ∧ Q k H') := by
  intro pins s σ H Q I h
  exact isTrue_plain (thn (ha pins s σ H _ I h) fun v s1 ⟨x, H1, I1, r1, q1⟩ => tru_ok pins s1 σ H1 x v Q I1 r1 q1) (he _)

/-! ### strs and bytes -/
theorem pe_byt {x : List UInt8} {k : Nat} : PE X (.Constant (.bytes x) k pos) (fun _ H Q => Q (.byt x.toArray) H) := fun _ _ _ H _ I h => PySem.W.Constant_bytes ⟨.byt x.toArray, H, I.tok _, ⟨_, rfl⟩, h⟩
theorem op_add_str : OpR X (binaryOp .Add) (fun x y H Q => ∃ i j, x = .str i ∧ y = .str j ∧ i.length + j.length ≤ sizeLine ∧ Q (.str (i ++ j)) H) := by
  intro pins s σ H x y v u Q I rx ry h
  obtain ⟨i, j, rfl, rfl, hz, q⟩ := h
  obtain ⟨t, rfl⟩ := rx
  obtain ⟨t', rfl⟩ := ry
  exact add_str (fun t' tk => ⟨.str (i ++ j), H, I.tok _, ⟨_, rfl⟩, q⟩) hz
theorem iop_add_str : OpR X (inplaceOp .Add) (fun x y H Q => ∃ i j, x = .str i ∧ y = .str j ∧ i.length + j.length ≤ sizeLine ∧ Q (.str (i ++ j)) H) := by
  intro pins s σ H x y v u Q I rx ry h
  obtain ⟨i, j, rfl, rfl, hz, q⟩ := h
  obtain ⟨t, rfl⟩ := rx
  obtain ⟨t', rfl⟩ := ry
  exact iadd_str (fun t' tk => ⟨.str (i ++ j), H, I.tok _, ⟨_, rfl⟩, q⟩) hz
theorem op_add_byt : OpR X (binaryOp .Add) (fun x y H Q => ∃ i j, x = .byt i ∧ y = .byt j ∧ i.size + j.size ≤ 16777216 ∧ Q (.byt (i ++ j)) H) := by
  intro pins s σ H x y v u Q I rx ry h
  obtain ⟨i, j, rfl, rfl, hz, q⟩ := h
  obtain ⟨t, rfl⟩ := rx
  obtain ⟨t', rfl⟩ := ry
  exact PySem.W.KBy.add_bytes hz (fun t' tk => ⟨.byt (i ++ j), H, I.tok _, ⟨_, rfl⟩, q⟩)

def PlainIxT (b : Expr) : Prop := ∀ o i, subscripted b false o i = operate [o, i] (getItem o i)
/-- s[i], 0 ≤ i < len -/
theorem pe_item_str (ha : PE X a ta) (hb : PE X b tb) (hs : PlainIxT b) :
    PE X (.Subscript a b pos) (tOp (fun x y H Q => ∃ z i c, x = .str z ∧ y = .int i ∧ 0 ≤ i ∧ i < 2 ^ 63 ∧ i < z.length ∧ z.cps[i.toNat]? = some c ∧ Q (.str ⟨#[c]⟩) H) ta tb) := by
  intro pins s σ H Q I h
  refine Subscript_ (binT ha hb I h fun v u s2 x y H2 I2 rx ry q => ?_)
  obtain ⟨z, i, c, rfl, rfl, h0, h63, h1, hc, q⟩ := q
  obtain ⟨t, rfl⟩ := rx
  obtain ⟨t', rfl⟩ := ry
  have e : seqIndex? i z.length = some i.toNat := PySem.StrLaws.seqIndex_nonneg h0 h1
  exact tail_any (typeIs_str s2 z t) slot_str_getitem.lookup (getItem_str (c := c) (by
    have e1 : decide (i < -(2 ^ 63 : Int)) = false := decide_eq_false (by omega)
    have e2 : decide (i ≥ 2 ^ 63) = false := decide_eq_false (by omega)
    rw [e1, e2] <;> rfl) (by rw [e]; exact hc) ⟨.str ⟨#[c]⟩, H2, I2.tok _, ⟨_, rfl⟩, q⟩) (hs _ _)
/-- b[i], 0 ≤ i < len -/
theorem pe_item_byt (ha : PE X a ta) (hb : PE X b tb) (hs : PlainIxT b) :
    PE X (.Subscript a b pos) (tOp (fun x y H Q => ∃ (z : List UInt8) (i : Int), x = .byt z.toArray ∧ y = .int i ∧ z.length ≤ sizeLine ∧ 0 ≤ i ∧ i < z.length ∧ Q (.int ((z.getD i.toNat 0).toNat : Nat)) H) ta tb) := by
  intro pins s σ H Q I h
  refine Subscript_ (binT ha hb I h fun v u s2 x y H2 I2 rx ry q => ?_)
  obtain ⟨z, i, rfl, rfl, hz, h0, h1, q⟩ := q
  obtain ⟨t, rfl⟩ := rx
  obtain ⟨t', rfl⟩ := ry
  have hl : sizeLine = 16777216 := sizeLine_eq
  exact tail_any (PySem.W.typeIs_bytes s2 z.toArray t) PySem.W.FB.slot_bytes_getitem.lookup (PySem.W.getItem_bytes (by omega) h0 h1 ⟨.int ((z.getD i.toNat 0).toNat : Nat), H2, I2.tok _, ⟨_, rfl⟩, q⟩) (hs _ _)

/-! ### scalar builtins, by CallR -/
theorem vals1 {x : V} {us : List Value} (r : Vals [x] us) : ∃ u, us = [u] ∧ RelV x u := by
  cases r with
  | cons r1 r2 => cases r2; exact ⟨_, rfl, r1⟩
theorem vals2 {x y : V} {us : List Value} (r : Vals [x, y] us) : ∃ u w', us = [u, w'] ∧ RelV x u ∧ RelV y w' := by
  cases r with
  | cons r1 r2 =>
    cases r2 with
    | cons r3 r4 => cases r4; exact ⟨_, _, rfl, r1, r3⟩
theorem call_abs : CallR X (.builtin "abs") (fun xs H Q => ∃ i, xs = [.int i] ∧ Q (.int (if i < 0 then -i else i)) H) := by
  intro pins s σ H xs us Q I r h
  obtain ⟨i, rfl, q⟩ := h
  obtain ⟨u, rfl, t, rfl⟩ := vals1 r
  exact call_abs_int fun u tk => ⟨.int (if i < 0 then -i else i), H, I.tok _, ⟨_, rfl⟩, q⟩
theorem call_max2 (hc : X.calm = true) : CallR X (.builtin "max") (fun xs H Q => ∃ i j, xs = [.int i, .int j] ∧ Q (.int (if j > i then j else i)) H) := by
  intro pins s σ H xs us Q I r h
  obtain ⟨i, j, rfl, q⟩ := h
  obtain ⟨u, w', rfl, ⟨t, rfl⟩, ⟨t', rfl⟩⟩ := vals2 r
  refine max_two_ints (I.ok.hd hc) fun h' tk k => ⟨_, H, I.kept k, ?_, q⟩
  by_cases hj : j > i
  · rw [if_pos hj, if_pos hj]; exact ⟨_, rfl⟩
  · rw [if_neg hj, if_neg hj]; exact ⟨_, rfl⟩
theorem call_min2 (hc : X.calm = true) : CallR X (.builtin "min") (fun xs H Q => ∃ i j, xs = [.int i, .int j] ∧ Q (.int (if j < i then j else i)) H) := by
  intro pins s σ H xs us Q I r h
  obtain ⟨i, j, rfl, q⟩ := h
  obtain ⟨u, w', rfl, ⟨t, rfl⟩, ⟨t', rfl⟩⟩ := vals2 r
  refine min_two_ints (I.ok.hd hc) fun h' tk k => ⟨_, H, I.kept k, ?_, q⟩
  by_cases hj : j < i
  · rw [if_pos hj, if_pos hj]; exact ⟨_, rfl⟩
  · rw [if_neg hj, if_neg hj]; exact ⟨_, rfl⟩
theorem call_int1 : CallR X (.type "int") (fun xs H Q => (∃ i, xs = [.int i] ∧ Q (.int i) H) ∨ ∃ k, xs = [.bl k] ∧ Q (.int (if k then 1 else 0)) H) := by
  intro pins s σ H xs us Q I r h
  rcases h with ⟨i, rfl, q⟩ | ⟨k, rfl, q⟩
  · obtain ⟨u, rfl, t, rfl⟩ := vals1 r
    exact call_int_int ⟨.int i, H, I, ⟨_, rfl⟩, q⟩
  · obtain ⟨u, rfl, r1⟩ := vals1 r
    cases r1
    exact call_int_bool ⟨.int (if k then 1 else 0), H, I.tok _, ⟨_, rfl⟩, q⟩
theorem call_bool1 : CallR X (.type "bool") (fun xs H Q => (∃ i, xs = [.int i] ∧ Q (.bl (i != 0)) H) ∨ ∃ k, xs = [.bl k] ∧ Q (.bl k) H) := by
  intro pins s σ H xs us Q I r h
  rcases h with ⟨i, rfl, q⟩ | ⟨k, rfl, q⟩
  · obtain ⟨u, rfl, t, rfl⟩ := vals1 r
    exact call_bool_int ⟨.bl (i != 0), H, I, rfl, q⟩
  · obtain ⟨u, rfl, r1⟩ := vals1 r
    cases r1
    exact call_bool_bool ⟨.bl k, H, I, rfl, q⟩
theorem call_str_int : CallR X (.type "str") (fun xs H Q => ∃ i, xs = [.int i] ∧ i.natAbs.log2 < 1920 ∧ Q (.str (toString i)) H) := by
  intro pins s σ H xs us Q I r h
  obtain ⟨i, rfl, hz, q⟩ := h
  obtain ⟨u, rfl, t, rfl⟩ := vals1 r
  exact PySem.P.str_of_int hz ⟨.str _, H, I.tok _, ⟨_, rfl⟩, q⟩
theorem call_ord : CallR X (.builtin "ord") (fun xs H Q => ∃ x, xs = [.str x] ∧ x.length = 1 ∧ Q (.int (x.cps.getD 0 0 : Nat)) H) := by
  intro pins s σ H xs us Q I r h
  obtain ⟨x, rfl, hz, q⟩ := h
  obtain ⟨u, rfl, t, rfl⟩ := vals1 r
  exact ord_of_one hz ⟨.int _, H, I.tok _, ⟨_, rfl⟩, q⟩
theorem call_chr : CallR X (.builtin "chr") (fun xs H Q => ∃ i, xs = [.int i] ∧ 0 ≤ i ∧ i ≤ 1114111 ∧ Q (.str ⟨#[i.toNat]⟩) H) := by
  intro pins s σ H xs us Q I r h
  obtain ⟨i, rfl, h0, h1, q⟩ := h
  obtain ⟨u, rfl, t, rfl⟩ := vals1 r
  exact chr_of_range h0 h1 ⟨.str _, H, I.tok _, ⟨_, rfl⟩, q⟩
/-- len of a str, a bytes, a list, a tuple -/
def LenV (K : PySem.W.Frag) (x : V) (H : Hp) (n : Nat) : Prop :=
  match x with
  | .str y => y.length ≤ sizeLine ∧ n = y.length
  | .byt y => y.size ≤ sizeLine ∧ n = y.size
  | .ref p => (∃ xs, SqL K H p xs ∧ n = xs.length) ∨ ∃ xs, SqT K H p xs ∧ n = xs.length
  | _ => False
theorem call_len : CallR X (.builtin "len") (fun xs H Q => ∃ x n, xs = [x] ∧ LenV X.K x H n ∧ Q (.int n) H) := by
  intro pins s σ H xs us Q I r h
  obtain ⟨x, n, rfl, e, q⟩ := h
  obtain ⟨u, rfl, rx⟩ := vals1 r
  have hl := line63
  have hs : sizeLine = 16777216 := sizeLine_eq
  cases x with
  | str y =>
    obtain ⟨t, rfl⟩ := rx
    obtain ⟨hy, e'⟩ : y.length ≤ sizeLine ∧ n = y.length := e
    subst e'
    exact len_str (by omega) ⟨.int _, H, I.tok _, ⟨_, rfl⟩, q⟩
  | byt y =>
    obtain ⟨t, rfl⟩ := rx
    obtain ⟨hy, e'⟩ : y.size ≤ sizeLine ∧ n = y.size := e
    subst e'
    exact PySem.W.len_bytes (by omega) ⟨.int _, H, I.tok _, ⟨_, rfl⟩, q⟩
  | ref p =>
    cases rx
    have e' : (∃ xs, SqL X.K H p xs ∧ n = xs.length) ∨ ∃ xs, SqT X.K H p xs ∧ n = xs.length := e
    rcases e' with ⟨xs, hx, e'⟩ | ⟨xs, hx, e'⟩
    · subst e'
      obtain ⟨its, r', pl, hz⟩ := I.list hx
      have hlen := r'.length
      exact Calls.call_len_list pl.isList (by simp only [List.size_toArray]; omega) ⟨.int xs.length, H, I.tok _, ⟨_, by simp only [List.size_toArray]; rw [hlen]⟩, q⟩
    · subst e'
      obtain ⟨its, r', pl, hz⟩ := I.tuple hx
      have hlen := r'.length
      exact len_tuple pl (by simp only [List.size_toArray]; omega) ⟨.int xs.length, H, I.tok _, ⟨_, by simp only [List.size_toArray]; rw [hlen]⟩, q⟩
  | _ => exact (show False from e).elim
/-- divmod: a new tuple -/
theorem call_divmod : CallR X (.builtin "divmod") (fun xs H Q => ∃ i j, xs = [.int i, .int j] ∧ CDiv i j ∧ ∀ p, H p = none → Q (.ref p) (upd H p (.tup [.int (i / j), .int (i % j)]))) := by
  intro pins s σ H xs us Q I r h
  obtain ⟨i, j, rfl, ⟨h1, h2⟩, q⟩ := h
  obtain ⟨u, w', rfl, ⟨t, rfl⟩, ⟨t', rfl⟩⟩ := vals2 r
  refine divmod_int (by omega) ?_ (.inl (PyProof.noPylong_small (by omega)))
  rw [Int.fdiv_eq_ediv_of_nonneg i (by omega), Int.fmod_eq_emod_of_nonneg i (by omega)]
  have hn : H s.heap.objs.size = none := I.hok.fresh (Nat.le_refl _)
  refine ⟨.ref s.heap.objs.size, _, ?_, rfl, q _ hn⟩
  refine I.laid (fun b o e => Heap.get?_push_of_some _ e) (Nat.le_refl _) ⟨by simp only [List.length_cons, List.length_nil]; rw [sizeLine_eq]; decide, [.int (i / j) s.toks, .int (i % j) (s.toks + 1)], .cons ⟨_, rfl⟩ (.cons ⟨_, rfl⟩ .nil), ?_⟩
  exact ⟨_, Heap.get?_push_size s.heap rfl, rfl, 0, rfl⟩
end
end L2

namespace L2
open PySem PySem.Spec PyProof.Rows

/-! ### an instance, its attributes a map -/
structure ObjM (h : Heap) (x dx C : Addr) (mA : Str → Option Value) : Prop where
  obj : h.get? x = some (PySem.W.instObj C dx)
  ns : h.Ns1 dx mA
  ne : dx ≠ x

theorem lookIn_ns {h : Heap} {dx : Addr} {mA : Str → Option Value} (n : h.Ns1 dx mA) : ∃ od, h.get? dx = some od ∧ ∀ name, PySem.W.lookIn name od = some (mA name) := by
  obtain ⟨o, es, ep, ho, hd, hk, _, hm⟩ := n
  refine ⟨o, ho, fun name => ?_⟩
  have e := hm name
  unfold nsFind findBy at e
  rw [← Array.find?_toList] at e
  unfold PySem.W.lookIn
  rw [hd]
  dsimp only
  split
  · rename_i y q
    rw [q] at e
    exact congrArg some e
  · rename_i q
    rw [q] at e
    have a : es.toList.any (·.refKey) = false := by
      rw [List.any_eq_false]
      intro y hy
      obtain ⟨z, t, hkey⟩ := hk y (Array.mem_toList_iff.mp hy)
      simp [DictEntry.refKey, hkey]
    have a' : ¬ es.toList.any (·.refKey) = true := by rw [a]; exact Bool.false_ne_true
    rw [if_neg a']
    exact congrArg some e

theorem ObjM.look {h : Heap} {x dx C : Addr} {mA : Str → Option Value} (I : ObjM h x dx C mA) : ∃ od, PySem.W.InstAt h x (PySem.W.instObj C dx) C (some od) ∧ ∀ name, PySem.W.lookIn name od = some (mA name) :=
  let ⟨od, ho, hl⟩ := lookIn_ns I.ns
  ⟨od, ⟨I.obj, rfl, rfl, ho⟩, hl⟩

section
variable {prog : Program} {w : World} {A : Around} {E : Value → Shared → Prop} {s : Shared} {K : PySem.W.Frag} {x dx C f : Addr} {mA : Str → Option Value} {name : Str} {v : Value}

theorem get_map {expr : Bool} {Q : Value → Shared → Prop} (X : K.In s.heap) (I : ObjM s.heap x dx C mA) (hg : PySem.W.plainGet K C name = true) (hh : PySem.W.hasDictIn K C = true)
    (ha : PySem.W.findIn K (.ref C) name = some none) (hv : mA name = some v) (hv' : PySem.W.handedIn v = true) (h : Q v { s with toks := s.toks + 1 }) :
    wpAny (model prog w) A (getAttr (.ref x) name expr) Q E s := by
  obtain ⟨od, J, hl⟩ := I.look
  exact PySem.W.get_value X J (PySem.W.plainGet_of hg).1 (PySem.W.findObj_own hh ha rfl (by rw [hl, hv])) hv' h

theorem get_const {expr : Bool} {a : Value} {Q : Value → Shared → Prop} (X : K.In s.heap) (I : ObjM s.heap x dx C mA) (hg : PySem.W.plainGet K C name = true) (hh : PySem.W.hasDictIn K C = true)
    (ha : PySem.W.findIn K (.ref C) name = some (some a)) (hn : PySem.W.specialIn K a "__get__" = some none) (hc : PySem.W.copiedNames.contains name = false) (hv : mA name = none) (hv' : PySem.W.handedIn a = true)
    (h : Q a { s with toks := s.toks + 1 }) : wpAny (model prog w) A (getAttr (.ref x) name expr) Q E s := by
  obtain ⟨od, J, hl⟩ := I.look
  exact PySem.W.get_value X J (PySem.W.plainGet_of hg).1 (PySem.W.findObj_cls hh ha hn hv' hc (by rw [hl, hv])) hv' h

theorem get_meth {pl : Sem Bool} {Q : Value × List Value → Shared → Prop} (X : K.In s.heap) (I : ObjM s.heap x dx C mA) (hg : PySem.W.plainGet K C name = true)
    (hf : PySem.W.findIn K (.ref C) name = some (some (.ref f))) (ht : PySem.W.isFn K (.ref f) = true) (hv : mA name = none) (h : Q (.ref f, [.ref x]) s) :
    wpAny (model prog w) A (getMethod (.ref x) name pl) Q E s := by
  obtain ⟨od, J, hl⟩ := I.look
  exact PySem.W.method_fn X J (PySem.W.plainGet_of hg).1 (PySem.W.plainGet_of hg).2 hf (beq_iff_eq.mp ht) (by show (PySem.W.lookIn name od).map (·.isSome) = some false; rw [hl, hv]; rfl) h

theorem set_map {ns : List Str} {Q : Unit → Shared → Prop} (X : K.In s.heap) (I : ObjM s.heap x dx C mA)
    (hs : PySem.W.findIn K (.ref C) "__setattr__" = some (some (.builtin "object.__setattr__"))) (hp : PySem.W.plainOver K C = true) (ht : PySem.W.takerIn K C name = some none) (hh : PySem.W.hasDictIn K C = true)
    (hw : PySem.Within mA ns) (hsz : ns.length ≤ sizeLine)
    (h : ∀ h', ObjM h' x dx C (fun y => if y = name then some v else mA y) → Heap.SameBut dx s.heap h' → Q () { s with heap := h', toks := s.toks + 2 }) :
    wpAny (model prog w) A (setAttr (.ref x) name v) Q E s := by
  obtain ⟨od, J, hl⟩ := I.look
  refine PySem.W.set_plain X J hs (PySem.W.osa_open (s := { s with toks := s.toks + 1 }) (r := none) X J hp ht fun b => ?_)
  obtain ⟨cd, hc, hd'⟩ := PySem.W.any_some hh
  have hx : s.heap.get? x = some ⟨.ref C, some dx, .plain, #[]⟩ := I.obj
  refine wpAny_bind (wpAny_pure (wpAny_bind (wpAny_bind (wpAny_loadPart hx (wpAny_bind (PySem.W.Looks.here (s := { s with toks := s.toks + 1 }) (PySem.W.looks_clsIn X hc) ?_))))))
  rw [hd']
  refine wpAny_pure (a := some dx) (wpAny_bind (wpAny_pure (wpAny_bind ?_)))
  refine wpAny_nsSet1 (s := { s with toks := s.toks + 1 }) I.ns fun h' hn2 hs2 => ?_
  obtain ⟨oD, esD, epD, hoD, hdD, hcD⟩ := hn2.count (PySem.Within.cons name v hw)
  refine wpAny_bind (wpAny_lookBehind hoD (by rw [hdD]; exact pastItsLine_dict (Nat.le_trans hcD (by rw [List.length_cons]; omega))) ?_)
  exact wpAny_pure (h _ ⟨(hs2.2 _ (Ne.symm I.ne)).trans I.obj, hn2, I.ne⟩ hs2)

/-- C(..): the dict at the heap's end, the instance behind it; then its __init__ -/
theorem make_map {R : Result → Shared → Prop} {vs : List Value} {kw : List (Str × Value)} (X : K.In s.heap) (hm : PySem.W.makesIn K C = true)
    (hi : PySem.W.findIn K (.ref C) "__init__" = some (some (.ref f))) (hf : PySem.W.typeIn K (.ref f) = some (.type "function"))
    (h : codeAny (model prog w) (A.under (.builtin "type.__call__" ⟨.ref C :: vs, kw⟩)) (.call (.ref f) ⟨.ref (s.heap.objs.size + 1) :: vs, kw⟩) (PySem.W.InitBack (s.heap.objs.size + 1) R)
      { s with heap := (s.heap.push PySem.W.emptyDict).push (PySem.W.instObj C s.heap.objs.size) }) :
    codeAny (model prog w) A (.call (.ref C) ⟨vs, kw⟩) R s := by
  obtain ⟨hh, g, d, t, os⟩ := s
  exact PySem.W.make_core (PySem.W.makes_of X hm) (PySem.W.looks_findIn X hi) (fun self => PySem.W.bind_fn X self hf) (.inl rfl) h
/-- C() where there is no __init__ but object's -/
theorem make_map0 {R : Result → Shared → Prop} (X : K.In s.heap) (hm : PySem.W.makesIn K C = true)
    (hi : PySem.W.findIn K (.ref C) "__init__" = some (some (.builtin "object.__init__")))
    (hb : ∀ self, PySem.W.Looks (model prog w) s.heap (bindSpecial (.builtin "object.__init__") self) (.builtin "object.__init__", [self]))
    (h : codeAny (model prog w) (A.under (.builtin "type.__call__" ⟨[.ref C], []⟩)) (.call (.builtin "object.__init__") ⟨[.ref (s.heap.objs.size + 1)], []⟩) (PySem.W.InitBack (s.heap.objs.size + 1) R)
      { s with heap := (s.heap.push PySem.W.emptyDict).push (PySem.W.instObj C s.heap.objs.size) }) :
    codeAny (model prog w) A (.call (.ref C) ⟨[], []⟩) R s := by
  obtain ⟨hh, g, d, t, os⟩ := s
  exact PySem.W.make_core (PySem.W.makes_of X hm) (PySem.W.looks_findIn X hi) hb (.inr ⟨rfl, rfl⟩) h
end

/-! ### the attributes as a list of pairs -/
def putF (f : Str) (v : V) : List (Str × V) → List (Str × V)
  | [] => [(f, v)]
  | (g, x) :: r => if g = f then (g, v) :: r else (g, x) :: putF f v r
theorem lookup_putF (f g : Str) (v : V) : ∀ fs : List (Str × V), (putF f v fs).lookup g = if g = f then some v else fs.lookup g
  | [] => by
    show List.lookup g [(f, v)] = _
    by_cases h : g = f
    · have hb : (g == f) = true := beq_iff_eq.mpr h
      simp only [List.lookup, hb, if_pos h]
    · have hb : (g == f) = false := beq_eq_false_iff_ne.mpr h
      simp only [List.lookup, hb, if_neg h]
  | (k, x) :: r => by
    have ih := lookup_putF f g v r
    rw [show putF f v ((k, x) :: r) = (if k = f then (k, v) :: r else (k, x) :: putF f v r) from rfl]
    by_cases hk : k = f
    · rw [if_pos hk]
      by_cases h : g = k
      · have hb : (g == k) = true := beq_iff_eq.mpr h
        simp only [List.lookup, hb, if_pos (h.trans hk)]
      · have hb : (g == k) = false := beq_eq_false_iff_ne.mpr h
        simp only [List.lookup, hb, if_neg (fun e : g = f => h (e.trans hk.symm))]
    · rw [if_neg hk]
      by_cases h : g = k
      · have hb : (g == k) = true := beq_iff_eq.mpr h
        simp only [List.lookup, hb, if_neg (fun e : g = f => hk (h.symm.trans e))]
      · have hb : (g == k) = false := beq_eq_false_iff_ne.mpr h
        simp only [List.lookup, hb]
        exact ih
theorem keys_putF (f : Str) (v : V) : ∀ fs : List (Str × V), f ∈ (putF f v fs).map (·.1) ∧ ∀ g, g ∈ fs.map (·.1) → g ∈ (putF f v fs).map (·.1)
  | [] => ⟨by simp [putF], fun g h => by simp at h⟩
  | (k, x) :: r => by
    obtain ⟨i1, i2⟩ := keys_putF f v r
    rw [show putF f v ((k, x) :: r) = (if k = f then (k, v) :: r else (k, x) :: putF f v r) from rfl]
    by_cases hk : k = f
    · rw [if_pos hk]
      subst hk
      exact ⟨by simp, fun g h => by simpa using h⟩
    · rw [if_neg hk]
      refine ⟨?_, fun g h => ?_⟩
      · rw [List.map_cons]
        exact List.mem_cons_of_mem _ i1
      · rw [List.map_cons] at h ⊢
        rcases List.mem_cons.mp h with e | e
        · exact List.mem_cons.mpr (.inl e)
        · exact List.mem_cons_of_mem _ (i2 g e)
theorem length_putF (f : Str) (v : V) : ∀ fs : List (Str × V), (putF f v fs).length ≤ fs.length + 1
  | [] => by simp [putF]
  | (k, x) :: r => by
    have ih := length_putF f v r
    rw [show putF f v ((k, x) :: r) = (if k = f then (k, v) :: r else (k, x) :: putF f v r) from rfl]
    by_cases hk : k = f
    · rw [if_pos hk, List.length_cons, List.length_cons]; omega
    · rw [if_neg hk, List.length_cons, List.length_cons]; omega

theorem RelO.some_of {v : V} {o : Option Value} (r : RelO (some v) o) : ∃ u, o = some u ∧ RelV v u := by
  cases o with
  | none => exact (show False from r).elim
  | some u => exact ⟨u, rfl, r⟩
theorem RelO.none_of {o : Option Value} (r : RelO none o) : o = none := by
  cases o with
  | none => rfl
  | some u => exact (show False from r).elim
theorem handed_of {v : V} {u : Value} (r : RelV v u) : PySem.W.handedIn u = true := by
  cases v with
  | non => cases (show u = Value.none from r); rfl
  | bl b => cases (show u = Value.bool b from r); rfl
  | int i => obtain ⟨t, e⟩ := (show ∃ t, u = Value.int i t from r); cases e; rfl
  | str x => obtain ⟨t, e⟩ := (show ∃ t, u = Value.str x t from r); cases e; rfl
  | byt b => obtain ⟨t, e⟩ := (show ∃ t, u = Value.bytes b t from r); cases e; rfl
  | flt b => obtain ⟨t, e⟩ := (show ∃ t, u = Value.float b t from r); cases e; rfl
  | ref a => cases (show u = Value.ref a from r); rfl
  | ty n => cases (show u = Value.type n from r); rfl

section
variable {P : Program} {w : World} {H H' : Hp} {h h' : Heap} {a C dx : Addr} {fs fs' : List (Str × V)}
theorem ins_get (hok : HOk P w H h) (e : H a = some (.ins C dx fs)) : ∃ mA, ObjM h a dx C mA ∧ (∀ f, RelO (fs.lookup f) (mA f)) ∧ PySem.Within mA (fs.map (·.1)) ∧ fs.length ≤ 1000 ∧ H dx = some (.own a) := by
  obtain ⟨d, z, ne, ob, mA, n, r, q⟩ := (show ObjOk P w H h a (.ins C dx fs) from hok a _ e)
  exact ⟨mA, ⟨ob, n, ne⟩, r, q, z, d⟩
end

/-! ### what of the text a class must have -/
structure Cls (K : PySem.W.Frag) (C : Addr) : Prop where
  pg : PySem.W.plainGet K C Str.empty = true
  hd : PySem.W.hasDictIn K C = true
  po : PySem.W.plainOver K C = true
  sa : PySem.W.findIn K (.ref C) "__setattr__" = some (some (.builtin "object.__setattr__"))
theorem Cls.get {K : PySem.W.Frag} {C : Addr} (c : Cls K C) (f : Str) : PySem.W.plainGet K C f = true := c.pg
/-- no class of it has the name -/
def NoAttr (K : PySem.W.Frag) (C : Addr) (f : Str) : Prop := PySem.W.findIn K (.ref C) f = some none
theorem NoAttr.taker {K : PySem.W.Frag} {C : Addr} {f : Str} (n : NoAttr K C f) : PySem.W.takerIn K C f = some none := by
  unfold PySem.W.takerIn
  rw [show PySem.W.findIn K (.ref C) f = some none from n]
  rfl
/-- a constant of the class -/
structure Con (K : PySem.W.Frag) (C : Addr) (f : Str) (v : V) (u : Value) : Prop where
  at_ : PySem.W.findIn K (.ref C) f = some (some u)
  rel : RelV v u
  get : PySem.W.specialIn K u "__get__" = some none
  cp : PySem.W.copiedNames.contains f = false
/-- a method: a plain def of the class or of one above it -/
structure Meth (K : PySem.W.Frag) (C : Addr) (m : Str) (f : Addr) : Prop where
  at_ : PySem.W.findIn K (.ref C) m = some (some (.ref f))
  fn : PySem.W.isFn K (.ref f) = true
  kp : PySem.W.keepIn K (.ref f) = true

section
variable {X : Cx} {pins : List (Addr × Obj)} {σ : St} {H : Hp} {s : Shared} {a C dx : Addr} {fs : List (Str × V)} {f : Str} {v : V} {A : Around} {E : Value → Shared → Prop}

theorem getattr_ok {b : Bool} {Q : Value → Shared → Prop} (I : Inv X pins σ H s) (e : H a = some (.ins C dx fs)) (c : Cls X.K C) (n : NoAttr X.K C f) (l : fs.lookup f = some v)
    (h : ∀ u s', Inv X pins σ H s' → RelV v u → Q u s') : wpAny (model X.prog X.w) A (getAttr (.ref a) f b) Q E s := by
  obtain ⟨mA, O, r, _, _, _⟩ := ins_get I.hok e
  obtain ⟨u, hu, ru⟩ := RelO.some_of (v := v) (o := mA f) (by rw [← l]; exact r f)
  exact get_map I.kIn O (c.get f) c.hd n hu (handed_of ru) (h u _ (I.tok _) ru)

theorem getcon_ok {b : Bool} {u : Value} {Q : Value → Shared → Prop} (I : Inv X pins σ H s) (e : H a = some (.ins C dx fs)) (c : Cls X.K C) (k : Con X.K C f v u) (l : fs.lookup f = none)
    (h : ∀ s', Inv X pins σ H s' → Q u s') : wpAny (model X.prog X.w) A (getAttr (.ref a) f b) Q E s := by
  obtain ⟨mA, O, r, _, _, _⟩ := ins_get I.hok e
  have hn : mA f = none := RelO.none_of (by rw [← l]; exact r f)
  exact get_const I.kIn O (c.get f) c.hd k.at_ k.get k.cp hn (handed_of k.rel) (h _ (I.tok _))

theorem getmeth_ok {m : Str} {g : Addr} {pl : Sem Bool} {Q : Value × List Value → Shared → Prop} (I : Inv X pins σ H s) (e : H a = some (.ins C dx fs)) (c : Cls X.K C) (k : Meth X.K C m g) (l : fs.lookup m = none)
    (h : Q (.ref g, [.ref a]) s) : wpAny (model X.prog X.w) A (getMethod (.ref a) m pl) Q E s := by
  obtain ⟨mA, O, r, _, _, _⟩ := ins_get I.hok e
  have hn : mA m = none := RelO.none_of (by rw [← l]; exact r m)
  exact get_meth I.kIn O (c.get m) k.at_ k.fn hn h

theorem setattr_ok {y : V} {u : Value} {Q : Unit → Shared → Prop} (I : Inv X pins σ H s) (e : H a = some (.ins C dx fs)) (c : Cls X.K C) (n : NoAttr X.K C f) (hl : fs.length < 1000) (ry : RelV y u)
    (h : ∀ s', Inv X pins σ (upd H a (.ins C dx (putF f y fs))) s' → Q () s') : wpAny (model X.prog X.w) A (setAttr (.ref a) f u) Q E s := by
  obtain ⟨mA, O, r, wi, _, ho⟩ := ins_get I.hok e
  have hz : (fs.map (·.1)).length ≤ sizeLine := by rw [List.length_map, sizeLine_eq]; omega
  refine set_map I.kIn O c.sa c.po n.taker c.hd wi hz fun h' O' sb => h _ ?_
  have hd : ∃ o, h'.get? dx = some o := let ⟨o, _, _, e', _⟩ := O'.ns; ⟨o, e'⟩
  refine I.write (x := a) (e := dx) (by rw [e]; exact True.intro) (.inr ho) (fun b q hb z => (sb.2 b hb).trans z) hd ?_
  refine ⟨by rw [upd_ne O.ne]; exact ho, ?_, O.ne, O'.obj, _, O'.ns, fun g => ?_, fun g hg => ?_⟩
  · have := length_putF f y fs; omega
  · show RelO ((putF f y fs).lookup g) (if g = f then some u else mA g)
    rw [lookup_putF]
    by_cases q : g = f
    · rw [if_pos q, if_pos q]; exact ry
    · rw [if_neg q, if_neg q]; exact r g
  · by_cases q : g = f
    · rw [q]; exact (keys_putF f y fs).1
    · refine (keys_putF f y fs).2 g (wi g fun z => hg ?_)
      show (if g = f then some u else mA g) = none
      rw [if_neg q]; exact z

/-- a new instance, tracked, without attributes -/
theorem Inv.made (I : Inv X pins σ H s) : Inv X pins σ (upd (upd H s.heap.objs.size (.own (s.heap.objs.size + 1))) (s.heap.objs.size + 1) (.ins C s.heap.objs.size []))
    { s with heap := (s.heap.push PySem.W.emptyDict).push (PySem.W.instObj C s.heap.objs.size) } := by
  have e1 : (s.heap.push PySem.W.emptyDict).get? s.heap.objs.size = some PySem.W.emptyDict := Heap.get?_push_size s.heap rfl
  have e2 : ((s.heap.push PySem.W.emptyDict).push (PySem.W.instObj C s.heap.objs.size)).get? (s.heap.objs.size + 1) = some (PySem.W.instObj C s.heap.objs.size) := by
    have := Heap.get?_push_size (s.heap.push PySem.W.emptyDict) (o := PySem.W.instObj C s.heap.objs.size) rfl
    rwa [Heap.size_push] at this
  have e3 : (s.heap.push PySem.W.emptyDict).Ns s.heap.objs.size (fun _ => none) := ⟨PySem.W.emptyDict, #[], _, e1, rfl, (fun e he => absurd he (by simp)), fun _ => rfl⟩
  have I1 := I.laid (a := s.heap.objs.size) (o := .own (s.heap.objs.size + 1)) (h' := s.heap.push PySem.W.emptyDict) (t' := s.toks) (fun b u q => Heap.get?_push_of_some _ q) (Nat.le_refl _) ⟨_, e1⟩
  refine I1.laid (a := s.heap.objs.size + 1) (o := .ins C s.heap.objs.size []) (t' := s.toks) (fun b u q => Heap.get?_push_of_some _ q) (Nat.le_of_eq (Heap.size_push _ _)) ?_
  have ne : s.heap.objs.size ≠ s.heap.objs.size + 1 := Nat.ne_of_lt (Nat.lt_succ_self _)
  refine ⟨by rw [upd_ne ne, upd_same], Nat.zero_le _, ne, e2, fun _ => none, (Heap.Ns1.of_empty e3).at fun o q => Heap.get?_push_of_some _ q, fun _ => True.intro, fun y hy => absurd rfl hy⟩

/-- e.f where nothing but the object is asked: through attributeBase (super) and the last hold -/
theorem attr_of {prog : Program} {w : World} {env : Env} {e : Expr} {f : Str} {pos : Pos} {s : Shared} {Q : Value → Shared → Prop} (hb : attributeBase e f env (eval e env) = eval e env)
    (h : wpAny (model prog w) A (eval e env) (fun o s₁ => wpAny (model prog w) A (getAttr o f true) Q E s₁) E s) : wpAny (model prog w) A (eval (.Attribute e f pos) env) Q E s :=
  Attribute_any_ h (by rw [arm_eval_Attribute, hb])
end

/-! ### readings and rules -/
/-- e.f, an attribute of the instance -/
def tFld (K : PySem.W.Frag) (ta : TE) (f : Str) : TE := fun σ H Q => ta σ H fun x H1 => ∃ a C dx fs v, x = .ref a ∧ H1 a = some (.ins C dx fs) ∧ Cls K C ∧ NoAttr K C f ∧ fs.lookup f = some v ∧ Q v H1
/-- e.f, a constant of the class -/
def tCon (K : PySem.W.Frag) (ta : TE) (f : Str) : TE := fun σ H Q => ta σ H fun x H1 => ∃ a C dx fs v u, x = .ref a ∧ H1 a = some (.ins C dx fs) ∧ Cls K C ∧ Con K C f v u ∧ fs.lookup f = none ∧ Q v H1
/-- e.f = value -/
def sFld (K : PySem.W.Frag) (ta tv : TE) (f : Str) : TS := fun D σ H => tv σ H fun y H1 => ta σ H1 fun x H2 => ∃ a C dx fs, x = .ref a ∧ H2 a = some (.ins C dx fs) ∧ Cls K C ∧ NoAttr K C f ∧ fs.length < 1000 ∧
  D.nx σ (upd H2 a (.ins C dx (putF f y fs)))
/-- an augmented operator on two values -/
def InOp (X : Cx) (op : Operator) (rd : V → V → Hp → VK → Prop) : Prop :=
  ∀ (pins : List (Addr × Obj)) (s : Shared) (σ : St) (H : Hp) (x y : V) (u v : Value) (Q : VK), Inv X pins σ H s → RelV x u → RelV y v → rd x y H Q → wpAny (model X.prog X.w) X.A (inplaceOp op u v) (EP X pins σ Q) X.xe s
/-- e.f op= value -/
def sFldAug (K : PySem.W.Frag) (ta tv : TE) (rd : V → V → Hp → VK → Prop) (f : Str) : TS := fun D σ H => ta σ H fun x H1 => ∃ a C dx fs v, x = .ref a ∧ H1 a = some (.ins C dx fs) ∧ Cls K C ∧ NoAttr K C f ∧ fs.lookup f = some v ∧
  tv σ H1 fun y H2 => rd v y H2 fun z H3 => ∃ dx' fs', H3 a = some (.ins C dx' fs') ∧ fs'.length < 1000 ∧ D.nx σ (upd H3 a (.ins C dx' (putF f z fs')))

section
variable {X : Cx} {o e value : Expr} {f : Str} {pos pos' tpos : Pos} {ta tv : TE}
theorem pe_fld (he : PE X e ta) (hb : attributeBase e f X.env (eval e X.env) = eval e X.env) : PE X (.Attribute e f pos) (tFld X.K ta f) := by
  intro pins s σ H Q I h
  refine attr_of hb (thn (he pins s σ H _ I h) fun u s1 ⟨x, H1, I1, rx, a, C, dx, fs, v, ex, ea, c, n, l, q⟩ => ?_)
  subst ex
  obtain rfl : u = Value.ref a := rx
  exact getattr_ok I1 ea c n l fun u' s2 I2 ru => ⟨v, H1, I2, ru, q⟩
theorem pe_con (he : PE X e ta) (hb : attributeBase e f X.env (eval e X.env) = eval e X.env) : PE X (.Attribute e f pos) (tCon X.K ta f) := by
  intro pins s σ H Q I h
  refine attr_of hb (thn (he pins s σ H _ I h) fun u s1 ⟨x, H1, I1, rx, a, C, dx, fs, v, u0, ex, ea, c, k, l, q⟩ => ?_)
  subst ex
  obtain rfl : u = Value.ref a := rx
  exact getcon_ok I1 ea c k l fun s2 I2 => ⟨v, H1, I2, k.rel, q⟩
theorem ps_fld (ha : PE X o ta) (hv : PE X value tv) (hs : swapsWith value (some (.Attribute o f pos')) pos.line X.env = pure false) : PS X (.Assign [.Attribute o f pos'] value pos) (sFld X.K ta tv f) := by
  intro pins s σ H D I h
  refine plainObj_wpAny_Assign_Attribute (thn (hv pins s σ H _ I h) fun u s1 ⟨y, H1, I1, ry, q⟩ => thn (ha pins s1 σ H1 _ I1 q) fun ov s2 ⟨x, H2, I2, rx, a, C, dx, fs, ex, ea, c, n, l, q2⟩ => ?_) hs
  subst ex
  obtain rfl : ov = Value.ref a := rx
  exact setattr_ok I2 ea c n l ry fun s3 I3 => ⟨σ, _, I3, q2⟩
theorem ps_fldaug {op : Operator} {rd : V → V → Hp → VK → Prop} (ha : PE X o ta) (hv : PE X value tv) (hop : InOp X op rd) : PS X (.AugAssign (.Attribute o f tpos) op value pos) (sFldAug X.K ta tv rd f) := by
  intro pins s σ H D I h
  refine wpAny_AugAssign_AttributeAny (thn (ha pins s σ H _ I h) fun ov s1 ⟨x, H1, I1, rx, a, C, dx, fs, v, ex, ea, c, n, l, q⟩ => ?_)
  subst ex
  obtain rfl : ov = Value.ref a := rx
  refine getattr_ok I1 ea c n l fun u s2 I2 ru => thn (hv pins s2 σ H1 _ I2 q) fun w3 s3 ⟨y, H2, I3, ry, q3⟩ => thn (hop pins s3 σ H2 v y u w3 _ I3 ru ry q3) fun w4 s4 ⟨z, H3, I4, rz, dx', fs', ea', l', q4⟩ => ?_
  exact setattr_ok I4 ea' c n l' rz fun s5 I5 => ⟨σ, _, I5, q4⟩
def rAdd : V → V → Hp → VK → Prop := fun x y H Q => ∃ i j, x = .int i ∧ y = .int j ∧ Q (.int (i + j)) H
def rSub : V → V → Hp → VK → Prop := fun x y H Q => ∃ i j, x = .int i ∧ y = .int j ∧ Q (.int (i - j)) H
theorem in_add : InOp X .Add rAdd := by
  rintro pins s σ H x y u v Q I rx ry ⟨i, j, rfl, rfl, q⟩
  obtain ⟨t, rfl⟩ := (show ∃ t, u = Value.int i t from rx)
  obtain ⟨t', rfl⟩ := (show ∃ t', v = Value.int j t' from ry)
  exact PyProof.Rows.iadd_int ⟨.int (i + j), H, I.tok _, ⟨_, rfl⟩, q⟩
theorem in_sub : InOp X .Sub rSub := by
  rintro pins s σ H x y u v Q I rx ry ⟨i, j, rfl, rfl, q⟩
  obtain ⟨t, rfl⟩ := (show ∃ t, u = Value.int i t from rx)
  obtain ⟨t', rfl⟩ := (show ∃ t', v = Value.int j t' from ry)
  exact PyProof.Rows.isub_int ⟨.int (i - j), H, I.tok _, ⟨_, rfl⟩, q⟩

/-- what is between an instance and its method: the tree of a method call -/
theorem methcall_of {pl : Sem Bool} {m : Str} {apos : Pos} {args : List Expr} {pins : List (Addr × Obj)} {s : Shared} {σ : St} {H : Hp} {Q : Value → Shared → Prop} {te : TE} (he : PE X e te) (I : Inv X pins σ H s)
    (h : te σ H fun x H1 => ∃ a C dx fs g, x = .ref a ∧ H1 a = some (.ins C dx fs) ∧ Cls X.K C ∧ Meth X.K C m g ∧ fs.lookup m = none ∧
      ∀ s1, Inv X pins σ H1 s1 → wpAny (model X.prog X.w) X.A (callWith pos (.ref g) [.ref a] (backTo pos (starEach args X.env)) (backToKw pos (keywordEach [] X.env))) Q X.xe s1)
    (ht : eval (.Call (.Attribute e m apos) args [] pos) X.env = (do
      let ov ← eval e X.env
      standAt apos.atName
      let (f, first) ← holding [ov] (getMethod ov m pl)
      callWith pos f first (backTo pos (starEach args X.env)) (backToKw pos (keywordEach [] X.env)))) :
    wpAny (model X.prog X.w) X.A (eval (.Call (.Attribute e m apos) args [] pos) X.env) Q X.xe s := by
  refine PySem.W.methodCall_KW (pl := pl) (thn (he pins s σ H _ I h) fun u s1 ⟨x, H1, I1, rx, a, C, dx, fs, g, ex, ea, c, k, l, q⟩ => ?_) ht
  subst ex
  obtain rfl : u = Value.ref a := rx
  exact getmeth_ok I1 ea c k l (q s1 I1)
end

/-! ### isinstance -/
section
variable {X : Cx} {pins : List (Addr × Obj)} {σ : St} {H : Hp} {s : Shared} {A : Around} {E : Value → Shared → Prop} {Q : Value → Shared → Prop} {c : Value} {b : Bool}
/-- the type of a value, as the fragment's deciders take it; for an instance its class -/
inductive TyOf (K : PySem.W.Frag) (H : Hp) : V → Value → Prop where
  | non : TyOf K H .non (.type "NoneType")
  | bl (x : Bool) : TyOf K H (.bl x) (.type "bool")
  | int (i : Int) : TyOf K H (.int i) (.type "int")
  | str (x : Str) : TyOf K H (.str x) (.type "str")
  | flt (x : UInt64) : TyOf K H (.flt x) (.type "float")
  | lst {a : Addr} {xs : List V} (e : H a = some (.lst xs)) : TyOf K H (.ref a) (.type "list")
  | frz {a : Addr} {o : Obj} {xs : List V} (e : H a = some (.frz o (.lst xs))) : TyOf K H (.ref a) (.type "list")
  | tup {a : Addr} {xs : List V} (e : H a = some (.tup xs)) : TyOf K H (.ref a) (.type "tuple")
  | dK {a : Addr} {kvs : List (Key × V)} (e : H a = some (.dK kvs)) : TyOf K H (.ref a) (.type "dict")
  | dT {a : Addr} {kvs : List (List Key × V)} (e : H a = some (.dT kvs)) : TyOf K H (.ref a) (.type "dict")
  | ins {a C dx : Addr} {fs : List (Str × V)} (e : H a = some (.ins C dx fs)) (cl : Cls K C) (ha : PySem.W.findIn K (.ref C) "__class__" = some (some (.builtin "object.__class__")))
      (hn : PySem.W.specialIn K (.builtin "object.__class__") "__get__" = some (some (.builtin "getset_descriptor.__get__"))) (htk : PySem.W.takesIn K (.builtin "object.__class__") = some true)
      (hm : PySem.W.mroIn K C (.type "object") = some true) : TyOf K H (.ref a) (.ref C)
/-- isinstance(x, c) for one class c, a built-in or an own one: kitOne's answer -/
theorem isinst_ok {x : V} {u t : Value} (I : Inv X pins σ H s) (rx : RelV x u) (ty : TyOf X.K H x t) (e : PySem.W.kitOne X.K t c = some b) (h : ∀ tk, Q (.bool b) { s with toks := tk }) :
    wpAny (model X.prog X.w) A (call (.builtin "isinstance") [u, c]) Q E s := by
  cases ty with
  | non => cases (show u = Value.none from rx); exact PySem.W.kia_one PySem.W.kitx_none I.kIn True.intro e (fun z => nomatch z) h
  | bl y => cases (show u = Value.bool y from rx); exact PySem.W.kia_one PySem.W.kitx_bool I.kIn True.intro e (fun z => nomatch z) h
  | int i => obtain ⟨t, q⟩ := (show ∃ t, u = Value.int i t from rx); cases q; exact PySem.W.kia_one PySem.W.kitx_int I.kIn True.intro e (fun z => nomatch z) h
  | str y => obtain ⟨t, q⟩ := (show ∃ t, u = Value.str y t from rx); cases q; exact PySem.W.kia_one PySem.W.kitx_str I.kIn True.intro e (fun z => nomatch z) h
  | flt y => obtain ⟨t, q⟩ := (show ∃ t, u = Value.float y t from rx); cases q; exact PySem.W.kia_one PySem.W.kitx_float I.kIn True.intro e (fun z => nomatch z) h
  | @lst a xs ea =>
    cases (show u = Value.ref a from rx)
    obtain ⟨_, _, n, _, h1⟩ := (show ObjOk X.prog X.w H s.heap a (.lst xs) from I.hok a _ ea)
    exact PySem.W.kia_one PySem.W.kitx_list I.kIn ⟨_, h1, rfl⟩ e (fun z => nomatch z) h
  | @frz a ob xs ea =>
    cases (show u = Value.ref a from rx)
    obtain ⟨_, _, _, n, _, h1⟩ := (show ObjOk X.prog X.w H s.heap a (.frz ob (.lst xs)) from I.hok a _ ea)
    exact PySem.W.kia_one PySem.W.kitx_list I.kIn ⟨_, h1, rfl⟩ e (fun z => nomatch z) h
  | @tup a xs ea =>
    cases (show u = Value.ref a from rx)
    obtain ⟨_, _, _, p⟩ := (show ObjOk X.prog X.w H s.heap a (.tup xs) from I.hok a _ ea)
    obtain ⟨o, h1, h2, _⟩ := p
    exact PySem.W.kia_one PySem.W.kitx_tuple I.kIn ⟨o, h1, h2⟩ e (fun z => nomatch z) h
  | @dK a kvs ea =>
    cases (show u = Value.ref a from rx)
    obtain ⟨_, _, vs, _, p⟩ := (show ObjOk X.prog X.w H s.heap a (.dK kvs) from I.hok a _ ea)
    obtain ⟨o, es, ep, h1, h2, _⟩ := p
    exact PySem.W.kia_one PySem.W.kitx_dict I.kIn ⟨o, h1, h2.1⟩ e (fun z => nomatch z) h
  | @dT a kvs ea =>
    cases (show u = Value.ref a from rx)
    obtain ⟨_, _, xs, _, o, es, ep, h1, h2, _⟩ := (show ObjOk X.prog X.w H s.heap a (.dT kvs) from I.hok a _ ea)
    exact PySem.W.kia_one PySem.W.kitx_dict I.kIn ⟨o, h1, h2.1⟩ e (fun z => nomatch z) h
  | @ins a C dx fs ea cl ha hn htk hm =>
    cases (show u = Value.ref a from rx)
    obtain ⟨mA, O, _⟩ := ins_get I.hok ea
    obtain ⟨od, J, _⟩ := O.look
    exact PySem.W.kia_one (PySem.W.kitx_own (cl.get _) cl.hd ha hn htk hm) I.kIn J e (fun z => nomatch z) h
end
end L2

namespace L2
open PySem PySem.Spec PyProof.Rows

/-! ### room -/
structure Room (k : Nat) (A : Around) : Prop where
  hd : A.handled = none
  dp : A.depth + 3 * k + 5 < recursionLimit
  un : A.units + 16 * k + 200 < cLine
  gd : A.guards = some []
theorem Room.mono {j k : Nat} {A : Around} (r : Room k A) (h : j ≤ k) : Room j A := ⟨r.hd, by have := r.dp; omega, by have := r.un; omega, r.gd⟩
theorem Room.deeper {k : Nat} {A : Around} (r : Room (k + 1) A) (env : Env) : Room k (A.deeper env) :=
  ⟨r.hd, by have := r.dp; show A.depth + 1 + 3 * k + 5 < _; omega, by have := r.un; show A.units + 3 + 16 * k + 200 < _; omega, r.gd⟩
theorem Room.in1 {k : Nat} {A : Around} (r : Room (k + 1) A) : Room k A.in1 :=
  ⟨r.hd, by have := r.dp; show A.depth + 3 * k + 5 < _; omega, by have := r.un; show A.units + 1 + 16 * k + 200 < _; omega, r.gd⟩
theorem make_depth {A : Around} {C : Addr} {us : List Value} {kw : List (Str × Value)} : (A.under (.builtin "type.__call__" ⟨.ref C :: us, kw⟩)).depth = A.depth + 1 := by
  first | rfl | simp [Around.under, Code.weight, Code.isCreation, Code.isGuard, Code.isCaller, Code.frames, Code.isFrame, guardIds]
theorem make_units {A : Around} {C : Addr} {us : List Value} {kw : List (Str × Value)} : (A.under (.builtin "type.__call__" ⟨.ref C :: us, kw⟩)).units = A.units + 1 := by
  first | rfl | simp [Around.under, Code.cUnits, Code.frames, Code.isFrame]
theorem Room.make {k : Nat} {A : Around} (r : Room (k + 1) A) (C : Addr) (us : List Value) (kw : List (Str × Value)) : Room k (A.under (.builtin "type.__call__" ⟨.ref C :: us, kw⟩)) :=
  ⟨r.hd, by have := r.dp; rw [make_depth]; omega, by have := r.un; rw [make_units]; omega, by first | exact r.gd | (rw [← r.gd]; rfl) | (simp only [Around.under]; rw [r.gd]; rfl)⟩
theorem Room.depth {k : Nat} {A : Around} (r : Room k A) : A.depth < recursionLimit := by have := r.dp; omega
theorem Room.units {k : Nat} {A : Around} (r : Room k A) : A.units + 64 < cLine := by have := r.un; omega
theorem Room.units0 {k : Nat} {A : Around} (r : Room k A) : A.units < cLine := by have := r.un; omega

/-! ### argument lists and displays -/
def tNil : TA := fun _ H Q => Q [] H
def tCons (ta : TE) (tr : TA) : TA := fun σ H Q => ta σ H fun x H1 => tr σ H1 fun xs H2 => Q (x :: xs) H2
section
variable {X : Cx} {e : Expr} {es : List Expr} {te : TE} {t : TA} {pos : Pos}
theorem pa_nil : PA X [] tNil := fun _ _ _ _ H Q I h => Calls.spliced_nil ⟨[], H, I, .nil, h⟩
theorem pa_cons (ha : PE X e te) (hr : PA X es t) (hs : starEach (e :: es) X.env = (false, eval e X.env) :: starEach es X.env := by rfl) : PA X (e :: es) (tCons te t) := by
  intro pos pins s σ H Q I h
  rw [hs]
  show wpAny _ _ (spliced ((false, eval e X.env) :: backTo pos (starEach es X.env))) _ _ s
  refine Calls.spliced_cons (thn (ha pins s σ H _ I h) fun u s1 ⟨x, H1, I1, r1, q1⟩ => ?_)
  exact thn (hr pos pins s1 σ H1 _ I1 q1) fun us s2 ⟨xs, H2, I2, r2, q2⟩ => ⟨x :: xs, H2, I2, .cons r1 r2, q2⟩

/-- a tuple, a list of written items -/
def tTup (t : TA) : TE := fun σ H Q => t σ H fun xs H1 => xs.length ≤ sizeLine ∧ ∀ p, H1 p = none → Q (.ref p) (upd H1 p (.tup xs))
def tLst (t : TA) : TE := fun σ H Q => t σ H fun xs H1 => xs.length ≤ sizeLine ∧ ∀ p, H1 p = none → Q (.ref p) (upd H1 p (.lst xs))
theorem pe_tup {x1} (h : PA X es t) : PE X (.Tuple es x1 pos) (tTup t) := by
  intro pins s σ H Q I hq
  refine wpAny_Tuple_spliced (thn (h pos pins s σ H _ I hq) fun us s1 ⟨xs, H1, I1, r, z, q⟩ => ⟨by rw [← r.length]; exact z, ?_⟩)
  have hf : H1 s1.heap.objs.size = none := I1.hok.fresh (Nat.le_refl _)
  refine ⟨.ref s1.heap.objs.size, upd H1 s1.heap.objs.size (.tup xs), I1.laid (t' := s1.toks) (fun b u e => Heap.get?_push_of_some _ e) (Nat.le_refl _) ?_, rfl, q _ hf⟩
  exact ⟨z, us, r, ⟨_, Heap.get?_push_size _ rfl, rfl, _, rfl⟩⟩
theorem pe_lst (h : PA X es t) : PE X (.List es pos) (tLst t) := by
  intro pins s σ H Q I hq
  refine wpAny_List_spliced (thn (h pos pins s σ H _ I hq) fun us s1 ⟨xs, H1, I1, r, z, q⟩ => ⟨by rw [← r.length]; exact z, ?_⟩)
  have hf : H1 s1.heap.objs.size = none := I1.hok.fresh (Nat.le_refl _)
  refine ⟨.ref s1.heap.objs.size, upd H1 s1.heap.objs.size (.lst xs), I1.laid (t' := s1.toks) (fun b u e => Heap.get?_push_of_some _ e) (Nat.le_refl _) ?_, rfl, q _ hf⟩
  exact ⟨z, us, 0, r, Heap.get?_push_size _ rfl⟩
end

/-! ### what a def promises -/
/-- a def's promise: the bound arguments in the parameters' order, the heap, the wanted end, the wanted exception -/
abbrev Sp := List V → Hp → VK → XK → Prop
/-- how an exception lies behind a call (file 08 gives it): the callers' frames, abstract heap and state ahead of the call, the wish, the exception, the state -/
abbrev CXT := List Env → Hp → Shared → XK → Value → Shared → Prop

/-- the state at a call -/
structure Env0 (P : Program) (w : World) (K : PySem.W.Frag) (mg : Str → Option Value) (base : Heap) (A : Around) (outer : List Env) (s : Shared) (H : Hp) : Prop where
  frames : A.frames = some outer
  mod : Mod K mg base
  bs : ∀ b o, base.get? b = some o → s.heap.get? b = some o ∧ H b = none
  bsz : base.objs.size ≤ s.heap.objs.size
  funs : s.heap.FunFrames base outer
  frf : ∀ b ∈ frs outer, H b = none
  hok : HOk P w H s.heap
  bare : AllBare s.gens
/-- a call's end -/
def CE (outer : List Env) (P : Program) (w : World) (H : Hp) (s : Shared) (Q : VK) (u : Value) (s' : Shared) : Prop :=
  ∃ v H', s'.os = s.os ∧ AllBare s'.gens ∧ Un (frs outer) [] H H' s.heap s'.heap ∧ HOk P w H' s'.heap ∧ RelV v u ∧ Q v H'
def CR (CX : CXT) (outer : List Env) (P : Program) (w : World) (H : Hp) (s : Shared) (Q : VK) (E : XK) (r : Result) (s' : Shared) : Prop :=
  match r with
  | .ok (.ret u) => CE outer P w H s Q u s'
  | .ok _ => False
  | .error e => CX outer H s E e s'
structure FnOk (P : Program) (w : World) (K : PySem.W.Frag) (mg : Str → Option Value) (base : Heap) (CX : CXT) (k : Nat) (f : Addr) (fd : FuncData) (ps : List Str) (sp : Sp) : Prop where
  len : ∀ vs H Q E, sp vs H Q E → vs.length = ps.length
  run : ∀ (A : Around) (outer : List Env) (s : Shared) (H : Hp) (args : Args) (us : List Value) (vs : List V) (Q : VK) (E : XK), Room k A → Env0 P w K mg base A outer s H → BindsTo s fd args (ps.zip us) → Vals vs us → sp vs H Q E →
    codeAny (model P w) A (.call (.ref f) args) (CR CX outer P w H s Q E) s
theorem FnOk.mono {P : Program} {w : World} {K : PySem.W.Frag} {mg : Str → Option Value} {base : Heap} {CX : CXT} {j k : Nat} {f : Addr} {fd : FuncData} {ps : List Str} {sp : Sp} (F : FnOk P w K mg base CX j f fd ps sp) (h : j ≤ k) :
    FnOk P w K mg base CX k f fd ps sp := ⟨F.len, fun A outer s H args us vs Q E hr => F.run A outer s H args us vs Q E (hr.mono h)⟩
/-- a weaker promise -/
theorem FnOk.imp {P : Program} {w : World} {K : PySem.W.Frag} {mg : Str → Option Value} {base : Heap} {CX : CXT} {k : Nat} {f : Addr} {fd : FuncData} {ps : List Str} {sp sp' : Sp} (F : FnOk P w K mg base CX k f fd ps sp)
    (h : ∀ vs H Q E, sp' vs H Q E → sp vs H Q E) : FnOk P w K mg base CX k f fd ps sp' :=
  ⟨fun vs H Q E q => F.len vs H Q E (h _ _ _ _ q), fun A outer s H args us vs Q E hr he hb hv hs => F.run A outer s H args us vs Q E hr he hb hv (h _ _ _ _ hs)⟩

theorem Env0.make {P : Program} {w : World} {K : PySem.W.Frag} {mg : Str → Option Value} {base : Heap} {A : Around} {outer : List Env} {s : Shared} {H : Hp} (e : Env0 P w K mg base A outer s H) (C : Addr) (us : List Value) (kw : List (Str × Value)) :
    Env0 P w K mg base (A.under (.builtin "type.__call__" ⟨.ref C :: us, kw⟩)) outer s H := ⟨by first | exact e.frames | (simpa [Around.under, Code.envs, Code.isFrame, pushEnvs] using e.frames), e.mod, e.bs, e.bsz, e.funs, e.frf, e.hok, e.bare⟩
theorem Env0.in1 {P : Program} {w : World} {K : PySem.W.Frag} {mg : Str → Option Value} {base : Heap} {A : Around} {outer : List Env} {s : Shared} {H : Hp} (e : Env0 P w K mg base A outer s H) :
    Env0 P w K mg base A.in1 outer s H := ⟨e.frames, e.mod, e.bs, e.bsz, e.funs, e.frf, e.hok, e.bare⟩

section
variable {X : Cx} {pins : List (Addr × Obj)} {σ : St} {H : Hp} {s s' : Shared}
/-- from a body: what a callee wants -/
theorem Inv.env0 (I : Inv X pins σ H s) : Env0 X.prog X.w X.K X.mg X.base X.A X.stack s H :=
  ⟨I.ok.frames, I.ok.mod, I.bs, Nat.le_trans I.ok.bsz I.sz, I.stack, I.stkFree, I.hok, I.bare⟩
/-- behind a call -/
theorem Inv.after {Q : VK} {u : Value} (I : Inv X pins σ H s) (h : CE X.stack X.prog X.w H s Q u s') : EP X pins σ Q u s' := by
  obtain ⟨v, H', os, bare, un, hok, r, q⟩ := h
  obtain ⟨hh, g, d, t, os'⟩ := s'
  obtain rfl : os' = s.os := os
  exact ⟨v, H', I.call (h' := hh) (g' := g) (d' := d) (t' := t) (ch := []) un hok bare (fun b z => absurd z (by simp)), r, q⟩
end

/-! ### calls -/
/-- f(..): the written arguments, then the defaults dvs; E: what is wanted of an exception -/
def tCall (sp : Sp) (dvs : List V) (E : XK) (t : TA) : TE := fun σ H Q => t σ H fun vs H1 => sp (vs ++ dvs) H1 Q E
/-- o.m(..) of an instance of the class at C -/
def tMeth (C : Addr) (m : Str) (sp : Sp) (dvs : List V) (E : XK) (ta : TE) (t : TA) : TE := fun σ H Q => ta σ H fun x H1 => ∃ a dx fs, x = .ref a ∧ H1 a = some (.ins C dx fs) ∧ fs.lookup m = none ∧
  t σ H1 fun vs H2 => sp (x :: (vs ++ dvs)) H2 Q E
/-- C(..): a new instance and its dict, then __init__ -/
def tMake (C : Addr) (sp : Sp) (dvs : List V) (E : XK) (t : TA) : TE := fun σ H Q => t σ H fun vs H1 => ∀ x dx, H1 x = none → H1 dx = none → dx ≠ x →
  sp (.ref x :: (vs ++ dvs)) (upd (upd H1 dx (.own x)) x (.ins C dx [])) (fun v H2 => v = .non ∧ Q (.ref x) H2) E

/-- how the parameters are bound: us the positional arguments, kw the keywords' values by name, ds the defaults that fill up -/
def Binds (K : PySem.W.Frag) (fd : FuncData) (ps : List Str) (ds : List Value) : Prop :=
  ∀ (s : Shared) (us : List Value), K.In s.heap → (us ++ ds).length = ps.length → BindsTo s fd ⟨us, []⟩ (ps.zip (us ++ ds))
/-- every parameter is given -/
theorem Binds.all {K : PySem.W.Frag} {fd : FuncData} {ps : List Str} (h : ∀ us : List Value, us.length = ps.length → bindArgs fd ⟨us, []⟩ = pure (ps.zip us)) : Binds K fd ps [] := fun s us _ hl => by
  rw [List.append_nil] at hl ⊢
  exact .of_eq (h us hl)

/-- an exception of a callee reaches what this body wants of exceptions -/
def Passes (CX : CXT) (X : Cx) (E : XK) : Prop := ∀ (pins : List (Addr × Obj)) (σ : St) (H : Hp) (s : Shared) (e : Value) (s' : Shared), Inv X pins σ H s → CX X.stack H s E e s' → X.xe e s'

section
variable {X : Cx} {CX : CXT} {k : Nat} {f C : Addr} {fd : FuncData} {ps : List Str} {sp : Sp} {dvs : List V} {ds : List Value} {E : XK} {x m : Str} {p pos apos : Pos} {e o : Expr} {es : List Expr} {ta : TE} {t : TA}

/-- the callee runs -/
theorem run_fn {pins : List (Addr × Obj)} {σ : St} {H : Hp} {s : Shared} {Q : VK} {us : List Value} {vs : List V} (F : FnOk X.prog X.w X.K X.mg X.base CX k f fd ps sp) (hr : Room k X.A) (hb : Binds X.K fd ps ds) (hd : Vals dvs ds) (hx : Passes CX X E)
    (I : Inv X pins σ H s) (r : Vals vs us) (h : sp (vs ++ dvs) H Q E) : wpAny (model X.prog X.w) X.A (call (.ref f) us) (EP X pins σ Q) X.xe s := by
  have r2 : Vals (vs ++ dvs) (us ++ ds) := r.append hd
  have hl : (us ++ ds).length = ps.length := by rw [← r2.length]; exact F.len _ _ _ _ h
  refine wpAny_call (codeAny_mono (F.run X.A X.stack s H ⟨us, []⟩ (us ++ ds) (vs ++ dvs) Q E hr I.env0 (hb s us I.kIn hl) r2 h) fun r s' hq => ?_)
  cases r with
  | error e => exact hx pins σ H s e s' I hq
  | ok fl =>
    cases fl with
    | ret u => exact I.after hq
    | next => exact False.elim hq
    | brk => exact False.elim hq
    | cont => exact False.elim hq

theorem pe_call (F : FnOk X.prog X.w X.K X.mg X.base CX k f fd ps sp) (hr : Room k X.A) (hg : Gl X x) (hm : X.mg x = some (.ref f)) (hk : PySem.W.keepIn X.K (.ref f) = true) (hb : Binds X.K fd ps ds) (hd : Vals dvs ds) (hx : Passes CX X E)
    (ha : PA X (e :: es) t) (hdb : (x == ("__debug__" : Str)) = false := by decide) (he : starEach (e :: es) X.env = (false, eval e X.env) :: starEach es X.env := by rfl) (hpl : (backTo pos (starEach es X.env)).any (·.1) = false := by rfl) :
    PE X (.Call (.Name x p) (e :: es) [] pos) (tCall sp dvs E t) := by
  intro pins s σ H Q I h
  refine wpAny_Call_Name_kw (ld_glob I hg hm ?_ hdb)
  refine PySem.W.callWith_K (h₀ := X.base) I.ok.mod.kin hk (thn (ha pos pins s σ H _ I h) fun us s1 ⟨vs, H1, I1, r, q⟩ => ⟨I1.kIn, ?_⟩) he hpl
  exact run_fn F hr hb hd hx I1 r q
theorem pe_call0 (F : FnOk X.prog X.w X.K X.mg X.base CX k f fd ps sp) (hr : Room k X.A) (hg : Gl X x) (hm : X.mg x = some (.ref f)) (hk : PySem.W.keepIn X.K (.ref f) = true) (hb : Binds X.K fd ps ds) (hd : Vals dvs ds) (hx : Passes CX X E)
    (hdb : (x == ("__debug__" : Str)) = false := by decide) : PE X (.Call (.Name x p) [] [] pos) (tCall sp dvs E tNil) := by
  intro pins s σ H Q I h
  refine wpAny_Call_Name_kw (ld_glob I hg hm ?_ hdb)
  exact PySem.W.callWith_K0 I.kIn hk (run_fn (us := []) F hr hb hd hx I .nil h)

/-- o.m(e, ..) -/
theorem pe_meth {pl : Sem Bool} (he : PE X o ta) (c : Cls X.K C) (hm : Meth X.K C m f) (F : FnOk X.prog X.w X.K X.mg X.base CX k f fd ps sp) (hr : Room k X.A) (hb : Binds X.K fd ps ds) (hd : Vals dvs ds) (hx : Passes CX X E) (ha : PA X (e :: es) t)
    (hst : starEach (e :: es) X.env = (false, eval e X.env) :: starEach es X.env := by rfl) (hpl : (backTo pos (starEach es X.env)).any (·.1) = false := by rfl)
    (ht : eval (.Call (.Attribute o m apos) (e :: es) [] pos) X.env = (do
      let ov ← eval o X.env
      standAt apos.atName
      let (f, first) ← holding [ov] (getMethod ov m pl)
      callWith pos f first (backTo pos (starEach (e :: es) X.env)) (backToKw pos (keywordEach [] X.env))) := by rfl) :
    PE X (.Call (.Attribute o m apos) (e :: es) [] pos) (tMeth C m sp dvs E ta t) := by
  intro pins s σ H Q I h
  refine PySem.W.methodCall_KW (pl := pl) (thn (he pins s σ H _ I h) fun u s1 ⟨x, H1, I1, rx, a, dx, fs, ex, ea, l, q⟩ => ?_) ht
  subst ex
  obtain rfl : u = Value.ref a := rx
  refine getmeth_ok I1 ea c hm l ?_
  refine PySem.W.callWith_K (first := [.ref a]) (h₀ := X.base) I.ok.mod.kin hm.kp (thn (ha pos pins s1 σ H1 _ I1 q) fun us s2 ⟨vs, H2, I2, r, q2⟩ => ⟨I2.kIn, ?_⟩) hst hpl
  exact run_fn (us := .ref a :: us) (vs := .ref a :: vs) F hr hb hd hx I2 (.cons rfl r) q2
/-- o.m() -/
theorem pe_meth0 {pl : Sem Bool} (he : PE X o ta) (c : Cls X.K C) (hm : Meth X.K C m f) (F : FnOk X.prog X.w X.K X.mg X.base CX k f fd ps sp) (hr : Room k X.A) (hb : Binds X.K fd ps ds) (hd : Vals dvs ds) (hx : Passes CX X E)
    (ht : eval (.Call (.Attribute o m apos) [] [] pos) X.env = (do
      let ov ← eval o X.env
      standAt apos.atName
      let (f, first) ← holding [ov] (getMethod ov m pl)
      callWith pos f first (backTo pos (starEach [] X.env)) (backToKw pos (keywordEach [] X.env))) := by rfl) :
    PE X (.Call (.Attribute o m apos) [] [] pos) (tMeth C m sp dvs E ta tNil) := by
  intro pins s σ H Q I h
  refine PySem.W.methodCall_KW (pl := pl) (thn (he pins s σ H _ I h) fun u s1 ⟨x, H1, I1, rx, a, dx, fs, ex, ea, l, q⟩ => ?_) ht
  subst ex
  obtain rfl : u = Value.ref a := rx
  refine getmeth_ok I1 ea c hm l ?_
  exact PySem.W.callWith_K0 (first := [.ref a]) I1.kIn hm.kp (run_fn (us := [.ref a]) (vs := [.ref a]) F hr hb hd hx I1 (.cons rfl .nil) q)

/-- what a class must have to be made -/
structure Mk (K : PySem.W.Frag) (C f : Addr) : Prop where
  makes : PySem.W.makesIn K C = true
  init : PySem.W.findIn K (.ref C) "__init__" = some (some (.ref f))
  fn : PySem.W.isFn K (.ref f) = true
  kp : PySem.W.keepIn K (.ref C) = true

theorem run_make {pins : List (Addr × Obj)} {σ : St} {H : Hp} {s : Shared} {Q : VK} {us : List Value} {vs : List V} (M : Mk X.K C f) (F : FnOk X.prog X.w X.K X.mg X.base CX k f fd ps sp) (hr : Room (k + 1) X.A) (hb : Binds X.K fd ps ds) (hd : Vals dvs ds)
    (hx : Passes CX X E) (I : Inv X pins σ H s) (r : Vals vs us)
    (h : ∀ x dx, H x = none → H dx = none → dx ≠ x → sp (.ref x :: (vs ++ dvs)) (upd (upd H dx (.own x)) x (.ins C dx [])) (fun v H2 => v = .non ∧ Q (.ref x) H2) E) :
    wpAny (model X.prog X.w) X.A (call (.ref C) us) (EP X pins σ Q) X.xe s := by
  have hq := h (s.heap.objs.size + 1) s.heap.objs.size (I.hok.fresh (Nat.le_succ _)) (I.hok.fresh (Nat.le_refl _)) (Nat.ne_of_lt (Nat.lt_succ_self _))
  have I2 := Inv.made (C := C) I
  have r2 : Vals (V.ref (s.heap.objs.size + 1) :: (vs ++ dvs)) (Value.ref (s.heap.objs.size + 1) :: (us ++ ds)) := .cons rfl (r.append hd)
  have hl : (Value.ref (s.heap.objs.size + 1) :: us ++ ds).length = ps.length := by
    have e := r2.length
    rw [F.len _ _ _ _ hq] at e
    exact e.symm
  refine wpAny_call (make_map (f := f) I.kIn M.makes M.init (beq_iff_eq.mp M.fn) (codeAny_mono (F.run _ X.stack _ _ ⟨Value.ref (s.heap.objs.size + 1) :: us, []⟩ (Value.ref (s.heap.objs.size + 1) :: (us ++ ds)) _ _ E (hr.make C us [])
    (I2.env0.make C us []) (hb _ (Value.ref (s.heap.objs.size + 1) :: us) I2.kIn hl) r2 hq) fun r s' hq' => ?_))
  cases r with
  | error e => exact hx pins σ _ _ e s' I2 hq'
  | ok fl =>
    cases fl with
    | ret u =>
      obtain ⟨v, H', I3, rv, ev, q3⟩ := I2.after hq'
      subst ev
      exact ⟨rv, ⟨V.ref (s.heap.objs.size + 1), H', I3, rfl, q3⟩⟩
    | next => exact False.elim hq'
    | brk => exact False.elim hq'
    | cont => exact False.elim hq'
theorem pe_make (M : Mk X.K C f) (F : FnOk X.prog X.w X.K X.mg X.base CX k f fd ps sp) (hr : Room (k + 1) X.A) (hg : Gl X x) (hm : X.mg x = some (.ref C)) (hb : Binds X.K fd ps ds) (hd : Vals dvs ds) (hx : Passes CX X E)
    (ha : PA X (e :: es) t) (hdb : (x == ("__debug__" : Str)) = false := by decide) (he : starEach (e :: es) X.env = (false, eval e X.env) :: starEach es X.env := by rfl) (hpl : (backTo pos (starEach es X.env)).any (·.1) = false := by rfl) :
    PE X (.Call (.Name x p) (e :: es) [] pos) (tMake C sp dvs E t) := by
  intro pins s σ H Q I h
  refine wpAny_Call_Name_kw (ld_glob I hg hm ?_ hdb)
  refine PySem.W.callWith_K (h₀ := X.base) I.ok.mod.kin M.kp (thn (ha pos pins s σ H _ I h) fun us s1 ⟨vs, H1, I1, r, q⟩ => ⟨I1.kIn, ?_⟩) he hpl
  exact run_make M F hr hb hd hx I1 r q
theorem pe_make0 (M : Mk X.K C f) (F : FnOk X.prog X.w X.K X.mg X.base CX k f fd ps sp) (hr : Room (k + 1) X.A) (hg : Gl X x) (hm : X.mg x = some (.ref C)) (hb : Binds X.K fd ps ds) (hd : Vals dvs ds) (hx : Passes CX X E)
    (hdb : (x == ("__debug__" : Str)) = false := by decide) : PE X (.Call (.Name x p) [] [] pos) (tMake C sp dvs E tNil) := by
  intro pins s σ H Q I h
  refine wpAny_Call_Name_kw (ld_glob I hg hm ?_ hdb)
  exact PySem.W.callWith_K0 I.kIn M.kp (run_make (us := []) M F hr hb hd hx I .nil h)
end

/-! ### keywords -/
/-- the values of the keywords, from the left -/
def PK (X : Cx) (kws : List Keyword) (t : TA) : Prop :=
  ∀ (pos : Pos) (pins : List (Addr × Obj)) (s : Shared) (σ : St) (H : Hp) (Q : List V → Hp → Prop), Inv X pins σ H s → t σ H Q → wpAny (model X.prog X.w) X.A (evalAll ((backToKw pos (keywordEach kws X.env)).map (·.2))) (AP X pins σ Q) X.xe s
section
variable {X : Cx} {CX : CXT} {k : Nat} {f C : Addr} {fd : FuncData} {ps ks : List Str} {sp : Sp} {E : XK} {x m : Str} {p pos apos kpos : Pos} {e o : Expr} {es : List Expr} {kws : List Keyword} {te ta : TE} {t tk : TA} {nm : Option Str}
theorem pk_nil : PK X [] tNil := fun _ _ _ _ H Q I h => wpAny_evalAll_nil ⟨[], H, I, .nil, h⟩
theorem pk_cons (ha : PE X e te) (hr : PK X kws t) : PK X (⟨nm, e, kpos⟩ :: kws) (tCons te t) := by
  intro pos pins s σ H Q I h
  show wpAny _ _ (evalAll ((do let v ← eval e X.env; standAt pos; pure v) :: (backToKw pos (keywordEach kws X.env)).map (·.2))) _ _ s
  refine wpAny_evalAll_cons (wpAny_bind (thn (ha pins s σ H _ I h) fun u s1 ⟨x, H1, I1, r1, q1⟩ => wpAny_bind (wpAny_standAt (wpAny_pure ?_))))
  exact thn (hr pos pins s1 σ H1 _ I1 q1) fun us s2 ⟨xs, H2, I2, r2, q2⟩ => ⟨x :: xs, H2, I2, .cons r1 r2, q2⟩

/-- how a call with keywords binds: g puts the positional values us and the keywords' values ws (names ks) in the parameters' order, defaults among them -/
structure KBinds (K : PySem.W.Frag) (fd : FuncData) (ps ks : List Str) (g : List Value → List Value → List Value) (gV : List V → List V → List V) : Prop where
  to : ∀ (s : Shared) (us ws : List Value), K.In s.heap → (g us ws).length = ps.length → BindsTo s fd ⟨us, ks.zip ws⟩ (ps.zip (g us ws))
  rel : ∀ {vs : List V} {us : List Value} {zs : List V} {ws : List Value}, Vals vs us → Vals zs ws → Vals (gV vs zs) (g us ws)
def tCallK (sp : Sp) (gV : List V → List V → List V) (E : XK) (t tk : TA) : TE := fun σ H Q => t σ H fun vs H1 => tk σ H1 fun zs H2 => sp (gV vs zs) H2 Q E
variable {g : List Value → List Value → List Value} {gV : List V → List V → List V}
theorem run_fnk {pins : List (Addr × Obj)} {σ : St} {H : Hp} {s : Shared} {Q : VK} {us ws : List Value} {vs zs : List V} (F : FnOk X.prog X.w X.K X.mg X.base CX k f fd ps sp) (hr : Room k X.A) (hb : KBinds X.K fd ps ks g gV) (hx : Passes CX X E)
    (I : Inv X pins σ H s) (r : Vals vs us) (rz : Vals zs ws) (h : sp (gV vs zs) H Q E) : wpAny (model X.prog X.w) X.A (call (.ref f) us (ks.zip ws)) (EP X pins σ Q) X.xe s := by
  have r2 := hb.rel r rz
  have hl : (g us ws).length = ps.length := by rw [← r2.length]; exact F.len _ _ _ _ h
  refine wpAny_call (codeAny_mono (F.run X.A X.stack s H ⟨us, ks.zip ws⟩ (g us ws) (gV vs zs) Q E hr I.env0 (hb.to s us ws I.kIn hl) r2 h) fun r s' hq => ?_)
  cases r with
  | error e => exact hx pins σ H s e s' I hq
  | ok fl =>
    cases fl with
    | ret u => exact I.after hq
    | next => exact False.elim hq
    | brk => exact False.elim hq
    | cont => exact False.elim hq
/-- f(e, .., k = v, ..) -/
theorem pe_callK (F : FnOk X.prog X.w X.K X.mg X.base CX k f fd ps sp) (hr : Room k X.A) (hg : Gl X x) (hm : X.mg x = some (.ref f)) (hk : PySem.W.keepIn X.K (.ref f) = true) (hb : KBinds X.K fd ps ks g gV) (hx : Passes CX X E)
    (ha : PA X (e :: es) t) (hkw : PK X kws tk) (hall : (backToKw pos (keywordEach kws X.env)).all (·.1.isSome) = true := by rfl) (hks : (backToKw pos (keywordEach kws X.env)).filterMap (·.1) = ks := by rfl)
    (hdb : (x == ("__debug__" : Str)) = false := by decide) (he : starEach (e :: es) X.env = (false, eval e X.env) :: starEach es X.env := by rfl)
    (hpl : ((backTo pos (starEach (e :: es) X.env)).any (·.1) || (backToKw pos (keywordEach kws X.env)).any (·.1.isNone)) = false := by rfl) :
    PE X (.Call (.Name x p) (e :: es) kws pos) (tCallK sp gV E t tk) := by
  intro pins s σ H Q I h
  refine wpAny_Call_Name_kw (ld_glob I hg hm ?_ hdb)
  refine PySem.W.callWith_KW (h₀ := X.base) I.ok.mod.kin hk hall (thn (ha pos pins s σ H _ I h) fun us s1 ⟨vs, H1, I1, r, q⟩ => ?_) hpl he
  refine thn (hkw pos pins s1 σ H1 _ I1 q) fun ws s2 ⟨zs, H2, I2, rz, q2⟩ => ⟨I2.kIn, ?_⟩
  rw [hks]
  exact run_fnk F hr hb hx I2 r rz q2
end

/-! ### a def's body keeps its promise -/
/-- names: the parameters first -/
structure FnScope (N P : List Str) (sc : Scope) : Prop where
  kind : sc.kind = .function
  co : sc.isCoroutine = false
  gen : sc.isGenerator = false
  nd : N.Nodup
  pre : N.take P.length = P
  par : ∀ x ∈ P, sc.names.lookup x = some .local ∨ sc.names.lookup x = some .cell
  nofree : ∀ y ∈ sc.names, y.2 ≠ .free

theorem bindL_out {kindOf : Str → Option NameKind} {x : Str} : ∀ {binds : List (Str × Value)} {m : Str → Option Value}, (∀ v, (x, v) ∉ binds) → bindL kindOf binds m x = m x
  | [], _, _ => rfl
  | (n, v) :: r, m, h => by
    unfold bindL
    rw [bindL_out fun w hw => h w (List.mem_cons_of_mem _ hw)]
    split
    · have : x ≠ n := by rintro rfl; exact h v List.mem_cons_self
      simp [this]
    · rfl
theorem bindC_out {kindOf : Str → Option NameKind} {x : Str} : ∀ {binds : List (Str × Value)} {m : Str → Option Value}, (∀ v, (x, v) ∉ binds) → bindC kindOf binds m x = m x
  | [], _, _ => rfl
  | (n, v) :: r, m, h => by
    unfold bindC
    rw [bindC_out fun w hw => h w (List.mem_cons_of_mem _ hw)]
    split
    · rfl
    · have : x ≠ n := by rintro rfl; exact h v List.mem_cons_self
      simp [this]
theorem bindL_get {kindOf : Str → Option NameKind} {x : Str} {v : Value} : ∀ {P : List Str} {vs : List Value} {i : Nat} {m : Str → Option Value}, P.Nodup → P[i]? = some x → vs[i]? = some v → kindOf x = some .local →
    bindL kindOf (P.zip vs) m x = some v
  | [], _, _, _, _, h, _, _ => by simp at h
  | _ :: _, [], _, _, _, _, h, _ => by simp at h
  | p :: P, w :: vs, 0, m, nd, h1, h2, hk => by
    simp at h1 h2; subst h1; subst h2
    show bindL kindOf ((p, w) :: P.zip vs) m p = _
    unfold bindL
    rw [bindL_out fun v hv => (List.nodup_cons.mp nd).1 (List.of_mem_zip hv).1, if_pos hk]
    simp
  | p :: P, w :: vs, i + 1, m, nd, h1, h2, hk => by
    show bindL kindOf ((p, w) :: P.zip vs) m x = _
    unfold bindL
    exact bindL_get (i := i) (List.nodup_cons.mp nd).2 (by simpa using h1) (by simpa using h2) hk
theorem bindC_get {kindOf : Str → Option NameKind} {x : Str} {v : Value} : ∀ {P : List Str} {vs : List Value} {i : Nat} {m : Str → Option Value}, P.Nodup → P[i]? = some x → vs[i]? = some v → kindOf x ≠ some .local →
    bindC kindOf (P.zip vs) m x = some v
  | [], _, _, _, _, h, _, _ => by simp at h
  | _ :: _, [], _, _, _, _, h, _ => by simp at h
  | p :: P, w :: vs, 0, m, nd, h1, h2, hk => by
    simp at h1 h2; subst h1; subst h2
    show bindC kindOf ((p, w) :: P.zip vs) m p = _
    unfold bindC
    rw [bindC_out fun v hv => (List.nodup_cons.mp nd).1 (List.of_mem_zip hv).1, if_neg hk]
    simp
  | p :: P, w :: vs, i + 1, m, nd, h1, h2, hk => by
    show bindC kindOf ((p, w) :: P.zip vs) m x = _
    unfold bindC
    exact bindC_get (i := i) (List.nodup_cons.mp nd).2 (by simpa using h1) (by simpa using h2) hk

/-- the names' values at the entry -/
def start (N : List Str) (vs : List V) : St := vs.map some ++ List.replicate (N.length - vs.length) none

/-- the context of a def's body, at its entry; an exception leaves the frame, then lies as CX says -/
def cxOf (CX : CXT) (P : Program) (w : World) (K : PySem.W.Frag) (mg : Str → Option Value) (base : Heap) (N : List Str) (qual : Str) (scope : Scope) (f : Addr) (cd : Value) (A : Around) (outer : List Env) (s : Shared) (H : Hp) (E : XK) : Cx where
  prog := P
  w := w
  K := K
  mg := mg
  base := base
  A := A.deeper (envOfC qual scope s.heap.objs.size f cd)
  N := N
  s₀ := s
  H₀ := H
  env := envOfC qual scope s.heap.objs.size f cd
  outer := outer
  stack := envOfC qual scope s.heap.objs.size f cd :: outer
  ex := []
  calm := true
  fn := fun _ => true
  pn := []
  xe := fun e s' => wpAny (model P w) (A.deeper (envOfC qual scope s.heap.objs.size f cd)) (leaving (envOfC qual scope s.heap.objs.size f cd) e) (fun _ s'' => CX outer H s E e s'') (fun e' s'' => CX outer H s E e' s'') s'

theorem cell_has {sc : Scope} {n : Nat} {x : Str} (h : sc.names.lookup x = some .cell) : ∃ c, (cellsFrom n sc.names []).lookup x = some c := by
  have q := PySem.W.cellsFrom_some sc.names n [] (.inl h)
  exact Option.isSome_iff_exists.mp q

theorem inv_start {CX : CXT} {P : Program} {w : World} {K : PySem.W.Frag} {mg : Str → Option Value} {base : Heap} {N ps : List Str} {qual : Str} {scope : Scope} {f : Addr} {cd : Value} {A : Around} {outer : List Env} {s s1 : Shared} {H : Hp} {E : XK} {us : List Value} {vs : List V}
    (S : FnScope N ps scope) (hd : A.handled = none) (e0 : Env0 P w K mg base A outer s H) (hl : vs.length = ps.length) (r : Vals vs us)
    (x : InCallC s s.heap.objs.size (bindL (envOfC qual scope s.heap.objs.size f cd).kindOf (ps.zip us) fun _ => none) (cellsFrom (s.heap.objs.size + 1) scope.names []) (bindC (envOfC qual scope s.heap.objs.size f cd).kindOf (ps.zip us) fun _ => none) s1) :
    Inv (cxOf CX P w K mg base N qual scope f cd A outer s H E) [] (start N vs) H s1 := by
  have hpl : ps.length ≤ N.length := by have := congrArg List.length S.pre; rw [List.length_take] at this; omega
  obtain ⟨h1, tk, rfl, hk⟩ := x.done
  have noA : ∀ b : Addr, b ∉ (cxOf CX P w K mg base N qual scope f cd A outer s H E).ex := fun b z => absurd (show b ∈ ([] : List Addr) from z) (by simp)
  refine ⟨⟨e0.mod, S.kind, rfl, rfl, Nat.le_refl _, fun y z c h1 h2 => ?_, fun y hy => ?_, fun y c _ h => ?_, fun _ => hd, Around.frames_deeper e0.frames, .inr ⟨rfl, rfl⟩, fun b z => absurd z (noA b), e0.bs, e0.bsz, fun b _ _ => noA b, fun b z => absurd z (noA b), e0.funs, e0.frf⟩,
    rfl, e0.bare, Un.kept hk, ⟨_, x.toInCall.ns, fun i y v h1 h2 h3 => ?_⟩, fun y c h => ⟨_, x.cell y c h⟩, e0.hok.fresh (Nat.le_refl _), fun y c h => ?_, fun p hp => absurd (show p ∈ ([] : List (Addr × Obj)) from hp) (by simp), e0.hok.kept hk, ?_⟩
  · exact name_of_addr x.apart (PySem.mem_of_lookup h1) (PySem.mem_of_lookup h2)
  · have hy : scope.names.lookup y = some .cell ∨ scope.names.lookup y = some .free := hy
    rcases hy with hy | hy
    · exact cell_has hy
    · exact absurd rfl (S.nofree _ (PySem.mem_of_lookup hy))
  · exact Nat.le_of_lt (x.above y c (PySem.mem_of_lookup h))
  · have hi : i < vs.length := by
      unfold start at h2
      by_cases hi : i < vs.length
      · exact hi
      · rw [List.getElem?_append_right (by simpa using hi)] at h2
        rw [List.getElem?_replicate] at h2
        split at h2 <;> cases h2
    have ha : vs[i]? = some v := by
      unfold start at h2
      rw [List.getElem?_append_left (by simpa using hi), List.getElem?_map] at h2
      cases e : vs[i]? with
      | none => rw [e] at h2; cases h2
      | some a => rw [e] at h2; cases h2; rfl
    obtain ⟨u, hu, rv⟩ := r.get ha
    have hp : ps[i]? = some y := by
      rw [← S.pre, List.getElem?_take_of_lt (by omega)]; exact h1
    have ndP : ps.Nodup := by rw [← S.pre]; exact S.nd.sublist (List.take_sublist _ _)
    refine ⟨u, rv, ?_⟩
    rcases S.par y (List.mem_of_getElem? hp) with k | k
    · exact .inl ⟨k, bindL_get ndP hp hu k⟩
    · obtain ⟨c, e⟩ := cell_has (n := s.heap.objs.size + 1) k
      refine .inr ⟨.inl k, c, e, ?_⟩
      have q := x.cell y c e
      rw [bindC_get ndP hp hu (by show scope.names.lookup y ≠ _; rw [k]; decide)] at q
      exact q
  · exact e0.hok.fresh (Nat.le_of_lt (x.above y c (PySem.mem_of_lookup h)))
  · unfold start
    show _ = N.length
    rw [List.length_append, List.length_map, List.length_replicate]
    omega

/-- THE RULE: a def (or a method) of the text, by its body. The body's reading t is chosen for each entry; it is run at the parameters' values -/
theorem fn_of {CX : CXT} {P : Program} {w : World} {K : PySem.W.Frag} {mg : Str → Option Value} {base : Heap} {k : Nat} {f : Addr} {name qual : Str} {params : Arguments} {body : List Stmt} {scope : Scope} {dV kV doc pm cdv ct oc : Value} {an od : Option Addr}
    {osl : Array (Option Value)} {N ps : List Str} {sp : Sp} (lk : K.lookup f = some ⟨oc, od, .func (PySem.W.fnOf name qual params body scope dV kV doc pm an cdv ct), osl⟩) (hcd : PySem.W.codeIn K cdv qual = true) (S : FnScope N ps scope)
    (len : ∀ vs H Q E, sp vs H Q E → vs.length = ps.length)
    (hbody : ∀ (A : Around) (outer : List Env) (s : Shared) (H : Hp) (vs : List V) (Q : VK) (E : XK), Room k (A.deeper (envOfC qual scope s.heap.objs.size f cdv)) → sp vs H Q E →
      ∃ t, PSs (cxOf CX P w K mg base N qual scope f cdv A outer s H E) body t ∧ t { nx := fun _ H' => Q .non H', rt := Q } (start N vs) H) :
    FnOk P w K mg base CX (k + 1) f (PySem.W.fnOf name qual params body scope dV kV doc pm an cdv ct) ps sp := by
  refine ⟨len, fun A outer s H args us vs Q E hr e0 hb r hsp => ?_⟩
  have hl := len _ _ _ _ hsp
  have KX : K.In s.heap := e0.mod.kin.keeps fun b o e => (e0.bs b o e).1
  have lim : s.heap.NoLimit := e0.mod.nolimit.keeps fun b o e => (e0.bs b o e).1
  have hkind : ∀ y ∈ ps.zip us, scope.names.lookup y.1 = some .local ∨ (scope.names.lookup y.1 = some .cell ∧ ((cellsFrom (s.heap.objs.size + 1) scope.names []).lookup y.1).isSome = true) := fun ⟨n, v⟩ hy => by
    rcases S.par n (List.of_mem_zip hy).1 with q | q
    · exact .inl q
    · exact .inr ⟨q, PySem.W.cellsFrom_some _ _ _ (.inl q)⟩
  refine codeAny_call_function hr.depth (KX _ _ lk) rfl S.co S.gen rfl (PySem.W.codeRec_of KX hcd) (hb _ _ _ _ ?_)
  refine wpAny_newFunctionEnv_cells S.kind hkind fun env he s1 x => ?_
  subst he
  refine ⟨lim.keeps x.toInCall.keep, codeAny_func ?_⟩
  obtain ⟨t, ht, hq⟩ := hbody A outer s H vs Q E (hr.deeper _) hsp
  have I : Inv (cxOf CX P w K mg base N qual scope f cdv A outer s H E) [] (start N vs) H s1 := inv_start S hr.hd e0 hl r x
  refine wpAny_mono (ht [] s1 (start N vs) H _ I hq) (fun fl s' hs => ?_) fun e s' hs => hs
  have fin : ∀ {σ' : St} {H' : Hp} {v : V} {u : Value}, Inv (cxOf CX P w K mg base N qual scope f cdv A outer s H E) [] σ' H' s' → RelV v u → Q v H' → CE outer P w H s Q u s' :=
    fun {σ' H' v u} J rv q => ⟨v, H', J.os, J.bare, J.base, J.hok, rv, q⟩
  cases fl with
  | ret u =>
    obtain ⟨v, σ', H', J, rv, q⟩ := hs
    exact fin J rv q
  | next =>
    obtain ⟨σ', H', J, q⟩ := hs
    exact fin (v := V.non) (u := Value.none) J rfl q
  | brk =>
    obtain ⟨_, _, _, q⟩ := hs
    exact False.elim q
  | cont =>
    obtain ⟨_, _, _, q⟩ := hs
    exact False.elim q
end L2

namespace L2
open PySem PySem.Spec PyProof.Rows
section
variable {X : Cx} {x : Str} {p pos : Pos} {e : Expr} {es : List Expr} {t : TA} {id T : String} {r : List V → Hp → VK → Prop}

def tCB (r : List V → Hp → VK → Prop) (t : TA) : TE := fun σ H Q => t σ H fun vs H1 => r vs H1 Q
/-- f(e, ..), f a built-in function -/
theorem pe_callB (hc : CallR X (.builtin id) r) (hg : Gl X x) (hm : X.mg x = none) (hv : bootBuiltins x = some (.builtin id)) (ha : PA X (e :: es) t) (hn : x ≠ "__name__" := by decide) (hdb : (x == ("__debug__" : Str)) = false := by decide)
    (he : starEach (e :: es) X.env = (false, eval e X.env) :: starEach es X.env := by rfl) (hpl : (backTo pos (starEach es X.env)).any (·.1) = false := by rfl) : PE X (.Call (.Name x p) (e :: es) [] pos) (tCB r t) := by
  intro pins s σ H Q I h
  refine wpAny_Call_Name_kw (ld_blt I hg hm hv ?_ hn hdb)
  exact PyProof.Rows.callWith_builtin1 (thn (ha pos pins s σ H _ I h) fun us s1 ⟨vs, H1, I1, r1, q1⟩ => hc pins s1 σ H1 vs us Q I1 r1 q1) he hpl
/-- T(e, ..), T a built-in type -/
theorem pe_callTy (hc : CallR X (.type T) r) (hg : Gl X x) (hm : X.mg x = none) (hv : bootBuiltins x = some (.type T)) (ha : PA X (e :: es) t) (hn : x ≠ "__name__" := by decide) (hdb : (x == ("__debug__" : Str)) = false := by decide)
    (he : starEach (e :: es) X.env = (false, eval e X.env) :: starEach es X.env := by rfl) (hpl : (backTo pos (starEach es X.env)).any (·.1) = false := by rfl) : PE X (.Call (.Name x p) (e :: es) [] pos) (tCB r t) := by
  intro pins s σ H Q I h
  refine wpAny_Call_Name_kw (ld_blt I hg hm hv ?_ hn hdb)
  exact PyProof.Rows.callWith_type1 (thn (ha pos pins s σ H _ I h) fun us s1 ⟨vs, H1, I1, r1, q1⟩ => hc pins s1 σ H1 vs us Q I1 r1 q1) he hpl
/-- T() -/
theorem pe_callTy0 (hc : CallR X (.type T) r) (hg : Gl X x) (hm : X.mg x = none) (hv : bootBuiltins x = some (.type T)) (hn : x ≠ "__name__" := by decide) (hdb : (x == ("__debug__" : Str)) = false := by decide) :
    PE X (.Call (.Name x p) [] [] pos) (tCB r tNil) := by
  intro pins s σ H Q I h
  refine wpAny_Call_Name_kw (ld_blt I hg hm hv ?_ hn hdb)
  exact PyProof.Rows.callWith_type0 (hc pins s σ H [] [] Q I .nil h)
end
end L2

namespace HT
open PySem PyProof.Rows

/-- t < u of tuples of ints -/
def lexLt : List Int → List Int → Bool
  | [], [] => false
  | [], _ :: _ => true
  | _ :: _, [] => false
  | x :: xs, y :: ys => if x = y then lexLt xs ys else decide (x < y)
theorem lexLt_cons (x y : Int) (xs ys : List Int) : lexLt (x :: xs) (y :: ys) = if x = y then lexLt xs ys else decide (x < y) := rfl
theorem lexLt_nil_nil : lexLt [] [] = false := rfl
theorem lexLt_nil_cons (y : Int) (ys : List Int) : lexLt [] (y :: ys) = true := rfl
theorem lexLt_cons_nil (x : Int) (xs : List Int) : lexLt (x :: xs) [] = false := rfl

theorem eqAt_int (A : Around) (s : Shared) (a : Int) (t : Tok) (c : Int) (u : Tok) : ∃ e, SeqAt.EqAt A s (.int a t) (.int c u) e ∧ (e = true ↔ a = c) :=
  ⟨(a == c), SeqAt.EqAt.int_int a t c u, by simp⟩
theorem rcLt_int (A : Around) (s : Shared) (a : Int) (t : Tok) (c : Int) (u : Tok) (prog : Program) (w : World) (E : Value → Shared → Prop) (Q : Value → Shared → Prop) (h : Q (.bool (decide (a < c))) s) :
    wpAny (model prog w) A (richCompare .Lt (.int a t) (.int c u)) Q E s :=
  (PyProof.Rows.lt_int h : wpAny (model prog w) A (compareOp .Lt (.int a t) (.int c u)) Q E s)

section
open PySem.SeqAt
open PySem.AutoSeq1 (wpAny_loadPart')
open PySem.MeetsSeq PySem.MeetsSeq2 PySem.MeetsSeq3

theorem tuple_lt_ints (l b : Addr) (items items2 : Array Value) (n n2 : Nat) (dd dd2 : Option Addr) (sl sl2 : Array (Option Value)) (ns ms : List Int) (hi : IntsAre items.toList ns) (hj : IntsAre items2.toList ms) :
    Meets (Builtin.«tuple.__lt__» ⟨[.ref l, .ref b], []⟩)
      (fun _ R s => s.heap.get? l = some { cls := .type "tuple", dict := dd, data := .seq items n, slots := sl } ∧ s.heap.get? b = some { cls := .type "tuple", dict := dd2, data := .seq items2 n2, slots := sl2 } ∧
        R (.ok (.ret (.bool (lexLt ns ms)))) s) :=
  .of_wp fun prog w A R s h => by
    obtain ⟨hp, g, d, tk, os⟩ := s; obtain ⟨hl, hb, h⟩ := h
    have f2 := AutoSeq1.sub_tuple_tuple
    have z1 : items.size = ns.length := by rw [← hi.length]; simp
    have z2 : items2.size = ms.length := by rw [← hj.length]; simp
    wp_walk using wpAny_loadPart' hl, wpAny_loadPart' hb, wpAny_forIn_list _ (fun rest b s' => b.1 = none ∧ s' = ⟨hp, g, d, tk, os⟩ ∧ ∃ (vs ws : List Value) (ns' ms' : List Int), rest = vs.zip ws ∧
      IntsAre vs ns' ∧ IntsAre ws ms' ∧ ns'.length + items2.size = ms'.length + items.size ∧ R (.ok (.ret (.bool (lexLt ns' ms')))) ⟨hp, g, d, tk, os⟩) _
    case turn =>
      rintro ⟨y, x⟩ rest b s' ⟨hb', rfl, vs, ws, ns', ms', hz, hvi, hwi, hlen, hR⟩
      cases hvi with
      | nil => rw [List.zip_nil_left] at hz; cases hz
      | cons a t hvi' =>
        cases hwi with
        | nil => rw [List.zip_nil_right] at hz; cases hz
        | cons c u hwi' =>
          rw [List.zip_cons_cons] at hz
          injection hz with hyx hrest
          injection hyx with hy hx
          subst hy hx
          rw [lexLt_cons] at hR
          simp only [List.length_cons] at hlen
          obtain ⟨e, he, hiff⟩ := eqAt_int A.in1 ⟨hp, g, d, tk, os⟩ a t c u
          refine wpAny_bind (he prog w _ _ ?_)
          cases e with
          | true =>
            rw [if_pos (hiff.mp rfl)] at hR
            wp_walk
            exact ⟨rfl, rfl, _, _, _, _, hrest, hvi', hwi', by omega, hR⟩
          | false =>
            rw [if_neg (fun q => absurd (hiff.mpr q) Bool.false_ne_true)] at hR
            have hri := rcLt_int A.in1 ⟨hp, g, d, tk, os⟩ a t c u prog w
            wp_walk using hri
            exact ⟨_, rfl, by simpa using hR⟩
    case fin =>
      rintro ⟨b1, b2⟩ s' ⟨hb', rfl, vs, ws, ns', ms', hz, hvi, hwi, hlen, hR⟩
      simp only at hb'
      subst hb'
      have hv : lexLt ns' ms' = decide (items.size < items2.size) := by
        cases hvi with
        | nil =>
          cases hwi with
          | nil =>
            simp only [List.length_nil] at hlen
            rw [lexLt_nil_nil]
            exact (decide_eq_false (by omega)).symm
          | cons c u hw =>
            simp only [List.length_nil, List.length_cons] at hlen
            rw [lexLt_nil_cons]
            exact (decide_eq_true (by omega)).symm
        | cons a t hv =>
          cases hwi with
          | nil =>
            simp only [List.length_nil, List.length_cons] at hlen
            rw [lexLt_cons_nil]
            exact (decide_eq_false (by omega)).symm
          | cons c u hw =>
            rw [List.zip_cons_cons] at hz
            cases hz
      rw [hv] at hR
      wp_walk
      exact ⟨_, rfl, by simpa [Builtin.Tuple.tupleCompareSizes] using hR⟩
    case h =>
      exact ⟨rfl, rfl, items.toList, items2.toList, ns, ms, rfl, hi, hj, by omega, h⟩
end

section
variable {prog : Program} {w : World} {A : Around} {E : Value → Shared → Prop} {s : Shared}

theorem lt_tupInts {l b : Addr} {items items2 : Array Value} {ns ms : List Int} {Q : Value → Shared → Prop} (hl : IsTup s.heap l items) (hb : IsTup s.heap b items2) (hi : IntsAre items.toList ns) (hj : IntsAre items2.toList ms)
    (hu : A.units < cLine) (h : Q (.bool (lexLt ns ms)) s) : wpAny (model prog w) A (compareOp .Lt (.ref l) (.ref b)) Q E s := by
  obtain ⟨⟨cls, dd, data, sl⟩, ho, hc, n, hd⟩ := id hl
  obtain ⟨⟨cls2, dd2, data2, sl2⟩, ho2, hc2, n2, hd2⟩ := id hb
  simp only at hc hd hc2 hd2
  subst hc hd hc2 hd2
  exact richCompare_meets_room (op := .Lt) ⟨_, ho, rfl⟩ ⟨_, ho2, rfl⟩ PySem.F.slot_tuple_lt PySem.F.entry_tuple_lt (PySem.F.args_tuple_lt_2 _ _) (tuple_lt_ints l b items items2 n n2 dd dd2 sl sl2 ns ms hi hj)
    ⟨ho, ho2, show Value.bool (lexLt ns ms) ≠ Value.notImplemented ∧ Q (.bool (lexLt ns ms)) s from ⟨(fun x => nomatch x), h⟩⟩ hu

/-- t + u, t not empty -/
theorem cat_tup {t b : Addr} {vs ws : List Value} {Q : Value → Shared → Prop} (ht : IsTup s.heap t vs.toArray) (hb : IsTup s.heap b ws.toArray) (hv : vs ≠ [])
    (h1 : ws = [] → Q (.ref t) s) (h2 : ws ≠ [] → Q (.ref s.heap.objs.size) { s with heap := s.heap.push { cls := .type "tuple", data := .seq (vs ++ ws).toArray } })
    (hsz : vs.length + ws.length ≤ sizeLine) : wpAny (model prog w) A (binaryOp .Add (.ref t) (.ref b)) Q E s := by
  obtain ⟨⟨cls, dd, data, sl⟩, ho, hc, n, hd⟩ := id ht
  obtain ⟨⟨cls2, dd2, data2, sl2⟩, ho2, hc2, n2, hd2⟩ := id hb
  simp only at hc hd hc2 hd2
  subst hc hd hc2 hd2
  have e : vs.toArray ++ ws.toArray = (vs ++ ws).toArray := by simp
  by_cases hw : ws = []
  · exact concat_meets ⟨_, ho, rfl⟩ ⟨_, ho2, rfl⟩ noFill_tuple_add seq_tuple_add PySem.F.slot_tuple_add PySem.F.entry_tuple_add (PySem.F.args_tuple_add_2 _ _)
      (tuple_addW1 t b vs.toArray ws.toArray n n2 dd dd2 sl sl2 (by simpa using hv) (by simp [hw])) ⟨ho, ho2, h1 hw⟩
  · refine concat_meets ⟨_, ho, rfl⟩ ⟨_, ho2, rfl⟩ noFill_tuple_add seq_tuple_add PySem.F.slot_tuple_add PySem.F.entry_tuple_add (PySem.F.args_tuple_add_2 _ _)
      (tuple_addW2 t b vs.toArray ws.toArray n n2 dd dd2 sl sl2 (by simpa using hv) (by simpa using hw) (by rw [List.size_toArray, List.size_toArray]; exact hsz)) ⟨ho, ho2, ?_⟩
    rw [e]
    exact h2 hw

/-! ### t[a:b], not the whole -/
/-- a slice's bound as a place among n (d where it is left out) -/
def sIx (n d : Nat) : Option Int → Nat
  | none => d
  | some v => if v < 0 then (v + (n : Int)).toNat else min v.toNat n
theorem sIx_none (n d : Nat) : sIx n d none = d := rfl
theorem sIx_nat (n d k : Nat) : sIx n d (some (k : Int)) = min k n := by
  show (if (k : Int) < 0 then ((k : Int) + (n : Int)).toNat else min (k : Int).toNat n) = min k n
  rw [if_neg (by omega), Int.toNat_natCast]
theorem sIx_le (n d : Nat) (hd : d ≤ n) (o : Option Int) : sIx n d o ≤ n := by
  cases o with
  | none => exact hd
  | some v =>
    show (if v < 0 then (v + (n : Int)).toNat else min v.toNat n) ≤ n
    by_cases hv : v < 0
    · rw [if_pos hv]; omega
    · rw [if_neg hv]; exact Nat.min_le_right _ _
theorem clip_eq (v : Int) (n d : Nat) : (if v < 0 then max (v + (n : Int)) 0 else min v (n : Int)) = ((sIx n d (some v) : Nat) : Int) := by
  show (if v < 0 then max (v + (n : Int)) 0 else min v (n : Int)) = (((if v < 0 then (v + (n : Int)).toNat else min v.toNat n) : Nat) : Int)
  by_cases hv : v < 0
  · simp only [if_pos hv]; omega
  · simp only [if_neg hv]; omega
theorem adjust_gen (lo hi : Option Int) (n : Nat) : Builtin.Slice.sliceAdjust lo hi 1 (n : Int) = (((sIx n 0 lo : Nat) : Int), ((sIx n n hi : Nat) : Int)) := by
  have h1 : ¬ ((1 : Int) < 0) := by omega
  unfold Builtin.Slice.sliceAdjust
  simp only [h1, if_false]
  refine Prod.ext ?_ ?_
  · cases lo with
    | none => rfl
    | some v => exact clip_eq v n 0
  · cases hi with
    | none => rfl
    | some v => exact clip_eq v n n
theorem places_gen (i j : Nat) : Builtin.Slice.slicePlaces (i : Int) (j : Int) 1 = j - i := by
  unfold Builtin.Slice.slicePlaces
  have h1 : (1 : Int) > 0 := by omega
  simp only [h1, if_true, Int.ediv_one]
  split <;> omega
theorem slicePart_ {v : Value} {o : Option Int} {Q : Option Int → Shared → Prop} (p : IsPart v o) (h : Q o s) : wpAny (model prog w) A (Builtin.Slice.slicePartIndex v) Q E s := by
  cases p with
  | none => exact slicePart_none h
  | int i t => exact slicePart_int h
theorem sliceApplied_gen {sl : Addr} {vl vu : Value} {lo hi : Option Int} {n : Nat} {Q : Int × Int × Nat → Shared → Prop} (hs : s.heap.IsSliceOf sl vl vu .none) (pl : IsPart vl lo) (pu : IsPart vu hi)
    (h : Q (((sIx n 0 lo : Nat) : Int), 1, sIx n n hi - sIx n 0 lo) s) : wpAny (model prog w) A (Builtin.Slice.sliceApplied (.ref sl) (pure (n : Int))) Q E s := by
  obtain ⟨os, hos, hcs, hds⟩ := id hs
  unfold Builtin.Slice.sliceApplied Builtin.Slice.sliceFields
  refine wpAny_bind (wpAny_bind (wpAny_field hos hds (x := vl) rfl (wpAny_bind (wpAny_field hos hds (x := vu) rfl (wpAny_bind (wpAny_field hos hds (x := .none) rfl (wpAny_pure ?_)))))))
  refine wpAny_bind (slicePart_none ?_)
  show wpAny _ _ (if ((1 : Int) == 0) = true then _ else _) _ _ s
  rw [if_neg (by decide)]
  refine wpAny_bind (slicePart_ pl (wpAny_bind (slicePart_ pu (wpAny_bind (wpAny_pure ?_)))))
  show wpAny _ _ (match Builtin.Slice.sliceAdjust lo hi 1 (n : Int) with | (lo, hi) => pure (lo, (1 : Int), Builtin.Slice.slicePlaces lo hi 1)) _ _ s
  rw [adjust_gen lo hi n]
  show wpAny _ _ (pure (((sIx n 0 lo : Nat) : Int), (1 : Int), Builtin.Slice.slicePlaces ((sIx n 0 lo : Nat) : Int) ((sIx n n hi : Nat) : Int) 1)) _ _ s
  rw [places_gen]
  exact wpAny_pure h
theorem pick_gen (xs : Array Value) (i k : Nat) : ((List.range k).filterMap fun (m : Nat) => xs[((i : Int) + (m : Int) * 1).toNat]?).toArray = ((xs.toList.drop i).take k).toArray := by
  have e : (fun (m : Nat) => xs[((i : Int) + (m : Int) * 1).toNat]?) = fun m => xs[i + m]? := by
    funext m
    have : ((i : Int) + (m : Int) * 1).toNat = i + m := by omega
    rw [this]
  rw [e]
  have := pick_run xs i k
  rw [List.filterMap_map] at this
  have e2 : ((fun x => xs[x]?) ∘ fun x => i + x) = fun m => xs[i + m]? := rfl
  rw [e2] at this
  rw [this]

theorem getItem_tuple_cut {t sl : Addr} {items : Array Value} {vl vu : Value} {lo hi : Option Int} {Q : Value → Shared → Prop} (ht : IsTup s.heap t items) (hs : s.heap.IsSliceOf sl vl vu .none) (pl : IsPart vl lo) (pu : IsPart vu hi)
    (hw : ¬ (sIx items.size 0 lo = 0 ∧ sIx items.size items.size hi = items.size))
    (h : Q (.ref s.heap.objs.size) { s with heap := s.heap.push { cls := .type "tuple", data := .seq ((items.toList.drop (sIx items.size 0 lo)).take (sIx items.size items.size hi - sIx items.size 0 lo)).toArray } })
    (hsz : items.size ≤ sizeLine) : wpAny (model prog w) A (getItem (.ref t) (.ref sl)) Q E s := by
  have htake : sizeOk (.seq ((items.toList.drop (sIx items.size 0 lo)).take (sIx items.size items.size hi - sIx items.size 0 lo)).toArray) := by
    show ((items.toList.drop (sIx items.size 0 lo)).take (sIx items.size items.size hi - sIx items.size 0 lo)).toArray.size ≤ sizeLine
    rw [List.size_toArray, List.length_take, List.length_drop, Array.length_toList]
    omega
  have hj : sIx items.size items.size hi ≤ items.size := sIx_le _ _ (Nat.le_refl _) hi
  obtain ⟨os, hos, hcs, hds⟩ := id hs
  have hTs : s.TypeIs (.ref sl) "slice" := ⟨os, hos, hcs⟩
  unfold getItem
  try with_reducible refine wpAny_holding ?_
  first | refine wpAny_bind (wpAny_pure ?_) | skip
  refine wpAny_bind (wpAny_sequenceKey ht.typeIs (by decide) ?_)
  refine wpAny_bind (wpAny_callSpecial?_slot (name := Str.ofString "__getitem__") ht.typeIs PyProof.Rows.slot_tuple_getitem
    (wpAny_call_entry PyProof.Rows.slot_tuple_getitem ht.typeIs entry_tuple_getitem ?_ (args_tuple_getitem _ _)))
  show wpAny _ _ (Builtin.Tuple.tupleItemsOf (.ref t) >>= _) _ _ s
  refine wpAny_bind (tupleItemsOf_ ht ?_)
  refine wpAny_bind (wpAny_typeOf hTs ?_)
  rw [if_pos (by decide)]
  refine wpAny_bind (sliceApplied_gen hs pl pu ?_)
  have hno : ¬ ((((sIx items.size 0 lo : Nat) : Int) == 0 && (1 : Int) == 1 && (sIx items.size items.size hi - sIx items.size 0 lo) == items.size) = true) := by
    intro q
    rw [Bool.and_eq_true, Bool.and_eq_true] at q
    have q1 : ((sIx items.size 0 lo : Nat) : Int) = 0 := eq_of_beq q.1.1
    have q2 : sIx items.size items.size hi - sIx items.size 0 lo = items.size := eq_of_beq q.2
    exact hw ⟨by omega, by omega⟩
  show wpAny _ _ (if (((sIx items.size 0 lo : Nat) : Int) == 0 && (1 : Int) == 1 && (sIx items.size items.size hi - sIx items.size 0 lo) == items.size) = true then _ else _) _ _ s
  rw [if_neg hno, pick_gen]
  first
    | exact wpAny_bind (m := Builtin.Tuple.tupleExact _) (wpAny_newObj_type (wpAny_pure ⟨_, rfl, wpAny_pure h⟩) htake)
    | exact wpAny_bind (m := Builtin.Tuple.tupleExact _) (wpAny_newObj_type (wpAny_bind (wpAny_pure (wpAny_pure ⟨_, rfl, wpAny_pure h⟩))) htake)
    | exact wpAny_bind (wpAny_bind (m := Builtin.Tuple.tupleExact _) (wpAny_newObj_type (wpAny_pure (wpAny_pure ⟨_, rfl, wpAny_pure h⟩)) htake))
    | exact wpAny_bind (wpAny_bind (m := Builtin.Tuple.tupleExact _) (wpAny_newObj_type (wpAny_pure ⟨_, rfl, wpAny_pure h⟩) htake))
end
end HT

namespace L2
open PySem PySem.Spec PyProof.Rows

/-! ### the parts of a slice -/
abbrev TO := St → Hp → (Option Int → Hp → Prop) → Prop
/-- a slice's part (left out, or an int) -/
def PO (X : Cx) (e : Option Expr) (t : TO) : Prop :=
  ∀ (pins : List (Addr × Obj)) (s : Shared) (σ : St) (H : Hp) (Q : Option Int → Hp → Prop), Inv X pins σ H s → t σ H Q →
    wpAny (model X.prog X.w) X.A (evalPart e X.env) (fun u s' => ∃ o H', Inv X pins σ H' s' ∧ IsPart u o ∧ Q o H') X.xe s
def tNoPart : TO := fun _ H Q => Q none H
def tPart (t : TE) : TO := fun σ H Q => t σ H fun x H1 => ∃ i, x = .int i ∧ Q (some i) H1

theorem intsAre_of {ns : List Int} : ∀ {us : List Value}, Vals (ns.map V.int) us → IntsAre us ns := by
  induction ns with
  | nil => intro us r; rw [List.map_nil] at r; cases r; exact .nil
  | cons n ns ih =>
    intro us r
    rw [List.map_cons] at r
    cases r with
    | cons r1 r2 =>
      obtain ⟨t, e⟩ := r1
      subst e
      exact .cons n t (ih r2)

section
variable {X : Cx} {e : Expr} {te : TE} {lo hi : Option Expr} {tl th : TO} {pos p2 : Pos}

theorem po_none : PO X none tNoPart := by
  intro pins s σ H Q I h
  rw [evalPart_none]
  exact wpAny_pure ⟨none, H, I, .none, h⟩
theorem po_some (h : PE X e te) : PO X (some e) (tPart te) := by
  intro pins s σ H Q I hw
  rw [evalPart_some]
  refine thn (h pins s σ H _ I hw) fun u s1 ⟨x, H1, I1, r1, q1⟩ => ?_
  obtain ⟨i, rfl, q⟩ := q1
  obtain ⟨t, rfl⟩ := r1
  exact ⟨some i, H1, I1, .int i t, q⟩

/-- what a slice of a value is, by values: the slice object stands at sl -/
def SlR (X : Cx) (r : V → Option Int → Option Int → Hp → VK → Prop) : Prop :=
  ∀ (pins : List (Addr × Obj)) (s : Shared) (σ : St) (H : Hp) (x : V) (v vl vu : Value) (lo hi : Option Int) (sl : Addr) (Q : VK), Inv X pins σ H s → RelV x v → s.heap.IsSliceOf sl vl vu .none → IsPart vl lo → IsPart vu hi → r x lo hi H Q →
    ∃ T id, typeLookup (.type T) "__getitem__" = pure (some (.builtin id)) ∧ s.TypeIs v T ∧ wpAny (model X.prog X.w) X.A (getItem v (.ref sl)) (EP X pins σ Q) X.xe s
theorem SlR.or {r r' : V → Option Int → Option Int → Hp → VK → Prop} (h : SlR X r) (h' : SlR X r') : SlR X (fun x lo hi H Q => r x lo hi H Q ∨ r' x lo hi H Q) := by
  intro pins s σ H x v vl vu lo hi sl Q I rx hs pl pu q
  rcases q with q | q
  · exact h pins s σ H x v vl vu lo hi sl Q I rx hs pl pu q
  · exact h' pins s σ H x v vl vu lo hi sl Q I rx hs pl pu q
def tSl (r : V → Option Int → Option Int → Hp → VK → Prop) (te : TE) (tl th : TO) : TE := fun σ H Q => te σ H fun x H1 => tl σ H1 fun l H2 => th σ H2 fun u H3 => r x l u H3 Q
/-- a[lo:hi], any a -/
theorem pe_slice {r : V → Option Int → Option Int → Hp → VK → Prop} (hr : SlR X r) (he : PE X e te) (hl : PO X lo tl) (hu : PO X hi th) : PE X (.Subscript e (.Slice lo hi none p2) pos) (tSl r te tl th) := by
  intro pins s σ H Q I h
  refine Subscript_ (thn (he pins s σ H _ I h) fun v s1 ⟨x, H1, I1, r1, q1⟩ => ?_)
  refine wpAny_Slice (thn (hl pins s1 σ H1 _ I1 q1) fun vl s2 ⟨l, H2, I2, pl, q2⟩ => thn (hu pins s2 σ H2 _ I2 q2) fun vu s3 ⟨u, H3, I3, pu, q3⟩ => ?_)
  rw [evalPart_none]
  refine wpAny_pure ?_
  have I4 : Inv X pins σ H3 { s3 with heap := s3.heap.push { cls := .type "slice", data := .fields #[vl, vu, .none] } } := I3.kept (t' := s3.toks) fun b ob q => Heap.get?_push_of_some _ q
  obtain ⟨T, id, hT, ht, hg⟩ := hr pins { s3 with heap := s3.heap.push { cls := .type "slice", data := .fields #[vl, vu, .none] } } σ H3 x v vl vu l u s3.heap.objs.size Q I4 r1 (Heap.IsSliceOf.new ..) pl pu q3
  show wpAny (model X.prog X.w) X.A (subscriptTail e (.Slice lo hi none p2) v (.ref s3.heap.objs.size)) (EP X pins σ Q) X.xe { s3 with heap := s3.heap.push { cls := .type "slice", data := .fields #[vl, vu, .none] } }
  exact tail_any (ops := [.ref s3.heap.objs.size, v]) ht hT hg (by with_unfolding_all rfl)

/-- the items of xs[lo:hi] -/
def cutV (xs : List V) (lo hi : Option Int) : List V := (xs.drop (HT.sIx xs.length 0 lo)).take (HT.sIx xs.length xs.length hi - HT.sIx xs.length 0 lo)
theorem cutV_length (xs : List V) (lo hi : Option Int) : (cutV xs lo hi).length ≤ xs.length := by
  unfold cutV
  rw [List.length_take, List.length_drop]
  omega
/-- t[lo:hi], not the whole of it (the whole would be t itself) -/
def rSlT (K : PySem.W.Frag) : V → Option Int → Option Int → Hp → VK → Prop := fun x lo hi H Q => ∃ a xs, x = .ref a ∧ SqT K H a xs ∧
  ¬ (HT.sIx xs.length 0 lo = 0 ∧ HT.sIx xs.length xs.length hi = xs.length) ∧ ∀ p, H p = none → Q (.ref p) (upd H p (.tup (cutV xs lo hi)))
theorem sl_tup : SlR X (rSlT X.K) := by
  intro pins s σ H x v vl vu lo hi sl Q I rx hs pl pu h
  obtain ⟨a, xs, rfl, hx, hw, q⟩ := h
  cases rx
  obtain ⟨its, r, ht, hz⟩ := I.tuple hx
  have hlen : its.toArray.size = xs.length := by rw [List.size_toArray]; exact r.length.symm
  refine ⟨"tuple", _, PyProof.Rows.slot_tuple_getitem.lookup, ht.typeIs, ?_⟩
  refine HT.getItem_tuple_cut ht hs pl pu (by rw [hlen]; exact hw) ?_ (by rw [hlen]; exact hz)
  rw [hlen]
  refine ⟨.ref s.heap.objs.size, _, I.laid (t' := s.toks) (o := .tup (cutV xs lo hi)) (fun b ob q => Heap.get?_push_of_some _ q) (Nat.le_refl _) ?_, rfl, q _ (I.hok.fresh (Nat.le_refl _))⟩
  exact ⟨Nat.le_trans (cutV_length xs lo hi) hz, _, (r.drop (HT.sIx xs.length 0 lo)).take (HT.sIx xs.length xs.length hi - HT.sIx xs.length 0 lo), IsTup.new _ _⟩

/-! ### t < u, t + u -/
def rLtT (K : PySem.W.Frag) : R2 := fun x y H Q => ∃ a b ns ms, x = .ref a ∧ y = .ref b ∧ SqT K H a (ns.map V.int) ∧ SqT K H b (ms.map V.int) ∧ Q (.bl (HT.lexLt ns ms)) H
theorem op_ltT (hu : X.A.units < cLine) : OpR X (compareOp .Lt) (rLtT X.K) := by
  intro pins s σ H x y v u Q I rx ry h
  obtain ⟨a, b, ns, ms, rfl, rfl, ha, hb, q⟩ := h
  cases rx
  cases ry
  obtain ⟨its, r1, p1, _⟩ := I.tuple ha
  obtain ⟨its2, r2, p2, _⟩ := I.tuple hb
  have i1 : IntsAre its.toArray.toList ns := intsAre_of r1
  have i2 : IntsAre its2.toArray.toList ms := intsAre_of r2
  exact HT.lt_tupInts p1 p2 i1 i2 hu ⟨.bl (HT.lexLt ns ms), H, I, rfl, q⟩
/-- t + u, t not empty: u empty gives t itself -/
def rCatT (K : PySem.W.Frag) : R2 := fun x y H Q => ∃ a b xs ys, x = .ref a ∧ y = .ref b ∧ SqT K H a xs ∧ SqT K H b ys ∧ xs ≠ [] ∧ xs.length + ys.length ≤ sizeLine ∧
  (ys = [] → Q (.ref a) H) ∧ (ys ≠ [] → ∀ p, H p = none → Q (.ref p) (upd H p (.tup (xs ++ ys))))
theorem Vals.nil_iff {xs : List V} {us : List Value} (r : Vals xs us) : us = [] ↔ xs = [] := by
  cases r with
  | nil => simp
  | cons _ _ => simp
theorem op_catT : OpR X (binaryOp .Add) (rCatT X.K) := by
  intro pins s σ H x y v u Q I rx ry h
  obtain ⟨a, b, xs, ys, rfl, rfl, ha, hb, hx, hz, q1, q2⟩ := h
  cases rx
  cases ry
  obtain ⟨its, r1, p1, _⟩ := I.tuple ha
  obtain ⟨its2, r2, p2, _⟩ := I.tuple hb
  refine HT.cat_tup p1 p2 (fun z => hx (r1.nil_iff.mp z)) (fun z => ⟨.ref a, H, I, rfl, q1 (r2.nil_iff.mp z)⟩) (fun z => ?_) (by rw [← r1.length, ← r2.length]; exact hz)
  refine ⟨.ref s.heap.objs.size, _, I.laid (t' := s.toks) (o := .tup (xs ++ ys)) (fun b ob q => Heap.get?_push_of_some _ q) (Nat.le_refl _) ?_, rfl, q2 (fun w => z (r2.nil_iff.mpr w)) _ (I.hok.fresh (Nat.le_refl _))⟩
  exact ⟨by rw [List.length_append]; exact hz, _, r1.append r2, IsTup.new _ _⟩
/-- tuple(t) -/
theorem call_tupleT : CallR X (.type "tuple") (fun xs H Q => ∃ a ys, xs = [.ref a] ∧ SqT X.K H a ys ∧ Q (.ref a) H) := by
  intro pins s σ H xs us Q I r h
  obtain ⟨a, ys, rfl, ha, q⟩ := h
  obtain ⟨u, rfl, ru⟩ := vals1 r
  cases ru
  obtain ⟨its, _, p1, _⟩ := I.tuple ha
  exact call_tuple_same (items := its.toArray) p1 ⟨.ref a, H, I, rfl, q⟩
end
end L2

namespace L2
open PySem PySem.Spec PyProof.Rows

/-! ### places -/
/-- the place that an index of any sign means -/
def ixN (n : Nat) (i : Int) : Option Nat := if 0 ≤ i then (if i < n then some i.toNat else none) else if -(n : Int) ≤ i then some (i + n).toNat else none
def atI {α : Type} (xs : List α) (i : Int) : Option α := (ixN xs.length i).bind fun j => xs[j]?
theorem ixN_seq {n : Nat} {i : Int} {j : Nat} (h : ixN n i = some j) : seqIndex? i n = some j ∧ j < n ∧ -(n : Int) ≤ i ∧ i < n := by
  unfold ixN at h
  by_cases h0 : 0 ≤ i
  · rw [if_pos h0] at h
    by_cases h1 : i < n
    · rw [if_pos h1] at h
      have e : i.toNat = j := Option.some.inj h
      exact ⟨by rw [seqIndex_of h0 h1, e], by omega, by omega, h1⟩
    · rw [if_neg h1] at h; cases h
  · rw [if_neg h0] at h
    by_cases h1 : -(n : Int) ≤ i
    · rw [if_pos h1] at h
      have e : (i + n).toNat = j := Option.some.inj h
      exact ⟨by rw [seqIndex_neg (by omega) h1, e], by omega, h1, by omega⟩
    · rw [if_neg h1] at h; cases h
theorem atI_get {α : Type} {xs : List α} {i : Int} {v : α} (h : atI xs i = some v) : ∃ j, seqIndex? i xs.length = some j ∧ xs[j]? = some v ∧ j < xs.length ∧ -(xs.length : Int) ≤ i ∧ i < xs.length := by
  unfold atI at h
  cases e : ixN xs.length i with
  | none => rw [e] at h; cases h
  | some j =>
    rw [e] at h
    obtain ⟨h1, h2, h3, h4⟩ := ixN_seq e
    exact ⟨j, h1, h, h2, h3, h4⟩
theorem atI_nat {α : Type} {xs : List α} {j : Nat} {v : α} (h : xs[j]? = some v) : atI xs (j : Int) = some v := by
  have hj : j < xs.length := (List.getElem?_eq_some_iff.mp h).1
  have e : ixN xs.length (j : Int) = some j := by
    unfold ixN
    rw [if_pos (by omega), if_pos (by omega)]; simp
  unfold atI; rw [e]; exact h
theorem atI_last {α : Type} (xs : List α) (v : α) : atI (xs ++ [v]) (-1) = some v := by
  have hl : (xs ++ [v]).length = xs.length + 1 := by simp
  have e : ixN (xs ++ [v]).length (-1) = some xs.length := by
    unfold ixN
    rw [hl, if_neg (by decide), if_pos (by omega)]
    congr 1
    omega
  unfold atI
  rw [e]
  show (xs ++ [v])[xs.length]? = some v
  simp

/-! ### what may be subscripted -/
/-- what stands as an index of a plain subscript -/
def PlainIx (b : Expr) : Prop := ∀ o i, subscripted b false o i = operate [o, i] (getItem o i)
/-- a subscript by values -/
def IxR (X : Cx) (r : R2) : Prop :=
  ∀ (value slice : Expr) (pins : List (Addr × Obj)) (s : Shared) (σ : St) (H : Hp) (x y : V) (v u : Value) (Q : VK), Inv X pins σ H s → RelV x v → RelV y u → r x y H Q →
    subscripted slice false v u = operate [v, u] (getItem v u) → wpAny (model X.prog X.w) X.A (subscriptTail value slice v u) (EP X pins σ Q) X.xe s
/-- a call of a builtin's method by values: the receiver, the arguments -/
def MtR (X : Cx) (id : String) (r : V → List V → Hp → VK → Prop) : Prop :=
  ∀ (pins : List (Addr × Obj)) (s : Shared) (σ : St) (H : Hp) (x : V) (xs : List V) (v : Value) (us : List Value) (Q : VK), Inv X pins σ H s → RelV x v → Vals xs us → r x xs H Q →
    wpAny (model X.prog X.w) X.A (call (.builtin id) (v :: us)) (EP X pins σ Q) X.xe s
section
variable {X : Cx} {a b : Expr} {ta tb : TE} {pos : Pos}
theorem IxR.or {r r' : R2} (h : IxR X r) (h' : IxR X r') : IxR X (fun x y H Q => r x y H Q ∨ r' x y H Q) := by
  intro value slice pins s σ H x y v u Q I rx ry q hs
  rcases q with q | q
  · exact h value slice pins s σ H x y v u Q I rx ry q hs
  · exact h' value slice pins s σ H x y v u Q I rx ry q hs
theorem MtR.or {id : String} {r r' : V → List V → Hp → VK → Prop} (h : MtR X id r) (h' : MtR X id r') : MtR X id (fun x xs H Q => r x xs H Q ∨ r' x xs H Q) := by
  intro pins s σ H x xs v us Q I rx rs q
  rcases q with q | q
  · exact h pins s σ H x xs v us Q I rx rs q
  · exact h' pins s σ H x xs v us Q I rx rs q
/-- a[b] -/
theorem pe_ix {r : R2} (hr : IxR X r) (ha : PE X a ta) (hb : PE X b tb) (hs : PlainIx b) : PE X (.Subscript a b pos) (tOp r ta tb) := by
  intro pins s σ H Q I h
  exact Subscript_ (binT ha hb I h fun v u s2 x y H2 I2 rx ry q => hr a b pins s2 σ H2 x y v u Q I2 rx ry q (hs _ _))

def rIxL (K : PySem.W.Frag) : R2 := fun x y H Q => ∃ p xs i v, x = .ref p ∧ y = .int i ∧ SqL K H p xs ∧ atI xs i = some v ∧ Q v H
def rIxT (K : PySem.W.Frag) : R2 := fun x y H Q => ∃ p xs i v, x = .ref p ∧ y = .int i ∧ SqT K H p xs ∧ atI xs i = some v ∧ Q v H
def rIxS : R2 := fun x y H Q => ∃ z i c, x = .str z ∧ y = .int i ∧ z.length ≤ sizeLine ∧ atI z.cps.toList i = some c ∧ Q (.str ⟨#[c]⟩) H
theorem ix_list : IxR X (rIxL X.K) := by
  intro value slice pins s σ H x y v u Q I rx ry h hs
  obtain ⟨p, xs, i, z, rfl, rfl, hq, he, q⟩ := h
  cases rx
  obtain ⟨t, rfl⟩ := ry
  obtain ⟨its, r, pl, hz⟩ := I.list hq
  obtain ⟨j, h1, h2, h3, h4, h5⟩ := atI_get he
  obtain ⟨w, ew, rw'⟩ := r.get h2
  have hl := r.length
  have hn := line63
  have fin : EP X pins σ Q w s := ⟨z, H, I, rw', q⟩
  by_cases h0 : 0 ≤ i
  · have hj : i.toNat = j := by
      rw [seqIndex_of h0 h5] at h1
      exact Option.some.inj h1
    exact item_listR pl.isList h0 (by omega) (by rw [hj]; simpa using ew) fin hs
  · have hj : (i + (its.toArray.size : Int)).toNat = j := by
      rw [seqIndex_neg (by omega) h4] at h1
      rw [List.size_toArray, ← hl]
      exact Option.some.inj h1
    exact subscriptTail_builtinR (x := w) pl.isList.typeIs slot_list_getitem.lookup
      (wpAny_getItem_list_neg (Q := fun r s' => r = w ∧ EP X pins σ Q r s') pl.isList (by omega) (by rw [List.size_toArray] <;> omega) (by omega) (by rw [hj]; simpa using ew) ⟨rfl, fin⟩) hs
theorem ix_tup : IxR X (rIxT X.K) := by
  intro value slice pins s σ H x y v u Q I rx ry h hs
  obtain ⟨p, xs, i, z, rfl, rfl, hq, he, q⟩ := h
  cases rx
  obtain ⟨t, rfl⟩ := ry
  obtain ⟨its, r, pl, hz⟩ := I.tuple hq
  obtain ⟨j, h1, h2, h3, h4, h5⟩ := atI_get he
  obtain ⟨w, ew, rw'⟩ := r.get h2
  have hl := r.length
  have hn := line63
  have fin : EP X pins σ Q w s := ⟨z, H, I, rw', q⟩
  exact subscriptTail_builtinR (x := w) pl.typeIs slot_tuple_getitem.lookup
    (getItem_tuple (j := j) (Q := fun r s' => r = w ∧ EP X pins σ Q r s') pl (by omega) (by omega) (by rw [List.size_toArray, ← hl]; exact h1) (by simpa using ew) ⟨rfl, fin⟩) hs
theorem ix_str : IxR X rIxS := by
  intro value slice pins s σ H x y v u Q I rx ry h hs
  obtain ⟨z, i, c, rfl, rfl, hz, he, q⟩ := h
  obtain ⟨t, rfl⟩ := rx
  obtain ⟨t', rfl⟩ := ry
  obtain ⟨j, h1, h2, h3, h4, h5⟩ := atI_get he
  have hl : z.cps.toList.length = z.length := by simp [Str.length]
  rw [hl] at h1 h4 h5
  have hn := line63
  exact tail_any (typeIs_str s z t) slot_str_getitem.lookup (getItem_str (c := c) (by
    have e1 : decide (i < -(2 ^ 63 : Int)) = false := decide_eq_false (by omega)
    have e2 : decide (i ≥ 2 ^ 63) = false := decide_eq_false (by omega)
    rw [e1, e2, Bool.or_false]) (by rw [h1]; simpa using h2) ⟨.str ⟨#[c]⟩, H, I.tok _, ⟨_, rfl⟩, q⟩) hs
/-- list, tuple or str -/
def rIx (K : PySem.W.Frag) : R2 := fun x y H Q => rIxL K x y H Q ∨ rIxT K x y H Q ∨ rIxS x y H Q
theorem ix_seq : IxR X (rIx X.K) := ix_list.or (ix_tup.or ix_str)

/-! ### xs[i] = v, any sign -/
/-- the list's object behind a store -/
theorem mapSeq_set (its : List Value) (n j : Nat) (u : Value) : Obj.mapSeq (·.setIfInBounds j u) { cls := .type "list", data := .seq its.toArray n } = { cls := .type "list", data := .seq (its.set j u).toArray n } := by
  simp [Obj.mapSeq]
theorem Inv.lst {pins : List (Addr × Obj)} {σ : St} {H : Hp} {s : Shared} {p : Addr} {xs : List V} (I : Inv X pins σ H s) (h : H p = some (.lst xs)) :
    ∃ (its : List Value) (n : Nat), Vals xs its ∧ s.heap.get? p = some { cls := .type "list", data := .seq its.toArray n } ∧ xs.length ≤ sizeLine := by
  obtain ⟨z, its, n, r, e⟩ := I.hok p _ h
  exact ⟨its, n, r, e, z⟩
/-- the list at p is written by an update of its object -/
theorem Inv.lstUpd {pins : List (Addr × Obj)} {σ : St} {H : Hp} {s : Shared} {p : Addr} {xs ys : List V} {its its' : List Value} {n n' : Nat} {f : Obj → Obj} (I : Inv X pins σ H s) (h : H p = some (.lst xs))
    (ho : s.heap.get? p = some { cls := .type "list", data := .seq its.toArray n }) (hf : f { cls := .type "list", data := .seq its.toArray n } = { cls := .type "list", data := .seq its'.toArray n' }) (r : Vals ys its') (hz : ys.length ≤ sizeLine) (t : Nat) :
    Inv X pins σ (upd H p (.lst ys)) { s with heap := s.heap.update p f, toks := t } := by
  have e : (s.heap.update p f).get? p = some { cls := .type "list", data := .seq its'.toArray n' } := by
    rw [Heap.get?_update_self f ho (by rw [hf] <;> rfl), hf]
  refine I.write (x := p) (e := p) (by rw [h]; trivial) (.inl rfl) (fun b u hb q => (Heap.get?_update_other _ _ (Ne.symm hb)).trans q) ⟨_, e⟩ ?_
  exact ⟨hz, its', n', r, e⟩
def rSetL : V → V → V → Hp → (Hp → Prop) → Prop := fun o i v H Q => ∃ p xs k j, o = .ref p ∧ i = .int k ∧ H p = some (.lst xs) ∧ ixN xs.length k = some j ∧ Q (upd H p (.lst (xs.set j v)))
theorem set_list : PSet X rSetL := by
  intro pins s σ H o i v ov iv u Q I ro ri rv h
  obtain ⟨p, xs, k, j, rfl, rfl, hp, hj, q⟩ := h
  cases ro
  obtain ⟨t, rfl⟩ := ri
  obtain ⟨its, n, r, ho, hz⟩ := I.lst hp
  obtain ⟨h1, h2, h3, h4⟩ := ixN_seq hj
  have hl := r.length
  have hn := line63
  have I' : Inv X pins σ (upd H p (.lst (xs.set j v))) { s with heap := s.heap.update p (Obj.mapSeq (·.setIfInBounds j u)) } :=
    I.lstUpd hp ho (mapSeq_set its n j u) (r.set rv j) (by rw [List.length_set]; exact hz) s.toks
  by_cases h0 : 0 ≤ k
  · have hk : k.toNat = j := by
      rw [seqIndex_of h0 h4] at h1
      exact Option.some.inj h1
    exact PySem.W.ki_setAt ho h0 (by omega) (by rw [List.size_toArray, ← hl]; exact h4) (by rw [hk]; exact ⟨_, I', q⟩)
  · have hk : (k + (its.toArray.size : Int)).toNat = j := by
      rw [seqIndex_neg (by omega) h3] at h1
      rw [List.size_toArray, ← hl]
      exact Option.some.inj h1
    exact PySem.W.ki_setBack ho (by omega) (by rw [List.size_toArray, ← hl]; exact h3) (by omega) (by rw [hk]; exact ⟨_, I', q⟩)

/-! ### slices -/
theorem slice_bounds (lo hi : Option Int) (n : Nat) : (sliceBounds lo hi none n).1 = ((HT.sIx n 0 lo : Nat) : Int) ∧ (sliceBounds lo hi none n).2.1 = ((HT.sIx n n hi : Nat) : Int) ∧ (sliceBounds lo hi none n).2.2 = 1 := by
  refine ⟨?_, ?_, rfl⟩
  · cases lo with
    | none => simp [sliceBounds, HT.sIx]
    | some i =>
      simp only [sliceBounds, HT.sIx, Option.getD_none, show (1 : Int) > 0 by decide, if_true]
      by_cases h : i < 0
      · simp only [h, if_true] <;> omega
      · simp only [h, if_false] <;> omega
  · cases hi with
    | none => simp [sliceBounds, HT.sIx]
    | some i =>
      simp only [sliceBounds, HT.sIx, Option.getD_none, show (1 : Int) > 0 by decide, if_true]
      by_cases h : i < 0
      · simp only [h, if_true] <;> omega
      · simp only [h, if_false] <;> omega
theorem slicePick_cut (its : List Value) (lo hi : Option Int) : slicePick its.toArray lo hi none = ((its.drop (HT.sIx its.length 0 lo)).take (HT.sIx its.length its.length hi - HT.sIx its.length 0 lo)).toArray := by
  obtain ⟨h1, h2, h3⟩ := slice_bounds lo hi its.toArray.size
  unfold slicePick
  rw [h1, h2, h3]
  simp only [sliceRange_one, pick_run, List.size_toArray] <;> rfl
/-- xs[lo:hi] of a list: a new list -/
def rSlL (K : PySem.W.Frag) : V → Option Int → Option Int → Hp → VK → Prop := fun x lo hi H Q => ∃ a xs, x = .ref a ∧ SqL K H a xs ∧ ∀ p, H p = none → Q (.ref p) (upd H p (.lst (cutV xs lo hi)))
theorem sl_list : SlR X (rSlL X.K) := by
  intro pins s σ H x v vl vu lo hi sl Q I rx hs pl pu h
  obtain ⟨a, xs, rfl, hx, q⟩ := h
  cases rx
  obtain ⟨its, r, ht, hz⟩ := I.list hx
  have hlen := r.length
  refine ⟨"list", _, slot_list_getitem.lookup, ht.isList.typeIs, ?_⟩
  refine wpAny_getItem_list_slice ht.isList hs pl pu .none (by simp) ?_ (by rw [List.size_toArray] <;> omega)
  rw [slicePick_cut, ← hlen]
  refine ⟨.ref s.heap.objs.size, _, I.laid (t' := s.toks) (o := .lst (cutV xs lo hi)) (fun b ob q => Heap.get?_push_of_some _ q) (Nat.le_refl _) ?_, rfl, q _ (I.hok.fresh (Nat.le_refl _))⟩
  exact ⟨Nat.le_trans (cutV_length xs lo hi) hz, _, 0, (r.drop (HT.sIx xs.length 0 lo)).take (HT.sIx xs.length xs.length hi - HT.sIx xs.length 0 lo), Heap.get?_push_size _ rfl⟩

/-! ### in, not in: flat items -/
def flatV : V → Bool
  | .non => true
  | .bl _ => true
  | .int _ => true
  | .str _ => true
  | _ => false
/-- == of flat values -/
def eqV : V → V → Bool
  | .non, .non => true
  | .bl a, .bl b => a == b
  | .bl a, .int b => (if a then 1 else 0) == b
  | .int a, .bl b => a == (if b then 1 else 0)
  | .int a, .int b => a == b
  | .str a, .str b => a == b
  | _, _ => false
theorem eqAt_V {A : Around} {s : Shared} {y x : V} {u v : Value} (ry : RelV y u) (rx : RelV x v) (fy : flatV y = true) (fx : flatV x = true) : SeqAt.EqAt A s u v (eqV y x) := by
  cases y with
  | non =>
    cases ry
    cases x with
    | non => cases rx; exact SeqAt.EqAt.same _
    | bl b => cases rx; exact SeqAt.EqAt.none_bool b
    | int b => obtain ⟨t, rfl⟩ := rx; exact SeqAt.EqAt.none_int b t
    | str b => obtain ⟨t, rfl⟩ := rx; exact SeqAt.EqAt.none_str b t
    | _ => exact absurd (show false = true from fx) Bool.false_ne_true
  | bl a =>
    cases ry
    cases x with
    | non => cases rx; exact SeqAt.EqAt.bool_none a
    | bl b => cases rx; exact SeqAt.EqAt.bool_bool a b
    | int b => obtain ⟨t, rfl⟩ := rx; exact SeqAt.EqAt.bool_int a b t
    | str b => obtain ⟨t, rfl⟩ := rx; exact SeqAt.EqAt.bool_str a b t
    | _ => exact absurd (show false = true from fx) Bool.false_ne_true
  | int a =>
    obtain ⟨t', rfl⟩ := ry
    cases x with
    | non => cases rx; exact SeqAt.EqAt.int_none a t'
    | bl b => cases rx; exact SeqAt.EqAt.int_bool a t' b
    | int b => obtain ⟨t, rfl⟩ := rx; exact SeqAt.EqAt.int_int a t' b t
    | str b => obtain ⟨t, rfl⟩ := rx; exact SeqAt.EqAt.int_str a t' b t
    | _ => exact absurd (show false = true from fx) Bool.false_ne_true
  | str a =>
    obtain ⟨t', rfl⟩ := ry
    cases x with
    | non => cases rx; exact SeqAt.EqAt.str_none a t'
    | bl b => cases rx; exact SeqAt.EqAt.str_bool a t' b
    | int b => obtain ⟨t, rfl⟩ := rx; exact SeqAt.EqAt.str_int a t' b t
    | str b => obtain ⟨t, rfl⟩ := rx; exact SeqAt.EqAt.str_str a t' b t
    | _ => exact absurd (show false = true from fx) Bool.false_ne_true
  | _ => exact absurd (show false = true from fy) Bool.false_ne_true
/-- the items' answers, read off the values (a value's own answer does not lean on its token) -/
def eqU (x : V) (u : Value) : Bool := match u with
  | .none => eqV .non x
  | .bool b => eqV (.bl b) x
  | .int i _ => eqV (.int i) x
  | .str z _ => eqV (.str z) x
  | _ => false
theorem eqU_of {x y : V} {u : Value} (r : RelV y u) (f : flatV y = true) : eqU x u = eqV y x := by
  cases y with
  | non => cases r; rfl
  | bl b => cases r; rfl
  | int i => obtain ⟨t, rfl⟩ := r; rfl
  | str z => obtain ⟨t, rfl⟩ := r; rfl
  | _ => exact absurd (show false = true from f) Bool.false_ne_true
theorem any_eqU {x : V} : ∀ {xs : List V} {us : List Value}, Vals xs us → xs.all flatV = true → us.any (eqU x) = xs.any fun y => eqV y x
  | _, _, .nil, _ => rfl
  | y :: xs, u :: us, .cons r t, f => by
    rw [List.all_cons, Bool.and_eq_true] at f
    rw [List.any_cons, List.any_cons, eqU_of r f.1, any_eqU t f.2]
theorem mem_eqAt {A : Around} {s : Shared} {x : V} {v : Value} (rx : RelV x v) (fx : flatV x = true) : ∀ {xs : List V} {us : List Value}, Vals xs us → xs.all flatV = true → ∀ u ∈ us, SeqAt.EqAt A s u v (eqU x u)
  | _, _, .nil, _ => fun u hu => by cases hu
  | y :: xs, u :: us, .cons r t, f => fun u' hu => by
    rw [List.all_cons, Bool.and_eq_true] at f
    rcases List.mem_cons.mp hu with rfl | hu
    · rw [eqU_of r f.1]; exact eqAt_V r rx f.1 fx
    · exact mem_eqAt rx fx t f.2 u' hu
def inV (x : V) (xs : List V) : Bool := xs.any fun y => eqV y x
/-- x in a list or tuple of flat items -/
def rIn (K : PySem.W.Frag) (neg : Bool) : R2 := fun x y H Q => ∃ p xs, y = .ref p ∧ (SqL K H p xs ∨ SqT K H p xs) ∧ flatV x = true ∧ xs.all flatV = true ∧ Q (.bl (if neg then !inV x xs else inV x xs)) H
theorem op_in_seq : OpR X (compareOp .In) (rIn X.K false) := by
  intro pins s σ H x y v u Q I rx ry h
  obtain ⟨p, xs, rfl, hq, fx, fs, q⟩ := h
  cases ry
  rcases hq with hq | hq
  · obtain ⟨its, r, pl, hz⟩ := I.list hq
    refine SeqAt.in_listAt (eqU x) pl.isList (fun w hw => mem_eqAt rx fx r fs w (by simpa using hw)) ⟨.bl _, H, I, rfl, ?_⟩
    rw [show its.toArray.any (eqU x) = its.any (eqU x) by simp, any_eqU r fs]
    exact q
  · obtain ⟨its, r, pl, hz⟩ := I.tuple hq
    refine SeqAt.in_tupleAt (eqU x) pl (fun w hw => mem_eqAt rx fx r fs w (by simpa using hw)) ⟨.bl _, H, I, rfl, ?_⟩
    rw [show its.toArray.any (eqU x) = its.any (eqU x) by simp, any_eqU r fs]
    exact q
theorem op_notIn_seq : OpR X (compareOp .NotIn) (rIn X.K true) := by
  intro pins s σ H x y v u Q I rx ry h
  obtain ⟨p, xs, rfl, hq, fx, fs, q⟩ := h
  cases ry
  rcases hq with hq | hq
  · obtain ⟨its, r, pl, hz⟩ := I.list hq
    refine SeqAt.notIn_listAt (eqU x) pl.isList (fun w hw => mem_eqAt rx fx r fs w (by simpa using hw)) ⟨.bl _, H, I, rfl, ?_⟩
    rw [show its.toArray.any (eqU x) = its.any (eqU x) by simp, any_eqU r fs]
    exact q
  · obtain ⟨its, r, pl, hz⟩ := I.tuple hq
    refine SeqAt.notIn_tupleAt (eqU x) pl (fun w hw => mem_eqAt rx fx r fs w (by simpa using hw)) ⟨.bl _, H, I, rfl, ?_⟩
    rw [show its.toArray.any (eqU x) = its.any (eqU x) by simp, any_eqU r fs]
    exact q
theorem op_notIn_str : OpR X (compareOp .NotIn) (fun x y H Q => ∃ i j, x = .str i ∧ y = .str j ∧ Q (.bl (!(!(Builtin.Str.occurrences j i 0 j.length 1).isEmpty))) H) := by
  intro pins s σ H x y v u Q I rx ry h
  obtain ⟨i, j, rfl, rfl, q⟩ := h
  obtain ⟨t, rfl⟩ := rx
  obtain ⟨t', rfl⟩ := ry
  exact notIn_str ⟨.bl _, H, I, rfl, q⟩

/-! ### len, list(x), tuple(x) of any list or tuple that is read -/
theorem call_len_seq : CallR X (.builtin "len") (fun xs H Q => ∃ p ys, xs = [.ref p] ∧ (SqL X.K H p ys ∨ SqT X.K H p ys) ∧ Q (.int ys.length) H) := by
  intro pins s σ H xs us Q I r h
  obtain ⟨p, ys, rfl, hq, q⟩ := h
  obtain ⟨u, rfl, rx⟩ := vals1 r
  cases rx
  have hn := line63
  rcases hq with hq | hq
  · obtain ⟨its, r', pl, hz⟩ := I.list hq
    have hlen := r'.length
    exact Calls.call_len_list pl.isList (by simp only [List.size_toArray] <;> omega) ⟨.int ys.length, H, I.tok _, ⟨s.toks + 1, by rw [List.size_toArray, hlen]⟩, q⟩
  · obtain ⟨its, r', pl, hz⟩ := I.tuple hq
    have hlen := r'.length
    exact len_tuple pl (by simp only [List.size_toArray] <;> omega) ⟨.int ys.length, H, I.tok _, ⟨s.toks + 1, by rw [List.size_toArray, hlen]⟩, q⟩
theorem call_len_str : CallR X (.builtin "len") (fun xs H Q => ∃ z, xs = [.str z] ∧ z.length ≤ sizeLine ∧ Q (.int z.length) H) := by
  intro pins s σ H xs us Q I r h
  obtain ⟨z, rfl, hz, q⟩ := h
  obtain ⟨u, rfl, t, rfl⟩ := vals1 r
  have hn := line63
  exact len_str (by omega) ⟨.int z.length, H, I.tok _, ⟨_, rfl⟩, q⟩
theorem CallR.or {f : Value} {r r' : List V → Hp → VK → Prop} (h : CallR X f r) (h' : CallR X f r') : CallR X f (fun xs H Q => r xs H Q ∨ r' xs H Q) := by
  intro pins s σ H xs us Q I rs q
  rcases q with q | q
  · exact h pins s σ H xs us Q I rs q
  · exact h' pins s σ H xs us Q I rs q
theorem call_list_of : CallR X (.type "list") (fun xs H Q => ∃ p ys, xs = [.ref p] ∧ (SqL X.K H p ys ∨ SqT X.K H p ys) ∧ ∀ l, H l = none → Q (.ref l) (upd H l (.lst ys))) := by
  intro pins s σ H xs us Q I r h
  obtain ⟨p, ys, rfl, hq, q⟩ := h
  obtain ⟨u, rfl, rx⟩ := vals1 r
  cases rx
  have fin : ∀ (its : List Value), Vals ys its → ys.length ≤ sizeLine → ∀ (h' : Heap) (c' : Nat), (∀ b o', s.heap.get? b = some o' → h'.get? b = some o') →
      h'.get? s.heap.objs.size = some { cls := .type "list", dict := none, data := .seq its.toArray c', slots := #[] } → EP X pins σ Q (.ref s.heap.objs.size) { s with heap := h' } := fun its r' hz h' c' kp e =>
    ⟨.ref s.heap.objs.size, _, I.laid (t' := s.toks) kp (Nat.le_refl _) (show ObjOk X.prog X.w _ h' _ (.lst ys) from ⟨hz, its, c', r', e⟩), rfl, q _ (I.hok.fresh (Nat.le_refl _))⟩
  rcases hq with hq | hq
  · obtain ⟨its, r', pl, hz⟩ := I.list hq
    have hlen := r'.length
    obtain ⟨o, ho, hc, n, hd⟩ := pl.isList
    exact call_list_seq p (.inl rfl) ho hc hd (fun h' c' kp e => fin its r' hz h' c' kp e) (by simp only [List.size_toArray] <;> omega)
  · obtain ⟨its, r', pl, hz⟩ := I.tuple hq
    have hlen := r'.length
    obtain ⟨o, ho, hc, n, hd⟩ := pl
    exact call_list_seq p (.inr rfl) ho hc hd (fun h' c' kp e => fin its r' hz h' c' kp e) (by simp only [List.size_toArray] <;> omega)
theorem call_tuple_of : CallR X (.type "tuple") (fun xs H Q => ∃ p ys, xs = [.ref p] ∧ ((SqL X.K H p ys ∧ ∀ l, H l = none → Q (.ref l) (upd H l (.tup ys))) ∨ (SqT X.K H p ys ∧ Q (.ref p) H))) := by
  intro pins s σ H xs us Q I r h
  obtain ⟨p, ys, rfl, h⟩ := h
  obtain ⟨u, rfl, rx⟩ := vals1 r
  cases rx
  rcases h with ⟨hq, q⟩ | ⟨hq, q⟩
  · obtain ⟨its, r', pl, hz⟩ := I.list hq
    have hlen := r'.length
    refine call_tuple_list pl.isList (fun h' kp => ?_) (by simp only [List.size_toArray] <;> omega)
    have I1 : Inv X pins σ H { s with heap := h' } := I.kept (t' := s.toks) kp
    have I2 : Inv X pins σ (upd H h'.objs.size (.tup ys)) { s with heap := h'.push { cls := .type "tuple", data := .seq its.toArray } } :=
      I1.laid (t' := s.toks) (fun b o e => Heap.get?_push_of_some _ e) (Nat.le_refl _) (show ObjOk X.prog X.w _ _ _ (.tup ys) from ⟨hz, its, r', IsTup.new _ _⟩)
    exact ⟨.ref h'.objs.size, _, I2, rfl, q _ (I1.hok.fresh (Nat.le_refl _))⟩
  · obtain ⟨its, r', pl, hz⟩ := I.tuple hq
    exact call_tuple_same pl ⟨.ref p, H, I, rfl, q⟩

/-! ### the call of a builtin's method: o.m(..) -/
/-- the value is of that builtin type -/
def tyV (K : PySem.W.Frag) (T : String) (x : V) (H : Hp) : Prop := match x with
  | .str _ => T = "str"
  | .int _ => T = "int"
  | .ref p => (T = "list" ∧ ∃ xs, SqL K H p xs) ∨ (T = "tuple" ∧ ∃ o, K.lookup p = some o ∧ o.cls = .type "tuple" ∧ o.dict = none) ∨
      (T = "dict" ∧ ((∃ kvs, H p = some (.dK kvs)) ∨ ∃ kvs, H p = some (.dT kvs))) ∨ (T = "set" ∧ ∃ S n, H p = some (.set S n))
  | _ => False
theorem tyV_is {pins : List (Addr × Obj)} {σ : St} {H : Hp} {s : Shared} {T : String} {x : V} {v : Value} (I : Inv X pins σ H s) (r : RelV x v) (ty : tyV X.K T x H) :
    s.TypeIs v T ∧ ∀ a, v = .ref a → ∃ ob, s.heap.get? a = some ob ∧ ob.dict = none := by
  cases x with
  | str z =>
    obtain ⟨t, rfl⟩ := r
    cases (show T = "str" from ty)
    exact ⟨typeIs_str s z t, fun _ e => nomatch e⟩
  | int i =>
    obtain ⟨t, rfl⟩ := r
    cases (show T = "int" from ty)
    exact ⟨typeIs_int s i t, fun _ e => nomatch e⟩
  | ref p =>
    cases r
    rcases ty with ⟨rfl, xs, hq⟩ | ⟨rfl, o, hk, hc, hd⟩ | ⟨rfl, hk⟩ | ⟨rfl, S, n, hk⟩
    · obtain ⟨its, _, pl, _⟩ := I.list hq
      refine ⟨pl.isList.typeIs, fun a e => ?_⟩
      cases e
      obtain ⟨o, n, e, c, hd, _⟩ := pl
      exact ⟨o, e, hd⟩
    · refine ⟨⟨o, I.kIn p o hk, hc⟩, fun a e => ?_⟩
      cases e
      exact ⟨o, I.kIn _ o hk, hd⟩
    · have z : ∃ o, s.heap.get? p = some o ∧ o.ExactDict := by
        rcases hk with ⟨kvs, hk⟩ | ⟨kvs, hk⟩
        · obtain ⟨_, _, _, _, o, _, _, e, ex, _⟩ := I.hok p _ hk
          exact ⟨o, e, ex⟩
        · obtain ⟨_, _, _, _, o, _, _, e, ex, _⟩ := I.hok p _ hk
          exact ⟨o, e, ex⟩
      obtain ⟨o, e, ex⟩ := z
      refine ⟨⟨o, e, ex.1⟩, fun a e2 => ?_⟩
      cases e2
      exact ⟨o, e, ex.2.1⟩
    · obtain ⟨o, _, _, _, e, ex, _⟩ := I.hok p _ hk
      refine ⟨⟨o, e, ex.1⟩, fun a e2 => ?_⟩
      cases e2
      exact ⟨o, e, ex.2.1⟩
  | _ => exact False.elim ty
def tBM0 (K : PySem.W.Frag) (T : String) (r : V → List V → Hp → VK → Prop) (to : TE) : TE := fun σ H Q => to σ H fun x H1 => tyV K T x H1 ∧ r x [] H1 Q
def tBM (K : PySem.W.Frag) (T : String) (r : V → List V → Hp → VK → Prop) (to : TE) (t : TA) : TE := fun σ H Q => to σ H fun x H1 => tyV K T x H1 ∧ t σ H1 fun xs H2 => r x xs H2 Q
variable {o e : Expr} {es : List Expr} {to : TE} {t : TA} {name : Str} {apos cpos : Pos} {T id : String} {r : V → List V → Hp → VK → Prop}
theorem pe_bm0 (pa : PlainAttrs T) (slot : Slot T name id) (hty : typeOf (.builtin id) = pure (.type "method_descriptor")) (hm : MtR X id r) (ho : PE X o to)
    (hbase : attributeBase o name X.env (eval o X.env) = eval o X.env := by rfl) (hline : (apos.endLine == cpos.line) = true := by rfl) : PE X (.Call (.Attribute o name apos) [] [] cpos) (tBM0 X.K T r to) := by
  intro pins s σ H Q I h
  refine wpAny_Call_method0_late hbase hline (thn (ho pins s σ H _ I h) fun v s1 ⟨x, H1, I1, r1, ty, q1⟩ => ?_)
  obtain ⟨h1, h2⟩ := tyV_is I1 r1 ty
  exact ⟨T, id, pa, slot, hty, h1, h2, Calls.callWith_builtin rfl (PySem.evalArgs_none (hm pins s1 σ H1 x [] v [] Q I1 r1 .nil q1))⟩
theorem pe_bm (pa : PlainAttrs T) (slot : Slot T name id) (hty : typeOf (.builtin id) = pure (.type "method_descriptor")) (hm : MtR X id r) (ho : PE X o to) (ha : PA X (e :: es) t)
    (hbase : attributeBase o name X.env (eval o X.env) = eval o X.env := by rfl)
    (hfew : ((backTo cpos (starEach (e :: es) X.env)).all (fun x => !x.1) && (backToKw cpos (keywordEach [] X.env)).all (fun x => x.1.isSome)
      && decide ((e :: es).length + ([] : List Keyword).length + (if ([] : List Keyword).isEmpty then 0 else 1) < 30)) = true := by rfl)
    (hline : (apos.endLine == cpos.line) = true := by rfl) (hs : starEach (e :: es) X.env = (false, eval e X.env) :: starEach es X.env := by rfl) (hplain : (backTo cpos (starEach es X.env)).any (·.1) = false := by rfl) :
    PE X (.Call (.Attribute o name apos) (e :: es) [] cpos) (tBM X.K T r to t) := by
  intro pins s σ H Q I h
  refine wpAny_Call_method_late hbase hfew hline rfl (thn (ho pins s σ H _ I h) fun v s1 ⟨x, H1, I1, r1, ty, q1⟩ => ?_)
  obtain ⟨h1, h2⟩ := tyV_is I1 r1 ty
  refine ⟨T, id, pa, slot, hty, h1, h2, ?_⟩
  have hA := ha cpos pins s1 σ H1 _ I1 q1
  rw [hs] at hA ⊢
  refine Calls.callWith_builtin (by show (false || (backTo cpos (starEach es X.env)).any (·.1)) = false; rw [hplain] <;> rfl) (Calls.evalArgs_plain ?_)
  exact thn hA fun us s2 ⟨vs, H2, I2, r2, q2⟩ => hm pins s2 σ H2 x vs v us Q I2 r1 r2 q2
/- xs.append(e), list.index on a module's tuple .. are MtR facts of 06m -/
end
end L2

namespace L2
open PySem PySem.Spec PyProof.Rows

def MtM (X : Cx) (id : String) (r : V → List V → Hp → VK → Prop) : Prop :=
  ∀ (pins : List (Addr × Obj)) (s : Shared) (σ : St) (H : Hp) (x : V) (xs : List V) (v : Value) (us : List Value) (Q : VK), Inv X pins σ H s → RelV x v → Vals xs us → r x xs H Q →
    wpAny (model X.prog X.w) X.A (call (.builtin id) (v :: us)) (EP X pins σ Q) X.xe s

/-! ### lists of values -/
theorem Vals.one : ∀ {x : V} {us : List Value}, Vals [x] us → ∃ u, us = [u] ∧ RelV x u
  | _, _, .cons r .nil => ⟨_, rfl, r⟩
theorem Vals.two : ∀ {x y : V} {us : List Value}, Vals [x, y] us → ∃ u v, us = [u, v] ∧ RelV x u ∧ RelV y v
  | _, _, _, .cons r (.cons q .nil) => ⟨_, _, rfl, r, q⟩
theorem Vals.zero : ∀ {us : List Value}, Vals [] us → us = []
  | _, .nil => rfl
theorem Vals.dropLast {xs : List V} {us : List Value} (h : Vals xs us) : Vals xs.dropLast us.dropLast := by
  induction h with
  | nil => exact .nil
  | cons r t ih =>
    cases t with
    | nil => exact .nil
    | cons q t' => exact .cons r ih
theorem Vals.eraseIdx : ∀ {xs : List V} {us : List Value} (i : Nat), Vals xs us → Vals (xs.eraseIdx i) (us.eraseIdx i)
  | _, _, _, .nil => .nil
  | _, _, 0, .cons _ t => t
  | _, _, i + 1, .cons r t => .cons r (Vals.eraseIdx i t)
theorem Vals.reverse {xs : List V} {us : List Value} (h : Vals xs us) : Vals xs.reverse us.reverse := by
  induction h with
  | nil => exact .nil
  | cons r t ih => rw [List.reverse_cons, List.reverse_cons]; exact Vals.append ih (.cons r .nil)
theorem Vals.rep {xs : List V} {us : List Value} (h : Vals xs us) : ∀ k : Nat, Vals (List.replicate k xs).flatten (List.replicate k us).flatten
  | 0 => .nil
  | k + 1 => by
    rw [List.replicate_succ, List.replicate_succ, List.flatten_cons, List.flatten_cons]
    exact Vals.append h (Vals.rep h k)
theorem erase_last {α : Type} (l : List α) : l.eraseIdx (l.length - 1) = l.dropLast := by
  induction l with
  | nil => rfl
  | cons a r ih =>
    cases r with
    | nil => rfl
    | cons b r =>
      have e : (a :: b :: r).length - 1 = ((b :: r).length - 1) + 1 := by
        have h1 : (a :: b :: r).length = r.length + 2 := rfl
        have h2 : (b :: r).length = r.length + 1 := rfl
        omega
      rw [e, List.eraseIdx_cons_succ, ih]
      all_goals rfl
theorem len_erase {α : Type} : ∀ (l : List α) (i : Nat), (l.eraseIdx i).length ≤ l.length
  | [], _ => Nat.le_refl _
  | _ :: _, 0 => Nat.le_succ _
  | _ :: r, i + 1 => Nat.succ_le_succ (len_erase r i)
theorem foldl_rep (its : List Value) : ∀ (k : Nat) (acc : List Value),
    List.foldl (fun x1 x2 => x1 ++ x2) acc.toArray (List.replicate k its.toArray) = (acc ++ (List.replicate k its).flatten).toArray
  | 0, acc => by simp
  | k + 1, acc => by
    have e : acc.toArray ++ its.toArray = (acc ++ its).toArray := by simp
    have e2 : (acc ++ its) ++ (List.replicate k its).flatten = acc ++ (List.replicate (k + 1) its).flatten := by
      rw [List.replicate_succ, List.flatten_cons, List.append_assoc]
    rw [← e2, ← foldl_rep its k (acc ++ its), ← e, List.replicate_succ, List.foldl_cons]

section
variable {X : Cx} {pins : List (Addr × Obj)} {σ : St} {H : Hp} {s : Shared} {l b : Addr} {xs ys zs : List V}

/-! ### the two steps: a tracked list is rewritten, a new list is laid -/
theorem Inv.lset {its its' : List Value} {n : Nat} {f : Array Value → Array Value} {t' : Nat} (I : Inv X pins σ H s) (hH : H l = some (.lst xs))
    (e : s.heap.get? l = some { cls := .type "list", data := .seq its.toArray n }) (hf : f its.toArray = its'.toArray) (hv : Vals ys its') (hz : ys.length ≤ sizeLine) :
    Inv X pins σ (upd H l (.lst ys)) { s with heap := s.heap.update l (Obj.mapSeq f), toks := t' } := by
  have q := PySem.IsL.update e f
  rw [hf] at q
  refine I.write (x := l) (e := l) (by rw [hH]; exact trivial) (.inl rfl) (fun b' u hb hu => (Heap.get?_update_other s.heap (Obj.mapSeq f) (Ne.symm hb)).trans hu) ⟨_, q⟩ ?_
  exact ⟨hz, its', _, hv, q⟩
theorem Inv.lnew {its : List Value} {t' : Nat} (I : Inv X pins σ H s) (hv : Vals ys its) (hz : ys.length ≤ sizeLine) :
    Inv X pins σ (upd H s.heap.objs.size (.lst ys)) { s with heap := s.heap.push { cls := .type "list", data := .seq its.toArray }, toks := t' } :=
  I.laid (fun _ _ q => Heap.get?_push_of_some _ q) (Nat.le_refl _) ⟨hz, its, 0, hv, Heap.get?_push_size _ rfl⟩
theorem Inv.fresh (I : Inv X pins σ H s) : H s.heap.objs.size = none := I.hok.fresh (Nat.le_refl _)
theorem Inv.lstM (I : Inv X pins σ H s) (hH : H l = some (.lst xs)) : xs.length ≤ sizeLine ∧ ∃ (its : List Value) (n : Nat), Vals xs its ∧ xs.length = its.length ∧ s.heap.get? l = some { cls := .type "list", data := .seq its.toArray n } := by
  obtain ⟨z, its, n, r, e⟩ := I.hok l _ hH
  exact ⟨z, its, n, r, r.length, e⟩

theorem notLongL {n : Nat} (h : n ≤ sizeLine) : Builtin.List.listTooLong n = false := by
  unfold Builtin.List.listTooLong
  exact decide_eq_false (by omega)
end

section
variable {X : Cx}

/-! ### methods -/
def rAppend : V → List V → Hp → VK → Prop := fun x vs H Q => ∃ l xs y, x = .ref l ∧ vs = [y] ∧ H l = some (.lst xs) ∧ xs.length < sizeLine ∧ Q .non (upd H l (.lst (xs ++ [y])))
theorem mt_append : MtM X "list.append" rAppend := by
  intro pins s σ H x vs v us Q I rx rv h
  obtain ⟨l, xs, y, rfl, rfl, hH, hz, q⟩ := h
  cases rx
  obtain ⟨u, rfl, ru⟩ := rv.one
  obtain ⟨z, its, n, r, hl, e⟩ := I.lstM hH
  refine call_meets F.slot_list_append ⟨_, e, rfl⟩ F.entry_list_append (F.args_list_append_2 _ _) (PySem.list_append l its.toArray n u (by rw [List.size_toArray]; omega)) ⟨e, ?_⟩
  refine ⟨.non, _, I.lset (its' := its ++ [u]) hH e (by simp) (r.append (.cons ru .nil)) ?_, rfl, q⟩
  rw [List.length_append, List.length_singleton]
  omega

def rExtend : V → List V → Hp → VK → Prop := fun x vs H Q => ∃ l b xs zs, x = .ref l ∧ vs = [.ref b] ∧ H l = some (.lst xs) ∧ H b = some (.lst zs) ∧ xs.length + zs.length ≤ sizeLine ∧ Q .non (upd H l (.lst (xs ++ zs)))
theorem mt_extend : MtM X "list.extend" rExtend := by
  intro pins s σ H x vs v us Q I rx rv h
  obtain ⟨l, b, xs, zs, rfl, rfl, hH, hB, hz, q⟩ := h
  cases rx
  obtain ⟨u, rfl, ru⟩ := rv.one
  cases ru
  obtain ⟨z, its, n, r, hl, e⟩ := I.lstM hH
  obtain ⟨z2, its2, n2, r2, hl2, e2⟩ := I.lstM hB
  have hsz : its.toArray.size + its2.toArray.size ≤ sizeLine := by rw [List.size_toArray, List.size_toArray]; omega
  have hlong : ¬ (!its.toArray.isEmpty && Builtin.List.listTooLong (its.toArray.size + its2.toArray.size)) = true := by
    rw [notLongL hsz, Bool.and_false]
    exact Bool.false_ne_true
  refine call_meets F.slot_list_extend ⟨_, e, rfl⟩ F.entry_list_extend (F.args_list_extend_2 _ _)
    (AutoSeq1.list_extend_list_list_0 l its.toArray n b its2.toArray n2 hlong (by rw [List.size_toArray]; omega) (by omega)) ⟨e, e2, ?_⟩
  refine ⟨.non, _, I.lset (its' := its ++ its2) hH e (by simp) (r.append r2) ?_, rfl, q⟩
  rw [List.length_append]
  omega

def rPop : V → List V → Hp → VK → Prop := fun x vs H Q => ∃ l xs y, x = .ref l ∧ vs = [] ∧ H l = some (.lst xs) ∧ xs[xs.length - 1]? = some y ∧ Q y (upd H l (.lst xs.dropLast))
theorem mt_pop : MtM X "list.pop" rPop := by
  intro pins s σ H x vs v us Q I rx rv h
  obtain ⟨l, xs, y, rfl, rfl, hH, hy, q⟩ := h
  cases rx
  have hus := rv.zero
  subst hus
  obtain ⟨z, its, n, r, hl, e⟩ := I.lstM hH
  obtain ⟨u, hu, ru⟩ := r.get hy
  have hy' : its.toArray[its.toArray.size - 1]? = some u := by
    show its.toArray[its.length - 1]? = some u
    rw [← Array.getElem?_toList, ← hl]
    exact hu
  refine call_meets F.slot_list_pop ⟨_, e, rfl⟩ F.entry_list_pop (F.args_list_pop_1 _) (MeetsSeq.list_pop_last l its.toArray n u hy' (by rw [List.size_toArray]; omega)) ⟨e, ?_⟩
  refine ⟨y, _, I.lset (its' := its.dropLast) hH e ?_ r.dropLast ?_, ru, q⟩
  · show its.toArray.eraseIdxIfInBounds (its.toArray.size - 1) = its.dropLast.toArray
    rw [List.size_toArray, List.eraseIdxIfInBounds_toArray, erase_last]
  · rw [List.length_dropLast]
    omega

def rPopAt : V → List V → Hp → VK → Prop := fun x vs H Q => ∃ l xs i k y, x = .ref l ∧ vs = [.int i] ∧ H l = some (.lst xs) ∧ -(2 ^ 63) ≤ i ∧ i < 2 ^ 63 ∧ seqIndex? i xs.length = some k ∧ xs[k]? = some y ∧ Q y (upd H l (.lst (xs.eraseIdx k)))
theorem mt_popAt : MtM X "list.pop" rPopAt := by
  intro pins s σ H x vs v us Q I rx rv h
  obtain ⟨l, xs, i, k, y, rfl, rfl, hH, h1, h2, hk, hy, q⟩ := h
  cases rx
  obtain ⟨u, rfl, ru⟩ := rv.one
  obtain ⟨t, rfl⟩ := ru
  obtain ⟨z, its, n, r, hl, e⟩ := I.lstM hH
  obtain ⟨w, hw, rw'⟩ := r.get hy
  refine call_meets F.slot_list_pop ⟨_, e, rfl⟩ F.entry_list_pop (F.args_list_pop_2 _ _)
    (MeetsSeq.list_pop_at l its.toArray n i t k w (fitsIndex_both h1 h2) (by rw [List.size_toArray, ← hl]; exact hk) (by rw [← Array.getElem?_toList]; exact hw) (by rw [List.size_toArray]; omega)) ⟨e, ?_⟩
  refine ⟨y, _, I.lset (its' := its.eraseIdx k) hH e ?_ (r.eraseIdx k) ?_, rw', q⟩
  · show its.toArray.eraseIdxIfInBounds k = (its.eraseIdx k).toArray
    rw [List.eraseIdxIfInBounds_toArray]
  · have := len_erase xs k
    omega

def rReverse : V → List V → Hp → VK → Prop := fun x vs H Q => ∃ l xs, x = .ref l ∧ vs = [] ∧ H l = some (.lst xs) ∧ Q .non (upd H l (.lst xs.reverse))
theorem mt_reverse : MtM X "list.reverse" rReverse := by
  intro pins s σ H x vs v us Q I rx rv h
  obtain ⟨l, xs, rfl, rfl, hH, q⟩ := h
  cases rx
  have hus := rv.zero
  subst hus
  obtain ⟨z, its, n, r, hl, e⟩ := I.lstM hH
  refine call_meets F.slot_list_reverse ⟨_, e, rfl⟩ F.entry_list_reverse (F.args_list_reverse_1 _) (AutoSeq1.list_reverse_list_0 l its.toArray n (by rw [List.size_toArray]; omega)) ⟨e, ?_⟩
  refine ⟨.non, _, I.lset (its' := its.reverse) hH e (by simp) r.reverse ?_, rfl, q⟩
  rw [List.length_reverse]
  omega

def rClear : V → List V → Hp → VK → Prop := fun x vs H Q => ∃ l xs, x = .ref l ∧ vs = [] ∧ H l = some (.lst xs) ∧ Q .non (upd H l (.lst []))
theorem mt_clear : MtM X "list.clear" rClear := by
  intro pins s σ H x vs v us Q I rx rv h
  obtain ⟨l, xs, rfl, rfl, hH, q⟩ := h
  cases rx
  have hus := rv.zero
  subst hus
  obtain ⟨z, its, n, r, hl, e⟩ := I.lstM hH
  refine call_meets F.slot_list_clear ⟨_, e, rfl⟩ F.entry_list_clear (F.args_list_clear_1 _) (AutoSeq1.list_clear_list_0 l its.toArray n (by rw [List.size_toArray]; omega)) ⟨e, ?_⟩
  exact ⟨.non, _, I.lset (its' := []) (ys := []) hH e rfl .nil (Nat.zero_le _), rfl, q⟩

/-! ### list + list, list += list, list * int -/
def rCat : R2 := fun x y H Q => ∃ l b xs zs, x = .ref l ∧ y = .ref b ∧ H l = some (.lst xs) ∧ H b = some (.lst zs) ∧ xs.length + zs.length ≤ sizeLine ∧ ∀ p, H p = none → Q (.ref p) (upd H p (.lst (xs ++ zs)))
theorem op_cat : OpR X (binaryOp .Add) rCat := by
  intro pins s σ H x y v u Q I rx ry h
  obtain ⟨l, b, xs, zs, rfl, rfl, hH, hB, hz, q⟩ := h
  cases rx
  cases ry
  obtain ⟨z, its, n, r, hl, e⟩ := I.lstM hH
  obtain ⟨z2, its2, n2, r2, hl2, e2⟩ := I.lstM hB
  refine PySem.P.add_list e e2 ?_ (by rw [List.size_toArray, List.size_toArray]; omega)
  have ea : its.toArray ++ its2.toArray = (its ++ its2).toArray := by simp
  rw [ea]
  exact ⟨.ref _, _, I.lnew (t' := s.toks) (r.append r2) (by rw [List.length_append]; omega), rfl, q _ I.fresh⟩
/-- a list times an int (a negative one is nothing) -/
def rRep : R2 := fun x y H Q => ∃ l k xs, x = .ref l ∧ y = .int k ∧ H l = some (.lst xs) ∧ -(2 ^ 63) ≤ k ∧ k < 2 ^ 63 ∧ xs.length * k.toNat ≤ sizeLine ∧
  ∀ p, H p = none → Q (.ref p) (upd H p (.lst (List.replicate k.toNat xs).flatten))
theorem len_rep {α : Type} (xs : List α) (k : Nat) : (List.replicate k xs).flatten.length = k * xs.length := by
  induction k with
  | zero => simp
  | succ k ih => rw [List.replicate_succ, List.flatten_cons, List.length_append, ih, Nat.succ_mul, Nat.add_comm]
theorem op_rep : OpR X (binaryOp .Mult) rRep := by
  intro pins s σ H x y v u Q I rx ry h
  obtain ⟨l, k, xs, rfl, rfl, hH, h1, h2, hz, q⟩ := h
  cases rx
  obtain ⟨t, rfl⟩ := ry
  obtain ⟨z, its, n, r, hl, e⟩ := I.lstM hH
  have hlen : its.toArray.size * k.toNat ≤ sizeLine := by rw [List.size_toArray, ← hl]; exact hz
  have hcap : ¬ its.toArray.size * k.toNat > (2 ^ 63 - 1) / 8 := by
    have : (sizeLine : Nat) ≤ (2 ^ 63 - 1) / 8 := by decide
    omega
  have hfit : ¬ (!Builtin.List.listFitsIndex k) = true := by
    rw [fitsIndex_both h1 h2]
    exact Bool.false_ne_true
  have hlong : ¬ Builtin.List.listTooLong (its.toArray.size * k.toNat) = true := by
    rw [notLongL hlen]
    exact Bool.false_ne_true
  have hnew : List.foldl (fun x1 x2 => x1 ++ x2) #[] (List.replicate (if its.toArray.isEmpty = true then 0 else k.toNat) its.toArray) = (List.replicate k.toNat its).flatten.toArray := by
    have f0 : ∀ m : Nat, List.foldl (fun x1 x2 => x1 ++ x2) #[] (List.replicate m its.toArray) = (List.replicate m its).flatten.toArray := fun m => by
      have := foldl_rep its m []
      rw [List.nil_append] at this
      exact this
    rw [f0]
    cases its with
    | nil => simp
    | cons a r' => rw [if_neg (by simp)]
  refine wpAny_binaryOp_repeat_ref (T := "list") (U := "int") (by decide) ⟨_, e, rfl⟩ (fun s' => typeIs_int s' k t) noFill_list_mul F.fills_int_mul F.slot_int_rmul repeat_list F.slot_int_index.lookup
    (call_meets F.slot_int_rmul (typeIs_int s k t) F.entry_int_rmul (F.args_int_rmul_2 _ _) (int___rmul___int_list k t l its.toArray n)
      ⟨e, rfl, ⟨_, e, rfl⟩, call_meets F.slot_list_mul ⟨_, e, rfl⟩ F.entry_list_mul (F.args_list_mul_2 _ _) (AutoListH.list___mul___list_int_3 l its.toArray n k t hfit hcap hlong) ⟨e, ?_⟩⟩)
  rw [hnew]
  exact ⟨.ref _, _, I.lnew (t' := s.toks) (r.rep k.toNat) (by rw [len_rep, Nat.mul_comm]; exact hz), rfl, q _ I.fresh⟩

/-! ### del xs[i] -/
theorem del_list {pins : List (Addr × Obj)} {s : Shared} {σ : St} {H : Hp} {l : Addr} {xs : List V} {i : Int} {t : Tok} {k : Nat} {Q : Unit → Shared → Prop} (I : Inv X pins σ H s) (hH : H l = some (.lst xs))
    (h1 : -(2 ^ 63) ≤ i) (h2 : i < 2 ^ 63) (hk : seqIndex? i xs.length = some k) (h : ∀ s', Inv X pins σ (upd H l (.lst (xs.eraseIdx k))) s' → Q () s') :
    wpAny (model X.prog X.w) X.A (delItem (.ref l) (.int i t)) Q X.xe s := by
  obtain ⟨z, its, n, r, hl, e⟩ := I.lstM hH
  refine PySem.P.delItem_list (k := k) e (fitsIndex_both h1 h2) (by rw [List.size_toArray, ← hl]; exact hk) (h _ ?_) (by rw [List.size_toArray]; omega)
  refine I.lset (its' := its.eraseIdx k) (t' := s.toks) hH e ?_ (r.eraseIdx k) ?_
  · show its.toArray.eraseIdxIfInBounds k = (its.eraseIdx k).toArray
    rw [List.eraseIdxIfInBounds_toArray]
  · have := len_erase xs k
    omega
end

/-! ### xs[a:b] = ys -/
section
variable {prog : Program} {w : World} {A : Around} {E : Value → Shared → Prop} {s : Shared}
theorem splice_eq (its its2 : List Value) (a c : Nat) : its.toArray.extract 0 a ++ its2.toArray ++ its.toArray.extract c its.toArray.size = (its.take a ++ its2 ++ its.drop c).toArray := by
  apply Array.toList_inj.mp
  first
    | (simp
       exact List.take_of_length_le (by simp))
    | simp [List.take_of_length_le]
    | simp
theorem bounds_run {a c n : Nat} (hac : a ≤ c) (hc : c ≤ n) : sliceBounds (some (a : Int)) (some (c : Int)) none n = ((a : Int), (c : Int), 1) := by
  simp only [sliceBounds, Option.getD_none]
  have h1 : ¬ ((a : Int) < 0) := by omega
  have h2 : ¬ ((c : Int) < 0) := by omega
  simp only [h1, h2, if_false, show (1 : Int) > 0 by decide, if_true]
  congr 1
  · omega
  · congr 1; omega
set_option maxRecDepth 100000 in
/-- list.__setitem__ with a slice of step one and another list -/
theorem setItem_slice {l b sl : Addr} {items new : Array Value} {n n2 : Nat} {vl vu : Value} {a c : Nat} {Q : Unit → Shared → Prop}
    (e : s.heap.get? l = some { cls := .type "list", data := .seq items n }) (e2 : s.heap.get? b = some { cls := .type "list", data := .seq new n2 }) (hne : l ≠ b)
    (hs : s.heap.IsSliceOf sl vl vu .none) (pl : IsPart vl (some (a : Int))) (pu : IsPart vu (some (c : Int))) (hac : a ≤ c) (hc : c ≤ items.size)
    (hsz : items.size + new.size ≤ sizeLine) (h : Q () { s with heap := s.heap.update l (Obj.mapSeq fun xs => xs.extract 0 a ++ new ++ xs.extract c xs.size) }) :
    wpAny (model prog w) A (setItem (.ref l) (.ref sl) (.ref b)) Q E s := by
  have hl : s.heap.IsList l items := PySem.IsL.isList e
  have hb : s.heap.IsList b new := PySem.IsL.isList e2
  obtain ⟨os, hos, hcs, hds⟩ := id hs
  have hTs : s.TypeIs (.ref sl) "slice" := ⟨os, hos, hcs⟩
  have hstep : ¬ ((rawPart none == rawInt 0) = true) := Bool.false_ne_true
  have hsame : Builtin.List.listSameRef (.ref l) (.ref b) = false := by
    unfold Builtin.List.listSameRef
    exact beq_eq_false_iff_ne.mpr hne
  have hmax : (max (a : Int) (c : Int)).toNat = c := by omega
  have hz' : ((fun xs : Array Value => xs.extract 0 a ++ new ++ xs.extract c xs.size) items).size ≤ sizeLine + 1 := by
    simp only [Array.size_append, Array.size_extract]
    omega
  unfold setItem
  try with_reducible refine wpAny_holding ?_
  first | refine wpAny_bind (wpAny_pure ?_) | skip
  refine wpAny_bind (wpAny_sequenceKey hl.typeIs (by decide) ?_)
  refine wpAny_bind (wpAny_callSpecial?_slot (name := Str.ofString "__setitem__") hl.typeIs slot_list_setitem
    (wpAny_call_entry slot_list_setitem hl.typeIs entry_list_setitem ?_ (args_list_setitem _ _ _)))
  show wpAny _ _ (Builtin.List.listSubscript? (.ref sl) >>= _) _ _ s
  refine wpAny_bind ?_
  unfold Builtin.List.listSubscript?
  refine wpAny_bind (wpAny_specialOf hTs slice_no_index ?_)
  simp only [Option.isNone_none, if_true]
  refine wpAny_pure ?_
  show wpAny _ _ (typeOf (.ref sl) >>= _) _ _ s
  refine wpAny_bind (wpAny_typeOf hTs ?_)
  first
    | rw [if_neg (by decide)]
    | refine PySem.W.KFB.if_not (by decide) ?_
  rw [listSliceParts_eq]
  refine wpAny_bind (wpAny_bind (wpAny_field hos hds (x := .none) rfl (wpAny_bind (wpAny_listPart .none ?_))))
  rw [if_neg hstep]
  refine wpAny_bind (wpAny_field hos hds (x := vl) rfl (wpAny_bind (wpAny_listPart pl ?_)))
  refine wpAny_bind (wpAny_field hos hds (x := vu) rfl (wpAny_bind (wpAny_listPart pu (wpAny_pure ?_))))
  first
    | simp only [hsame, Bool.false_eq_true, if_false]
    | refine PySem.W.KFB.if_not hsame ?_
    | (dsimp only
       rw [if_neg (by rw [hsame]; exact Bool.false_ne_true)])
  refine wpAny_bind (m := Builtin.List.listAllItems (.ref b) "must assign iterable to extended slice") ?_
  unfold Builtin.List.listAllItems
  refine wpAny_bind (wpAny_typeOf hb.typeIs ?_)
  first
    | refine PySem.W.KFB.if_so (by decide) ?_
    | rw [if_pos (by decide)]
    | simp only [beq_self_eq_true, Bool.true_or, if_true]
  unfold Builtin.List.listItems
  refine wpAny_bind (wpAny_seqItems e2 rfl (wpAny_pure ?_))
  refine wpAny_bind (wpAny_bind (wpAny_seqItems e rfl (wpAny_pure ?_)))
  refine wpAny_bind (wpAny_of_eq ((sliceIndices_raw (some (a : Int)) (some (c : Int)) none items.size (by simp)).trans (congrArg (pure : Int × Int × Int → Sem (Int × Int × Int)) (bounds_run hac hc))) ?_)
  show wpAny _ _ (if ((1 : Int) == 1) = true then _ else _) _ _ s
  rw [if_pos (by decide)]
  refine wpAny_bind (wpAny_rule ?_)
  first
    | simp only [notLongL hsz, Bool.false_eq_true, if_false]
    | refine PySem.W.KFB.if_not (notLongL hsz) ?_
  first | refine wpAny_bind (wpAny_pure ?_) | skip
  show wpAny _ _ (updateSeq l (fun xs => xs.extract 0 ((a : Int)).toNat ++ new ++ xs.extract (max (a : Int) (c : Int)).toNat xs.size) >>= _) _ _ s
  rw [hmax, Int.toNat_natCast]
  refine wpAny_bind (wpAny_updateSeq (hz := Nat.le_trans (Nat.le_add_right _ _) hsz) (_hz' := hz') e rfl ?_)
  refine wpAny_bind (wpAny_letGo ?_)
  first
    | exact wpAny_bind (wpAny_pure (wpAny_pure ⟨.none, rfl, wpAny_pure h⟩))
    | exact wpAny_pure ⟨.none, rfl, wpAny_pure h⟩
end

section
variable {X : Cx}
/-- xs[a:c] = ys of another list, at the value level: sl is the slice object that was just made -/
theorem set_slice {pins : List (Addr × Obj)} {s : Shared} {σ : St} {H : Hp} {l b sl : Addr} {xs ys : List V} {a c : Int} {vl vu : Value} {Q : Unit → Shared → Prop} (I : Inv X pins σ H s)
    (hH : H l = some (.lst xs)) (hB : H b = some (.lst ys)) (hne : l ≠ b) (hs : s.heap.IsSliceOf sl vl vu .none) (ra : RelV (.int a) vl) (rc : RelV (.int c) vu) (h0 : 0 ≤ a) (hac : a ≤ c) (hc : c ≤ xs.length)
    (hz : xs.length + ys.length ≤ sizeLine) (h : ∀ s', Inv X pins σ (upd H l (.lst (xs.take a.toNat ++ ys ++ xs.drop c.toNat))) s' → Q () s') :
    wpAny (model X.prog X.w) X.A (setItem (.ref l) (.ref sl) (.ref b)) Q X.xe s := by
  obtain ⟨ta, rfl⟩ := ra
  obtain ⟨tc, rfl⟩ := rc
  obtain ⟨z, its, n, r, hl, e⟩ := I.lstM hH
  obtain ⟨z2, its2, n2, r2, hl2, e2⟩ := I.lstM hB
  obtain ⟨a', rfl⟩ := Int.eq_ofNat_of_zero_le h0
  obtain ⟨c', rfl⟩ := Int.eq_ofNat_of_zero_le (Int.le_trans h0 hac)
  simp only [Int.toNat_natCast] at h
  refine setItem_slice (a := a') (c := c') e e2 hne hs (.int _ _) (.int _ _) (by omega) (by rw [List.size_toArray]; omega) (by rw [List.size_toArray, List.size_toArray]; omega) (h _ ?_)
  refine I.lset (its' := its.take a' ++ its2 ++ its.drop c') (t' := s.toks) hH e ?_ (Vals.append (Vals.append (r.take _) r2) (r.drop _)) ?_
  · exact splice_eq its its2 a' c'
  · rw [List.length_append, List.length_append, List.length_take, List.length_drop]
    omega
end
end L2

namespace Att
open PySem PySem.W PySem.Calls PyProof.Rows

/-! ### the script -/
theorem ints_of_wellAll {P : Params} {h : Heap} : ∀ (ns : List Int) (vs : List Value), WellAll P h vs (ns.map WData.int) → IntsAre vs ns := by
  intro ns
  induction ns with
  | nil =>
    intro vs w
    rw [List.map_nil] at w
    cases w
    exact .nil
  | cons n ns ih =>
    intro vs w
    rw [List.map_cons] at w
    cases w with
    | cons a b =>
      cases a
      exact .cons _ _ (ih _ b)

theorem script_of {l : OpenLaw} {n : Nat} (hn : l.most = some n) {P : Params} {h : Heap} {args : List WData} {vals : List Value}
    (hpre : l.row.toRowW.claim.pre args = true) (hwl : WellAll P h vals args) :
    ∃ a vs ns, vals = [Value.ref a] ∧ args = [WData.list (ns.map WData.int)] ∧ h.get? a = some { cls := .type "list", data := .seq vs.toArray } ∧ IntsAre vs ns ∧ ns.length ≤ n := by
  have hsh : WShape.hasAll [] args [.list .int] = true := (pre_splitW hpre).1
  have hc : l.pre.holds [] { args := args } = true := (pre_splitW hpre).2
  obtain ⟨d, r, rfl, h1, h2⟩ := hasAllW_cons hsh
  obtain rfl := hasAllW_nil h2
  obtain ⟨xs, rfl, h3⟩ := hasW_list h1
  obtain ⟨ns, rfl⟩ := items_int h3
  have hlen : ns.length ≤ n := by
    unfold OpenLaw.pre at hc
    have h4 : (WTm.not (.lt (.lit (.int (n : Int))) (.len (.arg 0)))).holds [] { args := [.list (ns.map .int)] } = true := by
      have h4 := (holds_andW hc).1
      rw [hn] at h4
      exact h4
    have h5 := condW_of h4 (w_not (w_lt w_lit (w_len_list (w_arg rfl))))
    rw [List.length_map] at h5
    refine Nat.le_of_not_lt fun q => ?_
    have q' : (n : Int) < ((ns.length : Nat) : Int) := by omega
    first
      | (rw [decide_eq_true q'] at h5; exact absurd h5 (by decide))
      | (simp at h5; omega)
  cases hwl with
  | cons w1 w2 =>
    cases w2
    cases w1 with
    | list ho hall => exact ⟨_, _, ns, rfl, rfl, ho, ints_of_wellAll ns _ hall, hlen⟩

theorem post_true (l : OpenLaw) (args : List WData) : l.row.toRowW.claim.post args (.bool true) args = true :=
  postW_of (r := l.row.toRowW) (X := (true == true))
    (show WShape.has [] (.bool true) .bool = true by first | rfl | decide | simp [WShape.has, WShape.arms, WShape.armsAll])
    (show (WTm.eq .res (.lit (.bool true))).value [] { args := args, res := some (.bool true), after := args } = some (.bool (true == true)) from w_eq_bool (w_res rfl) w_lit) rfl

/-! ### the attachment: holds_open's last premise (the goal 'hc' behind k_head) from a wpAny of the law's body -/
theorem attach {l : OpenLaw} {n : Nat} {q : Program} {loose : List Str} {XP : (Str → Option Value) → Heap → Prop} {YP : World → Heap → Prop} {d : DefRec} {x : Str}
    (hn : l.most = some n) (hdf : d.params.defaults = [])
    (hbind : ∀ pm cd doc v : Value, bindArgs (docDef d.name d.params d.body d.scope pm cd doc) ⟨[v], []⟩ = pure [(x, v)])
    (hx : d.scope.names.lookup x = some .local ∨ d.scope.names.lookup x = some .cell)
    (hk : d.scope.kind = .function) (hco : d.scope.isCoroutine = false) (hgen : d.scope.isGenerator = false)
    (body : ∀ (w : World) (s₀ s₁ s : Shared) (mg mb : Str → Option Value) (fa : Addr) (o : Obj) (pm cd doc : Value) (a : Addr) (vs : List Value) (ns : List Int),
      Ground q loose [] XP w s₀ mg mb s₁.heap → YP w s₁.heap →
      s₁.heap.get? fa = some o → o.data = .func (docDef d.name d.params d.body d.scope pm cd doc) → s₁.heap.CodeRec cd d.name → mg d.name = some (.ref fa) →
      s₁.heap.get? a = some { cls := .type "list", data := .seq vs.toArray } → IntsAre vs ns → ns.length ≤ n →
      s.gens = #[] → s.os = s₁.os →
      Fr s₁.heap s₁.heap.objs.size s.heap (bindL (envOfC d.name d.scope s₁.heap.objs.size fa cd).kindOf [(x, .ref a)] fun _ => none) →
      Cl s₁.heap.objs.size (cellsFrom (s₁.heap.objs.size + 1) d.scope.names []) s.heap (bindC (envOfC d.name d.scope s₁.heap.objs.size fa cd).kindOf [(x, .ref a)] fun _ => none) →
      wpAny (model l.prog w) (callerA.deeper (envOfC d.name d.scope s₁.heap.objs.size fa cd)) (execs d.body (envOfC d.name d.scope s₁.heap.objs.size fa cd))
        (fun f s' => f = .ret (.bool true) ∧ OldK s₁.heap s'.heap ∧ s'.os = s₁.os ∧ AllBare s'.gens) (fun _ _ => False) s) :
    WalkO q loose XP YP l.row.toRowW d [] (fun f vs => PySem.call f vs) := by
  intro w s₀ s₁ mg mb G Y fa o pm cd doc dV kV ho hd hcd hD hmg hg args vals as hpre hlay hrd hwl hlo
  obtain rfl : dV = .none := Dflts.none hD hdf
  obtain rfl : kV = .none := Dflts.noKw hD
  obtain ⟨a, vs, ns, rfl, rfl, hobj, hints, hlen⟩ := script_of hn hpre hwl
  refine enter_call ?_
  refine call_cells_ret (o := o) (by rw [depth_caller]; decide) ho (fd_plain hd) G.T.nolimit hcd (hbind pm cd doc (.ref a)) (fun y hy => ?_) (fun h₁ tk F X => ?_) hco hgen hk
  · obtain rfl : y = (x, Value.ref a) := List.mem_singleton.mp hy
    rcases hx with e | e
    · exact .inl e
    · exact .inr ⟨e, cellsFrom_some _ _ _ (.inl e)⟩
  · refine wpAny_mono (body w s₀ s₁ { s₁ with heap := h₁, toks := tk } mg mb fa o pm cd doc a vs ns G Y ho (fd_plain hd) hcd hmg hobj hints hlen hg rfl F X) (fun f s' hq => ?_) (fun _ _ hq => hq)
    obtain ⟨rfl, h2, h3, h4⟩ := hq
    exact ⟨.inl ⟨.bool true, .bool true, [], rfl, fun _ => rfl, .bool true, post_true l _, fun _ => ⟨List.Pairwise.nil, fun _ hm => (nomatch hm)⟩⟩, h2, h3, h4⟩

/-- the same from a codeAny of the CALL (for a layer whose function contracts speak of calls) -/
theorem attach_call {l : OpenLaw} {n : Nat} {q : Program} {loose : List Str} {XP : (Str → Option Value) → Heap → Prop} {YP : World → Heap → Prop} {d : DefRec}
    (hn : l.most = some n) (hdf : d.params.defaults = [])
    (call : ∀ (w : World) (s₀ s₁ : Shared) (mg mb : Str → Option Value) (fa : Addr) (o : Obj) (pm cd doc : Value) (a : Addr) (vs : List Value) (ns : List Int),
      Ground q loose [] XP w s₀ mg mb s₁.heap → YP w s₁.heap →
      s₁.heap.get? fa = some o → o.data = .func (docDef d.name d.params d.body d.scope pm cd doc) → s₁.heap.CodeRec cd d.name → mg d.name = some (.ref fa) →
      s₁.heap.get? a = some { cls := .type "list", data := .seq vs.toArray } → IntsAre vs ns → ns.length ≤ n → s₁.gens = #[] →
      codeAny (model l.prog w) callerA (.call (.ref fa) ⟨[.ref a], []⟩) (fun r s' => r = .ok (.ret (.bool true)) ∧ OldK s₁.heap s'.heap ∧ s'.os = s₁.os ∧ AllBare s'.gens) s₁) :
    WalkO q loose XP YP l.row.toRowW d [] (fun f vs => PySem.call f vs) := by
  intro w s₀ s₁ mg mb G Y fa o pm cd doc dV kV ho hd hcd hD hmg hg args vals as hpre hlay hrd hwl hlo
  obtain rfl : dV = .none := Dflts.none hD hdf
  obtain rfl : kV = .none := Dflts.noKw hD
  obtain ⟨a, vs, ns, rfl, rfl, hobj, hints, hlen⟩ := script_of hn hpre hwl
  refine enter_call (codeAny_mono (call w s₀ s₁ mg mb fa o pm cd doc a vs ns G Y ho (fd_plain hd) hcd hmg hobj hints hlen hg) fun r s' hq => ?_)
  obtain ⟨rfl, h2, h3, h4⟩ := hq
  exact ⟨.inl ⟨.bool true, .bool true, [], rfl, fun _ => rfl, .bool true, post_true l _, fun _ => ⟨List.Pairwise.nil, fun _ hm => (nomatch hm)⟩⟩, h2, h3, h4⟩

/-- the same where the top left finished generators (o_head chose holds_openN): nothing may have changed at all and no generator may be left -/
theorem attachN {l : OpenLaw} {n : Nat} {q : Program} {loose : List Str} {XP : (Str → Option Value) → Heap → Prop} {YP : World → Heap → Prop} {d : DefRec} {x : Str}
    (hn : l.most = some n) (hdf : d.params.defaults = [])
    (hbind : ∀ pm cd doc v : Value, bindArgs (docDef d.name d.params d.body d.scope pm cd doc) ⟨[v], []⟩ = pure [(x, v)])
    (hx : d.scope.names.lookup x = some .local ∨ d.scope.names.lookup x = some .cell)
    (hk : d.scope.kind = .function) (hco : d.scope.isCoroutine = false) (hgen : d.scope.isGenerator = false)
    (body : ∀ (w : World) (s₀ s₁ s : Shared) (mg mb : Str → Option Value) (fa : Addr) (o : Obj) (pm cd doc : Value) (a : Addr) (vs : List Value) (ns : List Int),
      Ground q loose [] XP w s₀ mg mb s₁.heap → YP w s₁.heap →
      s₁.heap.get? fa = some o → o.data = .func (docDef d.name d.params d.body d.scope pm cd doc) → s₁.heap.CodeRec cd d.name → mg d.name = some (.ref fa) →
      s₁.heap.get? a = some { cls := .type "list", data := .seq vs.toArray } → IntsAre vs ns → ns.length ≤ n →
      s.gens = #[] → s.os = s₁.os →
      Fr s₁.heap s₁.heap.objs.size s.heap (bindL (envOfC d.name d.scope s₁.heap.objs.size fa cd).kindOf [(x, .ref a)] fun _ => none) →
      Cl s₁.heap.objs.size (cellsFrom (s₁.heap.objs.size + 1) d.scope.names []) s.heap (bindC (envOfC d.name d.scope s₁.heap.objs.size fa cd).kindOf [(x, .ref a)] fun _ => none) →
      wpAny (model l.prog w) (callerA.deeper (envOfC d.name d.scope s₁.heap.objs.size fa cd)) (execs d.body (envOfC d.name d.scope s₁.heap.objs.size fa cd))
        (fun f s' => f = .ret (.bool true) ∧ (∀ b o, s₁.heap.get? b = some o → s'.heap.get? b = some o) ∧ s'.os = s₁.os ∧ s'.gens = #[]) (fun _ _ => False) s) :
    WalkN q loose XP YP l.row.toRowW d [] (fun f vs => PySem.call f vs) := by
  intro w s₀ s₁ mg mb G Y fa o pm cd doc dV kV ho hd hcd hD hmg hg args vals as hpre hlay hrd hwl hlo
  obtain rfl : dV = .none := Dflts.none hD hdf
  obtain rfl : kV = .none := Dflts.noKw hD
  obtain ⟨a, vs, ns, rfl, rfl, hobj, hints, hlen⟩ := script_of hn hpre hwl
  refine enter_callW ?_
  refine call_cells_ret (o := o) (by rw [depth_caller]; decide) ho (fd_plain hd) G.T.nolimit hcd (hbind pm cd doc (.ref a)) (fun y hy => ?_) (fun h₁ tk F X => ?_) hco hgen hk
  · obtain rfl : y = (x, Value.ref a) := List.mem_singleton.mp hy
    rcases hx with e | e
    · exact .inl e
    · exact .inr ⟨e, cellsFrom_some _ _ _ (.inl e)⟩
  · refine wpAny_mono (body w s₀ s₁ { s₁ with heap := h₁, toks := tk } mg mb fa o pm cd doc a vs ns G Y ho (fd_plain hd) hcd hmg hobj hints hlen hg rfl F X) (fun f s' hq => ?_) (fun _ _ hq => hq)
    obtain ⟨rfl, h2, h3, h4⟩ := hq
    exact ⟨.inl ⟨.bool true, .bool true, [], rfl, fun _ => rfl, .bool true, post_true l _, fun _ => ⟨List.Pairwise.nil, fun _ hm => (nomatch hm)⟩⟩, h2, h3, h4⟩

/-! ### rules over ANY heap (no ledger) from facts about the written part K: the library's own take a ledger (News) for what they write -/
section
variable {prog : Program} {w : World} {A : Around} {E : Value → Shared → Prop} {s : Shared} {K : Frag}

/-- a def of the module, or a method (qual 'C.m'), entered: the frame is the next address; cells behind it -/
theorem call_fn {R : Result → Shared → Prop} {name qual : Str} {params : Arguments} {body : List Stmt} {scope : Scope} {dV kV doc pm cdv ct oc : Value} {an od : Option Addr} {osl : Array (Option Value)} {f : Addr} {args : Args} {binds : List (Str × Value)}
    (X : K.In s.heap) (hlim : s.heap.NoLimit) (ho : K.lookup f = some ⟨oc, od, .func (fnOf name qual params body scope dV kV doc pm an cdv ct), osl⟩) (hcd : codeIn K cdv qual = true) (hroom : A.depth < recursionLimit)
    (hbind : BindsTo s (fnOf name qual params body scope dV kV doc pm an cdv ct) args binds)
    (hkind : (binds.all fun y => scope.names.lookup y.1 == some .local || scope.names.lookup y.1 == some .cell) = true)
    (h : ∀ s₁, InCallC s s.heap.objs.size (bindL (envOfC qual scope s.heap.objs.size f cdv).kindOf binds fun _ => none) (cellsFrom (s.heap.objs.size + 1) scope.names [])
        (bindC (envOfC qual scope s.heap.objs.size f cdv).kindOf binds fun _ => none) s₁ →
      wpAny (model prog w) (A.deeper (envOfC qual scope s.heap.objs.size f cdv)) (execs body (envOfC qual scope s.heap.objs.size f cdv))
        (fun fl s' => R (.ok (.ret (match fl with | .ret v => v | _ => .none))) s')
        (fun e s' => wpAny (model prog w) (A.deeper (envOfC qual scope s.heap.objs.size f cdv)) (leaving (envOfC qual scope s.heap.objs.size f cdv) e) (fun _ s'' => R (.error e) s'') (fun e' s'' => R (.error e') s'') s') s₁)
    (hco : scope.isCoroutine = false) (hgen : scope.isGenerator = false) (hk : scope.kind = .function) : codeAny (model prog w) A (.call (.ref f) args) R s := by
  refine codeAny_call_function hroom (X _ _ ho) rfl hco hgen rfl (codeRec_of X hcd) (hbind _ _ _ _ ?_)
  refine wpAny_newFunctionEnv_cells hk (kindsX hkind _) fun env he s₁ x => ?_
  subst he
  exact ⟨hlim.keeps x.toInCall.keep, codeAny_func (h s₁ x)⟩

/-- C(..): dict at size, instance at size + 1, then __init__ -/
theorem make_obj {R : Result → Shared → Prop} {C fI : Addr} {rest : List Value} {kw : List (Str × Value)}
    (X : K.In s.heap) (hm : makesIn K C = true) (hi : findIn K (.ref C) "__init__" = some (some (.ref fI))) (hf : isFn K (.ref fI) = true)
    (h : codeAny (model prog w) (A.under (.builtin "type.__call__" ⟨.ref C :: rest, kw⟩)) (.call (.ref fI) ⟨.ref (s.heap.objs.size + 1) :: rest, kw⟩) (InitBack (s.heap.objs.size + 1) R)
      { s with heap := (s.heap.push emptyDict).push (instObj C s.heap.objs.size) }) : codeAny (model prog w) A (.call (.ref C) ⟨rest, kw⟩) R s := by
  obtain ⟨hh, g, d, t, os⟩ := s
  exact make_core (makes_of X hm) (looks_findIn X hi) (fun self => bind_fn X self (beq_iff_eq.mp hf)) (.inl rfl) h

/-- x.name where the instance's dict holds the name and the class does not -/
theorem get_field {x C : Addr} {ox : Obj} {es : List DictEntry} {n : Nat} {name : Str} {expr : Bool} {v : Value} {Q : Value → Shared → Prop}
    (X : K.In s.heap) (I : PySem.W.InstAt s.heap x ox C (some (dictOf es n))) (hg : plainGet K C name = true) (hh : hasDictIn K C = true) (ha : findIn K (.ref C) name = some none)
    (hl : getL name es = some (some v)) (hv : handedIn v = true) (h : Q v { s with toks := s.toks + 1 }) : wpAny (model prog w) A (getAttr (.ref x) name expr) Q E s :=
  get_value X I (plainGet_of hg).1 (findObj_own hh ha rfl hl) hv h

/-- x.m(..): the method found in the class -/
theorem get_method {x C f : Addr} {ox : Obj} {es : List DictEntry} {n : Nat} {name : Str} {pl : Sem Bool} {Q : Value × List Value → Shared → Prop}
    (X : K.In s.heap) (I : PySem.W.InstAt s.heap x ox C (some (dictOf es n))) (hg : plainGet K C name = true) (hf : findIn K (.ref C) name = some (some (.ref f))) (ht : isFn K (.ref f) = true)
    (hl : getL name es = some none) (h : Q (.ref f, [.ref x]) s) : wpAny (model prog w) A (getMethod (.ref x) name pl) Q E s :=
  method_fn X I (plainGet_of hg).1 (plainGet_of hg).2 hf (beq_iff_eq.mp ht) (by show (lookIn name (dictOf es n)).map _ = _; rw [lookIn_dict, hl]; rfl) h

/-! the whole heap as the ledger: makes every rule that writes through a ledger a rule over any heap -/
def noObjs (h : Heap) : Heap := { h with objs := #[] }
theorem noObjs_get (h : Heap) (b : Addr) : (noObjs h).get? b = none := by
  cases e : (noObjs h).get? b with
  | none => rfl
  | some o => exact absurd (Heap.lt_size e) (Nat.not_lt_zero _)
def ledger (h : Heap) (L d : Addr) : List (Addr × Obj) := (List.range h.objs.size).filterMap fun a => if a = L ∨ a = d then none else (h.get? a).map fun o => (a, o)
theorem mem_ledger {h : Heap} {L d a : Addr} {o : Obj} : (a, o) ∈ ledger h L d ↔ a ≠ L ∧ a ≠ d ∧ h.get? a = some o := by
  unfold ledger
  rw [List.mem_filterMap]
  constructor
  · rintro ⟨b, _, e⟩
    split at e
    · cases e
    · rename_i hb
      obtain ⟨o', ho, e'⟩ := Option.map_eq_some_iff.mp e
      cases e'
      exact ⟨fun q => hb (.inl q), fun q => hb (.inr q), ho⟩
  · rintro ⟨n1, n2, ho⟩
    refine ⟨a, List.mem_range.mpr (Heap.lt_size ho), ?_⟩
    rw [if_neg (show ¬ (a = L ∨ a = d) from fun q => q.elim n1 n2), ho] <;> rfl
theorem news_ledger {h : Heap} {L d : Addr} {od : Obj} (hne : d ≠ L) (ho : h.get? d = some od) : News (noObjs h) L h ([] ++ (d, od) :: ledger h L d) := by
  rintro ⟨a, o⟩ hp
  rcases List.mem_cons.mp hp with e | hp
  · cases e
    exact ⟨ho, hne, noObjs_get _ _⟩
  · obtain ⟨n1, n2, e⟩ := mem_ledger.mp hp
    exact ⟨e, n1, noObjs_get _ _⟩
theorem fr_all {h : Heap} {L : Addr} {m : Str → Option Value} (n : h.Ns L m) : Fr (noObjs h) L h m :=
  ⟨n, fun b o e => (by rw [noObjs_get] at e; cases e), Nat.zero_le _⟩
/-- Upd of the head entry (for append_K, setItem_K ..) -/
theorem upd_ledger {h : Heap} {L d : Addr} {o o' : Obj} : Upd d o o' ((d, o) :: ledger h L d) ((d, o') :: ledger h L d) :=
  .head fun ⟨_, _⟩ hp => (mem_ledger.mp hp).2.1

/-- x.name = v over any heap: L is any namespace of the heap (the frame's, say): its map stays, its object is not told; all else but the dict stays -/
theorem set_field {x C dx L : Addr} {ox : Obj} {m : Str → Option Value} {es es' : List DictEntry} {n n' : Nat} {name : Str} {v : Value} {Q : Unit → Shared → Prop}
    (X : K.In s.heap) (I : PySem.W.InstAt s.heap x ox C (some (dictOf es n))) (hd : ox.dict = some dx) (hL : s.heap.Ns L m) (hne : dx ≠ L)
    (hs : findIn K (.ref C) "__setattr__" = some (some (.builtin "object.__setattr__"))) (hp : plainOver K C = true) (ht : takerIn K C name = some none) (hh : hasDictIn K C = true) (hl : (getL name es).isSome = true)
    (e : (putL name (PyData.keyHash w.params name) (.str name (s.toks + 1)) v es, putN name es n) = (es', n')) (hz : es'.length ≤ 1000)
    (h : ∀ h' : Heap, h'.Ns L m → h'.get? dx = some (dictOf es' n') → (∀ b o, b ≠ dx → b ≠ L → s.heap.get? b = some o → h'.get? b = some o) → Q () { s with heap := h', toks := s.toks + 2 }) :
    wpAny (model prog w) A (setAttr (.ref x) name v) Q E s := by
  obtain ⟨e1, e2⟩ := Prod.mk.inj e
  have hdx : s.heap.get? dx = some (dictOf es n) := by
    have := I.dict
    rw [hd] at this
    exact this
  refine set_plain X I hs (osa_dict (s := { s with toks := s.toks + 1 }) (h₀ := noObjs s.heap) (L := L) (m := m) (od := dictOf es n) (od' := dictOf es' n') (es := es') (n := n') (pre := []) (post := ledger s.heap L dx)
    (fr_all hL) (news_ledger hne hdx) X I hd hp ht hh hl (fun _ q => nomatch q) (fun ⟨_, _⟩ q => (mem_ledger.mp q).2.1) (by rw [putName_dict, e1, e2]) rfl hz fun h' F' N' => ?_)
  exact h h' F'.ns (N'.get (List.Mem.head _)) fun b o n1 n2 ho => N'.get (List.Mem.tail _ (mem_ledger.mpr ⟨n2, n1, ho⟩))
end
end Att

namespace L2
open PySem PySem.Spec PyProof.Rows

theorem vals_ints : ∀ {vs : List Value} {ns : List Int}, IntsAre vs ns → Vals (ns.map V.int) vs
  | _, _, .nil => .nil
  | _, _, .cons n t h => .cons ⟨t, rfl⟩ (vals_ints h)

/-- nothing is tracked but the script, known to the object (or it is an object of the module) -/
def Only (H : Hp) : Prop := ∀ b, H b = none ∨ ∃ o xs, H b = some (.frz o (.lst xs))

/-- THE HEAD: the law's promise, at the heap behind the top. F, the promise of the law's def, may use that base is part of the heap (so K.In base, base.Ns mainGlobals mg stand in Mod) -/
theorem law_call {P : Program} {w : World} {K : PySem.W.Frag} {mg mb : Str → Option Value} {CX : CXT} {k : Nat} {fa a : Addr} {fd : FuncData} {x : Str} {sp : Sp} {s₁ : Shared} {vs : List Value} {ns : List Int}
    (KX : K.In s₁.heap) (hns : s₁.heap.Ns mainGlobals mg) (hb : s₁.heap.Ns builtinsNs mb) (hbb : ∀ x : Str, x ≠ "__name__" → mb x = bootBuiltins x) (hlim : s₁.heap.NoLimit) (hg : s₁.gens = #[])
    (ha : s₁.heap.get? a = some { cls := .type "list", data := .seq vs.toArray }) (hi : IntsAre vs ns) (hl : ns.length ≤ sizeLine) (hr : Room k callerA)
    (F : ∀ base : Heap, K.In base → base.Ns mainGlobals mg → FnOk P w K mg base CX k fa fd [x] sp) (hbind : ∀ (s : Shared) (u : Value), BindsTo s fd ⟨[u], []⟩ [(x, u)])
    (hsp : ∀ H : Hp, Only H → SqL K H a (ns.map V.int) → sp [.ref a] H (fun v _ => v = .bl true) fun _ _ _ => False)
    (hCX : ∀ H e s', CX [] H s₁ (fun _ _ _ => False) e s' → False) :
    codeAny (model P w) callerA (.call (.ref fa) ⟨[.ref a], []⟩) (fun r s' => r = .ok (.ret (.bool true)) ∧ OldK s₁.heap s'.heap ∧ s'.os = s₁.os ∧ AllBare s'.gens) s₁ := by
  have rv := vals_ints hi
  have lenV := hi.length
  -- from an abstract heap in which nothing but the script may be tracked
  have core : ∀ H : Hp, Only H → SqL K H a (ns.map V.int) → HOk P w H s₁.heap → (∀ b, H b ≠ none → b = a) → (H a ≠ none → K.lookup a = none) →
      codeAny (model P w) callerA (.call (.ref fa) ⟨[.ref a], []⟩) (fun r s' => r = .ok (.ret (.bool true)) ∧ OldK s₁.heap s'.heap ∧ s'.os = s₁.os ∧ AllBare s'.gens) s₁ := by
    intro H hO hS hok hA hK
    have base_of : ∀ {b : Addr} {o : Obj}, s₁.heap.get? b = some o → H b = none → (hidT s₁.heap H).get? b = some o := fun e n => hidT_get e n
    have noA : ∀ {b : Addr} {o : Obj} {es : Array DictEntry} {ep : Nat}, s₁.heap.get? b = some o → o.data = .dict es ep → H b = none := fun {b o es ep} e d => by
      cases q : H b with
      | none => rfl
      | some u =>
        have e' : b = a := hA b (by rw [q]; simp)
        subst e'
        rw [ha] at e; cases e
        have d' : Data.seq vs.toArray _ = Data.dict es ep := d
        cases d'
    have nsK : ∀ {b : Addr} {m : Str → Option Value}, s₁.heap.Ns b m → (hidT s₁.heap H).Ns b m := fun {b m} ⟨o, es, ep, e, d, r⟩ => ⟨o, es, ep, base_of e (noA e d), d, r⟩
    have hKb : K.In (hidT s₁.heap H) := fun b o e => base_of (KX b o e) (by
      cases q : H b with
      | none => rfl
      | some u =>
        have e' : b = a := hA b (by rw [q]; simp)
        subst e'
        rw [hK (by rw [q]; simp)] at e; cases e)
    have hM : Mod K mg (hidT s₁.heap H) := ⟨hKb, nsK hns, ⟨mb, nsK hb, hbb⟩, let ⟨mc, h1, h2⟩ := hlim; ⟨mc, nsK h1, h2⟩⟩
    have e0 : Env0 P w K mg (hidT s₁.heap H) callerA [] s₁ H := ⟨rfl, hM, fun b o e => of_hidT e, Nat.le_of_eq (hidT_size _ _), trivial, fun b hb => absurd (show b ∈ ([] : List Addr) from hb) (by simp), hok, .of_eq hg⟩
    refine codeAny_mono ((F _ hKb (nsK hns)).run callerA [] s₁ H ⟨[.ref a], []⟩ [.ref a] [.ref a] _ _ hr e0 (hbind s₁ (.ref a)) (.cons rfl .nil) (hsp H hO hS)) fun r s' h => ?_
    cases r with
    | error e => exact (hCX H e s' h).elim
    | ok fl =>
      cases fl with
      | next => exact False.elim h
      | brk => exact False.elim h
      | cont => exact False.elim h
      | ret u =>
        obtain ⟨v, H', os, bare, un, hok', r', q⟩ := h
        have q' : v = .bl true := q
        subst q'
        obtain rfl : u = Value.bool true := r'
        refine ⟨rfl, OldK.of_keep fun b o e => ?_, os, bare⟩
        cases q : H b with
        | none => exact un.keep b o e q (by intro z; exact absurd (show b ∈ ([] : List Addr) from z) (by simp)) (by simp)
        | some u =>
          rcases hO b with z | ⟨ob, xs, z⟩
          · rw [q] at z; cases z
          · have z2 := un.frzs b ob _ z
            obtain ⟨e1, _⟩ := hok b _ z
            obtain ⟨e2, _⟩ := hok' b _ z2
            rw [e] at e1; cases e1
            exact e2
  cases hk : K.lookup a with
  | some o =>
    -- the script is one of the module's own objects
    have e := KX a o hk
    rw [ha] at e
    cases e
    refine core (fun _ => none) (fun _ => .inl rfl) (.inr ⟨_, vs.toArray, _, hk, rfl, rfl, rfl, by rw [List.size_toArray, lenV]; exact hl, by simpa using rv⟩) (fun b u z => by have z' : (none : Option HO) = some u := z; cases z') (fun b z => absurd rfl z) fun z => absurd rfl z
  | none =>
    refine core (fun b => if b = a then some (.frz { cls := .type "list", data := .seq vs.toArray } (.lst (ns.map V.int))) else none) (fun b => ?_) (.inl (.inr ⟨{ cls := .type "list", data := .seq vs.toArray }, if_pos rfl⟩)) (fun b u z => ?_) (fun b z => ?_) fun _ => hk
    · by_cases hb : b = a
      · exact .inr ⟨_, _, if_pos hb⟩
      · exact .inl (if_neg hb)
    · by_cases hb : b = a
      · have z' := (if_pos hb).symm.trans z
        cases z'
        subst hb
        exact ⟨ha, by rw [List.length_map]; exact hl, vs, _, rv, ha⟩
      · have z' := (if_neg hb).symm.trans z
        cases z'
    · by_cases hb : b = a
      · exact hb
      · exact absurd (if_neg hb) z
end L2

namespace L2
open PySem PySem.Spec PyProof.Rows

abbrev KOf {K : PySem.W.Frag} {h : Heap} (_ : K.In h) : PySem.W.Frag := K

/-- the goal that k_head leaves (case hc), from the law's promise. F gives the function object fd (K's own) once, then the promise over every base -/
theorem walk_of {l : PySem.W.OpenLaw} {n k : Nat} {q : Program} {loose : List Str} {XP : (Str → Option Value) → Heap → Prop} {YP : World → Heap → Prop} {d : DefRec} {K : Params → PySem.W.Frag} {CX : World → CXT} {sp : World → Sp} {x : Str}
    (hn : l.most = some n) (hn2 : n ≤ sizeLine) (hdf : d.params.defaults = []) (hr : Room k callerA)
    (hY : ∀ (w : World) (h : Heap), YP w h → (K w.params).In h)
    (F : ∀ (w : World) (mg : Str → Option Value) (fa : Addr) (h : Heap), (K w.params).In h → h.Ns mainGlobals mg → mg d.name = some (.ref fa) →
      ∃ fd : FuncData, (∀ (s : Shared) (u : Value), BindsTo s fd ⟨[u], []⟩ [(x, u)]) ∧
        ∀ base : Heap, (K w.params).In base → base.Ns mainGlobals mg → FnOk l.prog w (K w.params) mg base (CX w) k fa fd [x] (sp w))
    (hsp : ∀ (w : World) (H : Hp) (a : Addr) (ns : List Int), ns.length ≤ n → Only H → SqL (K w.params) H a (ns.map V.int) → sp w [.ref a] H (fun v _ => v = .bl true) fun _ _ _ => False)
    (hCX : ∀ (w : World) (H : Hp) (s : Shared) (e : Value) (s' : Shared), CX w [] H s (fun _ _ _ => False) e s' → False) :
    PySem.W.WalkO q loose XP YP l.row.toRowW d [] (fun f vs => PySem.call f vs) := by
  refine Att.attach_call hn hdf fun w s₀ s₁ mg mb fa o pm cd doc a vs ns G Y ho hd hcd hmg hobj hints hlen hg => ?_
  have KX := hY w _ Y
  obtain ⟨fd, hb, hF⟩ := F w mg fa _ KX G.T.g hmg
  exact law_call KX G.T.g G.T.b G.T.builtins G.T.nolimit hg hobj hints (Nat.le_trans hlen hn2) hr hF hb (fun H hO hS => hsp w H a ns hlen hO hS) fun H e s' => hCX w H s₁ e s'
/-- the same where the promise hangs on the written part alone: (sp := My.sp_law), no hole under a binder -/
theorem walk_ofK {l : PySem.W.OpenLaw} {n k : Nat} {q : Program} {loose : List Str} {XP : (Str → Option Value) → Heap → Prop} {YP : World → Heap → Prop} {d : DefRec} {K : Params → PySem.W.Frag} {CX : CXT} {sp : PySem.W.Frag → Sp} {x : Str}
    (hn : l.most = some n) (hn2 : n ≤ sizeLine) (hdf : d.params.defaults = []) (hr : Room k callerA)
    (hY : ∀ (w : World) (h : Heap), YP w h → (K w.params).In h)
    (F : ∀ (w : World) (mg : Str → Option Value) (fa : Addr) (h : Heap), (K w.params).In h → h.Ns mainGlobals mg → mg d.name = some (.ref fa) →
      ∃ fd : FuncData, (∀ (s : Shared) (u : Value), BindsTo s fd ⟨[u], []⟩ [(x, u)]) ∧
        ∀ base : Heap, (K w.params).In base → base.Ns mainGlobals mg → FnOk l.prog w (K w.params) mg base CX k fa fd [x] (sp (K w.params)))
    (hsp : ∀ (K : PySem.W.Frag) (H : Hp) (a : Addr) (ns : List Int), ns.length ≤ n → Only H → SqL K H a (ns.map V.int) → sp K [.ref a] H (fun v _ => v = .bl true) fun _ _ _ => False)
    (hCX : ∀ (H : Hp) (s : Shared) (e : Value) (s' : Shared), CX [] H s (fun _ _ _ => False) e s' → False) :
    PySem.W.WalkO q loose XP YP l.row.toRowW d [] (fun f vs => PySem.call f vs) :=
  walk_of (K := K) (CX := fun _ => CX) (sp := fun w => sp (K w.params)) hn hn2 hdf hr hY F (fun w H a ns h1 h2 h3 => hsp (K w.params) H a ns h1 h2 h3) fun _ H s e s' => hCX H s e s'
end L2

/- THE LAST THEOREM (shape; LID, My.* are yours):
   My.Adr: a structure of the addresses that your layer names (classes, functions); My.Txt K t: a structure (Prop) of the equations over K;
   My.txt_mk : {K} {implicit addresses ..} (e1 : nsIn K mainGlobals "law" = some (some (.ref f))) (e2 : K.lookup f = some ⟨oc, od, .func (fnOf "law" "law" params body scope dV kV doc pm an cdv ct), sl⟩) (e3 : codeIn K cdv "law" = true) .. : ∃ t, My.Txt K t

set_option maxRecDepth 100000 in
set_option maxHeartbeats 0 in
theorem PySem.Challenge.cw_LID_holds : PySem.Challenge.rw_LID.Holds := by
  w_on; o_law; k_head; (case hw => w_witness2)
  k_fill
  refine L2.walk_of (l := PySem.Challenge.rw_LID) (n := 63) (k := 40) (x := "script") (CX := fun w => ..) (sp := fun _ => My.sp_law) rfl (by decide) rfl ⟨rfl, by decide, by decide⟩ (fun w h Y => PySem.W.kIn_of Y) ?F ?S ?C
  case F =>
    intro w mg fa h KX G hmg
    have T : ∃ t, My.Txt (L2.KOf KX) t := by
      dsimp only [L2.KOf]                          -- K must stand as «<heap const> w.params» for k_is
      refine' My.txt_mk ?e1 ?e2 ?e3 ..
      (case e1 => PySem.W.k_is)                    -- in the order: a name -> its address -> its object -> its parts
      (case e2 => PySem.W.k_is)
      ..
    obtain ⟨t, T⟩ := T
    have e0 := hmg.symm.trans (PySem.W.mg_of KX G T.law)
    cases e0                                       -- fa is the law's own address
    exact ⟨_, fun s u => .of_eq rfl, fun base kb nb => My.law_fn T kb nb⟩     -- if «.of_eq rfl» comes too early: refine' ⟨_, ?b, fun base kb nb => My.law_fn T kb nb⟩; exact fun s u => .of_eq rfl
  case S => exact fun w H a ns hl hO hS => ..
  case C => exact ..
(the tactic k_is has no namespace: write k_is) -/

/-! SHORT WORDS over the layer: a def of the text, its body, what a loop and a test want. -/
namespace L2
open PySem PySem.Spec PyProof.Rows

/-! ### the text by places -/
/-- the j-th statement of a class's body -/
def inClass (s : Stmt) (j : Nat) : Stmt := match s with
  | .ClassDef _ _ _ body _ _ _ _ _ _ _ => body.getD j (.Pass ⟨0, 0, 0, 0⟩)
  | _ => .Pass ⟨0, 0, 0, 0⟩
def defArgs (s : Stmt) : Arguments := match s with
  | .FunctionDef _ a _ _ _ _ _ _ _ _ => a
  | _ => { posonlyargs := [], args := [], vararg := none, kwonlyargs := [], kw_defaults := [], kwarg := none, defaults := [] }
def defBody (s : Stmt) : List Stmt := match s with
  | .FunctionDef _ _ b _ _ _ _ _ _ _ => b
  | _ => []
def defScope (s : Stmt) : Scope := match s with
  | .FunctionDef _ _ _ _ _ _ sc _ _ _ => sc
  | _ => { kind := .function, names := [], isGenerator := false, isCoroutine := false }

/-! ### no exception leaves a def -/
abbrev CX0 : CXT := fun _ _ _ _ _ _ => False
abbrev E0 : XK := fun _ _ _ => False
theorem pass0 {X : Cx} : Passes CX0 X E0 := fun _ _ _ _ _ _ _ h => h.elim

/-! ### a def (or method) of the text as it stands behind the top -/
structure Fun (K : PySem.W.Frag) (x qual : Str) (st : Stmt) (f : Addr) (fd : FuncData) : Prop where
  ex : ∃ (oc : Value) (od : Option Addr) (kV doc pm : Value) (an : Option Addr) (cdv ct : Value) (osl : Array (Option Value)),
    fd = PySem.W.fnOf x qual (defArgs st) (defBody st) (defScope st) .none kV doc pm an cdv ct ∧ K.lookup f = some ⟨oc, od, .func fd, osl⟩ ∧ PySem.W.codeIn K cdv qual = true
  kp : PySem.W.keepIn K (.ref f) = true
section
variable {P : Program} {w : World} {K : PySem.W.Frag} {mg : Str → Option Value} {base : Heap}
/-- THE RULE for a def: its body as a term of rules, and the reading of that term -/
theorem Fun.ok {x qual : Str} {st : Stmt} {f : Addr} {fd : FuncData} {N ps : List Str} {k : Nat} {sp : Sp} (F : Fun K x qual st f fd) (S : FnScope N ps (defScope st)) (len : ∀ vs H Q E, sp vs H Q E → vs.length = ps.length)
    (hbody : ∀ (cdv : Value) (A : Around) (outer : List Env) (s : Shared) (H : Hp) (vs : List V) (Q : VK) (E : XK), Room k (A.deeper (envOfC qual (defScope st) s.heap.objs.size f cdv)) → sp vs H Q E →
      ∃ t, PSs (cxOf CX0 P w K mg base N qual (defScope st) f cdv A outer s H E).nox (defBody st) t ∧ t { nx := fun _ H' => Q .non H', rt := Q } (start N vs) H) : FnOk P w K mg base CX0 (k + 1) f fd ps sp := by
  obtain ⟨oc, od, kV, doc, pm, an, cdv, ct, osl, rfl, lk, hcd⟩ := F.ex
  refine fn_of lk hcd S len fun A outer s H vs Q E hr hsp => ?_
  obtain ⟨t, h, q⟩ := hbody cdv A outer s H vs Q E hr hsp
  exact ⟨t, h.nox, q⟩
/-- how its arguments bind (no defaults): h is «fun _ _ _ _ _ _ us hl => match us, hl with | [_, _], _ => rfl», one _ a parameter -/
theorem Fun.binds {x qual : Str} {st : Stmt} {f : Addr} {fd : FuncData} {ps : List Str} (F : Fun K x qual st f fd)
    (h : ∀ (kV doc pm : Value) (an : Option Addr) (cdv ct : Value) (us : List Value), us.length = ps.length → bindArgs (PySem.W.fnOf x qual (defArgs st) (defBody st) (defScope st) .none kV doc pm an cdv ct) ⟨us, []⟩ = pure (ps.zip us)) : Binds K fd ps [] := by
  obtain ⟨oc, od, kV, doc, pm, an, cdv, ct, osl, rfl, lk, hcd⟩ := F.ex
  exact .all (h kV doc pm an cdv ct)
theorem fun_mk {x qual : Str} {st : Stmt} {f : Addr} {oc : Value} {od an : Option Addr} {osl : Array (Option Value)} {kV doc pm cdv ct : Value} (l : K.lookup f = some ⟨oc, od, .func (PySem.W.fnOf x qual (defArgs st) (defBody st) (defScope st) .none kV doc pm an cdv ct), osl⟩)
    (c : PySem.W.codeIn K cdv qual = true) (k : PySem.W.keepIn K (.ref f) = true) : Fun K x qual st f (PySem.W.fnOf x qual (defArgs st) (defBody st) (defScope st) .none kV doc pm an cdv ct) := ⟨⟨oc, od, kV, doc, pm, an, cdv, ct, osl, rfl, l, c⟩, k⟩
end
theorem hu_of {A : Around} {k : Nat} (hr : Room k A) : A.units + 1 < cLine := Nat.lt_of_le_of_lt (Nat.add_le_add_left (by decide : 1 ≤ 64) _) hr.units
theorem small1000 {n : Nat} (h : n ≤ 1000) : n < sizeLine := Nat.lt_of_le_of_lt h (by decide)

/-! ### expressions in short: the name that stands in the i-th slot -/
section
variable {X : Cx}
theorem pv (i : Nat) {x : Str} {pos : Pos} (hN : X.N[i]? = some x := by rfl) (hv : Vis X.env.scope x := by first | exact Or.inl rfl | exact Or.inr (Or.inl rfl) | exact Or.inr (Or.inr rfl)) (hd : (x == ("__debug__" : Str)) = false := by decide)
    (hcd : (x == ("__classdict__" : Str)) = false := by decide) : PE X (.Name x pos) (tVar i) := pe_var hN hv hd hcd
end

/-! ### tests -/
theorem iteF {A B : Prop} (h : B) : if false = true then A else B := by
  rw [if_neg Bool.false_ne_true]
  exact h
theorem iteT {A B : Prop} (h : A) : if true = true then A else B := by
  rw [if_pos rfl]
  exact h
theorem ite2 {c A B : Prop} [Decidable c] (h1 : c → A) (h2 : ¬ c → B) : if c then A else B := by
  by_cases h : c
  · rw [if_pos h]
    exact h1 h
  · rw [if_neg h]
    exact h2 h
theorem iteNS {c A B : Prop} [Decidable c] (hc : c) (h : B) : if (!decide c) = true then A else B := by
  rw [decide_eq_true hc]
  exact iteF h

/-! ### heaps -/
/-- all that was tracked is as it was -/
def Same (H H' : Hp) : Prop := ∀ b o, H b = some o → H' b = some o
theorem Same.refl (H : Hp) : Same H H := fun _ _ h => h
theorem Same.trans {H H1 H2 : Hp} (a : Same H H1) (b : Same H1 H2) : Same H H2 := fun c o h => b c o (a c o h)
theorem Same.free {H H' : Hp} (e : Same H H') {l : Addr} (h : H' l = Option.none) : H l = Option.none := by
  cases q : H l with
  | none => rfl
  | some o =>
    rw [e l o q] at h
    cases h
theorem Same.seq {K : PySem.W.Frag} {H H' : Hp} {a : Addr} {xs : List V} (e : Same H H') (h : SqL K H a xs) : SqL K H' a xs := by
  rcases h with (h | ⟨o, h⟩) | h
  · exact .inl (.inl (e _ _ h))
  · exact .inl (.inr ⟨o, e _ _ h⟩)
  · exact .inr h

end L2
set_option Elab.async false
set_option linter.all false
set_option maxRecDepth 100000
set_option maxHeartbeats 4000000
namespace L2
open PySem PySem.Spec PyProof.Rows

/-! ### a comprehension's block -/
def Cx.comp (X : Cx) (N' : List Str) (scope : Scope) (cl : List (Str × Addr)) (C : Addr) (s2 : Shared) (H2 : Hp) (ex : List Addr) : Cx :=
  { X with N := N', s₀ := s2, H₀ := H2, env := compEnvC scope cl C X.env, outer := X.stack, ex := ex, fn := fun _ => false, pn := [], xe := fun _ _ => False }

theorem closure_go {env : Env} : ∀ (names : List (Str × NameKind)) (acc : List (Str × Addr)), (∀ y ∈ names, y.2 = .free → ∃ c, env.cells.lookup y.1 = some c) →
    (∀ x c, acc.lookup x = some c → env.cells.lookup x = some c) →
    ∃ cl, (forIn names acc fun (x : Str × NameKind) (cs : List (Str × Addr)) => (match x with
      | (name, kind) => if (kind == NameKind.free) = true then do let c ← cellOf env name; pure (ForInStep.yield ((name, c) :: cs)) else pure (ForInStep.yield cs) : Sem (ForInStep (List (Str × Addr))))) = pure cl ∧
      (∀ x c, cl.lookup x = some c → env.cells.lookup x = some c) ∧ (∀ x c, acc.lookup x = some c → cl.lookup x = some c) ∧
      (∀ x, (x, NameKind.free) ∈ names → ∃ c, cl.lookup x = some c)
  | [], acc, _, h2 => ⟨acc, rfl, h2, fun _ _ h => h, fun _ h => nomatch h⟩
  | (n, k) :: r, acc, h1, h2 => by
    rw [List.forIn_cons]
    dsimp only
    by_cases hk : (k == NameKind.free) = true
    · have hk' : k = NameKind.free := by simpa using hk
      obtain ⟨c, hc⟩ := h1 (n, k) List.mem_cons_self hk'
      have e : cellOf env n = pure c := by unfold cellOf; rw [hc]
      obtain ⟨cl, e1, e2, e3, e4⟩ := closure_go r ((n, c) :: acc) (fun y hy => h1 y (List.mem_cons_of_mem _ hy)) (fun x d hd => by
        rw [List.lookup_cons] at hd
        cases hx : x == n with
        | true =>
          rw [hx] at hd
          have : x = n := by simpa using hx
          subst this
          cases hd
          exact hc
        | false =>
          rw [hx] at hd
          exact h2 x d hd)
      have self : cl.lookup n = some c := e3 n c (by rw [List.lookup_cons]; simp)
      refine ⟨cl, ?_, e2, fun x d hd => ?_, fun x hx => ?_⟩
      · rw [if_pos hk, e, pure_bind, pure_bind]
        exact e1
      · by_cases hx : x = n
        · subst hx
          have := h2 x d hd
          rw [hc] at this
          cases this
          exact self
        · exact e3 x d (by rw [List.lookup_cons]; simp only [show (x == n) = false by simpa using hx]; exact hd)
      · rcases List.mem_cons.mp hx with z | z
        · cases z
          exact ⟨c, self⟩
        · exact e4 x z
    · obtain ⟨cl, e1, e2, e3, e4⟩ := closure_go r acc (fun y hy => h1 y (List.mem_cons_of_mem _ hy)) h2
      refine ⟨cl, ?_, e2, e3, fun x hx => ?_⟩
      · rw [if_neg hk, pure_bind]
        exact e1
      · rcases List.mem_cons.mp hx with z | z
        · cases z
          exact absurd rfl hk
        · exact e4 x z
theorem closure_of {scope : Scope} {env : Env} (h : ∀ y ∈ scope.names, y.2 = .free → ∃ c, env.cells.lookup y.1 = some c) :
    ∃ cl, closureFor scope env = pure cl ∧ (∀ x c, cl.lookup x = some c → env.cells.lookup x = some c) ∧ (∀ x, (x, NameKind.free) ∈ scope.names → ∃ c, cl.lookup x = some c) := by
  obtain ⟨cl, e1, e2, e3, e4⟩ := closure_go (env := env) scope.names [] h (fun x c hc => by simp at hc)
  refine ⟨cl, ?_, e2, e4⟩
  unfold closureFor
  simp only [bind_pure]
  exact e1

/-- names of the block: from relabel -/
theorem relabel_lookup {env : Env} {x : Str} {k : NameKind} : ∀ {names : List (Str × NameKind)},
    (names.map fun (n, k) => if (k == NameKind.free && env.scope.kind == .function && env.kindOf n == some .cell) then (n, NameKind.cell) else (n, k)).lookup x = some k →
    ∃ k', names.lookup x = some k' ∧ (k' = k ∨ k' = .free ∧ k = .cell)
  | [], h => by simp at h
  | (n, j) :: r, h => by
    rw [List.map_cons] at h
    dsimp only at h
    have ih := @relabel_lookup env x k r
    by_cases hc : (j == NameKind.free && env.scope.kind == .function && env.kindOf n == some .cell) = true
    · rw [if_pos hc, List.lookup_cons] at h
      rw [List.lookup_cons]
      cases hx : x == n with
      | true =>
        rw [hx] at h
        cases h
        simp only [Bool.and_eq_true] at hc
        exact ⟨j, rfl, .inr ⟨by simpa using hc.1.1, rfl⟩⟩
      | false =>
        rw [hx] at h
        exact ih h
    · rw [if_neg hc, List.lookup_cons] at h
      rw [List.lookup_cons]
      cases hx : x == n with
      | true =>
        rw [hx] at h
        cases h
        exact ⟨_, rfl, .inl rfl⟩
      | false =>
        rw [hx] at h
        exact ih h
theorem relabel_free {env : Env} {x : Str} : ∀ {names : List (Str × NameKind)}, names.lookup x = some .free →
    (names.map fun (n, k) => if (k == NameKind.free && env.scope.kind == .function && env.kindOf n == some .cell) then (n, NameKind.cell) else (n, k)).lookup x = some .cell ∨
    (names.map fun (n, k) => if (k == NameKind.free && env.scope.kind == .function && env.kindOf n == some .cell) then (n, NameKind.cell) else (n, k)).lookup x = some .free
  | [], h => by simp at h
  | (n, j) :: r, h => by
    rw [List.map_cons]
    dsimp only
    have ih := @relabel_free env x r
    rw [List.lookup_cons] at h
    by_cases hc : (j == NameKind.free && env.scope.kind == .function && env.kindOf n == some .cell) = true
    · rw [if_pos hc, List.lookup_cons]
      cases hx : x == n with
      | true => exact .inl rfl
      | false => rw [hx] at h; exact ih h
    · rw [if_neg hc, List.lookup_cons]
      cases hx : x == n with
      | true => rw [hx] at h; cases h; exact .inr rfl
      | false => rw [hx] at h; exact ih h

/-- the loop of a comprehension, with the owned tuple's step -/
theorem compLoop_any {prog : Program} {w : World} {A : Around} {R : Result → Shared → Prop} {s : Shared} {elt target iter : Expr} {ifs : List Expr} {scope : Scope} {pos : Pos} {it acc : Value} {env : Env} (I : Nat → Shared → Prop)
    (turn : ∀ n s, I n s → wpAny (model prog w) A (pyNext it) (fun r s₁ => match r with
      | none => R (.ok .next) s₁
      | some v => wpAny (model prog w) A (letOwnedTupleGo target it v) (fun _ s₁' => wpAny (model prog w) A (assign target env v) (fun _ s₂ =>
          wpAny (model prog w) A (forIn ifs true fun c r => if r = true then do let ok ← isTrue c env (eval c env); pure (ForInStep.yield ok) else pure (ForInStep.yield r)) (fun ok s₃ =>
            if ok = true then wpAny (model prog w) A (eval elt env) (fun x s₄ =>
              wpAny (model prog w) A (call (.builtin "list.append") [acc, x]) (fun _ s₅ => ∃ m, m < n ∧ I m s₅) (fun _ _ => False) s₄) (fun _ _ => False) s₃
            else ∃ m, m < n ∧ I m s₃) (fun _ _ => False) s₂) (fun _ _ => False) s₁') (fun _ _ => False) s₁) (fun _ _ => False) s)
    (n : Nat) (h : I n s) :
    codeAny (model prog w) A (.compLoop (.ListComp elt [⟨target, iter, ifs, 0⟩] scope pos) 0 it acc env) R s := by
  refine codeAny_loop rfl I (fun n s hI => ?_) n h
  show wpAny _ A ((compTurn (.ListComp elt [⟨target, iter, ifs, 0⟩] scope pos) 0 it acc env).onRaise (fun x => do noteFrame x env; theTreesLotGoes x)) _ _ s
  refine wpAny_noted ?_
  rw [compTurn_list]
  refine wpAny_bind (wpAny_standAt (wpAny_bind (wpAny_mono (turn n s hI) (fun r s₁ h₁ => ?_) fun _ _ h' => h'.elim)))
  cases r with
  | none => exact wpAny_pure h₁
  | some v =>
    refine wpAny_bind (wpAny_mono h₁ (fun _ s₁' h₁' => ?_) fun _ _ h' => h'.elim)
    refine wpAny_bind (wpAny_mono h₁' (fun _ s₂ h₂ => wpAny_bind (wpAny_mono h₂ (fun ok s₃ h₃ => ?_) fun _ _ h' => h'.elim)) fun _ _ h' => h'.elim)
    cases ok with
    | false => exact wpAny_pure ⟨rfl, h₃⟩
    | true =>
      exact wpAny_bind (wpAny_bind (wpAny_mono h₃ (fun x s₄ h₄ => wpAny_bind (wpAny_mono h₄ (fun _ s₅ h₅ => wpAny_pure (wpAny_pure ⟨rfl, h₅⟩)) fun _ _ h' => h'.elim)) fun _ _ h' => h'.elim))
end L2
set_option Elab.async false
set_option linter.all false
set_option maxRecDepth 100000
set_option maxHeartbeats 4000000
namespace L2
open PySem PySem.Spec PyProof.Rows

def pick (σ : St) : Option Nat → Option V
  | none => none
  | some i => (σ[i]?).getD none
theorem pick_some {σ : St} {j : Nat} {v : V} (h : pick σ (some j) = some v) : σ[j]? = some (some v) := by
  have h : (σ[j]?).getD none = some v := h
  cases e : σ[j]? with
  | none => rw [e] at h; cases h
  | some o => rw [e] at h; exact congrArg some h

/-- what is asked of the block's names: osc the scope around, N the names around, Nb the block's, ix where each stands around -/
def compOk (osc scope : Scope) (N Nb : List Str) (ix : List (Option Nat)) : Bool :=
  decide (scope.kind = .function) && scope.names.all (fun y => decide (y.2 ≠ .cell)) &&
  scope.names.all (fun y => decide (y.2 = .local → scope.names.lookup y.1 = some .local)) &&
  scope.names.all (fun y => decide (y.2 = .free → osc.names.lookup y.1 = some .cell ∨ osc.names.lookup y.1 = some .free)) &&
  decide (ix.length = Nb.length) &&
  (List.range Nb.length).all (fun i => match ix[i]? with
    | some (some j) => match Nb[i]? with
      | some x => decide (N[j]? = some x ∧ scope.names.lookup x = some .free)
      | none => true
    | _ => true)
structure CompOk (osc scope : Scope) (N Nb : List Str) (ix : List (Option Nat)) : Prop where
  kind : scope.kind = .function
  nocell : ∀ y ∈ scope.names, y.2 ≠ .cell
  names : ∀ y ∈ scope.names, y.2 = .local → scope.names.lookup y.1 = some .local
  fr : ∀ y ∈ scope.names, y.2 = .free → osc.names.lookup y.1 = some .cell ∨ osc.names.lookup y.1 = some .free
  len : ix.length = Nb.length
  src : ∀ (i j : Nat) (x : Str), Nb[i]? = some x → ix[i]? = some (some j) → N[j]? = some x ∧ scope.names.lookup x = some .free
theorem compOk_of {osc scope : Scope} {N Nb : List Str} {ix : List (Option Nat)} (h : compOk osc scope N Nb ix = true) : CompOk osc scope N Nb ix := by
  unfold compOk at h
  simp only [Bool.and_eq_true] at h
  obtain ⟨⟨⟨⟨⟨h1, h2⟩, h3⟩, h4⟩, h5⟩, h6⟩ := h
  refine ⟨of_decide_eq_true h1, fun y hy => of_decide_eq_true (List.all_eq_true.mp h2 y hy), fun y hy => of_decide_eq_true (List.all_eq_true.mp h3 y hy), fun y hy => of_decide_eq_true (List.all_eq_true.mp h4 y hy), of_decide_eq_true h5, fun i j x e1 e2 => ?_⟩
  have hi : i < Nb.length := (List.getElem?_eq_some_iff.mp e1).1
  have q := List.all_eq_true.mp h6 i (List.mem_range.mpr hi)
  rw [e2] at q
  simp only [e1] at q
  exact of_decide_eq_true q

def PIfs (X : Cx) (ifs : List Expr) (t : TT) : Prop :=
  ∀ (pins : List (Addr × Obj)) (s : Shared) (σ : St) (H : Hp) (Q : Bool → Hp → Prop), Inv X pins σ H s → t σ H Q →
    wpAny (model X.prog X.w) X.A (forIn ifs true fun c r => if r = true then do let ok ← isTrue c X.env (eval c X.env); pure (ForInStep.yield ok) else pure (ForInStep.yield r)) (TP X pins σ Q) X.xe s
def tTrue : TT := fun _ H Q => Q true H
theorem pifs_nil {X : Cx} : PIfs X [] tTrue := fun _ _ _ H _ I h => wpAny_tests_nil ⟨H, I, h⟩
theorem pifs_one {X : Cx} {c : Expr} {t : TT} (h : PT X c t) : PIfs X [c] t := fun pins s σ H Q I hq => wpAny_tests_one (h pins s σ H Q I hq)

/-- the block's turns: W the invariant by the turn, a measure, the list so far -/
def CompRun (J : It) (g : TG) (tc : TT) (te : TE) (σ0 : St) (H1 : Hp) (Q : VK) : Prop := ∀ D, H1 D = none →
  ∃ W : Nat → Nat → List V → St → Hp → Prop, (∃ m, W 0 m [] σ0 (upd H1 D (.lst []))) ∧
    ∀ i m ys σ' H', W i m ys σ' H' → H' D = some (.lst ys) ∧ ((J.stop i H' ∧ Q (.ref D) H') ∨ (J.go i H' ∧ ∀ x H2, J.yld i H' x H2 → g x σ' H2 fun σ2 H3 => tc σ2 H3 fun b H4 =>
      if b = true then te σ2 H4 fun y H5 => H5 D = some (.lst ys) ∧ ys.length < sizeLine ∧ ∃ m', m' < m ∧ W (i + 1) m' (ys ++ [y]) σ2 (upd H5 D (.lst (ys ++ [y])))
      else ∃ m', m' < m ∧ W (i + 1) m' ys σ2 H4))
def tComp (wi : TI) (g : TG) (tc : TT) (te : TE) (ix : List (Option Nat)) : TE := fun σ H Q => wi σ H fun J H1 => CompRun J g tc te (ix.map (pick σ)) H1 Q

section
variable {X : Cx} {N' : List Str} {scope osc : Scope} {cl : List (Str × Addr)} {C : Addr} {ex : List Addr} {ix : List (Option Nat)} {pins : List (Addr × Obj)} {σ : St} {H2 : Hp} {s2 : Shared}

theorem comp_ok (I2 : Inv X pins σ H2 s2) (K : CompOk X.env.scope scope X.N N' ix) (e2 : ∀ x c, cl.lookup x = some c → X.env.cells.lookup x = some c) (e3 : ∀ x, (x, NameKind.free) ∈ scope.names → ∃ c, cl.lookup x = some c)
    (hC : s2.heap.objs.size ≤ C) (f2 : ∀ b ∈ ex, FpOk X pins H2 b) (hex : ∀ b ∈ ex, b < s2.heap.objs.size) : (X.comp N' scope cl C s2 H2 ex).Ok where
  mod := I2.ok.mod
  kind := K.kind
  glob := I2.ok.glob
  blt := I2.ok.blt
  above := hC
  inj := fun x y c h1 h2 => I2.ok.inj x y c (e2 x c h1) (e2 y c h2)
  has := fun x hx => by
    have key : ∀ k, (relabel scope X.env).names.lookup x = some k → k = .cell ∨ k = .free → ∃ c, cl.lookup x = some c := fun k hk hk2 => by
      obtain ⟨k', h1, h2⟩ := relabel_lookup hk
      have hm := PySem.mem_of_lookup h1
      rcases h2 with rfl | ⟨rfl, rfl⟩
      · rcases hk2 with rfl | rfl
        · exact absurd rfl (K.nocell _ hm)
        · exact e3 x hm
      · exact e3 x hm
    rcases hx with hx | hx
    · exact key _ hx (.inl rfl)
    · exact key _ hx (.inr rfl)
  cab := fun x c h => by cases h
  hd := I2.ok.hd
  frames := I2.ok.frames
  stk := .inl rfl
  exf := fun b hb => ⟨Nat.ne_of_lt (Nat.lt_of_lt_of_le (hex b hb) hC), fun x c h => (f2 b hb).2.2.2.2.1 x c (e2 x c h)⟩
  bs := I2.bs
  bsz := Nat.le_trans I2.ok.bsz I2.sz
  noex := fun b o e hb => by
    rcases (f2 b hb).2.2.2.1 with z | z
    · exact I2.ok.noex b o e z
    · exact absurd (Nat.lt_of_lt_of_le (Heap.lt_size (I2.ok.bs b o e).1) z) (Nat.lt_irrefl _)
  exfs := fun b hb hf => by
    rcases List.mem_cons.mp (I2.stkSub b hf) with z | z
    · exact (f2 b hb).2.1 z
    · exact (f2 b hb).2.2.1 z
  funs := I2.stack
  frf := I2.stkFree

/-- out of the block -/
theorem comp_out (I2 : Inv X pins σ H2 s2) (f2 : ∀ b ∈ ex, FpOk X pins H2 b) (hC : s2.heap.objs.size ≤ C) {σ3 : St} {H3 : Hp} {s4 : Shared} {h' : Heap}
    (J : Inv (X.comp N' scope cl C s2 H2 ex) [] σ3 H3 s4) (sb : Heap.SameBut C s4.heap h') : Inv X pins σ H3 { s4 with heap := h' } := by
  have ne : ∀ b o, s2.heap.get? b = some o → b ≠ C := fun b o e => Nat.ne_of_lt (Nat.lt_of_lt_of_le (Heap.lt_size e) hC)
  have B := J.base
  have fr : H3 C = none := J.free
  refine I2.call' (s' := { s4 with heap := h' }) (ch := ex) J.os ⟨fun b o e n hb hx => ?_, fun b o e n hb hx => ?_, B.free, fun b o e hx => ?_, B.tups, B.frzs, B.tbls⟩ ?_ J.bare fun b hb => ?_
  · exact (sb.2 b (ne b o e)).trans (B.keep b o e n hb hx)
  · obtain ⟨sl, q⟩ := B.slot b o e n hb hx
    exact ⟨sl, (sb.2 b (ne b o e)).trans q⟩
  · obtain ⟨o', q⟩ := B.there b o e hx
    exact ⟨o', (sb.2 b (ne b o e)).trans q⟩
  · intro b ob e
    refine (J.hok b ob e).stay (fun c w' hc q => (sb.2 c ?_).trans q) (fun _ q => q) fun _ _ q => q
    rintro rfl
    rcases hc with rfl | hc
    · rw [fr] at e; cases e
    · rw [fr] at hc; cases hc
  · obtain ⟨_, f1, _, f3, f4, f5⟩ := f2 b hb
    exact ⟨f3, f1, f4, f5⟩
end

theorem comp_block {X : Cx} {tg iter elt : Expr} {ifs : List Expr} {scope : Scope} {pos : Pos} {g : TG} {tc : TT} {te : TE} {N' : List Str} {ix : List (Option Nat)} {pins : List (Addr × Obj)} {σ : St} {s2 : Shared} {itv : Value} {Q : VK} {cl : List (Str × Addr)}
    {RR : Value → Addr → Result → Shared → Prop} (hc : X.calm = true) (K : CompOk X.env.scope scope X.N N' ix) (e2 : ∀ x c, cl.lookup x = some c → X.env.cells.lookup x = some c) (e3 : ∀ x, (x, NameKind.free) ∈ scope.names → ∃ c, cl.lookup x = some c)
    (hg : ∀ cl C s2 H2 ex, PG (X.comp N' scope cl C s2 H2 ex) tg g) (ht : ∀ cl C s2 H2 ex, PIfs (X.comp N' scope cl C s2 H2 ex) ifs tc) (he : ∀ cl C s2 H2 ex, PE (X.comp N' scope cl C s2 H2 ex) elt te)
    (h2 : PIE X pins σ tg (fun J H1 => CompRun J g tc te (ix.map (pick σ)) H1 Q) itv s2)
    (hRR : ∀ H2 fp C D σ3 H3 s4, Inv X pins σ H2 s2 → (∀ b ∈ fp, FpOk X pins H2 b) → s2.heap.objs.size ≤ C → Inv (X.comp N' scope cl C s2 H2 fp) [] σ3 H3 s4 → Q (.ref D) H3 → RR (.ref D) C (.ok .next) s4) :
    wpAny (model X.prog X.w) X.A (newList []) (fun acc s₃ => wpAny (model X.prog X.w) X.A (newFunctionEnv scope X.env.globals cl [] X.env.qual none .none (some X.env)) (fun cenv s₄ =>
      codeAny (model X.prog X.w) X.A (.compStart (.ListComp elt [⟨tg, iter, ifs, 0⟩] scope pos) 0 itv acc { cenv with scope := relabel scope X.env }) (RR acc cenv.locals) s₄) X.xe s₃) X.xe s2 := by
  obtain ⟨it, fp, tn, J, H2, rfl, I2, T, st2, f2, q⟩ := h2
  refine wpAny_newObj_type (wpAny_newFunctionEnv K.nocell (by intro y hy; simp at hy) (fun h1 hns1 hsb1 => ?_) K.kind)
  dsimp only at hns1 hsb1 ⊢
  generalize hP : s2.heap.push { cls := .type "list", dict := none, data := .seq ([] : List Value).toArray } = P2 at hns1 hsb1 ⊢
  have hCs : P2.objs.size = s2.heap.objs.size + 1 := by rw [← hP, Heap.size_push]
  have hC : s2.heap.objs.size ≤ P2.objs.size := by omega
  have hDC : s2.heap.objs.size ≠ P2.objs.size := by omega
  have old : ∀ b o, s2.heap.get? b = some o → h1.get? b = some o := fun b o e =>
    hsb1.extBut b o (Nat.ne_of_lt (Nat.lt_of_lt_of_le (Heap.lt_size e) hC)) (Heap.get?_push_of_some _ (hP ▸ Heap.get?_push_of_some _ e))
  have hacc : h1.get? s2.heap.objs.size = some { cls := .type "list", dict := none, data := .seq ([] : List Value).toArray } :=
    hsb1.extBut _ _ hDC (Heap.get?_push_of_some _ (hP ▸ Heap.get?_push_size _ rfl))
  have hD : H2 s2.heap.objs.size = none := I2.hok.fresh (Nat.le_refl _)
  have hCn : H2 P2.objs.size = none := I2.hok.fresh hC
  obtain ⟨W, ⟨m0, w0⟩, turn⟩ := q s2.heap.objs.size hD
  have hex : ∀ b ∈ fp, b < s2.heap.objs.size := fun b hb => by
    obtain ⟨o, e, _⟩ := T.obj 0 _ st2 b hb
    exact Heap.lt_size e
  have YOk := comp_ok (cl := cl) (C := P2.objs.size) (ex := fp) I2 K e2 e3 hC f2 hex
  have hok1 : HOk X.prog X.w (upd H2 s2.heap.objs.size (.lst [])) h1 := I2.hok.laid old (Nat.le_refl _) ⟨Nat.zero_le _, [], 0, .nil, hacc⟩
  have IY : Inv (X.comp N' scope cl P2.objs.size s2 H2 fp) [] (ix.map (pick σ)) (upd H2 s2.heap.objs.size (.lst [])) { s2 with heap := h1, toks := s2.toks + ([] : List (Str × Value)).length } := by
    refine ⟨YOk, rfl, I2.bare, ?_, ⟨_, hns1, fun i x v e1 e4 e5 => ?_⟩, fun x c e => ?_, ?_, fun x c e => ?_, fun p hp => absurd (show p ∈ ([] : List (Addr × Obj)) from hp) (by simp), hok1, ?_⟩
    · exact (Un.laid old (Nat.le_refl _) hD).mono (fun _ z => z) (fun _ z => z)
    · rw [List.getElem?_map] at e4
      cases e6 : ix[i]? with
      | none => rw [e6] at e4; cases e4
      | some o =>
        rw [e6] at e4
        cases o with
        | none => cases (Option.some.inj e4)
        | some j =>
          have e7 : σ[j]? = some (some v) := pick_some (Option.some.inj e4)
          obtain ⟨n1, n2⟩ := K.src i j x e1 e6
          have hm := PySem.mem_of_lookup n2
          have kx := K.fr _ hm rfl
          obtain ⟨m, hn, hl⟩ := I2.loc
          obtain ⟨u, r, l⟩ := hl j x v n1 e7 (kx.elim (fun z => .inr (.inl z)) fun z => .inr (.inr z))
          refine ⟨u, r, .inr ⟨?_, ?_⟩⟩
          · exact relabel_free n2
          · rcases l with ⟨k1, _⟩ | ⟨_, c, hc1, hc2⟩
            · exfalso
              have k1' : X.env.scope.names.lookup x = some .local := k1
              rcases kx with z | z
              · rw [k1'] at z; cases z
              · rw [k1'] at z; cases z
            · obtain ⟨c', hc'⟩ := e3 x hm
              have e8 := e2 x c' hc'
              rw [hc1] at e8
              cases e8
              obtain ⟨o, ho, hd⟩ := hc2
              exact ⟨c, hc', o, old _ _ ho, hd⟩
    · obtain ⟨v, o, ho, hd⟩ := I2.cell x c (e2 x c e)
      exact ⟨v, o, old _ _ ho, hd⟩
    · show upd H2 s2.heap.objs.size (.lst []) P2.objs.size = none
      rw [upd_ne (Ne.symm hDC)]
      exact hCn
    · obtain ⟨v, z⟩ := I2.cell x c (e2 x c e)
      rw [upd_ne (Nat.ne_of_lt z.lt)]
      exact I2.freeC x c (e2 x c e)
    · rw [List.length_map]
      exact K.len
  have hnf : ∀ b ∈ fp, b ≠ P2.objs.size := fun b hb => Nat.ne_of_lt (Nat.lt_of_lt_of_le (hex b hb) hC)
  have stat : ∀ {H' : Hp}, (∀ b ∈ fp, H' b = none) → ∀ b ∈ fp, FpOk (X.comp N' scope cl P2.objs.size s2 H2 fp) [] H' b := fun hn b hb =>
    ⟨hn b hb, hnf b hb, YOk.exfs b hb, .inl hb, fun x c e => (f2 b hb).2.2.2.2.1 x c (e2 x c e), fun p hp => absurd (show p ∈ ([] : List (Addr × Obj)) from hp) (by simp)⟩
  have loop : ∀ s₃ : Shared, s₃ = { s2 with heap := h1, toks := s2.toks + ([] : List (Str × Value)).length } →
      codeAny (model X.prog X.w) X.A (.compLoop (.ListComp elt [⟨tg, iter, ifs, 0⟩] scope pos) 0 (.ref it) (.ref s2.heap.objs.size) (compEnvC scope cl P2.objs.size X.env))
        (RR (.ref s2.heap.objs.size) P2.objs.size) s₃ := by
    rintro s₃ rfl
    refine compLoop_any (fun n s' => ∃ i ys σ' H', Inv (X.comp N' scope cl P2.objs.size s2 H2 fp) [] σ' H' s' ∧ tn i s'.heap ∧ (∀ b ∈ fp, H' b = none) ∧ W i n ys σ' H') ?_ m0
      ⟨0, [], _, _, IY, T.keep _ _ _ st2 (fun b hb o e => old b o e), fun b hb => ?_, w0⟩
    · rintro n s3 ⟨i, ys, σ3, H3, I3, st3, fr3, w3⟩
      obtain ⟨hDl, tt⟩ := turn i n ys σ3 H3 w3
      rcases tt with ⟨stop, qn⟩ | ⟨go, step⟩
      · refine thn (T.done (X.comp N' scope cl P2.objs.size s2 H2 fp) rfl rfl rfl hc i [] s3 σ3 H3 (fun _ _ => False) I3 (stat fr3) st3 stop) fun r s4 ⟨hr, I4⟩ => ?_
        subst hr
        exact hRR H2 fp P2.objs.size s2.heap.objs.size σ3 H3 s4 I2 f2 hC I4 qn
      · refine thn (T.item (X.comp N' scope cl P2.objs.size s2 H2 fp) rfl rfl rfl hc i [] s3 σ3 H3 (fun _ _ => False) I3 (stat fr3) st3 go) fun r s4 ⟨u, hr, h4⟩ => ?_
        subst hr
        refine thn h4 fun _ s5 ⟨x, H5, I5, r5, y5, st5, fr5⟩ => ?_
        have I5' := I5.pinned (stat fr5) (T.obj _ _ st5)
        refine thn (hg cl P2.objs.size s2 H2 fp _ s5 σ3 H5 x u _ I5' r5 (step x H5 y5)) fun _ s6 ⟨σ6, H6, I6, q6⟩ => ?_
        refine thn (ht cl P2.objs.size s2 H2 fp _ s6 σ6 H6 _ I6 q6) fun b s7 ⟨H7, I7, q7⟩ => ?_
        have again : ∀ {s8 : Shared} {H8 : Hp} {ys' : List V} {m' : Nat}, Inv (X.comp N' scope cl P2.objs.size s2 H2 fp) ([] ++ pinsAt fp s5.heap) σ6 H8 s8 → m' < n → W (i + 1) m' ys' σ6 H8 →
            ∃ m, m < n ∧ ∃ i ys σ' H', Inv (X.comp N' scope cl P2.objs.size s2 H2 fp) [] σ' H' s8 ∧ tn i s8.heap ∧ (∀ b ∈ fp, H' b = none) ∧ W i m ys σ' H' := fun {s8 H8 ys' m'} I8 hm w8 => by
          refine ⟨m', hm, i + 1, ys', σ6, H8, I8.unpinned, T.keep _ _ _ st5 fun b hb o e => (I8.pin (b, o) (List.mem_append_right _ (List.mem_append_right _ (mem_pinsAt hb e)))).1, fun b hb => ?_, w8⟩
          obtain ⟨o, e, d⟩ := T.obj _ _ st5 b hb
          exact (I8.pin (b, o) (List.mem_append_right _ (List.mem_append_right _ (mem_pinsAt hb e)))).2.1
        cases b with
        | false =>
          obtain ⟨m', hm, w7⟩ : ∃ m', m' < n ∧ W (i + 1) m' ys σ6 H7 := q7
          exact again I7 hm w7
        | true =>
          have q7' : te σ6 H7 _ := q7
          show wpAny _ _ (eval elt (compEnvC scope cl P2.objs.size X.env)) _ _ _
          refine thn (he cl P2.objs.size s2 H2 fp _ s7 σ6 H7 _ I7 q7') fun yv s8 ⟨y, H8, I8, r8, hD8, hz8, m', hm, w8⟩ => ?_
          refine thn (mt_append (X := X.comp N' scope cl P2.objs.size s2 H2 fp) _ s8 σ6 H8 (.ref s2.heap.objs.size) [y] (.ref s2.heap.objs.size) [yv] (fun _ H9 => H9 = upd H8 s2.heap.objs.size (.lst (ys ++ [y]))) I8 rfl (.cons r8 .nil)
            ⟨_, ys, y, rfl, rfl, hD8, hz8, rfl⟩) fun _ s9 ⟨_, H9, I9, _, e9⟩ => ?_
          subst e9
          exact again I9 hm w8
    · show upd H2 s2.heap.objs.size (.lst []) b = none
      rw [upd_ne (Nat.ne_of_lt (hex b hb))]
      exact (f2 b hb).1
  exact codeAny_compStart_list (loop _ rfl) (T.self X.A 0 _ _ _ (T.keep _ _ _ st2 (fun b hb o e => old b o e)) (loop _ rfl))
theorem pe_comp {X : Cx} {tg iter elt : Expr} {ifs : List Expr} {scope : Scope} {pos : Pos} {wi : TI} {g : TG} {tc : TT} {te : TE} (N' : List Str) (ix : List (Option Nat)) (osc : Scope) (N : List Str)
    (hc : X.calm = true) (hi : PI X tg iter wi) (ok : compOk osc scope N N' ix = true)
    (hg : ∀ cl C s2 H2 ex, PG (X.comp N' scope cl C s2 H2 ex) tg g) (ht : ∀ cl C s2 H2 ex, PIfs (X.comp N' scope cl C s2 H2 ex) ifs tc) (he : ∀ cl C s2 H2 ex, PE (X.comp N' scope cl C s2 H2 ex) elt te)
    (hsc : X.env.scope = osc := by rfl) (hN : X.N = N := by rfl) (hs : ∀ x, foldedSetIterable iter X.env x = pure x := by intro _; rfl) : PE X (.ListComp elt [⟨tg, iter, ifs, 0⟩] scope pos) (tComp wi g tc te ix) := by
  intro pins s σ H Q I h
  have K0 := compOk_of ok
  have K : CompOk X.env.scope scope X.N N' ix := by rw [hsc, hN]; exact K0
  obtain ⟨cl, hclos, e2, e3⟩ := closure_of (scope := scope) (env := X.env) (fun y hy hf => I.ok.has y.1 (K.fr y hy hf))
  rw [eval_ListComp]
  refine wpAny_comprehension_free (use := none) rfl hs hclos K.kind K.names (wpAny_mono (hi pins s σ H _ I h) (fun v s1 h1 => thn h1 fun itv s2 h2 => ?_) fun _ _ e => e)
  refine comp_block hc K e2 e3 hg ht he h2 fun H2 fp C D σ3 H3 s4 I2 f2 hC I4 qn => ?_
  obtain ⟨m, hn, _⟩ := I4.loc
  exact ⟨m, hn, fun h' sb => ⟨.ref D, H3, comp_out I2 f2 hC I4 sb, rfl, qn⟩⟩
/-- name = [..]: the store comes ahead of the block's leaving -/
theorem ps_setC {X : Cx} {tg iter elt : Expr} {ifs : List Expr} {scope : Scope} {pos spos py : Pos} {y : Str} {wi : TI} {g : TG} {tc : TT} {te : TE} (N' : List Str) (ix : List (Option Nat)) (osc : Scope) (N : List Str) {i : Nat} (nd : X.N.Nodup) (hiy : X.N[i]? = some y) (hxy : Loc X.env.scope y)
    (hc : X.calm = true) (hi : PI X tg iter wi) (ok : compOk osc scope N N' ix = true)
    (hg : ∀ cl C s2 H2 ex, PG (X.comp N' scope cl C s2 H2 ex) tg g) (ht : ∀ cl C s2 H2 ex, PIfs (X.comp N' scope cl C s2 H2 ex) ifs tc) (he : ∀ cl C s2 H2 ex, PE (X.comp N' scope cl C s2 H2 ex) elt te)
    (hsc : X.env.scope = osc := by rfl) (hN : X.N = N := by rfl) (hs : ∀ x, foldedSetIterable iter X.env x = pure x := by intro _; rfl)
    (hsw : swapsWith (.ListComp elt [⟨tg, iter, ifs, 0⟩] scope pos) (some (.Name y py)) spos.line X.env = pure true := by rfl) (hf : X.fn y = true ∨ X.env.scope.names.lookup y = some .local := by first | exact .inl rfl | exact .inr rfl | assumption) :
    PS X (.Assign [.Name y py] (.ListComp elt [⟨tg, iter, ifs, 0⟩] scope pos) spos) (tAsg (tComp wi g tc te ix) (gName i)) := by
  intro pins s σ H D I h
  have K0 := compOk_of ok
  have K : CompOk X.env.scope scope X.N N' ix := by rw [hsc, hN]; exact K0
  obtain ⟨cl, hclos, e2, e3⟩ := closure_of (scope := scope) (env := X.env) (fun y hy hf => I.ok.has y.1 (K.fr y hy hf))
  rw [exec_Assign_Name_used _ _ _ _ hsw]
  refine wpAny_bind (wpAny_standAt (wpAny_bind ?_))
  show wpAny _ X.A (do let _ ← comprehension (.ListComp elt [⟨tg, iter, ifs, 0⟩] scope pos) scope X.env _ (newList []) false (eval iter X.env) (some (assign (.Name y py) X.env))) _ _ s
  refine wpAny_bind (wpAny_mono (wpAny_comprehension_free (use := some (assign (.Name y py) X.env)) (Q := fun _ s' => SP X pins D .next s') rfl hs hclos K.kind K.names
    (wpAny_mono (hi pins s σ H _ I h) (fun v s1 h1 => thn h1 fun itv s2 h2 => ?_) fun _ _ e => e)) (fun _ s' hq => wpAny_pure (wpAny_pure hq)) fun _ _ e => e)
  refine comp_block hc K e2 e3 hg ht he h2 fun H2 fp C L σ3 H3 s4 I2 f2 hC I4 qn => ?_
  have I5 : Inv X pins σ H3 s4 := comp_out I2 f2 hC I4 (Heap.SameBut.refl ..)
  obtain ⟨m, hn, _⟩ := I4.loc
  have hn : s4.heap.Ns C m := hn
  have fC : FpOk X pins H3 C := I2.fpOk hC I4.free
  show wpAny _ X.A (assign (.Name y py) X.env (.ref L)) _ _ s4
  refine wpAny_assign_Name (store_ok2 I5 nd hiy hxy (v := .ref L) rfl (fun s5 I6 hch => ?_) hf)
  obtain ⟨a, sb, ha⟩ := hch
  have nCa : C ≠ a := by
    rcases ha with rfl | ha
    · exact fC.2.1
    · exact fun z => fC.2.2.2.2.1 y a ha z.symm
  refine ⟨m, hn.sameBut sb nCa, fun h' sb' => ⟨_, H3, ?_, qn⟩⟩
  obtain ⟨f0, f1, f2', f3, f4, f5⟩ := fC
  exact I6.turned (t' := s5.toks) (fun b o hb e => (sb'.2 b hb).trans e) f0 f1 f3 f4 f5
end L2
set_option Elab.async false
set_option linter.all false
set_option maxRecDepth 100000
set_option maxHeartbeats 4000000
namespace L2
open PySem PySem.Spec PyProof.Rows

section
variable {X : Cx}
theorem bools_of : ∀ {bs : List Bool} {us : List Value}, Vals (bs.map V.bl) us → LSm.BoolsAre us bs
  | [], _, .nil => .nil
  | b :: bs, _, .cons r t => by
    cases r
    exact .cons b (bools_of t)
/-! ### all -/
theorem call_all (hc : X.calm = true) : CallR X (.builtin "all") (fun xs H Q => ∃ (p : Addr) (bs : List Bool), xs = [.ref p] ∧ SqL X.K H p (bs.map V.bl) ∧ Q (.bl (bs.all id)) H) := by
  intro pins s σ H xs us Q I rv h
  obtain ⟨p, bs, rfl, hq, q⟩ := h
  obtain ⟨u, rfl, ru⟩ := rv.one
  cases ru
  obtain ⟨its, r, pl, hz⟩ := I.list hq
  have hb := bools_of r
  obtain ⟨m, F⟩ := I.fr
  have hl := pl.isList
  have hlt : p < s.heap.objs.size := by obtain ⟨_, e, _⟩ := hl; exact Heap.lt_size e
  have hh := I.ok.hd hc
  refine call_all_walk (wpAny_pyIter_list hl ?_)
  refine ⟨s.heap.objs.size, [s.heap.objs.size, p], [s.heap.objs.size], its.toArray.size, _, _, fun i => (bs[i]?).getD true, rfl, Walks.list (A := X.A.in1) hh _ p (Nat.ne_of_lt hlt) its.toArray,
    ⟨⟨_, Heap.get?_push_size _ rfl, rfl, rfl⟩, hl.push _⟩, fun i v s' Q' E' hP hQ => ?_, fun h' tk hk => ?_⟩
  · obtain ⟨b, e, rfl⟩ := hb.get i v (by simpa using hP)
    simp only [e, Option.getD_some] at hQ
    exact wpAny_truthy_bool hQ
  · have e : ((List.range its.toArray.size).all fun i => (bs[i]?).getD true) = bs.all id := by
      rw [List.size_toArray, hb.length]; exact LSm.range_all bs
    rw [e]
    exact ⟨.bl _, H, I.kept (LSm.kept_iter hk), rfl, q⟩

/-! ### isinstance -/
theorem call_isinst : CallR X (.builtin "isinstance") (fun xs H Q => ∃ x T t b, xs = [x, .ty T] ∧ TyOf X.K H x t ∧ PySem.W.kitOne X.K t (.type T) = some b ∧ Q (.bl b) H) := by
  intro pins s σ H xs us Q I rv h
  obtain ⟨x, T, t, b, rfl, ty, e, q⟩ := h
  obtain ⟨u, v, rfl, ru, rv⟩ := rv.two
  cases rv
  exact isinst_ok I ru ty e fun tk => ⟨.bl b, H, I.tok tk, rfl, q⟩

/-! ### list.count of ints -/
theorem ints_of : ∀ {ns : List Int} {us : List Value}, Vals (ns.map V.int) us → IntsAre us ns
  | [], _, .nil => .nil
  | b :: bs, _, .cons r t => by
    obtain ⟨tk, rfl⟩ := r
    exact .cons _ _ (ints_of t)
theorem mt_count : MtM X "list.count" (fun x vs H Q => ∃ (l : Addr) (ns : List Int) (k : Int), x = .ref l ∧ vs = [.int k] ∧ SqL X.K H l (ns.map V.int) ∧ Q (.int (ns.count k : Nat)) H) := by
  intro pins s σ H x vs v us Q I rx rv h
  obtain ⟨l, ns, k, rfl, rfl, hq, q⟩ := h
  cases rx
  obtain ⟨u, rfl, ru⟩ := rv.one
  obtain ⟨t, rfl⟩ := ru
  obtain ⟨its, r, pl, hz⟩ := I.list hq
  exact count_list_ints pl.isList (ints_of r) ⟨.int _, H, I.tok _, ⟨_, rfl⟩, q⟩
end

/-! ### deep data -/
mutual
inductive RdD (K : PySem.W.Frag) (H : Hp) : V → PyData → Prop
  | non : RdD K H .non .none
  | bl (b : Bool) : RdD K H (.bl b) (.bool b)
  | int (i : Int) : RdD K H (.int i) (.int i)
  | str (x : Str) : RdD K H (.str x) (.str x)
  | lst {a : Addr} {xs : List V} {ds : List PyData} : SqL K H a xs → RdAll K H xs ds → RdD K H (.ref a) (.list ds)
  | tup {a : Addr} {xs : List V} {ds : List PyData} : SqT K H a xs → RdAll K H xs ds → RdD K H (.ref a) (.tuple ds)
inductive RdAll (K : PySem.W.Frag) (H : Hp) : List V → List PyData → Prop
  | nil : RdAll K H [] []
  | cons {x : V} {d : PyData} {xs : List V} {ds : List PyData} : RdD K H x d → RdAll K H xs ds → RdAll K H (x :: xs) (d :: ds)
end
section
variable {X : Cx} {pins : List (Addr × Obj)} {σ : St} {H : Hp} {s : Shared}
mutual
theorem Inv.reads (I : Inv X pins σ H s) : ∀ {x : V} {d : PyData} {u : Value}, RdD X.K H x d → RelV x u → ∃ as, Reads s.heap u d as
  | _, _, _, .non, r => by cases r; exact ⟨_, .none⟩
  | _, _, _, .bl b, r => by cases r; exact ⟨_, .bool b⟩
  | _, _, _, .int i, r => by obtain ⟨t, rfl⟩ := r; exact ⟨_, .int i t⟩
  | _, _, _, .str x, r => by obtain ⟨t, rfl⟩ := r; exact ⟨_, .str x t⟩
  | _, _, _, .lst hq ha, r => by
    cases r
    obtain ⟨its, rv, ⟨o, n, e, c, dd, dt⟩, _⟩ := I.list hq
    obtain ⟨as, q⟩ := Inv.readsAll I ha rv
    exact ⟨_, .list e c dt (by simpa using q)⟩
  | _, _, _, .tup hq ha, r => by
    cases r
    obtain ⟨its, rv, ⟨o, e, c, n, dt⟩, _⟩ := I.tuple hq
    obtain ⟨as, q⟩ := Inv.readsAll I ha rv
    exact ⟨_, .tuple e c dt (by simpa using q)⟩
theorem Inv.readsAll (I : Inv X pins σ H s) : ∀ {xs : List V} {ds : List PyData} {us : List Value}, RdAll X.K H xs ds → Vals xs us → ∃ as, ReadsAll s.heap us ds as
  | _, _, _, .nil, .nil => ⟨_, .nil⟩
  | _, _, _, .cons h t, .cons r rr => by
    obtain ⟨as, q⟩ := Inv.reads I h r
    obtain ⟨bs, p⟩ := Inv.readsAll I t rr
    exact ⟨_, .cons q p⟩
end
def rEqD (K : PySem.W.Frag) (neg : Bool) : R2 := fun x y H Q => ∃ dx dy, RdD K H x dx ∧ RdD K H y dy ∧ SeqAt.shaped dx = true ∧ SeqAt.shaped dy = true ∧ Q (.bl (if neg then !PyData.eqv dx dy else PyData.eqv dx dy)) H
theorem op_eqD (hu : X.A.units + 64 < cLine) : OpR X (compareOp .Eq) (rEqD X.K false) := by
  intro pins s σ H x y v u Q I rx ry h
  obtain ⟨dx, dy, h1, h2, s1, s2, q⟩ := h
  obtain ⟨as, r1⟩ := I.reads h1 rx
  obtain ⟨bs, r2⟩ := I.reads h2 ry
  exact eq_dataH r1 r2 s1 s2 hu ⟨.bl _, H, I, rfl, q⟩
theorem op_neD (hu : X.A.units + 64 < cLine) : OpR X (compareOp .NotEq) (rEqD X.K true) := by
  intro pins s σ H x y v u Q I rx ry h
  obtain ⟨dx, dy, h1, h2, s1, s2, q⟩ := h
  obtain ⟨as, r1⟩ := I.reads h1 rx
  obtain ⟨bs, r2⟩ := I.reads h2 ry
  exact ne_dataH r1 r2 s1 s2 hu ⟨.bl _, H, I, rfl, q⟩
end
end L2
set_option Elab.async false
set_option linter.all false
set_option maxRecDepth 100000
set_option maxHeartbeats 4000000
namespace L2
open PySem PySem.Spec PyProof.Rows

/-! ### enumerate(list) -/
def Ite (K : PySem.W.Frag) (a : Addr) : It :=
  ⟨fun i H => ∃ xs x, SqL K H a xs ∧ xs[i]? = some x, fun i H y H' => ∃ T x, y = .ref T ∧ H T = none ∧ H' = upd H T (.tup [.int (i : Nat), x]) ∧ ∀ xs, SqL K H a xs → xs[i]? = some x, fun i H => ∃ xs, SqL K H a xs ∧ xs.length ≤ i⟩
/-- two records turned, a tuple laid -/
theorem Inv.tupNew {X : Cx} {pins : List (Addr × Obj)} {σ : St} {H : Hp} {s : Shared} {h' : Heap} {t' : Nat} {fp : List Addr} {T : Addr} {xs : List V} {its : List Value} {n : Nat} (I : Inv X pins σ H s) (hf : ∀ b ∈ fp, FpOk X pins H b)
    (hT : s.heap.objs.size ≤ T) (k : ∀ b o, b ∉ fp → s.heap.get? b = some o → h'.get? b = some o) (hz : xs.length ≤ sizeLine) (rv : Vals xs its) (e : h'.get? T = some { cls := .type "tuple", data := .seq its.toArray n })
    (tr : ∀ b ∈ fp, ∃ o, h'.get? b = some o) : Inv X pins σ (upd H T (.tup xs)) { s with heap := h', toks := t' } := by
  have hTn : H T = none := I.hok.fresh hT
  have nT : ∀ b o, s.heap.get? b = some o → b ≠ T := fun b o q => Nat.ne_of_lt (Nat.lt_of_lt_of_le (Heap.lt_size q) hT)
  have nfp : ∀ b o, H b = some o → b ∉ fp := fun b o q hb => by have := (hf b hb).1; rw [q] at this; cases this
  refine I.step (g' := s.gens) (d' := s.drawn) (ch := fp) (fun b hb => ?_) (fun b o _ _ hc q _ => k b o hc q) (fun b o _ _ hc q _ => ⟨o.slots, k b o hc q⟩) (fun b o _ q n => by rw [upd_ne (nT b o q)]; exact n)
    (fun b o hc q => ⟨o, k b o hc q⟩) (fun b ys q => by rw [upd_ne (ne_of_none q hTn)]; exact q) (fun b o u q => by rw [upd_ne (ne_of_none q hTn)]; exact q) (fun b ps q => ⟨#[], by rw [upd_ne (ne_of_none q hTn), q]; simp⟩) (fun m hm => ?_) (fun b u q => ?_) I.bare
  · obtain ⟨_, f1, _, f3, f4, f5⟩ := hf b hb
    exact ⟨f3, f1, f4, f5⟩
  · obtain ⟨o, es, ep, ho, r⟩ := hm
    exact ⟨o, es, ep, k _ o (fun z => (hf _ z).2.1 rfl) ho, r⟩
  · by_cases hb : b = T
    · subst hb
      rw [upd_same] at q
      cases q
      exact ⟨hz, its, rv, _, e, rfl, n, rfl⟩
    · rw [upd_ne hb] at q
      refine (I.hok b u q).stay (fun c v hc w => k c v ?_ w) (fun c w => by rw [upd_ne (ne_of_none w hTn)]; exact w) fun c ys w => by rw [upd_ne (ne_of_none w hTn)]; exact w
      rcases hc with rfl | hc
      · exact nfp _ _ q
      · exact nfp _ _ hc
theorem turn_enum {P : Program} {w : World} {K : PySem.W.Frag} {es : List Expr} {k1} {ps : Pos} (a e it : Addr) : Turn P w K (.Tuple es k1 ps) (Ite K a) [e, it] e (fun i h => (∃ old, IsEnum h e it (i : Nat) old) ∧ h.IsListIter it a i ∧ e ≠ it) where
  mem := by simp
  obj := fun i h st b hb => by
    obtain ⟨⟨old, he⟩, hit, hne⟩ := st
    rcases List.mem_cons.mp hb with rfl | hb
    · exact ⟨_, he, fun v z => by
        have z' : Data.fields _ = Data.cell v := z
        cases z'⟩
    · have z : b = it := by simpa using hb
      subst z
      obtain ⟨o, e, c, d⟩ := hit
      exact ⟨o, e, fun v z => by rw [d] at z; cases z⟩
  keep := fun i h h' st k => by
    obtain ⟨⟨old, he⟩, hit, hne⟩ := st
    exact ⟨⟨old, k e (by simp) _ he⟩, hit.at fun o q => k it (by simp) o q, hne⟩
  item := by
    intro X hP hw hK hc i pins s σ H E I hf st hg
    subst hP hw hK
    obtain ⟨⟨old, he⟩, hit, hne⟩ := st
    obtain ⟨xs, x, hq, hx⟩ := hg
    obtain ⟨its, rv, p, hz⟩ := I.list hq
    obtain ⟨u, hu, ru⟩ := rv.get hx
    refine wpAny_pyNext_enum_item he hit p.isList (x := u) (by simpa using hu) hne fun h' heo hit' hT hsz hk => ?_
    refine ⟨_, rfl, wpAny_letOwnedTupleGo_enum heo fun h2 he2 hs2 => ?_⟩
    have elt : e ≠ s.heap.objs.size := Nat.ne_of_lt (Heap.lt_size he)
    have ilt : it ≠ s.heap.objs.size := by obtain ⟨o, q, _⟩ := hit; exact Nat.ne_of_lt (Heap.lt_size q)
    have hs2' : Heap.SameBut e h' h2 := hs2
    have hT2 : h2.get? s.heap.objs.size = some { cls := .type "tuple", data := .seq #[.int i s.toks, u] } := (hs2'.2 _ (Ne.symm elt)).trans hT
    have hit2 : h2.IsListIter it a (i + 1) := hit'.at fun o q => (hs2'.2 it (Ne.symm hne)).trans q
    have hfr : H s.heap.objs.size = none := I.hok.fresh (Nat.le_refl _)
    have I2 : Inv X pins σ (upd H s.heap.objs.size (.tup [.int (i : Nat), x])) { s with heap := h2, toks := s.toks + 1 } := by
      refine I.tupNew (its := [.int i s.toks, u]) hf (Nat.le_refl _) (fun b o hb q => ?_) (by show 2 ≤ sizeLine; decide) (.cons ⟨_, rfl⟩ (.cons ru .nil)) hT2 (fun b hb => ?_)
      · simp only [List.mem_cons, not_or] at hb
        exact (hs2'.2 b hb.1).trans (hk b o hb.1 hb.2.1 q)
      · rcases List.mem_cons.mp hb with rfl | hb
        · exact ⟨_, he2⟩
        · have z : b = it := by simpa using hb
          subst z
          obtain ⟨o, q, _⟩ := hit2
          exact ⟨o, q⟩
    refine ⟨.ref s.heap.objs.size, _, I2, rfl, ⟨_, x, rfl, hfr, rfl, fun ys hy => by rw [I.list_inj hy hq]; exact hx⟩, ⟨⟨_, by simpa using he2⟩, hit2, hne⟩, fun b hb => ?_⟩
    rw [upd_ne (fun z => ?_)]
    · exact (hf b hb).1
    · rcases List.mem_cons.mp hb with rfl | hb
      · exact elt z
      · have z' : b = it := by simpa using hb
        subst z'
        exact ilt z
  done := by
    intro X hP hw hK hc i pins s σ H E I hf st hg
    subst hP hw hK
    obtain ⟨⟨old, he⟩, hit, hne⟩ := st
    obtain ⟨xs, hq, hx⟩ := hg
    obtain ⟨its, rv, p, hz⟩ := I.list hq
    obtain ⟨f0, f1, f2, f3, f4, f5⟩ := hf it (by simp)
    have hl := rv.length
    exact wpAny_pyNext_enum_end (I.ok.hd hc) he hit p.isList (by simp; omega) fun h' eb => ⟨rfl, I.turned (t' := s.toks) (fun b o hb e => eb b o hb e) f0 f1 f3 f4 f5⟩
  self := fun _ _ _ _ _ st h => by
    obtain ⟨⟨old, he⟩, hit, hne⟩ := st
    exact wpAny_pyIter_enum he h
def iEnum (K : PySem.W.Frag) (ta : TA) : TI := fun σ H R => ta σ H fun vs H1 => ∃ a, vs = [.ref a] ∧ (∃ xs, SqL K H1 a xs) ∧ R (Ite K a) H1
theorem pi_enum {X : Cx} {a : Expr} {ta : TA} {es : List Expr} {k1} {ps p pos : Pos} (hg : Gl X "enumerate") (hm : X.mg "enumerate" = none) (ha : PA X [a] ta) (hs : starEach [a] X.env = [(false, eval a X.env)] := by rfl) :
    PI X (.Tuple es k1 ps) (.Call (.Name "enumerate" p) [a] [] pos) (iEnum X.K ta) := by
  intro pins s σ H R I h
  refine Call_ (ld_blt I hg hm boot_enumerate (PyProof.Rows.callWith_type1 (thn (ha pos pins s σ H _ I h) fun us s1 ⟨vs, H1, I1, r1, q1⟩ => ?_) hs rfl))
  obtain ⟨a, e, ⟨xs, hq⟩, q⟩ := q1
  subst e
  obtain ⟨u, rfl, ru⟩ := r1.one
  cases ru
  obtain ⟨its, rv, pl, hz⟩ := I1.list hq
  refine call_enumerate_list pl.isList fun h' he hit hsz hk => wpAny_pyIter_enum he ?_
  have I2 : Inv X pins σ H1 { s1 with heap := h' } := I1.kept (t' := s1.toks) hk
  refine ⟨s1.heap.objs.size + 1, [s1.heap.objs.size + 1, s1.heap.objs.size], _, _, H1, rfl, I2, turn_enum a _ _, ⟨⟨_, he⟩, hit, Nat.ne_of_gt (Nat.lt_succ_self _)⟩, fun b hb => ?_, q⟩
  rcases List.mem_cons.mp hb with rfl | hb
  · exact I1.fpOk (Nat.le_succ _) (I1.hok.fresh (Nat.le_succ _))
  · have z : b = s1.heap.objs.size := by simpa using hb
    subst z
    exact I1.fpOk (Nat.le_refl _) (I1.hok.fresh (Nat.le_refl _))
/-- a loop over enumerate(list), the list left as it is -/
theorem for_enum {K : PySem.W.Frag} {a : Addr} {xs : List V} {g : TG} {tb : TS} {D : Ends} {σ : St} {H : Hp} (Pv : Nat → St → Hp → Prop) (h0 : Pv 0 σ H) (hl : ∀ i σ H, i ≤ xs.length → Pv i σ H → SqL K H a xs)
    (hs : ∀ i x σ H T, xs[i]? = some x → Pv i σ H → H T = none → g (.ref T) σ (upd H T (.tup [.int (i : Nat), x])) fun σ2 H2 => tb { D with nx := Pv (i + 1), ct := Pv (i + 1), bk := D.nx } σ2 H2) (hd : ∀ σ H, Pv xs.length σ H → D.nx σ H) :
    ∃ W : Nat → Nat → St → Hp → Prop, (∃ m, W 0 m σ H) ∧ ∀ i m σ H, W i m σ H →
      ((Ite K a).stop i H ∧ D.nx σ H) ∨ ((Ite K a).go i H ∧ ∃ N : St → Hp → Prop, (∀ σ' H', N σ' H' → ∃ m', m' < m ∧ W (i + 1) m' σ' H') ∧ ∀ x H', (Ite K a).yld i H x H' → g x σ H' fun σ2 H2 => tb { D with nx := N, ct := N, bk := D.nx } σ2 H2) := by
  refine ⟨fun i m σ H => m = xs.length - i ∧ i ≤ xs.length ∧ Pv i σ H, ⟨xs.length, by simp, Nat.zero_le _, h0⟩, ?_⟩
  rintro i m σ H ⟨rfl, hi, p⟩
  have q := hl i σ H hi p
  by_cases hlt : i < xs.length
  · refine .inr ⟨⟨xs, xs[i], q, by simp [hlt]⟩, Pv (i + 1), fun σ' H' p' => ⟨xs.length - (i + 1), by omega, rfl, hlt, p'⟩, fun x H' y => ?_⟩
    obtain ⟨T, z, rfl, hT, rfl, y⟩ := y
    exact hs i z σ _ T (y xs q) p hT
  · have e : i = xs.length := by omega
    subst e
    exact .inl ⟨⟨xs, q, Nat.le_refl _⟩, hd σ H p⟩

/-! ### a, b = a list -/
theorem draw_list {prog : Program} {w : World} {A : Around} {E : Value → Shared → Prop} {it t : Addr} {items : Array Value} (hne : t ≠ it) : ∀ (n i : Nat) (s : Shared) (Q : List Value → Shared → Prop), s.heap.IsListIter it t i → s.heap.IsList t items → i + n ≤ items.size →
    (∀ h', h'.IsListIter it t (i + n) → Heap.SameBut it s.heap h' → Q ((items.toList.drop i).take n) { s with heap := h' }) → wpAny (model prog w) A (draw (.ref it) n) Q E s
  | 0, i, s, Q, hit, _, _, hQ => by
    show wpAny _ _ (pure []) Q E s
    exact wpAny_pure (by simpa using hQ s.heap hit (Heap.SameBut.refl ..))
  | n + 1, i, s, Q, hit, ht, hle, hQ => by
    have hlt : i < items.size := by omega
    show wpAny _ _ (pyNext (.ref it) >>= _) Q E s
    refine wpAny_bind (wpAny_pyNext_list_item hit ht (x := items[i]) (by simp [hlt]) fun h₁ hit₁ hs₁ => ?_)
    refine wpAny_bind (wpAny_holding (draw_list hne n (i + 1) _ _ hit₁ (ht.extBut hs₁.extBut hne) (by omega) fun h₂ hit₂ hs₂ => wpAny_pure ?_))
    have hd : items.toList.drop i = items[i] :: items.toList.drop (i + 1) := by simp [List.drop_eq_getElem_cons, hlt]
    have := hQ h₂ (by rw [show i + (n + 1) = i + 1 + n by omega]; exact hit₂) (hs₁.trans hs₂)
    rw [hd, List.take_succ_cons] at this
    exact this
theorem assign_Tuple_list {prog : Program} {w : World} {A : Around} {E : Value → Shared → Prop} {s : Shared} {env : Env} {elts : List Expr} {x1} {pos : Pos} {t : Addr} {items : Array Value} {Q : Unit → Shared → Prop} (hh : A.handled = none) (ht : s.heap.IsList t items)
    (hn : (assignEach elts env).length = items.size) (hstar : (assignEach elts env).findIdx? (·.1) = none)
    (h : ∀ h', Heap.ExtBut s.heap.objs.size s.heap h' → wpAny (model prog w) A (assignInOrder ((assignEach elts env).map (·.2)) items.toList) Q E { s with heap := h' }) :
    wpAny (model prog w) A (assign (.Tuple elts x1 pos) env (.ref t)) Q E s := by
  rw [assign_Tuple]
  refine wpAny_bind (wpAny_standAt ?_)
  unfold unpack
  rw [hn, hstar]
  have hlt : t ≠ s.heap.objs.size := by obtain ⟨o, ho, _⟩ := ht; exact Nat.ne_of_lt (Heap.lt_size ho)
  refine wpAny_bind (wpAny_holding ?_)
  unfold unpackItems
  refine wpAny_bind ?_
  · unfold notIterableAtAll
    refine wpAny_bind (wpAny_specialOf ht.typeIs slot_list_iter.lookup ?_)
    refine wpAny_pure ?_
    simp only [Bool.false_eq_true, if_false]
    refine wpAny_bind (wpAny_holding (wpAny_pyIter_list ht ?_))
    refine wpAny_bind (wpAny_holding (draw_list hlt items.size 0 _ _ ⟨_, Heap.get?_push_size _ rfl, rfl, rfl⟩ (ht.push _) (by omega) fun h₁ hit₁ hs₁ => ?_))
    have hall : List.take items.size (List.drop 0 items.toList) = items.toList := by
      rw [List.drop_zero]; exact List.take_of_length_le (by simp)
    rw [hall]
    rw [if_neg (by simp)]
    have ht₁ : h₁.IsList t items := (ht.push _).extBut hs₁.extBut hlt
    refine wpAny_bind (wpAny_holding (wpAny_pyNext_list_end hh hit₁ ht₁ (by simp) fun h₂ he₂ => ?_))
    simp only [Option.isSome_none, Bool.false_eq_true, if_false]
    exact wpAny_pure (h h₂ fun b o hb e => he₂ b o hb (hs₁.extBut b o hb (Heap.get?_push_of_some _ e)))
def gLst (K : PySem.W.Frag) (n : Nat) (t : TGs) : TG := fun v σ H Q => ∃ a xs, v = .ref a ∧ SqL K H a xs ∧ xs.length = n ∧ t xs σ H Q
theorem pg_lst {X : Cx} {pos : Pos} {es : List Expr} {k : Nat} {t : TGs} {n : Nat} (hc : X.calm = true) (h : PGs X es t)
    (hn : (assignEach es X.env).length = n := by rfl) (hst : (assignEach es X.env).findIdx? (·.1) = none := by rfl) : PG X (.Tuple es k pos) (gLst X.K n t) := by
  intro pins s σ H v u Q I r hw
  obtain ⟨a, xs, e1, hq, hl, hw⟩ := hw
  subst e1
  cases r
  obtain ⟨its, rv, ht, hz⟩ := I.list hq
  refine assign_Tuple_list (I.ok.hd hc) ht.isList (by simp [hn, ← hl, rv.length]) hst fun h' hx => ?_
  have I1 : Inv X pins σ H { s with heap := h' } := I.kept (t' := s.toks) fun b o e => hx b o (Nat.ne_of_lt (Heap.lt_size e)) e
  exact h pins _ σ H xs _ Q I1 (by simpa using rv) hw
end L2
set_option Elab.async false
set_option linter.all false
set_option maxRecDepth 100000
set_option maxHeartbeats 4000000
namespace L2
open PySem PySem.Spec PyProof.Rows

/-! ### readings that change nothing -/
def Pu (te : TE) (σ : St) (H : Hp) (v : V) : Prop := ∀ (H' : Hp) (Q : VK), Same H H' → (∀ H'', Same H' H'' → Q v H'') → te σ H' Q
def PuT (tc : TT) (σ : St) (H : Hp) (b : Bool) : Prop := ∀ (H' : Hp) (Q : Bool → Hp → Prop), Same H H' → (∀ H'', Same H' H'' → Q b H'') → tc σ H' Q
theorem puT_true {σ : St} {H : Hp} : PuT tTrue σ H true := fun H' Q _ q => q H' (Same.refl _)
theorem Same.upd {H H' : Hp} {D : Addr} {o : HO} (e : Same H H') (hD : H D = none) : Same H (upd H' D o) := fun b u q => by
  rw [upd_ne (ne_of_none q hD)]
  exact e b u q
theorem Same.new {H : Hp} {D : Addr} {o : HO} (hD : H D = none) : Same H (L2.upd H D o) := (Same.refl H).upd hD
theorem Same.tup {K : PySem.W.Frag} {H H' : Hp} {a : Addr} {xs : List V} (e : Same H H') (h : SqT K H a xs) : SqT K H' a xs := by
  rcases h with (h | ⟨o, h⟩) | h
  · exact .inl (.inl (e _ _ h))
  · exact .inl (.inr ⟨o, e _ _ h⟩)
  · exact .inr h

/-- a comprehension with one name, over any walk: its invariant -/
theorem comp_by {J : It} {n : Nat} {σ0 : St} {H1 : Hp} {D : Addr} {tc : TT} {te : TE} {Q : VK} (Pv : Nat → List V → Hp → Prop) (h0 : Pv 0 [] (upd H1 D (.lst [])))
    (hl : ∀ i ys H', i ≤ n → Pv i ys H' → H' D = some (.lst ys)) (hgo : ∀ i ys H', i < n → Pv i ys H' → J.go i H') (hst : ∀ ys H', Pv n ys H' → J.stop n H')
    (step : ∀ i ys H' x H2, i < n → Pv i ys H' → J.yld i H' x H2 → tc (σ0.set 0 (some x)) H2 fun b H4 => if b = true then te (σ0.set 0 (some x)) H4 fun y H5 => H5 D = some (.lst ys) ∧ ys.length < sizeLine ∧ Pv (i + 1) (ys ++ [y]) (upd H5 D (.lst (ys ++ [y]))) else Pv (i + 1) ys H4)
    (fin : ∀ ys H', Pv n ys H' → Q (.ref D) H') :
    ∃ W : Nat → Nat → List V → St → Hp → Prop, (∃ m, W 0 m [] σ0 (upd H1 D (.lst []))) ∧
      ∀ i m ys σ' H', W i m ys σ' H' → H' D = some (.lst ys) ∧ ((J.stop i H' ∧ Q (.ref D) H') ∨ (J.go i H' ∧ ∀ x H2, J.yld i H' x H2 → gName 0 x σ' H2 fun σ2 H3 => tc σ2 H3 fun b H4 =>
        if b = true then te σ2 H4 fun y H5 => H5 D = some (.lst ys) ∧ ys.length < sizeLine ∧ ∃ m', m' < m ∧ W (i + 1) m' (ys ++ [y]) σ2 (upd H5 D (.lst (ys ++ [y])))
        else ∃ m', m' < m ∧ W (i + 1) m' ys σ2 H4)) := by
  refine ⟨fun i m ys σ' H' => m = n - i ∧ i ≤ n ∧ (∀ x, σ'.set 0 x = σ0.set 0 x) ∧ Pv i ys H', ⟨n, by simp, Nat.zero_le _, fun _ => rfl, h0⟩, ?_⟩
  rintro i m ys σ' H' ⟨rfl, hi, es, p⟩
  refine ⟨hl i ys H' hi p, ?_⟩
  by_cases hlt : i < n
  · refine .inr ⟨hgo i ys H' hlt p, fun x H2 y => ?_⟩
    have st := step i ys H' x H2 hlt p y
    show tc (σ'.set 0 (some x)) H2 _
    rw [es]
    have e1 : ∀ z, (σ0.set 0 (some x)).set 0 z = σ0.set 0 z := fun z => by rw [List.set_set]
    have e2 : ∀ ys' H5, (∃ m', m' < n - i ∧ m' = n - (i + 1) ∧ i + 1 ≤ n ∧ (∀ z, (σ0.set 0 (some x)).set 0 z = σ0.set 0 z) ∧ Pv (i + 1) ys' H5) ↔ Pv (i + 1) ys' H5 := fun ys' H5 =>
      ⟨fun ⟨_, _, _, _, _, q⟩ => q, fun q => ⟨n - (i + 1), by omega, rfl, hlt, e1, q⟩⟩
    simp only [e2]
    exact st
  · have e : i = n := by omega
    subst e
    exact .inl ⟨hst ys H' p, fin ys H' p⟩

/-- over a list, pure: ms the things walked, as values by u -/
theorem comp_of {α : Type} {K : PySem.W.Frag} {a : Addr} {ms : List α} {σ0 : St} {H1 : Hp} {tc : TT} {te : TE} {Q : VK} (u : α → V) (p : α → Bool) (f : α → V) (hq : SqL K H1 a (ms.map u)) (hn : ms.length ≤ sizeLine)
    (ht : ∀ x ∈ ms, PuT tc (σ0.set 0 (some (u x))) H1 (p x)) (he : ∀ x ∈ ms, p x = true → Pu te (σ0.set 0 (some (u x))) H1 (f x))
    (fin : ∀ D H', H1 D = none → Same H1 H' → H' D = some (.lst ((ms.filter p).map f)) → Q (.ref D) H') :
    CompRun (Itl K a) (gName 0) tc te σ0 H1 Q := by
  intro D hD
  refine comp_by (n := ms.length) (fun i ys H' => Same H1 H' ∧ H' D = some (.lst ys) ∧ ys = ((ms.take i).filter p).map f) ⟨Same.new hD, upd_same, by simp⟩ (fun i ys H' _ q => q.2.1) (fun i ys H' hi q => ⟨ms.map u, u ms[i], q.1.seq hq, by simp [hi]⟩)
    (fun ys H' q => ⟨ms.map u, q.1.seq hq, by simp⟩) ?_ (fun ys H' q => ?_)
  · rintro i ys H' x H2 hi ⟨sm, hDl, hys⟩ ⟨rfl, hy⟩
    have hx : (ms.map u)[i]? = some x := hy _ (sm.seq hq)
    obtain ⟨z, hz, rfl⟩ : ∃ z, ms[i]? = some z ∧ u z = x := by
      rw [List.getElem?_map] at hx
      cases e : ms[i]? with
      | none => rw [e] at hx; cases hx
      | some z => rw [e] at hx; exact ⟨z, rfl, Option.some.inj hx⟩
    have hm : z ∈ ms := List.mem_of_getElem? hz
    have tk : ms.take (i + 1) = ms.take i ++ [z] := by
      rw [List.take_add_one, hz]
      simp only [Option.toList]
    have hlen : ys.length ≤ i := by
      rw [hys, List.length_map]
      exact Nat.le_trans (List.length_filter_le _ _) (by rw [List.length_take]; omega)
    refine ht z hm _ _ sm fun H4 s4 => ?_
    cases hp : p z with
    | true =>
      refine iteT ?_
      refine he z hm hp _ _ (sm.trans s4) fun H5 s5 => ⟨s5 _ _ (s4 _ _ hDl), by omega, ((sm.trans s4).trans s5).upd hD, upd_same, ?_⟩
      rw [tk, List.filter_append, List.map_append, ← hys]
      simp [hp]
    | false =>
      refine iteF ⟨sm.trans s4, s4 _ _ hDl, ?_⟩
      rw [tk, List.filter_append, List.map_append, ← hys]
      simp [hp]
  · obtain ⟨sm, hDl, hys⟩ := q
    rw [List.take_length] at hys
    exact fin D H' hD sm (by rw [← hys]; exact hDl)
/-- .. all taken -/
theorem comp_map {α : Type} {K : PySem.W.Frag} {a : Addr} {ms : List α} {σ0 : St} {H1 : Hp} {te : TE} {Q : VK} (u : α → V) (f : α → V) (hq : SqL K H1 a (ms.map u)) (hn : ms.length ≤ sizeLine)
    (he : ∀ x ∈ ms, Pu te (σ0.set 0 (some (u x))) H1 (f x))
    (fin : ∀ D H', H1 D = none → Same H1 H' → H' D = some (.lst (ms.map f)) → Q (.ref D) H') :
    CompRun (Itl K a) (gName 0) tTrue te σ0 H1 Q :=
  comp_of u (fun _ => true) f hq hn (fun _ _ => puT_true) (fun x hx _ => he x hx) fun D H' hD sm e => fin D H' hD sm (by rw [List.filter_eq_self.mpr (fun _ _ => rfl)] at e; exact e)
/-- over a range, pure, all taken -/
theorem comp_range {lo : Int} {n : Nat} {σ0 : St} {H1 : Hp} {te : TE} {Q : VK} (f : Nat → V) (hn : n ≤ sizeLine)
    (he : ∀ i, i < n → Pu te (σ0.set 0 (some (.int (lo + i)))) H1 (f i))
    (fin : ∀ D H', H1 D = none → Same H1 H' → H' D = some (.lst ((List.range n).map f)) → Q (.ref D) H') :
    CompRun (Itr lo n) (gName 0) tTrue te σ0 H1 Q := by
  intro D hD
  refine comp_by (n := n) (fun i ys H' => Same H1 H' ∧ H' D = some (.lst ys) ∧ ys = (List.range i).map f) ⟨Same.new hD, upd_same, by simp⟩ (fun i ys H' _ q => q.2.1) (fun i ys H' hi q => hi)
    (fun ys H' q => Nat.le_refl _) ?_ (fun ys H' q => ?_)
  · rintro i ys H' x H2 hi ⟨sm, hDl, hys⟩ ⟨rfl, rfl⟩
    unfold tTrue
    refine iteT ?_
    refine he i hi _ _ sm fun H5 s5 => ⟨s5 _ _ hDl, ?_, (sm.trans s5).upd hD, upd_same, ?_⟩
    · rw [hys, List.length_map, List.length_range]
      omega
    · rw [List.range_succ, List.map_append, ← hys]
      simp
  · obtain ⟨sm, hDl, hys⟩ := q
    exact fin D H' hD sm (by rw [← hys]; exact hDl)

/-! ### defs of the text -/
/-- a def as the top has made it -/
def DefAt (K : PySem.W.Frag) (mg : Str → Option Value) (x : Str) (st : Stmt) (ps : List Str) : Prop := ∃ f fd, Fun K x x st f fd ∧ mg x = some (.ref f) ∧ Binds K fd ps []
/-- its promise -/
def FnAt (P : Program) (w : World) (K : PySem.W.Frag) (mg : Str → Option Value) (base : Heap) (k : Nat) (x : Str) (ps : List Str) (sp : Sp) : Prop :=
  ∃ f fd, FnOk P w K mg base CX0 k f fd ps sp ∧ mg x = some (.ref f) ∧ PySem.W.keepIn K (.ref f) = true ∧ Binds K fd ps []
theorem FnAt.mono {P : Program} {w : World} {K : PySem.W.Frag} {mg : Str → Option Value} {base : Heap} {j k : Nat} {x : Str} {ps : List Str} {sp : Sp} (F : FnAt P w K mg base j x ps sp) (h : j ≤ k) : FnAt P w K mg base k x ps sp :=
  let ⟨f, fd, a, b, c, d⟩ := F
  ⟨f, fd, a.mono h, b, c, d⟩
theorem FnAt.of {P : Program} {w : World} {K : PySem.W.Frag} {mg : Str → Option Value} {base : Heap} {k : Nat} {x : Str} {st : Stmt} {N ps : List Str} {sp : Sp} (D : DefAt K mg x st ps) (S : FnScope N ps (defScope st)) (len : ∀ vs H Q E, sp vs H Q E → vs.length = ps.length)
    (hbody : ∀ (f : Addr) (cdv : Value) (A : Around) (outer : List Env) (s : Shared) (H : Hp) (vs : List V) (Q : VK) (E : XK), Room k (A.deeper (envOfC x (defScope st) s.heap.objs.size f cdv)) → sp vs H Q E →
      ∃ t, PSs (cxOf CX0 P w K mg base N x (defScope st) f cdv A outer s H E).nox (defBody st) t ∧ t { nx := fun _ H' => Q .non H', rt := Q } (start N vs) H) : FnAt P w K mg base (k + 1) x ps sp := by
  obtain ⟨f, fd, F, hm, hb⟩ := D
  exact ⟨f, fd, F.ok S len fun cdv A outer s H vs Q E hr h => hbody f cdv A outer s H vs Q E hr h, hm, F.kp, hb⟩
def tF (sp : Sp) (t : TA) : TE := fun σ H Q => t σ H fun vs H1 => sp vs H1 Q E0
section
variable {X : Cx} {k : Nat} {x : Str} {ps : List Str} {sp : Sp} {e : Expr} {es : List Expr} {t : TA} {p pos : Pos}
theorem pe_f (F : FnAt X.prog X.w X.K X.mg X.base k x ps sp) (hr : Room k X.A) (ha : PA X (e :: es) t) (hg : Gl X x := by rfl) (hdb : (x == ("__debug__" : Str)) = false := by decide)
    (he : starEach (e :: es) X.env = (false, eval e X.env) :: starEach es X.env := by rfl) (hpl : (backTo pos (starEach es X.env)).any (·.1) = false := by rfl) : PE X (.Call (.Name x p) (e :: es) [] pos) (tF sp t) := by
  obtain ⟨f, fd, F, hm, hk, hb⟩ := F
  have q := pe_call (p := p) (pos := pos) F hr hg hm hk hb .nil (pass0 (X := X)) ha hdb he hpl
  have e : tCall sp [] E0 t = tF sp t := by
    unfold tCall tF
    simp only [List.append_nil]
  rw [e] at q
  exact q
/-- a built-in function -/
theorem pe_b {id : String} {r : List V → Hp → VK → Prop} (hc : CallR X (.builtin id) r) (hm : X.mg x = none) (hv : bootBuiltins x = some (.builtin id)) (ha : PA X (e :: es) t) (hg : Gl X x := by rfl) (hn : x ≠ "__name__" := by decide) (hdb : (x == ("__debug__" : Str)) = false := by decide)
    (he : starEach (e :: es) X.env = (false, eval e X.env) :: starEach es X.env := by rfl) (hpl : (backTo pos (starEach es X.env)).any (·.1) = false := by rfl) : PE X (.Call (.Name x p) (e :: es) [] pos) (tCB r t) := pe_callB hc hg hm hv ha hn hdb he hpl
theorem pe_t {T : String} {r : List V → Hp → VK → Prop} (hc : CallR X (.type T) r) (hm : X.mg x = none) (hv : bootBuiltins x = some (.type T)) (ha : PA X (e :: es) t) (hg : Gl X x := by rfl) (hn : x ≠ "__name__" := by decide) (hdb : (x == ("__debug__" : Str)) = false := by decide)
    (he : starEach (e :: es) X.env = (false, eval e X.env) :: starEach es X.env := by rfl) (hpl : (backTo pos (starEach es X.env)).any (·.1) = false := by rfl) : PE X (.Call (.Name x p) (e :: es) [] pos) (tCB r t) := pe_callTy hc hg hm hv ha hn hdb he hpl
/-- a type as a value -/
theorem pe_ty {T : String} {pos : Pos} (hm : X.mg x = none) (hv : bootBuiltins x = some (.type T)) (hg : Gl X x := by rfl) (hn : x ≠ "__name__" := by decide) (hd : (x == ("__debug__" : Str)) = false := by decide) : PE X (.Name x pos) (tC (.ty T)) :=
  pe_bltn hg hm hv rfl hn hd
/-- a comprehension's own name -/
theorem pg_c {N' : List Str} {scope : Scope} {cl : List (Str × Addr)} {C : Addr} {s2 : Shared} {H2 : Hp} {ex : List Addr} (i : Nat) {y : Str} (nd : N'.Nodup) (hi : N'[i]? = some y := by rfl) (hx : (relabel scope X.env).names.lookup y = some .local := by rfl) :
    PG (X.comp N' scope cl C s2 H2 ex) (.Name y pos) (gName i) := pg_name (X := X.comp N' scope cl C s2 H2 ex) nd hi (.inl hx) (.inr hx)
end
/-! the same rules with the written part named: within a comprehension's block -/
section
variable {X : Cx}
theorem ixL (K : PySem.W.Frag) (hK : X.K = K := by rfl) : IxR X (rIxL K) := by subst hK; exact ix_list
theorem ixT (K : PySem.W.Frag) (hK : X.K = K := by rfl) : IxR X (rIxT K) := by subst hK; exact ix_tup
theorem lenK (K : PySem.W.Frag) (hK : X.K = K := by rfl) : CallR X (.builtin "len") (fun xs H Q => ∃ p ys, xs = [.ref p] ∧ (SqL K H p ys ∨ SqT K H p ys) ∧ Q (.int ys.length) H) := by subst hK; exact call_len_seq
theorem isiK (K : PySem.W.Frag) (hK : X.K = K := by rfl) : CallR X (.builtin "isinstance") (fun xs H Q => ∃ x T t b, xs = [x, .ty T] ∧ TyOf K H x t ∧ PySem.W.kitOne K t (.type T) = some b ∧ Q (.bl b) H) := by subst hK; exact call_isinst
theorem listK (K : PySem.W.Frag) (hK : X.K = K := by rfl) : CallR X (.type "list") (fun xs H Q => ∃ p ys, xs = [.ref p] ∧ (SqL K H p ys ∨ SqT K H p ys) ∧ ∀ l, H l = none → Q (.ref l) (upd H l (.lst ys))) := by subst hK; exact call_list_of
end
theorem kit_ii (K : PySem.W.Frag) : PySem.W.kitOne K (.type "int") (.type "int") = some true := by kernel_rfl
theorem kit_ib (K : PySem.W.Frag) : PySem.W.kitOne K (.type "int") (.type "bool") = some false := by kernel_rfl
theorem kit_bi (K : PySem.W.Frag) : PySem.W.kitOne K (.type "bool") (.type "int") = some true := by kernel_rfl
theorem kit_bb (K : PySem.W.Frag) : PySem.W.kitOne K (.type "bool") (.type "bool") = some true := by kernel_rfl
theorem kit_ll (K : PySem.W.Frag) : PySem.W.kitOne K (.type "list") (.type "list") = some true := by kernel_rfl
theorem kit_tt (K : PySem.W.Frag) : PySem.W.kitOne K (.type "tuple") (.type "tuple") = some true := by kernel_rfl
end L2
set_option Elab.async false
set_option linter.all false
set_option maxRecDepth 100000
set_option maxHeartbeats 4000000
namespace L2
open PySem PySem.Spec PyProof.Rows
section
variable {X : Cx}
/-! the int operations, their readings written out -/
def rAddI : R2 := fun x y H Q => ∃ i j : Int, x = .int i ∧ y = .int j ∧ Q (.int (i + j)) H
def rSubI : R2 := fun x y H Q => ∃ i j : Int, x = .int i ∧ y = .int j ∧ Q (.int (i - j)) H
def rMulI : R2 := fun x y H Q => ∃ i j : Int, x = .int i ∧ y = .int j ∧ CMul i j ∧ Q (.int (i * j)) H
def rModI : R2 := fun x y H Q => ∃ i j : Int, x = .int i ∧ y = .int j ∧ 0 < j ∧ Q (.int (i % j)) H
def rDivI : R2 := fun x y H Q => ∃ i j : Int, x = .int i ∧ y = .int j ∧ CDiv i j ∧ Q (.int (i / j)) H
def rPowI : R2 := fun x y H Q => ∃ i j : Int, x = .int i ∧ y = .int j ∧ CPow i j ∧ Q (.int (i ^ j.toNat)) H
def rLtI : R2 := fun x y H Q => ∃ i j : Int, x = .int i ∧ y = .int j ∧ Q (.bl (decide (i < j))) H
def rLeI : R2 := fun x y H Q => ∃ i j : Int, x = .int i ∧ y = .int j ∧ Q (.bl (decide (i ≤ j))) H
def rGtI : R2 := fun x y H Q => ∃ i j : Int, x = .int i ∧ y = .int j ∧ Q (.bl (decide (j < i))) H
def rGeI : R2 := fun x y H Q => ∃ i j : Int, x = .int i ∧ y = .int j ∧ Q (.bl (decide (j ≤ i))) H
def rNegI : V → Hp → VK → Prop := fun x H Q => ∃ i : Int, x = .int i ∧ Q (.int (-i)) H
theorem o_add : OpR X (binaryOp .Add) rAddI := op_add
theorem o_sub : OpR X (binaryOp .Sub) rSubI := op_sub
theorem o_mul : OpR X (binaryOp .Mult) rMulI := op_mul
theorem o_mod : OpR X (binaryOp .Mod) rModI := op_mod
theorem o_div : OpR X (binaryOp .FloorDiv) rDivI := op_fdiv
theorem o_pow : OpR X (binaryOp .Pow) rPowI := op_pow
theorem o_lt : OpR X (compareOp .Lt) rLtI := op_lt
theorem o_le : OpR X (compareOp .LtE) rLeI := op_le
theorem o_gt : OpR X (compareOp .Gt) rGtI := op_gt
theorem o_ge : OpR X (compareOp .GtE) rGeI := op_ge
theorem o_neg : UnR X (unaryOp .USub) rNegI := un_neg
end
end L2
set_option Elab.async false
set_option linter.all false
set_option maxRecDepth 100000
set_option maxHeartbeats 4000000
namespace L2
open PySem PySem.Spec PyProof.Rows

/-! ### records of one's own turned, nothing else -/
theorem Inv.turnedL {X : Cx} {pins : List (Addr × Obj)} {σ : St} {H : Hp} {s : Shared} {h' : Heap} {t' : Nat} {fp : List Addr} (I : Inv X pins σ H s) (hf : ∀ b ∈ fp, FpOk X pins H b)
    (k : ∀ b o, b ∉ fp → s.heap.get? b = some o → h'.get? b = some o) : Inv X pins σ H { s with heap := h', toks := t' } := by
  have nfp : ∀ b o, H b = some o → b ∉ fp := fun b o q hb => by have := (hf b hb).1; rw [q] at this; cases this
  refine I.step (g' := s.gens) (d' := s.drawn) (ch := fp) (fun b hb => ?_) (fun b o _ _ hc q _ => k b o hc q) (fun b o _ _ hc q _ => ⟨o.slots, k b o hc q⟩) (fun b o _ _ n => n)
    (fun b o hc q => ⟨o, k b o hc q⟩) (fun b ys q => q) (fun b o u q => q) (fun b ps q => ⟨#[], by rw [q]; simp⟩) (fun m hm => ?_) (fun b u q => ?_) I.bare
  · obtain ⟨_, f1, _, f3, f4, f5⟩ := hf b hb
    exact ⟨f3, f1, f4, f5⟩
  · obtain ⟨o, es, ep, ho, r⟩ := hm
    exact ⟨o, es, ep, k _ o (fun z => (hf _ z).2.1 rfl) ho, r⟩
  · refine (I.hok b u q).stay (fun c v hc w => k c v ?_ w) (fun c w => w) fun c ys w => w
    rcases hc with rfl | hc
    · exact nfp _ _ q
    · exact nfp _ _ hc
/-- a list that is read is no record of a walk's own -/
theorem Inv.sq_ne {X : Cx} {pins : List (Addr × Obj)} {σ : St} {H : Hp} {s : Shared} {a b : Addr} {xs : List V} (I : Inv X pins σ H s) (h : SqL X.K H a xs) (f : FpOk X pins H b) : a ≠ b := by
  rintro rfl
  rcases h with (h | ⟨o, h⟩) | ⟨o, its, n, hk, _⟩
  · rw [f.1] at h
    cases h
  · rw [f.1] at h
    cases h
  · have hb : X.base.get? a = some o := I.ok.mod.kin a o hk
    rcases f.2.2.2.1 with z | z
    · exact I.ok.noex a o hb z
    · exact absurd (Nat.lt_of_lt_of_le (Heap.lt_size (I.ok.bs a o hb).1) z) (Nat.lt_irrefl _)

/-! ### zip(list, list) -/
def Itz (K : PySem.W.Frag) (a c : Addr) : It :=
  ⟨fun i H => ∃ xs ys x y, SqL K H a xs ∧ SqL K H c ys ∧ xs[i]? = some x ∧ ys[i]? = some y,
    fun i H v H' => ∃ T x y, v = .ref T ∧ H T = none ∧ H' = upd H T (.tup [x, y]) ∧ (∀ xs, SqL K H a xs → xs[i]? = some x) ∧ ∀ ys, SqL K H c ys → ys[i]? = some y,
    fun i H => ∃ xs ys, SqL K H a xs ∧ SqL K H c ys ∧ (xs.length ≤ i ∨ ys.length ≤ i)⟩
structure ZipAt (h : Heap) (z TI TO i1 i2 l1 l2 : Addr) (i : Nat) : Prop where
  hz : IsZip h z TI TO .none
  hTI : IsPair h TI (.ref i1) (.ref i2)
  hTO : ∃ a b, IsPair h TO a b
  h1 : h.IsListIter i1 l1 i
  h2 : h.IsListIter i2 l2 i
  nd : [z, TI, TO, i1, i2].Nodup
theorem turn_zip {P : Program} {w : World} {K : PySem.W.Frag} {es : List Expr} {k1} {ps : Pos} (a c z TI TO i1 i2 : Addr) : Turn P w K (.Tuple es k1 ps) (Itz K a c) [z, TI, TO, i1, i2] z (fun i h => ZipAt h z TI TO i1 i2 a c i) where
  mem := by simp
  obj := fun i h st b hb => by
    simp only [List.mem_cons, List.not_mem_nil, or_false] at hb
    rcases hb with rfl | rfl | rfl | rfl | rfl
    · exact ⟨_, st.hz, fun v q => by have q' : Data.fields _ = Data.cell v := q; cases q'⟩
    · exact ⟨_, st.hTI, fun v q => by have q' : Data.seq _ _ = Data.cell v := q; cases q'⟩
    · obtain ⟨x, y, e⟩ := st.hTO
      exact ⟨_, e, fun v q => by have q' : Data.seq _ _ = Data.cell v := q; cases q'⟩
    · obtain ⟨o, e, _, d⟩ := st.h1
      exact ⟨o, e, fun v q => by rw [d] at q; cases q⟩
    · obtain ⟨o, e, _, d⟩ := st.h2
      exact ⟨o, e, fun v q => by rw [d] at q; cases q⟩
  keep := fun i h h' st k => ⟨k z (by simp) _ st.hz, k TI (by simp) _ st.hTI, let ⟨x, y, e⟩ := st.hTO; ⟨x, y, k TO (by simp) _ e⟩, st.h1.at fun o q => k i1 (by simp) o q, st.h2.at fun o q => k i2 (by simp) o q, st.nd⟩
  item := by
    intro X hP hw hK hc i pins s σ H E I hf st hg
    subst hP hw hK
    obtain ⟨xs, ys, x, y, hq, hq2, hx, hy⟩ := hg
    obtain ⟨its, rv, p, _⟩ := I.list hq
    obtain ⟨its2, rv2, p2, _⟩ := I.list hq2
    obtain ⟨u, hu, ru⟩ := rv.get hx
    obtain ⟨u2, hu2, ru2⟩ := rv2.get hy
    obtain ⟨ta, tb, hTO⟩ := st.hTO
    have nd := st.nd
    simp only [List.nodup_cons, List.mem_cons, List.not_mem_nil, or_false, not_or, List.nodup_nil, and_true, not_false_eq_true] at nd
    obtain ⟨⟨n1, n2, n3, n4⟩, ⟨n5, n6, n7⟩, ⟨n8, n9⟩, n10⟩ := nd
    have Dz : ZipApart z TI TO i1 i2 a c := ⟨Ne.symm n1, Ne.symm n2, Ne.symm n3, Ne.symm n4, n5, n6, n7, n8, n9, n10, I.sq_ne hq (hf z (by simp)), I.sq_ne hq (hf TO (by simp)), I.sq_ne hq (hf i1 (by simp)), I.sq_ne hq (hf i2 (by simp)),
      I.sq_ne hq2 (hf z (by simp)), I.sq_ne hq2 (hf TO (by simp)), I.sq_ne hq2 (hf i1 (by simp)), I.sq_ne hq2 (hf i2 (by simp))⟩
    refine wpAny_pyNext_zip_item Dz st.hz st.hTI hTO st.h1 st.h2 p.isList p2.isList (x := u) (y := u2) (by simpa using hu) (by simpa using hu2) fun h' z1 z2 z3 z4 z5 z6 z7 => ?_
    refine ⟨_, rfl, wpAny_letOwnedTupleGo_zip z1 fun h2 hz2 hs2 => ?_⟩
    have hs2' : Heap.SameBut z h' h2 := hs2
    have zlt : z ≠ s.heap.objs.size := Nat.ne_of_lt (Heap.lt_size st.hz)
    have fresh : ∀ b ∈ [z, TI, TO, i1, i2], b ≠ s.heap.objs.size := fun b hb => by
      simp only [List.mem_cons, List.not_mem_nil, or_false] at hb
      rcases hb with rfl | rfl | rfl | rfl | rfl
      · exact zlt
      · exact Nat.ne_of_lt (Heap.lt_size st.hTI)
      · exact Nat.ne_of_lt (Heap.lt_size hTO)
      · obtain ⟨o, e, _⟩ := st.h1; exact Nat.ne_of_lt (Heap.lt_size e)
      · obtain ⟨o, e, _⟩ := st.h2; exact Nat.ne_of_lt (Heap.lt_size e)
    have hT2 : IsPair h2 s.heap.objs.size u u2 := (hs2'.2 _ (Ne.symm zlt)).trans z5
    have st2 : ZipAt h2 z TI TO i1 i2 a c (i + 1) := ⟨hz2, (hs2'.2 TI (Ne.symm n1)).trans (z7 TI _ (Ne.symm n1) n5 n6 n7 st.hTI), ⟨_, _, (hs2'.2 TO (Ne.symm n2)).trans z2⟩, z3.at fun o q => (hs2'.2 i1 (Ne.symm n3)).trans q, z4.at fun o q => (hs2'.2 i2 (Ne.symm n4)).trans q, st.nd⟩
    have hfr : H s.heap.objs.size = none := I.hok.fresh (Nat.le_refl _)
    have I2 : Inv X pins σ (upd H s.heap.objs.size (.tup [x, y])) { s with heap := h2, toks := s.toks } := by
      refine I.tupNew (its := [u, u2]) hf (Nat.le_refl _) (fun b o hb q => ?_) (by show 2 ≤ sizeLine; decide) (.cons ru (.cons ru2 .nil)) hT2 (fun b hb => ?_)
      · simp only [List.mem_cons, List.not_mem_nil, or_false, not_or] at hb
        exact (hs2'.2 b hb.1).trans (z7 b o hb.1 hb.2.2.1 hb.2.2.2.1 hb.2.2.2.2 q)
      · simp only [List.mem_cons, List.not_mem_nil, or_false] at hb
        rcases hb with rfl | rfl | rfl | rfl | rfl
        · exact ⟨_, st2.hz⟩
        · exact ⟨_, st2.hTI⟩
        · obtain ⟨_, _, e⟩ := st2.hTO; exact ⟨_, e⟩
        · obtain ⟨o, e, _⟩ := st2.h1; exact ⟨_, e⟩
        · obtain ⟨o, e, _⟩ := st2.h2; exact ⟨_, e⟩
    refine ⟨.ref s.heap.objs.size, _, I2, rfl, ⟨_, x, y, rfl, hfr, rfl, fun zs hz => by rw [I.list_inj hz hq]; exact hx, fun zs hz => by rw [I.list_inj hz hq2]; exact hy⟩, st2, fun b hb => ?_⟩
    rw [upd_ne (fresh b hb)]
    exact (hf b hb).1
  done := by
    intro X hP hw hK hc i pins s σ H E I hf st hg
    subst hP hw hK
    obtain ⟨xs, ys, hq, hq2, hend⟩ := hg
    obtain ⟨its, rv, p, _⟩ := I.list hq
    obtain ⟨its2, rv2, p2, _⟩ := I.list hq2
    obtain ⟨ta, tb, hTO⟩ := st.hTO
    have nd := st.nd
    simp only [List.nodup_cons, List.mem_cons, List.not_mem_nil, or_false, not_or, List.nodup_nil, and_true, not_false_eq_true] at nd
    obtain ⟨⟨n1, n2, n3, n4⟩, ⟨n5, n6, n7⟩, ⟨n8, n9⟩, n10⟩ := nd
    have Dz : ZipApart z TI TO i1 i2 a c := ⟨Ne.symm n1, Ne.symm n2, Ne.symm n3, Ne.symm n4, n5, n6, n7, n8, n9, n10, I.sq_ne hq (hf z (by simp)), I.sq_ne hq (hf TO (by simp)), I.sq_ne hq (hf i1 (by simp)), I.sq_ne hq (hf i2 (by simp)),
      I.sq_ne hq2 (hf z (by simp)), I.sq_ne hq2 (hf TO (by simp)), I.sq_ne hq2 (hf i1 (by simp)), I.sq_ne hq2 (hf i2 (by simp))⟩
    have l1 := rv.length
    have l2 := rv2.length
    refine wpAny_pyNext_zip_end (I.ok.hd hc) Dz st.hz st.hTI hTO st.h1 st.h2 p.isList p2.isList (hend.elim (fun q => .inl (by simp; omega)) fun q => .inr (by simp; omega)) fun h' k => ⟨rfl, I.turnedL (t' := s.toks) hf fun b o hb q => ?_⟩
    simp only [List.mem_cons, List.not_mem_nil, or_false, not_or] at hb
    exact k b o hb.1 hb.2.2.1 hb.2.2.2.1 hb.2.2.2.2 q
  self := fun _ _ _ _ _ st h => wpAny_pyIter_zip st.hz h
def iZip (K : PySem.W.Frag) (ta : TA) : TI := fun σ H R => ta σ H fun vs H1 => ∃ a c, vs = [.ref a, .ref c] ∧ (∃ xs, SqL K H1 a xs) ∧ (∃ ys, SqL K H1 c ys) ∧ R (Itz K a c) H1
theorem pi_zip {X : Cx} {a b : Expr} {ta : TA} {es : List Expr} {k1} {ps p pos : Pos} (hg : Gl X "zip") (hm : X.mg "zip" = none) (ha : PA X [a, b] ta) (hs : starEach [a, b] X.env = [(false, eval a X.env), (false, eval b X.env)] := by rfl) (hs2 : starEach [b] X.env = [(false, eval b X.env)] := by rfl) :
    PI X (.Tuple es k1 ps) (.Call (.Name "zip" p) [a, b] [] pos) (iZip X.K ta) := by
  intro pins s σ H R I h
  refine Call_ (ld_blt I hg hm boot_zip (PyProof.Rows.callWith_type1 (thn (ha pos pins s σ H _ I h) fun us s1 ⟨vs, H1, I1, r1, q1⟩ => ?_) (by rw [hs, hs2]) (by rw [hs2]; rfl)))
  obtain ⟨a, c, e, ⟨xs, hq⟩, ⟨ys, hq2⟩, q⟩ := q1
  subst e
  obtain ⟨u, v, rfl, ru, rv⟩ := r1.two
  cases ru
  cases rv
  obtain ⟨its, _, pl, _⟩ := I1.list hq
  obtain ⟨its2, _, pl2, _⟩ := I1.list hq2
  refine call_zip_2 pl.isList pl2.isList fun h' z1 z2 z3 z4 z5 z6 z7 => wpAny_pyIter_zip z1 ?_
  have I2 : Inv X pins σ H1 { s1 with heap := h' } := I1.kept (t' := s1.toks) z7
  refine ⟨s1.heap.objs.size + 4, [s1.heap.objs.size + 4, s1.heap.objs.size + 2, s1.heap.objs.size + 3, s1.heap.objs.size, s1.heap.objs.size + 1], _, _, H1, rfl, I2, turn_zip a c _ _ _ _ _, ⟨z1, z2, ⟨_, _, z3⟩, z4, z5, ?_⟩, fun b hb => ?_, q⟩
  · generalize s1.heap.objs.size = n
    show List.Nodup ([n + 4, n + 2, n + 3, n, n + 1] : List Nat)
    simp
  · have hb' : s1.heap.objs.size ≤ b := by
      simp only [List.mem_cons, List.not_mem_nil, or_false] at hb
      rcases hb with rfl | rfl | rfl | rfl | rfl
      · exact Nat.le_add_right _ _
      · exact Nat.le_add_right _ _
      · exact Nat.le_add_right _ _
      · exact Nat.le_refl _
      · exact Nat.le_add_right _ _
    exact I1.fpOk hb' (I1.hok.fresh hb')
/-- a loop over zip(list, list) of one length, both left as they are -/
theorem for_zip {K : PySem.W.Frag} {a c : Addr} {xs ys : List V} {g : TG} {tb : TS} {D : Ends} {σ : St} {H : Hp} (hlen : xs.length = ys.length) (Pv : Nat → St → Hp → Prop) (h0 : Pv 0 σ H) (hl : ∀ i σ H, i ≤ xs.length → Pv i σ H → SqL K H a xs ∧ SqL K H c ys)
    (hs : ∀ i x y σ H T, xs[i]? = some x → ys[i]? = some y → Pv i σ H → H T = none → g (.ref T) σ (upd H T (.tup [x, y])) fun σ2 H2 => tb { D with nx := Pv (i + 1), ct := Pv (i + 1), bk := D.nx } σ2 H2) (hd : ∀ σ H, Pv xs.length σ H → D.nx σ H) :
    ∃ W : Nat → Nat → St → Hp → Prop, (∃ m, W 0 m σ H) ∧ ∀ i m σ H, W i m σ H →
      ((Itz K a c).stop i H ∧ D.nx σ H) ∨ ((Itz K a c).go i H ∧ ∃ N : St → Hp → Prop, (∀ σ' H', N σ' H' → ∃ m', m' < m ∧ W (i + 1) m' σ' H') ∧ ∀ x H', (Itz K a c).yld i H x H' → g x σ H' fun σ2 H2 => tb { D with nx := N, ct := N, bk := D.nx } σ2 H2) := by
  refine ⟨fun i m σ H => m = xs.length - i ∧ i ≤ xs.length ∧ Pv i σ H, ⟨xs.length, by simp, Nat.zero_le _, h0⟩, ?_⟩
  rintro i m σ H ⟨rfl, hi, p⟩
  obtain ⟨q, q2⟩ := hl i σ H hi p
  by_cases hlt : i < xs.length
  · refine .inr ⟨⟨xs, ys, xs[i], ys[i]'(by omega), q, q2, by simp [hlt], by simp⟩, Pv (i + 1), fun σ' H' p' => ⟨xs.length - (i + 1), by omega, rfl, hlt, p'⟩, fun x H' y => ?_⟩
    obtain ⟨T, z, z2, rfl, hT, rfl, y, y2⟩ := y
    exact hs i z z2 σ _ T (y xs q) (y2 ys q2) p hT
  · have e : i = xs.length := by omega
    subst e
    exact .inl ⟨⟨xs, ys, q, q2, .inl (Nat.le_refl _)⟩, hd σ H p⟩

/-! ### a comprehension over enumerate(list), two names -/
theorem set2 {σ : St} {a b u v : Option V} : ((((σ.set 0 a).set 1 b).set 0 u).set 1 v) = (σ.set 0 u).set 1 v := by
  rw [List.set_comm b u (by decide : (1 : Nat) ≠ 0), List.set_set, List.set_set]
theorem compE_by {K : PySem.W.Frag} {a : Addr} {xs : List V} {σ0 : St} {H1 : Hp} {D : Addr} {tc : TT} {te : TE} {Q : VK} (Pv : Nat → List V → Hp → Prop) (h0 : Pv 0 [] (upd H1 D (.lst [])))
    (hl : ∀ i ys H', i ≤ xs.length → Pv i ys H' → H' D = some (.lst ys) ∧ SqL K H' a xs)
    (step : ∀ i x ys H' T, xs[i]? = some x → Pv i ys H' → H' T = none → tc ((σ0.set 0 (some (.int (i : Nat)))).set 1 (some x)) (upd H' T (.tup [.int (i : Nat), x])) fun b H4 =>
      if b = true then te ((σ0.set 0 (some (.int (i : Nat)))).set 1 (some x)) H4 fun y H5 => H5 D = some (.lst ys) ∧ ys.length < sizeLine ∧ Pv (i + 1) (ys ++ [y]) (upd H5 D (.lst (ys ++ [y]))) else Pv (i + 1) ys H4)
    (fin : ∀ ys H', Pv xs.length ys H' → Q (.ref D) H') :
    ∃ W : Nat → Nat → List V → St → Hp → Prop, (∃ m, W 0 m [] σ0 (upd H1 D (.lst []))) ∧
      ∀ i m ys σ' H', W i m ys σ' H' → H' D = some (.lst ys) ∧ (((Ite K a).stop i H' ∧ Q (.ref D) H') ∨ ((Ite K a).go i H' ∧ ∀ x H2, (Ite K a).yld i H' x H2 → gTup K 2 (gCons (gName 0) (gCons (gName 1) gNil)) x σ' H2 fun σ2 H3 => tc σ2 H3 fun b H4 =>
        if b = true then te σ2 H4 fun y H5 => H5 D = some (.lst ys) ∧ ys.length < sizeLine ∧ ∃ m', m' < m ∧ W (i + 1) m' (ys ++ [y]) σ2 (upd H5 D (.lst (ys ++ [y])))
        else ∃ m', m' < m ∧ W (i + 1) m' ys σ2 H4)) := by
  refine ⟨fun i m ys σ' H' => m = xs.length - i ∧ i ≤ xs.length ∧ (∀ u v, (σ'.set 0 u).set 1 v = (σ0.set 0 u).set 1 v) ∧ Pv i ys H', ⟨xs.length, by simp, Nat.zero_le _, fun _ _ => rfl, h0⟩, ?_⟩
  rintro i m ys σ' H' ⟨rfl, hi, es, p⟩
  obtain ⟨hD, hq⟩ := hl i ys H' hi p
  refine ⟨hD, ?_⟩
  by_cases hlt : i < xs.length
  · refine .inr ⟨⟨xs, xs[i], hq, by simp [hlt]⟩, fun x H2 y => ?_⟩
    obtain ⟨T, z, rfl, hT, rfl, y⟩ := y
    have st := step i z ys H' T (y xs hq) p hT
    refine ⟨T, _, rfl, SqT.of upd_same, rfl, _, _, rfl, _, _, rfl, rfl, ?_⟩
    rw [es]
    have e2 : ∀ ys' H5, (∃ m', m' < xs.length - i ∧ m' = xs.length - (i + 1) ∧ i + 1 ≤ xs.length ∧ (∀ u v, ((((σ0.set 0 (some (.int (i : Nat)))).set 1 (some z)).set 0 u).set 1 v) = (σ0.set 0 u).set 1 v) ∧ Pv (i + 1) ys' H5) ↔ Pv (i + 1) ys' H5 := fun ys' H5 =>
      ⟨fun ⟨_, _, _, _, _, q⟩ => q, fun q => ⟨xs.length - (i + 1), by omega, rfl, hlt, fun _ _ => set2, q⟩⟩
    simp only [e2]
    exact st
  · have e : i = xs.length := by omega
    subst e
    exact .inl ⟨⟨xs, hq, Nat.le_refl _⟩, fin ys H' p⟩
theorem compE_run {K : PySem.W.Frag} {a : Addr} {xs : List V} {σ0 : St} {H1 : Hp} {tc : TT} {te : TE} {Q : VK} (Pv : Addr → Nat → List V → Hp → Prop) (h0 : ∀ D, H1 D = none → Pv D 0 [] (upd H1 D (.lst [])))
    (hl : ∀ D i ys H', H1 D = none → i ≤ xs.length → Pv D i ys H' → H' D = some (.lst ys) ∧ SqL K H' a xs)
    (step : ∀ D i x ys H' T, H1 D = none → xs[i]? = some x → Pv D i ys H' → H' T = none → tc ((σ0.set 0 (some (.int (i : Nat)))).set 1 (some x)) (upd H' T (.tup [.int (i : Nat), x])) fun b H4 =>
      if b = true then te ((σ0.set 0 (some (.int (i : Nat)))).set 1 (some x)) H4 fun y H5 => H5 D = some (.lst ys) ∧ ys.length < sizeLine ∧ Pv D (i + 1) (ys ++ [y]) (upd H5 D (.lst (ys ++ [y]))) else Pv D (i + 1) ys H4)
    (fin : ∀ D ys H', H1 D = none → Pv D xs.length ys H' → Q (.ref D) H') : CompRun (Ite K a) (gTup K 2 (gCons (gName 0) (gCons (gName 1) gNil))) tc te σ0 H1 Q :=
  fun D hD => compE_by (Pv D) (h0 D hD) (fun i ys H' hi p => hl D i ys H' hD hi p) (fun i x ys H' T hx p hT => step D i x ys H' T hD hx p hT) fun ys H' p => fin D ys H' hD p
/-- a, b as a block's own names -/
theorem pg_c2 {X : Cx} {N' : List Str} {scope : Scope} {cl : List (Str × Addr)} {C : Addr} {s2 : Shared} {H2 : Hp} {ex : List Addr} {y z : Str} {p1 p2 pos : Pos} {k : Nat} (K : PySem.W.Frag) (hc : X.calm = true) (nd : N'.Nodup) (h0 : N'[0]? = some y := by rfl) (h1 : N'[1]? = some z := by rfl)
    (hy : (relabel scope X.env).names.lookup y = some .local := by rfl) (hz : (relabel scope X.env).names.lookup z = some .local := by rfl) (hK : X.K = K := by rfl) :
    PG (X.comp N' scope cl C s2 H2 ex) (.Tuple [.Name y p1, .Name z p2] k pos) (gTup K 2 (gCons (gName 0) (gCons (gName 1) gNil))) := by
  subst hK
  exact pg_tup (X := X.comp N' scope cl C s2 H2 ex) hc (pgs_cons (pg_name (X := X.comp N' scope cl C s2 H2 ex) nd h0 (.inl hy) (.inr hy)) (pgs_cons (pg_name (X := X.comp N' scope cl C s2 H2 ex) nd h1 (.inl hz) (.inr hz)) pgs_nil))
theorem inK {X : Cx} (K : PySem.W.Frag) (hK : X.K = K := by rfl) : OpR X (compareOp .In) (rIn K false) := by subst hK; exact op_in_seq
end L2
set_option Elab.async false
set_option linter.all false
set_option maxRecDepth 100000
set_option maxHeartbeats 4000000
namespace L2
open PySem PySem.Spec PyProof.Rows
/-- max of a list of ints -/
theorem call_maxL {X : Cx} (hc : X.calm = true) : CallR X (.builtin "max") (fun xs H Q => ∃ (p : Addr) (ns : List Int), xs = [.ref p] ∧ SqL X.K H p (ns.map V.int) ∧ 0 < ns.length ∧ ∀ M, M ∈ ns → (∀ a ∈ ns, a ≤ M) → Q (.int M) H) := by
  intro pins s σ H xs us Q I rv h
  obtain ⟨p, ns, rfl, hq, hne, q⟩ := h
  obtain ⟨u, rfl, ru⟩ := rv.one
  cases ru
  obtain ⟨its, r, pl, _⟩ := I.list hq
  have hi := ints_of r
  obtain ⟨ys, e⟩ := hi.allInts.items
  have hl := pl.isList
  have en : ns = ys.toList.map (·.1) := by
    have e1 := hi.numsOf
    have e2 := nums_intItems ys
    rw [← e] at e2
    exact e1.symm.trans e2
  have lz : ys.size = ns.length := by rw [en]; simp
  rw [e] at hl
  refine max_intList (I.ok.hd hc) hl (by omega) fun v h' tk hv hk => ?_
  obtain ⟨t, rfl⟩ := intItems_at hv
  obtain ⟨b1, b2⟩ := argBest_gt (numAt ys) (ys.size - 1)
  refine ⟨.int _, H, I.kept hk, ⟨_, rfl⟩, q _ ?_ fun a ha => ?_⟩
  · rw [en, numAt_eq]
    exact getD_mem (by rw [List.length_map, Array.length_toList]; omega)
  · rw [en] at ha
    obtain ⟨j, hj, rfl⟩ := mem_getD ha
    rw [List.length_map, Array.length_toList] at hj
    have := b2 j (by omega)
    rw [numAt_eq ys j] at this
    exact this
end L2
namespace L2
open PySem PySem.Spec PyProof.Rows
/-- a comprehension over a tuple, pure, all taken -/
theorem comp_tup {α : Type} {K : PySem.W.Frag} {a : Addr} {σ0 : St} {H1 : Hp} {te : TE} {Q : VK} (u : α → V) {ms : List α} (f : α → V) (hq : SqT K H1 a (ms.map u)) (hn : ms.length ≤ sizeLine)
    (he : ∀ x ∈ ms, Pu te (σ0.set 0 (some (u x))) H1 (f x))
    (fin : ∀ D H', H1 D = none → Same H1 H' → H' D = some (.lst (ms.map f)) → Q (.ref D) H') :
    CompRun (Itt K a) (gName 0) tTrue te σ0 H1 Q := by
  intro D hD
  refine comp_by (n := ms.length) (fun i ys H' => Same H1 H' ∧ H' D = some (.lst ys) ∧ ys = (ms.take i).map f) ⟨Same.new hD, upd_same, by simp⟩ (fun i ys H' _ q => q.2.1) (fun i ys H' hi q => ⟨ms.map u, u ms[i], q.1.tup hq, by simp [hi]⟩)
    (fun ys H' q => ⟨ms.map u, q.1.tup hq, by simp⟩) ?_ (fun ys H' q => ?_)
  · rintro i ys H' x H2 hi ⟨sm, hDl, hys⟩ ⟨rfl, hy⟩
    have hx := hy _ (sm.tup hq)
    rw [List.getElem?_map, List.getElem?_eq_getElem hi] at hx
    have hx : u ms[i] = x := Option.some.inj hx
    subst hx
    unfold tTrue
    refine iteT ?_
    refine he ms[i] (List.getElem_mem hi) _ _ sm fun H5 s5 => ⟨s5 _ _ hDl, ?_, (sm.trans s5).upd hD, upd_same, ?_⟩
    · rw [hys, List.length_map, List.length_take]
      omega
    · rw [List.take_add_one, List.getElem?_eq_getElem hi, List.map_append, ← hys]
      rfl
  · obtain ⟨sm, hDl, hys⟩ := q
    rw [List.take_length] at hys
    exact fin D H' hD sm (by rw [← hys]; exact hDl)
end L2
set_option Elab.async false
set_option linter.all false
set_option maxRecDepth 100000
set_option maxHeartbeats 4000000
namespace L2
open PySem PySem.Spec PyProof.Rows
/-- a comprehension whose items are new objects, all taken -/
theorem comp_objs {α : Type} {J : It} {ms : List α} {σ0 : St} {H1 : Hp} {te : TE} {Q : VK} (u : α → V) (o : α → HO) (hn : ms.length ≤ 1000)
    (hgo : ∀ i H', i < ms.length → Same H1 H' → J.go i H') (hst : ∀ H', Same H1 H' → J.stop ms.length H') (hy : ∀ i H' x H2 (h : i < ms.length), Same H1 H' → J.yld i H' x H2 → H2 = H' ∧ x = u ms[i])
    (he : ∀ x ∈ ms, ∀ (H' : Hp) (Q' : VK), Same H1 H' → (∀ l H'', H' l = none → Same H' H'' → H'' l = some (o x) → Q' (.ref l) H'') → te (σ0.set 0 (some (u x))) H' Q')
    (fin : ∀ (D : Addr) (qs : List (Addr × α)) (H' : Hp), H1 D = none → qs.map (·.2) = ms → (qs.map (·.1)).Nodup → (∀ q ∈ qs, H' q.1 = some (o q.2) ∧ H1 q.1 = none ∧ q.1 ≠ D) → Same H1 H' → H' D = some (.lst (qs.map fun q => V.ref q.1)) → Q (.ref D) H') :
    CompRun J (gName 0) tTrue te σ0 H1 Q := by
  intro D hD
  refine comp_by (n := ms.length) (fun i ys H' => ∃ qs : List (Addr × α), Same H1 H' ∧ H' D = some (.lst ys) ∧ ys = (qs.map fun q => V.ref q.1) ∧ qs.map (·.2) = ms.take i ∧ (qs.map (·.1)).Nodup ∧ ∀ q ∈ qs, H' q.1 = some (o q.2) ∧ H1 q.1 = none ∧ q.1 ≠ D)
    ⟨[], Same.new hD, upd_same, rfl, by simp, List.nodup_nil, fun q hq => nomatch hq⟩ (fun i ys H' _ ⟨_, _, e, _⟩ => e) (fun i ys H' hi ⟨_, sm, _⟩ => hgo i H' hi sm) (fun ys H' ⟨_, sm, _⟩ => hst H' sm) ?_ (fun ys H' h => ?_)
  · rintro i ys H' x H2 hi ⟨qs, sm, hDl, hys, hqm, hnd, hq⟩ y
    obtain ⟨rfl, rfl⟩ := hy i H' x H2 hi sm y
    unfold tTrue
    refine iteT (he ms[i] (List.getElem_mem hi) _ _ sm fun l H5 hl s5 el => ?_)
    have nlD : D ≠ l := ne_of_none hDl hl
    have ql : qs.length = i := by
      have := congrArg List.length hqm
      rw [List.length_map, List.length_take] at this
      omega
    refine ⟨s5 _ _ hDl, ?_, qs ++ [(l, ms[i])], (sm.trans s5).upd hD, upd_same, ?_, ?_, ?_, ?_⟩
    · rw [hys, List.length_map, ql]
      exact small1000 (by omega)
    · rw [hys, List.map_append]
      rfl
    · rw [List.map_append, hqm, List.take_add_one, List.getElem?_eq_getElem hi]
      rfl
    · rw [List.map_append, List.nodup_append]
      refine ⟨hnd, by simp, fun a ha b hb e => ?_⟩
      obtain ⟨q, hq1, rfl⟩ := List.mem_map.mp ha
      have hb : b = l := by simpa using hb
      subst hb
      have := (hq q hq1).1
      rw [e, hl] at this
      cases this
    · intro q hq1
      rcases List.mem_append.mp hq1 with z | z
      · obtain ⟨z1, z2, z3⟩ := hq q z
        exact ⟨by rw [upd_ne z3]; exact s5 _ _ z1, z2, z3⟩
      · have : q = (l, ms[i]) := by simpa using z
        subst this
        exact ⟨by rw [upd_ne (Ne.symm nlD)]; exact el, sm.free hl, Ne.symm nlD⟩
  · obtain ⟨qs, sm, hDl, hys, hqm, hnd, hq⟩ := h
    rw [List.take_length] at hqm
    exact fin D qs H' hD hqm hnd hq sm (by rw [← hys]; exact hDl)
/-- over a list -/
theorem comp_objsL {α : Type} {K : PySem.W.Frag} {a : Addr} {ms : List α} {σ0 : St} {H1 : Hp} {te : TE} {Q : VK} (u : α → V) (o : α → HO) (hq : SqL K H1 a (ms.map u)) (hn : ms.length ≤ 1000)
    (he : ∀ x ∈ ms, ∀ (H' : Hp) (Q' : VK), Same H1 H' → (∀ l H'', H' l = none → Same H' H'' → H'' l = some (o x) → Q' (.ref l) H'') → te (σ0.set 0 (some (u x))) H' Q')
    (fin : ∀ (D : Addr) (qs : List (Addr × α)) (H' : Hp), H1 D = none → qs.map (·.2) = ms → (qs.map (·.1)).Nodup → (∀ q ∈ qs, H' q.1 = some (o q.2) ∧ H1 q.1 = none ∧ q.1 ≠ D) → Same H1 H' → H' D = some (.lst (qs.map fun q => V.ref q.1)) → Q (.ref D) H') :
    CompRun (Itl K a) (gName 0) tTrue te σ0 H1 Q :=
  comp_objs u o hn (fun i H' hi sm => ⟨ms.map u, u ms[i], sm.seq hq, by simp [hi]⟩) (fun H' sm => ⟨ms.map u, sm.seq hq, by simp⟩) (fun i H' x H2 hi sm y => ⟨y.1, by
    have := y.2 _ (sm.seq hq)
    rw [List.getElem?_map, List.getElem?_eq_getElem hi] at this
    exact (Option.some.inj this).symm⟩) he fin
/-- over a range -/
theorem comp_objsR {lo : Int} {n : Nat} {σ0 : St} {H1 : Hp} {te : TE} {Q : VK} (o : Nat → HO) (hn : n ≤ 1000)
    (he : ∀ i, i < n → ∀ (H' : Hp) (Q' : VK), Same H1 H' → (∀ l H'', H' l = none → Same H' H'' → H'' l = some (o i) → Q' (.ref l) H'') → te (σ0.set 0 (some (.int (lo + i)))) H' Q')
    (fin : ∀ (D : Addr) (qs : List (Addr × Nat)) (H' : Hp), H1 D = none → qs.map (·.2) = List.range n → (qs.map (·.1)).Nodup → (∀ q ∈ qs, H' q.1 = some (o q.2) ∧ H1 q.1 = none ∧ q.1 ≠ D) → Same H1 H' → H' D = some (.lst (qs.map fun q => V.ref q.1)) → Q (.ref D) H') :
    CompRun (Itr lo n) (gName 0) tTrue te σ0 H1 Q :=
  comp_objs (ms := List.range n) (fun i => .int (lo + i)) o (by simpa using hn) (fun i H' hi sm => by show i < n; simpa using hi) (fun H' sm => by show n ≤ _; simp) (fun i H' x H2 hi sm y => ⟨y.1, by rw [y.2, List.getElem_range]⟩)
    (fun x hx => he x (List.mem_range.mp hx)) fin
section
variable {X : Cx}
/-- x in a list, by what both read as -/
def rInD (K : PySem.W.Frag) (neg : Bool) : R2 := fun x y H Q => ∃ (dx : PyData) (ds : List PyData), RdD K H x dx ∧ RdD K H y (.list ds) ∧ SeqAt.shaped dx = true ∧ SeqAt.shaped (.list ds) = true ∧ Q (.bl (if neg then !(ds.any fun d => PyData.eqv d dx) else ds.any fun d => PyData.eqv d dx)) H
theorem op_inD (hu : X.A.units + 65 < cLine) : OpR X (compareOp .In) (rInD X.K false) := by
  intro pins s σ H x y v u Q I rx ry h
  obtain ⟨dx, ds, h1, h2, s1, s2, q⟩ := h
  obtain ⟨as, r1⟩ := I.reads h1 rx
  obtain ⟨bs, r2⟩ := I.reads h2 ry
  exact SeqAt.in_list_reads r2 r1 (SeqAt.canLay_of_shaped s2) (SeqAt.canLay_of_shaped s1) (room_in_shaped s1 hu) ⟨.bl _, H, I, rfl, q⟩
theorem op_notInD (hu : X.A.units + 65 < cLine) : OpR X (compareOp .NotIn) (rInD X.K true) := by
  intro pins s σ H x y v u Q I rx ry h
  obtain ⟨dx, ds, h1, h2, s1, s2, q⟩ := h
  obtain ⟨as, r1⟩ := I.reads h1 rx
  obtain ⟨bs, r2⟩ := I.reads h2 ry
  exact SeqAt.notIn_list_reads r2 r1 (SeqAt.canLay_of_shaped s2) (SeqAt.canLay_of_shaped s1) (room_in_shaped s1 hu) ⟨.bl _, H, I, rfl, q⟩
end
end L2
set_option Elab.async false
set_option linter.all false
set_option maxRecDepth 100000
set_option maxHeartbeats 4000000
namespace L2
open PySem PySem.Spec PyProof.Rows
/-! ### any thing, by what it reads as; its objects none of S -/
mutual
inductive RdS (S : List Addr) (H : Hp) : V → PyData → Prop
  | non : RdS S H .non .none
  | bl (b : Bool) : RdS S H (.bl b) (.bool b)
  | int (i : Int) : RdS S H (.int i) (.int i)
  | str (x : Str) : RdS S H (.str x) (.str x)
  | lst {a : Addr} {xs : List V} {ds : List PyData} : H a = some (.lst xs) → a ∉ S → RdSs S H xs ds → RdS S H (.ref a) (.list ds)
  | tup {a : Addr} {xs : List V} {ds : List PyData} : H a = some (.tup xs) → a ∉ S → RdSs S H xs ds → RdS S H (.ref a) (.tuple ds)
  | dct {a : Addr} : H a = some (.dK []) → a ∉ S → RdS S H (.ref a) (.dict [])
inductive RdSs (S : List Addr) (H : Hp) : List V → List PyData → Prop
  | nil : RdSs S H [] []
  | cons {x : V} {d : PyData} {xs : List V} {ds : List PyData} : RdS S H x d → RdSs S H xs ds → RdSs S H (x :: xs) (d :: ds)
end
mutual
theorem RdS.move {S S' : List Addr} {H H' : Hp} (k : ∀ b o, b ∉ S → H b = some o → H' b = some o) (ss : ∀ b, b ∉ S → b ∉ S') : ∀ {x : V} {d : PyData}, RdS S H x d → RdS S' H' x d
  | _, _, .non => .non
  | _, _, .bl b => .bl b
  | _, _, .int i => .int i
  | _, _, .str x => .str x
  | _, _, .lst e n r => .lst (k _ _ n e) (ss _ n) (RdSs.move k ss r)
  | _, _, .tup e n r => .tup (k _ _ n e) (ss _ n) (RdSs.move k ss r)
  | _, _, .dct e n => .dct (k _ _ n e) (ss _ n)
theorem RdSs.move {S S' : List Addr} {H H' : Hp} (k : ∀ b o, b ∉ S → H b = some o → H' b = some o) (ss : ∀ b, b ∉ S → b ∉ S') : ∀ {xs : List V} {ds : List PyData}, RdSs S H xs ds → RdSs S' H' xs ds
  | _, _, .nil => .nil
  | _, _, .cons h t => .cons (RdS.move k ss h) (RdSs.move k ss t)
end
theorem RdS.same {S : List Addr} {H H' : Hp} {x : V} {d : PyData} (r : RdS S H x d) (s : Same H H') : RdS S H' x d := r.move (fun b o _ e => s b o e) fun _ n => n
theorem RdSs.same {S : List Addr} {H H' : Hp} {xs : List V} {ds : List PyData} (r : RdSs S H xs ds) (s : Same H H') : RdSs S H' xs ds := r.move (fun b o _ e => s b o e) fun _ n => n
theorem RdS.any {S : List Addr} {H : Hp} {x : V} {d : PyData} (r : RdS S H x d) : RdS [] H x d := r.move (fun _ _ _ e => e) fun _ _ => by simp
theorem RdSs.length {S : List Addr} {H : Hp} : ∀ {xs : List V} {ds : List PyData}, RdSs S H xs ds → xs.length = ds.length
  | _, _, .nil => rfl
  | _, _, .cons _ t => by simp [t.length]
theorem RdSs.pairs {S : List Addr} {H : Hp} : ∀ {xs : List V} {ds : List PyData}, RdSs S H xs ds → ∃ ms : List (V × PyData), xs = ms.map (·.1) ∧ ds = ms.map (·.2) ∧ ∀ m ∈ ms, RdS S H m.1 m.2
  | _, _, .nil => ⟨[], rfl, rfl, fun m h => nomatch h⟩
  | _, _, .cons (x := x) (d := d) h t => by
    obtain ⟨ms, e1, e2, hm⟩ := t.pairs
    refine ⟨(x, d) :: ms, by rw [e1]; rfl, by rw [e2]; rfl, fun m hmm => ?_⟩
    rcases List.mem_cons.mp hmm with rfl | z
    · exact h
    · exact hm m z
/-- its type -/
def tyD : PyData → String
  | .none => "NoneType"
  | .bool _ => "bool"
  | .int _ => "int"
  | .str _ => "str"
  | .list _ => "list"
  | .tuple _ => "tuple"
  | .dict _ => "dict"
theorem RdS.ty {S : List Addr} {H : Hp} {K : PySem.W.Frag} : ∀ {x : V} {d : PyData}, RdS S H x d → TyOf K H x (.type (tyD d))
  | _, _, .non => .non
  | _, _, .bl b => .bl b
  | _, _, .int i => .int i
  | _, _, .str x => .str x
  | _, _, .lst e _ _ => .lst e
  | _, _, .tup e _ _ => .tup e
  | _, _, .dct e _ => .dK e
def isIntD : PyData → Bool
  | .int _ => true
  | _ => false
theorem kit_int (K : PySem.W.Frag) (d : PyData) : PySem.W.kitOne K (.type (tyD d)) (.type "int") = some (match d with | .int _ => true | .bool _ => true | _ => false) := by
  cases d <;> (simp only [tyD]; kernel_rfl)
theorem kit_bool (K : PySem.W.Frag) (d : PyData) : PySem.W.kitOne K (.type (tyD d)) (.type "bool") = some (match d with | .bool _ => true | _ => false) := by
  cases d <;> (simp only [tyD]; kernel_rfl)
theorem kit_list (K : PySem.W.Frag) (d : PyData) : PySem.W.kitOne K (.type (tyD d)) (.type "list") = some (match d with | .list _ => true | _ => false) := by
  cases d <;> (simp only [tyD]; kernel_rfl)
theorem kit_tuple (K : PySem.W.Frag) (d : PyData) : PySem.W.kitOne K (.type (tyD d)) (.type "tuple") = some (match d with | .tuple _ => true | _ => false) := by
  cases d <;> (simp only [tyD]; kernel_rfl)

/-! ### repr -/
section
variable {P : Program} {w : World} {H : Hp} {h : Heap} {S : List Addr}
theorem dict_empty (ok : HOk P w H h) {a : Addr} (e : H a = some (.dK [])) : (a == sysModules) = false ∧ ∃ o n, h.get? a = some o ∧ o.cls = .type "dict" ∧ o.data = .dict #[] n := by
  obtain ⟨_, y, vs, r, o, es, ep, e1, c, d, _, pr, _⟩ := (show ObjOk P w H h a (.dK []) from ok a _ e)
  cases r
  have hl : es.toList.length = 0 := pr.length
  have he : es = #[] := by
    cases es with
    | mk l =>
      have : l = [] := List.length_eq_zero_iff.mp hl
      rw [this]
  rw [he] at d
  exact ⟨y, o, ep, e1, c.1, d⟩
mutual
theorem RdS.shows (ok : HOk P w H h) : ∀ {x : V} {d : PyData} {u : Value}, RdS S H x d → RelV x u → d.showable = true → d.shown.length ≤ sizeLine →
    (∃ as, Reads h u d as) ∧ ∃ bs, ReadAtMost h d.depth bs ∧ ReprK P w bs h d.depth u d.shown
  | _, _, _, .non, r, _, _ => by cases r; exact ⟨⟨_, .none⟩, [], (fun _ h => nomatch h), by simp only [PyData.shown]; exact .of_is ReprIs.none _ _ _⟩
  | _, _, _, .bl b, r, _, _ => by cases r; exact ⟨⟨_, .bool b⟩, [], (fun _ h => nomatch h), by simp only [PyData.shown]; exact .of_is (ReprIs.bool b) _ _ _⟩
  | _, _, _, .int i, r, hs, _ => by obtain ⟨t, rfl⟩ := r; exact ⟨⟨_, .int i t⟩, [], (fun _ h => nomatch h), by simp only [PyData.shown]; exact .of_is (ReprIs.int t (by simpa [PyData.showable] using hs)) _ _ _⟩
  | _, _, _, .str x, r, _, hz => by obtain ⟨t, rfl⟩ := r; exact ⟨⟨_, .str x t⟩, [], (fun _ h => nomatch h), by simp only [PyData.shown]; exact .of_is (ReprIs.str x t (by simpa only [PyData.shown] using hz)) _ _ _⟩
  | _, _, _, .lst (a := a) (ds := ds) e _ ra, r, hs, hz => by
    cases r
    obtain ⟨_, its, n, rv, e1⟩ := (show ObjOk P w H h a (.lst _) from ok a _ e)
    have hz' : (listText (PyData.shownAll ds)).length ≤ sizeLine := by simpa only [PyData.shown] using hz
    obtain ⟨⟨as, rr⟩, bs, hb, hk⟩ := RdSs.shows ok ra rv (by simpa [PyData.showable] using hs) (fun t ht => Nat.le_trans (listText_mem_le ht) hz')
    have rd : Reads h (.ref a) (.list ds) (a :: as) := .list e1 rfl rfl (by simpa using rr)
    have hna : a ∉ bs := not_mem_of_deeper rd (by simp only [PyData.depth]; omega) hb
    refine ⟨⟨_, rd⟩, a :: bs, ReadAtMost.cons rd (by simp only [PyData.depth]; omega) hb, ?_⟩
    simp only [PyData.depth, PyData.shown]
    cases its with
    | nil =>
      cases rr
      simp only [PyData.shownAll, listText_nil]
      exact ReprK.listEmpty e1 rfl rfl
    | cons x l => exact ReprK.list e1 rfl rfl hna (by simpa using hk.length_eq) (fun i y e => hk.item i y (by simpa using e))
  | _, _, _, .tup (a := a) (ds := ds) e _ ra, r, hs, hz => by
    cases r
    obtain ⟨_, its, rv, o, e1, c, n, dt⟩ := (show ObjOk P w H h a (.tup _) from ok a _ e)
    have hz' : (tupleText (PyData.shownAll ds)).length ≤ sizeLine := by simpa only [PyData.shown] using hz
    obtain ⟨⟨as, rr⟩, bs, hb, hk⟩ := RdSs.shows ok ra rv (by simpa [PyData.showable] using hs) (fun t ht => Nat.le_trans (tupleText_mem_le ht) hz')
    have rd : Reads h (.ref a) (.tuple ds) as := .tuple e1 c dt (by simpa using rr)
    have hna : a ∉ bs := not_mem_of_deeper rd (by simp only [PyData.depth]; omega) hb
    refine ⟨⟨_, rd⟩, a :: bs, ReadAtMost.cons rd (by simp only [PyData.depth]; omega) hb, ?_⟩
    simp only [PyData.depth, PyData.shown]
    exact ReprK.tuple e1 c dt hna (by simpa using hk)
  | _, _, _, .dct (a := a) e _, r, hs, hz => by
    cases r
    obtain ⟨hsys, o, n, e1, c, dt⟩ := dict_empty ok e
    have rd : Reads h (.ref a) (.dict []) (a :: [] ++ []) := .dict (kvs := []) e1 c dt .nil .nil
    refine ⟨⟨_, rd⟩, a :: [], ReadAtMost.cons (n := 0) rd (Nat.zero_le _) (fun _ h => nomatch h), ?_⟩
    simp only [PyData.depth, PyData.depthKv, PyData.shown, PyData.shownKv]
    exact ReprK.dict e1 c dt hsys (by simp) .nil
theorem RdSs.shows (ok : HOk P w H h) : ∀ {xs : List V} {ds : List PyData} {us : List Value}, RdSs S H xs ds → Vals xs us → PyData.showableAll ds = true → (∀ t ∈ PyData.shownAll ds, t.length ≤ sizeLine) →
    (∃ as, ReadsAll h us ds as) ∧ ∃ bs, ReadAtMost h (PyData.depthAll ds) bs ∧ ReprAllK P w bs h (PyData.depthAll ds) us (PyData.shownAll ds)
  | _, _, _, .nil, .nil, _, _ => ⟨⟨_, .nil⟩, [], (fun _ h => nomatch h), by simp only [PyData.shownAll]; exact .nil⟩
  | _, _, _, .cons (d := d) (ds := ds) r rs, .cons v vs, hs, hz => by
    have hs' : d.showable = true ∧ PyData.showableAll ds = true := by simpa [PyData.showableAll] using hs
    obtain ⟨⟨a1, r1⟩, b1, hb1, k1⟩ := RdS.shows ok r v hs'.1 (hz _ (by simp only [PyData.shownAll]; exact List.mem_cons_self ..))
    obtain ⟨⟨a2, r2⟩, b2, hb2, k2⟩ := RdSs.shows ok rs vs hs'.2 (fun t ht => hz t (by simp only [PyData.shownAll]; exact List.mem_cons_of_mem _ ht))
    refine ⟨⟨_, .cons r1 r2⟩, b1 ++ b2, ?_, ?_⟩
    · simp only [PyData.depthAll]
      exact (hb1.mono (Nat.le_max_left _ _)).append (hb2.mono (Nat.le_max_right _ _))
    · simp only [PyData.depthAll, PyData.shownAll]
      exact .cons ((k1.more fun b hb => List.mem_append_left _ hb).level_le (Nat.le_max_left _ _)) (k2.more_le (fun b hb => List.mem_append_right _ hb) (Nat.le_max_right _ _))
end
end
end L2
namespace L2
open PySem PySem.Spec PyProof.Rows
section
variable {X : Cx}
theorem Inv.big {pins : List (Addr × Obj)} {σ : St} {H : Hp} {s : Shared} (I : Inv X pins σ H s) : sysModules < s.heap.objs.size := by
  have h : mainGlobals < s.heap.objs.size := (I.mod.glob.keeps I.bk).lt
  exact Nat.lt_trans (by decide) h
/-- repr of any thing -/
def rRepr : List V → Hp → VK → Prop := fun xs H Q => ∃ x d, xs = [x] ∧ RdS [] H x d ∧ d.showable = true ∧ d.shown.length ≤ sizeLine ∧ d.depth ≤ 60 ∧ Q (.str d.shown) H
theorem call_reprS (hg : X.A.guards = some []) (hu : X.A.units + 64 < cLine) : CallR X (.builtin "repr") rRepr := by
  intro pins s σ H xs us Q I rv h
  obtain ⟨x, d, rfl, rd, hs, hz, hdp, q⟩ := h
  obtain ⟨u, rfl, ru⟩ := rv.one
  have fin : ∀ (h' : Heap) (t : Tok) (tk : Nat), (∀ b o, s.heap.get? b = some o → h'.get? b = some o) → EP X pins σ Q (.str d.shown t) { s with heap := h', toks := tk } := fun h' t tk k => ⟨.str d.shown, H, I.kept k, ⟨t, rfl⟩, q⟩
  have hsh := RdS.shows I.hok rd ru hs hz
  cases rd with
  | non => cases ru; simp only [PyData.shown] at fin; exact P.repr_of_none (fin s.heap _ _ fun _ _ e => e)
  | bl b => cases ru; simp only [PyData.shown] at fin; exact P.repr_of_bool (fin s.heap _ _ fun _ _ e => e)
  | int i => obtain ⟨t, rfl⟩ := ru; simp only [PyData.shown] at fin; exact P.repr_of_int (by simpa [PyData.showable] using hs) (fin s.heap _ _ fun _ _ e => e)
  | str y => obtain ⟨t, rfl⟩ := ru; simp only [PyData.shown] at fin; exact P.repr_of_str (fin s.heap _ _ fun _ _ e => e) (by simpa only [PyData.shown] using hz)
  | @lst a xs ds e _ ra =>
    cases ru
    obtain ⟨_, its, n, rv, e1⟩ := (show ObjOk X.prog X.w H s.heap a (.lst _) from I.hok a _ e)
    have hz' : (listText (PyData.shownAll ds)).length ≤ sizeLine := by simpa only [PyData.shown] using hz
    obtain ⟨⟨as, rr⟩, bs, hb, hk⟩ := RdSs.shows I.hok ra rv (by simpa [PyData.showable] using hs) (fun t ht => Nat.le_trans (listText_mem_le ht) hz')
    have rd : Reads s.heap (.ref a) (.list ds) (a :: as) := .list e1 rfl rfl (by simpa using rr)
    have hna : a ∉ bs := not_mem_of_deeper rd (by simp only [PyData.depth]; omega) hb
    simp only [PyData.depth] at hdp
    simp only [PyData.shown] at fin
    refine call_repr_slot (by omega) ⟨_, e1, rfl⟩ F.slot_list_repr.toG ?_
    cases its with
    | nil =>
      cases rr
      simp only [PyData.shownAll, listText_nil] at fin
      exact call_list_repr_empty ⟨_, e1, rfl⟩ e1 rfl ⟨_, _, rfl, fin s.heap _ _ fun _ _ e => e⟩
    | cons x l => exact call_list_reprK e1 rfl rfl hna (by simpa using hk.length_eq) (fun i y e => hk.item i y (by simpa using e)) (A := X.A.in1) hg (fun b _ => Clear.nil b) (by show X.A.units + 1 + (PyData.depthAll ds + 1) < cLine; omega) (fun _ _ e => e) (fun h' t tk k => ⟨_, _, rfl, fin h' t tk k⟩) hz'
  | @tup a xs ds e _ ra =>
    cases ru
    obtain ⟨_, its, rv, o, e1, c, n, dt⟩ := (show ObjOk X.prog X.w H s.heap a (.tup _) from I.hok a _ e)
    have hz' : (tupleText (PyData.shownAll ds)).length ≤ sizeLine := by simpa only [PyData.shown] using hz
    obtain ⟨⟨as, rr⟩, bs, hb, hk⟩ := RdSs.shows I.hok ra rv (by simpa [PyData.showable] using hs) (fun t ht => Nat.le_trans (tupleText_mem_le ht) hz')
    have rd : Reads s.heap (.ref a) (.tuple ds) as := .tuple e1 c dt (by simpa using rr)
    have hna : a ∉ bs := not_mem_of_deeper rd (by simp only [PyData.depth]; omega) hb
    simp only [PyData.depth] at hdp
    simp only [PyData.shown] at fin
    refine call_repr_slot (by omega) ⟨_, e1, c⟩ F.slot_tuple_repr ?_
    exact call_tuple_reprK e1 c dt hna (by simpa using hk) (A := X.A.in1) hg (fun b _ => Clear.nil b) (by show X.A.units + 1 + (PyData.depthAll ds + 1) < cLine; omega) (fun _ _ e => e) (fun h' t tk k => ⟨_, _, rfl, fin h' t tk k⟩) hz'
  | @dct a e _ =>
    cases ru
    obtain ⟨hsys, o, n, e1, c, dt⟩ := dict_empty I.hok e
    simp only [PyData.shown, PyData.shownKv] at fin hz
    refine call_repr_slot (by omega) ⟨_, e1, c⟩ F.slot_dict_repr ?_
    exact call_dict_reprK (as := []) (d := 0) e1 c dt hsys (by simp) .nil (A := X.A.in1) hg (fun b _ => Clear.nil b) (by show X.A.units + 1 + (0 + 1) < cLine; omega) (fun _ _ e => e) (fun h' t tk k => ⟨_, _, rfl, fin h' t tk k⟩) hz
/-- is not, of truths -/
theorem op_isnotB : OpR X (compareOp .IsNot) (fun x y H Q => ∃ a b, x = .bl a ∧ y = .bl b ∧ Q (.bl (a != b)) H) := by
  intro pins s σ H x y v u Q I rx ry h
  obtain ⟨a, b, rfl, rfl, q⟩ := h
  cases rx
  cases ry
  exact isnot_bool ⟨.bl _, H, I, rfl, q⟩
/-- {} -/
def tDict0 : TE := fun _ H Q => ∀ p, H p = none → Q (.ref p) (upd H p (.dK []))
theorem pe_dict0 {pos : Pos} : PE X (.Dict [] [] pos) tDict0 := fun pins s σ H Q I h =>
  wpAny_Dict_empty ⟨.ref s.heap.objs.size, _, I.laid (a := s.heap.objs.size) (o := .dK []) (t' := s.toks) (fun _ _ q => Heap.get?_push_of_some _ q) (Nat.le_refl _)
    ⟨Nat.zero_le _, beq_eq_false_iff_ne.mpr (Ne.symm (Nat.ne_of_lt I.big)), [], .nil, Heap.DictOf.new s.heap⟩, rfl, h _ (I.hok.fresh (Nat.le_refl _))⟩
/-- a[::-1] of a list -/
def tRev (te : TE) (ts : TO) : TE := fun σ H Q => te σ H fun x H1 => ts σ H1 fun st H2 => ∃ a xs, st = some (-1) ∧ x = .ref a ∧ H2 a = some (.lst xs) ∧ ∀ p, H2 p = none → Q (.ref p) (upd H2 p (.lst xs.reverse))
theorem vals_rev {xs : List V} {us : List Value} (r : Vals xs us) : Vals xs.reverse us.reverse := by
  induction r with
  | nil => exact .nil
  | cons h t ih =>
    rw [List.reverse_cons, List.reverse_cons]
    exact ih.append (.cons h .nil)
theorem pe_rev {e se : Expr} {te : TE} {ts : TO} {p2 pos : Pos} (he : PE X e te) (hs : PO X (some se) ts) : PE X (.Subscript e (.Slice none none (some se) p2) pos) (tRev te ts) := by
  intro pins s σ H Q I h
  refine Subscript_ (thn (he pins s σ H _ I h) fun v s1 ⟨x, H1, I1, r1, q1⟩ => ?_)
  refine wpAny_Slice ?_
  rw [evalPart_none]
  refine wpAny_pure ?_
  refine wpAny_pure ?_
  refine thn (hs pins s1 σ H1 _ I1 q1) fun vs s2 ⟨st, H2, I2, pst, q2⟩ => ?_
  obtain ⟨a, xs, rfl, rfl, hx, q⟩ := q2
  cases r1
  have I4 : Inv X pins σ H2 { s2 with heap := s2.heap.push { cls := .type "slice", data := .fields #[.none, .none, vs] } } := I2.kept (t' := s2.toks) fun b ob q => Heap.get?_push_of_some _ q
  obtain ⟨its, r, ht, hz⟩ := I4.list (SqL.of hx)
  have hlen := r.length
  show wpAny (model X.prog X.w) X.A (subscriptTail e (.Slice none none (some se) p2) (.ref a) (.ref s2.heap.objs.size)) (EP X pins σ Q) X.xe { s2 with heap := s2.heap.push { cls := .type "slice", data := .fields #[.none, .none, vs] } }
  refine tail_any (ops := [.ref a, .ref s2.heap.objs.size]) ht.isList.typeIs slot_list_getitem.lookup ?_ rfl
  refine wpAny_getItem_list_slice ht.isList (Heap.IsSliceOf.new ..) .none .none pst (by simp) ?_ (by rw [List.size_toArray] <;> omega)
  rw [PySem.W.krv_pick]
  refine ⟨.ref _, _, I4.laid (t' := s2.toks) (o := .lst xs.reverse) (fun b ob q => Heap.get?_push_of_some _ q) (Nat.le_refl _) ?_, rfl, q _ (I4.hok.fresh (Nat.le_refl _))⟩
  have e : its.toArray.toList.reverse.toArray = its.reverse.toArray := by simp
  rw [e]
  exact ⟨by rw [List.length_reverse]; exact hz, its.reverse, 0, vals_rev r, Heap.get?_push_size _ rfl⟩
end
/-! ### sizes -/
structure Sz (c k : Nat) (d : PyData) : Prop where
  sh : d.showable = true
  le : d.shown.length ≤ c
  dp : d.depth ≤ k
theorem Sz.mono {c k c' k' : Nat} {d : PyData} (s : Sz c k d) (h1 : c ≤ c') (h2 : k ≤ k') : Sz c' k' d := ⟨s.sh, Nat.le_trans s.le h1, Nat.le_trans s.dp h2⟩
theorem sz_all {c k : Nat} : ∀ {ds : List PyData}, (∀ d ∈ ds, Sz c k d) → PyData.showableAll ds = true ∧ ((PyData.shownAll ds).map (·.length)).sum ≤ ds.length * c ∧ PyData.depthAll ds ≤ k ∧ (PyData.shownAll ds).length = ds.length
  | [], _ => by simp [PyData.showableAll, PyData.shownAll, PyData.depthAll]
  | d :: ds, h => by
    obtain ⟨h1, h2, h3, h4⟩ := sz_all (fun e he => h e (List.mem_cons_of_mem _ he))
    have hd := h d (by simp)
    have a1 := hd.le
    have a2 := hd.dp
    simp only [PyData.showableAll, PyData.shownAll, PyData.depthAll, List.map_cons, List.sum_cons, List.length_cons, hd.sh, h1, Bool.and_self, h4, true_and, and_true, Nat.succ_mul]
    omega
theorem sz_list {c k n : Nat} {ds : List PyData} (h : ∀ d ∈ ds, Sz c k d) (hn : ds.length ≤ n) : Sz (n * c + 2 * n + 3) (k + 1) (.list ds) := by
  obtain ⟨h1, h2, h3, h4⟩ := sz_all h
  have e := listText_len_le (PyData.shownAll ds)
  rw [h4] at e
  have m : ds.length * c ≤ n * c := Nat.mul_le_mul_right _ hn
  exact ⟨by simpa [PyData.showable] using h1, by simp only [PyData.shown]; omega, by simp only [PyData.depth]; omega⟩
theorem sz_tuple {c k n : Nat} {ds : List PyData} (h : ∀ d ∈ ds, Sz c k d) (hn : ds.length ≤ n) : Sz (n * c + 2 * n + 3) (k + 1) (.tuple ds) := by
  obtain ⟨h1, h2, h3, h4⟩ := sz_all h
  have e := tupleText_len_le (PyData.shownAll ds)
  rw [h4] at e
  have m : ds.length * c ≤ n * c := Nat.mul_le_mul_right _ hn
  exact ⟨by simpa [PyData.showable] using h1, by simp only [PyData.shown]; omega, by simp only [PyData.depth]; omega⟩
theorem log_lt {i : Int} (h : i.natAbs < 10 ^ 40) : i.natAbs.log2 < 1920 := by
  by_cases h0 : i.natAbs = 0
  · rw [h0]; decide
  · exact (Nat.log2_lt h0).mpr (Nat.lt_of_lt_of_le (Nat.lt_trans h (show 10 ^ 40 < 2 ^ 200 by decide)) (Nat.pow_le_pow_right (by decide) (by decide)))
theorem sz_int {i : Int} (h : i.natAbs < 10 ^ 40) : Sz 41 0 (.int i) := by
  have e := int_text_length_le10 (k := 40) (by decide) h
  refine ⟨?_, ?_, Nat.le_refl _⟩
  · show decide (i.natAbs.log2 < 1920) = true
    exact decide_eq_true (log_lt h)
  · show (Str.ofString (toString i)).length ≤ 41
    rw [PySem.ofString_length]; exact e
theorem sz_none : Sz 4 0 .none := ⟨rfl, by decide, Nat.le_refl _⟩
theorem sz_bool (b : Bool) : Sz 5 0 (.bool b) := ⟨rfl, by cases b <;> decide, Nat.le_refl _⟩
theorem sz_dict : Sz 2 1 (.dict []) := ⟨rfl, by decide, by decide⟩
theorem sz_strOf (s : String) (n : Nat) (h : s.length ≤ n) : Sz (10 * n + 2) 0 (.str (Str.ofString s)) := by
  have e := StrLaws.reprText_len (Str.ofString s) (fun c hc => by
    rw [Str.ofString_eq_toList] at hc
    simp only [List.mem_map] at hc
    obtain ⟨ch, _, rfl⟩ := hc
    have := ch.valid
    have h2 : ch.toNat < 1114112 := by
      rcases this with z | ⟨_, z⟩
      · exact Nat.lt_trans z (by decide)
      · exact z
    exact Nat.lt_trans h2 (by decide))
  rw [PySem.ofString_length] at e
  exact ⟨rfl, by show (reprText _).length ≤ _; omega, Nat.le_refl _⟩
theorem sz_strInt {i : Int} (h : i.natAbs < 10 ^ 40) : Sz 412 0 (.str (Str.ofString (toString i))) := sz_strOf _ 41 (int_text_length_le10 (k := 40) (by decide) h)
end L2
set_option Elab.async false
set_option linter.all false
set_option maxRecDepth 100000
set_option maxHeartbeats 4000000
namespace L2
open PySem PySem.Spec PyProof.Rows
/-- sum of a list of ints -/
theorem call_sum {X : Cx} (hc : X.calm = true) : CallR X (.builtin "sum") (fun xs H Q => ∃ (p : Addr) (ns : List Int), xs = [.ref p] ∧ SqL X.K H p (ns.map V.int) ∧ Q (.int ns.sum) H) := by
  intro pins s σ H xs us Q I rv h
  obtain ⟨p, ns, rfl, hq, q⟩ := h
  obtain ⟨u, rfl, ru⟩ := rv.one
  cases ru
  obtain ⟨its, r, pl, _⟩ := I.list hq
  have hi := ints_of r
  obtain ⟨ys, e⟩ := hi.allInts.items
  have hl := pl.isList
  have en : ns = ys.toList.map (·.1) := by
    have e1 := hi.numsOf
    have e2 := nums_intItems ys
    rw [← e] at e2
    exact e1.symm.trans e2
  have es : preSum (numAt ys) ys.size = ns.sum := by
    rw [preSum_eq, List.take_of_length_le (by simp), en]
  rw [e] at hl
  refine sum_intListG (I.ok.hd hc) hl fun h' tk t' hk => ?_
  rw [es]
  exact ⟨.int _, H, I.kept hk, ⟨_, rfl⟩, q⟩
/-- list.insert at a place within -/
def rInsert : V → List V → Hp → VK → Prop := fun x vs H Q => ∃ l xs k y, x = .ref l ∧ vs = [.int (k : Nat), y] ∧ H l = some (.lst xs) ∧ k ≤ xs.length ∧ xs.length < 1000 ∧ Q .non (upd H l (.lst (xs.take k ++ [y] ++ xs.drop k)))
theorem mt_insert {X : Cx} : MtM X "list.insert" rInsert := by
  intro pins s σ H x vs v us Q I rx rv h
  obtain ⟨l, xs, k, y, rfl, rfl, hH, hk, hz, q⟩ := h
  cases rx
  obtain ⟨u0, u, rfl, ru0, ru⟩ := rv.two
  obtain ⟨t0, rfl⟩ := ru0
  obtain ⟨z, its, n, r, hl, e⟩ := I.lstM hH
  have hf : Builtin.List.listFitsIndex ((k : Nat) : Int) = true := by
    unfold Builtin.List.listFitsIndex
    simp
    omega
  have hx2 : ((k : Nat) : Int).toNat = k := Int.toNat_natCast k
  have hx0 : 0 ≤ ((k : Nat) : Int) := Int.natCast_nonneg k
  generalize ((k : Nat) : Int) = x at hf hx2 hx0
  have hz2 : its.toArray.size ≤ sizeLine := by
    rw [List.size_toArray]
    omega
  refine call_meets F.slot_list_insert ⟨_, e, rfl⟩ F.entry_list_insert (F.args_list_insert_3 _ _ _) (PySem.AutoSeq1.list_insert_list_int_val_1 l its.toArray n x t0 u (by rw [hf]; decide) hz2) ⟨e, ?_⟩
  refine ⟨.non, _, I.lset (its' := its.take k ++ [u] ++ its.drop k) hH e ?_ (((r.take k).append (.cons ru .nil)).append (r.drop k)) ?_, rfl, q⟩
  · have e2 : (if x < 0 then (x + ((its.toArray.size : Nat) : Int)).toNat else min x.toNat its.toArray.size) = k := by
      rw [if_neg (by omega), List.size_toArray, hx2]
      omega
    simp only [e2]
    apply Array.ext'
    simp
    rw [List.take_of_length_le]
    simp
  · rw [List.length_append, List.length_append, List.length_take, List.length_drop, List.length_singleton]
    exact Nat.le_of_lt (small1000 (by omega))
/-- min of a list of ints -/
theorem call_minL {X : Cx} (hc : X.calm = true) : CallR X (.builtin "min") (fun xs H Q => ∃ (p : Addr) (ns : List Int), xs = [.ref p] ∧ SqL X.K H p (ns.map V.int) ∧ 0 < ns.length ∧ ∀ M, M ∈ ns → (∀ a ∈ ns, M ≤ a) → Q (.int M) H) := by
  intro pins s σ H xs us Q I rv h
  obtain ⟨p, ns, rfl, hq, hne, q⟩ := h
  obtain ⟨u, rfl, ru⟩ := rv.one
  cases ru
  obtain ⟨its, r, pl, _⟩ := I.list hq
  have hi := ints_of r
  obtain ⟨ys, e⟩ := hi.allInts.items
  have hl := pl.isList
  have en : ns = ys.toList.map (·.1) := by
    have e1 := hi.numsOf
    have e2 := nums_intItems ys
    rw [← e] at e2
    exact e1.symm.trans e2
  have lz : ys.size = ns.length := by rw [en]; simp
  rw [e] at hl
  refine min_intList (I.ok.hd hc) hl (by omega) fun v h' tk hv hk => ?_
  obtain ⟨t, rfl⟩ := intItems_at hv
  obtain ⟨b1, b2⟩ := argBest_lt (numAt ys) (ys.size - 1)
  refine ⟨.int _, H, I.kept hk, ⟨_, rfl⟩, q _ ?_ fun a ha => ?_⟩
  · rw [en, numAt_eq]
    exact getD_mem (by rw [List.length_map, Array.length_toList]; omega)
  · rw [en] at ha
    obtain ⟨j, hj, rfl⟩ := mem_getD ha
    rw [List.length_map, Array.length_toList] at hj
    have := b2 j (by omega)
    rw [numAt_eq ys j] at this
    exact this
/-- over a tuple, pure -/
theorem comp_ofT {α : Type} {K : PySem.W.Frag} {a : Addr} {ms : List α} {σ0 : St} {H1 : Hp} {tc : TT} {te : TE} {Q : VK} (u : α → V) (p : α → Bool) (f : α → V) (hq : SqT K H1 a (ms.map u)) (hn : ms.length ≤ sizeLine)
    (ht : ∀ x ∈ ms, PuT tc (σ0.set 0 (some (u x))) H1 (p x)) (he : ∀ x ∈ ms, p x = true → Pu te (σ0.set 0 (some (u x))) H1 (f x))
    (fin : ∀ D H', H1 D = none → Same H1 H' → H' D = some (.lst ((ms.filter p).map f)) → Q (.ref D) H') :
    CompRun (Itt K a) (gName 0) tc te σ0 H1 Q := by
  intro D hD
  refine comp_by (n := ms.length) (fun i ys H' => Same H1 H' ∧ H' D = some (.lst ys) ∧ ys = ((ms.take i).filter p).map f) ⟨Same.new hD, upd_same, by simp⟩ (fun i ys H' _ q => q.2.1) (fun i ys H' hi q => ⟨ms.map u, u ms[i], q.1.tup hq, by simp [hi]⟩)
    (fun ys H' q => ⟨ms.map u, q.1.tup hq, by simp⟩) ?_ (fun ys H' q => ?_)
  · rintro i ys H' x H2 hi ⟨sm, hDl, hys⟩ ⟨rfl, hy⟩
    have hx : (ms.map u)[i]? = some x := hy _ (sm.tup hq)
    obtain ⟨z, hz, rfl⟩ : ∃ z, ms[i]? = some z ∧ u z = x := by
      rw [List.getElem?_map] at hx
      cases e : ms[i]? with
      | none => rw [e] at hx; cases hx
      | some z => rw [e] at hx; exact ⟨z, rfl, Option.some.inj hx⟩
    have hm : z ∈ ms := List.mem_of_getElem? hz
    have tk : ms.take (i + 1) = ms.take i ++ [z] := by
      rw [List.take_add_one, hz]
      simp only [Option.toList]
    have hlen : ys.length ≤ i := by
      rw [hys, List.length_map]
      exact Nat.le_trans (List.length_filter_le _ _) (by rw [List.length_take]; omega)
    refine ht z hm _ _ sm fun H4 s4 => ?_
    cases hp : p z with
    | true =>
      refine iteT ?_
      refine he z hm hp _ _ (sm.trans s4) fun H5 s5 => ⟨s5 _ _ (s4 _ _ hDl), by omega, ((sm.trans s4).trans s5).upd hD, upd_same, ?_⟩
      rw [tk, List.filter_append, List.map_append, ← hys]
      simp [hp]
    | false =>
      refine iteF ⟨sm.trans s4, s4 _ _ hDl, ?_⟩
      rw [tk, List.filter_append, List.map_append, ← hys]
      simp [hp]
  · obtain ⟨sm, hDl, hys⟩ := q
    rw [List.take_length] at hys
    exact fin D H' hD sm (by rw [← hys]; exact hDl)
end L2
set_option Elab.async false
set_option linter.all false
set_option maxRecDepth 100000
set_option maxHeartbeats 4000000
namespace L2
open PySem PySem.Spec PyProof.Rows PySem.Calls
theorem lri_nolen : typeLookup (.type "list_reverseiterator") "__len__" = pure none := by
  rw [typeLookup_type, builtinLookup_eq_fast]
  kernel_rfl
theorem lri_hints : typeLookup (.type "list_reverseiterator") "__length_hint__" = pure (some (.builtin "list_reverseiterator.__length_hint__")) := by
  rw [typeLookup_type, builtinLookup_eq_fast]
  kernel_rfl
section
variable {prog : Program} {w : World} {A : Around} {E : Value → Shared → Prop} {s : Shared}
theorem lri_hint {r : Addr} {Q : Bool → Shared → Prop} (hT : s.TypeIs (.ref r) "list_reverseiterator") (h : Q false s) : wpAny (model prog w) A (Builtin.List.listLengthHint (.ref r)) Q E s := by
  unfold Builtin.List.listLengthHint
  refine wpAny_bind (wpAny_specialOf hT lri_nolen ?_)
  show wpAny _ A (specialOf (Value.ref r) (Str.ofString "__length_hint__") >>= _) _ _ s
  refine wpAny_bind (wpAny_specialOf hT lri_hints ?_)
  generalize hid : ("list_reverseiterator.__length_hint__" : String) = id0
  wp_delta
  rw [show splitId id0 = some ("list_reverseiterator", "__length_hint__") by
    subst hid
    decide +kernel]
  subst hid
  refine wpAny_bind (wpAny_isInstance (b := true) hT (by
    rw [isSubtype_type]
    kernel_rfl) ?_)
  exact wpAny_pure h
theorem lri_list {I l : Addr} {its : Array Value} {Q : Value → Shared → Prop} (hh : A.handled = none) (hit : s.heap.IsRevIter I l ((its.size : Int) - 1)) (hl : s.heap.IsList l its) (hne : l ≠ I) (hn : its.size ≤ sizeLine)
    (hQ : ∀ h' tk acc' c', (∀ b o, b ≠ I → s.heap.get? b = some o → h'.get? b = some o) → h'.get? s.heap.objs.size = some { cls := .type "list", dict := none, data := .seq acc' c', slots := #[] } →
      ItemsOf (fun i v => its[its.size - 1 - i]? = some v) acc' its.size → Q (.ref s.heap.objs.size) { s with heap := h', toks := tk }) :
    wpAny (model prog w) A (call (.type "list") [.ref I]) Q E s := by
  have hI : I < s.heap.objs.size := by
    obtain ⟨o, e, _⟩ := hit
    exact Heap.lt_size e
  have hL : l < s.heap.objs.size := by
    obtain ⟨o, e, _⟩ := hl
    exact Heap.lt_size e
  generalize hz : s.heap.objs.size = S at hI hL hQ
  have nSI : S ≠ I := Nat.ne_of_gt hI
  have nSl : S ≠ l := Nat.ne_of_gt hL
  refine callType_codes
    (Q₁ := fun obj s₁ => obj = .ref S ∧ s₁ = { s with heap := s.heap.push { cls := .type "list", data := .seq #[] } })
    PySem.F.called_list (PySem.F.typeCall_list_1 _) PySem.F.entry_list_init
    (code_list_new _ ⟨by rw [hz], rfl⟩) (fun obj s₁ h₁ => ?_)
  obtain ⟨rfl, rfl⟩ := h₁
  have h0 : (s.heap.push { cls := .type "list", data := .seq #[] }).get? S = some { cls := .type "list", data := .seq #[] } := by
    rw [← hz]
    exact Heap.get?_push_size _ rfl
  refine ⟨⟨_, h0, rfl⟩, PySem.F.args_list_init_2 _ _, ?_⟩
  show wpAny _ _ (do
    let old ← Builtin.List.listItems (.ref S)
    Builtin.List.listUpdate (.ref S) (fun _ => #[])
    letGo old.toList.reverse
    Builtin.List.listExtendWith (.ref S) (.ref I) .none) _ _ _
  refine wpAny_bind ?_
  unfold Builtin.List.listItems
  refine wpAny_bind (wpAny_seqItems h0 rfl (wpAny_pure ?_))
  refine wpAny_bind (m := updateSeq S (fun _ => #[])) (wpAny_updateSeq h0 rfl ?_)
  have h1 := Heap.get?_update_self (Obj.mapSeq (fun _ => (#[] : Array Value))) h0 rfl
  have ot : ∀ b o, b ≠ S → s.heap.get? b = some o → ((s.heap.push { cls := .type "list", data := .seq #[] }).update S (Obj.mapSeq (fun _ => (#[] : Array Value)))).get? b = some o := fun b o hb e =>
    (Heap.get?_update_other _ _ (Ne.symm hb)).trans (Heap.get?_push_of_some _ e)
  generalize (s.heap.push { cls := .type "list", data := .seq #[] }).update S (Obj.mapSeq (fun _ => (#[] : Array Value))) = h2 at h1 ot ⊢
  refine wpAny_bind (wpAny_letGo ?_)
  have hit2 : h2.IsRevIter I l ((its.size : Int) - 1) := hit.at fun o e => ot _ _ (Ne.symm nSI) e
  have hl2 : h2.IsList l its := hl.at fun o e => ot _ _ (Ne.symm nSl) e
  unfold Builtin.List.listExtendWith
  refine wpAny_bind (wpAny_typeOf (T := "list_reverseiterator") hit2.typeIs ?_)
  have e1 : Builtin.List.listSameRef (.ref S) (.ref I) = false := by
    simp [Builtin.List.listSameRef, nSI]
  have e2 : (Value.type "list_reverseiterator" == Value.type "list") = false := by decide
  have e3 : (Value.type "list_reverseiterator" == Value.type "tuple") = false := by decide
  simp only [e1, e2, e3, Bool.or_false, Bool.false_eq_true, if_false]
  refine wpAny_bind (wpAny_pyIter_revIter hit2 ?_)
  refine wpAny_bind (wpAny_holding (lri_hint hit2.typeIs ?_))
  rw [if_neg (by decide)]
  have W := Walks.listRev (prog := prog) (w := w) (A := A.in1.in1) hh I l hne its
  refine wpAny_pure ⟨plainId_quiet PySem.F.plain_extend_loop _, ?_⟩
  refine codeAny_extend_loopS W.toS hn S (by simp [nSI, nSl]) .none its.size 0 _ #[] _ rfl (Nat.zero_le _) ?_ h1 (ItemsOf.nil _) (fun s' acc' c' hm hS' hacc => ?_)
  · refine ⟨Nat.zero_le _, ?_, hl2⟩
    simpa using hit2
  · rw [Moved.eq_with hm]
    refine ⟨rfl, hQ s'.heap s'.toks acc' c' (fun b o hb e => ?_) hS' hacc⟩
    have hbS : b ≠ S := fun z => by
      rw [z, ← hz] at e
      exact Nat.lt_irrefl _ (Heap.lt_size e)
    exact hm.heap b o (by simp [hbS, hb]) (ot b o hbS e)
end
end L2
namespace L2
open PySem PySem.Spec PyProof.Rows
/-- list(reversed(e)), e a list -/
def tRevL (K : PySem.W.Frag) (te : TE) : TE := fun σ H Q => te σ H fun x H1 => ∃ a xs, x = .ref a ∧ SqL K H1 a xs ∧ ∀ p, H1 p = none → Q (.ref p) (upd H1 p (.lst xs.reverse))
theorem pe_listrev {X : Cx} {e : Expr} {te : TE} {p1 p2 pos2 pos : Pos} (hc : X.calm = true) (hml : X.mg "list" = none) (hmr : X.mg "reversed" = none) (he : PE X e te) (hgl : Gl X "list" := by rfl) (hgr : Gl X "reversed" := by rfl)
    (k1 : starEach [e] X.env = [(false, eval e X.env)] := by rfl) :
    PE X (.Call (.Name "list" p1) [.Call (.Name "reversed" p2) [e] [] pos2] [] pos) (tRevL X.K te) := by
  intro pins s σ H Q I h
  refine wpAny_Call_Name_kw (ld_blt I hgl hml boot_list ?_ (by decide) (by decide))
  refine PyProof.Rows.callWith_type1 ?_ rfl rfl
  show wpAny _ _ (spliced ((false, eval (.Call (.Name "reversed" p2) [e] [] pos2) X.env) :: backTo pos (starEach [] X.env))) _ _ s
  refine Calls.spliced_cons ?_
  refine wpAny_Call_Name_kw (ld_blt I hgr hmr boot_reversed ?_ (by decide) (by decide))
  refine PyProof.Rows.callWith_type1 ?_ k1 rfl
  rw [k1]
  show wpAny _ _ (spliced ((false, eval e X.env) :: backTo pos2 (starEach [] X.env))) _ _ s
  refine Calls.spliced_cons (thn (he pins s σ H _ I h) fun u s1 ⟨x, H1, I1, r1, a, xs, ex, hq, q⟩ => ?_)
  subst ex
  cases r1
  obtain ⟨its, rv, pl, hz⟩ := I1.list hq
  have hl := pl.isList
  refine Calls.spliced_nil ?_
  refine call_reversed_list hl ?_
  refine Calls.spliced_nil ?_
  have hlt : a < s1.heap.objs.size := by
    obtain ⟨o, eo, _⟩ := hl
    exact Heap.lt_size eo
  have hlen := rv.length
  refine lri_list (I := s1.heap.objs.size) (l := a) (its := its.toArray) (I1.ok.hd hc) ⟨_, Heap.get?_push_size _ rfl, rfl, rfl⟩ (hl.push _) (Nat.ne_of_lt hlt) (by rw [List.size_toArray]; omega) (fun h' tk acc' c' hk hS hacc => ?_)
  have hk1 : ∀ b o, s1.heap.get? b = some o → h'.get? b = some o := fun b o eb => hk b o (Nat.ne_of_lt (Heap.lt_size eb)) (Heap.get?_push_of_some _ eb)
  have hrev : acc'.toList = its.reverse := by
    apply List.ext_getElem?
    intro i
    by_cases hi : i < its.length
    · rw [List.getElem?_reverse hi]
      have h2 : i < acc'.size := by
        rw [hacc.1, List.size_toArray]
        exact hi
      have h3 := hacc.2 i acc'[i] (Array.getElem?_eq_getElem h2)
      rw [List.size_toArray] at h3
      rw [Array.getElem?_toList, Array.getElem?_eq_getElem h2, ← h3]
      simp
    · rw [List.getElem?_eq_none (by rw [Array.length_toList, hacc.1, List.size_toArray]; omega), List.getElem?_eq_none (by rw [List.length_reverse]; omega)]
  refine ⟨.ref _, _, I1.laid (t' := tk) (o := .lst xs.reverse) hk1 (by show _ ≤ (s1.heap.push _).objs.size; rw [Heap.size_push]; exact Nat.le_succ _) ⟨by rw [List.length_reverse]; exact hz, its.reverse, c', rv.reverse, ?_⟩, rfl, q _ (I1.hok.fresh (by show _ ≤ (s1.heap.push _).objs.size; rw [Heap.size_push]; exact Nat.le_succ _))⟩
  rw [← hrev, Array.toArray_toList]
  exact hS
theorem at_ints {ns : List Int} {i : Nat} {x : V} (h : (ns.map V.int)[i]? = some x) : i < ns.length ∧ x = .int (ns.getD i 0) := by
  have hi : i < ns.length := by
    have := (List.getElem?_eq_some_iff.mp h).1
    rw [List.length_map] at this
    exact this
  refine ⟨hi, ?_⟩
  rw [List.getElem?_map, List.getElem?_eq_getElem hi] at h
  rw [List.getD_eq_getElem?_getD, List.getElem?_eq_getElem hi]
  exact (Option.some.inj h).symm
/-- over enumerate(list of ints), pure, all taken -/
theorem compE_map {K : PySem.W.Frag} {a : Addr} {ns : List Int} {σ0 : St} {H1 : Hp} {te : TE} {Q : VK} (f : Nat → V) (hq : SqL K H1 a (ns.map V.int)) (hn : ns.length ≤ 1000)
    (he : ∀ i, i < ns.length → Pu te ((σ0.set 0 (some (.int (i : Nat)))).set 1 (some (.int (ns.getD i 0)))) H1 (f i))
    (fin : ∀ D H', H1 D = none → Same H1 H' → H' D = some (.lst ((List.range ns.length).map f)) → Q (.ref D) H') :
    CompRun (Ite K a) (gTup K 2 (gCons (gName 0) (gCons (gName 1) gNil))) tTrue te σ0 H1 Q := by
  refine compE_run (xs := ns.map V.int) (fun D i ys H' => Same H1 H' ∧ H' D = some (.lst ys) ∧ ys = (List.range i).map f) (fun D hD => ⟨Same.new hD, upd_same, by simp⟩) (fun D i ys H' _ _ ⟨sm, e, _⟩ => ⟨e, sm.seq hq⟩) ?_ ?_
  · rintro D i x ys H' T hD hx ⟨sm, hDl, hys⟩ hT
    obtain ⟨hi, rfl⟩ := at_ints hx
    have smT : Same H' (upd H' T (.tup [.int (i : Nat), .int (ns.getD i 0)])) := Same.new hT
    unfold tTrue
    refine iteT ?_
    refine he i hi _ _ (sm.trans smT) fun H5 s5 => ⟨s5 _ _ (smT _ _ hDl), ?_, ((sm.trans smT).trans s5).upd hD, upd_same, ?_⟩
    · rw [hys, List.length_map, List.length_range]
      exact small1000 (by omega)
    · rw [List.range_succ, List.map_append, ← hys]
      rfl
  · rintro D ys H' hD ⟨sm, hDl, hys⟩
    rw [List.length_map] at hys
    exact fin D H' hD sm (by rw [hDl, hys])
/-- over zip of two lists of ints of one length, pure, all taken -/
theorem compZ_map {K : PySem.W.Frag} {a c : Addr} {ns ms : List Int} {σ0 : St} {H1 : Hp} {te : TE} {Q : VK} (f : Nat → V) (hq : SqL K H1 a (ns.map V.int)) (hq2 : SqL K H1 c (ms.map V.int)) (hlen : ns.length = ms.length) (hn : ns.length ≤ 1000)
    (he : ∀ i, i < ns.length → Pu te ((σ0.set 0 (some (.int (ns.getD i 0)))).set 1 (some (.int (ms.getD i 0)))) H1 (f i))
    (fin : ∀ D H', H1 D = none → Same H1 H' → H' D = some (.lst ((List.range ns.length).map f)) → Q (.ref D) H') :
    CompRun (Itz K a c) (gTup K 2 (gCons (gName 0) (gCons (gName 1) gNil))) tTrue te σ0 H1 Q := by
  intro D hD
  refine ⟨fun i m ys σ' H' => m = ns.length - i ∧ i ≤ ns.length ∧ (∀ u v, (σ'.set 0 u).set 1 v = (σ0.set 0 u).set 1 v) ∧ Same H1 H' ∧ H' D = some (.lst ys) ∧ ys = (List.range i).map f, ⟨ns.length, by simp, Nat.zero_le _, fun _ _ => rfl, Same.new hD, upd_same, by simp⟩, ?_⟩
  rintro i m ys σ' H' ⟨rfl, hi, es, sm, hDl, hys⟩
  refine ⟨hDl, ?_⟩
  have q := sm.seq hq
  have q2 := sm.seq hq2
  by_cases hlt : i < ns.length
  · refine .inr ⟨⟨_, _, .int ns[i], .int (ms[i]'(by omega)), q, q2, by simp [hlt], by simp⟩, fun x H2 y => ?_⟩
    obtain ⟨T, z, z2, rfl, hT, rfl, y, y2⟩ := y
    obtain ⟨_, rfl⟩ := at_ints (y _ q)
    obtain ⟨_, rfl⟩ := at_ints (y2 _ q2)
    have smT : Same H' (upd H' T (.tup [.int (ns.getD i 0), .int (ms.getD i 0)])) := Same.new hT
    refine ⟨T, _, rfl, SqT.of upd_same, rfl, _, _, rfl, _, _, rfl, rfl, ?_⟩
    unfold tTrue
    refine iteT ?_
    rw [es]
    refine he i hlt _ _ (sm.trans smT) fun H5 s5 => ⟨s5 _ _ (smT _ _ hDl), ?_, ns.length - (i + 1), by omega, rfl, hlt, fun _ _ => set2, ((sm.trans smT).trans s5).upd hD, upd_same, ?_⟩
    · rw [hys, List.length_map, List.length_range]
      exact small1000 (by omega)
    · rw [List.range_succ, List.map_append, ← hys]
      rfl
  · have e : i = ns.length := by omega
    subst e
    exact .inl ⟨⟨_, _, q, q2, .inl (by rw [List.length_map]; exact Nat.le_refl _)⟩, fin D H' hD sm (by rw [hDl, hys])⟩
theorem pg_cz {X : Cx} {N' : List Str} {scope : Scope} {cl : List (Str × Addr)} {C : Addr} {s2 : Shared} {H2 : Hp} {ex : List Addr} {y z : Str} {p1 p2 pos : Pos} {k : Nat} (K : PySem.W.Frag) (hc : X.calm = true) (nd : N'.Nodup) (h0 : N'[0]? = some y := by rfl) (h1 : N'[1]? = some z := by rfl)
    (hy : (relabel scope X.env).names.lookup y = some .local := by rfl) (hz : (relabel scope X.env).names.lookup z = some .local := by rfl) (hK : X.K = K := by rfl) :
    PG (X.comp N' scope cl C s2 H2 ex) (.Tuple [.Name y p1, .Name z p2] k pos) (gTup K 2 (gCons (gName 0) (gCons (gName 1) gNil))) := pg_c2 K hc nd h0 h1 hy hz hK
end L2
set_option maxRecDepth 100000
namespace L2
open PySem PySem.Spec PyProof.Rows

/-! ### exceptions: how one lies in flight -/
theorem ObjOk.get {P : Program} {w : World} {H : Hp} {h : Heap} {a : Addr} {o : HO} (x : ObjOk P w H h a o) : ∃ u, h.get? a = some u := by
  cases o with
  | lst xs => obtain ⟨_, _, _, _, e⟩ := x; exact ⟨_, e⟩
  | tup xs => obtain ⟨_, _, _, _, e, _⟩ := x; exact ⟨_, e⟩
  | dK kvs => obtain ⟨_, _, _, _, o, _, _, e, _⟩ := x; exact ⟨_, e⟩
  | dT kvs => obtain ⟨_, _, _, _, o, _, _, e, _⟩ := x; exact ⟨_, e⟩
  | set S n => obtain ⟨o, _, _, _, e, _⟩ := x; exact ⟨_, e⟩
  | ins C dx fs => obtain ⟨_, _, _, e, _⟩ := x; exact ⟨_, e⟩
  | own y => exact x
  | xd fs => obtain ⟨_, ⟨_, _, _, e, _⟩, _⟩ := x; exact ⟨_, e⟩
  | rng lo hi => obtain ⟨_, _, _, e⟩ := x; exact ⟨_, e⟩
  | frz ob u => exact ⟨_, x.1⟩
  | tbl ps => exact ⟨_, x⟩
  | met f y => exact ⟨_, x⟩
  | ext φ => exact x.2.1

/-- the exception at e: class cls, a record of its way, the mark fl of the frame that looks at it; both records new since s, untracked -/
def Trc (h : Heap) (H' : Hp) (g : Heap) (e : Addr) (cls fl : Value) : Prop :=
  ∃ a0 oe vs T oT ts, h.get? e = some oe ∧ (oe.cls = cls ∧ vs[0]? = some a0) ∧ oe.data = .fields vs ∧ vs[1]? = some (.ref T) ∧ T ≠ e ∧ h.get? T = some oT ∧ oT.data = .fields ts ∧ ts[3]? = some fl ∧ (H' e = none ∧ H' T = none) ∧ g.get? e = none ∧ g.get? T = none
structure Fli (P : Program) (w : World) (l : List Env) (H : Hp) (s : Shared) (e : Addr) (cls fl : Value) (H' : Hp) (s' : Shared) : Prop where
  os : s'.os = s.os
  bare : AllBare s'.gens
  un : Un (frs l) [] H H' s.heap s'.heap
  hok : HOk P w H' s'.heap
  tr : Trc s'.heap H' s.heap e cls fl
section
variable {P : Program} {w : World} {l : List Env} {H H' : Hp} {s s1 : Shared} {e : Addr} {cls fl : Value}
theorem fli_of {base : Heap} (F : Fli P w l H s e cls fl H' s1) (hfr : s1.heap.FunFrames base l) (hff : ∀ b ∈ frs l, H' b = none) :
    ∃ (B : Heap) (a0 : Value), (B.StaysIn s1.heap ∧ B.get? e = none ∧ s1.heap.FunFrames B l ∧ s1.heap.TracedAtW B e cls a0 fl) ∧
      ∀ h' fl', B.StaysIn h' → h'.TracedAtW B e cls a0 fl' → s1.heap.UpToSlots h' → Fli P w l H s e cls fl' H' { s1 with heap := h' } := by
  obtain ⟨a0, oe, vs, T, oT, ts, h1, h2, h3, h4, h5, h6, h7, h8, ⟨h9, h10⟩, h11, h12⟩ := F.tr
  have none_of : ∀ b, b ∈ e :: T :: frs l → (PySem.W.hideAll s1.heap (e :: T :: frs l)).get? b = none := fun b hb => PySem.W.hideAll_none _ hb
  have at_of : ∀ b o, s1.heap.get? b = some o → b ∉ e :: T :: frs l → (PySem.W.hideAll s1.heap (e :: T :: frs l)).get? b = some o := fun b o q hb => PySem.W.hideAll_get _ q hb
  have nofld : ∀ b ∈ frs l, ∀ o, s1.heap.get? b = some o → ∀ vs, o.data ≠ .fields vs := fun b hb o q => by
    obtain ⟨_, o', ho', hn⟩ := hfr.mem hb
    rw [q] at ho'; cases ho'; exact hn
  have hidT : ∀ b, H' b ≠ none → b ∉ e :: T :: frs l := fun b q z => by
    rcases List.mem_cons.mp z with r | z
    · rw [r] at q; exact q h9
    · rcases List.mem_cons.mp z with r | z
      · rw [r] at q; exact q h10
      · exact q (hff b z)
  refine ⟨PySem.W.hideAll s1.heap (e :: T :: frs l), a0, ⟨fun b o q => PySem.W.of_hideAll _ q, none_of e List.mem_cons_self, PySem.W.funFrames_hide hfr fun env he a ha => ?_, oe, vs, T, oT, ts, h1, h2, h3, h4, none_of T (by simp), h5, h6, h7, h8⟩, fun h' fl' hB ht hu => ?_⟩
  · exact List.mem_cons_of_mem _ (List.mem_cons_of_mem _ (List.mem_filterMap.mpr ⟨env, he, ha⟩))
  · obtain ⟨oe', vs', T', oT', ts', k1, k2, k3, k4, k5, k6, k7, k8, k9⟩ := ht
    have hT' : H' T' = none := by
      cases q : H' T' with
      | none => rfl
      | some u =>
        obtain ⟨ob, hob⟩ := (F.hok _ _ q).get
        have := at_of T' ob hob (hidT T' (by rw [q]; simp))
        rw [k5] at this; cases this
    have gT' : s.heap.get? T' = none := by
      cases q : s.heap.get? T' with
      | none => rfl
      | some u =>
        obtain ⟨ob, hob⟩ := F.un.there T' u q (by simp)
        by_cases z : T' ∈ e :: T :: frs l
        · rcases List.mem_cons.mp z with r | z
          · exact absurd r k6
          · rcases List.mem_cons.mp z with r | z
            · rw [r, h12] at q; cases q
            · obtain ⟨sl, hsl⟩ := hu T' ob hob (nofld T' z ob hob)
              rw [k7] at hsl; cases hsl
              exact absurd k8 (nofld T' z ob hob _)
        · have := at_of T' ob hob z
          rw [k5] at this; cases this
    have new : ∀ b o, s.heap.get? b = some o → b ∉ frs l → b ∉ e :: T :: frs l := fun b o q hb z => by
      rcases List.mem_cons.mp z with r | z
      · rw [r, h11] at q; cases q
      · rcases List.mem_cons.mp z with r | z
        · rw [r, h12] at q; cases q
        · exact hb z
    refine ⟨F.os, F.bare, ⟨fun b o q n hb _ => ?_, fun b o q n hb _ => ?_, F.un.free, fun b o q _ => ?_, F.un.tups, F.un.frzs, F.un.tbls⟩, fun b o q => ?_, a0, oe', vs', T', oT', ts', k1, k2, k3, k4, k6, k7, k8, k9, ⟨h9, hT'⟩, h11, gT'⟩
    · exact hB b o (at_of b o (F.un.keep b o q n hb (by simp)) (new b o q hb))
    · obtain ⟨sl, q1⟩ := F.un.slot b o q n hb (by simp)
      obtain ⟨sl', q2⟩ := hu b _ q1 (nofld b hb _ q1)
      exact ⟨sl', q2⟩
    · obtain ⟨o', q1⟩ := F.un.there b o q (by simp)
      by_cases hb : b ∈ frs l
      · obtain ⟨sl', q2⟩ := hu b _ q1 (nofld b hb _ q1)
        exact ⟨_, q2⟩
      · exact ⟨o', hB b o' (at_of b o' q1 (new b o q hb))⟩
    · refine (F.hok b o q).stay (fun c v hc r => hB c v (at_of c v r (hidT c ?_))) (fun _ z => z) fun _ _ z => z
      rcases hc with z | z
      · rw [z, q]; simp
      · rw [z]; simp
end

/-- how an exception lies behind a call -/
def CXW (P : Program) (w : World) : CXT := fun l H s E ev s' => ∃ e cls H', ev = .ref e ∧ Fli P w l H s e cls .none H' s' ∧ E cls none H'
/-- an exception of a callee, lying in flight, does what this context wants where R holds -/
def Flies (X : Cx) (R : St → Value → Hp → Prop) : Prop := ∀ (pins : List (Addr × Obj)) (σ : St) (H : Hp) (s : Shared) (e : Addr) (cls : Value) (H' : Hp) (s' : Shared), Inv X pins σ H s → Fli X.prog X.w X.stack H s e cls .none H' s' → R σ cls H' → X.xe (.ref e) s'
/-- the same of an exception that is made here -/
def Throws (X : Cx) (R : St → Value → Hp → Prop) : Prop := ∀ (pins : List (Addr × Obj)) (σ : St) (H : Hp) (s : Shared) (e : Addr) (cls : Value) (vs : List Value) (h' : Heap), Inv X pins σ H s → Heap.MadeExcOf s.heap h' e cls vs → R σ cls H → X.xe (.ref e) { s with heap := h' }
section
variable {X : Cx} {pins : List (Addr × Obj)} {σ : St} {H H' : Hp} {s s' : Shared} {e : Addr} {cls fl : Value}
theorem Inv.fly (I : Inv X pins σ H s) (F : Fli X.prog X.w X.stack H s e cls fl H' s') : Inv X pins σ H' s' := I.call' (ch := []) F.os F.un F.hok F.bare fun b z => absurd z (by simp)
theorem Inv.old (I : Inv X pins σ H s) (hex : X.ex = []) {b : Addr} (h : s.heap.get? b = none) : X.s₀.heap.get? b = none := by
  cases q : X.s₀.heap.get? b with
  | none => rfl
  | some o =>
    obtain ⟨o', q'⟩ := I.base.there b o q (by rw [hex]; simp)
    rw [h] at q'; cases q'
/-- behind this frame -/
theorem Fli.out (I : Inv X pins σ H s) (F : Fli X.prog X.w X.stack H s e cls fl H' s') (hex : X.ex = []) : Fli X.prog X.w X.outer X.H₀ X.s₀ e cls fl H' s' := by
  have J := I.fly F
  obtain ⟨a0, oe, vs, T, oT, ts, h1, h2, h3, h4, h5, h6, h7, h8, h9, h11, h12⟩ := F.tr
  refine ⟨J.os, J.bare, ?_, J.hok, a0, oe, vs, T, oT, ts, h1, h2, h3, h4, h5, h6, h7, h8, h9, I.old hex h11, I.old hex h12⟩
  have := J.base
  rw [hex] at this
  exact this
/-- an exception that is made here, behind the frame's leaving -/
theorem fli_made {B h' h'' : Heap} {a0 : Value} {vs : List Value} (I : Inv X pins σ H s) (hB : B = PySem.W.hideAll s.heap (frs X.stack)) (hx : Heap.MadeExcOf s.heap h' e cls vs) (ht : h''.TracedW B e cls a0) (hs : B.StaysIn h'') (hu : h'.UpToSlots h'') :
    Fli X.prog X.w X.stack H s e cls .none H { s with heap := h'' } := by
  subst hB
  obtain ⟨oe, ws, T, oT, ts, k1, k2, k3, k4, k5, k6, k7, k8, k9⟩ := ht
  have nofld : ∀ b ∈ frs X.stack, ∃ o, s.heap.get? b = some o ∧ ∀ vs, o.data ≠ .fields vs := fun b hb => (I.stack.mem hb).2
  have at_of : ∀ b o, s.heap.get? b = some o → b ∉ frs X.stack → h''.get? b = some o := fun b o q hb => hs b o (PySem.W.hideAll_get _ q hb)
  have gT : s.heap.get? T = none := by
    cases q : s.heap.get? T with
    | none => rfl
    | some u =>
      by_cases z : T ∈ frs X.stack
      · obtain ⟨o, ho, hn⟩ := nofld T z
        obtain ⟨sl, hsl⟩ := hu T o (hx.keeps T o ho) hn
        rw [k7] at hsl; cases hsl
        exact absurd k8 (hn _)
      · have := PySem.W.hideAll_get _ q z
        rw [k5] at this; cases this
  have fr : ∀ b, s.heap.get? b = none → H b = none := fun b q => by
    cases r : H b with
    | none => rfl
    | some u =>
      obtain ⟨o, ho⟩ := (I.hok b u r).get
      rw [q] at ho; cases ho
  have sl : ∀ b o, s.heap.get? b = some o → b ∈ frs X.stack → ∃ sl, h''.get? b = some { o with slots := sl } := fun b o q hb => by
    obtain ⟨o', ho', hn⟩ := nofld b hb
    rw [q] at ho'; cases ho'
    exact hu b o (hx.keeps b o q) hn
  refine ⟨rfl, I.bare, ⟨fun b o q _ hb _ => at_of b o q hb, fun b o q _ hb _ => sl b o q hb, fun _ _ _ n _ => n, fun b o q _ => ?_, fun _ _ q => q, fun _ _ _ q => q, fun b ps q => ⟨#[], by rw [q]; simp⟩⟩, fun b o q => ?_, a0, oe, ws, T, oT, ts, k1, k2, k3, k4, k6, k7, k8, k9, ⟨fr e hx.new, fr T gT⟩, hx.new, gT⟩
  · by_cases hb : b ∈ frs X.stack
    · obtain ⟨_, z⟩ := sl b o q hb
      exact ⟨_, z⟩
    · exact ⟨o, at_of b o q hb⟩
  · refine (I.hok b o q).stay (fun c v hc r => at_of c v r fun hb => ?_) (fun _ z => z) fun _ _ z => z
    have n := I.stkFree c hb
    rcases hc with z | z
    · rw [z, q] at n; cases n
    · rw [z] at n; cases n
end

section
variable {P : Program} {w : World} {K : PySem.W.Frag} {mg : Str → Option Value} {base : Heap} {N : List Str} {qual : Str} {scope : Scope} {f : Addr} {cd : Value} {A : Around} {outer : List Env} {s : Shared} {H : Hp} {E : XK}
/-- through a def's frame -/
theorem flies_def : Flies (cxOf (CXW P w) P w K mg base N qual scope f cd A outer s H E) fun _ cls H' => E cls none H' := by
  intro pins σ H1 s1 e cls H' s' I F r
  have J := I.fly F
  obtain ⟨B, a0, ⟨b1, b2, b3, b4⟩, st⟩ := fli_of F J.stack J.stkFree
  refine wpAny_leaves_onW I.ok.frames rfl ⟨b1, b2, b3, b4⟩ fun h' hf hu => ?_
  exact ⟨e, cls, H', rfl, Fli.out I (st h' .none hf.1 hf.2.2.2 hu) rfl, r⟩
theorem throws_def : Throws (cxOf (CXW P w) P w K mg base N qual scope f cd A outer s H E) fun _ cls H' => E cls none H' := by
  intro pins σ H1 s1 e cls vs h' I hx r
  refine wpAny_leaves_madeW (base := PySem.W.hideAll s1.heap (frs (envOfC qual scope s.heap.objs.size f cd :: outer))) I.ok.frames rfl (fun b o q => PySem.W.of_hideAll _ q)
    (PySem.W.funFrames_hide I.stack fun env he a ha => List.mem_filterMap.mpr ⟨env, he, ha⟩) hx fun h'' t hf _ _ hu => ?_
  exact ⟨e, cls, H1, rfl, Fli.out I (fli_made I rfl hx hf.2.2.2 hf.1 hu) rfl, r⟩
end

/-! ### a def that may raise -/
def FnAtX (P : Program) (w : World) (K : PySem.W.Frag) (mg : Str → Option Value) (base : Heap) (k : Nat) (x : Str) (ps : List Str) (sp : Sp) : Prop :=
  ∃ f, mg x = some (.ref f) ∧ PySem.W.keepIn K (.ref f) = true ∧ (∀ vs H Q E, sp vs H Q E → vs.length = ps.length) ∧
    ∀ (A : Around) (outer : List Env) (s : Shared) (H : Hp) (us : List Value) (vs : List V) (Q : VK) (E : XK), Room k A → Env0 P w K mg base A outer s H → Vals vs us → sp vs H Q E → codeAny (model P w) A (.call (.ref f) ⟨us, []⟩) (CR (CXW P w) outer P w H s Q E) s
section
variable {P : Program} {w : World} {K : PySem.W.Frag} {mg : Str → Option Value} {base : Heap} {j k : Nat} {x : Str} {ps : List Str} {sp sp' : Sp}
theorem FnAtX.mono (F : FnAtX P w K mg base j x ps sp) (h : j ≤ k) : FnAtX P w K mg base k x ps sp :=
  let ⟨f, a, b, c, d⟩ := F
  ⟨f, a, b, c, fun A outer s H us vs Q E hr => d A outer s H us vs Q E (hr.mono h)⟩
theorem FnAtX.imp (F : FnAtX P w K mg base k x ps sp) (h : ∀ vs H Q E, sp' vs H Q E → sp vs H Q E) : FnAtX P w K mg base k x ps sp' :=
  let ⟨f, a, b, c, d⟩ := F
  ⟨f, a, b, fun vs H Q E q => c vs H Q E (h _ _ _ _ q), fun A outer s H us vs Q E hr e0 r q => d A outer s H us vs Q E hr e0 r (h _ _ _ _ q)⟩
/-- either promise -/
theorem FnAtX.or (F : FnAtX P w K mg base k x ps sp) (G : FnAtX P w K mg base k x ps sp') : FnAtX P w K mg base k x ps (fun vs H Q E => sp vs H Q E ∨ sp' vs H Q E) := by
  obtain ⟨f, a, b, c, d⟩ := F
  obtain ⟨f', a', b', c', d'⟩ := G
  have e := a.symm.trans a'
  injection e with e
  injection e with e
  subst e
  exact ⟨f, a, b, fun vs H Q E q => q.elim (c vs H Q E) (c' vs H Q E), fun A outer s H us vs Q E hr e0 r q => q.elim (d A outer s H us vs Q E hr e0 r) (d' A outer s H us vs Q E hr e0 r)⟩
theorem FnAtX.at {CX : CXT} {f : Addr} {fd : FuncData} (F : FnOk P w K mg base CX k f fd ps sp) (hm : mg x = some (.ref f)) (hk : PySem.W.keepIn K (.ref f) = true) (hb : Binds K fd ps []) (hc : ∀ l H s E e s', CX l H s E e s' → CXW P w l H s E e s') : FnAtX P w K mg base k x ps sp := by
  refine ⟨f, hm, hk, F.len, fun A outer s H us vs Q E hr e0 r q => ?_⟩
  have hl : us.length = ps.length := by rw [← r.length]; exact F.len _ _ _ _ q
  refine codeAny_mono (F.run A outer s H ⟨us, []⟩ us vs Q E hr e0 (by simpa using hb s us (e0.mod.kin.keeps fun b o z => (e0.bs b o z).1) (by simpa using hl)) r q) fun res s' hq => ?_
  cases res with
  | error ev => exact hc _ _ _ _ _ _ hq
  | ok fl => cases fl <;> exact hq
/-- a def that never raises -/
theorem FnAt.toX (F : FnAt P w K mg base k x ps sp) : FnAtX P w K mg base k x ps sp :=
  let ⟨_, _, a, b, c, d⟩ := F
  .at a b c d fun _ _ _ _ _ _ z => z.elim
theorem FnAtX.of {st : Stmt} {N : List Str} (D : DefAt K mg x st ps) (S : FnScope N ps (defScope st)) (len : ∀ vs H Q E, sp vs H Q E → vs.length = ps.length)
    (hbody : ∀ (f : Addr) (cdv : Value) (A : Around) (outer : List Env) (s : Shared) (H : Hp) (vs : List V) (Q : VK) (E : XK), Room k (A.deeper (envOfC x (defScope st) s.heap.objs.size f cdv)) → sp vs H Q E →
      ∃ t, PSs (cxOf (CXW P w) P w K mg base N x (defScope st) f cdv A outer s H E) (defBody st) t ∧ t { nx := fun _ H' => Q .non H', rt := Q } (start N vs) H) : FnAtX P w K mg base (k + 1) x ps sp := by
  obtain ⟨f, fd, F, hm, hb⟩ := D
  obtain ⟨oc, od, kV, doc, pm, an, cdv, ct, osl, rfl, lk, hcd⟩ := F.ex
  exact .at (CX := CXW P w) (fn_of lk hcd S len fun A outer s H vs Q E hr hsp => hbody f cdv A outer s H vs Q E hr hsp) hm F.kp hb fun _ _ _ _ _ _ z => z
end
/-- a call that may raise: what is wanted of an exception is R, of the names' values, the class and the heap -/
def tFx (sp : Sp) (R : St → Value → Hp → Prop) (t : TA) : TE := fun σ H Q => t σ H fun vs H1 => sp vs H1 Q fun cls _ H' => R σ cls H'
section
variable {X : Cx} {k : Nat} {x : Str} {ps : List Str} {sp : Sp} {e : Expr} {es : List Expr} {t : TA} {p pos : Pos} {R : St → Value → Hp → Prop}
theorem pe_fx (F : FnAtX X.prog X.w X.K X.mg X.base k x ps sp) (hr : Room k X.A) (hR : Flies X R) (ha : PA X (e :: es) t) (hg : Gl X x := by rfl) (hdb : (x == ("__debug__" : Str)) = false := by decide)
    (he : starEach (e :: es) X.env = (false, eval e X.env) :: starEach es X.env := by rfl) (hpl : (backTo pos (starEach es X.env)).any (·.1) = false := by rfl) : PE X (.Call (.Name x p) (e :: es) [] pos) (tFx sp R t) := by
  obtain ⟨f, hm, hk, hl, run⟩ := F
  intro pins s σ H Q I h
  refine wpAny_Call_Name_kw (ld_glob I hg hm ?_ hdb)
  refine PySem.W.callWith_K (h₀ := X.base) I.ok.mod.kin hk (thn (ha pos pins s σ H _ I h) fun us s1 ⟨vs, H1, I1, r, q⟩ => ⟨I1.kIn, ?_⟩) he hpl
  refine wpAny_call (codeAny_mono (run X.A X.stack s1 H1 us vs Q _ hr I1.env0 r q) fun res s' hq => ?_)
  cases res with
  | error ev =>
    obtain ⟨e', cls, H', rfl, Fl, rr⟩ := hq
    exact hR pins σ H1 s1 e' cls H' s' I1 Fl rr
  | ok fl =>
    cases fl with
    | ret u => exact I1.after hq
    | next => exact False.elim hq
    | brk => exact False.elim hq
    | cont => exact False.elim hq
end
end L2
set_option maxRecDepth 100000
namespace L2
open PySem PySem.Spec PySem.Calls PyProof.Rows
open Builtin Builtin.ObjectAttr Builtin.Getset_descriptor

/-! ### own classes of exceptions, under ValueError -/
structure ExcK (K : PySem.W.Frag) (C : Addr) : Prop where
  exc : PySem.W.excIn K C [.type "ValueError", .type "Exception", .type "BaseException", .type "object"] "ValueError.__new__" = true
  ga : PySem.W.findIn K (.ref C) "__getattribute__" = some (some (.builtin "BaseException.__getattribute__"))
  gt : PySem.W.findIn K (.ref C) "__getattr__" = some none
  cl : PySem.W.findIn K (.ref C) "__class__" = some (some (.builtin "object.__class__"))
  ob : PySem.W.mroIn K C (.type "object") = some true
  bx : PySem.W.mroIn K C (.type "BaseException") = some true
theorem exc_obj {K : PySem.W.Frag} {h : Heap} {C : Addr} {nid : String} {bmB : List Value} (Y : K.In h) (q : PySem.W.excIn K C bmB nid = true) :
    ∃ bm N nm qn bs hd sn sub ab col dd k0 k1 k2 k3 k5 mN, h.get? C = some (excClassObj nm qn C N bs bm hd sn sub ab col dd k0 k1 k2 k3 k5 nid) ∧ h.Ns N mN ∧ mN "__init__" = none ∧ OwnTail h bmB bm := by
  unfold PySem.W.excIn at q
  split at q
  · next dd cdt slt hlk =>
    split at q
    · next C1 bm1 j0 j1 j2 j3 n1 j5 hmro hslots =>
      simp only [Bool.and_eq_true, beq_iff_eq, Bool.not_eq_true'] at q
      obtain ⟨⟨⟨⟨⟨e1, e2⟩, hdl⟩, htl⟩, hns⟩, hin⟩ := q
      subst e1 e2
      obtain ⟨nm, bs, mro, ns, qn, hd, sn, sub, ab, col, del⟩ := cdt
      dsimp only at hmro hdl hns hin
      subst hmro hdl
      obtain ⟨sll⟩ := slt
      have hz : sll = [j0, j1, j2, j3, some (.builtin n1), j5] := hslots
      subst hz
      exact ⟨bm1, ns, nm, qn, bs, hd, sn, sub, ab, col, dd, j0, j1, j2, j3, j5, _, Y _ _ hlk, .of_isNs (PySem.W.isNs_of_in Y hns), PySem.W.nsMap_none_of_in Y hns hin, PySem.W.tail_of_in Y htl⟩
    · cases q
  · cases q

/-- raise C(text) -/
def tRaise (R : St → Value → Hp → Prop) (C : Addr) : TS := fun _ σ H => R σ (.ref C) H
theorem ps_raise {X : Cx} {R : St → Value → Hp → Prop} {x : Str} {C : Addr} {e₀ : Expr} {msg : Str} {np cpos pos : Pos} (hx : Throws X R) (hk : ExcK X.K C) (ha : PE X e₀ (tC (.str msg))) (hm : X.mg x = some (.ref C)) (hg : Gl X x := by rfl) (hc : X.calm = true := by rfl)
    (hdb : (x == ("__debug__" : Str)) = false := by decide) (he : starEach [e₀] X.env = (false, eval e₀ X.env) :: starEach [] X.env := by rfl) (hpl : (backTo cpos (starEach ([] : List Expr) X.env)).any (·.1) = false := by rfl) :
    PS X (.Raise (some (.Call (.Name x np) [e₀] [] cpos)) none pos) (tRaise R C) := by
  intro pins s σ H D I h
  obtain ⟨bm, N, nm, qn, bs, hd, sn, sub, ab, col, dd, k0, k1, k2, k3, k5, mN, hC, hN, hni, T⟩ := exc_obj I.ok.mod.kin hk.exc
  have hpa : PA X [e₀] (tCons (tC (.str msg)) tNil) := pa_cons ha pa_nil he
  refine wpAny_Raise_call_subU (nm := nm) (q := qn) (N := N) (bs := bs) (hdct := hd) (sn := sn) (sub := sub) (ab := ab) (col := col) (dd := dd) (k0 := k0) (k1 := k1) (k2 := k2) (k3 := k3) (k5 := k5) PySem.F.excBase_ValueError (by decide) PySem.F.excBase_ValueError (T.hasType (b := true) (by decide)) (I.ok.hd hc) (by rw [he]; show (false || (backTo cpos (starEach ([] : List Expr) X.env)).any (·.1)) = false; rw [hpl]; rfl) hni (ld_glob I hg hm ⟨rfl, ?_⟩ hdb)
  have z := hpa cpos pins s σ H (fun vs H1 => vs = [.str msg] ∧ H1 = H) I ⟨rfl, rfl⟩
  rw [he] at z ⊢
  refine Calls.evalArgs_plain (wpAny_mono z (fun us s2 ⟨vs, H1, I2, r, hv, hH⟩ => ?_) fun _ _ y => y)
  subst hv hH
  have hl : us.length = 1 := by rw [← r.length]; rfl
  refine ⟨rfl, by show us.length ≤ _; rw [hl]; decide, I2.bk _ _ hC, hN.keeps I2.bk, T.keeps I2.bk, fun h' e hx' => ?_⟩
  exact hx pins σ _ s2 e _ _ h' I2 hx' h

/-- except D: of an exception of a class under D -/
theorem exc_match {M : Model} {A : Around} {E : Value → Shared → Prop} {Q : Bool → Shared → Prop} {K : PySem.W.Frag} {e C D : Addr} {oe : Obj} {s : Shared} (Y : K.In s.heap) (hD : ExcK K D) (hm : PySem.W.mroIn K C (.ref D) = some true)
    (he : s.heap.get? e = some oe) (hcls : oe.cls = .ref C) (hq : Q true s) : wpAny M A (excMatches (.ref e) (.ref D)) Q E s := by
  obtain ⟨h, g, d, t, os⟩ := s
  obtain ⟨bm, N, nm, qn, bs, hd, sn, sub, ab, col, dd, k0, k1, k2, k3, k5, mN, hO, hN, hni, T⟩ := exc_obj Y hD.exc
  have hcB : (Value.ref D :: bm).contains (.type "BaseException") = true := by rw [List.contains_cons, T.hasType (b := true) (by decide), Bool.or_true]
  have L := PySem.W.looks_mroIn (M := M) Y hm
  have f := tc_notTuple
  unfold excMatches
  repeat (first | (with_reducible refine wpAny_loadPart_at he ?_; rw [hcls]) | with_reducible refine wpAny_loadPart_at hO ?_ | (with_reducible refine wpAny_isSubtype_exc hO ?_; rw [hcB]) | with_reducible refine L.at ?_ | wp_step)
  exact hq

/-! ### isinstance of an exception -/
def ExcAt (e C : Addr) (h : Heap) : Prop := ∃ oe vs, h.get? e = some oe ∧ oe.cls = .ref C ∧ oe.data = .fields vs
section
variable {K : PySem.W.Frag} {C e : Addr}
theorem excAt_ty {h : Heap} (M : Model) (p : ExcAt e C h) : PySem.W.Looks M h (typeOf (.ref e)) (.ref C) := by
  obtain ⟨oe, vs, h1, h2, _⟩ := p
  exact h2 ▸ (PySem.W.Looks.ld h1).andThen .now
theorem exc_cls (k : ExcK K C) : ∃ c' d' cd sl, K.lookup C = some ⟨c', d', .cls cd, sl⟩ := by
  obtain ⟨cd, a, _⟩ := Option.bind_eq_some_iff.mp k.ob
  unfold PySem.W.clsIn at a
  split at a
  · next z => exact ⟨_, _, _, _, z⟩
  · cases a
theorem exc_check {M : Model} {A : Around} {E : Value → Shared → Prop} {h : Heap} {g : Array GenState} {d : Drawn} {t : Nat} {os : OsState} {nv : Value} {Q : Unit → Shared → Prop} (k : ExcK K C) (Y : K.In h) (p : ExcAt e C h) (hq : Q () ⟨h, g, d, t, os⟩) :
    wpAny M A (checkBuiltinCall "BaseException.__getattribute__" ⟨[.ref e, nv], []⟩) Q E ⟨h, g, d, t, os⟩ := by
  have hkd : builtinKind "BaseException.__getattribute__" = some .slot := by decide +kernel
  have hsp : splitId "BaseException.__getattribute__" = some ("BaseException", "__getattribute__") := by decide +kernel
  have L0 := excAt_ty M p
  have L1 := PySem.W.looks_mroIn (M := M) Y k.bx
  have ha := F.args_bexc_ga (.ref e) nv
  simp only [checkBuiltinCall, hkd, hsp]
  refine wpAny_bind ?_
  unfold isInstance
  repeat (first | with_reducible refine L0.at ?_ | with_reducible refine L1.at ?_ | wp_step)
  exact hq
theorem exc_clsget {prog : Program} {w : World} {A : Around} {h : Heap} {g : Array GenState} {d : Drawn} {t : Nat} {os : OsState} {tp : Value} {R : Result → Shared → Prop} (k : ExcK K C) (Y : K.In h) (p : ExcAt e C h) (hq : R (.ok (.ret (.ref C))) ⟨h, g, d, t, os⟩) :
    codeAny (model prog w) A (.call (.builtin "getset_descriptor.__get__") ⟨[.builtin "object.__class__", .ref e, tp], []⟩) R ⟨h, g, d, t, os⟩ := by
  have L0 := excAt_ty (model prog w) p
  have L1 := PySem.W.looks_mroIn (M := model prog w) Y k.ob
  refine codeAny_call_builtin PySem.W.KF.slot_gs.plain PySem.W.KF.entry_gs (PySem.W.KF.slot_gs.check _ _ _ _ _ _ _ _ PySem.W.KF.type_class (PySem.W.KF.args_gs _ _ _) ?_)
  unfold Builtin.«getset_descriptor.__get__» descrGet
  rw [PySem.W.dga_obj]
  refine wpAny_bind (wpAny_pure ?_)
  unfold descrGetter descrCheckInstance descrNameAndClass isInstance
  simp only [PySem.W.KF.owner_class]
  repeat lk
  refine ⟨Code.quiet_builtin _ (by decide +kernel), codeAny_builtin PySem.W.KF.entry_class ?_⟩
  unfold Builtin.«object.__class__» shownTypeOf
  repeat lk
  exact hq
theorem exc_clsent {prog : Program} {w : World} {A : Around} {E : Value → Shared → Prop} {h : Heap} {g : Array GenState} {d : Drawn} {t : Nat} {os : OsState} {tk : Tok} {Q : Fin → Shared → Prop} (k : ExcK K C) (Y : K.In h) (p : ExcAt e C h) (hq : Q (.done (.ret (.ref C))) ⟨h, g, d, t, os⟩) :
    wpAny (model prog w) A (Builtin.«object.__getattribute__» ⟨[.ref e, .str "__class__" tk], []⟩) Q E ⟨h, g, d, t, os⟩ := by
  have L0 := excAt_ty (model prog w) p
  have L1 := PySem.W.looks_findIn (M := model prog w) Y k.cl
  have hT5 : (⟨h, g, d, t, os⟩ : Shared).TypeIs (.builtin "object.__class__") "getset_descriptor" := F.typeOf_object_class
  have f5 := F.typeOf_object_class
  have f6 := F.slot_gs_get.lookup
  have f7 := F.slot_gs_set.lookup
  repeat (any_goals (first | assumption | with_reducible refine L0.at ?_ | with_reducible refine L1.at ?_ | wp_step))
  refine exc_clsget k Y p ?_
  repeat (any_goals (first | assumption | wp_step))
theorem exc_clsattr {prog : Program} {w : World} {A : Around} {E : Value → Shared → Prop} {Q : Option Value → Shared → Prop} {s : Shared} (k : ExcK K C) (Y : K.In s.heap) (p : ExcAt e C s.heap) (hq : Q (some (.ref C)) { s with toks := s.toks + 1 }) :
    wpAny (model prog w) A (getAttr? (.ref e) "__class__") Q E s := by
  obtain ⟨h, g, d, t, os⟩ := s
  have L0 := excAt_ty (model prog w) p
  have L1 := PySem.W.looks_findIn (M := model prog w) Y k.ga
  have L2 := PySem.W.looks_findIn (M := model prog w) Y k.gt
  have f3 := F.attr_ValueError.ga.bind (.ref e)
  unfold getAttr? getAttrBy? getAttrBy
  refine wpAny_bind (wpAny_mkText (wpAny_bind (wpAny_attempt (wpAny_holding (wpAny_bind (L0.at (wpAny_bind (L1.at ?_))))))))
  show wpAny _ _ (getAttrByItsOwn (.ref e) _ (.ref C) (.builtin "BaseException.__getattribute__") false false) _ _ _
  unfold getAttrByItsOwn
  refine wpAny_bind (m := hookBefore (.ref C)) (L2.at ?_)
  refine wpAny_bind (wpAny_attempt (wpAny_holding ?_))
  show wpAny _ _ (boundAndCalled (.builtin "BaseException.__getattribute__") (.ref e) _) _ _ _
  unfold boundAndCalled
  refine wpAny_bind (wpAny_of_eq f3 ?_)
  refine wpAny_call (codeAny_call_builtin F.attr_ValueError.ga.plain F.entry_bexc_ga (exc_check k Y p (exc_clsent k Y p ?_)))
  show wpAny _ _ (handedOut (.ref C)) _ _ _
  exact wpAny_pure (wpAny_pure hq)
theorem kitx_exc (k : ExcK K C) : PySem.W.KitX K (.ref e) (.ref C) (ExcAt e C) where
  ty := fun M _ _ p => excAt_ty M p
  it := fun _ _ Y _ => by
    obtain ⟨_, _, _, _, z⟩ := exc_cls k
    intro A' Q' E' s' kk q
    unfold isType loadHead
    exact wpAny_bind (wpAny_loadPart (kk _ _ (Y _ _ z)) (wpAny_pure q))
  ne := fun h tp dd its n sl Y htp => by
    obtain ⟨_, _, _, _, z⟩ := exc_cls k
    refine Bool.eq_false_iff.mpr fun q => ?_
    have e' : C = tp := Value.ref.inj (beq_iff_eq.mp q)
    subst e'
    cases (Y _ _ z).symm.trans htp
  ca := fun Y p kk => exc_clsattr k Y p kk
end
end L2
set_option maxRecDepth 100000
namespace L2
open PySem PySem.Spec PySem.Calls PyProof.Rows

/-! ### try .. except D as n -/
/-- a caught exception, tracked -/
def excO (e C : Addr) : HO := .ext (ExcAt e C)
theorem excO_ok {P : Program} {w : World} {H : Hp} {h : Heap} {e C : Addr} (p : ExcAt e C h) : ObjOk P w H h e (excO e C) :=
  ⟨p, let ⟨oe, _, h1, _⟩ := p; ⟨oe, h1⟩, fun _ _ ⟨oe, vs, h1, h2, h3⟩ kk => ⟨oe, vs, kk _ h1, h2, h3⟩⟩
theorem excO_at {X : Cx} {pins : List (Addr × Obj)} {σ : St} {H : Hp} {s : Shared} {e C : Addr} (I : Inv X pins σ H s) (q : H e = some (excO e C)) : ExcAt e C s.heap := (I.hok e _ q).1

abbrev Cx.tryC (X : Cx) (pn : List (Addr × Obj)) (W : Value → Shared → Prop) : Cx := { X with pn := X.pn ++ pn, xe := W }
abbrev Cx.hand (X : Cx) (v : Value) : Cx := { X with A := X.A.mark (some v), calm := false, xe := fun _ _ => False }
section
variable {X : Cx} {pins pn : List (Addr × Obj)} {W : Value → Shared → Prop} {σ : St} {H : Hp} {s : Shared} {v : Value}
theorem Cx.Ok.tryC (ok : X.Ok) (pn : List (Addr × Obj)) (W : Value → Shared → Prop) : (X.tryC pn W).Ok :=
  ⟨ok.mod, ok.kind, ok.glob, ok.blt, ok.above, ok.inj, ok.has, ok.cab, ok.hd, ok.frames, ok.stk, ok.exf, ok.bs, ok.bsz, ok.noex, ok.exfs, ok.funs, ok.frf⟩
theorem Cx.Ok.unTry (ok : (X.tryC pn W).Ok) : X.Ok :=
  ⟨ok.mod, ok.kind, ok.glob, ok.blt, ok.above, ok.inj, ok.has, ok.cab, ok.hd, ok.frames, ok.stk, ok.exf, ok.bs, ok.bsz, ok.noex, ok.exfs, ok.funs, ok.frf⟩
theorem Cx.Ok.hand (ok : X.Ok) (v : Value) : (X.hand v).Ok :=
  ⟨ok.mod, ok.kind, ok.glob, ok.blt, ok.above, ok.inj, ok.has, ok.cab, (fun z => nomatch z), ok.frames, ok.stk, ok.exf, ok.bs, ok.bsz, ok.noex, ok.exfs, ok.funs, ok.frf⟩
theorem Inv.tryIn (I : Inv X pins σ H s) (W : Value → Shared → Prop) : Inv (X.tryC pins W) [] σ H s :=
  ⟨I.ok.tryC pins W, I.os, I.bare, I.base, I.loc, I.cell, I.free, I.freeC, fun p hp => I.pin p (by simpa using hp), I.hok, I.len⟩
theorem Inv.tryOut (I : Inv (X.tryC pn W) pins σ H s) : Inv X pn σ H s :=
  ⟨I.ok.unTry, I.os, I.bare, I.base, I.loc, I.cell, I.free, I.freeC, fun p hp => I.pin p (List.mem_append_left _ hp), I.hok, I.len⟩
theorem Inv.hand (I : Inv X pins σ H s) (v : Value) : Inv (X.hand v) pins σ H s :=
  ⟨I.ok.hand v, I.os, I.bare, I.base, I.loc, I.cell, I.free, I.freeC, I.pin, I.hok, I.len⟩
theorem Inv.unhand (I : Inv (X.hand v) pins σ H s) (ok : X.Ok) : Inv X pins σ H s :=
  ⟨ok, I.os, I.bare, I.base, I.loc, I.cell, I.free, I.freeC, I.pin, I.hok, I.len⟩
theorem SP.tryOut {D : Ends} {f : Flow} {s' : Shared} (h : SP (X.tryC pn W) pins D f s') : SP X pn D f s' := by
  cases f with
  | next => obtain ⟨σ', H', I, q⟩ := h; exact ⟨σ', H', I.tryOut, q⟩
  | brk => obtain ⟨σ', H', I, q⟩ := h; exact ⟨σ', H', I.tryOut, q⟩
  | cont => obtain ⟨σ', H', I, q⟩ := h; exact ⟨σ', H', I.tryOut, q⟩
  | ret u => obtain ⟨v, σ', H', I, r, q⟩ := h; exact ⟨v, σ', H', I.tryOut, r, q⟩
/-- a name is gone -/
theorem Inv.gone {i : Nat} {n : Str} {h' : Heap} {t' : Nat} {v' : Option Value} {m : Str → Option Value} (I : Inv X pins σ H s) (hN : X.N.Nodup) (hi : X.N[i]? = some n)
    (hm : ∀ (j : Nat) (x : Str) (v : V), X.N[j]? = some x → σ[j]? = some (some v) → Vis X.env.scope x → ∃ u, RelV v u ∧ Look X.env s.heap m x u)
    (hn' : h'.Ns X.env.locals (fun x => if x = n then v' else m x)) (hs : Heap.SameBut X.env.locals s.heap h') : Inv X pins (σ.set i none) H { s with heap := h', toks := t' } := by
  obtain ⟨mm, ⟨oL, _, _, hoL, _⟩, _⟩ := id I.loc
  have cne := I.cne
  refine ⟨I.ok, I.os, I.bare, ⟨fun b o e n hb hx => ?_, fun b o e n hb hx => ?_, I.base.free, fun b o e hx => ?_, I.base.tups, I.base.frzs, I.base.tbls⟩, ⟨_, hn', fun j y w e1 e2 e3 => ?_⟩, fun y c e => ?_, I.free, I.freeC, fun p hp => ?_, fun b ob e => ?_, by simpa using I.len⟩
  · exact (hs.2 b (Nat.ne_of_lt (Nat.lt_of_lt_of_le (Heap.lt_size e) I.ok.above))).trans (I.base.keep b o e n hb hx)
  · obtain ⟨sl, e1⟩ := I.base.slot b o e n hb hx
    exact ⟨sl, (hs.2 b (Nat.ne_of_lt (Nat.lt_of_lt_of_le (Heap.lt_size e) I.ok.above))).trans e1⟩
  · obtain ⟨o', e1⟩ := I.base.there b o e hx
    exact ⟨o', (hs.2 b (Nat.ne_of_lt (Nat.lt_of_lt_of_le (Heap.lt_size e) I.ok.above))).trans e1⟩
  · have hji : j ≠ i := by
      rintro rfl
      rw [List.getElem?_set] at e2
      split at e2
      · split at e2 <;> cases e2
      · next z => exact z rfl
    rw [List.getElem?_set_ne (Ne.symm hji)] at e2
    obtain ⟨u, r, q⟩ := hm j y w e1 e2 e3
    refine ⟨u, r, ?_⟩
    rcases q with ⟨kk, q⟩ | ⟨kk, c, q, z⟩
    · refine .inl ⟨kk, ?_⟩
      have : y ≠ n := fun z => hji (nodup_ix hN e1 (z ▸ hi))
      simp [this, q]
    · exact .inr ⟨kk, c, q, z.sameBut hs (cne y c q)⟩
  · obtain ⟨w, z⟩ := I.cell y c e
    exact ⟨w, z.sameBut hs (cne y c e)⟩
  · obtain ⟨e, n, ne, nf, d⟩ := I.pin p hp
    exact ⟨(hs.2 p.1 ne).trans e, n, ne, nf, d⟩
  · refine (I.hok b ob e).stay (fun c w' hc q => (hs.2 c ?_).trans q) (fun _ q => q) fun _ _ q => q
    rintro rfl
    rcases hc with z | hc
    · rw [← z, I.free] at e; cases e
    · rw [I.free] at hc; cases hc
/-- the caught exception, tracked -/
theorem Inv.catch {H' : Hp} {s' : Shared} {e C : Addr} (I : Inv X pins σ H s) (F : Fli X.prog X.w X.stack H s e (.ref C) .none H' s') : Inv X pins σ (upd H' e (excO e C)) s' := by
  obtain ⟨a0, oe, vs, T, oT, ts, h1, h2, h3, h4, h5, h6, h7, h8, ⟨h9, h10⟩, h11, h12⟩ := F.tr
  refine I.call' (ch := []) F.os ⟨F.un.keep, F.un.slot, fun b o q n hx => ?_, F.un.there, fun b xs q => ?_, fun b o u q => ?_, fun b ps q => ?_⟩ (fun b o q => ?_) F.bare fun b z => absurd z (by simp)
  · rw [upd_ne (fun z => by rw [z, h11] at q; cases q)]
    exact F.un.free b o q n hx
  · have z := F.un.tups b xs q
    rw [upd_ne (ne_of_none z h9)]; exact z
  · have z := F.un.frzs b o u q
    rw [upd_ne (ne_of_none z h9)]; exact z
  · obtain ⟨m, z⟩ := F.un.tbls b ps q
    exact ⟨m, by rw [upd_ne (ne_of_none z h9)]; exact z⟩
  · by_cases hb : b = e
    · subst hb
      rw [upd_same] at q; cases q
      exact excO_ok ⟨oe, vs, h1, h2.1, h3⟩
    · rw [upd_ne hb] at q
      exact (F.hok b o q).stay (fun _ _ _ r => r) (fun c r => by rw [upd_ne (ne_of_none r h9)]; exact r) fun c xs r => by rw [upd_ne (ne_of_none r h9)]; exact r
end

/-- what is wanted behind the suite, the name gone -/
def Ends.gone (D : Ends) (i : Nat) : Ends := { nx := fun σ H => D.nx (σ.set i none) H, rt := D.rt, bk := fun σ H => D.bk (σ.set i none) H, ct := fun σ H => D.ct (σ.set i none) H }
def RTry (K : PySem.W.Frag) (Dc : Addr) (i : Nat) (th : TS) (D : Ends) : St → Value → Hp → Prop := fun σ cls H' => ∃ C, cls = .ref C ∧ ExcK K C ∧ PySem.W.mroIn K C (.ref Dc) = some true ∧
  ∀ e, H' e = none → th (D.gone i) (σ.set i (some (.ref e))) (upd H' e (excO e C))
def tTry (K : PySem.W.Frag) (Dc : Addr) (i : Nat) (tb : (St → Value → Hp → Prop) → TS) (th : TS) : TS := fun D σ H => tb (RTry K Dc i th D) D σ H
section
variable {X : Cx}
theorem ps_try {body hs : List Stmt} {b₀ : Stmt} {cn n : Str} {np hpos pos : Pos} {Dc : Addr} {i : Nat} {tb : (St → Value → Hp → Prop) → TS} {th : TS} (hst : X.stack = X.env :: X.outer) (hfr : X.env.frame = some X.env.locals) (hN : X.N.Nodup) (hD : ExcK X.K Dc) (hm : X.mg cn = some (.ref Dc))
    (hb : ∀ (pn : List (Addr × Obj)) (W : Value → Shared → Prop) (R : St → Value → Hp → Prop), Flies (X.tryC pn W) R → PSs (X.tryC pn W) body (tb R)) (hh : ∀ v, PSs (X.hand v) (b₀ :: hs) th)
    (hi : X.N[i]? = some n := by rfl) (hl : X.env.kindOf n = some .local := by rfl) (hg : Gl X cn := by rfl) (hdb : (cn == ("__debug__" : Str)) = false := by decide) :
    PS X (.Try body [.ExceptHandler (some (.Name cn np)) (some n) (b₀ :: hs) hpos] [] [] pos) (tTry X.K Dc i tb th) := by
  intro pins s σ H D I h
  refine wpAny_Try_except ?_
  have key : Flies (X.tryC pins fun e s₁ => wpAny (model X.prog X.w) X.A (noteFrame e X.env) (fun _ s₂ => wpAny (model X.prog X.w) X.A (setFlight e none) (fun _ s₃ => wpAny (model X.prog X.w) X.A (handleBy e X.env [.ExceptHandler (some (.Name cn np)) (some n) (b₀ :: hs) hpos]) (SP X pins D) X.xe s₃) X.xe s₂) X.xe s₁)
      (RTry X.K Dc i th D) := by
    rintro pins' σ' H1 s1 e cls H' s' I0 F ⟨C, rfl, kC, hmC, hth⟩
    have I1 : Inv X pins σ' H1 s1 := I0.tryOut
    have F : Fli X.prog X.w X.stack H1 s1 e (.ref C) .none H' s' := F
    have J := I1.fly F
    obtain ⟨B, a0, fl, st⟩ := fli_of F J.stack J.stkFree
    have frm : X.A.frames = some (X.env :: X.outer) := by rw [← hst]; exact I1.ok.frames
    rw [hst] at fl
    refine wpAny_looks_onW frm hfr fl fun h4 g4 u4 => ?_
    refine wpAny_landsW g4 fun h5 g5 u5 => ?_
    have F5 := st h5 .none g5.1 g5.2.2.2 (u4.trans u5)
    have J5 := I1.fly F5
    obtain ⟨_, oe, _, _, _, _, he, ⟨hc, _⟩, _⟩ := F5.tr
    refine wpAny_handleBy_cons (codeAny_handlers_test (ld_glob (X := X.hand (.ref e)) (J5.hand (.ref e)) hg hm ?_ hdb)) (by intro q; cases q)
    refine exc_match J5.kIn hD hmC he hc ?_
    refine codeAny_handlers_suite_as ?_
    refine lands_againW g5 fun h6 g6 u6 => ?_
    have F6 := st h6 .none g6.1 g6.2.2.2 ((u4.trans u5).trans u6)
    obtain ⟨_, _, _, _, _, _, _, _, _, _, _, _, _, _, ⟨he0, _⟩, _, _⟩ := F6.tr
    have J6 := (I1.catch F6).hand (.ref e)
    refine store_ok (X := X.hand (.ref e)) (v := .ref e) J6 hN hi (.inl hl) rfl (fun s7 J7 => ?_) (.inr hl)
    refine wpAny_mono (hh (.ref e) pins s7 _ _ (D.gone i) J7 (hth e he0)) (fun f s8 q8 => ?_) fun _ _ z => False.elim z
    have hp : (X.env.scope.kind == .class || (X.env.scope.kind == .module && X.env.locals != X.env.globals)) = false := by rw [I.ok.kind]; rfl
    show wpAny (model X.prog X.w) X.A (do bindName X.env n .none; unbindBehindTheSuite X.env n hpos) (fun _ s₃ => SP X pins D f s₃) X.xe s8
    cases f with
    | next =>
      obtain ⟨σ8, H8, I8, q⟩ := q8
      have I9 := I8.unhand I.ok
      obtain ⟨m, hn, hml⟩ := id I9.loc
      exact wpAny_nameGoes_keeps hl hn hp fun h' v' hn' hs' => ⟨_, H8, I9.gone hN hi hml hn' hs', q⟩
    | brk =>
      obtain ⟨σ8, H8, I8, q⟩ := q8
      have I9 := I8.unhand I.ok
      obtain ⟨m, hn, hml⟩ := id I9.loc
      exact wpAny_nameGoes_keeps hl hn hp fun h' v' hn' hs' => ⟨_, H8, I9.gone hN hi hml hn' hs', q⟩
    | cont =>
      obtain ⟨σ8, H8, I8, q⟩ := q8
      have I9 := I8.unhand I.ok
      obtain ⟨m, hn, hml⟩ := id I9.loc
      exact wpAny_nameGoes_keeps hl hn hp fun h' v' hn' hs' => ⟨_, H8, I9.gone hN hi hml hn' hs', q⟩
    | ret u =>
      obtain ⟨v, σ8, H8, I8, r, q⟩ := q8
      have I9 := I8.unhand I.ok
      obtain ⟨m, hn, hml⟩ := id I9.loc
      exact wpAny_nameGoes_keeps hl hn hp fun h' v' hn' hs' => ⟨v, _, H8, I9.gone hN hi hml hn' hs', r, q⟩
  refine wpAny_mono (hb pins _ _ key [] s σ H D (I.tryIn _) h) (fun f s1 q => ?_) fun _ _ z => z
  have q := SP.tryOut q
  cases f with
  | next => exact wpAny_execs_nil q
  | brk => exact q
  | cont => exact q
  | ret u => exact q
end
end L2
set_option Elab.async false
set_option linter.all false
set_option maxRecDepth 100000
set_option maxHeartbeats 4000000
namespace Seek
open PySem L2 PyProof.Rows
def top (i : Nat) : Stmt := PySem.Challenge.pw_stairseek_k12_no_tables_and_no_numbers.main.body.getD i (.Pass ⟨0, 0, 0, 0⟩)
abbrev dIsWhole : Stmt := top 17
abbrev dAllWhole : Stmt := top 18
abbrev dNeverFalls : Stmt := top 19
abbrev dIsRow : Stmt := top 20
abbrev dShape : Stmt := top 21
abbrev dAtPlace : Stmt := top 22
abbrev dSorted : Stmt := top 23
abbrev dIsTable : Stmt := top 24
abbrev dNeedTable : Stmt := top 27
abbrev dNeedNumber : Stmt := top 29
abbrev dTake : Stmt := top 37
abbrev dTable : Stmt := top 39
abbrev dCopy : Stmt := top 40
abbrev dX : Stmt := top 41
abbrev dLaw : Stmt := top 46
abbrev dIsCell : Stmt := top 26
abbrev dNeedCell : Stmt := top 28
abbrev dNumberAt : Stmt := top 30
abbrev dNoTable : Stmt := top 43
abbrev dCellSz : Stmt := top 25
abbrev dWalk : Stmt := top 32
abbrev dFound : Stmt := top 33
abbrev dLCell : Stmt := top 35
abbrev dStore : Stmt := top 36
abbrev dFar : Stmt := top 38
abbrev dUneven : Stmt := top 42
abbrev dKind : Stmt := top 44
abbrev dWord : Stmt := top 45
end Seek
namespace Seek
open PySem L2 PyProof.Rows

/-! data -/
def Row (H : Hp) (a : Addr) (ns : List Int) : Prop := H a = some (.lst (ns.map V.int))
def nfB (ns : List Int) : Bool := ((List.range (ns.length - 1)).map fun i => decide (ns.getD i 0 ≤ ns.getD (i + 1) 0)).all id
theorem Row.same {H H' : Hp} {a : Addr} {ns : List Int} (e : Same H H') (h : Row H a ns) : Row H' a ns := e _ _ h
theorem Row.sq {K : PySem.W.Frag} {H : Hp} {a : Addr} {ns : List Int} (h : Row H a ns) : SqL K H a (ns.map V.int) := SqL.of h
/-- which built-in names the text leaves alone -/
structure Blt (mg : Str → Option Value) : Prop where
  len : mg "len" = none
  all : mg "all" = none
  isinst : mg "isinstance" = none
  rng : mg "range" = none
  int : mg "int" = none
  bool : mg "bool" = none
  list : mg "list" = none
  enum : mg "enumerate" = none
  abs : mg "abs" = none
  max : mg "max" = none
  mr : ∃ t, mg "MOST_ROWS" = some (.int 6 t)
  mp : ∃ t, mg "MOST_PLACES" = some (.int 6 t)
theorem sl6 {n : Nat} (h : n ≤ 1000) : n ≤ sizeLine := Nat.le_of_lt (small1000 h)

section
variable {P : Program} {w : World} {K : PySem.W.Frag} {mg : Str → Option Value} {base : Heap}
/-! is_whole -/
def spIsWhole : Sp := fun vs H Q _ => ∃ i : Int, vs = [.int i] ∧ Q (.bl true) H
theorem sc_isWhole : FnScope ["thing"] ["thing"] (defScope dIsWhole) := ⟨rfl, rfl, rfl, by decide +kernel, rfl, by decide +kernel, by decide +kernel⟩
theorem ok_isWhole (T : Blt mg) (D : DefAt K mg "is_whole" dIsWhole ["thing"]) : FnAt P w K mg base 1 "is_whole" ["thing"] spIsWhole := by
  refine FnAt.of D sc_isWhole (fun vs H Q E h => ?_) (fun f cdv A outer s H vs Q E hr h => ?_)
  · obtain ⟨i, rfl, _⟩ := h
    rfl
  · obtain ⟨i, rfl, q⟩ := h
    refine ⟨_, pss_one (ps_ret (pe_and (pe_b call_isinst T.isinst boot_isinstance (pa_cons (pv 0) (pa_cons (pe_ty T.int boot_int) pa_nil)))
      (pe_one (pe_not (pe_b call_isinst T.isinst boot_isinstance (pa_cons (pv 0) (pa_cons (pe_ty T.bool boot_bool) pa_nil))))))), ?_⟩
    exact ⟨_, rfl, _, _, _, _, rfl, .int i, kit_ii _, _, rfl, iteT ⟨_, rfl, _, _, _, _, rfl, .int i, kit_ib _, _, rfl, q⟩⟩
/-! all_whole -/
def spAllWhole (K : PySem.W.Frag) : Sp := fun vs H Q _ => ∃ (a : Addr) (ns : List Int), vs = [.ref a] ∧ Row H a ns ∧ ns.length ≤ 1000 ∧ ∀ H', Same H H' → Q (.bl true) H'
theorem sc_allWhole : FnScope ["things"] ["things"] (defScope dAllWhole) := ⟨rfl, rfl, rfl, by decide +kernel, rfl, by decide +kernel, by decide +kernel⟩
theorem all_true {α : Type} (xs : List α) : (xs.map fun _ => true).all id = true := by simp
theorem ok_allWhole (T : Blt mg) (D : DefAt K mg "all_whole" dAllWhole ["things"]) (G1 : FnAt P w K mg base 1 "is_whole" ["thing"] spIsWhole) : FnAt P w K mg base 2 "all_whole" ["things"] (spAllWhole K) := by
  refine FnAt.of D sc_allWhole (fun vs H Q E h => ?_) (fun f cdv A outer s H vs Q E hr h => ?_)
  · obtain ⟨a, ns, rfl, _⟩ := h
    rfl
  · obtain ⟨a, ns, rfl, hR, hn, q⟩ := h
    have nd1 : (["thing"] : List Str).Nodup := by decide +kernel
    refine ⟨_, pss_one (ps_ret (pe_b (call_all rfl) T.all boot_all (pa_cons (pe_comp ["thing"] [none] (defScope dAllWhole) ["things"] rfl (pi_list (pv 0)) (by decide +kernel)
      (fun cl C s2 H2 ex => pg_c 0 nd1) (fun cl C s2 H2 ex => pifs_nil) (fun cl C s2 H2 ex => pe_f G1 hr (pa_cons (pv 0) pa_nil))) pa_nil))), ?_⟩
    refine ⟨_, rfl, a, rfl, ⟨_, hR.sq⟩, comp_map V.int (fun _ => .bl true) hR.sq (sl6 hn) (fun i hx H' Q' sm q' => ?_) fun D H' hD sm hDl => ?_⟩
    · exact ⟨_, rfl, i, rfl, q' _ (Same.refl _)⟩
    · refine ⟨D, ns.map fun _ => true, rfl, SqL.of ?_, ?_⟩
      · rw [hDl]
        simp [Function.comp]
      · rw [all_true]
        exact q H' sm
/-! never_falls -/
def spNF : Sp := fun vs H Q _ => ∃ (a : Addr) (ns : List Int), vs = [.ref a] ∧ Row H a ns ∧ ns.length ≤ 1000 ∧ ∀ H', Same H H' → Q (.bl (nfB ns)) H'
theorem sc_nf : FnScope ["numbers"] ["numbers"] (defScope dNeverFalls) := ⟨rfl, rfl, rfl, by decide +kernel, rfl, by decide +kernel, by decide +kernel⟩
theorem at_row {ns : List Int} {i : Nat} (h : i < ns.length) : atI (ns.map V.int) (i : Int) = some (.int (ns.getD i 0)) := atI_nat (by simp [h])
theorem ok_nf (T : Blt mg) (D : DefAt K mg "never_falls" dNeverFalls ["numbers"]) : FnAt P w K mg base 1 "never_falls" ["numbers"] spNF := by
  refine FnAt.of D sc_nf (fun vs H Q E h => ?_) (fun f cdv A outer s H vs Q E hr h => ?_)
  · obtain ⟨a, ns, rfl, _⟩ := h
    rfl
  · obtain ⟨a, ns, rfl, hR, hn, q⟩ := h
    have nd1 : (["k", "numbers"] : List Str).Nodup := by decide +kernel
    refine ⟨_, pss_one (ps_ret (pe_b (call_all rfl) T.all boot_all (pa_cons (pe_comp ["k", "numbers"] [none, some 0] (defScope dNeverFalls) ["numbers"] rfl
      (pi_range2 rfl T.rng (pa_cons pe_int (pa_cons (pe_b call_len_seq T.len boot_len (pa_cons (pv 0) pa_nil)) pa_nil))) (by decide +kernel)
      (fun cl C s2 H2 ex => pg_c 0 nd1) (fun cl C s2 H2 ex => pifs_nil)
      (fun cl C s2 H2 ex => pe_cmpR op_le (pe_ix (ixL K) (pv 1) (pe_op op_sub (pv 0) pe_int) (fun _ _ => rfl)) (pe_ix (ixL K) (pv 1) (pv 0) (fun _ _ => rfl)) (nomark _))) pa_nil))), ?_⟩
    refine ⟨_, rfl, a, _, rfl, .inl hR.sq, 1, _, rfl, ⟨by omega, by omega, ?_, ?_⟩, ?_⟩
    · omega
    · rw [List.length_map]
      omega
    · rw [List.length_map, show ((ns.length : Int) - 1).toNat = ns.length - 1 by omega]
      refine comp_range (fun i => .bl (decide (ns.getD i 0 ≤ ns.getD (i + 1) 0))) (sl6 (by omega)) (fun i hi H' Q' sm q' => ?_) fun D H' hD sm hDl => ?_
      · have h1 : (1 : Int) + (i : Int) - 1 = ((i : Nat) : Int) := by omega
        have h2 : (1 : Int) + (i : Int) = ((i + 1 : Nat) : Int) := by omega
        refine ⟨_, rfl, _, rfl, _, _, rfl, rfl, a, _, _, _, rfl, rfl, (hR.same sm).sq, (by rw [h1]; exact at_row (by omega)), _, rfl, _, rfl, a, _, _, _, rfl, rfl, (hR.same sm).sq, (by rw [h2]; exact at_row (by omega)), _, _, rfl, rfl, ?_⟩
        exact q' _ (Same.refl _)
      · refine ⟨D, (List.range (ns.length - 1)).map fun i => decide (ns.getD i 0 ≤ ns.getD (i + 1) 0), rfl, SqL.of ?_, q H' sm⟩
        rw [hDl]
        simp [Function.comp]
end
end Seek
namespace Seek
open PySem L2 PyProof.Rows
abbrev Prs := List (Addr × List Int)
structure Tab (H : Hp) (t : Addr) (prs : Prs) : Prop where
  l : H t = some (.lst (prs.map fun p => V.ref p.1))
  r : ∀ p ∈ prs, Row H p.1 p.2
theorem Tab.same {H H' : Hp} {t : Addr} {prs : Prs} (e : Same H H') (h : Tab H t prs) : Tab H' t prs := ⟨e _ _ h.l, fun p hp => (h.r p hp).same e⟩
theorem Tab.sq {K : PySem.W.Frag} {H : Hp} {t : Addr} {prs : Prs} (h : Tab H t prs) : SqL K H t (prs.map fun p => V.ref p.1) := SqL.of h.l
/-- of a size that the machine bears -/
def Sm (prs : Prs) : Prop := prs.length ≤ 1000 ∧ ∀ p ∈ prs, p.2.length ≤ 1000
def rowB (ns : List Int) : Bool := decide (1 ≤ ns.length) && decide (ns.length ≤ 6)
def w0 (prs : Prs) : Nat := (prs.head?.map (·.2.length)).getD 0
def shB (prs : Prs) : Bool := (decide (1 ≤ prs.length) && decide (prs.length ≤ 6)) && ((prs.map fun p => rowB p.2).all id && (prs.map fun p => decide (p.2.length = w0 prs)).all id)
def col (prs : Prs) (j : Nat) : List Int := prs.map fun p => p.2.getD j 0
def srB (prs : Prs) : Bool := (prs.map fun p => nfB p.2).all id && ((List.range (w0 prs)).map fun j => nfB (col prs j)).all id
def tabB (prs : Prs) : Bool := shB prs && srB prs
theorem map_bl {α : Type} (xs : List α) (f : α → Bool) : xs.map (fun x => V.bl (f x)) = (xs.map f).map V.bl := by simp [Function.comp]
theorem dec_nat {i j : Nat} : decide (V.int (i : Int) = V.int (j : Int)) = decide (i = j) := by
  rw [decide_eq_decide]
  constructor
  · intro h
    injection h with h
    omega
  · rintro rfl
    rfl
theorem head_at {prs : Prs} (h : 1 ≤ prs.length) : ∃ p, prs.head? = some p ∧ p ∈ prs ∧ prs[0]? = some p := by
  cases prs with
  | nil => simp at h
  | cons p r => exact ⟨p, rfl, by simp, rfl⟩
section
variable {P : Program} {w : World} {K : PySem.W.Frag} {mg : Str → Option Value} {base : Heap}
/-! is_row -/
def spIsRow : Sp := fun vs H Q _ => ∃ (a : Addr) (ns : List Int), vs = [.ref a] ∧ Row H a ns ∧ ns.length ≤ 1000 ∧ ∀ H', Same H H' → Q (.bl (rowB ns)) H'
theorem sc_isRow : FnScope ["thing"] ["thing"] (defScope dIsRow) := ⟨rfl, rfl, rfl, by decide +kernel, rfl, by decide +kernel, by decide +kernel⟩
theorem ok_isRow (T : Blt mg) (D : DefAt K mg "is_row" dIsRow ["thing"]) (G : FnAt P w K mg base 2 "all_whole" ["things"] (spAllWhole K)) : FnAt P w K mg base 3 "is_row" ["thing"] spIsRow := by
  refine FnAt.of D sc_isRow (fun vs H Q E h => ?_) (fun f cdv A outer s H vs Q E hr h => ?_)
  · obtain ⟨a, ns, rfl, _⟩ := h
    rfl
  · obtain ⟨a, ns, rfl, hR, hn, q⟩ := h
    obtain ⟨tk, mp⟩ := T.mp
    refine ⟨_, pss_one (ps_ret (pe_and (pe_b call_isinst T.isinst boot_isinstance (pa_cons (pv 0) (pa_cons (pe_ty T.list boot_list) pa_nil)))
      (pe_and (pe_chain op_le op_le pe_int (pe_b call_len_seq T.len boot_len (pa_cons (pv 0) pa_nil)) (pe_glob (v := .int 6) rfl mp ⟨_, rfl⟩))
      (pe_one (pe_f G hr (pa_cons (pv 0) pa_nil)))))), ?_⟩
    refine ⟨_, rfl, _, _, _, _, rfl, .lst hR, kit_ll _, _, rfl, iteT ⟨_, rfl, a, _, rfl, .inl hR.sq, 1, _, rfl, rfl, _, rfl, ?_⟩⟩
    rw [List.length_map]
    refine ite2 (fun h1 => ?_) (fun h1 => ?_)
    · have h1 := of_decide_eq_true h1
      refine ⟨_, _, rfl, rfl, _, rfl, ite2 (fun h2 => ?_) (fun h2 => ?_)⟩
      · have h2 := of_decide_eq_true h2
        refine ⟨_, rfl, a, ns, rfl, hR, hn, fun H' sm => ?_⟩
        have e : rowB ns = true := by
          unfold rowB
          rw [decide_eq_true (by omega), decide_eq_true (by omega)]
          rfl
        rw [← e]
        exact q H' sm
      · have e : rowB ns = false := by
          unfold rowB
          rw [decide_eq_false (p := ns.length ≤ 6) (by intro z; exact h2 (decide_eq_true (by omega)))]
          simp
        rw [← e]
        exact q H (Same.refl _)
    · refine ⟨_, rfl, iteF ?_⟩
      have e : rowB ns = false := by
        unfold rowB
        rw [decide_eq_false (p := 1 ≤ ns.length) (by intro z; exact h1 (decide_eq_true (by omega)))]
        simp
      rw [← e]
      exact q H (Same.refl _)
/-! has_table_shape -/
def spShape : Sp := fun vs H Q _ => ∃ (t : Addr) (prs : Prs), vs = [.ref t] ∧ Tab H t prs ∧ Sm prs ∧ ∀ H', Same H H' → Q (.bl (shB prs)) H'
theorem sc_shape : FnScope ["thing", "row"] ["thing"] (defScope dShape) := ⟨rfl, rfl, rfl, by decide +kernel, rfl, by decide +kernel, by decide +kernel⟩
theorem ok_shape (T : Blt mg) (D : DefAt K mg "has_table_shape" dShape ["thing"]) (G : FnAt P w K mg base 3 "is_row" ["thing"] spIsRow) : FnAt P w K mg base 4 "has_table_shape" ["thing"] spShape := by
  refine FnAt.of D sc_shape (fun vs H Q E h => ?_) (fun f cdv A outer s H vs Q E hr h => ?_)
  · obtain ⟨t, prs, rfl, _⟩ := h
    rfl
  · obtain ⟨t, prs, rfl, hT, ⟨hn, hw⟩, q⟩ := h
    obtain ⟨tk, mr⟩ := T.mr
    have nd1 : (["row"] : List Str).Nodup := by decide +kernel
    have nd2 : (["row", "thing"] : List Str).Nodup := by decide +kernel
    refine ⟨_, pss_cons (ps_if (PW.pt (pw_or (pt_not (pt_val (pe_b call_isinst T.isinst boot_isinstance (pa_cons (pv 0) (pa_cons (pe_ty T.list boot_list) pa_nil)))))
        (pw_or1 (pt_not (pt_chain op_le op_le pe_int (pe_b call_len_seq T.len boot_len (pa_cons (pv 0) pa_nil)) (pe_glob (v := .int 6) rfl mr ⟨_, rfl⟩)))))) (pss_one (ps_ret pe_bl)) pss_nil)
      (pss_cons (ps_if (pt_not (pt_val (pe_b (call_all rfl) T.all boot_all (pa_cons (pe_comp ["row"] [none] (defScope dShape) ["thing", "row"] rfl (pi_list (pv 0)) (by decide +kernel)
        (fun cl C s2 H2 ex => pg_c 0 nd1) (fun cl C s2 H2 ex => pifs_nil) (fun cl C s2 H2 ex => pe_f G hr (pa_cons (pv 0) pa_nil))) pa_nil)))) (pss_one (ps_ret pe_bl)) pss_nil)
      (pss_one (ps_ret (pe_b (call_all rfl) T.all boot_all (pa_cons (pe_comp ["row", "thing"] [none, some 0] (defScope dShape) ["thing", "row"] rfl (pi_list (pv 0)) (by decide +kernel)
        (fun cl C s2 H2 ex => pg_c 0 nd2) (fun cl C s2 H2 ex => pifs_nil)
        (fun cl C s2 H2 ex => pe_cmpR op_eq (pe_b (lenK K) T.len boot_len (pa_cons (pv 0) pa_nil)) (pe_b (lenK K) T.len boot_len (pa_cons (pe_ix (ixL K) (pv 1) pe_int (fun _ _ => rfl)) pa_nil)) (nomark _))) pa_nil))))), ?_⟩
    refine ⟨_, rfl, _, _, _, _, rfl, .lst hT.l, kit_ll _, _, rfl, iteF ⟨_, rfl, t, _, rfl, .inl hT.sq, 1, _, rfl, rfl, _, rfl, ?_⟩⟩
    rw [List.length_map]
    have bad : ¬ (1 ≤ prs.length ∧ prs.length ≤ 6) → shB prs = false := fun z => by
      unfold shB
      rw [← Bool.decide_and, decide_eq_false z]
      rfl
    refine ite2 (fun h1 => ?_) (fun h1 => ?_)
    · have h1 := of_decide_eq_true h1
      refine ⟨_, _, rfl, rfl, _, rfl, ?_⟩
      by_cases h2 : prs.length ≤ 6
      · rw [decide_eq_true (show (prs.length : Int) ≤ 6 by omega)]
        refine iteF ?_
        -- rows
        refine ⟨_, rfl, t, rfl, ⟨_, hT.sq⟩, comp_map (fun p => V.ref p.1) (fun p => .bl (rowB p.2)) hT.sq (sl6 hn) (fun p hp H' Q' sm q' => ?_) fun D H' hD sm hDl => ?_⟩
        · exact ⟨_, rfl, p.1, p.2, rfl, (hT.r p hp).same sm, hw p hp, q'⟩
        · refine ⟨D, prs.map fun p => rowB p.2, rfl, SqL.of (by rw [hDl, map_bl]), _, rfl, ?_⟩
          cases e1 : (prs.map fun p => rowB p.2).all id with
          | false =>
            refine iteT ?_
            have e : shB prs = false := by
              unfold shB
              rw [e1]
              simp
            have q1 := q H' sm
            rw [e] at q1
            exact q1
          | true =>
            refine iteF ?_
            have hT1 := hT.same sm
            obtain ⟨p0, hp0, hm0, hx0⟩ := head_at (prs := prs) (by omega)
            have hw0 : w0 prs = p0.2.length := by
              unfold w0
              rw [hp0]
              rfl
            refine ⟨_, rfl, t, rfl, ⟨_, hT1.sq⟩, comp_map (fun p => V.ref p.1) (fun p => .bl (decide (p.2.length = w0 prs))) hT1.sq (sl6 hn) (fun p hp H2 Q' sm2 q' => ?_) fun D2 H2 hD2 sm2 hDl2 => ?_⟩
            · have hT2 := hT1.same sm2
              refine ⟨_, rfl, p.1, _, rfl, .inl (hT2.r p hp).sq, _, rfl, t, _, 0, .ref p0.1, rfl, rfl, hT2.sq, atI_nat (j := 0) (by rw [List.getElem?_map, hx0]; rfl), p0.1, _, rfl, .inl (hT2.r p0 hm0).sq, rfl, ?_⟩
              rw [List.length_map, List.length_map, dec_nat, ← hw0]
              exact q' _ (Same.refl _)
            · refine ⟨D2, prs.map fun p => decide (p.2.length = w0 prs), rfl, SqL.of (by rw [hDl2, map_bl]), ?_⟩
              have q1 := q H2 (sm.trans sm2)
              unfold shB at q1
              rw [e1, decide_eq_true (show 1 ≤ prs.length by omega), decide_eq_true h2] at q1
              exact q1
      · rw [decide_eq_false (show ¬ (prs.length : Int) ≤ 6 by omega)]
        refine iteT ?_
        have q1 := q H (Same.refl _)
        rw [bad (by omega)] at q1
        exact q1
    · refine ⟨_, rfl, iteT ?_⟩
      have q1 := q H (Same.refl _)
      rw [bad (by
        intro z
        exact h1 (decide_eq_true (by omega)))] at q1
      exact q1
end
end Seek
namespace Seek
open PySem L2 PyProof.Rows
section
variable {P : Program} {w : World} {K : PySem.W.Frag} {mg : Str → Option Value} {base : Heap}
/-! numbers_at_place -/
def spAtPlace : Sp := fun vs H Q _ => ∃ (t : Addr) (prs : Prs) (j : Nat), vs = [.ref t, .int j] ∧ Tab H t prs ∧ prs.length ≤ 1000 ∧ (∀ p ∈ prs, j < p.2.length) ∧ ∀ D H', H D = none → Same H H' → Row H' D (col prs j) → Q (.ref D) H'
theorem sc_atPlace : FnScope ["table", "place"] ["table", "place"] (defScope dAtPlace) := ⟨rfl, rfl, rfl, by decide +kernel, rfl, by decide +kernel, by decide +kernel⟩
theorem ok_atPlace (D : DefAt K mg "numbers_at_place" dAtPlace ["table", "place"]) : FnAt P w K mg base 1 "numbers_at_place" ["table", "place"] spAtPlace := by
  refine FnAt.of D sc_atPlace (fun vs H Q E h => ?_) (fun f cdv A outer s H vs Q E hr h => ?_)
  · obtain ⟨t, prs, j, rfl, _⟩ := h
    rfl
  · obtain ⟨t, prs, j, rfl, hT, hn, hj, q⟩ := h
    have nd1 : (["row", "place"] : List Str).Nodup := by decide +kernel
    refine ⟨_, pss_one (ps_ret (pe_comp ["row", "place"] [none, some 1] (defScope dAtPlace) ["table", "place"] rfl (pi_list (pv 0)) (by decide +kernel)
        (fun cl C s2 H2 ex => pg_c 0 nd1) (fun cl C s2 H2 ex => pifs_nil) (fun cl C s2 H2 ex => pe_ix (ixL K) (pv 0) (pv 1) (fun _ _ => rfl)))), ?_⟩
    refine ⟨_, rfl, t, rfl, ⟨_, hT.sq⟩, comp_map (fun p => V.ref p.1) (fun p => .int (p.2.getD j 0)) hT.sq (sl6 hn) (fun p hp H' Q' sm q' => ?_) fun D H' hD sm hDl => ?_⟩
    · exact ⟨_, rfl, _, rfl, p.1, _, _, _, rfl, rfl, ((hT.r p hp).same sm).sq, at_row (hj p hp), q' _ (Same.refl _)⟩
    · refine q D H' hD sm ?_
      unfold Row col
      rw [hDl, List.map_map]
      rfl
/-! is_sorted_both_ways -/
def spSorted : Sp := fun vs H Q _ => ∃ (t : Addr) (prs : Prs), vs = [.ref t] ∧ Tab H t prs ∧ Sm prs ∧ 1 ≤ prs.length ∧ (∀ p ∈ prs, p.2.length = w0 prs) ∧ ∀ H', Same H H' → Q (.bl (srB prs)) H'
theorem sc_sorted : FnScope ["table", "row", "place"] ["table"] (defScope dSorted) := ⟨rfl, rfl, rfl, by decide +kernel, rfl, by decide +kernel, by decide +kernel⟩
theorem ok_sorted (T : Blt mg) (D : DefAt K mg "is_sorted_both_ways" dSorted ["table"]) (G : FnAt P w K mg base 1 "never_falls" ["numbers"] spNF) (G2 : FnAt P w K mg base 1 "numbers_at_place" ["table", "place"] spAtPlace) : FnAt P w K mg base 2 "is_sorted_both_ways" ["table"] spSorted := by
  refine FnAt.of D sc_sorted (fun vs H Q E h => ?_) (fun f cdv A outer s H vs Q E hr h => ?_)
  · obtain ⟨t, prs, rfl, _⟩ := h
    rfl
  · obtain ⟨t, prs, rfl, hT, ⟨hn, hw⟩, h1, hv, q⟩ := h
    have nd1 : (["row"] : List Str).Nodup := by decide +kernel
    have nd2 : (["place", "table"] : List Str).Nodup := by decide +kernel
    obtain ⟨p0, hp0, hm0, hx0⟩ := head_at (prs := prs) h1
    have hw0 : w0 prs = p0.2.length := (hv p0 hm0).symm
    refine ⟨_, pss_cons (ps_if (pt_not (pt_val (pe_b (call_all rfl) T.all boot_all (pa_cons (pe_comp ["row"] [none] (defScope dSorted) ["table", "row", "place"] rfl (pi_list (pv 0)) (by decide +kernel)
        (fun cl C s2 H2 ex => pg_c 0 nd1) (fun cl C s2 H2 ex => pifs_nil) (fun cl C s2 H2 ex => pe_f G hr (pa_cons (pv 0) pa_nil))) pa_nil)))) (pss_one (ps_ret pe_bl)) pss_nil)
      (pss_one (ps_ret (pe_b (call_all rfl) T.all boot_all (pa_cons (pe_comp ["place", "table"] [none, some 0] (defScope dSorted) ["table", "row", "place"] rfl
        (pi_range1 rfl T.rng (pa_cons (pe_b call_len_seq T.len boot_len (pa_cons (pe_ix ix_list (pv 0) pe_int (fun _ _ => rfl)) pa_nil)) pa_nil)) (by decide +kernel)
        (fun cl C s2 H2 ex => pg_c 0 nd2) (fun cl C s2 H2 ex => pifs_nil)
        (fun cl C s2 H2 ex => pe_f G hr (pa_cons (pe_f G2 hr (pa_cons (pv 1) (pa_cons (pv 0) pa_nil))) pa_nil))) pa_nil)))), ?_⟩
    refine ⟨_, rfl, t, rfl, ⟨_, hT.sq⟩, comp_map (fun p => V.ref p.1) (fun p => .bl (nfB p.2)) hT.sq (sl6 hn) (fun p hp H' Q' sm q' => ?_) fun D H' hD sm hDl => ?_⟩
    · exact ⟨_, rfl, p.1, p.2, rfl, (hT.r p hp).same sm, hw p hp, q'⟩
    · refine ⟨D, prs.map fun p => nfB p.2, rfl, SqL.of (by rw [hDl, map_bl]), _, rfl, ?_⟩
      cases e1 : (prs.map fun p => nfB p.2).all id with
      | false =>
        refine iteT ?_
        have q1 := q H' sm
        unfold srB at q1
        rw [e1] at q1
        exact q1
      | true =>
        refine iteF ?_
        have hT1 := hT.same sm
        refine ⟨_, rfl, t, _, 0, .ref p0.1, rfl, rfl, hT1.sq, atI_nat (j := 0) (by rw [List.getElem?_map, hx0]; rfl), p0.1, _, rfl, .inl (hT1.r p0 hm0).sq, _, rfl, ?_, ?_, ?_⟩
        · omega
        · have := hw p0 hm0
          rw [List.length_map]
          omega
        · rw [List.length_map, ← hw0, Int.toNat_natCast]
          have hb : w0 prs ≤ 1000 := by rw [hw0]; exact hw p0 hm0
          refine comp_range (fun j => .bl (nfB (col prs j))) (sl6 hb) (fun j hj H2 Q' sm2 q' => ?_) fun D2 H2 hD2 sm2 hDl2 => ?_
          · have hT2 := hT1.same sm2
            refine ⟨_, rfl, _, rfl, t, prs, j, by rw [Int.zero_add], hT2, hn, fun p hp => by rw [hv p hp]; exact hj, fun D3 H3 hD3 sm3 r3 => ⟨D3, col prs j, rfl, r3, ?_, fun H4 sm4 => q' H4 (sm3.trans sm4)⟩⟩
            unfold col
            rw [List.length_map]
            exact hn
          · refine ⟨D2, (List.range (w0 prs)).map fun j => nfB (col prs j), rfl, SqL.of (by rw [hDl2, map_bl]), ?_⟩
            have q1 := q H2 (sm.trans sm2)
            unfold srB at q1
            rw [e1] at q1
            exact q1
/-! is_table -/
def spIsTable : Sp := fun vs H Q _ => ∃ (t : Addr) (prs : Prs), vs = [.ref t] ∧ Tab H t prs ∧ Sm prs ∧ ∀ H', Same H H' → Q (.bl (tabB prs)) H'
theorem sc_isTable : FnScope ["thing"] ["thing"] (defScope dIsTable) := ⟨rfl, rfl, rfl, by decide +kernel, rfl, by decide +kernel, by decide +kernel⟩
theorem shB_of {prs : Prs} (h : shB prs = true) : 1 ≤ prs.length ∧ prs.length ≤ 6 ∧ (∀ p ∈ prs, 1 ≤ p.2.length ∧ p.2.length ≤ 6) ∧ ∀ p ∈ prs, p.2.length = w0 prs := by
  unfold shB rowB at h
  simp only [Bool.and_eq_true, decide_eq_true_eq, List.all_eq_true, List.mem_map, id] at h
  obtain ⟨⟨h1, h2⟩, h3, h4⟩ := h
  exact ⟨h1, h2, fun p hp => by simpa using h3 _ ⟨p, hp, rfl⟩, fun p hp => by simpa using h4 _ ⟨p, hp, rfl⟩⟩
theorem ok_isTable (D : DefAt K mg "is_table" dIsTable ["thing"]) (G : FnAt P w K mg base 4 "has_table_shape" ["thing"] spShape) (G2 : FnAt P w K mg base 2 "is_sorted_both_ways" ["table"] spSorted) : FnAt P w K mg base 5 "is_table" ["thing"] spIsTable := by
  refine FnAt.of D sc_isTable (fun vs H Q E h => ?_) (fun f cdv A outer s H vs Q E hr h => ?_)
  · obtain ⟨t, prs, rfl, _⟩ := h
    rfl
  · obtain ⟨t, prs, rfl, hT, hs, q⟩ := h
    refine ⟨_, pss_one (ps_ret (pe_and (pe_f G hr (pa_cons (pv 0) pa_nil)) (pe_one (pe_f G2 (hr.mono (by decide)) (pa_cons (pv 0) pa_nil))))), ?_⟩
    refine ⟨_, rfl, t, prs, rfl, hT, hs, fun H' sm => ⟨_, rfl, ?_⟩⟩
    cases e : shB prs with
    | false =>
      refine iteF ?_
      have q1 := q H' sm
      unfold tabB at q1
      rw [e] at q1
      exact q1
    | true =>
      obtain ⟨a1, a2, a3, a4⟩ := shB_of e
      refine iteT ⟨_, rfl, t, prs, rfl, hT.same sm, hs, a1, a4, fun H2 sm2 => ?_⟩
      have q1 := q H2 (sm.trans sm2)
      unfold tabB at q1
      rw [e] at q1
      exact q1
/-! need_table, need_number: of good ones -/
def spNeedTable : Sp := fun vs H Q _ => ∃ (t : Addr) (prs : Prs), vs = [.ref t] ∧ Tab H t prs ∧ Sm prs ∧ tabB prs = true ∧ ∀ H', Same H H' → Q .non H'
theorem sc_needTable : FnScope ["thing"] ["thing"] (defScope dNeedTable) := ⟨rfl, rfl, rfl, by decide +kernel, rfl, by decide +kernel, by decide +kernel⟩
theorem ok_needTable (D : DefAt K mg "need_table" dNeedTable ["thing"]) (G : FnAt P w K mg base 5 "is_table" ["thing"] spIsTable) : FnAt P w K mg base 6 "need_table" ["thing"] spNeedTable := by
  refine FnAt.of D sc_needTable (fun vs H Q E h => ?_) (fun f cdv A outer s H vs Q E hr h => ?_)
  · obtain ⟨t, prs, rfl, _⟩ := h
    rfl
  · obtain ⟨t, prs, rfl, hT, hs, hg, q⟩ := h
    refine ⟨_, pss_one (ps_if (pt_not (pt_val (pe_f G hr (pa_cons (pv 0) pa_nil)))) pss_never pss_nil), ?_⟩
    refine ⟨_, rfl, t, prs, rfl, hT, hs, fun H' sm => ⟨_, rfl, ?_⟩⟩
    rw [hg]
    exact iteF (q H' sm)
def spNeedNumber : Sp := fun vs H Q _ => ∃ i : Int, vs = [.int i] ∧ Q .non H
theorem sc_needNumber : FnScope ["thing"] ["thing"] (defScope dNeedNumber) := ⟨rfl, rfl, rfl, by decide +kernel, rfl, by decide +kernel, by decide +kernel⟩
theorem ok_needNumber (D : DefAt K mg "need_number" dNeedNumber ["thing"]) (G : FnAt P w K mg base 1 "is_whole" ["thing"] spIsWhole) : FnAt P w K mg base 2 "need_number" ["thing"] spNeedNumber := by
  refine FnAt.of D sc_needNumber (fun vs H Q E h => ?_) (fun f cdv A outer s H vs Q E hr h => ?_)
  · obtain ⟨i, rfl, _⟩ := h
    rfl
  · obtain ⟨i, rfl, q⟩ := h
    refine ⟨_, pss_one (ps_if (pt_not (pt_val (pe_f G hr (pa_cons (pv 0) pa_nil)))) pss_never pss_nil), ?_⟩
    exact ⟨_, rfl, i, rfl, _, rfl, iteF q⟩
end
end Seek
namespace Seek
open PySem L2 PyProof.Rows
/-! ### the mathematics of tables -/
def nfP (ns : List Int) : Prop := ∀ i, i + 1 < ns.length → ns.getD i 0 ≤ ns.getD (i + 1) 0
theorem nfB_iff {ns : List Int} : nfB ns = true ↔ nfP ns := by
  unfold nfB nfP
  simp only [List.all_map, List.all_eq_true, List.mem_range, Function.comp, id, decide_eq_true_eq]
  constructor
  · intro h i hi
    exact h i (by omega)
  · intro h i hi
    exact h i (by omega)
def rowAt (prs : Prs) (i : Nat) : List Int := ((prs[i]?).map (·.2)).getD []
theorem rowAt_mem {prs : Prs} {i : Nat} (h : i < prs.length) : ∃ p ∈ prs, prs[i]? = some p ∧ rowAt prs i = p.2 := by
  refine ⟨prs[i], List.getElem_mem h, by simp [h], ?_⟩
  unfold rowAt
  rw [List.getElem?_eq_getElem h]
  rfl
theorem col_len (prs : Prs) (j : Nat) : (col prs j).length = prs.length := by
  unfold col
  rw [List.length_map]
theorem col_at {prs : Prs} {i j : Nat} (h : i < prs.length) : (col prs j).getD i 0 = (rowAt prs i).getD j 0 := by
  unfold col rowAt
  rw [List.getD_eq_getElem?_getD, List.getElem?_map, List.getElem?_eq_getElem h]
  rfl
structure GoodP (wide : Nat) (prs : Prs) : Prop where
  len : ∀ p ∈ prs, p.2.length = wide
  row : ∀ p ∈ prs, nfP p.2
  down : ∀ i, i + 1 < prs.length → ∀ j, j < wide → (rowAt prs i).getD j 0 ≤ (rowAt prs (i + 1)).getD j 0
theorem w0_of {wide : Nat} {prs : Prs} (h : 1 ≤ prs.length) (hl : ∀ p ∈ prs, p.2.length = wide) : w0 prs = wide := by
  obtain ⟨p, h1, h2, _⟩ := head_at h
  unfold w0
  rw [h1]
  exact hl p h2
theorem tabB_of {wide : Nat} {prs : Prs} (g : GoodP wide prs) (h1 : 1 ≤ prs.length) (h2 : prs.length ≤ 6) (h3 : 1 ≤ wide) (h4 : wide ≤ 6) : tabB prs = true := by
  have hw := w0_of h1 g.len
  unfold tabB shB srB rowB
  simp only [Bool.and_eq_true, decide_eq_true_eq, List.all_eq_true, List.mem_map, id]
  refine ⟨⟨⟨h1, h2⟩, ?_, ?_⟩, ?_, ?_⟩
  · rintro b ⟨p, hp, rfl⟩
    have := g.len p hp
    simp only [Bool.and_eq_true, decide_eq_true_eq]
    omega
  · rintro b ⟨p, hp, rfl⟩
    rw [decide_eq_true_eq, hw]
    exact g.len p hp
  · rintro b ⟨p, hp, rfl⟩
    exact nfB_iff.mpr (g.row p hp)
  · rintro b ⟨j, hj, rfl⟩
    rw [List.mem_range, hw] at hj
    refine nfB_iff.mpr fun i hi => ?_
    rw [col_len] at hi
    rw [col_at (by omega), col_at hi]
    exact g.down i hi j hj
theorem good_of {prs : Prs} (h : tabB prs = true) : GoodP (w0 prs) prs ∧ 1 ≤ prs.length ∧ prs.length ≤ 6 ∧ 1 ≤ w0 prs ∧ w0 prs ≤ 6 := by
  unfold tabB at h
  rw [Bool.and_eq_true] at h
  obtain ⟨h1, h2, h3, h4⟩ := shB_of h.1
  obtain ⟨p, e1, e2, _⟩ := head_at h1
  have h5 := h3 p e2
  have h6 := h4 p e2
  have hs := h.2
  unfold srB at hs
  simp only [Bool.and_eq_true, List.all_eq_true, List.mem_map, id] at hs
  refine ⟨⟨h4, fun p hp => nfB_iff.mp (hs.1 _ ⟨p, hp, rfl⟩), fun i hi j hj => ?_⟩, h1, h2, by omega, by omega⟩
  have := nfB_iff.mp (hs.2 _ ⟨j, List.mem_range.mpr hj, rfl⟩) i (by rw [col_len]; exact hi)
  rw [col_at (by omega), col_at hi] at this
  exact this
theorem getD_push {ns : List Int} {v : Int} {i : Nat} : (ns ++ [v]).getD i 0 = if i < ns.length then ns.getD i 0 else if i = ns.length then v else 0 := by
  rw [List.getD_eq_getElem?_getD, List.getD_eq_getElem?_getD]
  by_cases h : i < ns.length
  · rw [if_pos h, List.getElem?_append_left h]
  · rw [if_neg h, List.getElem?_append_right (by omega)]
    by_cases h2 : i = ns.length
    · subst h2
      simp
    · rw [if_neg h2, List.getElem?_eq_none (by simp; omega)]
      rfl
theorem nfP_push {ns : List Int} {v : Int} (h : nfP ns) (hl : ∀ k, k + 1 = ns.length → ns.getD k 0 ≤ v) : nfP (ns ++ [v]) := fun i hi => by
  rw [List.length_append, List.length_singleton] at hi
  rw [getD_push, getD_push, if_pos (by omega)]
  by_cases h2 : i + 1 < ns.length
  · rw [if_pos h2]
    exact h i h2
  · rw [if_neg h2, if_pos (by omega)]
    exact hl i (by omega)
theorem rowAt_push {prs : Prs} {p : Addr × List Int} {i : Nat} (h : i ≤ prs.length) : rowAt (prs ++ [p]) i = if i < prs.length then rowAt prs i else p.2 := by
  unfold rowAt
  by_cases h2 : i < prs.length
  · rw [if_pos h2, List.getElem?_append_left h2]
  · have : i = prs.length := by omega
    subst this
    rw [if_neg h2]
    simp
theorem good_push {wide : Nat} {prs : Prs} {a : Addr} {cur : List Int} (g : GoodP wide prs) (hl : cur.length = wide) (hn : nfP cur) (hd : prs.length = 0 ∨ ∀ j, j < wide → (rowAt prs (prs.length - 1)).getD j 0 ≤ cur.getD j 0) : GoodP wide (prs ++ [(a, cur)]) where
  len := fun p hp => by
    rcases List.mem_append.mp hp with z | z
    · exact g.len p z
    · have : p = (a, cur) := by simpa using z
      subst this
      exact hl
  row := fun p hp => by
    rcases List.mem_append.mp hp with z | z
    · exact g.row p z
    · have : p = (a, cur) := by simpa using z
      subst this
      exact hn
  down := fun i hi j hj => by
    rw [List.length_append, List.length_singleton] at hi
    rw [rowAt_push (by omega), rowAt_push (by omega), if_pos (by omega)]
    by_cases h2 : i + 1 < prs.length
    · rw [if_pos h2]
      exact g.down i h2 j hj
    · rw [if_neg h2]
      rcases hd with z | z
      · omega
      · have := z j hj
        rw [show prs.length - 1 = i by omega] at this
        exact this
theorem at_mem {ns : List Int} {d : Int} (h0 : 0 ≤ d) (h1 : d < ns.length) : ∃ r ∈ ns, atI (ns.map V.int) d = some (.int r) := by
  obtain ⟨k, rfl⟩ : ∃ k : Nat, d = k := ⟨d.toNat, by omega⟩
  have hk : k < ns.length := by omega
  exact ⟨ns[k], List.getElem_mem hk, atI_nat (by simp [hk])⟩
theorem atI_last {α : Type} {xs : List α} {v : α} (h : xs[xs.length - 1]? = some v) : atI xs (-1) = some v := by
  have hl : 0 < xs.length := by
    have := (List.getElem?_eq_some_iff.mp h).1
    omega
  unfold atI ixN
  rw [if_neg (by decide), if_pos (by omega)]
  show xs[((-1 : Int) + (xs.length : Int)).toNat]? = some v
  rw [show ((-1 : Int) + (xs.length : Int)).toNat = xs.length - 1 by omega]
  exact h
theorem at_last {ns : List Int} (h : 0 < ns.length) : atI (ns.map V.int) (-1) = some (.int (ns.getD (ns.length - 1) 0)) := by
  refine atI_last ?_
  rw [List.length_map, List.getElem?_map, List.getD_eq_getElem?_getD, List.getElem?_eq_getElem (by omega)]
  rfl
end Seek
namespace Seek
open PySem L2 PyProof.Rows
/-! deep data of rows and tables -/
def dRow (ns : List Int) : PyData := .list (ns.map PyData.int)
def dTab (rows : List (List Int)) : PyData := .list (rows.map dRow)
theorem rdAll_ints {K : PySem.W.Frag} {H : Hp} : ∀ ns : List Int, RdAll K H (ns.map V.int) (ns.map PyData.int)
  | [] => .nil
  | n :: r => .cons (.int n) (rdAll_ints r)
theorem Row.rd {K : PySem.W.Frag} {H : Hp} {a : Addr} {ns : List Int} (h : Row H a ns) : RdD K H (.ref a) (dRow ns) := .lst h.sq (rdAll_ints ns)
theorem rdAll_rows {K : PySem.W.Frag} {H : Hp} : ∀ prs : Prs, (∀ p ∈ prs, Row H p.1 p.2) → RdAll K H (prs.map fun p => V.ref p.1) ((prs.map (·.2)).map dRow)
  | [], _ => .nil
  | p :: r, h => .cons (h p (by simp)).rd (rdAll_rows r fun q hq => h q (by simp [hq]))
theorem Tab.rd {K : PySem.W.Frag} {H : Hp} {t : Addr} {prs : Prs} (h : Tab H t prs) : RdD K H (.ref t) (dTab (prs.map (·.2))) := .lst h.sq (rdAll_rows prs h.r)
theorem lay_ints : ∀ ns : List Int, PyData.canLayAll0 (ns.map PyData.int) = true ∧ PyData.depthAll (ns.map PyData.int) ≤ 0
  | [] => by simp [PyData.canLayAll0, PyData.depthAll]
  | n :: r => by
    have h := lay_ints r
    simp only [List.map_cons, PyData.canLayAll0, PyData.canLay0, PyData.depthAll, PyData.depth, h.1, Bool.and_self, true_and]
    have := h.2
    omega
theorem lay_rows : ∀ rows : List (List Int), PyData.canLayAll0 (rows.map dRow) = true ∧ PyData.depthAll (rows.map dRow) ≤ 1
  | [] => by simp [PyData.canLayAll0, PyData.depthAll]
  | ns :: r => by
    have h := lay_rows r
    have h2 := lay_ints ns
    simp only [List.map_cons, dRow, PyData.canLayAll0, PyData.canLay0, PyData.depthAll, PyData.depth, h2.1]
    have a1 := h.2
    have a2 := h2.2
    refine ⟨by rw [Bool.true_and]; exact h.1, ?_⟩
    show max (PyData.depthAll (ns.map PyData.int) + 1) (PyData.depthAll (r.map dRow)) ≤ 1
    omega
theorem shaped_row (ns : List Int) : SeqAt.shaped (dRow ns) = true := by
  have h := lay_ints ns
  have h2 := h.2
  show (PyData.canLay0 (.list (ns.map PyData.int)) && decide (PyData.depth (.list (ns.map PyData.int)) ≤ 64)) = true
  rw [Bool.and_eq_true]
  exact ⟨by simp only [PyData.canLay0]; exact h.1, decide_eq_true (by simp only [PyData.depth]; omega)⟩
theorem shaped_tab (rows : List (List Int)) : SeqAt.shaped (dTab rows) = true := by
  have h := lay_rows rows
  have h2 := h.2
  show (PyData.canLay0 (.list (rows.map dRow)) && decide (PyData.depth (.list (rows.map dRow)) ≤ 64)) = true
  rw [Bool.and_eq_true]
  exact ⟨by simp only [PyData.canLay0]; exact h.1, decide_eq_true (by simp only [PyData.depth]; omega)⟩
theorem eqv_ints : ∀ ns : List Int, PyData.eqvAll (ns.map PyData.int) (ns.map PyData.int) = true
  | [] => by simp [PyData.eqvAll]
  | n :: r => by simp [PyData.eqvAll, PyData.eqv, eqv_ints r]
theorem eqv_row (ns : List Int) : PyData.eqv (dRow ns) (dRow ns) = true := by
  unfold dRow
  simp only [PyData.eqv]
  exact eqv_ints ns
theorem eqv_rows : ∀ rows : List (List Int), PyData.eqvAll (rows.map dRow) (rows.map dRow) = true
  | [] => by simp [PyData.eqvAll]
  | n :: r => by simp [PyData.eqvAll, eqv_row n, eqv_rows r]
theorem eqv_tab (rows : List (List Int)) : PyData.eqv (dTab rows) (dTab rows) = true := by
  unfold dTab
  simp only [PyData.eqv]
  exact eqv_rows rows
theorem at_pr {prs : Prs} {d : Int} (h0 : 0 ≤ d) (h1 : d < prs.length) : ∃ p ∈ prs, atI (prs.map fun p => V.ref p.1) d = some (.ref p.1) := by
  obtain ⟨k, rfl⟩ : ∃ k : Nat, d = k := ⟨d.toNat, by omega⟩
  have hk : k < prs.length := by omega
  exact ⟨prs[k], List.getElem_mem hk, atI_nat (by simp [hk])⟩
theorem at_pr_last {prs : Prs} (h : 1 ≤ prs.length) : ∃ p ∈ prs, atI (prs.map fun p => V.ref p.1) (-1) = some (.ref p.1) := by
  have hk : prs.length - 1 < prs.length := by omega
  refine ⟨prs[prs.length - 1], List.getElem_mem hk, atI_last ?_⟩
  rw [List.length_map, List.getElem?_map, List.getElem?_eq_getElem hk]
  rfl
theorem inV_no {α : Type} (xs : List α) : inV (.bl true) (xs.map fun _ => V.bl false) = false := by
  unfold inV
  simp [eqV]
theorem flat_no {α : Type} (xs : List α) : (xs.map fun _ => V.bl false).all flatV = true := by
  simp [flatV]
end Seek
namespace Seek
open PySem L2 PyProof.Rows
theorem good_bounds {prs : Prs} (h : tabB prs = true) : Sm prs := by
  obtain ⟨g, h1, h2, h3, h4⟩ := good_of h
  exact ⟨by omega, fun p hp => by rw [g.len p hp]; omega⟩
/-- the same rows -/
theorem tabB_rows {prs prs' : Prs} (h : prs'.map (·.2) = prs.map (·.2)) : tabB prs' = tabB prs := by
  have hl : prs'.length = prs.length := by
    have := congrArg List.length h
    simpa using this
  have hm : ∀ (f : List Int → Bool), (prs'.map fun p => f p.2) = (prs.map fun p => f p.2) := fun f => by
    have := congrArg (List.map f) h
    rw [List.map_map, List.map_map] at this
    exact this
  have hm2 : ∀ (f : List Int → Int), (prs'.map fun p => f p.2) = (prs.map fun p => f p.2) := fun f => by
    have := congrArg (List.map f) h
    rw [List.map_map, List.map_map] at this
    exact this
  have hw : w0 prs' = w0 prs := by
    have := congrArg (fun l : List (List Int) => (l.head?.map List.length).getD 0) h
    simp only [List.head?_map, Option.map_map] at this
    exact this
  have hc : ∀ j, col prs' j = col prs j := fun j => hm2 fun ns => ns.getD j 0
  unfold tabB shB srB
  rw [hl, hw, hm rowB, hm fun ns => decide (ns.length = w0 prs), hm nfB]
  simp only [hc]
section
variable {P : Program} {w : World} {K : PySem.W.Frag} {mg : Str → Option Value} {base : Heap}
/-! _law_copy -/
def spCopy : Sp := fun vs H Q _ => ∃ (t : Addr) (prs : Prs), vs = [.ref t] ∧ Tab H t prs ∧ Sm prs ∧ ∀ t' prs' H', H t' = none → (∀ p ∈ prs', H p.1 = none) → Same H H' → Tab H' t' prs' → prs'.map (·.2) = prs.map (·.2) → Q (.ref t') H'
theorem sc_copy : FnScope ["table"] ["table"] (defScope dCopy) := ⟨rfl, rfl, rfl, by decide +kernel, rfl, by decide +kernel, by decide +kernel⟩
theorem ok_copy (T : Blt mg) (D : DefAt K mg "_law_copy" dCopy ["table"]) : FnAt P w K mg base 1 "_law_copy" ["table"] spCopy := by
  refine FnAt.of D sc_copy (fun vs H Q E h => ?_) (fun f cdv A outer s H vs Q E hr h => ?_)
  · obtain ⟨t, prs, rfl, _⟩ := h
    rfl
  · obtain ⟨t, prs, rfl, hT, hs, q⟩ := h
    have nd1 : (["row"] : List Str).Nodup := by decide +kernel
    refine ⟨_, pss_one (ps_ret (pe_comp ["row"] [none] (defScope dCopy) ["table"] rfl (pi_list (pv 0)) (by decide +kernel)
      (fun cl C s2 H2 ex => pg_c 0 nd1) (fun cl C s2 H2 ex => pifs_nil) (fun cl C s2 H2 ex => pe_t (listK K) T.list boot_list (pa_cons (pv 0) pa_nil)))), ?_⟩
    refine ⟨_, rfl, t, rfl, ⟨_, hT.sq⟩, fun D hD => ?_⟩
    refine comp_by (n := prs.length) (fun i ys H' => ∃ qs : Prs, Same H H' ∧ H' D = some (.lst ys) ∧ ys = (qs.map fun p => V.ref p.1) ∧ qs.length = i ∧ qs.map (·.2) = (prs.take i).map (·.2) ∧ (∀ p ∈ qs, Row H' p.1 p.2 ∧ H p.1 = none ∧ p.1 ≠ D))
      ⟨[], Same.new hD, upd_same, rfl, rfl, by simp, fun p hp => nomatch hp⟩ (fun i ys H' _ ⟨_, _, h, _⟩ => h) (fun i ys H' hi ⟨_, sm, _⟩ => ⟨_, .ref prs[i].1, (hT.same sm).sq, by simp [hi]⟩) (fun ys H' ⟨_, sm, _⟩ => ⟨_, (hT.same sm).sq, by simp⟩) ?_ (fun ys H' h => ?_)
    · rintro i ys H' x H2 hi ⟨qs, sm, hDl, hys, hql, hqm, hq⟩ ⟨rfl, hy⟩
      have hx := hy _ (hT.same sm).sq
      rw [List.getElem?_map, List.getElem?_eq_getElem hi] at hx
      have hx : V.ref prs[i].1 = x := Option.some.inj hx
      subst hx
      unfold tTrue
      refine iteT ?_
      have hR := (hT.same sm).r prs[i] (List.getElem_mem hi)
      refine ⟨_, rfl, prs[i].1, _, rfl, .inl hR.sq, fun l hl => ?_⟩
      have nlD : D ≠ l := ne_of_none hDl hl
      refine ⟨(Same.new hl) _ _ hDl, ?_, qs ++ [(l, prs[i].2)], ?_, upd_same, ?_, ?_, ?_, ?_⟩
      · rw [hys, List.length_map, hql]
        exact small1000 (by have := hs.1; omega)
      · exact (sm.trans (Same.new hl)).upd hD
      · rw [hys, List.map_append]
        rfl
      · rw [List.length_append, List.length_singleton, hql]
      · rw [List.map_append, hqm, List.take_add_one, List.getElem?_eq_getElem hi, List.map_append]
        rfl
      · intro p hp
        rcases List.mem_append.mp hp with z | z
        · obtain ⟨z1, z2, z3⟩ := hq p z
          refine ⟨?_, z2, z3⟩
          unfold Row
          rw [upd_ne z3]
          exact (Same.new hl) _ _ z1
        · have : p = (l, prs[i].2) := by simpa using z
          subst this
          refine ⟨?_, sm.free hl, Ne.symm nlD⟩
          unfold Row
          rw [upd_ne (Ne.symm nlD)]
          exact upd_same
    · obtain ⟨qs, sm, hDl, hys, hql, hqm, hq⟩ := h
      rw [List.take_length] at hqm
      exact q D qs H' hD (fun p hp => (hq p hp).2.1) sm ⟨by rw [hDl, hys], fun p hp => (hq p hp).1⟩ hqm
end
end Seek
namespace Seek
open PySem L2 PyProof.Rows
/-! ### the store of three numbers -/
def StK (H : Hp) (s : Addr) : Prop := ∃ g b c : Int, H s = some (.lst [.int g, .int b, .int c])
/-- all but s is as it was -/
def But (s : Addr) (H H' : Hp) : Prop := ∀ b o, b ≠ s → H b = some o → H' b = some o
theorem But.refl (s : Addr) (H : Hp) : But s H H := fun _ _ _ e => e
theorem But.trans {s : Addr} {H H1 H2 : Hp} (a : But s H H1) (b : But s H1 H2) : But s H H2 := fun c o n e => b c o n (a c o n e)
theorem Same.but {s : Addr} {H H' : Hp} (a : Same H H') : But s H H' := fun c o _ e => a c o e
theorem StK.same {H H' : Hp} {s : Addr} (e : Same H H') (h : StK H s) : StK H' s := let ⟨g, b, c, h⟩ := h; ⟨g, b, c, e _ _ h⟩
theorem StK.ne {H : Hp} {s a : Addr} (h : StK H s) (n : H a = none) : s ≠ a := let ⟨_, _, _, h⟩ := h; ne_of_none h n
theorem But.free {s a : Addr} {H H' : Hp} (b : But s H H') (S : StK H' s) (h : H' a = none) : H a = none := by
  cases e : H a with
  | none => rfl
  | some o =>
    by_cases hz : a = s
    · obtain ⟨_, _, _, z⟩ := S
      rw [hz, z] at h
      cases h
    · rw [b a o hz e] at h
      cases h
/-- what stood ahead of the store's making stands -/
theorem Same.but' {s : Addr} {H H1 H2 : Hp} (a : Same H H1) (n : H s = none) (b : But s H1 H2) : Same H H2 := fun c o e => b c o (ne_of_none e n) (a c o e)
theorem Row.but {H H' : Hp} {s a : Addr} {ns : List Int} (r : Row H a ns) (n : a ≠ s) (e : But s H H') : Row H' a ns := e _ _ n r
theorem Tab.but {H H' : Hp} {s t : Addr} {prs : Prs} (r : Tab H t prs) (n : t ≠ s) (ns : ∀ p ∈ prs, p.1 ≠ s) (e : But s H H') : Tab H' t prs := ⟨e _ _ n r.l, fun p hp => (r.r p hp).but (ns p hp) e⟩
theorem len0 : 0 ≤ sizeLine := Nat.zero_le _
theorem len1 : 1 ≤ sizeLine := by decide
theorem len2 : 2 ≤ sizeLine := by decide
theorem len3 : 3 ≤ sizeLine := by decide
theorem len4 : 4 ≤ sizeLine := by decide
theorem len5 : 5 ≤ sizeLine := by decide
theorem len6 : 6 ≤ sizeLine := by decide
theorem Row.new {H : Hp} {D : Addr} : Row (upd H D (.lst [])) D [] := upd_same
theorem Row.push {H : Hp} {D : Addr} {ds : List Int} {v : Int} : Row (upd H D (.lst (ds.map V.int ++ [.int v]))) D (ds ++ [v]) := by
  unfold Row
  rw [upd_same, List.map_append]
  rfl
section
variable {P : Program} {w : World} {K : PySem.W.Frag} {mg : Str → Option Value} {base : Heap}
/-! _law_cell -/
def spLCell (K : PySem.W.Frag) : Sp := fun vs H Q _ => ∃ (a : Addr) (ns : List Int) (k : Nat), vs = [.ref a, .int (k : Nat)] ∧ SqL K H a (ns.map V.int) ∧ k ≤ 100 ∧ ∀ c, Q (.int c) H
theorem sc_lcell : FnScope ["script", "k"] ["script", "k"] (defScope dLCell) := ⟨rfl, rfl, rfl, by decide +kernel, rfl, by decide +kernel, by decide +kernel⟩
theorem ok_lcell (T : Blt mg) (D : DefAt K mg "_law_cell" dLCell ["script", "k"]) : FnAt P w K mg base 1 "_law_cell" ["script", "k"] (spLCell K) := by
  refine FnAt.of D sc_lcell (fun vs H Q E h => ?_) (fun f cdv A outer s H vs Q E hr h => ?_)
  · obtain ⟨a, ns, k, rfl, _⟩ := h
    rfl
  · obtain ⟨a, ns, k, rfl, hS, hk, q⟩ := h
    refine ⟨_, pss_cons (ps_if (pt_cmpR o_lt (pv 1) (pe_b call_len_seq T.len boot_len (pa_cons (pv 0) pa_nil)) (nomark _)) (pss_one (ps_ret (pe_ix ix_list (pv 0) (pv 1) (fun _ _ => rfl)))) pss_nil)
      (pss_one (ps_ret (pe_op o_add (pe_op o_add (pe_op o_mul (pe_op o_mul pe_int (pv 1)) (pv 1)) (pe_op o_mul pe_int (pv 1))) pe_int))), ?_⟩
    refine ⟨_, rfl, _, rfl, a, _, rfl, .inl hS, _, _, rfl, rfl, _, rfl, ?_⟩
    rw [List.length_map]
    refine ite2 (fun h1 => ?_) (fun h1 => ?_)
    · have h1 := of_decide_eq_true h1
      exact ⟨_, rfl, _, rfl, a, _, _, _, rfl, rfl, hS, at_row (by omega), q _⟩
    · exact ⟨_, rfl, _, _, rfl, rfl, .inl ⟨by decide, by decide⟩, _, rfl, _, _, rfl, rfl, .inr ⟨by omega, by omega⟩, _, rfl, _, _, rfl, rfl, .inl ⟨by decide, by decide⟩, _, _, rfl, rfl, _, _, rfl, rfl, q _⟩
/-! _law_store -/
def spStore : Sp := fun vs H Q _ => ∃ c : Int, vs = [.int c] ∧ ∀ s H', H s = none → Same H H' → StK H' s → Q (.ref s) H'
theorem sc_store : FnScope ["cell", "great"] ["cell"] (defScope dStore) := ⟨rfl, rfl, rfl, by decide +kernel, rfl, by decide +kernel, by decide +kernel⟩
theorem ok_store (D : DefAt K mg "_law_store" dStore ["cell"]) : FnAt P w K mg base 1 "_law_store" ["cell"] spStore := by
  refine FnAt.of D sc_store (fun vs H Q E h => ?_) (fun f cdv A outer s H vs Q E hr h => ?_)
  · obtain ⟨c, rfl, _⟩ := h
    rfl
  · obtain ⟨c, rfl, q⟩ := h
    have nd := sc_store.nd
    refine ⟨_, pss_cons (ps_set (i := 1) nd rfl (Or.inl rfl) pe_int) (pss_cons (ps_if (pt_cmpR o_ge (pv 0) (pe_op o_pow pe_int pe_int) (nomark _)) (pss_one (ps_set (i := 1) nd rfl (Or.inl rfl) (pv 0))) pss_nil)
      (pss_one (ps_ret (pe_lst (pa_cons (pv 1) (pa_cons (pe_op o_mod (pv 0) pe_int) (pa_cons pe_int pa_nil))))))), ?_⟩
    refine ⟨_, rfl, _, _, rfl, rfl, ⟨by decide, by decide, by decide⟩, _, _, rfl, rfl, _, rfl, ite2 (fun _ => ?_) (fun _ => ?_)⟩
    · exact ⟨_, rfl, _, rfl, _, rfl, _, _, rfl, rfl, by decide, len3, fun p hp => q p _ hp (Same.new hp) ⟨_, _, _, upd_same⟩⟩
    · exact ⟨_, rfl, _, rfl, _, _, rfl, rfl, by decide, len3, fun p hp => q p _ hp (Same.new hp) ⟨_, _, _, upd_same⟩⟩
/-! _law_take -/
def spTakeK : Sp := fun vs H Q _ => ∃ (s : Addr) (m : Int), vs = [.ref s, .int m] ∧ 0 < m ∧ m < 100000 ∧ StK H s ∧ ∀ d H', 0 ≤ d → d < m → But s H H' → StK H' s → Q (.int d) H'
theorem sc_takeK : FnScope ["store", "many", "told", "one"] ["store", "many"] (defScope dTake) := ⟨rfl, rfl, rfl, by decide +kernel, rfl, by decide +kernel, by decide +kernel⟩
set_option maxHeartbeats 16000000 in
theorem ok_takeK (D : DefAt K mg "_law_take" dTake ["store", "many"]) : FnAt P w K mg base 1 "_law_take" ["store", "many"] spTakeK := by
  refine FnAt.of D sc_takeK (fun vs H Q E h => ?_) (fun f cdv A outer s H vs Q E hr h => ?_)
  · obtain ⟨st, m, rfl, _⟩ := h
    rfl
  · obtain ⟨st, m, rfl, hm, hm2, ⟨g, b, c, h1⟩, q⟩ := h
    have nd := sc_takeK.nd
    refine ⟨_, pss_cons (ps_if (pt_cmpR o_gt (pe_ix ix_list (pv 0) pe_int (fun _ _ => rfl)) pe_int (nomark _))
        (pss_cons (ps_set (i := 2) nd rfl (Or.inl rfl) (pe_op o_mod (pe_ix ix_list (pv 0) pe_int (fun _ _ => rfl)) (pv 1)))
        (pss_cons (ps_asg (pe_op o_div (pe_ix ix_list (pv 0) pe_int (fun _ _ => rfl)) (pv 1)) (pg_sub (pv 0) pe_int set_list))
        (pss_one (ps_ret (pv 2))))) pss_nil)
      (pss_cons (ps_asg (pe_op o_add (pe_ix ix_list (pv 0) pe_int (fun _ _ => rfl)) pe_int) (pg_sub (pv 0) pe_int set_list))
      (pss_cons (ps_set (i := 3) nd rfl (Or.inl rfl) (pe_op o_mod (pe_op o_mul (pe_op o_add (pe_ix ix_list (pv 0) pe_int (fun _ _ => rfl)) (pe_op o_mul pe_int (pe_ix ix_list (pv 0) pe_int (fun _ _ => rfl)))) pe_int) pe_int))
      (pss_cons (ps_set (i := 3) nd rfl (Or.inl rfl) (pe_op o_mod (pe_op o_mul (pv 3) (pv 3)) pe_int))
      (pss_cons (ps_set (i := 3) nd rfl (Or.inl rfl) (pe_op o_mod (pe_op o_mul (pe_op o_add (pv 3) (pe_op o_mul pe_int (pe_ix ix_list (pv 0) pe_int (fun _ _ => rfl)))) pe_int) pe_int))
      (pss_one (ps_ret (pe_op o_mod (pe_op o_div (pv 3) pe_int) (pv 1)))))))), ?_⟩
    refine ⟨_, rfl, st, _, 0, .int g, rfl, rfl, SqL.of h1, rfl, _, _, rfl, rfl, _, rfl, ite2 (fun _ => ?_) (fun _ => ?_)⟩
    · refine ⟨_, rfl, st, _, 0, .int g, rfl, rfl, SqL.of h1, rfl, _, rfl, _, _, rfl, rfl, hm, ?_⟩
      refine ⟨_, rfl, st, _, 0, .int g, rfl, rfl, SqL.of h1, rfl, _, rfl, _, _, rfl, rfl, ⟨hm, by omega⟩, _, rfl, st, _, 0, 0, rfl, rfl, h1, rfl, ?_⟩
      refine ⟨_, rfl, q _ _ (Int.emod_nonneg _ (by omega)) (Int.emod_lt_of_pos _ hm) (fun b o n e => by rw [upd_ne n]; exact e) ⟨_, _, _, upd_same⟩⟩
    · refine ⟨_, rfl, st, _, 2, .int c, rfl, rfl, SqL.of h1, rfl, _, _, rfl, rfl, _, rfl, st, _, 2, 2, rfl, rfl, h1, rfl, ?_⟩
      have e1 : (upd H st (.lst ([V.int g, .int b, .int c].set 2 (.int (c + 1))))) st = some (.lst [.int g, .int b, .int (c + 1)]) := upd_same
      have hb : But st H (upd H st (.lst ([V.int g, .int b, .int c].set 2 (.int (c + 1))))) := fun b o n e => by rw [upd_ne n]; exact e
      generalize upd H st (.lst ([V.int g, .int b, .int c].set 2 (.int (c + 1)))) = H1 at e1 hb ⊢
      refine ⟨_, rfl, st, _, 1, .int b, rfl, rfl, SqL.of e1, rfl, _, rfl, st, _, 2, .int (c + 1), rfl, rfl, SqL.of e1, rfl, _, _, rfl, rfl, .inl ⟨by decide, by decide⟩, _, _, rfl, rfl, _, _, rfl, rfl, .inr ⟨by decide, by decide⟩, _, _, rfl, rfl, (by decide), ?_⟩
      generalize (b + 7919 * (c + 1)) * 48271 = z1
      have b1 : 0 ≤ z1 % 2147483647 ∧ z1 % 2147483647 < 2147483647 := ⟨Int.emod_nonneg _ (by decide), Int.emod_lt_of_pos _ (by decide)⟩
      generalize z1 % 2147483647 = o1 at b1 ⊢
      refine ⟨_, rfl, _, rfl, _, _, rfl, rfl, .inl ⟨by omega, by omega⟩, _, _, rfl, rfl, (by decide), ?_⟩
      generalize (o1 * o1) % 2147483629 = o2
      refine ⟨_, rfl, _, rfl, st, _, 2, .int (c + 1), rfl, rfl, SqL.of e1, rfl, _, _, rfl, rfl, .inl ⟨by decide, by decide⟩, _, _, rfl, rfl, _, _, rfl, rfl, .inr ⟨by decide, by decide⟩, _, _, rfl, rfl, (by decide), ?_⟩
      generalize (o2 + 40692 * (c + 1)) * 69621 % 2147483587 = o3
      refine ⟨_, rfl, _, _, rfl, rfl, ⟨by decide, by decide⟩, _, rfl, _, _, rfl, rfl, hm, ?_⟩
      exact q _ _ (Int.emod_nonneg _ (by omega)) (Int.emod_lt_of_pos _ hm) hb ⟨_, _, _, e1⟩
/-! _law_far -/
def spFar : Sp := fun vs H Q _ => ∃ (s : Addr) (m : Int), vs = [.ref s, .int m] ∧ 0 < m ∧ m < 1000 ∧ StK H s ∧ ∀ d H', 0 ≤ d → d < 10 ^ m.toNat → But s H H' → StK H' s → Q (.int d) H'
theorem sc_far : FnScope ["store", "figures", "found", "k"] ["store", "figures"] (defScope dFar) := ⟨rfl, rfl, rfl, by decide +kernel, rfl, by decide +kernel, by decide +kernel⟩
theorem ok_far (T : Blt mg) (D : DefAt K mg "_law_far" dFar ["store", "figures"]) (G : FnAt P w K mg base 1 "_law_take" ["store", "many"] spTakeK) : FnAt P w K mg base 2 "_law_far" ["store", "figures"] spFar := by
  refine FnAt.of D sc_far (fun vs H Q E h => ?_) (fun f cdv A outer s H vs Q E hr h => ?_)
  · obtain ⟨st, m, rfl, _⟩ := h
    rfl
  · obtain ⟨st, m, rfl, hm, hm2, S, q⟩ := h
    have nd := sc_far.nd
    refine ⟨_, pss_cons (ps_set (i := 2) nd rfl (Or.inl rfl) pe_int)
      (pss_cons (ps_for PassesOwn.never rfl (pi_range1 rfl T.rng (pa_cons (pe_op o_add pe_int (pe_f G hr (pa_cons (pv 0) (pa_cons (pv 1) pa_nil)))) pa_nil)) (pg_name (i := 3) nd rfl (Or.inl rfl))
        (pss_one (ps_set (i := 2) nd rfl (Or.inl rfl) (pe_op o_add (pe_op o_mul (pv 2) pe_int) (pe_f G hr (pa_cons (pv 0) (pa_cons pe_int pa_nil)))))))
      (pss_one (ps_ret (pv 2)))), ?_⟩
    refine ⟨_, rfl, _, rfl, st, m, rfl, hm, by omega, S, fun d H1 d0 d1 B1 S1 => ⟨_, _, rfl, rfl, _, rfl, by omega, by omega, for_range (fun i σ H2 => ∃ (n : Int) (o3 : Option V), σ = [some (.ref st), some (.int m), some (.int n), o3] ∧ 0 ≤ n ∧ n < 10 ^ i ∧ But st H H2 ∧ StK H2 st) ⟨0, none, rfl, by decide, by decide, B1, S1⟩ ?_ ?_⟩⟩
    · rintro i σ H2 hi ⟨n, o3, rfl, hn, hnb, B2, S2⟩
      refine ⟨_, rfl, _, _, rfl, rfl, .inr ⟨by decide, by decide⟩, _, rfl, st, _, rfl, by decide, by decide, S2, fun d H3 d0 d1 B3 S3 => ⟨_, _, rfl, rfl, _, _, rfl, by omega, by rw [Int.pow_succ]; generalize (10 : Int) ^ i = M at *; omega, B2.trans B3, S3⟩⟩
    · rintro σ H2 ⟨n, o3, rfl, hn, hnb, B2, S2⟩
      refine ⟨_, rfl, q n H2 hn (Int.lt_of_lt_of_le hnb ?_) B2 S2⟩
      have h1 : (10 : Nat) ^ (1 + d).toNat ≤ 10 ^ m.toNat := Nat.pow_le_pow_right (by decide) (by omega)
      have h2 : ((10 : Nat) ^ (1 + d).toNat : Int) ≤ ((10 : Nat) ^ m.toNat : Int) := by exact_mod_cast h1
      exact h2
end
end Seek
namespace Seek
open PySem L2 PyProof.Rows
theorem cut_last {xs : List V} : cutV xs (some (-1)) none = xs.drop (xs.length - 1) := by
  have e : HT.sIx xs.length 0 (some (-1)) = xs.length - 1 := by
    show (if (-1 : Int) < 0 then ((-1 : Int) + (xs.length : Int)).toNat else min (-1 : Int).toNat xs.length) = xs.length - 1
    rw [if_pos (by decide)]
    omega
  unfold cutV
  rw [e, HT.sIx_none]
  refine List.take_of_length_le ?_
  rw [List.length_drop]
  omega
def lastL (ns : List Int) : List Int := ns.drop (ns.length - 1)
theorem lastL_mem {ns : List Int} {k : Nat} (h : k + 1 = ns.length) : ns.getD k 0 ∈ lastL ns := by
  unfold lastL
  rw [show ns.length - 1 = k by omega, List.getD_eq_getElem?_getD, List.getElem?_eq_getElem (by omega)]
  exact List.mem_iff_getElem?.mpr ⟨0, by rw [List.getElem?_drop, Nat.add_zero]; exact List.getElem?_eq_getElem (by omega)⟩
theorem lastL_len (ns : List Int) : (lastL ns).length ≤ 1 := by
  unfold lastL
  rw [List.length_drop]
  omega
theorem eqv_nil (A : List Int) : PyData.eqv (dRow A) (dRow []) = A.isEmpty := by
  cases A with
  | nil => exact eqv_row []
  | cons a A => simp [dRow, PyData.eqv, PyData.eqvAll]
/-- an if without else, and what follows it once for all ways -/
theorem if_tail {tc : TT} {t u : TS} {D : Ends} {σ0 : L2.St} {H0 : Hp} (C : (L2.St → Hp → Prop) → Prop) (h : C (u D)) (hA : C (u D) → tc σ0 H0 (fun b H1 => if b = true then t { D with nx := u D } σ0 H1 else u D σ0 H1)) : tSeq (tIfS tc t tNext) u D σ0 H0 := hA h
def Bnd (prs : Prs) : Prop := ∀ p ∈ prs, ∀ n ∈ p.2, n.natAbs < 10 ^ 38
/-- between, after m steps -/
def Stp (m : Int) (n : Int) : Prop := -10000000000000000000000000 ≤ n ∧ n ≤ 10000000000000000000000000 + m * 1000000000000000000000000
theorem e25 : (10 : Int) ^ (25 : Int).toNat = 10000000000000000000000000 := by decide
theorem e24 : (10 : Int) ^ (24 : Int).toNat = 1000000000000000000000000 := by decide
section
variable {P : Program} {w : World} {K : PySem.W.Frag} {mg : Str → Option Value} {base : Heap}
/-! _law_table -/
def spTableK : Sp := fun vs H Q _ => ∃ (s : Addr), vs = [.ref s] ∧ StK H s ∧ ∀ t prs H', H t = none → (∀ p ∈ prs, H p.1 = none) → (prs.map (·.1)).Nodup → But s H H' → StK H' s → Tab H' t prs → tabB prs = true → Bnd prs → Q (.ref t) H'
theorem sc_tableK : FnScope ["store", "wide", "begin", "way", "found", "row", "line", "place", "ahead", "more"] ["store"] (defScope dTable) := ⟨rfl, rfl, rfl, by decide +kernel, rfl, by decide +kernel, by decide +kernel⟩
set_option maxHeartbeats 32000000 in
theorem ok_tableK (T : Blt mg) (D : DefAt K mg "_law_table" dTable ["store"]) (G : FnAt P w K mg base 1 "_law_take" ["store", "many"] spTakeK) (G2 : FnAt P w K mg base 2 "_law_far" ["store", "figures"] spFar) : FnAt P w K mg base 3 "_law_table" ["store"] spTableK := by
  refine FnAt.of D sc_tableK (fun vs H Q E h => ?_) (fun f cdv A outer s H vs Q E hr h => ?_)
  · obtain ⟨st, rfl, _⟩ := h
    rfl
  · obtain ⟨st, rfl, S, q⟩ := h
    have nd := sc_tableK.nd
    have nd1 : (["one", "place"] : List Str).Nodup := by decide +kernel
    have hr1 : Room 1 _ := hr.mono (by decide)
    refine ⟨_, pss_cons (ps_set (i := 1) nd rfl (Or.inl rfl) (pe_op o_add pe_int (pe_f G hr1 (pa_cons (pv 0) (pa_cons pe_int pa_nil)))))
      (pss_cons (ps_set (i := 2) nd rfl (Or.inl rfl) (pe_ix ix_list (pe_lst (pa_cons pe_int (pa_cons (pe_op o_sub (pe_f G hr1 (pa_cons (pv 0) (pa_cons pe_int pa_nil))) pe_int) (pa_cons (pe_f G2 hr (pa_cons (pv 0) (pa_cons pe_int pa_nil))) (pa_cons (pe_op o_sub pe_int (pe_f G2 hr (pa_cons (pv 0) (pa_cons pe_int pa_nil)))) pa_nil)))))
        (pe_f G hr1 (pa_cons (pv 0) (pa_cons pe_int pa_nil))) (fun _ _ => rfl)))
      (pss_cons (ps_set (i := 3) nd rfl (Or.inl rfl) (pe_f G hr1 (pa_cons (pv 0) (pa_cons pe_int pa_nil))))
      (pss_cons (ps_set (i := 4) nd rfl (Or.inl rfl) (pe_lst pa_nil))
      (pss_cons (ps_for PassesOwn.never rfl (pi_range1 rfl T.rng (pa_cons (pe_op o_add pe_int (pe_f G hr1 (pa_cons (pv 0) (pa_cons pe_int pa_nil)))) pa_nil)) (pg_name (i := 5) nd rfl (Or.inl rfl))
        (pss_cons (ps_set (i := 6) nd rfl (Or.inl rfl) (pe_lst pa_nil))
        (pss_cons (ps_for PassesOwn.never rfl (pi_range1 rfl T.rng (pa_cons (pv 1) pa_nil)) (pg_name (i := 7) nd rfl (Or.inr rfl))
          (pss_cons (ps_set (i := 8) nd rfl (Or.inl rfl) (pe_op op_cat (pe_slice sl_list (pv 6) (po_some (pe_un o_neg pe_int)) po_none) (pe_comp ["one", "place"] [none, some 7] (defScope dTable) ["store", "wide", "begin", "way", "found", "row", "line", "place", "ahead", "more"] rfl (pi_list (pe_slice sl_list (pv 4) (po_some (pe_un o_neg pe_int)) po_none)) (by decide +kernel)
            (fun cl C s2 H2 ex => pg_c 0 nd1) (fun cl C s2 H2 ex => pifs_nil) (fun cl C s2 H2 ex => pe_ix (ixL K) (pv 0) (pv 1) (fun _ _ => rfl)))))
          (pss_cons (ps_set (i := 9) nd rfl (Or.inl rfl) (pe_f G hr1 (pa_cons (pv 0) (pa_cons (pe_ix ix_list (pe_lst (pa_cons pe_int (pa_cons pe_int (pa_cons pe_int (pa_cons pe_int (pa_cons pe_int pa_nil)))))) (pv 3) (fun _ _ => rfl)) pa_nil))))
          (pss_cons (ps_if (PW.pt (pw_and (pt_cmpR op_eq (pv 3) pe_int (nomark _)) (pw_and1 (pt_cmpR op_eq (pv 9) pe_int (nomark _))))) (pss_one (ps_set (i := 9) nd rfl (Or.inl rfl) (pe_f G2 hr (pa_cons (pv 0) (pa_cons pe_int pa_nil))))) pss_nil)
          (pss_one (ps_expr (pe_bm PySem.F.plainAttrs_list PySem.F.slot_list_append PySem.F.type_list_append mt_append (pv 6) (pa_cons (pe_op o_add (pe_b (call_maxL rfl) T.max boot_max (pa_cons (pe_op op_cat (pv 8) (pe_op op_rep (pe_lst (pa_cons (pv 2) pa_nil)) (pe_t call_int1 T.int boot_int (pa_cons (pe_cmpR (op_eqD hr.units) (pv 8) (pe_lst pa_nil) (nomark _)) pa_nil)))) pa_nil)) (pv 9)) pa_nil))))))))
        (pss_one (ps_expr (pe_bm PySem.F.plainAttrs_list PySem.F.slot_list_append PySem.F.type_list_append mt_append (pv 4) (pa_cons (pv 6) pa_nil)))))))
      (pss_one (ps_ret (pv 4))))))), ?_⟩
    -- wide
    refine ⟨_, rfl, st, _, rfl, by decide, by decide, S, fun w1 H1 w10 w11 B1 S1 => ⟨_, _, rfl, rfl, ?_⟩⟩
    -- begin
    refine ⟨_, rfl, st, _, rfl, by decide, by decide, S1, fun d1 H2 d10 d11 B2 S2 => ⟨_, _, rfl, rfl, _, rfl, st, _, rfl, by decide, by decide, S2, fun d2 H3 d20 d2b B3 S3 => ⟨_, rfl, st, _, rfl, by decide, by decide, S3, fun d3 H4 d30 d3b B4 S4 => ⟨_, _, rfl, rfl, len4, fun l hl => ?_⟩⟩⟩⟩
    have S4' := S4.same (Same.new (o := .lst [.int 0, .int (d1 - 4), .int d2, .int (0 - d3)]) hl)
    refine ⟨_, rfl, st, _, rfl, by decide, by decide, S4', fun d4 H5 d40 d41 B5 S5 => ?_⟩
    obtain ⟨bg, hbg0, ebg⟩ := at_mem (ns := [0, d1 - 4, d2, 0 - d3]) d40 d41
    rw [e25] at d2b d3b
    have hbg : Stp 0 bg := by
      simp only [List.mem_cons, List.not_mem_nil, or_false] at hbg0
      unfold Stp
      omega
    refine ⟨l, _, _, .int bg, rfl, rfl, SqL.of (B5 _ _ (Ne.symm (S4.ne hl)) upd_same), ebg, ?_⟩
    have C5 : But st H H5 := B1.trans (B2.trans (B3.trans (B4.trans ((Same.but (Same.new hl)).trans B5))))
    clear B1 B2 B3 B4 B5 S1 S2 S3 S4 S4' ebg
    -- way
    refine ⟨_, rfl, st, _, rfl, by decide, by decide, S5, fun way H6 way0 way1 B6 S6 => ?_⟩
    have C6 := C5.trans B6
    clear B6 C5 S5
    refine ⟨len0, fun tb htb => ?_⟩
    have tb0 : H tb = none := C6.free S6 htb
    have C7 := C6.trans (Same.but (Same.new (o := .lst []) htb))
    have S7 := S6.same (Same.new (o := .lst []) htb)
    refine ⟨_, rfl, st, _, rfl, by decide, by decide, S7, fun rw1 H8 rw10 rw11 B8 S8 => ?_⟩
    have hbt : tb ≠ st := Ne.symm (S6.ne htb)
    have t8 : H8 tb = some (.lst []) := B8 _ _ hbt upd_same
    have C8 := C7.trans B8
    refine ⟨_, _, rfl, rfl, _, rfl, by omega, by omega, for_range (fun i σ H2 => ∃ (prs : Prs) (o5 o6 o7 o8 o9 : Option V), σ = [some (.ref st), some (.int (1 + w1)), some (.int bg), some (.int way), some (.ref tb), o5, o6, o7, o8, o9] ∧
      But st H H2 ∧ StK H2 st ∧ Tab H2 tb prs ∧ prs.length = i ∧ GoodP (1 + w1).toNat prs ∧ (prs.map (·.1)).Nodup ∧ (∀ p ∈ prs, H p.1 = none ∧ p.1 ≠ st) ∧ ∀ p ∈ prs, ∀ n ∈ p.2, Stp (6 * (i : Nat)) n)
      ⟨[], none, none, none, none, none, rfl, C8, S8, ⟨t8, fun p hp => nomatch hp⟩, rfl, ⟨fun p hp => (nomatch hp), fun p hp => (nomatch hp), fun i hi => absurd hi (by simp)⟩, by simp, (fun p hp => nomatch hp), (fun p hp => nomatch hp)⟩ ?_ ?_⟩
    · rintro i σ H2 hi ⟨prs, o5, o6, o7, o8, o9, rfl, B, S, hT, hlen, hg, hnd, hfr, hbd⟩
      refine ⟨len0, fun nn hnn => ?_⟩
      have nn0 : H nn = none := B.free S hnn
      have nnt : tb ≠ nn := ne_of_none hT.l hnn
      have nnp : ∀ p ∈ prs, p.1 ≠ nn := fun p hp => ne_of_none (hT.r p hp) hnn
      have nns : nn ≠ st := Ne.symm (S.ne hnn)
      have hps : ∀ p ∈ prs, p.1 ≠ st := fun p hp => (hfr p hp).2
      refine ⟨_, rfl, 1 + w1, rfl, by omega, by omega, for_range (fun j σ H3 => ∃ (cur : List Int) (o7 o8 o9 : Option V), σ = [some (.ref st), some (.int (1 + w1)), some (.int bg), some (.int way), some (.ref tb), some (.int (0 + (i : Nat))), some (.ref nn), o7, o8, o9] ∧
        But st H H3 ∧ StK H3 st ∧ Tab H3 tb prs ∧ Row H3 nn cur ∧ cur.length = j ∧ nfP cur ∧ (i = 0 ∨ ∀ k, k < j → (rowAt prs (i - 1)).getD k 0 ≤ cur.getD k 0) ∧ ∀ n ∈ cur, Stp (6 * (i : Nat) + (j : Nat)) n)
        ⟨[], o7, o8, o9, rfl, B.trans (Same.but (Same.new hnn)), S.same (Same.new hnn), hT.same (Same.new hnn), Row.new, rfl, fun k hk => absurd hk (by simp), .inr fun k hk => absurd hk (by simp), fun n hn => nomatch hn⟩ ?_ ?_⟩
      · rintro j σ H3 hj ⟨cur, o7, o8, o9, rfl, B3, S3, hT3, hR3, hcl, hnf, hab, hcb⟩
        -- ahead
        refine ⟨_, rfl, _, rfl, _, rfl, nn, _, rfl, hR3.sq, fun p1 hp1 => ?_⟩
        rw [cut_last]
        have e1 : (upd H3 p1 (.lst ((cur.map V.int).drop ((cur.map V.int).length - 1)))) p1 = some (.lst ((lastL cur).map V.int)) := by
          rw [upd_same]
          unfold lastL
          rw [List.map_drop, List.length_map]
        have s1 : Same H3 (upd H3 p1 (.lst ((cur.map V.int).drop ((cur.map V.int).length - 1)))) := Same.new hp1
        generalize upd H3 p1 (.lst ((cur.map V.int).drop ((cur.map V.int).length - 1))) = H4 at e1 s1 ⊢
        have hT4 := hT3.same s1
        refine ⟨_, rfl, _, rfl, _, rfl, tb, _, rfl, hT4.sq, fun p2 hp2 => ?_⟩
        rw [cut_last]
        have e2 : (upd H4 p2 (.lst ((prs.map fun p => V.ref p.1).drop ((prs.map fun p => V.ref p.1).length - 1)))) p2 = some (.lst ((prs.drop (prs.length - 1)).map fun p => V.ref p.1)) := by
          rw [upd_same, List.map_drop, List.length_map]
        have s2 : Same H4 (upd H4 p2 (.lst ((prs.map fun p => V.ref p.1).drop ((prs.map fun p => V.ref p.1).length - 1)))) := Same.new hp2
        generalize upd H4 p2 (.lst ((prs.map fun p => V.ref p.1).drop ((prs.map fun p => V.ref p.1).length - 1))) = H5 at e2 s2 ⊢
        have hT5 := hT4.same s2
        refine ⟨p2, rfl, ⟨_, SqL.of e2⟩, comp_map (ms := prs.drop (prs.length - 1)) (fun p : Addr × List Int => V.ref p.1) (fun p => .int (p.2.getD j 0)) (SqL.of e2) (sl6 (by rw [List.length_drop]; omega)) (fun p hp H' Q' sm q' => ?_) fun D1 H6 hD1 s6 hDl => ?_⟩
        · have hpm := List.mem_of_mem_drop hp
          have hpl := hg.len p hpm
          exact ⟨_, rfl, _, rfl, p.1, _, _, _, rfl, rfl, ((hT5.r p hpm).same sm).sq, by rw [Int.zero_add]; exact at_row (by omega), q' _ (Same.refl _)⟩
        have e6 := s6 _ _ (s2 _ _ e1)
        have hDl2 : H6 D1 = some (.lst (((prs.drop (prs.length - 1)).map fun p => p.2.getD j 0).map V.int)) := by
          rw [hDl, List.map_map]
          rfl
        refine ⟨p1, D1, _, _, rfl, rfl, e6, hDl2, ?_, fun ah hah => ?_⟩
        · rw [List.length_map, List.length_map, List.length_map, List.length_drop]
          have := lastL_len cur
          exact sl6 (by omega)
        have eah : Row (upd H6 ah (.lst ((lastL cur).map V.int ++ ((prs.drop (prs.length - 1)).map fun p => p.2.getD j 0).map V.int))) ah (lastL cur ++ (prs.drop (prs.length - 1)).map fun p => p.2.getD j 0) := by
          unfold Row
          rw [upd_same, List.map_append]
        have s7 : Same H6 (upd H6 ah (.lst ((lastL cur).map V.int ++ ((prs.drop (prs.length - 1)).map fun p => p.2.getD j 0).map V.int))) := Same.new hah
        generalize upd H6 ah (.lst ((lastL cur).map V.int ++ ((prs.drop (prs.length - 1)).map fun p => p.2.getD j 0).map V.int)) = H7 at eah s7 ⊢
        have ha0 : ∀ k, k + 1 = cur.length → cur.getD k 0 ∈ lastL cur ++ (prs.drop (prs.length - 1)).map fun p => p.2.getD j 0 := fun k hk => List.mem_append_left _ (lastL_mem hk)
        have ha1 : i = 0 ∨ (rowAt prs (i - 1)).getD j 0 ∈ lastL cur ++ (prs.drop (prs.length - 1)).map fun p => p.2.getD j 0 := by
          by_cases z : i = 0
          · exact .inl z
          · obtain ⟨p, hp1, hp2, hp3⟩ := rowAt_mem (prs := prs) (i := i - 1) (by omega)
            refine .inr (List.mem_append_right _ (List.mem_map.mpr ⟨p, ?_, by rw [hp3]⟩))
            exact List.mem_iff_getElem?.mpr ⟨0, by rw [List.getElem?_drop, Nat.add_zero, hlen]; exact hp2⟩
        have hal : (lastL cur ++ (prs.drop (prs.length - 1)).map fun p => p.2.getD j 0).length ≤ 2 := by
          rw [List.length_append, List.length_map, List.length_drop]
          have := lastL_len cur
          omega
        have haB : ∀ a ∈ lastL cur ++ (prs.drop (prs.length - 1)).map fun p => p.2.getD j 0, Stp (6 * (i : Nat) + (j : Nat)) a := fun a ha => by
          rcases List.mem_append.mp ha with z | z
          · exact hcb a (List.mem_of_mem_drop z)
          · obtain ⟨p, hp, rfl⟩ := List.mem_map.mp z
            have hpm := List.mem_of_mem_drop hp
            have hpl := hg.len p hpm
            have := hbd p hpm (p.2.getD j 0) (by rw [List.getD_eq_getElem?_getD, List.getElem?_eq_getElem (by omega)]; exact List.getElem_mem _)
            unfold Stp at this ⊢
            omega
        generalize (lastL cur ++ (prs.drop (prs.length - 1)).map fun p => p.2.getD j 0) = aa at eah ha0 ha1 hal haB
        have s37 : Same H3 H7 := s1.trans (s2.trans (s6.trans s7))
        have nah : ah ≠ st := fun z => (S3.same (s1.trans (s2.trans s6))).ne hah z.symm
        have nan : ah ≠ nn := fun z => by
          have := (s1.trans (s2.trans s6)) _ _ hR3
          rw [z, this] at hah
          cases hah
        have S4 := S3.same s37
        have hT8 := hT3.same s37
        have hR8 := hR3.same s37
        have B7 := B3.trans (Same.but s37)
        clear S3 hT3 hR3 B3 s37 s7 s6 s2 s1 e6 hDl hDl2 e1 e2 hT4 hT5 hah hD1 hp1 hp2
        -- more
        refine ⟨_, rfl, len5, fun lm hlm => ?_⟩
        have slm : Same H7 (upd H7 lm (.lst [.int 1, .int 2, .int 3, .int 9, .int 3])) := Same.new hlm
        have elm : (upd H7 lm (.lst [.int 1, .int 2, .int 3, .int 9, .int 3])) lm = some (.lst ([1, 2, 3, 9, 3].map V.int)) := upd_same
        generalize upd H7 lm (.lst [.int 1, .int 2, .int 3, .int 9, .int 3]) = H8' at slm elm ⊢
        obtain ⟨r, hr1', hr2'⟩ := at_mem (ns := [1, 2, 3, 9, 3]) way0 way1
        have hrb : 0 < r ∧ r < 100 := by
          simp only [List.mem_cons, List.not_mem_nil, or_false] at hr1'
          omega
        refine ⟨_, rfl, lm, _, _, .int r, rfl, rfl, SqL.of elm, hr2', st, r, rfl, hrb.1, by omega, S4.same slm, fun mo H9 mo0 mo1 B9 S9 => ?_⟩
        have moC : mo ≤ 1000000000000000000000000 := by omega
        have hT9 := (hT8.same slm).but hbt hps B9
        have hR9 := (hR8.same slm).but nns B9
        have ea9 := (eah.same slm).but nah B9
        have C9 := B7.trans ((Same.but slm).trans B9)
        clear S4 hT8 hR8 eah B7 B9 slm elm hlm hr1' hr2' hrb mo1
        -- what follows the if, once
        dsimp only [gName]
        refine if_tail (fun N => ∀ (more : Int) (H10 : Hp), 0 ≤ more → more ≤ 1000000000000000000000000 → But st H9 H10 → StK H10 st → N [some (.ref st), some (.int (1 + w1)), some (.int bg), some (.int way), some (.ref tb), some (.int (0 + (i : Nat))), some (.ref nn), some (.int (0 + (j : Nat))), some (.ref ah), some (.int more)] H10) (fun mo1 H10 mo0' moB B10 S10 => ?_) (fun tail => ?_)
        · have hT10 := hT9.but hbt hps B10
          have hR10 := hR9.but nns B10
          have ea10 := ea9.but nah B10
          have C10 := C9.trans B10
          refine ⟨_, rfl, .inl ⟨rfl, _, hR10.sq⟩, _, rfl, _, rfl, len1, fun l1 hl1 => ?_⟩
          have s1 : Same H10 (upd H10 l1 (.lst [.int bg])) := Same.new hl1
          have e1 : (upd H10 l1 (.lst [.int bg])) l1 = some (.lst [.int bg]) := upd_same
          generalize upd H10 l1 (.lst [.int bg]) = H11 at s1 e1 ⊢
          refine ⟨_, rfl, len0, fun l2 hl2 => ?_⟩
          have s2 : Same H11 (upd H11 l2 (.lst [])) := Same.new hl2
          have e2 : Row (upd H11 l2 (.lst [])) l2 [] := Row.new
          generalize upd H11 l2 (.lst []) = H12 at s2 e2 ⊢
          have s12 := s1.trans s2
          refine ⟨_, _, (ea10.same s12).rd, e2.rd, shaped_row _, shaped_row _, ?_⟩
          rw [show (if false = true then !PyData.eqv (dRow aa) (dRow []) else PyData.eqv (dRow aa) (dRow [])) = aa.isEmpty from eqv_nil aa]
          refine .inr ⟨_, rfl, l1, _, _, rfl, rfl, s2 _ _ e1, ?_, ?_, ?_, fun l3 hl3 => ?_⟩
          · split <;> omega
          · split <;> omega
          · cases aa.isEmpty with
            | true => exact (show 1 * 1 ≤ sizeLine by decide)
            | false => exact (show 1 * 0 ≤ sizeLine by decide)
          have e3 : (upd H12 l3 (.lst (List.replicate (if aa.isEmpty = true then (1 : Int) else 0).toNat [V.int bg]).flatten)) l3 = some (.lst ((if aa.isEmpty = true then [bg] else []).map V.int)) := by
            rw [upd_same]
            cases aa.isEmpty <;> rfl
          have s3 : Same H12 (upd H12 l3 (.lst (List.replicate (if aa.isEmpty = true then (1 : Int) else 0).toNat [V.int bg]).flatten)) := Same.new hl3
          generalize upd H12 l3 (.lst (List.replicate (if aa.isEmpty = true then (1 : Int) else 0).toNat [V.int bg]).flatten) = H13 at e3 s3 ⊢
          have s13 := s12.trans s3
          refine ⟨ah, l3, _, _, rfl, rfl, ea10.same s13, e3, ?_, fun l4 hl4 => ?_⟩
          · rw [List.length_map, List.length_map]
            refine sl6 ?_
            split
            · rw [List.length_singleton]
              omega
            · rw [List.length_nil]
              omega
          have e4 : Row (upd H13 l4 (.lst (aa.map V.int ++ (if aa.isEmpty = true then [bg] else []).map V.int))) l4 (aa ++ (if aa.isEmpty = true then [bg] else [])) := by
            unfold Row
            rw [upd_same, List.map_append]
          have s4 : Same H13 (upd H13 l4 (.lst (aa.map V.int ++ (if aa.isEmpty = true then [bg] else []).map V.int))) := Same.new hl4
          generalize upd H13 l4 (.lst (aa.map V.int ++ (if aa.isEmpty = true then [bg] else []).map V.int)) = H14 at e4 s4 ⊢
          have s14 := s13.trans s4
          refine ⟨l4, _, rfl, e4.sq, ?_, fun M hMm hM => ⟨_, rfl, _, _, rfl, rfl, nn, _, _, rfl, rfl, hR10.same s14, ?_, ?_⟩⟩
          · rw [List.length_append]
            cases aa with
            | nil => exact Nat.succ_pos _
            | cons a r => exact Nat.lt_of_lt_of_le (Nat.succ_pos _) (Nat.le_add_right _ _)
          · rw [List.length_map]
            exact small1000 (by omega)
          · have hM2 : ∀ a ∈ aa, a ≤ M := fun a ha => hM a (List.mem_append_left _ ha)
            have hT14 := hT10.same s14
            have S14 := S10.same s14
            have C14 := C10.trans (Same.but s14)
            refine ⟨cur ++ [M + mo1], _, _, _, rfl, ?_, ?_, ?_, Row.push, ?_, ?_, ?_, ?_⟩
            · intro b o hb e
              rw [upd_ne (ne_of_none e nn0)]
              exact C14 b o hb e
            · obtain ⟨g', b', c', z⟩ := S14
              exact ⟨g', b', c', by rw [upd_ne (Ne.symm nns)]; exact z⟩
            · refine ⟨by rw [upd_ne nnt]; exact hT14.l, fun p hp => ?_⟩
              unfold Row
              rw [upd_ne (nnp p hp)]
              exact hT14.r p hp
            · rw [List.length_append, List.length_singleton, hcl]
            · refine nfP_push hnf fun k hk => ?_
              have := hM2 _ (ha0 k hk)
              omega
            · rcases hab with z | z
              · exact .inl z
              · rcases ha1 with z2 | z2
                · exact .inl z2
                · have z2 := hM2 _ z2
                  refine .inr fun k hk => ?_
                  rw [getD_push]
                  by_cases hkj : k < cur.length
                  · rw [if_pos hkj]
                    exact z k (by omega)
                  · rw [if_neg hkj, if_pos (by omega), show k = j by omega]
                    omega
            · have hMb : Stp (6 * (i : Nat) + (j : Nat)) M := by
                rcases List.mem_append.mp hMm with z | z
                · exact haB M z
                · split at z
                  · rw [List.mem_singleton.mp z]
                    unfold Stp at hbg ⊢
                    omega
                  · nomatch z
              intro n hn
              rcases List.mem_append.mp hn with z | z
              · have := hcb n z
                unfold Stp at this ⊢
                omega
              · rw [List.mem_singleton.mp z]
                unfold Stp at hMb ⊢
                omega
        · exact ⟨_, rfl, rfl, _, rfl, ite2 (fun _ => ⟨_, rfl, rfl, _, rfl, ite2 (fun _ => ⟨_, rfl, st, _, rfl, by decide, by decide, S9, fun mo' H10 mo0' mob B10 S10 => tail mo' H10 mo0' (by rw [e24] at mob; omega) B10 S10⟩) (fun _ => tail mo H9 mo0 moC (But.refl _ _) S9)⟩) (fun _ => iteF (tail mo H9 mo0 moC (But.refl _ _) S9))⟩
      · -- found.append(line)
        rintro σ H3 ⟨cur, o7, o8, o9, rfl, B3, S3, hT3, hR3, hcl, hnf, hab, hcb⟩
        refine ⟨_, rfl, .inl ⟨rfl, _, hT3.sq⟩, _, rfl, tb, _, _, rfl, rfl, hT3.l, ?_, ?_⟩
        · rw [List.length_map]
          exact small1000 (by omega)
        · have key : ∀ b o, b ≠ tb → H3 b = some o → (upd H3 tb (.lst ((prs.map fun p => V.ref p.1) ++ [.ref nn]))) b = some o := fun b o hb e => by
            rw [upd_ne hb]
            exact e
          have ntb : ∀ p ∈ prs, p.1 ≠ tb := fun p hp z => by
            have h1 := hT3.r p hp
            rw [z] at h1
            have h2 := hT3.l
            unfold Row at h1
            rw [h1] at h2
            have h3 := hg.len p hp
            cases hq : p.2 with
            | nil => rw [hq] at h3; simp at h3; omega
            | cons n ns =>
              rw [hq] at h2
              cases prs with
              | nil => simp at h2
              | cons p' r' => simp at h2
          have ntn : nn ≠ tb := Ne.symm nnt
          have etb : (upd H3 tb (.lst ((prs.map fun p => V.ref p.1) ++ [.ref nn]))) tb = some (.lst ((prs ++ [(nn, cur)]).map fun p => V.ref p.1)) := by
            rw [upd_same, List.map_append]
            rfl
          refine ⟨prs ++ [(nn, cur)], _, _, _, _, _, rfl, ?_, ?_, ⟨etb, fun p hp => ?_⟩, ?_, ?_, ?_, fun p hp => ?_, fun p hp => ?_⟩
          · intro b o hb e
            rw [upd_ne (ne_of_none e tb0)]
            exact B3 b o hb e
          · obtain ⟨g', b', c', z⟩ := S3
            exact ⟨g', b', c', key _ _ (Ne.symm hbt) z⟩
          · rcases List.mem_append.mp hp with z | z
            · exact key _ _ (ntb p z) (hT3.r p z)
            · have : p = (nn, cur) := by simpa using z
              subst this
              exact key _ _ ntn hR3
          · rw [List.length_append, List.length_singleton, hlen]
          · refine good_push hg hcl hnf ?_
            rcases hab with z | z
            · exact .inl (by omega)
            · rw [hlen]
              exact .inr z
          · rw [List.map_append, List.nodup_append]
            refine ⟨hnd, by simp, fun a ha b hb z => ?_⟩
            obtain ⟨p, hp, rfl⟩ := List.mem_map.mp ha
            have hb : b = nn := by simpa using hb
            exact nnp p hp (z.trans hb)
          · rcases List.mem_append.mp hp with z | z
            · exact hfr p z
            · have : p = (nn, cur) := by simpa using z
              subst this
              exact ⟨nn0, nns⟩
          · rcases List.mem_append.mp hp with z | z
            · intro n hn
              have := hbd p z n hn
              unfold Stp at this ⊢
              omega
            · have : p = (nn, cur) := by simpa using z
              subst this
              intro n hn
              have := hcb n hn
              unfold Stp at this ⊢
              omega
    · rintro σ H2 ⟨prs, o5, o6, o7, o8, o9, rfl, B, S, hT, hlen, hg, hnd, hfr, hbd⟩
      refine ⟨_, rfl, q tb prs H2 tb0 (fun p hp => (hfr p hp).1) hnd B S hT (tabB_of hg (by omega) (by omega) (by omega) (by omega)) fun p hp n hn => ?_⟩
      have := hbd p hp n hn
      unfold Stp at this
      omega
end
end Seek
namespace Seek
open PySem L2 PyProof.Rows
/-! any thing -/
def rowD : PyData → Bool
  | .list ds => (decide (1 ≤ ds.length) && decide (ds.length ≤ 6)) && ds.all isIntD
  | _ => false
theorem rowD_list (ds : List PyData) : rowD (.list ds) = ((decide (1 ≤ ds.length) && decide (ds.length ≤ 6)) && ds.all isIntD) := rfl
def GoodD (d : PyData) : Prop := ∃ rows : List (List Int), d = dTab rows ∧ tabB (rows.map fun r => ((0 : Addr), r)) = true
theorem ints_of {H : Hp} {S : List Addr} : ∀ {xs : List V} {ds : List PyData}, RdSs S H xs ds → ds.all isIntD = true → ∃ ns : List Int, xs = ns.map V.int ∧ ds = ns.map PyData.int
  | _, _, .nil, _ => ⟨[], rfl, rfl⟩
  | _, _, .cons (x := x) (d := d) h t, ha => by
    simp only [List.all_cons, Bool.and_eq_true] at ha
    obtain ⟨ns, e1, e2⟩ := ints_of t ha.2
    cases h with
    | int i => exact ⟨i :: ns, by rw [e1]; rfl, by rw [e2]; rfl⟩
    | _ => exact absurd ha.1 (by simp [isIntD])
theorem row_of {H : Hp} {S : List Addr} {x : V} {d : PyData} (r : RdS S H x d) (h : rowD d = true) : ∃ (a : Addr) (ns : List Int), x = .ref a ∧ d = dRow ns ∧ Row H a ns ∧ rowB ns = true ∧ a ∉ S := by
  cases r with
  | @lst a xs ds e n ra =>
    unfold rowD at h
    rw [Bool.and_eq_true] at h
    obtain ⟨ns, e1, e2⟩ := ints_of ra h.2
    refine ⟨a, ns, rfl, by rw [e2]; rfl, by rw [e1] at e; exact e, ?_, n⟩
    have hl : ds.length = ns.length := by rw [e2, List.length_map]
    unfold rowB
    rw [← hl]
    exact h.1
  | _ => exact absurd h (by simp [rowD])
theorem rows_of {H : Hp} {S : List Addr} : ∀ {ms : List (V × PyData)}, (∀ m ∈ ms, RdS S H m.1 m.2) → (∀ m ∈ ms, rowD m.2 = true) → ∃ prs : Prs, ms.map (·.1) = (prs.map fun p => V.ref p.1) ∧ ms.map (·.2) = (prs.map (·.2)).map dRow ∧ ∀ p ∈ prs, Row H p.1 p.2 ∧ rowB p.2 = true ∧ p.1 ∉ S
  | [], _, _ => ⟨[], rfl, rfl, fun p h => nomatch h⟩
  | m :: ms, h1, h2 => by
    obtain ⟨prs, e1, e2, hp⟩ := rows_of (fun x hx => h1 x (List.mem_cons_of_mem _ hx)) (fun x hx => h2 x (List.mem_cons_of_mem _ hx))
    obtain ⟨a, ns, ea, ed, hr, hb, hn⟩ := row_of (h1 m (by simp)) (h2 m (by simp))
    refine ⟨(a, ns) :: prs, by rw [List.map_cons, ea, e1]; rfl, by rw [List.map_cons, ed, e2]; rfl, fun p hpp => ?_⟩
    rcases List.mem_cons.mp hpp with rfl | z
    · exact ⟨hr, hb, hn⟩
    · exact hp p z
theorem dRow_inj {a b : List Int} (h : dRow a = dRow b) : a = b := by
  unfold dRow at h
  injection h with h
  exact List.map_inj_right (fun x y e => by injection e) |>.mp h
theorem dTab_inj {a b : List (List Int)} (h : dTab a = dTab b) : a = b := by
  unfold dTab at h
  injection h with h
  exact List.map_inj_right (fun x y e => dRow_inj e) |>.mp h
theorem rowD_row (ns : List Int) : rowD (dRow ns) = rowB ns := by
  unfold dRow rowB
  rw [rowD_list, List.length_map, List.all_map]
  have : (ns.all (isIntD ∘ PyData.int)) = true := by simp [isIntD]
  rw [this, Bool.and_true]
theorem goodD_tab {prs : Prs} : GoodD (dTab (prs.map (·.2))) ↔ tabB prs = true := by
  have e : ∀ p : Prs, tabB ((p.map (·.2)).map fun r => ((0 : Addr), r)) = tabB p := fun p => tabB_rows (by rw [List.map_map, List.map_map]; exact List.map_congr_left fun _ _ => rfl)
  constructor
  · rintro ⟨rows, h1, h2⟩
    rw [← dTab_inj h1, e] at h2
    exact h2
  · intro h
    exact ⟨_, rfl, by rw [e]; exact h⟩
/-- what is a table has good rows, as many as may be, all of one length -/
theorem GoodD.rows {ds : List PyData} (h : GoodD (.list ds)) : (1 ≤ ds.length ∧ ds.length ≤ 6) ∧ ∀ d ∈ ds, rowD d = true := by
  obtain ⟨rows, h1, h2⟩ := h
  obtain ⟨g, g1, g2, g3, g4⟩ := good_of h2
  unfold dTab at h1
  injection h1 with h1
  rw [List.length_map] at g1 g2
  refine ⟨by rw [h1, List.length_map]; exact ⟨g1, g2⟩, fun d hd => ?_⟩
  rw [h1] at hd
  obtain ⟨r, hr, rfl⟩ := List.mem_map.mp hd
  have hl := g.len (0, r) (List.mem_map.mpr ⟨r, hr, rfl⟩)
  rw [rowD_row]
  unfold rowB
  have hl : r.length = _ := hl
  rw [decide_eq_true (by omega), decide_eq_true (by omega)]
  rfl
theorem GoodD.list {d : PyData} (h : GoodD d) : ∃ ds, d = .list ds := let ⟨_, h1, _⟩ := h; ⟨_, h1⟩
section
variable {P : Program} {w : World} {K : PySem.W.Frag} {mg : Str → Option Value} {base : Heap}
def spIsWholeA : Sp := fun vs H Q _ => ∃ (x : V) (d : PyData), vs = [x] ∧ RdS [] H x d ∧ Q (.bl (isIntD d)) H
theorem ok_isWholeA (T : Blt mg) (D : DefAt K mg "is_whole" dIsWhole ["thing"]) : FnAt P w K mg base 1 "is_whole" ["thing"] spIsWholeA := by
  refine FnAt.of D sc_isWhole (fun vs H Q E h => ?_) (fun f cdv A outer s H vs Q E hr h => ?_)
  · obtain ⟨x, d, rfl, _⟩ := h
    rfl
  · obtain ⟨x, d, rfl, rd, q⟩ := h
    refine ⟨_, pss_one (ps_ret (pe_and (pe_b call_isinst T.isinst boot_isinstance (pa_cons (pv 0) (pa_cons (pe_ty T.int boot_int) pa_nil)))
      (pe_one (pe_not (pe_b call_isinst T.isinst boot_isinstance (pa_cons (pv 0) (pa_cons (pe_ty T.bool boot_bool) pa_nil))))))), ?_⟩
    refine ⟨_, rfl, _, _, _, _, rfl, rd.ty, kit_int _ d, _, rfl, ?_⟩
    cases d with
    | int i => exact iteT ⟨_, rfl, _, _, _, _, rfl, rd.ty, kit_bool _ _, _, rfl, q⟩
    | bool b => exact iteT ⟨_, rfl, _, _, _, _, rfl, rd.ty, kit_bool _ _, _, rfl, q⟩
    | _ => exact iteF q
def spAllWholeA : Sp := fun vs H Q _ => ∃ (a : Addr) (xs : List V) (ds : List PyData), vs = [.ref a] ∧ H a = some (.lst xs) ∧ RdSs [] H xs ds ∧ ds.length ≤ 1000 ∧ ∀ H', Same H H' → Q (.bl (ds.all isIntD)) H'
theorem ok_allWholeA (T : Blt mg) (D : DefAt K mg "all_whole" dAllWhole ["things"]) (G1 : FnAt P w K mg base 1 "is_whole" ["thing"] spIsWholeA) : FnAt P w K mg base 2 "all_whole" ["things"] spAllWholeA := by
  refine FnAt.of D sc_allWhole (fun vs H Q E h => ?_) (fun f cdv A outer s H vs Q E hr h => ?_)
  · obtain ⟨a, xs, ds, rfl, _⟩ := h
    rfl
  · obtain ⟨a, xs, ds, rfl, hl, rs, hn, q⟩ := h
    obtain ⟨ms, e1, e2, hm⟩ := rs.pairs
    subst e1 e2
    rw [List.length_map] at hn
    have nd1 : (["thing"] : List Str).Nodup := by decide +kernel
    refine ⟨_, pss_one (ps_ret (pe_b (call_all rfl) T.all boot_all (pa_cons (pe_comp ["thing"] [none] (defScope dAllWhole) ["things"] rfl (pi_list (pv 0)) (by decide +kernel)
      (fun cl C s2 H2 ex => pg_c 0 nd1) (fun cl C s2 H2 ex => pifs_nil) (fun cl C s2 H2 ex => pe_f G1 hr (pa_cons (pv 0) pa_nil))) pa_nil))), ?_⟩
    refine ⟨_, rfl, a, rfl, ⟨_, SqL.of hl⟩, comp_map (fun m : V × PyData => m.1) (fun m => .bl (isIntD m.2)) (SqL.of hl) (sl6 hn) (fun m hx H' Q' sm q' => ?_) fun D H' hD sm hDl => ?_⟩
    · exact ⟨_, rfl, m.1, m.2, rfl, (hm m hx).same sm, q' _ (Same.refl _)⟩
    · refine ⟨D, ms.map fun m => isIntD m.2, rfl, SqL.of (by rw [hDl, map_bl]), ?_⟩
      have q1 := q H' sm
      rw [List.all_map] at q1 ⊢
      exact q1
def spIsRowA : Sp := fun vs H Q _ => ∃ (x : V) (d : PyData), vs = [x] ∧ RdS [] H x d ∧ ∀ H', Same H H' → Q (.bl (rowD d)) H'
theorem ok_isRowA (T : Blt mg) (D : DefAt K mg "is_row" dIsRow ["thing"]) (G : FnAt P w K mg base 2 "all_whole" ["things"] spAllWholeA) : FnAt P w K mg base 3 "is_row" ["thing"] spIsRowA := by
  refine FnAt.of D sc_isRow (fun vs H Q E h => ?_) (fun f cdv A outer s H vs Q E hr h => ?_)
  · obtain ⟨x, d, rfl, _⟩ := h
    rfl
  · obtain ⟨x, d, rfl, rd, q⟩ := h
    obtain ⟨tk, mp⟩ := T.mp
    refine ⟨_, pss_one (ps_ret (pe_and (pe_b call_isinst T.isinst boot_isinstance (pa_cons (pv 0) (pa_cons (pe_ty T.list boot_list) pa_nil)))
      (pe_and (pe_chain op_le op_le pe_int (pe_b call_len_seq T.len boot_len (pa_cons (pv 0) pa_nil)) (pe_glob (v := .int 6) rfl mp ⟨_, rfl⟩))
      (pe_one (pe_f G hr (pa_cons (pv 0) pa_nil)))))), ?_⟩
    refine ⟨_, rfl, _, _, _, _, rfl, rd.ty, kit_list _ d, _, rfl, ?_⟩
    cases rd with
    | @lst a xs ds e n ra =>
      have hlen := ra.length
      refine iteT ⟨_, rfl, a, _, rfl, .inl (SqL.of e), 1, _, rfl, rfl, _, rfl, ?_⟩
      rw [hlen]
      refine ite2 (fun h1 => ?_) (fun h1 => ?_)
      · have h1 := of_decide_eq_true h1
        refine ⟨_, _, rfl, rfl, _, rfl, ite2 (fun h2 => ?_) (fun h2 => ?_)⟩
        · have h2 := of_decide_eq_true h2
          refine ⟨_, rfl, a, xs, ds, rfl, e, ra, by omega, fun H' sm => ?_⟩
          have q1 := q H' sm
          rw [rowD_list, decide_eq_true (by omega), decide_eq_true (by omega)] at q1
          exact q1
        · have e : rowD (.list ds) = false := by
            rw [rowD_list, decide_eq_false (p := ds.length ≤ 6) (by intro z; exact h2 (decide_eq_true (by omega)))]
            simp
          rw [← e]
          exact q H (Same.refl _)
      · refine ⟨_, rfl, iteF ?_⟩
        have e : rowD (.list ds) = false := by
          rw [rowD_list, decide_eq_false (p := 1 ≤ ds.length) (by intro z; exact h1 (decide_eq_true (by omega)))]
          simp
        rw [← e]
        exact q H (Same.refl _)
    | _ => exact iteF (q H (Same.refl _))
/-! has_table_shape, is_table -/
def spShapeA : Sp := fun vs H Q _ => ∃ (x : V) (d : PyData), vs = [x] ∧ RdS [] H x d ∧ ∀ b H', (b = true → ∃ (t : Addr) (prs : Prs), x = .ref t ∧ d = dTab (prs.map (·.2)) ∧ Tab H t prs ∧ 1 ≤ prs.length ∧ prs.length ≤ 6 ∧ (∀ p ∈ prs, p.2.length = w0 prs ∧ rowB p.2 = true)) → (b = false → ¬ GoodD d) → Same H H' → Q (.bl b) H'
theorem ok_shapeA (T : Blt mg) (D : DefAt K mg "has_table_shape" dShape ["thing"]) (G : FnAt P w K mg base 3 "is_row" ["thing"] spIsRowA) : FnAt P w K mg base 4 "has_table_shape" ["thing"] spShapeA := by
  refine FnAt.of D sc_shape (fun vs H Q E h => ?_) (fun f cdv A outer s H vs Q E hr h => ?_)
  · obtain ⟨x, d, rfl, _⟩ := h
    rfl
  · obtain ⟨x, d, rfl, rd, q⟩ := h
    obtain ⟨tk, mr⟩ := T.mr
    have nd1 : (["row"] : List Str).Nodup := by decide +kernel
    have nd2 : (["row", "thing"] : List Str).Nodup := by decide +kernel
    refine ⟨_, pss_cons (ps_if (PW.pt (pw_or (pt_not (pt_val (pe_b call_isinst T.isinst boot_isinstance (pa_cons (pv 0) (pa_cons (pe_ty T.list boot_list) pa_nil)))))
        (pw_or1 (pt_not (pt_chain op_le op_le pe_int (pe_b call_len_seq T.len boot_len (pa_cons (pv 0) pa_nil)) (pe_glob (v := .int 6) rfl mr ⟨_, rfl⟩)))))) (pss_one (ps_ret pe_bl)) pss_nil)
      (pss_cons (ps_if (pt_not (pt_val (pe_b (call_all rfl) T.all boot_all (pa_cons (pe_comp ["row"] [none] (defScope dShape) ["thing", "row"] rfl (pi_list (pv 0)) (by decide +kernel)
        (fun cl C s2 H2 ex => pg_c 0 nd1) (fun cl C s2 H2 ex => pifs_nil) (fun cl C s2 H2 ex => pe_f G hr (pa_cons (pv 0) pa_nil))) pa_nil)))) (pss_one (ps_ret pe_bl)) pss_nil)
      (pss_one (ps_ret (pe_b (call_all rfl) T.all boot_all (pa_cons (pe_comp ["row", "thing"] [none, some 0] (defScope dShape) ["thing", "row"] rfl (pi_list (pv 0)) (by decide +kernel)
        (fun cl C s2 H2 ex => pg_c 0 nd2) (fun cl C s2 H2 ex => pifs_nil)
        (fun cl C s2 H2 ex => pe_cmpR op_eq (pe_b (lenK K) T.len boot_len (pa_cons (pv 0) pa_nil)) (pe_b (lenK K) T.len boot_len (pa_cons (pe_ix (ixL K) (pv 1) pe_int (fun _ _ => rfl)) pa_nil)) (nomark _))) pa_nil))))), ?_⟩
    refine ⟨_, rfl, _, _, _, _, rfl, rd.ty, kit_list _ d, _, rfl, ?_⟩
    have notl : (∀ ds, d ≠ .list ds) → ¬ GoodD d := fun h g => by
      obtain ⟨ds, e⟩ := g.list
      exact h ds e
    cases rd with
    | @lst t xs ds e n ra =>
      obtain ⟨ms, e1, e2, hm⟩ := ra.pairs
      subst e1 e2
      refine iteF ⟨_, rfl, t, _, rfl, .inl (SqL.of e), 1, _, rfl, rfl, _, rfl, ?_⟩
      rw [List.length_map]
      have bad : ¬ (1 ≤ ms.length ∧ ms.length ≤ 6) → ¬ GoodD (.list (ms.map (·.2))) := fun z g => z (by
        have := g.rows.1
        rw [List.length_map] at this
        exact this)
      refine ite2 (fun h1 => ?_) (fun h1 => ?_)
      · have h1 := of_decide_eq_true h1
        refine ⟨_, _, rfl, rfl, _, rfl, ?_⟩
        by_cases h2 : ms.length ≤ 6
        · rw [decide_eq_true (show (ms.length : Int) ≤ 6 by omega)]
          refine iteF ?_
          refine ⟨_, rfl, t, rfl, ⟨_, SqL.of e⟩, comp_map (fun m : V × PyData => m.1) (fun m => .bl (rowD m.2)) (SqL.of e) (sl6 (by omega)) (fun m hx H' Q' sm q' => ?_) fun D H' hD sm hDl => ?_⟩
          · exact ⟨_, rfl, m.1, m.2, rfl, (hm m hx).same sm, q'⟩
          · refine ⟨D, ms.map fun m => rowD m.2, rfl, SqL.of (by rw [hDl, map_bl]), _, rfl, ?_⟩
            cases e1 : (ms.map fun m => rowD m.2).all id with
            | false =>
              refine iteT (q false H' (fun z => by cases z) (fun _ g => ?_) sm)
              have : (ms.map fun m => rowD m.2).all id = true := by
                rw [List.all_map, List.all_eq_true]
                exact fun m hmm => g.rows.2 m.2 (List.mem_map.mpr ⟨m, hmm, rfl⟩)
              rw [e1] at this
              cases this
            | true =>
              refine iteF ?_
              rw [List.all_map, List.all_eq_true] at e1
              obtain ⟨prs, p1, p2, hp⟩ := rows_of hm e1
              have hT : Tab H t prs := ⟨by rw [← p1]; exact e, fun p hpp => (hp p hpp).1⟩
              have hT1 := hT.same sm
              have hlp : ms.length = prs.length := by
                have := congrArg List.length p1
                rw [List.length_map, List.length_map] at this
                exact this
              have ed : PyData.list (ms.map (·.2)) = dTab (prs.map (·.2)) := by rw [p2]; rfl
              obtain ⟨p0, hp0, hm0, hx0⟩ := head_at (prs := prs) (by omega)
              have hw0 : w0 prs = p0.2.length := by
                unfold w0
                rw [hp0]
                rfl
              refine ⟨_, rfl, t, rfl, ⟨_, hT1.sq⟩, comp_map (fun p : Addr × List Int => V.ref p.1) (fun p => .bl (decide (p.2.length = w0 prs))) hT1.sq (sl6 (by omega)) (fun p hpp H2 Q' sm2 q' => ?_) fun D2 H2 hD2 sm2 hDl2 => ?_⟩
              · have hT2 := hT1.same sm2
                refine ⟨_, rfl, p.1, _, rfl, .inl (hT2.r p hpp).sq, _, rfl, t, _, 0, .ref p0.1, rfl, rfl, hT2.sq, atI_nat (j := 0) (by rw [List.getElem?_map, hx0]; rfl), p0.1, _, rfl, .inl (hT2.r p0 hm0).sq, rfl, ?_⟩
                rw [List.length_map, List.length_map, ← hw0]
                have e5 : decide (V.int (p.2.length : Nat) = V.int (w0 prs : Nat)) = decide (p.2.length = w0 prs) := decide_eq_decide.mpr ⟨fun h => by injection h with h; omega, fun h => by rw [h]⟩
                rw [e5]
                exact q' _ (Same.refl _)
              · refine ⟨D2, prs.map fun p => decide (p.2.length = w0 prs), rfl, SqL.of (by rw [hDl2, map_bl]), ?_⟩
                refine q _ H2 (fun hb => ⟨t, prs, rfl, ed, hT, by omega, by omega, fun p hpp => ⟨?_, (hp p hpp).2.1⟩⟩) (fun hb g => ?_) (sm.trans sm2)
                · rw [List.all_map, List.all_eq_true] at hb
                  exact of_decide_eq_true (hb p hpp)
                · rw [ed, goodD_tab] at g
                  have gl := (good_of g).1.len
                  have : ((prs.map fun p => decide (p.2.length = w0 prs)).all id) = true := by
                    rw [List.all_map, List.all_eq_true]
                    exact fun p hpp => decide_eq_true (gl p hpp)
                  rw [hb] at this
                  cases this
        · rw [decide_eq_false (show ¬ (ms.length : Int) ≤ 6 by omega)]
          exact iteT (q false H (fun z => by cases z) (fun _ => bad (fun z => h2 z.2)) (Same.refl _))
      · refine ⟨_, rfl, ?_⟩
        exact iteT (q false H (fun z => by cases z) (fun _ => bad (fun z => h1 (decide_eq_true (by omega)))) (Same.refl _))
    | _ => exact iteT (q false H (fun z => by cases z) (fun _ => notl (fun ds z => by cases z)) (Same.refl _))
def spIsTableA : Sp := fun vs H Q _ => ∃ (x : V) (d : PyData), vs = [x] ∧ RdS [] H x d ∧ ∀ b H', (b = true ↔ GoodD d) → Same H H' → Q (.bl b) H'
theorem ok_isTableA (D : DefAt K mg "is_table" dIsTable ["thing"]) (G : FnAt P w K mg base 4 "has_table_shape" ["thing"] spShapeA) (G2 : FnAt P w K mg base 2 "is_sorted_both_ways" ["table"] spSorted) : FnAt P w K mg base 5 "is_table" ["thing"] spIsTableA := by
  refine FnAt.of D sc_isTable (fun vs H Q E h => ?_) (fun f cdv A outer s H vs Q E hr h => ?_)
  · obtain ⟨x, d, rfl, _⟩ := h
    rfl
  · obtain ⟨x, d, rfl, rd, q⟩ := h
    refine ⟨_, pss_one (ps_ret (pe_and (pe_f G hr (pa_cons (pv 0) pa_nil)) (pe_one (pe_f G2 (hr.mono (by decide)) (pa_cons (pv 0) pa_nil))))), ?_⟩
    refine ⟨_, rfl, x, d, rfl, rd, fun b H1 ht hf s1 => ⟨_, rfl, ?_⟩⟩
    cases b with
    | false => exact iteF (q false H1 ⟨fun z => (by cases z), fun g => absurd g (hf rfl)⟩ s1)
    | true =>
      obtain ⟨t, prs, rfl, rfl, hT, h1, h6, hp⟩ := ht rfl
      refine iteT ⟨_, rfl, t, prs, rfl, hT.same s1, ⟨by omega, fun p hpp => ?_⟩, h1, fun p hpp => (hp p hpp).1, fun H2 s2 => q _ H2 ?_ (s1.trans s2)⟩
      · have := (hp p hpp).2
        unfold rowB at this
        rw [Bool.and_eq_true, decide_eq_true_eq, decide_eq_true_eq] at this
        omega
      · rw [goodD_tab]
        unfold tabB
        have : shB prs = true := by
          unfold shB
          rw [decide_eq_true h1, decide_eq_true h6, Bool.true_and, List.all_map, List.all_map, Bool.true_and, Bool.and_eq_true, List.all_eq_true, List.all_eq_true]
          exact ⟨fun p hpp => (hp p hpp).2, fun p hpp => decide_eq_true (hp p hpp).1⟩
        rw [this, Bool.true_and]
end
end Seek
namespace Seek
open PySem L2 PyProof.Rows
/-! what is no table -/
theorem nf_le {ns : List Int} (h : nfP ns) : ∀ (k i : Nat), i + k < ns.length → ns.getD i 0 ≤ ns.getD (i + k) 0
  | 0, i, _ => Int.le_refl _
  | k + 1, i, hk => Int.le_trans (nf_le h k i (by omega)) (h (i + k) (by omega))
structure GoodR (W : Nat) (rows : List (List Int)) : Prop where
  n : 1 ≤ rows.length ∧ rows.length ≤ 6
  w : 1 ≤ W ∧ W ≤ 6
  len : ∀ i, i < rows.length → (rows.getD i []).length = W
  row : ∀ i, i < rows.length → nfP (rows.getD i [])
  down : ∀ i, i + 1 < rows.length → ∀ j, j < W → (rows.getD i []).getD j 0 ≤ (rows.getD (i + 1) []).getD j 0
theorem goodR_of {prs : Prs} (h : tabB prs = true) : GoodR (w0 prs) (prs.map (·.2)) := by
  obtain ⟨g, g1, g2, g3, g4⟩ := good_of h
  have e : ∀ i, (prs.map (·.2)).getD i [] = rowAt prs i := fun i => by
    unfold rowAt
    rw [List.getD_eq_getElem?_getD, List.getElem?_map]
  refine ⟨by rw [List.length_map]; exact ⟨g1, g2⟩, ⟨g3, g4⟩, fun i hi => ?_, fun i hi => ?_, fun i hi j hj => ?_⟩
  · rw [List.length_map] at hi
    obtain ⟨p, hp, _, e2⟩ := rowAt_mem hi
    rw [e, e2]
    exact g.len p hp
  · rw [List.length_map] at hi
    obtain ⟨p, hp, _, e2⟩ := rowAt_mem hi
    rw [e, e2]
    exact g.row p hp
  · rw [List.length_map] at hi
    rw [e, e]
    exact g.down i hi j hj
theorem GoodD.goodR {rows : List (List Int)} (h : GoodD (dTab rows)) : ∃ W, GoodR W rows := by
  obtain ⟨rs, e, ht⟩ := h
  have e := dTab_inj e
  subst e
  have g := goodR_of ht
  rw [List.map_map] at g
  have : ((fun x : Addr × List Int => x.2) ∘ fun r => ((0 : Addr), r)) = id := rfl
  rw [this, List.map_id] at g
  exact ⟨_, g⟩
theorem GoodR.le {W : Nat} {rows : List (List Int)} (g : GoodR W rows) {j : Nat} (hj : j < W) : ∀ (k i : Nat), i + k < rows.length → (rows.getD i []).getD j 0 ≤ (rows.getD (i + k) []).getD j 0
  | 0, i, _ => Int.le_refl _
  | k + 1, i, hk => Int.le_trans (g.le hj k i (by omega)) (g.down (i + k) (by omega) j hj)
/-- the table with another thing for a row -/
def putD (rows : List (List Int)) (r : Nat) (d : PyData) : PyData := .list ((rows.take r).map dRow ++ [d] ++ (rows.drop (r + 1)).map dRow)
theorem putD_row {rows : List (List Int)} {r : Nat} {x : List Int} (hr : r < rows.length) : putD rows r (dRow x) = dTab (rows.set r x) := by
  unfold putD dTab
  rw [List.set_eq_take_append_cons_drop, if_pos hr]
  simp
theorem set_at {rows : List (List Int)} {r i : Nat} {x : List Int} (hr : r < rows.length) : (rows.set r x).getD i [] = if i = r then x else rows.getD i [] := by
  rw [List.getD_eq_getElem?_getD, List.getElem?_set]
  by_cases h : r = i
  · subst h
    rw [if_pos rfl, if_pos hr, if_pos rfl]
    rfl
  · rw [if_neg h, if_neg (Ne.symm h), List.getD_eq_getElem?_getD]
theorem bad_row {rows : List (List Int)} {r : Nat} {d : PyData} (h : rowD d = false) : ¬ GoodD (putD rows r d) := fun g => by
  have := g.rows.2 d (by simp)
  rw [h] at this
  cases this
/-- a row of ints that makes it no table -/
theorem bad_ints {W : Nat} {rows : List (List Int)} {r : Nat} {x : List Int} (g : GoodR W rows) (hr : r < rows.length)
    (h : (x.length ≠ W ∧ ∃ i, i < rows.length ∧ i ≠ r) ∨ (∃ i k, i < k ∧ k < x.length ∧ x.getD k 0 < x.getD i 0) ∨
      (∃ i j, j < W ∧ x.length = W ∧ ((i < r ∧ x.getD j 0 < (rows.getD i []).getD j 0) ∨ (r < i ∧ i < rows.length ∧ (rows.getD i []).getD j 0 < x.getD j 0)))) : ¬ GoodD (putD rows r (dRow x)) := fun gd => by
  rw [putD_row hr] at gd
  obtain ⟨V, q⟩ := gd.goodR
  have hlen : (rows.set r x).length = rows.length := List.length_set
  have lx := q.len r (by omega)
  rw [set_at hr, if_pos rfl] at lx
  rcases h with ⟨h1, i, hi, hir⟩ | ⟨i, k, hik, hk, hlt⟩ | ⟨i, j, hj, hxl, h⟩
  · have li := q.len i (by omega)
    rw [set_at hr, if_neg hir, g.len i hi] at li
    exact h1 (by omega)
  · have nx := q.row r (by omega)
    rw [set_at hr, if_pos rfl] at nx
    have := nf_le nx (k - i) i (by omega)
    rw [show i + (k - i) = k by omega] at this
    omega
  · have hV : V = W := by omega
    subst hV
    rcases h with ⟨hi, hlt⟩ | ⟨hi, hi2, hlt⟩
    · have := q.le hj (r - i) i (by omega)
      rw [show i + (r - i) = r by omega, set_at hr, set_at hr, if_pos rfl, if_neg (by omega)] at this
      omega
    · have := q.le hj (i - r) r (by omega)
      rw [show r + (i - r) = i by omega, set_at hr, set_at hr, if_pos rfl, if_neg (by omega)] at this
      omega
theorem set_get {h : List Int} {p k : Nat} {v : Int} (hp : p < h.length) : (h.set p v).getD k 0 = if k = p then v else h.getD k 0 := by
  rw [List.getD_eq_getElem?_getD, List.getElem?_set]
  by_cases e : p = k
  · subst e
    rw [if_pos rfl, if_pos hp, if_pos rfl]
    rfl
  · rw [if_neg e, if_neg (Ne.symm e), List.getD_eq_getElem?_getD]
section
variable {W : Nat} {rows : List (List Int)} {r p : Nat}
theorem bad_len {x : List Int} (g : GoodR W rows) (hr : r < rows.length) (h2 : 2 ≤ rows.length) (h : x.length ≠ W) : ¬ GoodD (putD rows r (dRow x)) :=
  bad_ints g hr (.inl ⟨h, if r = 0 then 1 else 0, by split <;> omega, by split <;> omega⟩)
theorem bad_set {v : Int} (g : GoodR W rows) (hr : r < rows.length) (hp : p < W)
    (h : (∃ i, i < p ∧ v < (rows.getD r []).getD i 0) ∨ (∃ i, p < i ∧ i < W ∧ (rows.getD r []).getD i 0 < v) ∨ (∃ i, i < r ∧ v < (rows.getD i []).getD p 0) ∨ (∃ i, r < i ∧ i < rows.length ∧ (rows.getD i []).getD p 0 < v)) : ¬ GoodD (putD rows r (dRow ((rows.getD r []).set p v))) := by
  have hl := g.len r hr
  have hp' : p < (rows.getD r []).length := by omega
  rcases h with ⟨i, hi, hv⟩ | ⟨i, hi, hi2, hv⟩ | ⟨i, hi, hv⟩ | ⟨i, hi, hi2, hv⟩
  · exact bad_ints g hr (.inr (.inl ⟨i, p, hi, by rw [List.length_set]; omega, by rw [set_get hp', set_get hp', if_pos rfl, if_neg (by omega)]; exact hv⟩))
  · exact bad_ints g hr (.inr (.inl ⟨p, i, hi, by rw [List.length_set]; omega, by rw [set_get hp', set_get hp', if_pos rfl, if_neg (by omega)]; exact hv⟩))
  · exact bad_ints g hr (.inr (.inr ⟨i, p, hp, by rw [List.length_set]; exact hl, .inl ⟨hi, by rw [set_get hp', if_pos rfl]; exact hv⟩⟩))
  · exact bad_ints g hr (.inr (.inr ⟨i, p, hp, by rw [List.length_set]; exact hl, .inr ⟨hi, hi2, by rw [set_get hp', if_pos rfl]; exact hv⟩⟩))
theorem bad_high (g : GoodR W rows) (hr : r < rows.length) (hp : p < W) (h : ¬ (r = rows.length - 1 ∧ p = W - 1)) : ¬ GoodD (putD rows r (dRow ((rows.getD r []).set p ((rows.getD (rows.length - 1) []).getD (W - 1) 0 + 1)))) := by
  have hl := g.len r hr
  refine bad_set g hr hp ?_
  by_cases e : p = W - 1
  · right; right; right
    refine ⟨rows.length - 1, by omega, by omega, ?_⟩
    rw [e]
    omega
  · right; left
    refine ⟨W - 1, by omega, by omega, ?_⟩
    have := g.le (j := W - 1) (by omega) (rows.length - 1 - r) r (by omega)
    rw [show r + (rows.length - 1 - r) = rows.length - 1 by omega] at this
    omega
theorem bad_low (g : GoodR W rows) (hr : r < rows.length) (hp : p < W) (h : ¬ (r = 0 ∧ p = 0)) : ¬ GoodD (putD rows r (dRow ((rows.getD r []).set p ((rows.getD 0 []).getD 0 0 - 1)))) := by
  refine bad_set g hr hp ?_
  by_cases e : p = 0
  · right; right; left
    refine ⟨0, by omega, ?_⟩
    rw [e]
    omega
  · left
    refine ⟨0, by omega, ?_⟩
    have := g.le (j := 0) (by omega) r 0 (by omega)
    rw [Nat.zero_add] at this
    omega
theorem bad_fall (g : GoodR W rows) (hr : rows.length = 1) : ¬ GoodD (putD rows 0 (dRow (rows.getD 0 [] ++ [(rows.getD 0 []).getD 0 0 - 1]))) := by
  have hl := g.len 0 (by omega)
  have hw := g.w
  refine bad_ints g (by omega) (.inr (.inl ⟨0, W, by omega, by rw [List.length_append, List.length_singleton, hl]; omega, ?_⟩))
  rw [getD_push, getD_push, if_neg (by omega), if_pos hl.symm, if_pos (by omega)]
  omega
end
/-- a list with a wrong count, or a thing among it that is no row -/
theorem bad_count {ds : List PyData} (h : ds.length = 0 ∨ 6 < ds.length) : ¬ GoodD (.list ds) := fun g => by
  have := g.rows.1
  omega
theorem bad_any {ds : List PyData} {d : PyData} (hd : d ∈ ds) (h : rowD d = false) : ¬ GoodD (.list ds) := fun g => by
  have := g.rows.2 d hd
  rw [h] at this
  cases this
theorem bad_kind {d : PyData} (h : ∀ ds, d ≠ .list ds) : ¬ GoodD d := fun g => by
  obtain ⟨ds, e⟩ := g.list
  exact h ds e
theorem bad_lens {rows : List (List Int)} {i k : Nat} (hi : i < rows.length) (hk : k < rows.length) (h : (rows.getD i []).length ≠ (rows.getD k []).length) : ¬ GoodD (dTab rows) := fun g => by
  obtain ⟨W, q⟩ := g.goodR
  exact h ((q.len i hi).trans (q.len k hk).symm)
end Seek
namespace Seek
open PySem L2 PyProof.Rows
def ButS (S : List Addr) (H H' : Hp) : Prop := ∀ b o, b ∉ S → H b = some o → H' b = some o
theorem ButS.refl (S : List Addr) (H : Hp) : ButS S H H := fun _ _ _ e => e
theorem ButS.trans {S : List Addr} {H H1 H2 : Hp} (a : ButS S H H1) (b : ButS S H1 H2) : ButS S H H2 := fun c o n e => b c o n (a c o n e)
theorem Same.butS {S : List Addr} {H H' : Hp} (a : Same H H') : ButS S H H' := fun c o _ e => a c o e
theorem But.butS {s : Addr} {H H' : Hp} (a : But s H H') : ButS [s] H H' := fun c o n e => a c o (fun z => n (by rw [z]; exact List.mem_cons_self)) e
theorem ButS.but {s : Addr} {H H' : Hp} (a : ButS [s] H H') : But s H H' := fun c o n e => a c o (fun z => n (by simpa using z)) e
theorem Row.butS {S : List Addr} {H H' : Hp} {a : Addr} {ns : List Int} (r : Row H a ns) (n : a ∉ S) (b : ButS S H H') : Row H' a ns := b _ _ n r
end Seek
namespace Seek
open PySem L2 PyProof.Rows
/-! ### expressions by what their values are, not which: B the things that others change, and what is held of them -/
structure Ab where
  S : List Addr
  J : Hp → Prop
  same : ∀ {H H' : Hp}, J H → Same H H' → J H'
  fresh : ∀ {H : Hp} {a : Addr}, J H → H a = none → a ∉ S
abbrev Ty := V → Hp → Prop
def Th (B : Ab) (c k : Nat) : Ty := fun x H => ∃ d, RdS B.S H x d ∧ Sz c k d
def Li (B : Ab) (lo hi c k : Nat) : Ty := fun v H => ∃ (a : Addr) (xs : List V), v = .ref a ∧ H a = some (.lst xs) ∧ a ∉ B.S ∧ lo ≤ xs.length ∧ xs.length ≤ hi ∧ ∀ y ∈ xs, Th B c k y H
def Iy : Ty := fun v _ => ∃ n : Int, v = .int n
def Ib : Ty := fun v _ => ∃ n : Int, v = .int n ∧ n.natAbs < 10 ^ 40
abbrev TyB := Ab → Ty
abbrev EnB := Ab → L2.St → Hp → Prop
def Stb (A : TyB) : Prop := ∀ B v H H', A B v H → ButS B.S H H' → A B v H'
def StbE (Γ : EnB) : Prop := ∀ B σ H H', Γ B σ H → ButS B.S H H' → Γ B σ H'
abbrev tTh (c k : Nat) : TyB := fun B => Th B c k
abbrev tLi (lo hi c k : Nat) : TyB := fun B => Li B lo hi c k
abbrev tIy : TyB := fun _ => Iy
theorem st_th {c k : Nat} : Stb (tTh c k) := fun B v H H' ⟨d, r, s⟩ b => ⟨d, r.move (fun c o n e => b c o n e) fun _ n => n, s⟩
theorem st_li {lo hi c k : Nat} : Stb (tLi lo hi c k) := fun B v H H' ⟨a, xs, e, h, n, l1, l2, f⟩ b => ⟨a, xs, e, b _ _ n h, n, l1, l2, fun y hy => st_th _ _ _ _ (f y hy) b⟩
theorem Th.mono {B : Ab} {c k c' k' : Nat} {x : V} {H : Hp} (h : Th B c k x H) (h1 : c ≤ c') (h2 : k ≤ k') : Th B c' k' x H := let ⟨d, r, s⟩ := h; ⟨d, r, s.mono h1 h2⟩
theorem Li.mono {B : Ab} {lo hi c k lo' hi' c' k' : Nat} {x : V} {H : Hp} (h : Li B lo hi c k x H) (h0 : lo' ≤ lo) (h1 : hi ≤ hi') (h2 : c ≤ c') (h3 : k ≤ k') : Li B lo' hi' c' k' x H :=
  let ⟨a, xs, e, q, n, l1, l2, f⟩ := h
  ⟨a, xs, e, q, n, Nat.le_trans h0 l1, Nat.le_trans l2 h1, fun y hy => (f y hy).mono h2 h3⟩
theorem th_all {B : Ab} {c k : Nat} {H : Hp} : ∀ {xs : List V}, (∀ y ∈ xs, Th B c k y H) → ∃ ds, RdSs B.S H xs ds ∧ ∀ d ∈ ds, Sz c k d
  | [], _ => ⟨[], .nil, fun d hd => nomatch hd⟩
  | x :: xs, h => by
    obtain ⟨d, r, s⟩ := h x (by simp)
    obtain ⟨ds, rs, ss⟩ := th_all (fun y hy => h y (List.mem_cons_of_mem _ hy))
    refine ⟨d :: ds, .cons r rs, fun e he => ?_⟩
    rcases List.mem_cons.mp he with rfl | z
    · exact s
    · exact ss e z
theorem Li.th {B : Ab} {lo hi c k : Nat} {x : V} {H : Hp} (h : Li B lo hi c k x H) : Th B (hi * c + 2 * hi + 3) (k + 1) x H := by
  obtain ⟨a, xs, rfl, q, n, l1, l2, f⟩ := h
  obtain ⟨ds, rs, ss⟩ := th_all f
  exact ⟨.list ds, .lst q n rs, sz_list ss (by rw [← rs.length]; exact l2)⟩
theorem th_tup {B : Ab} {c k n : Nat} {a : Addr} {xs : List V} {H : Hp} (q : H a = some (.tup xs)) (hn : a ∉ B.S) (l : xs.length ≤ n) (f : ∀ y ∈ xs, Th B c k y H) : Th B (n * c + 2 * n + 3) (k + 1) (.ref a) H := by
  obtain ⟨ds, rs, ss⟩ := th_all f
  exact ⟨.tuple ds, .tup q hn rs, sz_tuple ss (by rw [← rs.length]; exact l)⟩
theorem Ib.th {B : Ab} {x : V} {H : Hp} (h : Ib x H) : Th B 41 0 x H := by
  obtain ⟨n, rfl, hn⟩ := h
  exact ⟨.int n, .int n, sz_int hn⟩
theorem th_bl {B : Ab} (b : Bool) {H : Hp} : Th B 5 0 (.bl b) H := ⟨_, .bl b, sz_bool b⟩
theorem th_non {B : Ab} {H : Hp} : Th B 4 0 .non H := ⟨_, .non, sz_none⟩
theorem th_str {B : Ab} (s : String) (n : Nat) (h : s.length ≤ n) {H : Hp} : Th B (10 * n + 2) 0 (.str (Str.ofString s)) H := ⟨_, .str _, sz_strOf s n h⟩
def tA (Γ : EnB) (A : TyB) : TE := fun σ H Q => ∃ B : Ab, Γ B σ H ∧ B.J H ∧ ∀ v H', ButS B.S H H' → B.J H' → A B v H' → Q v H'
structure AE (X : Cx) (Γ : EnB) (e : Expr) (A : TyB) : Prop where
  pe : PE X e (tA Γ A)
def tAs (Γ : EnB) (n : Nat) (A : TyB) : TA := fun σ H Q => ∃ B : Ab, Γ B σ H ∧ B.J H ∧ ∀ vs H', ButS B.S H H' → B.J H' → vs.length = n → (∀ v ∈ vs, A B v H') → Q vs H'
structure AAs (X : Cx) (Γ : EnB) (es : List Expr) (n : Nat) (A : TyB) : Prop where
  pa : PA X es (tAs Γ n A)
section
variable {X : Cx} {Γ : EnB} {e e1 e2 : Expr} {es : List Expr} {A A' : TyB} {pos : Pos} {n : Nat}
theorem pe_imp {t t' : TE} (h : PE X e t) (i : ∀ σ H Q, t' σ H Q → t σ H Q) : PE X e t' := fun pins s σ H Q I q => h pins s σ H Q I (i σ H Q q)
theorem pa_imp {t t' : TA} (h : PA X es t) (i : ∀ σ H Q, t' σ H Q → t σ H Q) : PA X es t' := fun p pins s σ H Q I q => h p pins s σ H Q I (i σ H Q q)
theorem ae_sub (h : AE X Γ e A) (s : ∀ B v H, A B v H → A' B v H) : AE X Γ e A' := ⟨pe_imp h.pe fun _ _ _ ⟨B, g, j, q⟩ => ⟨B, g, j, fun v H' b j' a => q v H' b j' (s _ v H' a)⟩⟩
theorem ae_var {i : Nat} (h : PE X e (tVar i)) (g : ∀ B σ H, Γ B σ H → ∃ v, σ[i]? = some (some v) ∧ A B v H) : AE X Γ e A := ⟨pe_imp h fun σ H Q ⟨B, hg, j, q⟩ => by
  obtain ⟨v, ev, a⟩ := g _ σ H hg
  exact ⟨v, ev, q v H (ButS.refl _ _) j a⟩⟩
theorem ae_c {v : V} (h : PE X e (tC v)) (a : ∀ B H, A B v H) : AE X Γ e A := ⟨pe_imp h fun σ H Q ⟨B, hg, j, q⟩ => q v H (ButS.refl _ _) j (a _ H)⟩
theorem aa_nil : AAs X Γ [] 0 A := ⟨pa_imp pa_nil fun σ H Q ⟨B, hg, j, q⟩ => q [] H (ButS.refl _ _) j rfl fun v hv => nomatch hv⟩
theorem aa_cons (sg : StbE Γ) (sa : Stb A) (h : AE X Γ e A) (hr : AAs X Γ es n A) (hs : starEach (e :: es) X.env = (false, eval e X.env) :: starEach es X.env := by rfl) : AAs X Γ (e :: es) (n + 1) A :=
  ⟨pa_imp (pa_cons h.pe hr.pa hs) fun σ H Q ⟨B, hg, j, q⟩ => ⟨B, hg, j, fun v H1 b1 j1 a1 => ⟨B, sg _ _ _ _ hg b1, j1, fun vs H2 b2 j2 l2 a2 => q (v :: vs) H2 (b1.trans b2) j2 (by rw [List.length_cons, l2]) fun y hy => by
    rcases List.mem_cons.mp hy with rfl | z
    · exact sa _ _ _ _ a1 b2
    · exact a2 y z⟩⟩⟩
theorem ae_lst {c k : Nat} (h : AAs X Γ es n (tTh c k)) (hn : n ≤ 1000) : AE X Γ (.List es pos) (tLi n n c k) :=
  ⟨pe_imp (pe_lst h.pa) fun σ H Q ⟨B, hg, j, q⟩ => ⟨B, hg, j, fun vs H1 b1 j1 l1 a1 => ⟨by rw [l1]; exact sl6 hn, fun p hp =>
    q _ _ (b1.trans (Same.butS (Same.new hp))) (B.same j1 (Same.new hp)) ⟨p, vs, rfl, upd_same, B.fresh j1 hp, by omega, by omega, fun y hy => st_th _ _ _ _ (a1 y hy) (Same.butS (Same.new hp))⟩⟩⟩⟩
theorem ae_tup {c k : Nat} {x1} (h : AAs X Γ es n (tTh c k)) (hn : n ≤ 1000) : AE X Γ (.Tuple es x1 pos) (tTh (n * c + 2 * n + 3) (k + 1)) :=
  ⟨pe_imp (pe_tup h.pa) fun σ H Q ⟨B, hg, j, q⟩ => ⟨B, hg, j, fun vs H1 b1 j1 l1 a1 => ⟨by rw [l1]; exact sl6 hn, fun p hp =>
    q _ _ (b1.trans (Same.butS (Same.new hp))) (B.same j1 (Same.new hp)) (th_tup upd_same (B.fresh j1 hp) (by omega) fun y hy => st_th _ _ _ _ (a1 y hy) (Same.butS (Same.new hp)))⟩⟩⟩
theorem ae_cat {lo1 hi1 lo2 hi2 c k : Nat} (sg : StbE Γ) (h1 : AE X Γ e1 (tLi lo1 hi1 c k)) (h2 : AE X Γ e2 (tLi lo2 hi2 c k)) (hn : hi1 + hi2 ≤ 1000) : AE X Γ (.BinOp e1 .Add e2 pos) (tLi (lo1 + lo2) (hi1 + hi2) c k) :=
  ⟨pe_imp (pe_op op_cat h1.pe h2.pe) fun σ H Q ⟨B, hg, j, q⟩ => ⟨B, hg, j, fun v H1 b1 j1 a1 => ⟨B, sg _ _ _ _ hg b1, j1, fun u H2 b2 j2 a2 => by
    obtain ⟨a, xs, rfl, ea, na, la1, la2, fa⟩ := st_li _ _ _ _ a1 b2
    obtain ⟨b, ys, rfl, eb, nb, lb1, lb2, fb⟩ := a2
    refine ⟨a, b, xs, ys, rfl, rfl, ea, eb, sl6 (by omega), fun p hp => ?_⟩
    refine q _ _ ((b1.trans b2).trans (Same.butS (Same.new hp))) (B.same j2 (Same.new hp)) ⟨p, xs ++ ys, rfl, upd_same, B.fresh j2 hp, by rw [List.length_append]; omega, by rw [List.length_append]; omega, fun y hy => ?_⟩
    rcases List.mem_append.mp hy with z | z
    · exact st_th _ _ _ _ (fa y z) (Same.butS (Same.new hp))
    · exact st_th _ _ _ _ (fb y z) (Same.butS (Same.new hp))⟩⟩⟩
/-- a part of a slice -/
structure AO (X : Cx) (Γ : EnB) (o : Option Expr) : Prop where
  po : PO X o fun σ H Q => ∃ B : Ab, Γ B σ H ∧ B.J H ∧ ∀ i H', ButS B.S H H' → B.J H' → Q i H'
theorem po_imp {o : Option Expr} {t t' : TO} (h : PO X o t) (i : ∀ σ H Q, t' σ H Q → t σ H Q) : PO X o t' := fun pins s σ H Q I q => h pins s σ H Q I (i σ H Q q)
theorem ao_none : AO X Γ none := ⟨po_imp po_none fun σ H Q ⟨B, hg, j, q⟩ => q none H (ButS.refl _ _) j⟩
theorem ao_some (h : AE X Γ e tIy) : AO X Γ (some e) := ⟨po_imp (po_some h.pe) fun σ H Q ⟨B, hg, j, q⟩ => ⟨B, hg, j, fun v H1 b1 j1 a1 => by
  obtain ⟨i, rfl⟩ := a1
  exact ⟨i, rfl, q _ H1 b1 j1⟩⟩⟩
theorem mem_cut {xs : List V} {lo hi : Option Int} {y : V} (h : y ∈ cutV xs lo hi) : y ∈ xs := List.mem_of_mem_drop (List.mem_of_mem_take h)
theorem ae_slice {lo hi c k : Nat} {a b : Option Expr} {p2 : Pos} (sg : StbE Γ) (h : AE X Γ e (tLi lo hi c k)) (ha : AO X Γ a) (hb : AO X Γ b) : AE X Γ (.Subscript e (.Slice a b none p2) pos) (tLi 0 hi c k) :=
  ⟨pe_imp (pe_slice sl_list h.pe ha.po hb.po) fun σ H Q ⟨B, hg, j, q⟩ => ⟨B, hg, j, fun v H1 b1 j1 a1 => ⟨B, sg _ _ _ _ hg b1, j1, fun i H2 b2 j2 => ⟨B, sg _ _ _ _ hg (b1.trans b2), j2, fun i2 H3 b3 j3 => by
    obtain ⟨a, xs, rfl, ea, na, la1, la2, fa⟩ := st_li _ _ _ _ (st_li _ _ _ _ a1 b2) b3
    refine ⟨a, xs, rfl, SqL.of ea, fun p hp => ?_⟩
    exact q _ _ ((b1.trans (b2.trans b3)).trans (Same.butS (Same.new hp))) (B.same j3 (Same.new hp)) ⟨p, _, rfl, upd_same, B.fresh j3 hp, Nat.zero_le _, Nat.le_trans (cutV_length _ _ _) la2, fun y hy => st_th _ _ _ _ (fa y (mem_cut hy)) (Same.butS (Same.new hp))⟩⟩⟩⟩⟩
theorem ae_rev {lo hi c k : Nat} {p1 p2 p3 : Pos} {j1} (h : AE X Γ e (tLi lo hi c k)) : AE X Γ (.Subscript e (.Slice none none (some (.UnaryOp .USub (.Constant (.int 1) j1 p3) p1)) p2) pos) (tLi lo hi c k) :=
  ⟨pe_imp (pe_rev h.pe (po_some (pe_un o_neg pe_int))) fun σ H Q ⟨B, hg, j, q⟩ => ⟨B, hg, j, fun v H1 b1 j1 a1 => by
    obtain ⟨a, xs, rfl, ea, na, la1, la2, fa⟩ := a1
    refine ⟨1, rfl, -1, rfl, a, xs, rfl, rfl, ea, fun p hp => ?_⟩
    exact q _ _ (b1.trans (Same.butS (Same.new hp))) (B.same j1 (Same.new hp)) ⟨p, _, rfl, upd_same, B.fresh j1 hp, by rw [List.length_reverse]; exact la1, by rw [List.length_reverse]; exact la2, fun y hy => st_th _ _ _ _ (fa y (List.mem_reverse.mp hy)) (Same.butS (Same.new hp))⟩⟩⟩
theorem ae_rep {lo hi c k m : Nat} (sg : StbE Γ) (h1 : AE X Γ e1 (tLi lo hi c k)) (h2 : AE X Γ e2 (fun _ v _ => ∃ i : Int, v = .int i ∧ 0 ≤ i ∧ i ≤ m)) (hm : m ≤ 100) (hn : hi ≤ 100) : AE X Γ (.BinOp e1 .Mult e2 pos) (tLi 0 (hi * m) c k) :=
  ⟨pe_imp (pe_op op_rep h1.pe h2.pe) fun σ H Q ⟨B, hg, j, q⟩ => ⟨B, hg, j, fun v H1 b1 j1 a1 => ⟨B, sg _ _ _ _ hg b1, j1, fun u H2 b2 j2 a2 => by
    obtain ⟨a, xs, rfl, ea, na, la1, la2, fa⟩ := st_li _ _ _ _ a1 b2
    obtain ⟨i, rfl, i0, i1⟩ := a2
    have hb : xs.length * i.toNat ≤ hi * m := Nat.mul_le_mul la2 (by omega)
    have hb2 : hi * m ≤ 100 * 100 := Nat.mul_le_mul hn hm
    refine ⟨a, i, xs, rfl, rfl, ea, by omega, by omega, Nat.le_trans (Nat.le_trans hb hb2) (by decide), fun p hp => ?_⟩
    refine q _ _ ((b1.trans b2).trans (Same.butS (Same.new hp))) (B.same j2 (Same.new hp)) ⟨p, _, rfl, upd_same, B.fresh j2 hp, Nat.zero_le _, by rw [len_rep, Nat.mul_comm]; exact hb, fun y hy => ?_⟩
    obtain ⟨l, hl, hy2⟩ := List.mem_flatten.mp hy
    have := List.eq_of_mem_replicate hl
    subst this
    exact st_th _ _ _ _ (fa y hy2) (Same.butS (Same.new hp))⟩⟩⟩
theorem ae_dict : AE X Γ (.Dict [] [] pos) (tTh 2 1) := ⟨pe_imp pe_dict0 fun σ H Q ⟨B, hg, j, q⟩ p hp => q _ _ (Same.butS (Same.new hp)) (B.same j (Same.new hp)) ⟨_, .dct upd_same (B.fresh j hp), sz_dict⟩⟩
/-- ints -/
theorem ae_add (sg : StbE Γ) (h1 : AE X Γ e1 tIy) (h2 : AE X Γ e2 tIy) : AE X Γ (.BinOp e1 .Add e2 pos) tIy :=
  ⟨pe_imp (pe_op o_add h1.pe h2.pe) fun σ H Q ⟨B, hg, j, q⟩ => ⟨B, hg, j, fun v H1 b1 j1 a1 => ⟨B, sg _ _ _ _ hg b1, j1, fun u H2 b2 j2 a2 => by
    obtain ⟨i, rfl⟩ := a1
    obtain ⟨k, rfl⟩ := a2
    exact ⟨i, k, rfl, rfl, q _ _ (b1.trans b2) j2 ⟨_, rfl⟩⟩⟩⟩⟩
theorem ae_int {i : Int} (h : PE X e (tC (.int i))) (hi : i.natAbs < 10 ^ 40) : AE X Γ e (tTh 41 0) := ae_c h fun _ H => Ib.th ⟨i, rfl, hi⟩
theorem ae_iy {i : Int} (h : PE X e (tC (.int i))) : AE X Γ e tIy := ae_c h fun _ H => ⟨i, rfl⟩
end
section
variable {X : Cx} {Γ : EnB} {es : List Expr} {A : TyB} {n : Nat} {e1 e2 e3 e4 : Expr}
theorem aa_2 (sg : StbE Γ) (sa : Stb A) (h1 : AE X Γ e1 A) (h2 : AE X Γ e2 A) (hr : AAs X Γ es n A) (k1 : starEach (e1 :: e2 :: es) X.env = (false, eval e1 X.env) :: starEach (e2 :: es) X.env := by rfl) (k2 : starEach (e2 :: es) X.env = (false, eval e2 X.env) :: starEach es X.env := by rfl) : AAs X Γ (e1 :: e2 :: es) (n + 1 + 1) A :=
  aa_cons sg sa h1 (aa_cons sg sa h2 hr k2) k1
theorem aa_4 (sg : StbE Γ) (sa : Stb A) (h1 : AE X Γ e1 A) (h2 : AE X Γ e2 A) (h3 : AE X Γ e3 A) (h4 : AE X Γ e4 A) (hr : AAs X Γ es n A) (k1 : starEach (e1 :: e2 :: e3 :: e4 :: es) X.env = (false, eval e1 X.env) :: starEach (e2 :: e3 :: e4 :: es) X.env := by rfl) (k2 : starEach (e2 :: e3 :: e4 :: es) X.env = (false, eval e2 X.env) :: starEach (e3 :: e4 :: es) X.env := by rfl)
    (k3 : starEach (e3 :: e4 :: es) X.env = (false, eval e3 X.env) :: starEach (e4 :: es) X.env := by rfl) (k4 : starEach (e4 :: es) X.env = (false, eval e4 X.env) :: starEach es X.env := by rfl) : AAs X Γ (e1 :: e2 :: e3 :: e4 :: es) (n + 1 + 1 + 1 + 1) A :=
  aa_cons sg sa h1 (aa_cons sg sa h2 (aa_cons sg sa h3 (aa_cons sg sa h4 hr k4) k3) k2) k1
/-- a display of ints -/
def intsOf : List Expr → Option (List Int)
  | [] => some []
  | .Constant (.int i) _ _ :: es => (intsOf es).map (i :: ·)
  | _ => none
theorem pa_ints : ∀ {es : List Expr} {ns : List Int}, intsOf es = some ns → PA X es (fun _ H Q => Q (ns.map V.int) H)
  | [], ns, h => by
    simp only [intsOf, Option.some.injEq] at h
    subst h
    exact pa_nil
  | .Constant (.int i) j p :: es, ns, h => by
    simp only [intsOf] at h
    cases hr : intsOf es with
    | none => rw [hr] at h; cases h
    | some ms =>
      rw [hr] at h
      simp only [Option.map_some, Option.some.injEq] at h
      subst h
      exact pa_imp (pa_cons pe_int (pa_ints hr) rfl) fun σ H Q q => q
/-! literals -/
mutual
def litOf : Nat → Expr → Option PyData
  | 0, _ => none
  | n + 1, e => match e with
    | .Constant .none _ _ => some .none
    | .Constant (.bool b) _ _ => some (.bool b)
    | .Constant (.int i) _ _ => some (.int i)
    | .Constant (.str x) _ _ => some (.str x)
    | .List es _ => (litAll n es).map .list
    | .Tuple es _ _ => (litAll n es).map .tuple
    | .Dict [] [] _ => some (.dict [])
    | _ => none
def litAll : Nat → List Expr → Option (List PyData)
  | 0, _ => none
  | _ + 1, [] => some []
  | n + 1, e :: es => match litOf n e, litAll n es with
    | some d, some ds => some (d :: ds)
    | _, _ => none
end
abbrev tRd (d : PyData) : TyB := fun B v H => RdS B.S H v d
theorem st_rd {d : PyData} : Stb (tRd d) := fun B v H H' r b => r.move (fun c o n e => b c o n e) fun _ n => n
theorem lit_star {n : Nat} {e : Expr} {d : PyData} {env : Env} (h : litOf n e = some d) : starEach (e :: es) env = (false, eval e env) :: starEach es env := by
  cases n with
  | zero => simp [litOf] at h
  | succ n => cases e <;> first | rfl | (simp [litOf] at h)
theorem litAll_len : ∀ (n : Nat) {es : List Expr} {ds : List PyData}, litAll n es = some ds → ds.length ≤ n
  | 0, es, ds, h => by simp [litAll] at h
  | n + 1, [], ds, h => by
    simp only [litAll, Option.some.injEq] at h
    subst h
    exact Nat.zero_le _
  | n + 1, e :: es, ds, h => by
    unfold litAll at h
    split at h
    · rename_i d0 ds0 he hes
      cases h
      have := litAll_len n hes
      simp only [List.length_cons]
      omega
    · cases h
mutual
theorem lit_ok (sg : StbE Γ) : ∀ (n : Nat) {e : Expr} {d : PyData}, n ≤ 1000 → litOf n e = some d → AE X Γ e (tRd d)
  | 0, e, d, _, h => by simp [litOf] at h
  | n + 1, e, d, hn, h => by
    unfold litOf at h
    split at h
    · cases h; exact ae_c pe_non fun _ _ => .non
    · cases h; exact ae_c pe_bl fun _ _ => .bl _
    · cases h; exact ae_c pe_int fun _ _ => .int _
    · cases h; exact ae_c pe_str fun _ _ => .str _
    · rename_i es p
      cases hl : litAll n es with
      | none => rw [hl] at h; cases h
      | some ds =>
        rw [hl] at h
        simp only [Option.map_some, Option.some.injEq] at h
        subst h
        exact ⟨pe_imp (pe_lst (lit_all sg n (by omega) hl)) fun σ H Q ⟨B, hg, j, q⟩ => ⟨B, hg, j, fun vs H1 b1 j1 r1 => ⟨sl6 (by have := litAll_len n hl; have := r1.length; omega), fun p hp => q _ _ (b1.trans (Same.butS (Same.new hp))) (B.same j1 (Same.new hp)) (.lst upd_same (B.fresh j1 hp) (r1.same (Same.new hp)))⟩⟩⟩
    · rename_i es x p
      cases hl : litAll n es with
      | none => rw [hl] at h; cases h
      | some ds =>
        rw [hl] at h
        simp only [Option.map_some, Option.some.injEq] at h
        subst h
        exact ⟨pe_imp (pe_tup (lit_all sg n (by omega) hl)) fun σ H Q ⟨B, hg, j, q⟩ => ⟨B, hg, j, fun vs H1 b1 j1 r1 => ⟨sl6 (by have := litAll_len n hl; have := r1.length; omega), fun p hp => q _ _ (b1.trans (Same.butS (Same.new hp))) (B.same j1 (Same.new hp)) (.tup upd_same (B.fresh j1 hp) (r1.same (Same.new hp)))⟩⟩⟩
    · cases h
      exact ⟨pe_imp pe_dict0 fun σ H Q ⟨B, hg, j, q⟩ p hp => q _ _ (Same.butS (Same.new hp)) (B.same j (Same.new hp)) (.dct upd_same (B.fresh j hp))⟩
    · cases h
theorem lit_all (sg : StbE Γ) : ∀ (n : Nat) {es : List Expr} {ds : List PyData}, n ≤ 1000 → litAll n es = some ds → PA X es (fun σ H Q => ∃ B : Ab, Γ B σ H ∧ B.J H ∧ ∀ vs H', ButS B.S H H' → B.J H' → RdSs B.S H' vs ds → Q vs H')
  | 0, es, ds, _, h => by simp [litAll] at h
  | n + 1, [], ds, _, h => by
    simp only [litAll, Option.some.injEq] at h
    subst h
    exact pa_imp pa_nil fun σ H Q ⟨B, hg, j, q⟩ => q [] H (ButS.refl _ _) j .nil
  | n + 1, e :: es, ds, hn, h => by
    unfold litAll at h
    split at h
    · rename_i d0 ds0 he hes
      cases h
      exact pa_imp (pa_cons (lit_ok sg n (by omega) he).pe (lit_all sg n (by omega) hes) (lit_star he)) fun σ H Q ⟨B, hg, j, q⟩ => ⟨B, hg, j, fun v H1 b1 j1 a1 => ⟨B, sg _ _ _ _ hg b1, j1, fun vs H2 b2 j2 r2 => q (v :: vs) H2 (b1.trans b2) j2 (.cons (st_rd _ _ _ _ a1 b2) r2)⟩⟩
    · cases h
end
theorem sz_of {c k : Nat} {d : PyData} (h : (d.showable && decide (d.shown.length ≤ c) && decide (d.depth ≤ k)) = true) : Sz c k d := by
  simp only [Bool.and_eq_true, decide_eq_true_eq] at h
  exact ⟨h.1.1, h.1.2, h.2⟩
/-- a literal as a thing of a size -/
theorem ae_lit {e : Expr} {c k : Nat} (d : PyData) (sg : StbE Γ) (h : litOf 40 e = some d) (hz : (d.showable && decide (d.shown.length ≤ c) && decide (d.depth ≤ k)) = true) : AE X Γ e (tTh c k) :=
  ae_sub (lit_ok sg 40 (by decide) h) fun B v H r => ⟨d, r, sz_of hz⟩
end
theorem at_memV {xs : List V} {v : Int} (h0 : 0 ≤ v) (h1 : v < xs.length) : ∃ x ∈ xs, atI xs v = some x := by
  obtain ⟨k, rfl⟩ : ∃ k : Nat, v = k := ⟨v.toNat, by omega⟩
  have hk : k < xs.length := by omega
  exact ⟨xs[k], List.getElem_mem hk, atI_nat (by simp [hk])⟩
/-! kept apart from a fresh address -/
mutual
theorem rds_avoid {S : List Addr} {H : Hp} {a : Addr} (ha : H a = none) : ∀ {x : V} {d : PyData}, RdS S H x d → RdS (a :: S) H x d
  | _, _, .non => .non
  | _, _, .bl b => .bl b
  | _, _, .int i => .int i
  | _, _, .str x => .str x
  | _, _, .lst e n r => .lst e (by simp only [List.mem_cons, not_or]; exact ⟨ne_of_none e ha, n⟩) (rdss_avoid ha r)
  | _, _, .tup e n r => .tup e (by simp only [List.mem_cons, not_or]; exact ⟨ne_of_none e ha, n⟩) (rdss_avoid ha r)
  | _, _, .dct e n => .dct e (by simp only [List.mem_cons, not_or]; exact ⟨ne_of_none e ha, n⟩)
theorem rdss_avoid {S : List Addr} {H : Hp} {a : Addr} (ha : H a = none) : ∀ {xs : List V} {ds : List PyData}, RdSs S H xs ds → RdSs (a :: S) H xs ds
  | _, _, .nil => .nil
  | _, _, .cons h t => .cons (rds_avoid ha h) (rdss_avoid ha t)
end
end Seek
namespace Seek
open PySem L2 PyProof.Rows
/-! ### expressions by what is true of the data they read as -/
abbrev tD (φ : PyData → Prop) : TyB := fun B v H => ∃ d, RdS B.S H v d ∧ φ d
theorem st_d {φ : PyData → Prop} : Stb (tD φ) := fun B v H H' ⟨d, r, s⟩ b => ⟨d, r.move (fun c o n e => b c o n e) fun _ n => n, s⟩
theorem rdss_but {S : List Addr} {H H' : Hp} {xs : List V} {ds : List PyData} (r : RdSs S H xs ds) (b : ButS S H H') : RdSs S H' xs ds := r.move (fun c o n e => b c o n e) fun _ n => n
def IP (p : Int → Prop) : PyData → Prop := fun d => ∃ n : Int, d = .int n ∧ p n
def LP (φ : PyData → Prop) (lo hi : Nat) : PyData → Prop := fun d => ∃ ds, d = .list ds ∧ lo ≤ ds.length ∧ ds.length ≤ hi ∧ ∀ e ∈ ds, φ e
structure AX (X : Cx) (Γ : EnB) (es : List Expr) (ψ : List PyData → Prop) : Prop where
  pa : PA X es fun σ H Q => ∃ B : Ab, Γ B σ H ∧ B.J H ∧ ∀ vs ds H', ButS B.S H H' → B.J H' → RdSs B.S H' vs ds → ψ ds → Q vs H'
abbrev AU (X : Cx) (Γ : EnB) (es : List Expr) (n : Nat) (φ : PyData → Prop) : Prop := AX X Γ es fun ds => ds.length = n ∧ ∀ e ∈ ds, φ e
section
variable {X : Cx} {Γ : EnB} {e e1 e2 : Expr} {es : List Expr} {φ φ' : PyData → Prop} {ψ : List PyData → Prop} {pos : Pos} {n : Nat}
theorem ad_imp (h : AE X Γ e (tD φ)) (i : ∀ d, φ d → φ' d) : AE X Γ e (tD φ') := ae_sub h fun _ _ _ ⟨d, r, q⟩ => ⟨d, r, i d q⟩
theorem ax_imp {ψ' : List PyData → Prop} (h : AX X Γ es ψ) (i : ∀ d, ψ d → ψ' d) : AX X Γ es ψ' := ⟨pa_imp h.pa fun _ _ _ ⟨B, g, j, q⟩ => ⟨B, g, j, fun vs ds H' b j' r z => q vs ds H' b j' r (i ds z)⟩⟩
theorem ax_nil : AX X Γ [] (· = []) := ⟨pa_imp pa_nil fun σ H Q ⟨B, hg, j, q⟩ => q [] [] H (ButS.refl _ _) j .nil rfl⟩
theorem ax_cons (sg : StbE Γ) (h : AE X Γ e (tD φ)) (hr : AX X Γ es ψ) (hs : starEach (e :: es) X.env = (false, eval e X.env) :: starEach es X.env := by rfl) : AX X Γ (e :: es) (fun ds => ∃ d r, ds = d :: r ∧ φ d ∧ ψ r) :=
  ⟨pa_imp (pa_cons h.pe hr.pa hs) fun σ H Q ⟨B, hg, j, q⟩ => ⟨B, hg, j, fun v H1 b1 j1 a1 => ⟨B, sg _ _ _ _ hg b1, j1, fun vs ds H2 b2 j2 r2 z2 => by
    obtain ⟨d, r, p⟩ := st_d _ _ _ _ a1 b2
    exact q (v :: vs) (d :: ds) H2 (b1.trans b2) j2 (.cons r r2) ⟨d, ds, rfl, p, z2⟩⟩⟩⟩
theorem au_nil : AU X Γ [] 0 φ := ax_imp ax_nil fun d e => by subst e; exact ⟨rfl, fun x h => nomatch h⟩
theorem au_cons (sg : StbE Γ) (h : AE X Γ e (tD φ)) (hr : AU X Γ es n φ) (hs : starEach (e :: es) X.env = (false, eval e X.env) :: starEach es X.env := by rfl) : AU X Γ (e :: es) (n + 1) φ :=
  ax_imp (ax_cons sg h hr hs) fun ds ⟨d, r, e, p, l, f⟩ => by
    subst e
    refine ⟨by rw [List.length_cons, l], fun x hx => ?_⟩
    rcases List.mem_cons.mp hx with z | z
    · rw [z]; exact p
    · exact f x z
theorem ad_tup {x1} (h : AX X Γ es ψ) (hn : ∀ ds, ψ ds → ds.length ≤ 1000) (hφ : ∀ ds, ψ ds → φ (.tuple ds)) : AE X Γ (.Tuple es x1 pos) (tD φ) :=
  ⟨pe_imp (pe_tup h.pa) fun σ H Q ⟨B, hg, j, q⟩ => ⟨B, hg, j, fun vs ds H1 b1 j1 r1 z1 => ⟨by rw [r1.length]; exact sl6 (hn ds z1), fun p hp =>
    q _ _ (b1.trans (Same.butS (Same.new hp))) (B.same j1 (Same.new hp)) ⟨.tuple ds, .tup upd_same (B.fresh j1 hp) (r1.same (Same.new hp)), hφ ds z1⟩⟩⟩⟩
theorem ad_lst (h : AX X Γ es ψ) (hn : ∀ ds, ψ ds → ds.length ≤ 1000) (hφ : ∀ ds, ψ ds → φ (.list ds)) : AE X Γ (.List es pos) (tD φ) :=
  ⟨pe_imp (pe_lst h.pa) fun σ H Q ⟨B, hg, j, q⟩ => ⟨B, hg, j, fun vs ds H1 b1 j1 r1 z1 => ⟨by rw [r1.length]; exact sl6 (hn ds z1), fun p hp =>
    q _ _ (b1.trans (Same.butS (Same.new hp))) (B.same j1 (Same.new hp)) ⟨.list ds, .lst upd_same (B.fresh j1 hp) (r1.same (Same.new hp)), hφ ds z1⟩⟩⟩⟩
theorem ad_disp (h : AU X Γ es n φ) (hn : n ≤ 1000 := by decide) : AE X Γ (.List es pos) (tD (LP φ n n)) := ad_lst h (fun ds z => by rw [z.1]; exact hn) fun ds z => ⟨ds, rfl, by rw [z.1]; exact Nat.le_refl _, by rw [z.1]; exact Nat.le_refl _, z.2⟩
theorem rdss_app {S : List Addr} {H : Hp} : ∀ {xs ys : List V} {ds es : List PyData}, RdSs S H xs ds → RdSs S H ys es → RdSs S H (xs ++ ys) (ds ++ es)
  | _, _, _, _, .nil, h => h
  | _, _, _, _, .cons r t, h => .cons r (rdss_app t h)
theorem ad_cat {φ1 φ2 : PyData → Prop} (sg : StbE Γ) (h1 : AE X Γ e1 (tD φ1)) (h2 : AE X Γ e2 (tD φ2)) (i1 : ∀ d, φ1 d → ∃ ds, d = .list ds ∧ ds.length ≤ 500) (i2 : ∀ d, φ2 d → ∃ ds, d = .list ds ∧ ds.length ≤ 500) (i : ∀ a b, φ1 (.list a) → φ2 (.list b) → φ (.list (a ++ b))) : AE X Γ (.BinOp e1 .Add e2 pos) (tD φ) :=
  ⟨pe_imp (pe_op op_cat h1.pe h2.pe) fun σ H Q ⟨B, hg, j, q⟩ => ⟨B, hg, j, fun v H1 b1 j1 a1 => ⟨B, sg _ _ _ _ hg b1, j1, fun u H2 b2 j2 a2 => by
    obtain ⟨d, r, p⟩ := st_d _ _ _ _ a1 b2
    obtain ⟨d2, r2, p2⟩ := a2
    obtain ⟨ds, rfl, n1⟩ := i1 d p
    obtain ⟨ds2, rfl, n2⟩ := i2 d2 p2
    cases r with
    | @lst a xs _ ea na ra =>
      cases r2 with
      | @lst b ys _ eb nb rb =>
        refine ⟨a, b, xs, ys, rfl, rfl, ea, eb, sl6 (by rw [ra.length, rb.length]; omega), fun p hp => ?_⟩
        exact q _ _ ((b1.trans b2).trans (Same.butS (Same.new hp))) (B.same j2 (Same.new hp)) ⟨.list (ds ++ ds2), .lst upd_same (B.fresh j2 hp) ((rdss_app ra rb).same (Same.new hp)), i _ _ ‹_› ‹_›⟩⟩⟩⟩
theorem ad_more {lo1 hi1 lo2 hi2 : Nat} (sg : StbE Γ) (h1 : AE X Γ e1 (tD (LP φ lo1 hi1))) (h2 : AE X Γ e2 (tD (LP φ lo2 hi2))) (k1 : hi1 ≤ 500 := by decide) (k2 : hi2 ≤ 500 := by decide) : AE X Γ (.BinOp e1 .Add e2 pos) (tD (LP φ (lo1 + lo2) (hi1 + hi2))) :=
  ad_cat sg h1 h2 (fun d ⟨ds, e, _, l, _⟩ => ⟨ds, e, by omega⟩) (fun d ⟨ds, e, _, l, _⟩ => ⟨ds, e, by omega⟩) fun a b ⟨ds, e, l1, l2, f⟩ ⟨ds2, e2, m1, m2, g⟩ => by
    injection e with e
    injection e2 with e2
    subst e e2
    refine ⟨_, rfl, by rw [List.length_append]; omega, by rw [List.length_append]; omega, fun x hx => ?_⟩
    rcases List.mem_append.mp hx with z | z
    · exact f x z
    · exact g x z
theorem ad_var {i : Nat} (h : PE X e (tVar i)) (g : ∀ B σ H, Γ B σ H → ∃ v, σ[i]? = some (some v) ∧ tD φ B v H) : AE X Γ e (tD φ) := ae_var h g
theorem ad_lit (d : PyData) (sg : StbE Γ) (h : litOf 40 e = some d) (hz : φ d) : AE X Γ e (tD φ) := ae_sub (lit_ok sg 40 (by decide) h) fun B v H r => ⟨d, r, hz⟩
theorem ad_add {p q : Int → Prop} (sg : StbE Γ) (h1 : AE X Γ e1 (tD (IP p))) (h2 : AE X Γ e2 (tD (IP q))) : AE X Γ (.BinOp e1 .Add e2 pos) (tD (IP fun z => ∃ a b, p a ∧ q b ∧ z = a + b)) :=
  ⟨pe_imp (pe_op o_add h1.pe h2.pe) fun σ H Q ⟨B, hg, j, q⟩ => ⟨B, hg, j, fun v H1 b1 j1 a1 => ⟨B, sg _ _ _ _ hg b1, j1, fun u H2 b2 j2 a2 => by
    obtain ⟨_, r1, i, rfl, p1⟩ := a1
    obtain ⟨_, r2, k, rfl, p2⟩ := a2
    cases r1
    cases r2
    exact ⟨i, k, rfl, rfl, q _ _ (b1.trans b2) j2 ⟨_, .int _, _, rfl, i, k, p1, p2, rfl⟩⟩⟩⟩⟩
theorem ad_sub {p q : Int → Prop} (sg : StbE Γ) (h1 : AE X Γ e1 (tD (IP p))) (h2 : AE X Γ e2 (tD (IP q))) : AE X Γ (.BinOp e1 .Sub e2 pos) (tD (IP fun z => ∃ a b, p a ∧ q b ∧ z = a - b)) :=
  ⟨pe_imp (pe_op o_sub h1.pe h2.pe) fun σ H Q ⟨B, hg, j, q⟩ => ⟨B, hg, j, fun v H1 b1 j1 a1 => ⟨B, sg _ _ _ _ hg b1, j1, fun u H2 b2 j2 a2 => by
    obtain ⟨_, r1, i, rfl, p1⟩ := a1
    obtain ⟨_, r2, k, rfl, p2⟩ := a2
    cases r1
    cases r2
    exact ⟨i, k, rfl, rfl, q _ _ (b1.trans b2) j2 ⟨_, .int _, _, rfl, i, k, p1, p2, rfl⟩⟩⟩⟩⟩
theorem ad_int {i : Int} (h : PE X e (tC (.int i))) : AE X Γ e (tD (IP (· = i))) := ae_c h fun _ _ => ⟨_, .int i, i, rfl, rfl⟩
/-- an item of a list of things -/
theorem ad_item {lo hi : Nat} (h1 : AE X Γ e1 (tD (LP φ lo hi))) {t2 : TE} (h2 : PE X e2 t2) (pl : PlainIx e2) (g : ∀ B σ H Q, Γ B σ H → B.J H → (∀ (i : Int) H', 0 ≤ i → i < lo → ButS B.S H H' → B.J H' → Q (.int i) H') → t2 σ H Q) (sg : StbE Γ) : AE X Γ (.Subscript e1 e2 pos) (tD φ) :=
  ⟨pe_imp (pe_ix ix_list h1.pe h2 pl) fun σ H Q ⟨B, hg, j, q⟩ => ⟨B, hg, j, fun v H1 b1 j1 a1 => g B σ H1 _ (sg _ _ _ _ hg b1) j1 fun i H2 i0 i1 b2 j2 => by
    obtain ⟨_, r, ds, rfl, l1, l2, f⟩ := st_d _ _ _ _ a1 b2
    cases r with
    | @lst a xs _ ea na ra =>
      obtain ⟨x, hx, hat⟩ := at_memV (xs := xs) i0 (by rw [ra.length]; omega)
      obtain ⟨ms, e1, e2, hm⟩ := ra.pairs
      subst e1 e2
      obtain ⟨m, hm1, hm2⟩ := List.mem_map.mp hx
      subst hm2
      exact ⟨a, _, i, m.1, rfl, rfl, SqL.of ea, hat, q _ _ (b1.trans b2) j2 ⟨m.2, hm m hm1, f m.2 (List.mem_map.mpr ⟨m, hm1, rfl⟩)⟩⟩⟩⟩
end
theorem Sz.up {c k c' k' : Nat} {d : PyData} (h : Sz c k d) (h1 : c ≤ c' := by decide) (h2 : k ≤ k' := by decide) : Sz c' k' d := h.mono h1 h2
end Seek
namespace Seek
open PySem L2 PyProof.Rows
/-! ### rules for every value of what is drawn -/
theorem pe_ex {X : Cx} {e : Expr} {α : Type} {t : α → TE} (h : ∀ a, PE X e (t a)) : PE X e (fun σ H Q => ∃ a, t a σ H Q) := fun pins s σ H Q I ⟨a, q⟩ => h a pins s σ H Q I q
theorem ps_ex {X : Cx} {st : Stmt} {α : Type} {t : α → TS} (h : ∀ a, PS X st (t a)) : PS X st (fun D σ H => ∃ a, t a D σ H) := fun pins s σ H D I ⟨a, q⟩ => h a pins s σ H D I q
/-! ### expressions whose data is known -/
abbrev tE (d : PyData) : TyB := tD (· = d)
def cutD (xs : List PyData) (lo hi : Option Int) : List PyData := (xs.drop (HT.sIx xs.length 0 lo)).take (HT.sIx xs.length xs.length hi - HT.sIx xs.length 0 lo)
theorem rdss_drop {S : List Addr} {H : Hp} : ∀ {xs : List V} {ds : List PyData} (n : Nat), RdSs S H xs ds → RdSs S H (xs.drop n) (ds.drop n)
  | _, _, 0, h => h
  | _, _, n + 1, .nil => .nil
  | _, _, n + 1, .cons r t => rdss_drop n t
theorem rdss_take {S : List Addr} {H : Hp} : ∀ {xs : List V} {ds : List PyData} (n : Nat), RdSs S H xs ds → RdSs S H (xs.take n) (ds.take n)
  | _, _, 0, h => .nil
  | _, _, n + 1, .nil => .nil
  | _, _, n + 1, .cons r t => .cons r (rdss_take n t)
theorem rdss_cut {S : List Addr} {H : Hp} {xs : List V} {ds : List PyData} (r : RdSs S H xs ds) (lo hi : Option Int) : RdSs S H (cutV xs lo hi) (cutD ds lo hi) := by
  unfold cutV cutD
  rw [r.length]
  exact rdss_take _ (rdss_drop _ r)
theorem rdss_at {S : List Addr} {H : Hp} : ∀ {xs : List V} {ds : List PyData}, RdSs S H xs ds → ∀ {k : Nat} {d : PyData}, ds[k]? = some d → ∃ x, xs[k]? = some x ∧ RdS S H x d
  | _, _, .nil, k, d, h => by simp at h
  | _, _, .cons r t, 0, d, h => by
    simp only [List.getElem?_cons_zero, Option.some.injEq] at h
    subst h
    exact ⟨_, rfl, r⟩
  | _, _, .cons r t, k + 1, d, h => rdss_at t (by simpa using h)
structure AOx (X : Cx) (Γ : EnB) (o : Option Expr) (i : Option Int) : Prop where
  po : PO X o fun σ H Q => ∃ B : Ab, Γ B σ H ∧ B.J H ∧ ∀ H', ButS B.S H H' → B.J H' → Q i H'
section
variable {X : Cx} {Γ : EnB} {e e1 e2 : Expr} {es : List Expr} {φ φ' : PyData → Prop} {pos : Pos} {n : Nat} {d d1 d2 : PyData} {ds es' : List PyData}
theorem ax_none : AOx X Γ none none := ⟨po_imp po_none fun σ H Q ⟨B, hg, j, q⟩ => q H (ButS.refl _ _) j⟩
theorem ax_some {i : Int} (h : AE X Γ e (tE (.int i))) : AOx X Γ (some e) (some i) := ⟨po_imp (po_some h.pe) fun σ H Q ⟨B, hg, j, q⟩ => ⟨B, hg, j, fun v H1 b1 j1 a1 => by
  obtain ⟨_, r, rfl⟩ := a1
  cases r
  exact ⟨i, rfl, q H1 b1 j1⟩⟩⟩
theorem ad_slice {a b : Option Expr} {lo hi : Option Int} {p2 : Pos} (sg : StbE Γ) (h : AE X Γ e (tE (.list ds))) (ha : AOx X Γ a lo) (hb : AOx X Γ b hi) : AE X Γ (.Subscript e (.Slice a b none p2) pos) (tE (.list (cutD ds lo hi))) :=
  ⟨pe_imp (pe_slice sl_list h.pe ha.po hb.po) fun σ H Q ⟨B, hg, j, q⟩ => ⟨B, hg, j, fun v H1 b1 j1 a1 => ⟨B, sg _ _ _ _ hg b1, j1, fun H2 b2 j2 => ⟨B, sg _ _ _ _ hg (b1.trans b2), j2, fun H3 b3 j3 => by
    obtain ⟨_, r, rfl⟩ := st_d _ _ _ _ a1 (b2.trans b3)
    cases r with
    | @lst a xs _ ea na ra =>
      refine ⟨a, xs, rfl, SqL.of ea, fun p hp => ?_⟩
      exact q _ _ ((b1.trans (b2.trans b3)).trans (Same.butS (Same.new hp))) (B.same j3 (Same.new hp)) ⟨_, .lst upd_same (B.fresh j3 hp) ((rdss_cut ra lo hi).same (Same.new hp)), rfl⟩⟩⟩⟩⟩
theorem ad_catE (sg : StbE Γ) (h1 : AE X Γ e1 (tE (.list ds))) (h2 : AE X Γ e2 (tE (.list es'))) (n1 : ds.length ≤ 500) (n2 : es'.length ≤ 500) : AE X Γ (.BinOp e1 .Add e2 pos) (tE (.list (ds ++ es'))) :=
  ad_cat sg h1 h2 (fun d h => ⟨ds, h, n1⟩) (fun d h => ⟨es', h, n2⟩) fun a b ha hb => by
    injection ha with ha
    injection hb with hb
    rw [ha, hb]
theorem ad_ixE {i : Int} {k : Nat} (sg : StbE Γ) (h1 : AE X Γ e1 (tE (.list ds))) (h2 : AE X Γ e2 (tE (.int i))) (pl : PlainIx e2) (hk : ixN ds.length i = some k) (hd : ds[k]? = some d) : AE X Γ (.Subscript e1 e2 pos) (tE d) :=
  ⟨pe_imp (pe_ix ix_list h1.pe h2.pe pl) fun σ H Q ⟨B, hg, j, q⟩ => ⟨B, hg, j, fun v H1 b1 j1 a1 => ⟨B, sg _ _ _ _ hg b1, j1, fun u H2 b2 j2 a2 => by
    obtain ⟨_, r, rfl⟩ := st_d _ _ _ _ a1 b2
    obtain ⟨_, r2, rfl⟩ := a2
    cases r2
    cases r with
    | @lst a xs _ ea na ra =>
      obtain ⟨x, hx, rx⟩ := rdss_at ra hd
      refine ⟨a, xs, i, x, rfl, rfl, SqL.of ea, ?_, q _ _ (b1.trans b2) j2 ⟨_, rx, rfl⟩⟩
      unfold atI
      rw [ra.length, hk]
      exact hx⟩⟩⟩
theorem ad_tupleOf (h : AE X Γ e (tE (.list ds))) {p1 : Pos} (htu : X.mg "tuple" = none) (hg : Gl X "tuple" := by rfl) (he : starEach [e] X.env = (false, eval e X.env) :: starEach [] X.env := by rfl) (hpl : (backTo pos (starEach ([] : List Expr) X.env)).any (·.1) = false := by rfl) : AE X Γ (.Call (.Name "tuple" p1) [e] [] pos) (tE (.tuple ds)) :=
  ⟨pe_imp (pe_t call_tuple_of htu boot_tuple (pa_cons h.pe pa_nil he) hg (by decide) (by decide) he hpl) fun σ H Q ⟨B, hg, j, q⟩ => ⟨B, hg, j, fun v H1 b1 j1 a1 => by
    obtain ⟨_, r, rfl⟩ := a1
    cases r with
    | @lst a xs _ ea na ra => exact ⟨a, xs, rfl, .inl ⟨SqL.of ea, fun l hl => q _ _ (b1.trans (Same.butS (Same.new hl))) (B.same j1 (Same.new hl)) ⟨_, .tup upd_same (B.fresh j1 hl) (ra.same (Same.new hl)), rfl⟩⟩⟩⟩⟩
theorem ad_intE {i : Int} (h : PE X e (tC (.int i))) : AE X Γ e (tE (.int i)) := ae_c h fun _ _ => ⟨_, .int i, rfl⟩
theorem ad_addE {i k : Int} (sg : StbE Γ) (h1 : AE X Γ e1 (tE (.int i))) (h2 : AE X Γ e2 (tE (.int k))) : AE X Γ (.BinOp e1 .Add e2 pos) (tE (.int (i + k))) :=
  ⟨pe_imp (pe_op o_add h1.pe h2.pe) fun σ H Q ⟨B, hg, j, q⟩ => ⟨B, hg, j, fun v H1 b1 j1 a1 => ⟨B, sg _ _ _ _ hg b1, j1, fun u H2 b2 j2 a2 => by
    obtain ⟨_, r1, rfl⟩ := a1
    obtain ⟨_, r2, rfl⟩ := a2
    cases r1
    cases r2
    exact ⟨i, k, rfl, rfl, q _ _ (b1.trans b2) j2 ⟨_, .int _, rfl⟩⟩⟩⟩⟩
theorem ad_subE {i k : Int} (sg : StbE Γ) (h1 : AE X Γ e1 (tE (.int i))) (h2 : AE X Γ e2 (tE (.int k))) : AE X Γ (.BinOp e1 .Sub e2 pos) (tE (.int (i - k))) :=
  ⟨pe_imp (pe_op o_sub h1.pe h2.pe) fun σ H Q ⟨B, hg, j, q⟩ => ⟨B, hg, j, fun v H1 b1 j1 a1 => ⟨B, sg _ _ _ _ hg b1, j1, fun u H2 b2 j2 a2 => by
    obtain ⟨_, r1, rfl⟩ := a1
    obtain ⟨_, r2, rfl⟩ := a2
    cases r1
    cases r2
    exact ⟨i, k, rfl, rfl, q _ _ (b1.trans b2) j2 ⟨_, .int _, rfl⟩⟩⟩⟩⟩
theorem ad_negE {i : Int} (h : AE X Γ e (tE (.int i))) : AE X Γ (.UnaryOp .USub e pos) (tE (.int (-i))) := ⟨pe_imp (pe_un o_neg h.pe) fun σ H Q ⟨B, hg, j, q⟩ => ⟨B, hg, j, fun v H1 b1 j1 a1 => by
  obtain ⟨_, r1, rfl⟩ := a1
  cases r1
  exact ⟨i, rfl, q _ _ b1 j1 ⟨_, .int _, rfl⟩⟩⟩⟩
/-- n copies of a list of things -/
theorem ad_repE {i : Int} (sg : StbE Γ) (h1 : AE X Γ e1 (tD (LP φ 1 1))) (h2 : AE X Γ e2 (tE (.int i))) (h0 : 0 ≤ i) (hm : i ≤ 100) : AE X Γ (.BinOp e1 .Mult e2 pos) (tD (LP φ i.toNat i.toNat)) :=
  ⟨pe_imp (pe_op op_rep h1.pe h2.pe) fun σ H Q ⟨B, hg, j, q⟩ => ⟨B, hg, j, fun v H1 b1 j1 a1 => ⟨B, sg _ _ _ _ hg b1, j1, fun u H2 b2 j2 a2 => by
    obtain ⟨_, r, ds, rfl, l1, l2, f⟩ := st_d _ _ _ _ a1 b2
    obtain ⟨_, r2, rfl⟩ := a2
    cases r2
    cases r with
    | @lst a xs _ ea na ra =>
      have hl := ra.length
      match xs, ds, ra with
      | [x], [d], .cons rx .nil =>
        refine ⟨a, i, _, rfl, rfl, ea, by omega, by omega, by simp only [List.length_singleton, Nat.one_mul]; exact sl6 (by omega), fun p hp => ?_⟩
        have hfl : ∀ m : Nat, RdSs B.S H2 ((List.replicate m [x]).flatten) (List.replicate m d) := fun m => by
          induction m with
          | zero => exact .nil
          | succ m ih => exact .cons rx ih
        refine q _ _ ((b1.trans b2).trans (Same.butS (Same.new hp))) (B.same j2 (Same.new hp)) ⟨_, .lst upd_same (B.fresh j2 hp) ((hfl i.toNat).same (Same.new hp)), _, rfl, by simp, by simp, fun e he => ?_⟩
        rw [List.eq_of_mem_replicate he]
        exact f d (by simp)
      | [], [], _ => simp at l1
      | _ :: _ :: _, _ :: _ :: _, _ => simp at l2⟩⟩⟩
end
/-- a name's thing -/
def Vr (B : Ab) (σ : L2.St) (H : Hp) (i : Nat) (d : PyData) : Prop := ∃ v, σ[i]? = some (some v) ∧ RdS B.S H v d
theorem Vr.but {B : Ab} {σ : L2.St} {H H' : Hp} {i : Nat} {d : PyData} (h : Vr B σ H i d) (b : ButS B.S H H') : Vr B σ H' i d := let ⟨v, e, r⟩ := h; ⟨v, e, r.move (fun c o n e => b c o n e) fun _ n => n⟩
theorem ad_vr {X : Cx} {Γ : EnB} {e : Expr} {i : Nat} {d : PyData} (h : PE X e (tVar i)) (g : ∀ B σ H, Γ B σ H → Vr B σ H i d) : AE X Γ e (tE d) := ae_var h fun B σ H q => let ⟨v, ev, r⟩ := g B σ H q; ⟨v, ev, d, r, rfl⟩
end Seek
namespace Seek
open PySem L2 PyProof.Rows
def abS (s D : Addr) : Ab := ⟨[s], fun H => StK H s, fun h sm => h.same sm, fun h n => by
  simp only [List.mem_singleton]
  exact fun z => h.ne n z.symm⟩
/-- the store's things, and names whose data is known -/
def EnvD (st D : Addr) (l : List (Nat × PyData)) : EnB := fun B σ H => B = abS st D ∧ σ[0]? = some (some (.ref st)) ∧ ∀ x ∈ l, Vr B σ H x.1 x.2
theorem st_env {st D : Addr} {l : List (Nat × PyData)} : StbE (EnvD st D l) := fun _ _ _ _ ⟨h1, h2, h3⟩ b => ⟨h1, h2, fun x hx => (h3 x hx).but b⟩
section
variable {X : Cx} {Γ : EnB} {st D : Addr} {l : List (Nat × PyData)} {e : Expr} {es : List Expr} {pos : Pos} {d : PyData} {ds : List PyData} {i : Nat}
theorem ad_env (h : PE X e (tVar i)) (hm : (i, d) ∈ l) : AE X (EnvD st D l) e (tE d) := ad_vr h fun B σ H q => q.2.2 _ hm
theorem ax_consE (sg : StbE Γ) (h : AE X Γ e (tE d)) (hr : AX X Γ es (· = ds)) (hs : starEach (e :: es) X.env = (false, eval e X.env) :: starEach es X.env := by rfl) : AX X Γ (e :: es) (· = d :: ds) := ax_imp (ax_cons sg h hr hs) fun z ⟨a, b, e1, e2, e3⟩ => by rw [e1, e2, e3]
theorem ad_lstE (h : AX X Γ es (· = ds)) (hn : ds.length ≤ 1000) : AE X Γ (.List es pos) (tE (.list ds)) := ad_lst h (fun z e => by rw [e]; exact hn) fun z e => by rw [e]
theorem ad_tupE {x1} (h : AX X Γ es (· = ds)) (hn : ds.length ≤ 1000) : AE X Γ (.Tuple es x1 pos) (tE (.tuple ds)) := ad_tup h (fun z e => by rw [e]; exact hn) fun z e => by rw [e]
theorem ad_litE (sg : StbE Γ) (h : litOf 40 e = some d) : AE X Γ e (tE d) := ad_lit d sg h rfl
end
theorem cutD_to {ds : List PyData} {p : Nat} (h : p ≤ ds.length) : cutD ds none (some (p : Int)) = ds.take p := by
  unfold cutD
  rw [HT.sIx_none, HT.sIx_nat, List.drop_zero, Nat.sub_zero, Nat.min_eq_left h]
theorem cutD_from {ds : List PyData} {p : Nat} : cutD ds (some (p : Int)) none = ds.drop p := by
  unfold cutD
  rw [HT.sIx_none, HT.sIx_nat]
  by_cases h : p ≤ ds.length
  · rw [Nat.min_eq_left h, List.take_of_length_le (by rw [List.length_drop]; omega)]
  · rw [Nat.min_eq_right (by omega), List.drop_of_length_le (Nat.le_refl _), List.drop_of_length_le (by omega)]
    simp
/-- a row with another thing at a place -/
def setD (h : List Int) (p : Nat) (d : PyData) : PyData := .list (((h.map PyData.int).take p ++ [d]) ++ (h.map PyData.int).drop (p + 1))
theorem setD_int {h : List Int} {p : Nat} {v : Int} (hp : p < h.length) : setD h p (.int v) = dRow (h.set p v) := by
  unfold setD dRow
  rw [List.set_eq_take_append_cons_drop, if_pos hp]
  simp
theorem setD_odd {h : List Int} {p : Nat} {d : PyData} (hd : isIntD d = false) : rowD (setD h p d) = false := by
  unfold setD
  rw [rowD_list]
  have : (((h.map PyData.int).take p ++ [d]) ++ (h.map PyData.int).drop (p + 1)).all isIntD = false := by
    rw [List.all_eq_false]
    exact ⟨d, by simp, by rw [hd]; simp⟩
  rw [this, Bool.and_false]
theorem sz_dRow {h : List Int} (hl : h.length ≤ 8) (hb : ∀ n ∈ h, n.natAbs < 10 ^ 40) : Sz 400 1 (dRow h) := by
  refine (sz_list (c := 41) (k := 0) (n := 8) (fun e he => ?_) (by rw [List.length_map]; exact hl)).mono (by decide) (by decide)
  obtain ⟨n, hn, rfl⟩ := List.mem_map.mp he
  exact sz_int (hb n hn)
theorem sz_setD {h : List Int} {p : Nat} {d : PyData} (hl : h.length ≤ 6) (hb : ∀ n ∈ h, n.natAbs < 10 ^ 40) (hd : Sz 41 1 d) : Sz 400 2 (setD h p d) := by
  refine (sz_list (c := 41) (k := 1) (n := 8) (fun e he => ?_) ?_).mono (by decide) (by decide)
  · simp only [List.mem_append, List.mem_singleton] at he
    have : ∀ e ∈ h.map PyData.int, Sz 41 1 e := fun e he => by
      obtain ⟨n, hn, rfl⟩ := List.mem_map.mp he
      exact (sz_int (hb n hn)).mono (by decide) (by decide)
    rcases he with (h1 | h1) | h1
    · exact this e (List.mem_of_mem_take h1)
    · rw [h1]; exact hd
    · exact this e (List.mem_of_mem_drop h1)
  · simp only [List.length_append, List.length_take, List.length_drop, List.length_map, List.length_singleton]
    omega
theorem ad_setE {X : Cx} {Γ : EnB} {eN eN' eP eP' eO e1 : Expr} {h : List Int} {p : Nat} {o : PyData} {q1 q2 q3 q4 q6 q7 q8 q9 : Pos} (sg : StbE Γ) (hN : AE X Γ eN (tE (dRow h))) (hP : AE X Γ eP (tE (.int (p : Nat)))) (hO : AE X Γ eO (tE o)) (hN' : AE X Γ eN' (tE (dRow h))) (hP' : AE X Γ eP' (tE (.int (p : Nat)))) (h1 : PE X e1 (tC (.int 1))) (hl : h.length ≤ 6) (hp : p < h.length)
    (hs : starEach [eO] X.env = (false, eval eO X.env) :: starEach [] X.env := by rfl) :
    AE X Γ (.BinOp (.BinOp (.Subscript eN (.Slice none (some eP) none q1) q2) .Add (.List [eO] q3) q4) .Add (.Subscript eN' (.Slice (some (.BinOp eP' .Add e1 q6)) none none q7) q8) q9) (tE (setD h p o)) := by
  have z := ad_catE (pos := q9) sg (ad_catE (pos := q4) sg (ad_slice (pos := q2) (p2 := q1) sg hN ax_none (ax_some hP)) (ad_lstE (pos := q3) (ax_consE sg hO ax_nil hs) (by simp)) (by
    rw [cutD_to (by rw [List.length_map]; omega), List.length_take, List.length_map]; omega) (by simp)) (ad_slice (pos := q8) (p2 := q7) sg hN' (ax_some (ad_addE (pos := q6) sg hP' (ad_intE h1))) ax_none) (by
    rw [cutD_to (by rw [List.length_map]; omega), List.length_append, List.length_take, List.length_map, List.length_singleton]; omega) (by
    rw [show ((p : Nat) : Int) + 1 = ((p + 1 : Nat) : Int) by omega, cutD_from, List.length_drop, List.length_map]; omega)
  rw [cutD_to (by rw [List.length_map]; omega), show ((p : Nat) : Int) + 1 = ((p + 1 : Nat) : Int) by omega, cutD_from] at z
  exact z
/-- a thing that is no row of the table in the r-th row's place -/
def BL (rows : List (List Int)) (r : Nat) (d : PyData) : Prop := ¬ GoodD (putD rows r d) ∧ Sz 1000 4 d
end Seek
namespace Seek
open PySem L2 PyProof.Rows
theorem rds_but {S : List Addr} {H H' : Hp} {x : V} {d : PyData} (r : RdS S H x d) (b : ButS S H H') : RdS S H' x d := r.move (fun c o n e => b c o n e) fun _ n => n
end Seek
namespace Seek
open PySem L2 PyProof.Rows
/-- an item of a display of literals -/
theorem pe_litix {X : Cx} {Γ : EnB} {es : List Expr} {ei : Expr} {te : TE} {p1 p2 : Pos} {n : Nat} (sg : StbE Γ) (hi : PE X ei te) (pl : PlainIx ei) (g : ∀ B σ H Q, Γ B σ H → B.J H → (∀ (i : Int) H', 0 ≤ i → i < n → ButS B.S H H' → B.J H' → Q (.int i) H') → te σ H Q) : PE X (.Subscript (.List es p1) ei p2)
    (fun σ H Q => ∃ (B : Ab) (ds : List PyData), Γ B σ H ∧ B.J H ∧ litAll 40 es = some ds ∧ n ≤ ds.length ∧ ∀ v d H', d ∈ ds → RdS B.S H' v d → ButS B.S H H' → B.J H' → Q v H') := fun pins s σ H Q I ⟨B, ds, hg, j, hl, hn, q⟩ => by
  refine pe_ix ix_list (pe_lst (lit_all (Γ := fun B' _ _ => B' = B) (fun _ _ _ _ g _ => g) 40 (by decide) hl)) hi pl pins s σ H Q I ⟨B, rfl, j, fun vs H1 b1 j1 r1 => ⟨sl6 (by have := litAll_len 40 hl; have := r1.length; omega), fun p hp => ?_⟩⟩
  have sp : Same H1 (upd H1 p (.lst vs)) := Same.new hp
  have nB := B.fresh j1 hp
  have b2 := b1.trans (Same.butS sp)
  refine g B σ _ _ (sg _ _ _ _ hg b2) (B.same j1 sp) fun i H3 i0 i1 b3 j3 => ?_
  have r3 := rdss_but (r1.same sp) b3
  obtain ⟨x, hx, hat⟩ := at_memV (xs := vs) i0 (by rw [r1.length]; omega)
  obtain ⟨ms, e1, e2, hm⟩ := r3.pairs
  subst e1 e2
  obtain ⟨m, hm1, hm2⟩ := List.mem_map.mp hx
  subst hm2
  exact ⟨p, _, i, m.1, rfl, rfl, SqL.of (b3 _ _ nB upd_same), hat, q _ m.2 _ (List.mem_map.mpr ⟨m, hm1, rfl⟩) (hm m hm1) (b2.trans b3) j3⟩
end Seek
namespace Seek
open PySem L2 PyProof.Rows
def oddD : List PyData := [.bool true, .bool false, .none, .str "1", .list [.int 1], .tuple [.int 1], .dict [], .str ""]
theorem ixN_last {n : Nat} (h : 1 ≤ n) : ixN n (-1) = some (n - 1) := by
  unfold ixN
  rw [if_neg (by decide), if_pos (by omega)]
  congr 1
  omega
theorem ixN_nat {n k : Nat} (h : k < n) : ixN n (k : Int) = some k := by
  unfold ixN
  rw [if_pos (by omega), if_pos (by omega)]
  congr 1
theorem ad_cast {X : Cx} {Γ : EnB} {e : Expr} {d d' : PyData} (h : AE X Γ e (tE d)) (q : d = d') : AE X Γ e (tE d') := by subst q; exact h
theorem ps_w1 {X : Cx} {s : Stmt} {α : Type} {C : α → Prop} {t : α → TS} (h : ∀ a, C a → PS X s (t a)) : PS X s (fun E σ H => ∃ a, C a ∧ t a E σ H) := fun pins s' σ H D I ⟨a, c, q⟩ => h a c pins s' σ H D I q
theorem ps_w2 {X : Cx} {s : Stmt} {α β : Type} {C : α → β → Prop} {t : α → β → TS} (h : ∀ a b, C a b → PS X s (t a b)) : PS X s (fun E σ H => ∃ a b, C a b ∧ t a b E σ H) := fun pins s' σ H D I ⟨a, b, c, q⟩ => h a b c pins s' σ H D I q
theorem ps_w3 {X : Cx} {s : Stmt} {α β γ : Type} {C : α → β → γ → Prop} {t : α → β → γ → TS} (h : ∀ a b c, C a b c → PS X s (t a b c)) : PS X s (fun E σ H => ∃ a b c, C a b c ∧ t a b c E σ H) := fun pins s' σ H D I ⟨a, b, c, z, q⟩ => h a b c z pins s' σ H D I q
/-- the first statements of _law_no_table: each for all that is drawn -/
theorem getD_row {rows : List (List Int)} {r : Nat} (h : r < rows.length) : (rows.map dRow)[r]? = some (dRow (rows.getD r [])) := by
  rw [List.getElem?_map, List.getElem?_eq_getElem h, List.getD_eq_getElem?_getD, List.getElem?_eq_getElem h]
  rfl
theorem getD_num {h : List Int} {k : Nat} (hk : k < h.length) : (h.map PyData.int)[k]? = some (.int (h.getD k 0)) := by
  rw [List.getElem?_map, List.getElem?_eq_getElem hk, List.getD_eq_getElem?_getD, List.getElem?_eq_getElem hk]
  rfl
/-! ### statements by what holds ahead and behind -/
def tTr (N N' : L2.St → Hp → Prop) : TS := fun E σ H => N σ H ∧ ∀ σ' H', N' σ' H' → E.nx σ' H'
theorem ps_sub {X : Cx} {s : Stmt} {t t' : TS} (h : PS X s t) (i : ∀ E σ H, t' E σ H → t E σ H) : PS X s t' := fun pins s' σ H D I q => h pins s' σ H D I (i D σ H q)
theorem tr_set {X : Cx} {s : Stmt} {i : Nat} {te : TE} {N N' : L2.St → Hp → Prop} (h : PS X s (tAsg te (gName i))) (hN : ∀ σ H (Q : VK), N σ H → (∀ v H', N' (σ.set i (some v)) H' → Q v H') → te σ H Q) : PS X s (tTr N N') :=
  ps_sub h fun E σ H ⟨n, q⟩ => hN σ H _ n fun v H' z => q _ _ z
def VP (B : Ab) (σ : L2.St) (H : Hp) (i : Nat) (φ : PyData → Prop) : Prop := ∃ v, σ[i]? = some (some v) ∧ tD φ B v H
section
variable {B : Ab} {σ : L2.St} {H H' : Hp} {i k : Nat} {φ φ' : PyData → Prop} {d : PyData} {v : V} {x : Option V}
theorem get_ne (h : σ[i]? = some x) (n : k ≠ i) {y : Option V} : (σ.set k y)[i]? = some x := by rw [List.getElem?_set_ne n]; exact h
theorem get_eq (h : i < σ.length) {y : Option V} : (σ.set i y)[i]? = some y := by rw [List.getElem?_set, if_pos rfl, if_pos h]
theorem VP.but (h : VP B σ H i φ) (b : ButS B.S H H') : VP B σ H' i φ := let ⟨v, e, r⟩ := h; ⟨v, e, st_d _ _ _ _ r b⟩
theorem VP.ne (h : VP B σ H i φ) (n : k ≠ i) : VP B (σ.set k x) H i φ := let ⟨v, e, r⟩ := h; ⟨v, get_ne e n, r⟩
theorem VP.imp (h : VP B σ H i φ) (f : ∀ d, φ d → φ' d) : VP B σ H i φ' := let ⟨v, e, d, r, z⟩ := h; ⟨v, e, d, r, f d z⟩
theorem VP.vr (h : VP B σ H i (· = d)) : Vr B σ H i d := by
  obtain ⟨v, e, d', r, z⟩ := h
  subst z
  exact ⟨v, e, r⟩
theorem Vr.vp (h : Vr B σ H i d) (z : φ d) : VP B σ H i φ := let ⟨v, e, r⟩ := h; ⟨v, e, d, r, z⟩
theorem Vr.ne (h : Vr B σ H i d) (n : k ≠ i) : Vr B (σ.set k x) H i d := let ⟨v, e, r⟩ := h; ⟨v, get_ne e n, r⟩
theorem Vr.int {n : Int} (h : Vr B σ H i (.int n)) : σ[i]? = some (some (.int n)) := by
  obtain ⟨v, e, r⟩ := h
  cases r
  exact e
theorem vr_int {n : Int} (h : σ[i]? = some (some (.int n))) : Vr B σ H i (.int n) := ⟨_, h, .int n⟩
end
/-- what holds in _law_no_table all along -/
structure NtC (st D t : Addr) (prs : Prs) (H0 : Hp) (L : Nat) (σ : L2.St) (H : Hp) : Prop where
  len : σ.length = L
  s0 : σ[0]? = some (some (.ref st))
  s1 : σ[1]? = some (some (.ref t))
  b : But st H0 H
  S : StK H st
  T : Tab H t prs
  nt : t ≠ st
  np : ∀ p ∈ prs, p.1 ≠ st
section
variable {st D t : Addr} {prs : Prs} {H0 H H' : Hp} {L : Nat} {σ : L2.St} {i : Nat} {v : V}
theorem NtC.set (h : NtC st D t prs H0 L σ H) (hi : 2 ≤ i) : NtC st D t prs H0 L (σ.set i (some v)) H := ⟨by rw [List.length_set]; exact h.len, get_ne h.s0 (by omega), get_ne h.s1 (by omega), h.b, h.S, h.T, h.nt, h.np⟩
theorem NtC.but (h : NtC st D t prs H0 L σ H) (b : But st H H') (S : StK H' st) : NtC st D t prs H0 L σ H' := ⟨h.len, h.s0, h.s1, h.b.trans b, S, h.T.but h.nt h.np b, h.nt, h.np⟩
theorem NtC.same (h : NtC st D t prs H0 L σ H) (s : Same H H') : NtC st D t prs H0 L σ H' := h.but (Same.but s) (h.S.same s)
theorem tabRdS {S : List Addr} (hT : Tab H t prs) (h1 : t ∉ S) (h2 : ∀ p ∈ prs, p.1 ∉ S) : RdS S H (.ref t) (dTab (prs.map (·.2))) := by
  refine .lst hT.l h1 ?_
  have : ∀ ps : Prs, (∀ p ∈ ps, Row H p.1 p.2 ∧ p.1 ∉ S) → RdSs S H (ps.map fun p => V.ref p.1) ((ps.map (·.2)).map dRow) := fun ps => by
    induction ps with
    | nil => exact fun _ => .nil
    | cons p ps ih =>
      intro h
      have hp := h p (by simp)
      refine .cons (.lst hp.1 hp.2 ?_) (ih fun q hq => h q (by simp [hq]))
      have hi : ∀ ns : List Int, RdSs S H (ns.map V.int) (ns.map PyData.int) := fun ns => by
        induction ns with
        | nil => exact .nil
        | cons n ns ih => exact .cons (.int n) ih
      exact hi p.2
  exact this prs fun p hp => ⟨hT.r p hp, h2 p hp⟩
theorem NtC.v1 (h : NtC st D t prs H0 L σ H) : Vr (abS st D) σ H 1 (dTab (prs.map (·.2))) :=
  ⟨_, h.s1, tabRdS h.T (by simpa [abS] using h.nt) fun p hp => by simpa [abS] using h.np p hp⟩
theorem NtC.rows (h : NtC st D t prs H0 L σ H) : RdSs (abS st D).S H (prs.map fun p => V.ref p.1) ((prs.map (·.2)).map dRow) := by
  have z := tabRdS (S := (abS st D).S) h.T (by simpa [abS] using h.nt) fun p hp => by simpa [abS] using h.np p hp
  cases z with
  | @lst _ xs _ ea na ra =>
    have := h.T.l.symm.trans ea
    injection this with this
    injection this with this
    rw [this]
    exact ra
end
theorem rows_at (prs : Prs) (i : Nat) : (prs.map (·.2)).getD i [] = rowAt prs i := by
  unfold rowAt
  rw [List.getD_eq_getElem?_getD, List.getElem?_map]
abbrev rws (prs : Prs) : List (List Int) := prs.map (·.2)
abbrev rwD (prs : Prs) (r : Nat) : List Int := (rws prs).getD r []
theorem bnd_at {prs : Prs} (hg : tabB prs = true) (hb : Bnd prs) {i : Nat} (hi : i < prs.length) : ∀ n ∈ rwD prs i, n.natAbs < 10 ^ 38 := by
  obtain ⟨pr, hp1, hp2, hp3⟩ := rowAt_mem hi
  rw [rwD, rows_at, hp3]
  exact hb pr hp1
theorem bnd_get {prs : Prs} (hg : tabB prs = true) (hb : Bnd prs) {i j : Nat} (hi : i < prs.length) (hj : j < w0 prs) : ((rwD prs i).getD j 0).natAbs < 10 ^ 38 := by
  refine bnd_at hg hb hi _ ?_
  have := (goodR_of hg).len i (by rw [List.length_map]; exact hi)
  have hl : j < (rwD prs i).length := by unfold rwD rws; omega
  rw [List.getD_eq_getElem?_getD, List.getElem?_eq_getElem hl]
  exact List.getElem_mem _
theorem bl_odd {prs : Prs} (hg : tabB prs = true) (hb : Bnd prs) {r p : Nat} (hr : r < prs.length) {o : PyData} (ho : isIntD o = false) (hz : Sz 41 1 o) : BL (rws prs) r (setD (rwD prs r) p o) := by
  have g := goodR_of hg
  have hl := g.len r (by rw [List.length_map]; exact hr)
  have hw := g.w
  refine ⟨bad_row (setD_odd ho), (sz_setD (by unfold rwD rws; omega) (fun n hn => Nat.lt_of_lt_of_le (bnd_at hg hb hr n hn) (by decide)) hz).mono (by decide) (by decide)⟩
theorem sz_setI {prs : Prs} (hg : tabB prs = true) (hb : Bnd prs) {r p : Nat} (hr : r < prs.length) {v : Int} (hv : v.natAbs < 10 ^ 40) : Sz 1000 4 (setD (rwD prs r) p (.int v)) := by
  have g := goodR_of hg
  have hl := g.len r (by rw [List.length_map]; exact hr)
  have hw := g.w
  exact (sz_setD (by unfold rwD rws; omega) (fun n hn => Nat.lt_of_lt_of_le (bnd_at hg hb hr n hn) (by decide)) ((sz_int hv).mono (by decide) (by decide))).mono (by decide) (by decide)
theorem rds_upd {S : List Addr} {H : Hp} {a : Addr} {o : HO} {x : V} {d : PyData} (r : RdS (a :: S) H x d) : RdS (a :: S) (upd H a o) x d := r.move (fun b o' n e => by rw [upd_ne (fun z => n (by rw [z]; exact .head _))]; exact e) fun _ n => n
theorem rdss_upd {S : List Addr} {H : Hp} {a : Addr} {o : HO} {x : List V} {d : List PyData} (r : RdSs (a :: S) H x d) : RdSs (a :: S) (upd H a o) x d := r.move (fun b o' n e => by rw [upd_ne (fun z => n (by rw [z]; exact .head _))]; exact e) fun _ n => n
theorem rds_less {S : List Addr} {H : Hp} {a : Addr} {x : V} {d : PyData} (r : RdS (a :: S) H x d) : RdS S H x d := r.move (fun _ _ _ e => e) fun b n z => n (.tail _ z)
theorem rdss_less {S : List Addr} {H : Hp} {a : Addr} {x : List V} {d : List PyData} (r : RdSs (a :: S) H x d) : RdSs S H x d := r.move (fun _ _ _ e => e) fun b n z => n (.tail _ z)
theorem rdss_set {S : List Addr} {H : Hp} {x : V} {d : PyData} (h : RdS S H x d) : ∀ {xs : List V} {ds : List PyData} (k : Nat), RdSs S H xs ds → RdSs S H (xs.set k x) (ds.set k d)
  | _, _, _, .nil => .nil
  | _, _, 0, .cons r t => .cons h t
  | _, _, k + 1, .cons r t => .cons r (rdss_set h k t)
/-- a name's thing, without the addresses S -/
theorem bl_plain {rows : List (List Int)} {r : Nat} {d : PyData} (h : rowD d = false) (hz : Sz 1000 4 d) : BL rows r d := ⟨bad_row h, hz⟩
theorem lp_of {φ : PyData → Prop} {ds : List PyData} {lo hi : Nat} (h1 : lo ≤ ds.length) (h2 : ds.length ≤ hi) (h : ∀ d ∈ ds, φ d) : LP φ lo hi (.list ds) := ⟨ds, rfl, h1, h2, h⟩
theorem ii_int {a b : Int} : decide (V.int a = V.int b) = decide (a = b) := decide_eq_decide.mpr ⟨fun h => by injection h, fun h => by rw [h]⟩
theorem bl_len {prs : Prs} {r : Nat} (hg : tabB prs = true) (hb : Bnd prs) (hr : r < prs.length) (h2 : 2 ≤ prs.length) {x : List Int} (hx : x.length ≠ w0 prs) (hl : x.length ≤ 8) (hn : ∀ n ∈ x, n.natAbs < 10 ^ 40) : BL (rws prs) r (dRow x) :=
  ⟨bad_len (goodR_of hg) (by rw [List.length_map]; exact hr) (by rw [List.length_map]; exact h2) hx, (sz_dRow hl hn).mono (by decide) (by decide)⟩
theorem eqv_pair (a b c d : Int) : PyData.eqv (.tuple [.int a, .int b]) (.tuple [.int c, .int d]) = decide (a = c ∧ b = d) := by
  by_cases h1 : a = c <;> by_cases h2 : b = d <;> simp [PyData.eqv, PyData.eqvAll, h1, h2]
theorem rd_pair {K : PySem.W.Frag} {H : Hp} {x : Addr} {a b : Int} (e : H x = some (.tup [.int a, .int b])) : RdD K H (.ref x) (.tuple [.int a, .int b]) := .tup (SqT.of e) (.cons (.int a) (.cons (.int b) .nil))
/-- what is known, and the list some -/
abbrev EnvL (st D : Addr) (l : List (Nat × PyData)) (i : Nat) (φ : PyData → Prop) : EnB := fun B σ H => EnvD st D l B σ H ∧ VP B σ H i φ
theorem st_envL {st D : Addr} {l : List (Nat × PyData)} {i : Nat} {φ : PyData → Prop} : StbE (EnvL st D l i φ) := fun _ _ _ _ ⟨h1, h2⟩ b => ⟨st_env _ _ _ _ h1 b, h2.but b⟩
theorem ad_envL {X : Cx} {st D : Addr} {l : List (Nat × PyData)} {i k : Nat} {φ : PyData → Prop} {e : Expr} {d : PyData} (h : PE X e (tVar k)) (hm : (k, d) ∈ l) : AE X (EnvL st D l i φ) e (tE d) := ad_vr h fun B σ H q => q.1.2.2 _ hm
theorem ad_some {X : Cx} {st D : Addr} {l : List (Nat × PyData)} {i : Nat} {φ : PyData → Prop} {e : Expr} (h : PE X e (tVar i)) : AE X (EnvL st D l i φ) e (tD φ) := ad_var h fun B σ H q => q.2
theorem lp_mono {φ : PyData → Prop} {lo hi lo' hi' : Nat} {d : PyData} (h : LP φ lo hi d) (h1 : lo' ≤ lo) (h2 : hi ≤ hi') : LP φ lo' hi' d := let ⟨ds, e, a, b, c⟩ := h; ⟨ds, e, by omega, by omega, c⟩
/-- no table, of a size -/
def BT (d : PyData) : Prop := ¬ GoodD d ∧ Sz 100000 8 d
theorem rdss_intsS {S : List Addr} {H : Hp} : ∀ ns : List Int, RdSs S H (ns.map V.int) (ns.map PyData.int)
  | [] => .nil
  | n :: ns => .cons (.int n) (rdss_intsS ns)
theorem rds_rowS {S : List Addr} {H : Hp} {a : Addr} {ns : List Int} (h : Row H a ns) (n : a ∉ S) : RdS S H (.ref a) (dRow ns) := .lst h n (rdss_intsS ns)
/-- rows at addresses, as data -/
theorem rdss_rowsS {S : List Addr} {H : Hp} : ∀ {as : List Addr} {rows : List (List Int)}, as.length = rows.length → (∀ (i : Nat) a x, as[i]? = some a → rows[i]? = some x → Row H a x ∧ a ∉ S) → RdSs S H (as.map V.ref) (rows.map dRow)
  | [], [], _, _ => .nil
  | a :: as, x :: xs, hl, h => .cons (rds_rowS (h 0 a x rfl rfl).1 (h 0 a x rfl rfl).2) (rdss_rowsS (by simpa using hl) fun i b y e1 e2 => h (i + 1) b y e1 e2)
  | [], _ :: _, hl, _ => by simp at hl
  | _ :: _, [], hl, _ => by simp at hl
theorem sz_rows {rows : List (List Int)} (hn : rows.length ≤ 6) (hr : ∀ x ∈ rows, x.length ≤ 8 ∧ ∀ n ∈ x, n.natAbs < 10 ^ 40) : Sz 100000 8 (dTab rows) := by
  refine (sz_list (c := 400) (k := 1) (n := 6) (fun d hd => ?_) (by rw [List.length_map]; exact hn)).mono (by decide) (by decide)
  obtain ⟨x, hx, rfl⟩ := List.mem_map.mp hd
  exact sz_dRow (hr x hx).1 (hr x hx).2
/-- the rows with one shorter and one longer -/
theorem rdss_at' {S : List Addr} {H : Hp} : ∀ {xs : List V} {ds : List PyData}, RdSs S H xs ds → ∀ {x : V}, x ∈ xs → ∃ d, d ∈ ds ∧ RdS S H x d
  | _, _, .cons r t, x, h => by
    rcases List.mem_cons.mp h with z | z
    · subst z
      exact ⟨_, .head _, r⟩
    · obtain ⟨d, hd, rd⟩ := rdss_at' t z
      exact ⟨d, .tail _ hd, rd⟩
  | _, _, .nil, x, h => nomatch h
theorem cutV_to {xs : List V} {k : Nat} (h : k ≤ xs.length) : cutV xs none (some (k : Int)) = xs.take k := by
  unfold cutV
  rw [HT.sIx_none, HT.sIx_nat, List.drop_zero, Nat.sub_zero, Nat.min_eq_left h]
theorem cutV_fr {xs : List V} {k : Nat} : cutV xs (some (k : Int)) none = xs.drop k := by
  unfold cutV
  rw [HT.sIx_none, HT.sIx_nat]
  by_cases h : k ≤ xs.length
  · rw [Nat.min_eq_left h, List.take_of_length_le (by rw [List.length_drop]; omega)]
  · rw [Nat.min_eq_right (by omega), List.drop_of_length_le (Nat.le_refl _), List.drop_of_length_le (by omega)]
    simp
theorem bt_put {prs : Prs} (hg : tabB prs = true) (hb : Bnd prs) {r : Nat} (hr : r < prs.length) {d : PyData} (h : BL (rws prs) r d) : BT (putD (rws prs) r d) := by
  have gR := goodR_of hg
  have hn := gR.n
  rw [List.length_map] at hn
  refine ⟨h.1, (sz_list (c := 1000) (k := 4) (n := 6) (fun e he => ?_) ?_).mono (by decide) (by decide)⟩
  · have row : ∀ x ∈ rws prs, Sz 1000 4 (dRow x) := fun x hx => by
      obtain ⟨i, hi⟩ := List.mem_iff_getElem?.mp hx
      have hil := (List.getElem?_eq_some_iff.mp hi).1
      have hx : x = rwD prs i := by unfold rwD; rw [List.getD_eq_getElem?_getD, hi]; rfl
      have hl := gR.len i hil
      rw [List.length_map] at hil
      have hw := gR.w
      rw [hx]
      exact (sz_dRow (by unfold rwD rws; omega) fun n hn => Nat.lt_of_lt_of_le (bnd_at hg hb hil n hn) (by decide)).mono (by decide) (by decide)
    rcases List.mem_append.mp he with z | z
    · rcases List.mem_append.mp z with z | z
      · obtain ⟨x, hx, rfl⟩ := List.mem_map.mp z
        exact row x (List.mem_of_mem_take hx)
      · rw [List.mem_singleton.mp z]
        exact h.2
    · obtain ⟨x, hx, rfl⟩ := List.mem_map.mp z
      exact row x (List.mem_of_mem_drop hx)
  · simp only [List.length_append, List.length_map, List.length_take, List.length_drop, List.length_singleton]
    omega
theorem rowD_long {ds : List PyData} (h : 6 < ds.length) : rowD (.list ds) = false := by
  rw [rowD_list]
  have : decide (ds.length ≤ 6) = false := decide_eq_false (by omega)
  simp [this]
theorem bt_lit {d : PyData} (h : ∀ ds, d ≠ .list ds) (hz : (d.showable && decide (d.shown.length ≤ 1000) && decide (d.depth ≤ 4)) = true) : BT d := ⟨bad_kind h, (sz_of hz).mono (by decide) (by decide)⟩
theorem flat_rep {n : Nat} {x : V} : (List.replicate n [x]).flatten = List.replicate n x := by
  induction n with
  | zero => rfl
  | succ n ih => rw [List.replicate_succ, List.flatten_cons, ih, List.replicate_succ]; rfl
theorem cutD_last {ds : List PyData} (h : 1 ≤ ds.length) : cutD ds (some (-1)) none = ds.drop (ds.length - 1) := by
  unfold cutD
  have e : HT.sIx ds.length 0 (some (-1)) = ds.length - 1 := by
    unfold HT.sIx
    simp
    omega
  rw [e, HT.sIx_none, List.take_of_length_le (by rw [List.length_drop]; omega)]
theorem sz_row0 {prs : Prs} (hg : tabB prs = true) (hb : Bnd prs) : ∀ x ∈ rws prs, Sz 400 1 (dRow x) ∧ 1 ≤ x.length := by
  obtain ⟨g, g1, g2, g3, g4⟩ := good_of hg
  intro x hx
  obtain ⟨p, hp, rfl⟩ := List.mem_map.mp hx
  exact ⟨sz_dRow (by rw [g.len p hp]; omega) fun n hn => Nat.lt_of_lt_of_le (hb p hp n hn) (by decide), by rw [g.len p hp]; omega⟩
def tEnd (N N' : L2.St → Hp → Prop) (t : TS) : TS := fun E σ H => N σ H ∧ ∀ σ' H', N' σ' H' → t E σ' H'
theorem pss_tr {X : Cx} {S : Stmt} {ss : List Stmt} {N N1 N' : L2.St → Hp → Prop} {t : TS} (h : PS X S (tTr N N1)) (h2 : PSs X ss (tEnd N1 N' t)) : PSs X (S :: ss) (tEnd N N' t) := fun pins s σ H D I ⟨n, q⟩ => pss_cons h h2 pins s σ H D I ⟨n, fun _ _ z => ⟨z, q⟩⟩
theorem pss_end {X : Cx} {ss : List Stmt} {N : L2.St → Hp → Prop} {t : TS} (h : PSs X ss t) : PSs X ss (tEnd N N t) := fun pins s σ H D I ⟨n, q⟩ => h pins s σ H D I (q _ _ n)
theorem ad_take {X : Cx} {Γ : EnB} {e : Expr} {m : Int} (h : PE X e (tF spTakeK (tCons (tVar 0) (tCons (tC (.int m)) tNil)))) (h0 : 0 < m) (hm : m < 100000) (g : ∀ B σ H, Γ B σ H → ∃ st D, B = abS st D ∧ σ[0]? = some (some (.ref st))) : AE X Γ e (tD (IP fun n => 0 ≤ n ∧ n < m)) :=
  ⟨pe_imp h fun σ H Q ⟨B, hg, j, q⟩ => by
    obtain ⟨st, D, rfl, e0⟩ := g B σ H hg
    exact ⟨_, e0, st, m, rfl, h0, hm, j, fun v H' v0 v1 b S => q _ H' b.butS S ⟨_, .int v, v, rfl, v0, v1⟩⟩⟩
theorem ad_eqI {X : Cx} {Γ : EnB} {e : Expr} {i : Int} (h : AE X Γ e (tE (.int i))) : AE X Γ e (tD (IP (· = i))) := ad_imp h fun d e => ⟨i, e, rfl⟩
end Seek
namespace Seek
open PySem L2 PyProof.Rows
theorem ad_lenE {X : Cx} {Γ : EnB} {e : Expr} {ds : List PyData} {pos p1 : Pos} (h : AE X Γ e (tE (.list ds))) (hln : X.mg "len" = none) (hg : Gl X "len" := by rfl) (he : starEach [e] X.env = (false, eval e X.env) :: starEach [] X.env := by rfl) (hpl : (backTo pos (starEach ([] : List Expr) X.env)).any (·.1) = false := by rfl) : AE X Γ (.Call (.Name "len" p1) [e] [] pos) (tE (.int (ds.length : Nat))) :=
  ⟨pe_imp (pe_b call_len_seq hln boot_len (pa_cons h.pe pa_nil he) hg (by decide) (by decide) he hpl) fun σ H Q ⟨B, hg, j, q⟩ => ⟨B, hg, j, fun v H1 b1 j1 a1 => by
    obtain ⟨_, r, rfl⟩ := a1
    cases r with
    | @lst a xs _ ea na ra => exact ⟨a, xs, rfl, .inl (SqL.of ea), by rw [ra.length]; exact q _ _ b1 j1 ⟨_, .int _, rfl⟩⟩⟩⟩
/-- a row with another thing at a place, of which something is known -/
theorem ad_setP {X : Cx} {Γ : EnB} {eN eN' eP eP' eO e1 : Expr} {h : List Int} {p : Nat} {ψ : PyData → Prop} {q1 q2 q3 q4 q6 q7 q8 q9 : Pos} (sg : StbE Γ) (hN : AE X Γ eN (tE (dRow h))) (hP : AE X Γ eP (tE (.int (p : Nat)))) (hO : AE X Γ eO (tD ψ)) (hN' : AE X Γ eN' (tE (dRow h))) (hP' : AE X Γ eP' (tE (.int (p : Nat)))) (h1 : PE X e1 (tC (.int 1))) (hl : h.length ≤ 6) (hp : p < h.length)
    (hs : starEach [eO] X.env = (false, eval eO X.env) :: starEach [] X.env := by rfl) :
    AE X Γ (.BinOp (.BinOp (.Subscript eN (.Slice none (some eP) none q1) q2) .Add (.List [eO] q3) q4) .Add (.Subscript eN' (.Slice (some (.BinOp eP' .Add e1 q6)) none none q7) q8) q9) (tD fun d => ∃ o, ψ o ∧ d = setD h p o) := by
  refine ad_cat (φ1 := fun d => ∃ o, ψ o ∧ d = .list ((h.map PyData.int).take p ++ [o])) sg (ad_cat (φ2 := fun d => ∃ o, ψ o ∧ d = .list [o]) sg (ad_slice sg hN ax_none (ax_some hP)) (ad_lst (ax_cons sg hO ax_nil hs) (fun ds ⟨d, r, e, _, e2⟩ => by subst e e2; simp) fun ds ⟨d, r, e, hd, e2⟩ => by subst e e2; exact ⟨d, hd, rfl⟩) (fun d e => ⟨_, e, by rw [cutD_to (by rw [List.length_map]; omega), List.length_take, List.length_map]; omega⟩) (fun d ⟨o, _, e⟩ => ⟨_, e, by simp⟩) fun a b ha ⟨o, ho, hb⟩ => ?_) (ad_slice sg hN' (ax_some (ad_addE sg hP' (ad_intE h1))) ax_none) (fun d ⟨o, _, e⟩ => ⟨_, e, by rw [List.length_append, List.length_take, List.length_map, List.length_singleton]; omega⟩) (fun d e => ⟨_, e, by rw [show ((p : Nat) : Int) + 1 = ((p + 1 : Nat) : Int) by omega, cutD_from, List.length_drop, List.length_map]; omega⟩) fun a b ⟨o, ho, ha⟩ hb => ?_
  · injection ha with ha
    injection hb with hb
    rw [ha, hb, cutD_to (by rw [List.length_map]; omega)]
    exact ⟨o, ho, rfl⟩
  · injection ha with ha
    injection hb with hb
    rw [ha, hb, show ((p : Nat) : Int) + 1 = ((p + 1 : Nat) : Int) by omega, cutD_from]
    exact ⟨o, ho, rfl⟩
abbrev ktN : List Str := ["store", "table", "row", "place", "odd", "here", "bent", "lines", "at", "some", "down", "low", "spots", "k", "line", "long"]
theorem sc_noTab : FnScope ktN ["store", "table"] (defScope dNoTable) := ⟨rfl, rfl, rfl, by decide +kernel, rfl, by decide +kernel, by decide +kernel⟩
abbrev ktX (P : Program) (w : World) (K : PySem.W.Frag) (mg : Str → Option Value) (base : Heap) (f : Addr) (cdv : Value) (A : Around) (outer : List Env) (s : Shared) (H : Hp) (E : XK) : Cx := (cxOf CX0 P w K mg base ktN "_law_no_table" (defScope dNoTable) f cdv A outer s H E).nox
def ktS (k : Nat) : Stmt := (defBody dNoTable).getD k (.Pass ⟨0, 0, 0, 0⟩)
/-- with a row and its numbers -/
structure KR (st D t : Addr) (prs : Prs) (H0 : Hp) (r : Nat) (σ : L2.St) (H : Hp) : Prop where
  c : NtC st D t prs H0 16 σ H
  hr : r < prs.length
  v2 : σ[2]? = some (some (.int (r : Nat)))
  v5 : ∃ a, σ[5]? = some (some (.ref a)) ∧ prs[r]? = some (a, rowAt prs r)
section
variable {st D t : Addr} {prs : Prs} {H0 H H' : Hp} {r : Nat} {σ : L2.St} {i : Nat} {v : V}
theorem KR.set (h : KR st D t prs H0 r σ H) (hi : 6 ≤ i) : KR st D t prs H0 r (σ.set i (some v)) H :=
  ⟨h.c.set (by omega), h.hr, get_ne h.v2 (by omega), let ⟨a, e, q⟩ := h.v5; ⟨a, get_ne e (by omega), q⟩⟩
theorem KR.but (h : KR st D t prs H0 r σ H) (b : But st H H') (S : StK H' st) : KR st D t prs H0 r σ H' := ⟨h.c.but b S, h.hr, h.v2, h.v5⟩
theorem KR.same (h : KR st D t prs H0 r σ H) (s : Same H H') : KR st D t prs H0 r σ H' := h.but (Same.but s) (h.c.S.same s)
theorem KR.row (h : KR st D t prs H0 r σ H) : ∃ a, σ[5]? = some (some (.ref a)) ∧ Row H a (rowAt prs r) ∧ a ≠ st := let ⟨a, e, q⟩ := h.v5; ⟨a, e, h.c.T.r _ (List.mem_of_getElem? q), h.c.np _ (List.mem_of_getElem? q)⟩
theorem KR.d5 (h : KR st D t prs H0 r σ H) : Vr (abS st D) σ H 5 (dRow (rwD prs r)) := by
  obtain ⟨a, e, hR, n⟩ := h.row
  refine ⟨_, e, ?_⟩
  unfold rwD rws
  rw [rows_at]
  exact rds_rowS hR (by simpa [abS] using n)
theorem KR.env (h : KR st D t prs H0 r σ H) {l : List (Nat × PyData)} (hl : ∀ x ∈ l, Vr (abS st D) σ H x.1 x.2) : EnvD st D l (abS st D) σ H := ⟨rfl, h.c.s0, hl⟩
end
section
variable (st D t : Addr) (prs : Prs) (H0 : Hp)
abbrev K0 (σ : L2.St) (H : Hp) : Prop := NtC st D t prs H0 16 σ H
def K1 (σ : L2.St) (H : Hp) : Prop := K0 st D t prs H0 σ H ∧ ∃ r : Nat, r < prs.length ∧ σ[2]? = some (some (.int (r : Nat)))
def K2 (σ : L2.St) (H : Hp) : Prop := K0 st D t prs H0 σ H ∧ ∃ r p : Nat, r < prs.length ∧ p < w0 prs ∧ σ[2]? = some (some (.int (r : Nat))) ∧ σ[3]? = some (some (.int (p : Nat)))
def K3 (σ : L2.St) (H : Hp) : Prop := K0 st D t prs H0 σ H ∧ ∃ (r p : Nat) (o : PyData), r < prs.length ∧ p < w0 prs ∧ σ[2]? = some (some (.int (r : Nat))) ∧ σ[3]? = some (some (.int (p : Nat))) ∧ isIntD o = false ∧ Sz 41 1 o ∧ Vr (abS st D) σ H 4 o
def K4 (σ : L2.St) (H : Hp) : Prop := ∃ (r p : Nat) (o : PyData), KR st D t prs H0 r σ H ∧ p < w0 prs ∧ σ[3]? = some (some (.int (p : Nat))) ∧ isIntD o = false ∧ Sz 41 1 o ∧ Vr (abS st D) σ H 4 o
def K5 (σ : L2.St) (H : Hp) : Prop := ∃ r b, KR st D t prs H0 r σ H ∧ BL (rws prs) r b ∧ Vr (abS st D) σ H 6 b
def K6 (hi : Nat) (σ : L2.St) (H : Hp) : Prop := ∃ r, KR st D t prs H0 r σ H ∧ VP (abS st D) σ H 7 (LP (BL (rws prs) r) 8 hi)
end
section
variable {P : Program} {w : World} {K : PySem.W.Frag} {mg : Str → Option Value} {base : Heap} {f : Addr} {cdv : Value} {A : Around} {outer : List Env} {s : Shared} {Hs H0 : Hp} {E : XK} {st D t : Addr} {prs : Prs}
theorem kr0 (T : Blt mg) (G : FnAt P w K mg base 1 "_law_take" ["store", "many"] spTakeK) (hr : Room 1 (ktX P w K mg base f cdv A outer s Hs E).A) (hg : tabB prs = true) : PS (ktX P w K mg base f cdv A outer s Hs E) (ktS 0) (tTr (K0 st D t prs H0) (K1 st D t prs H0)) := by
  have nd := sc_noTab.nd
  have Z : PS (ktX P w K mg base f cdv A outer s Hs E) (ktS 0) _ := ps_set (i := 2) nd rfl (Or.inl rfl) (pe_f G hr (pa_cons (pv 0) (pa_cons (pe_b call_len_seq T.len boot_len (pa_cons (pv 1) pa_nil)) pa_nil)))
  generalize ktS 0 = S0 at Z ⊢
  refine tr_set (i := 2) Z fun σ H Q h q => ?_
  obtain ⟨g, g1, g2, g3, g4⟩ := good_of hg
  refine ⟨_, h.s0, _, h.s1, t, _, rfl, .inl h.T.sq, st, _, rfl, by rw [List.length_map]; omega, by rw [List.length_map]; omega, h.S, fun d H' d0 d1 b S => q _ _ ⟨(h.but b S).set (by decide), d.toNat, ?_, ?_⟩⟩
  · rw [List.length_map] at d1
    omega
  · rw [get_eq (by rw [h.len]; decide), show ((d.toNat : Nat) : Int) = d by omega]
theorem kr1 (T : Blt mg) (G : FnAt P w K mg base 1 "_law_take" ["store", "many"] spTakeK) (hr : Room 1 (ktX P w K mg base f cdv A outer s Hs E).A) (hg : tabB prs = true) : PS (ktX P w K mg base f cdv A outer s Hs E) (ktS 1) (tTr (K1 st D t prs H0) (K2 st D t prs H0)) := by
  have nd := sc_noTab.nd
  have Z : PS (ktX P w K mg base f cdv A outer s Hs E) (ktS 1) _ := ps_set (i := 3) nd rfl (Or.inl rfl) (pe_f G hr (pa_cons (pv 0) (pa_cons (pe_b call_len_seq T.len boot_len (pa_cons (pe_ix ix_list (pv 1) pe_int (fun _ _ => rfl)) pa_nil)) pa_nil)))
  generalize ktS 1 = S0 at Z ⊢
  refine tr_set (i := 3) Z fun σ H Q hh q => ?_
  obtain ⟨h, r, hr, e2⟩ := hh
  obtain ⟨g, g1, g2, g3, g4⟩ := good_of hg
  obtain ⟨p0, hp0, hm0, hx0⟩ := head_at (prs := prs) g1
  refine ⟨_, h.s0, _, h.s1, t, _, 0, .ref p0.1, rfl, rfl, h.T.sq, atI_nat (j := 0) (by rw [List.getElem?_map, hx0]; rfl), p0.1, _, rfl, .inl (h.T.r p0 hm0).sq, st, _, rfl, by rw [List.length_map, g.len p0 hm0]; omega, by rw [List.length_map, g.len p0 hm0]; omega, h.S, fun d H' d0 d1 b S => q _ _ ⟨(h.but b S).set (by decide), r, d.toNat, hr, ?_, get_ne e2 (by decide), ?_⟩⟩
  · rw [List.length_map, g.len p0 hm0] at d1
    omega
  · rw [get_eq (by rw [h.len]; decide), show ((d.toNat : Nat) : Int) = d by omega]
theorem kr2 (G : FnAt P w K mg base 1 "_law_take" ["store", "many"] spTakeK) (hr : Room 1 (ktX P w K mg base f cdv A outer s Hs E).A) : PS (ktX P w K mg base f cdv A outer s Hs E) (ktS 2) (tTr (K2 st D t prs H0) (K3 st D t prs H0)) := by
  have nd := sc_noTab.nd
  have hi : ∀ (q1 q2 q3 q5 : Pos) (j), PE (ktX P w K mg base f cdv A outer s Hs E) (.Call (.Name "_law_take" q1) [.Name "store" q2, .Constant (.int 8) j q3] [] q5) (tF spTakeK (tCons (tVar 0) (tCons (tC (.int 8)) tNil))) := fun q1 q2 q3 q5 j => pe_f G hr (pa_cons (pv 0) (pa_cons pe_int pa_nil))
  have L := fun (es : List Expr) (p1 p2 p3 : Pos) (p4 : Pos) (q1 q2 q3 q5 : Pos) (j) => ps_set (X := ktX P w K mg base f cdv A outer s Hs E) (pos := p3) (pos' := p4) (i := 4) nd rfl (Or.inl rfl) (pe_litix (es := es) (p1 := p1) (p2 := p2) (Γ := fun B' σ H => B' = abS st D ∧ σ[0]? = some (some (.ref st))) (n := 8) (fun _ _ _ _ h _ => h) (hi q1 q2 q3 q5 j) (fun _ _ => rfl) (fun B' σ H Q hg j q => by
        obtain ⟨e1, e2⟩ := hg
        subst e1
        exact ⟨_, e2, st, 8, rfl, by decide, by decide, j, fun v H' v0 v1 b S => q v H' v0 v1 b.butS S⟩))
  have X0 : PS (ktX P w K mg base f cdv A outer s Hs E) (ktS 2) _ := L _ _ _ _ _ _ _ _ _ _
  obtain ⟨S3, e3⟩ : ∃ S, S = ktS 2 := ⟨_, rfl⟩
  rw [← e3] at X0 ⊢
  clear e3 L hi
  refine tr_set (i := 4) X0 fun σ H Q hh q => ?_
  obtain ⟨h, r, p, hr, hp, e2, e3⟩ := hh
  refine ⟨abS st D, oddD, ⟨rfl, h.s0⟩, h.S, by kernel_rfl, by decide, fun v e H' he re b S => q _ _ ⟨(h.but b.but S).set (by decide), r, p, e, hr, hp, get_ne e2 (by decide), get_ne e3 (by decide), ?_, ?_, ⟨_, get_eq (by rw [h.len]; decide), re⟩⟩⟩
  all_goals
    have hz : oddD.all (fun z => (z.showable && decide (z.shown.length ≤ 41) && decide (z.depth ≤ 1)) && !isIntD z) = true := by decide +kernel
    have z := List.all_eq_true.mp hz e he
    rw [Bool.and_eq_true] at z
  · simpa using z.2
  · exact sz_of z.1
theorem kr3 : PS (ktX P w K mg base f cdv A outer s Hs E) (ktS 3) (tTr (K3 st D t prs H0) (K4 st D t prs H0)) := by
  have nd := sc_noTab.nd
  have Z : PS (ktX P w K mg base f cdv A outer s Hs E) (ktS 3) _ := ps_set (i := 5) nd rfl (Or.inl rfl) (pe_ix ix_list (pv 1) (pv 2) (fun _ _ => rfl))
  generalize ktS 3 = S0 at Z ⊢
  refine tr_set (i := 5) Z fun σ H Q hh q => ?_
  obtain ⟨h, r, p, o, hr, hp, e2, e3, ho, hz, v4⟩ := hh
  obtain ⟨pr, hp1, hp2, hp3⟩ := rowAt_mem hr
  refine ⟨_, h.s1, _, e2, t, _, _, .ref pr.1, rfl, rfl, h.T.sq, atI_nat (by rw [List.getElem?_map, hp2]; rfl), q _ _ ⟨r, p, o, ⟨h.set (by decide), hr, get_ne e2 (by decide), pr.1, get_eq (by rw [h.len]; decide), ?_⟩, hp, get_ne e3 (by decide), ho, hz, v4.ne (by decide)⟩⟩
  rw [hp2, hp3]
theorem rw_len (hg : tabB prs = true) {r : Nat} (hr : r < prs.length) : (rwD prs r).length = w0 prs := (goodR_of hg).len r (by rw [List.length_map]; exact hr)
theorem kr4 (hg : tabB prs = true) (hb : Bnd prs) : PS (ktX P w K mg base f cdv A outer s Hs E) (ktS 4) (tTr (K4 st D t prs H0) (K5 st D t prs H0)) := by
  have nd := sc_noTab.nd
  have hw := (goodR_of hg).w
  have Z : PS (ktX P w K mg base f cdv A outer s Hs E) (ktS 4) (fun E σ H => ∃ (r p : Nat) (o : PyData), (r < prs.length ∧ p < w0 prs) ∧ tAsg (tA (EnvD st D [(3, .int (p : Nat)), (4, o), (5, dRow (rwD prs r))]) (tE (setD (rwD prs r) p o))) (gName 6) E σ H) := ps_w3 fun r p o hc => by
    have hl := rw_len hg hc.1
    exact ps_set (i := 6) nd rfl (Or.inl rfl) (ad_setE st_env (ad_env (pv 5) (.tail _ (.tail _ (.head _)))) (ad_env (pv 3) (.head _)) (ad_env (pv 4) (.tail _ (.head _))) (ad_env (pv 5) (.tail _ (.tail _ (.head _)))) (ad_env (pv 3) (.head _)) pe_int (by omega) (by omega)).pe
  generalize ktS 4 = S0 at Z ⊢
  refine ps_sub Z fun Ee σ H ⟨⟨r, p, o, h, hp, e3, ho, hz, v4⟩, q⟩ => ⟨r, p, o, ⟨h.hr, hp⟩, abS st D, h.env ?_, h.c.S, fun v H' b S ⟨d, rd, e⟩ => q _ _ ⟨r, d, (h.but b.but S).set (by decide), by rw [e]; exact bl_odd hg hb h.hr ho hz, ⟨_, get_eq (by rw [h.c.len]; decide), rd⟩⟩⟩
  intro x hx
  simp only [List.mem_cons, List.not_mem_nil, or_false] at hx
  rcases hx with rfl | rfl | rfl
  · exact vr_int e3
  · exact v4
  · exact h.d5
/-- the row's end again -/
theorem ad_tail {X : Cx} {Γ : EnB} {e : Expr} {h : List Int} {j1} {p2 p3 p4 p5 : Pos} (sg : StbE Γ) (hN : AE X Γ e (tE (dRow h))) (h1 : 1 ≤ h.length) : AE X Γ (.Subscript e (.Slice (some (.UnaryOp .USub (.Constant (.int 1) j1 p2) p3)) none none p4) p5) (tE (dRow (h.drop (h.length - 1)))) :=
  ad_cast (ad_slice sg hN (ax_some (ad_negE (ad_intE pe_int))) ax_none) (by
    show PyData.list (cutD _ (some (-1)) none) = _
    rw [cutD_last (by rw [List.length_map]; exact h1), List.length_map]
    unfold dRow
    rw [List.map_drop])
set_option maxHeartbeats 16000000 in
theorem kr5 (T : Blt mg) (htu : mg "tuple" = none) (hg : tabB prs = true) (hb : Bnd prs) : PS (ktX P w K mg base f cdv A outer s Hs E) (ktS 5) (tTr (K5 st D t prs H0) (K6 st D t prs H0 8)) := by
  have nd := sc_noTab.nd
  have hw := (goodR_of hg).w
  have Z : PS (ktX P w K mg base f cdv A outer s Hs E) (ktS 5) (fun E σ H => ∃ (r : Nat) (b : PyData), (r < prs.length ∧ BL (rws prs) r b) ∧ tAsg (tA (EnvD st D [(5, dRow (rwD prs r)), (6, b)]) (tD (LP (BL (rws prs) r) 8 8))) (gName 7) E σ H) := ps_w2 fun r b hc => by
    have hl := rw_len hg hc.1
    have hB : ∀ {p : Pos}, AE (ktX P w K mg base f cdv A outer s Hs E) (EnvD st D [(5, dRow (rwD prs r)), (6, b)]) (.Name "bent" p) (tD (BL (rws prs) r)) := fun {p} => ad_imp (ad_env (pv 6) (.tail _ (.head _))) fun z e => by rw [e]; exact hc.2
    have hH : ∀ {p : Pos}, AE (ktX P w K mg base f cdv A outer s Hs E) (EnvD st D [(5, dRow (rwD prs r)), (6, b)]) (.Name "here" p) (tE (dRow (rwD prs r))) := fun {p} => ad_env (pv 5) (.head _)
    have bn : ∀ n ∈ rwD prs r, n.natAbs < 10 ^ 40 := fun n hn => Nat.lt_of_lt_of_le (bnd_at hg hb hc.1 n hn) (by decide)
    have hT : ∀ {p1 p2 : Pos}, AE (ktX P w K mg base f cdv A outer s Hs E) (EnvD st D [(5, dRow (rwD prs r)), (6, b)]) (.Call (.Name "tuple" p1) [.Name "here" p2] [] p1) (tE (.tuple ((rwD prs r).map PyData.int))) → True := fun _ => trivial
    clear hT
    have hL : ∀ {p1 p2 p3 p4 p5 p6 p7 p8 p9 p10 p11 p12 : Pos} {j1 j2}, AE (ktX P w K mg base f cdv A outer s Hs E) (EnvD st D [(5, dRow (rwD prs r)), (6, b)]) (.BinOp (.Name "here" p1) .Add (.BinOp (.Subscript (.Name "here" p2) (.Slice (some (.UnaryOp .USub (.Constant (.int 1) j1 p3) p4)) none none p5) p6) .Mult (.BinOp (.Constant (.int 7) j2 p7) .Sub (.Call (.Name "len" p8) [.Name "here" p9] [] p10) p11) p12) p12) (tD (BL (rws prs) r)) → True := fun _ => trivial
    clear hL
    have hL : ∀ {p1 p2 p3 p4 p5 p6 p7 p8 p9 p10 p11 p12 p13 : Pos} {j1 j2}, AE (ktX P w K mg base f cdv A outer s Hs E) (EnvD st D [(5, dRow (rwD prs r)), (6, b)]) (.BinOp (.Name "here" p1) .Add (.BinOp (.Subscript (.Name "here" p2) (.Slice (some (.UnaryOp .USub (.Constant (.int 1) j1 p3) p4)) none none p5) p6) .Mult (.BinOp (.Constant (.int 7) j2 p7) .Sub (.Call (.Name "len" p8) [.Name "here" p9] [] p10) p11) p12) p13) (tD (BL (rws prs) r)) := fun {p1 p2 p3 p4 p5 p6 p7 p8 p9 p10 p11 p12 p13 j1 j2} => by
      refine ad_cat st_env hH (ad_repE (φ := IP fun n => n.natAbs < 10 ^ 40) (i := 7 - (((rwD prs r).map PyData.int).length : Nat)) st_env (ad_imp (ad_tail st_env hH (by omega)) fun z e => ?_) (ad_subE st_env (ad_intE pe_int) (ad_lenE hH T.len)) (by rw [List.length_map]; omega) (by omega)) (fun d e => ⟨_, e, by rw [List.length_map]; omega⟩) (fun d ⟨ds, e, l1, l2, _⟩ => ⟨ds, e, by rw [List.length_map] at l2; omega⟩) fun a c ha ⟨ds, e, l1, l2, hz⟩ => ?_
      · rw [e]
        refine lp_of (by rw [List.length_map, List.length_drop]; omega) (by rw [List.length_map, List.length_drop]; omega) fun d hd => ?_
        obtain ⟨n, hn, rfl⟩ := List.mem_map.mp hd
        exact ⟨n, rfl, bn n (List.mem_of_mem_drop hn)⟩
      · injection ha with ha
        injection e with e
        subst ha e
        rw [List.length_map] at l1 l2
        refine bl_plain (rowD_long ?_) ((sz_list (c := 41) (k := 0) (n := 8) (fun d hd => ?_) ?_).mono (by decide) (by decide))
        · rw [List.length_append, List.length_map]; omega
        · rcases List.mem_append.mp hd with z | z
          · obtain ⟨n, hn, rfl⟩ := List.mem_map.mp z
            exact sz_int (bn n hn)
          · obtain ⟨n, rfl, hn⟩ := hz d z
            exact sz_int hn
        · rw [List.length_append, List.length_map]; omega
    exact ps_set (i := 7) nd rfl (Or.inl rfl) (ad_disp (au_cons st_env hB (au_cons st_env hB (au_cons st_env hB (au_cons st_env (ad_imp (ad_tupleOf hH htu) fun z e => by
        rw [e]
        refine bl_plain rfl ((sz_tuple (c := 41) (k := 0) (n := 8) (fun e he => ?_) (by rw [List.length_map]; omega)).mono (by decide) (by decide))
        obtain ⟨n, hn, rfl⟩ := List.mem_map.mp he
        exact sz_int (bn n hn)) (au_cons st_env (ad_lit .none st_env (by kernel_rfl) (bl_plain rfl (sz_of (by decide +kernel)))) (au_cons st_env (ad_lit (.list []) st_env (by kernel_rfl) (bl_plain rfl (sz_of (by decide +kernel)))) (au_cons st_env hL (au_cons st_env (ad_lit (.int 5) st_env (by kernel_rfl) (bl_plain rfl (sz_of (by decide +kernel)))) au_nil))))))))).pe
  generalize ktS 5 = S0 at Z ⊢
  refine ps_sub Z fun Ee σ H ⟨⟨r, b, h, hbb, v6⟩, q⟩ => ⟨r, b, ⟨h.hr, hbb⟩, abS st D, h.env ?_, h.c.S, fun v H' bb S a => q _ _ ⟨r, (h.but bb.but S).set (by decide), _, get_eq (by rw [h.c.len]; decide), a⟩⟩
  intro x hx
  simp only [List.mem_cons, List.not_mem_nil, or_false] at hx
  rcases hx with rfl | rfl
  · exact h.d5
  · exact v6
end
end Seek
namespace Seek
open PySem L2 PyProof.Rows
theorem cutD_but {ds : List PyData} (h : 1 ≤ ds.length) : cutD ds none (some (-1)) = ds.dropLast := by
  unfold cutD
  have e : HT.sIx ds.length ds.length (some (-1)) = ds.length - 1 := by
    unfold HT.sIx
    simp
    omega
  rw [e, HT.sIx_none, List.drop_zero, Nat.sub_zero, List.dropLast_eq_take]
section
variable (st D t : Addr) (prs : Prs) (H0 : Hp)
def K9 (lo hi : Nat) (σ : L2.St) (H : Hp) : Prop := ∃ r, KR st D t prs H0 r σ H ∧ VP (abS st D) σ H 9 (LP BT lo hi)
end
section
variable {P : Program} {w : World} {K : PySem.W.Frag} {mg : Str → Option Value} {base : Heap} {f : Addr} {cdv : Value} {A : Around} {outer : List Env} {s : Shared} {Hs H0 : Hp} {E : XK} {st D t : Addr} {prs : Prs}
set_option maxHeartbeats 16000000 in
theorem kr6 (T : Blt mg) (hg : tabB prs = true) (hb : Bnd prs) : PS (ktX P w K mg base f cdv A outer s Hs E) (ktS 6) (tTr (K6 st D t prs H0 8) (K6 st D t prs H0 10)) := by
  have nd := sc_noTab.nd
  have hw := (goodR_of hg).w
  have Z : PS (ktX P w K mg base f cdv A outer s Hs E) (ktS 6) (fun E σ H => ∃ (r : Nat), r < prs.length ∧ tIfS _ (tSeq (tAsg (tA (EnvL st D [(5, dRow (rwD prs r))] 7 (LP (BL (rws prs) r) 8 8)) (tD (fun z => 2 ≤ prs.length → LP (BL (rws prs) r) (8 + 2) (8 + 2) z))) (gName 7)) tNext) tNext E σ H) := ps_w1 fun r hc => by
    have hl := rw_len hg hc
    have bn : ∀ n ∈ rwD prs r, n.natAbs < 10 ^ 40 := fun n hn => Nat.lt_of_lt_of_le (bnd_at hg hb hc n hn) (by decide)
    have hH : ∀ {p : Pos}, AE (ktX P w K mg base f cdv A outer s Hs E) (EnvL st D [(5, dRow (rwD prs r))] 7 (LP (BL (rws prs) r) 8 8)) (.Name "here" p) (tE (dRow (rwD prs r))) := fun {p} => ad_envL (pv 5) (.head _)
    let φ : PyData → Prop := fun z => 2 ≤ prs.length → BL (rws prs) r z
    refine ps_if (pt_cmpR o_gt (pe_b call_len_seq T.len boot_len (pa_cons (pv 1) pa_nil)) pe_int (nomark _)) (pss_one (ps_set (i := 7) nd rfl (Or.inl rfl) (ad_imp (ad_more (φ := φ) st_envL (ad_imp (ad_some (pv 7)) fun z ⟨ds, e, l1, l2, hz⟩ => ⟨ds, e, l1, l2, fun d hd _ => hz d hd⟩) (ad_disp (au_cons st_envL (ad_imp (ad_catE st_envL hH (ad_tail st_envL hH (by omega)) (by rw [List.length_map]; omega) (by rw [List.length_map, List.length_drop]; omega)) fun z e h2 => ?_) (au_cons st_envL (ad_imp (ad_slice st_envL hH ax_none (ax_some (ad_negE (ad_intE pe_int)))) fun z e h2 => ?_) au_nil)))) fun z ⟨ds, e, l1, l2, hz⟩ h2 => ⟨ds, e, l1, l2, fun d hd => hz d hd h2⟩).pe)) pss_nil
    · rw [e, ← List.map_append]
      refine bl_len hg hb hc h2 (by rw [List.length_append, List.length_drop]; omega) (by rw [List.length_append, List.length_drop]; omega) fun n hn => ?_
      rcases List.mem_append.mp hn with z | z
      · exact bn n z
      · exact bn n (List.mem_of_mem_drop z)
    · rw [e]
      have : PyData.list (cutD ((rwD prs r).map PyData.int) none (some (-1))) = dRow (rwD prs r).dropLast := by
        rw [cutD_but (by rw [List.length_map]; omega)]
        unfold dRow
        rw [List.map_dropLast]
      rw [this]
      exact bl_len hg hb hc h2 (by rw [List.length_dropLast]; omega) (by rw [List.length_dropLast]; omega) fun n hn => bn n (List.dropLast_subset _ hn)
  generalize ktS 6 = S0 at Z ⊢
  refine ps_sub Z fun Ee σ H ⟨⟨r, h, v7⟩, q⟩ => ?_
  refine ⟨r, h.hr, _, h.c.s1, t, _, rfl, .inl h.c.T.sq, _, _, rfl, rfl, _, rfl, ?_⟩
  rw [List.length_map]
  by_cases c : ((prs.length : Nat) : Int) > 1
  · rw [decide_eq_true c]
    refine iteT ⟨abS st D, ⟨h.env ?_, v7⟩, h.c.S, fun v H' bb S ⟨d, rd, e⟩ => q _ _ ⟨r, (h.but bb.but S).set (by decide), _, get_eq (by rw [h.c.len]; decide), d, rd, lp_mono (e (by omega)) (by decide) (by decide)⟩⟩
    intro x hx
    simp only [List.mem_cons, List.not_mem_nil, or_false] at hx
    rcases hx with rfl
    exact h.d5
  · rw [decide_eq_false c]
    exact iteF (q _ _ ⟨r, h, v7.imp fun z hz => lp_mono hz (by decide) (by decide)⟩)
theorem bl_fall (hg : tabB prs = true) (hb : Bnd prs) {r p : Nat} (hr : r < prs.length) (hp0 : 0 < p) (hp : p < w0 prs) {v : Int} (hv : v < (rwD prs r).getD (p - 1) 0) (hz : v.natAbs < 10 ^ 40) : BL (rws prs) r (setD (rwD prs r) p (.int v)) := by
  have gR := goodR_of hg
  refine ⟨?_, sz_setI hg hb hr hz⟩
  rw [setD_int (by have := rw_len hg hr; omega)]
  exact bad_set gR (by rw [List.length_map]; exact hr) hp (.inl ⟨p - 1, by omega, hv⟩)
set_option maxHeartbeats 16000000 in
theorem kr7 (T : Blt mg) (G : FnAt P w K mg base 1 "_law_take" ["store", "many"] spTakeK) (hr1 : Room 1 (ktX P w K mg base f cdv A outer s Hs E).A) (hg : tabB prs = true) (hb : Bnd prs) : PS (ktX P w K mg base f cdv A outer s Hs E) (ktS 7) (tTr (K6 st D t prs H0 10) (K6 st D t prs H0 14)) := by
  have nd := sc_noTab.nd
  have hw := (goodR_of hg).w
  have Z : PS (ktX P w K mg base f cdv A outer s Hs E) (ktS 7) (tIfS _ (tSeq (tAsg _ (gName 8)) (tSeq (fun E σ H => ∃ (r p : Nat), (r < prs.length ∧ 0 < p ∧ p < w0 prs) ∧ tAsg (tA (EnvL st D [(5, dRow (rwD prs r)), (8, .int (p : Nat))] 7 (LP (BL (rws prs) r) 8 10)) (tD (LP (BL (rws prs) r) (8 + 4) (10 + 4)))) (gName 7) E σ H) tNext)) tNext) :=
    ps_if (pt_cmpR o_gt (pe_b call_len_seq T.len boot_len (pa_cons (pv 5) pa_nil)) pe_int (nomark _)) (pss_cons (ps_set (i := 8) nd rfl (Or.inl rfl) (pe_op o_add pe_int (pe_f G hr1 (pa_cons (pv 0) (pa_cons (pe_op o_sub (pe_b call_len_seq T.len boot_len (pa_cons (pv 5) pa_nil)) pe_int) pa_nil)))))
      (pss_one (ps_w2 fun r p hc => by
        have hl := rw_len hg hc.1
        have hH : ∀ {p' : Pos}, AE (ktX P w K mg base f cdv A outer s Hs E) (EnvL st D [(5, dRow (rwD prs r)), (8, .int (p : Nat))] 7 (LP (BL (rws prs) r) 8 10)) (.Name "here" p') (tE (dRow (rwD prs r))) := fun {p'} => ad_envL (pv 5) (.head _)
        have hA : ∀ {p' : Pos}, AE (ktX P w K mg base f cdv A outer s Hs E) (EnvL st D [(5, dRow (rwD prs r)), (8, .int (p : Nat))] 7 (LP (BL (rws prs) r) 8 10)) (.Name "at" p') (tE (.int (p : Nat))) := fun {p'} => ad_envL (pv 8) (.tail _ (.head _))
        have hI : ∀ {p1 p2 p3 p4 p5 : Pos} {j}, AE (ktX P w K mg base f cdv A outer s Hs E) (EnvL st D [(5, dRow (rwD prs r)), (8, .int (p : Nat))] 7 (LP (BL (rws prs) r) 8 10)) (.Subscript (.Name "here" p1) (.BinOp (.Name "at" p2) .Sub (.Constant (.int 1) j p3) p4) p5) (tE (.int ((rwD prs r).getD (p - 1) 0))) := fun {p1 p2 p3 p4 p5 j} => ad_ixE (k := p - 1) st_envL hH (ad_subE st_envL hA (ad_intE pe_int)) (fun _ _ => rfl) (by rw [List.length_map, show ((p : Nat) : Int) - 1 = ((p - 1 : Nat) : Int) by omega]; exact ixN_nat (by omega)) (getD_num (by omega))
        have hv := bnd_get hg hb hc.1 (j := p - 1) (by omega)
        exact ps_set (i := 7) nd rfl (Or.inl rfl) (ad_more (φ := BL (rws prs) r) st_envL (ad_some (pv 7)) (ad_repE st_envL (ad_disp (au_cons st_envL (ad_imp (ad_setP st_envL hH hA (ad_sub st_envL (ad_sub st_envL (ad_eqI hI) (ad_eqI (ad_intE pe_int))) (ad_take (pe_f G hr1 (pa_cons (pv 0) (pa_cons pe_int pa_nil))) (by decide) (by decide) fun B σ H h => ⟨st, D, h.1.1, h.1.2.1⟩)) hH hA pe_int (by omega) (by omega)) fun z ⟨o, ⟨k, e, a, b, ⟨a1, b1, ha1, hb1, hk1⟩, hb2, hk⟩, ez⟩ => by
          rw [ez, e]
          have e38 : (10 : Nat) ^ 40 = 100 * 10 ^ 38 := by decide
          refine bl_fall hg hb hc.1 hc.2.1 hc.2.2 (by omega) ?_
          rw [e38]
          generalize (10 : Nat) ^ 38 = M at *
          omega) au_nil)) (ad_intE pe_int) (by decide) (by decide)) (by decide) (by decide)).pe))) pss_nil
  generalize ktS 7 = S0 at Z ⊢
  refine ps_sub Z fun Ee σ H ⟨⟨r, h, v7⟩, q⟩ => ?_
  obtain ⟨a5, e5, hR5, n5⟩ := h.row
  have hl5 : (rowAt prs r).length = w0 prs := by rw [← rows_at]; exact rw_len hg h.hr
  refine ⟨_, e5, a5, _, rfl, .inl hR5.sq, _, _, rfl, rfl, _, rfl, ?_⟩
  rw [List.length_map, hl5]
  by_cases c : ((w0 prs : Nat) : Int) > 1
  · rw [decide_eq_true c]
    refine iteT ⟨_, h.c.s0, _, e5, a5, _, rfl, .inl hR5.sq, _, _, rfl, rfl, st, _, rfl, by rw [List.length_map, hl5]; omega, by rw [List.length_map, hl5]; omega, h.c.S, fun d H1 d0 d1 b1 S1 => ⟨_, _, rfl, rfl, ?_⟩⟩
    rw [List.length_map, hl5] at d1
    have h1 := (h.but b1 S1).set (i := 8) (v := .int (1 + d)) (by decide)
    refine ⟨r, (1 + d).toNat, ⟨h.hr, by omega, by omega⟩, abS st D, ⟨h1.env ?_, (v7.but b1.butS).ne (by decide)⟩, h1.c.S, fun v H' bb S ⟨z, rd, e⟩ => q _ _ ⟨r, (h1.but bb.but S).set (by decide), _, get_eq (by rw [h1.c.len]; decide), z, rd, lp_mono e (by decide) (by decide)⟩⟩
    intro x hx
    simp only [List.mem_cons, List.not_mem_nil, or_false] at hx
    rcases hx with rfl | rfl
    · exact h1.d5
    · refine vr_int ?_
      rw [get_eq (by rw [h.c.len]; decide)]
      congr 3
      omega
  · rw [decide_eq_false c]
    exact iteF (q _ _ ⟨r, h, v7.imp fun z hz => lp_mono hz (by decide) (by decide)⟩)
set_option maxHeartbeats 16000000 in
theorem kr8 (T : Blt mg) (G : FnAt P w K mg base 1 "_law_take" ["store", "many"] spTakeK) (hr1 : Room 1 (ktX P w K mg base f cdv A outer s Hs E).A) (hg : tabB prs = true) (hb : Bnd prs) : PS (ktX P w K mg base f cdv A outer s Hs E) (ktS 8) (tTr (K6 st D t prs H0 14) (K9 st D t prs H0 6 6)) := by
  have nd := sc_noTab.nd
  have gR := goodR_of hg
  have Z : PS (ktX P w K mg base f cdv A outer s Hs E) (ktS 8) _ := ps_set (i := 9) nd rfl (Or.inl rfl) (pe_op op_rep (pe_lst (pa_cons (pe_op op_cat (pe_op op_cat (pe_slice sl_list (pv 1) po_none (po_some (pv 2))) (pe_lst (pa_cons (pe_ix ix_list (pv 7) (pe_f G hr1 (pa_cons (pv 0) (pa_cons (pe_b call_len_seq T.len boot_len (pa_cons (pv 7) pa_nil)) pa_nil))) (fun _ _ => rfl)) pa_nil))) (pe_slice sl_list (pv 1) (po_some (pe_op o_add (pv 2) pe_int)) po_none)) pa_nil)) pe_int)
  generalize ktS 8 = S16 at Z ⊢
  refine tr_set (i := 9) Z fun σ H Q ⟨r, h, v9⟩ q => ?_
  have hn := gR.n
  rw [List.length_map] at hn
  refine ⟨_, h.c.s1, _, h.v2, _, rfl, t, _, rfl, h.c.T.sq, fun l1 hl1 => ?_⟩
  rw [cutV_to (by rw [List.length_map]; exact Nat.le_of_lt h.hr)]
  have s1 : Same H (upd H l1 (.lst ((prs.map fun p => V.ref p.1).take r))) := Same.new hl1
  have e1 : (upd H l1 (.lst ((prs.map fun p => V.ref p.1).take r))) l1 = _ := upd_same
  have h1 := h.same s1
  have nu1 : l1 ≠ st := (h.c.S.ne hl1).symm
  have v91 := v9.but (Same.butS s1)
  generalize upd H l1 (.lst ((prs.map fun p => V.ref p.1).take r)) = H1 at s1 e1 h1 v91 ⊢
  obtain ⟨v, e9, d9, r9, ds, rfl, hd1, hd2, hds⟩ := v91
  cases r9 with
  | @lst a9 xs _ ea na ra =>
    refine ⟨_, e9, _, h1.c.s0, _, e9, a9, _, rfl, .inl (SqL.of ea), st, _, rfl, by rw [ra.length]; omega, by rw [ra.length]; omega, h1.c.S, fun d H2 d0 d1 b2 S2 => ?_⟩
    have h2 := h1.but b2 S2
    have ra2 := rdss_but ra b2.butS
    have ea2 := b2.butS _ _ na ea
    obtain ⟨x, hx, hat⟩ := at_memV (xs := xs) d0 d1
    obtain ⟨dx, hdx, rx⟩ := rdss_at' ra2 hx
    refine ⟨a9, xs, d, x, rfl, rfl, SqL.of ea2, hat, len1, fun l2 hl2 => ⟨l1, l2, _, _, rfl, rfl, (Same.new hl2) _ _ (b2 _ _ nu1 e1), upd_same, sl6 (by
      rw [List.length_take, List.length_map]
      simp only [List.length_singleton]
      omega), fun l3 hl3 => ?_⟩⟩
    have s3 := (Same.new (o := .lst [x]) hl2).trans (Same.new (o := .lst ((prs.map fun p => V.ref p.1).take r ++ [x])) hl3)
    have e3 : (upd (upd H2 l2 (.lst [x])) l3 (.lst ((prs.map fun p => V.ref p.1).take r ++ [x]))) l3 = _ := upd_same
    have h3 := h2.same s3
    generalize upd (upd H2 l2 (.lst [x])) l3 (.lst ((prs.map fun p => V.ref p.1).take r ++ [x])) = H3 at s3 e3 h3 ⊢
    refine ⟨_, h3.c.s1, _, h3.v2, _, _, rfl, rfl, _, rfl, t, _, rfl, h3.c.T.sq, fun l4 hl4 => ?_⟩
    rw [show ((r : Nat) : Int) + 1 = ((r + 1 : Nat) : Int) by omega, cutV_fr]
    refine ⟨l3, l4, _, _, rfl, rfl, (Same.new hl4) _ _ e3, upd_same, sl6 (by
      rw [List.length_append, List.length_take, List.length_drop, List.length_map]
      simp only [List.length_singleton]
      omega), fun l5 hl5 => ?_⟩
    have s5 := (Same.new (o := .lst ((prs.map fun p => V.ref p.1).drop (r + 1))) hl4).trans (Same.new (o := .lst (((prs.map fun p => V.ref p.1).take r ++ [x]) ++ (prs.map fun p => V.ref p.1).drop (r + 1))) hl5)
    have h5 := h3.same s5
    have r5 : RdS (abS st D).S (upd (upd H3 l4 (.lst ((prs.map fun p => V.ref p.1).drop (r + 1)))) l5 (.lst (((prs.map fun p => V.ref p.1).take r ++ [x]) ++ (prs.map fun p => V.ref p.1).drop (r + 1)))) (.ref l5) (putD (rws prs) r dx) := by
      have rr := h5.c.rows
      have := RdS.lst (S := (abS st D).S) (H := upd (upd H3 l4 (.lst ((prs.map fun p => V.ref p.1).drop (r + 1)))) l5 (.lst (((prs.map fun p => V.ref p.1).take r ++ [x]) ++ (prs.map fun p => V.ref p.1).drop (r + 1)))) (a := l5) upd_same ((abS st D).fresh (h3.c.S.same (Same.new hl4)) hl5) (rdss_app (rdss_app (rdss_take r rr) (.cons (rx.same (s3.trans s5)) .nil)) (rdss_drop (r + 1) rr))
      unfold putD
      rw [List.map_take, List.map_drop]
      exact this
    generalize upd (upd H3 l4 (.lst ((prs.map fun p => V.ref p.1).drop (r + 1)))) l5 (.lst (((prs.map fun p => V.ref p.1).take r ++ [x]) ++ (prs.map fun p => V.ref p.1).drop (r + 1))) = H5 at s5 h5 r5 ⊢
    refine ⟨len1, fun l6 hl6 => ⟨l6, 6, _, rfl, rfl, upd_same, by decide, by decide, sl6 (show 6 ≤ 1000 by decide), fun l7 hl7 => q _ _ ?_⟩⟩
    have s7 := (Same.new (o := .lst [.ref l5]) hl6).trans (Same.new (o := .lst ((List.replicate (6 : Int).toNat [V.ref l5]).flatten)) hl7)
    refine ⟨r, (h5.same s7).set (by decide), _, get_eq (by rw [h.c.len]; decide), .list (List.replicate 6 (putD (rws prs) r dx)), .lst upd_same ((abS st D).fresh (h5.c.S.same (Same.new hl6)) hl7) ?_, lp_of (by simp) (by simp) fun z hz => by rw [List.eq_of_mem_replicate hz]; exact bt_put hg hb h.hr (hds dx hdx)⟩
    rw [flat_rep]
    have r7 := r5.same s7
    exact .cons r7 (.cons r7 (.cons r7 (.cons r7 (.cons r7 (.cons r7 .nil)))))
end
end Seek
namespace Seek
open PySem L2 PyProof.Rows
/-- a table with another thing for a row -/
theorem ad_putE {X : Cx} {Γ : EnB} {eN eN' eP eP' eO e1 : Expr} {rows : List (List Int)} {k : Nat} {o : PyData} {q1 q2 q3 q4 q6 q7 q8 q9 : Pos} (sg : StbE Γ) (hN : AE X Γ eN (tE (.list (rows.map dRow)))) (hP : AE X Γ eP (tE (.int (k : Nat)))) (hO : AE X Γ eO (tE o)) (hN' : AE X Γ eN' (tE (.list (rows.map dRow)))) (hP' : AE X Γ eP' (tE (.int (k : Nat)))) (h1 : PE X e1 (tC (.int 1))) (hl : rows.length ≤ 6) (hp : k < rows.length)
    (hs : starEach [eO] X.env = (false, eval eO X.env) :: starEach [] X.env := by rfl) :
    AE X Γ (.BinOp (.BinOp (.Subscript eN (.Slice none (some eP) none q1) q2) .Add (.List [eO] q3) q4) .Add (.Subscript eN' (.Slice (some (.BinOp eP' .Add e1 q6)) none none q7) q8) q9) (tE (putD rows k o)) := by
  have z := ad_catE (pos := q9) sg (ad_catE (pos := q4) sg (ad_slice (pos := q2) (p2 := q1) sg hN ax_none (ax_some hP)) (ad_lstE (pos := q3) (ax_consE sg hO ax_nil hs) (by simp)) (by
    rw [cutD_to (by rw [List.length_map]; omega), List.length_take, List.length_map]; omega) (by simp)) (ad_slice (pos := q8) (p2 := q7) sg hN' (ax_some (ad_addE (pos := q6) sg hP' (ad_intE h1))) ax_none) (by
    rw [cutD_to (by rw [List.length_map]; omega), List.length_append, List.length_take, List.length_map, List.length_singleton]; omega) (by
    rw [show ((k : Nat) : Int) + 1 = ((k + 1 : Nat) : Int) by omega, cutD_from, List.length_drop, List.length_map]; omega)
  rw [cutD_to (by rw [List.length_map]; omega), show ((k : Nat) : Int) + 1 = ((k + 1 : Nat) : Int) by omega, cutD_from] at z
  unfold putD
  rw [List.map_take, List.map_drop]
  exact z
theorem bt_low {prs : Prs} (hg : tabB prs = true) (hb : Bnd prs) {r : Nat} (hr : r < prs.length) (h0 : 0 < r) {d : Int} (d0 : 0 ≤ d) (d1 : d < 9) : BT (putD (rws prs) r (dRow ((rwD prs r).map (· + ((rwD prs (r - 1)).getD 0 0 - (rwD prs r).getD (w0 prs - 1) 0 - 1 - d))))) := by
  have gR := goodR_of hg
  have hw := gR.w
  have hrr : r < (rws prs).length := by rw [List.length_map]; exact hr
  have hl : (rwD prs r).length = w0 prs := gR.len r hrr
  have b1 := bnd_get hg hb (i := r - 1) (j := 0) (by omega) (by omega)
  have b2 := bnd_get hg hb (i := r) (j := w0 prs - 1) hr (by omega)
  have mono : (rwD prs r).getD 0 0 ≤ (rwD prs r).getD (w0 prs - 1) 0 := by
    have := nf_le (gR.row r hrr) (w0 prs - 1) 0 (by unfold rwD rws at hl; omega)
    rw [Nat.zero_add] at this
    exact this
  refine bt_put hg hb hr ⟨bad_ints gR hrr (.inr (.inr ⟨r - 1, 0, by omega, by rw [List.length_map]; exact hl, .inl ⟨by omega, ?_⟩⟩)), (sz_dRow (by rw [List.length_map]; omega) fun n hn => ?_).mono (by decide) (by decide)⟩
  · have : ((rwD prs r).map (· + ((rwD prs (r - 1)).getD 0 0 - (rwD prs r).getD (w0 prs - 1) 0 - 1 - d))).getD 0 0 = (rwD prs r).getD 0 0 + ((rwD prs (r - 1)).getD 0 0 - (rwD prs r).getD (w0 prs - 1) 0 - 1 - d) := by
      rw [List.getD_eq_getElem?_getD, List.getElem?_map, List.getD_eq_getElem?_getD (l := rwD prs r) (i := 0), List.getElem?_eq_getElem (by omega)]
      rfl
    rw [this]
    show _ < (rwD prs (r - 1)).getD 0 0
    omega
  · obtain ⟨m, hm, rfl⟩ := List.mem_map.mp hn
    have b3 := bnd_at hg hb hr m hm
    have e38 : (10 : Nat) ^ 40 = 100 * 10 ^ 38 := by decide
    rw [e38]
    generalize (10 : Nat) ^ 38 = M at *
    omega
section
variable {P : Program} {w : World} {K : PySem.W.Frag} {mg : Str → Option Value} {base : Heap} {f : Addr} {cdv : Value} {A : Around} {outer : List Env} {s : Shared} {Hs H0 : Hp} {E : XK} {st D t : Addr} {prs : Prs}
set_option maxHeartbeats 32000000 in
theorem kr9 (G : FnAt P w K mg base 1 "_law_take" ["store", "many"] spTakeK) (hr1 : Room 1 (ktX P w K mg base f cdv A outer s Hs E).A) (hg : tabB prs = true) (hb : Bnd prs) : PS (ktX P w K mg base f cdv A outer s Hs E) (ktS 9) (tTr (K9 st D t prs H0 6 6) (K9 st D t prs H0 6 9)) := by
  have nd := sc_noTab.nd
  have nd1 : (["number", "down"] : List Str).Nodup := by decide +kernel
  have gR := goodR_of hg
  have hw := gR.w
  have hn : 1 ≤ prs.length ∧ prs.length ≤ 6 := by
    have := gR.n
    rwa [List.length_map] at this
  have Z1 : ∀ r : Nat, 0 < r ∧ r < prs.length → ∀ {p1 p2 p3 p4 p5 p6 p7 p8 p9 p10 p11 p12 p13 p14 q1 q2 q3 q5 p15 : Pos} {j1 j2 j3 j4 j}, AE (ktX P w K mg base f cdv A outer s Hs E) (EnvD st D [(1, dTab (rws prs)), (2, .int (r : Nat)), (5, dRow (rwD prs r))]) (.BinOp (.BinOp (.BinOp (.Subscript (.Subscript (.Name "table" p1) (.BinOp (.Name "row" p2) .Sub (.Constant (.int 1) j1 p3) p4) p5) (.Constant (.int 0) j2 p6) p7) .Sub (.Subscript (.Name "here" p8) (.UnaryOp .USub (.Constant (.int 1) j3 p9) p10) p11) p12) .Sub (.Constant (.int 1) j4 p13) p14) .Sub (.Call (.Name "_law_take" q1) [.Name "store" q2, .Constant (.int 9) j q3] [] q5) p15)
      (tD (IP fun z => ∃ d : Int, 0 ≤ d ∧ d < 9 ∧ z = (rwD prs (r - 1)).getD 0 0 - (rwD prs r).getD (w0 prs - 1) 0 - 1 - d)) := fun r hc {p1 p2 p3 p4 p5 p6 p7 p8 p9 p10 p11 p12 p13 p14 q1 q2 q3 q5 p15 j1 j2 j3 j4 j} => by
    have hl := rw_len hg hc.2
    have hl1 := rw_len hg (r := r - 1) (by omega)
    refine ad_imp (ad_sub st_env (ad_eqI (ad_subE st_env (ad_subE st_env (ad_ixE (k := 0) st_env (ad_ixE (k := r - 1) st_env (ad_env (pv 1) (.head _)) (ad_subE st_env (ad_env (pv 2) (.tail _ (.head _))) (ad_intE pe_int)) (fun _ _ => rfl) (by rw [List.length_map, List.length_map, show ((r : Nat) : Int) - 1 = ((r - 1 : Nat) : Int) by omega]; exact ixN_nat (by omega)) (getD_row (by rw [List.length_map]; omega))) (ad_intE pe_int) (fun _ _ => rfl) (by rw [List.length_map]; exact ixN_nat (show 0 < (rwD prs (r - 1)).length by omega)) (getD_num (show 0 < (rwD prs (r - 1)).length by omega))) (ad_ixE (k := w0 prs - 1) st_env (ad_env (pv 5) (.tail _ (.tail _ (.head _)))) (ad_negE (ad_intE pe_int)) (fun _ _ => rfl) (by rw [List.length_map, hl]; exact ixN_last (by omega)) (getD_num (by omega)))) (ad_intE pe_int))) (ad_take (pe_f G hr1 (pa_cons (pv 0) (pa_cons pe_int pa_nil))) (by decide) (by decide) fun B σ H h => ⟨st, D, h.1, h.2.1⟩)) fun z ⟨k, e, a, b, ha, hb, hk⟩ => ⟨k, e, b, hb.1, hb.2, by rw [hk, ha]⟩
  have Z : PS (ktX P w K mg base f cdv A outer s Hs E) (ktS 9) (tIfS _ (tSeq (fun E σ H => ∃ r : Nat, (0 < r ∧ r < prs.length) ∧ tAsg (tA (EnvD st D [(1, dTab (rws prs)), (2, .int (r : Nat)), (5, dRow (rwD prs r))]) (tD (IP fun z => ∃ d : Int, 0 ≤ d ∧ d < 9 ∧ z = (rwD prs (r - 1)).getD 0 0 - (rwD prs r).getD (w0 prs - 1) 0 - 1 - d))) (gName 10) E σ H) (tSeq (tAsg _ (gName 11)) (tSeq (fun E σ H => ∃ (r : Nat) (o : PyData), (r < prs.length ∧ BT (putD (rws prs) r o)) ∧ tAsg (tA (EnvL st D [(1, dTab (rws prs)), (2, .int (r : Nat)), (11, o)] 9 (LP BT 6 6)) (tD (LP BT (6 + 3) (6 + 3)))) (gName 9) E σ H) tNext))) tNext) :=
    ps_if (pt_cmpR o_gt (pv 2) pe_int (nomark _)) (pss_cons (ps_w1 fun r hc => ps_set (i := 10) nd rfl (Or.inr rfl) (Z1 r hc).pe)
      (pss_cons (ps_setC ["number", "down"] [none, some 10] (defScope dNoTable) ktN (i := 11) nd rfl (Or.inl rfl) rfl (pi_list (pv 5)) (by decide +kernel) (fun cl C s2 H2 ex => pg_c 0 nd1) (fun cl C s2 H2 ex => pifs_nil) (fun cl C s2 H2 ex => pe_op o_add (pv 0) (pv 1)))
      (pss_one (ps_w2 fun r o hc => ps_set (i := 9) nd rfl (Or.inl rfl) (ad_more (φ := BT) st_envL (ad_some (pv 9)) (ad_repE st_envL (ad_disp (au_cons st_envL (ad_imp (ad_putE st_envL (ad_envL (pv 1) (.head _)) (ad_envL (pv 2) (.tail _ (.head _))) (ad_envL (pv 11) (.tail _ (.tail _ (.head _)))) (ad_envL (pv 1) (.head _)) (ad_envL (pv 2) (.tail _ (.head _))) pe_int (by rw [List.length_map]; omega) (by rw [List.length_map]; exact hc.1)) fun z e => by rw [e]; exact hc.2) au_nil)) (ad_intE pe_int) (by decide) (by decide)) (by decide) (by decide)).pe)))) pss_nil
  clear Z1
  generalize ktS 9 = S0 at Z ⊢
  refine ps_sub Z fun Ee σ H ⟨⟨r, h, v9⟩, q⟩ => ?_
  refine ⟨_, h.v2, _, _, rfl, rfl, _, rfl, ?_⟩
  by_cases c : ((r : Nat) : Int) > 0
  · rw [decide_eq_true c]
    refine iteT ⟨r, ⟨by omega, h.hr⟩, abS st D, h.env ?_, h.c.S, fun v H1 b1 S1 ⟨z, rd, dv, ez, d, d0, d1, edv⟩ => ?_⟩
    · intro x hx
      simp only [List.mem_cons, List.not_mem_nil, or_false] at hx
      rcases hx with rfl | rfl | rfl
      · exact h.c.v1
      · exact vr_int h.v2
      · exact h.d5
    · subst ez
      cases rd
      have h1 := (h.but b1.but S1).set (i := 10) (v := .int dv) (by decide)
      obtain ⟨a5, e5, hR5, n5⟩ := h1.row
      have hl5 : (rowAt prs r).length = w0 prs := by rw [← rows_at]; exact rw_len hg h.hr
      refine ⟨_, e5, a5, rfl, ⟨_, hR5.sq⟩, comp_map V.int (fun n => .int (n + dv)) hR5.sq (sl6 (by omega)) (fun n hn H' Q' sm q' => ⟨_, rfl, _, ?_, _, _, rfl, rfl, q' _ (Same.refl _)⟩) fun L H2 hL s2 eL => ?_⟩
      · show ((_ : L2.St).set 0 _)[1]? = _
        rw [List.getElem?_set_ne (by decide)]
        show ([none, some 10].map _ : List (Option V))[1]? = _
        simp only [List.map_cons, List.map_nil, List.getElem?_cons_succ, List.getElem?_cons_zero]
        unfold pick
        simp only [get_eq (show 10 < σ.length by rw [h.c.len]; decide)]
        rfl
      · have h2 := (h1.same s2).set (i := 11) (v := .ref L) (by decide)
        have rL : Row H2 L ((rowAt prs r).map (· + dv)) := by
          unfold Row
          rw [eL, List.map_map]
          rfl
        have nL : L ≠ st := (h1.c.S.ne hL).symm
        refine ⟨r, dRow ((rowAt prs r).map (· + dv)), ⟨h.hr, ?_⟩, abS st D, ⟨h2.env ?_, (((v9.but b1).ne (by decide)).but (Same.butS s2)).ne (by decide)⟩, h2.c.S, fun v H' bb S ⟨z, rz, ez⟩ => q _ _ ⟨r, (h2.but bb.but S).set (by decide), _, get_eq (by rw [h2.c.len]; decide), z, rz, lp_mono ez (by decide) (by decide)⟩⟩
        · have := bt_low hg hb h.hr (by omega) d0 d1
          rw [← edv] at this
          unfold rwD rws at this
          rw [rows_at] at this
          exact this
        · intro x hx
          simp only [List.mem_cons, List.not_mem_nil, or_false] at hx
          rcases hx with rfl | rfl | rfl
          · exact h2.c.v1
          · exact vr_int h2.v2
          · exact ⟨_, get_eq (by rw [h1.c.len]; decide), rds_rowS rL (by simpa [abS] using nL)⟩
  · rw [decide_eq_false c]
    exact iteF (q _ _ ⟨r, h, v9.imp fun z hz => lp_mono hz (by decide) (by decide)⟩)
end
end Seek
namespace Seek
open PySem L2 PyProof.Rows
abbrev Cs3 := List (Addr × Nat × Nat)
theorem lay_prs : ∀ cs : Cs3, PyData.canLayAll0 (cs.map fun c => PyData.tuple [.int (c.2.1 : Nat), .int (c.2.2 : Nat)]) = true ∧ PyData.depthAll (cs.map fun c => PyData.tuple [.int (c.2.1 : Nat), .int (c.2.2 : Nat)]) ≤ 1
  | [] => by simp [PyData.canLayAll0, PyData.depthAll]
  | c :: r => by
    have h := lay_prs r
    simp only [List.map_cons, PyData.canLayAll0, PyData.canLay0, PyData.depthAll, PyData.depth, h.1, Bool.and_self, true_and]
    have := h.2
    omega
theorem shp_prs (cs : Cs3) : SeqAt.shaped (.list (cs.map fun c => PyData.tuple [.int (c.2.1 : Nat), .int (c.2.2 : Nat)])) = true := by
  have h := lay_prs cs
  have h2 := h.2
  show (PyData.canLay0 (.list _) && decide (PyData.depth (.list _) ≤ 64)) = true
  rw [Bool.and_eq_true]
  exact ⟨by simp only [PyData.canLay0]; exact h.1, decide_eq_true (by simp only [PyData.depth]; omega)⟩
theorem rd_prs {K : PySem.W.Frag} {H : Hp} : ∀ cs : Cs3, (∀ c ∈ cs, H c.1 = some (.tup [.int (c.2.1 : Nat), .int (c.2.2 : Nat)])) → RdAll K H (cs.map fun c => V.ref c.1) (cs.map fun c => PyData.tuple [.int (c.2.1 : Nat), .int (c.2.2 : Nat)])
  | [], _ => .nil
  | c :: r, h => .cons (rd_pair (h c (.head _))) (rd_prs r fun d hd => h d (.tail _ hd))
theorem eqv_mt (ds : List PyData) : PyData.eqv (.list ds) (.list []) = ds.isEmpty := by
  cases ds <;> simp [PyData.eqv, PyData.eqvAll]
/-- an address that came new -/
structure Nw (st t : Addr) (prs : Prs) (H0 : Hp) (a : Addr) : Prop where
  h0 : H0 a = none
  n1 : a ≠ st
  n3 : a ≠ t
  n4 : ∀ q ∈ prs, q.1 ≠ a
section
variable {st D t a : Addr} {prs : Prs} {H0 H H' : Hp} {L r : Nat} {σ : L2.St} {o : HO}
theorem NtC.nw (h : NtC st D t prs H0 L σ H) (n : H a = none) : Nw st t prs H0 a := ⟨h.b.free h.S n, (h.S.ne n).symm, (ne_of_none h.T.l n).symm, fun q hq => ne_of_none (h.T.r q hq) n⟩
theorem NtC.upd (h : NtC st D t prs H0 L σ H) (n : Nw st t prs H0 a) : NtC st D t prs H0 L σ (upd H a o) := by
  refine ⟨h.len, h.s0, h.s1, fun b o' nb e => ?_, ?_, ⟨?_, fun q hq => ?_⟩, h.nt, h.np⟩
  · rw [upd_ne (fun z => by rw [z, n.h0] at e; cases e)]
    exact h.b b o' nb e
  · obtain ⟨g, b, c, h1⟩ := h.S
    exact ⟨g, b, c, by rw [upd_ne n.n1.symm]; exact h1⟩
  · rw [upd_ne n.n3.symm]
    exact h.T.l
  · unfold Row
    rw [upd_ne (n.n4 q hq)]
    exact h.T.r q hq
theorem KR.upd (h : KR st D t prs H0 r σ H) (n : Nw st t prs H0 a) : KR st D t prs H0 r σ (upd H a o) := ⟨h.c.upd n, h.hr, h.v2, h.v5⟩
end
/-- a name's thing without the addresses S -/
def VQ (S : List Addr) (σ : L2.St) (H : Hp) (i : Nat) (φ : PyData → Prop) : Prop := ∃ v d, σ[i]? = some (some v) ∧ RdS S H v d ∧ φ d
section
variable {S : List Addr} {σ : L2.St} {H H' : Hp} {i k : Nat} {φ : PyData → Prop} {x : Option V} {a st D : Addr} {o : HO}
theorem VQ.ne (h : VQ S σ H i φ) (n : k ≠ i) : VQ S (σ.set k x) H i φ := let ⟨v, d, e, r, z⟩ := h; ⟨v, d, get_ne e n, r, z⟩
theorem VQ.same (h : VQ S σ H i φ) (s : Same H H') : VQ S σ H' i φ := let ⟨v, d, e, r, z⟩ := h; ⟨v, d, e, r.same s, z⟩
theorem VQ.upd (h : VQ (a :: S) σ H i φ) : VQ (a :: S) σ (upd H a o) i φ := let ⟨v, d, e, r, z⟩ := h; ⟨v, d, e, rds_upd r, z⟩
theorem VQ.vp (h : VQ [a, st] σ H i φ) : VP (abS st D) σ H i φ := let ⟨v, d, e, r, z⟩ := h; ⟨v, e, d, rds_less r, z⟩
theorem VP.vq (h : VP (abS st D) σ H i φ) (n : H a = none) : VQ [a, st] σ H i φ := let ⟨v, e, d, r, z⟩ := h; ⟨v, d, e, rds_avoid n r, z⟩
end
/-- the spots so far -/
structure KS (st D t : Addr) (prs : Prs) (H0 : Hp) (r : Nat) (sp : Addr) (m : Nat) (σ : L2.St) (H : Hp) : Prop where
  kr : KR st D t prs H0 r σ H
  nw : Nw st t prs H0 sp
  v12 : σ[12]? = some (some (.ref sp))
  v9 : VQ [sp, st] σ H 9 (LP BT 6 9)
  cs : ∃ cs : Cs3, H sp = some (.lst (cs.map fun c => V.ref c.1)) ∧ cs.length ≤ m ∧ ∀ c ∈ cs, H c.1 = some (.tup [.int (c.2.1 : Nat), .int (c.2.2 : Nat)]) ∧ c.1 ≠ sp ∧ c.1 ≠ st ∧ 1 ≤ c.2.1 ∧ c.2.1 < prs.length ∧ c.2.2 < w0 prs
section
variable {st D t sp : Addr} {prs : Prs} {H0 H H' : Hp} {r m m' : Nat} {σ : L2.St} {i : Nat} {v : V}
theorem KS.set (h : KS st D t prs H0 r sp m σ H) (hi : 6 ≤ i) (n1 : i ≠ 12) (n2 : i ≠ 9) : KS st D t prs H0 r sp m (σ.set i (some v)) H := ⟨h.kr.set hi, h.nw, get_ne h.v12 n1, h.v9.ne n2, h.cs⟩
theorem KS.mono (h : KS st D t prs H0 r sp m σ H) (hm : m ≤ m') : KS st D t prs H0 r sp m' σ H := ⟨h.kr, h.nw, h.v12, h.v9, let ⟨cs, e, l, f⟩ := h.cs; ⟨cs, e, by omega, f⟩⟩
end
section
variable (st D t : Addr) (prs : Prs) (H0 : Hp)
def K11 (m : Nat) (σ : L2.St) (H : Hp) : Prop := ∃ r sp, KS st D t prs H0 r sp m σ H
def K13 (lo hi : Nat) (σ : L2.St) (H : Hp) : Prop := NtC st D t prs H0 16 σ H ∧ VP (abS st D) σ H 9 (LP BT lo hi)
end
section
variable {P : Program} {w : World} {K : PySem.W.Frag} {mg : Str → Option Value} {base : Heap} {f : Addr} {cdv : Value} {A : Around} {outer : List Env} {s : Shared} {Hs H0 : Hp} {E : XK} {st D t : Addr} {prs : Prs}
theorem kr10 : PS (ktX P w K mg base f cdv A outer s Hs E) (ktS 10) (tTr (K9 st D t prs H0 6 9) (K11 st D t prs H0 0)) := by
  have nd := sc_noTab.nd
  have Z : PS (ktX P w K mg base f cdv A outer s Hs E) (ktS 10) _ := ps_set (i := 12) nd rfl (Or.inl rfl) (pe_lst pa_nil)
  generalize ktS 10 = S0 at Z ⊢
  refine tr_set (i := 12) Z fun σ H Q ⟨r, h, v9⟩ q => ?_
  refine ⟨len0, fun l hl => q _ _ ?_⟩
  have s1 : Same H (upd H l (.lst [])) := Same.new hl
  exact ⟨r, l, (h.same s1).set (by decide), h.c.nw hl, get_eq (by rw [h.c.len]; decide), ((v9.vq hl).same s1).ne (by decide), [], upd_same, Nat.le_refl _, fun c hc => nomatch hc⟩
set_option maxHeartbeats 16000000 in
theorem kr11 (T : Blt mg) (hg : tabB prs = true) : PS (ktX P w K mg base f cdv A outer s Hs E) (ktS 11) (tTr (K11 st D t prs H0 0) (K11 st D t prs H0 36)) := by
  have nd := sc_noTab.nd
  have Z : PS (ktX P w K mg base f cdv A outer s Hs E) (ktS 11) _ := ps_for PassesOwn.never rfl (pi_range2 rfl T.rng (pa_cons pe_int (pa_cons (pe_b call_len_seq T.len boot_len (pa_cons (pv 1) pa_nil)) pa_nil))) (pg_name (i := 13) nd rfl (Or.inl rfl))
    (pss_one (ps_for PassesOwn.never rfl (pi_range1 rfl T.rng (pa_cons (pe_b call_len_seq T.len boot_len (pa_cons (pv 5) pa_nil)) pa_nil)) (pg_name (i := 8) nd rfl (Or.inl rfl))
      (pss_one (ps_if (PW.pt (pw_or (pt_cmpR op_eq (pv 8) pe_int (nomark _)) (pw_or1 (pt_cmpR o_gt (pe_ix ix_list (pe_ix ix_list (pv 1) (pe_op o_sub (pv 13) pe_int) (fun _ _ => rfl)) (pv 8) (fun _ _ => rfl)) (pe_ix ix_list (pe_ix ix_list (pv 1) (pv 13) (fun _ _ => rfl)) (pe_op o_sub (pv 8) pe_int) (fun _ _ => rfl)) (nomark _)))))
        (pss_one (ps_expr (pe_bm PySem.F.plainAttrs_list PySem.F.slot_list_append PySem.F.type_list_append mt_append (pv 12) (pa_cons (pe_tup (pa_cons (pv 13) (pa_cons (pv 8) pa_nil))) pa_nil)))) pss_nil))))
  generalize ktS 11 = S0 at Z ⊢
  refine ps_sub Z fun Ee σ H ⟨⟨r, sp, h⟩, q⟩ => ?_
  obtain ⟨g, g1, g2, g3, g4⟩ := good_of hg
  refine ⟨_, h.kr.c.s1, t, _, rfl, .inl h.kr.c.T.sq, 1, _, rfl, ⟨by decide, by decide, by omega, by rw [List.length_map]; omega⟩, for_range (fun i σ' H' => KS st D t prs H0 r sp (6 * i) σ' H') h ?_ ?_⟩
  · rintro i σ' H' hi h'
    rw [List.length_map] at hi
    have hi' : i + 1 < prs.length := by omega
    have h1 := h'.set (i := 13) (v := .int (1 + (i : Nat))) (by decide) (by decide) (by decide)
    obtain ⟨a5, e5, hR5, n5⟩ := h1.kr.row
    have hl5 : (rowAt prs r).length = w0 prs := by rw [← rows_at]; exact rw_len hg h.kr.hr
    refine ⟨_, e5, a5, _, rfl, .inl hR5.sq, _, rfl, by omega, by rw [List.length_map]; omega, for_range (fun j σ' H' => KS st D t prs H0 r sp (6 * i + j) σ' H' ∧ σ'[13]? = some (some (.int (1 + (i : Nat))))) ⟨h1, get_eq (by rw [h'.kr.c.len]; decide)⟩ ?_ ?_⟩
    · rintro j σ2 H2 hj ⟨h2, e13⟩
      rw [List.length_map, hl5] at hj
      have hj' : j < w0 prs := by simpa using hj
      have h3 := h2.set (i := 8) (v := .int (0 + (j : Nat))) (by decide) (by decide) (by decide)
      have e8 : (σ2.set 8 (some (.int (0 + (j : Nat)))))[8]? = some (some (.int (0 + (j : Nat)))) := get_eq (by rw [h2.kr.c.len]; decide)
      have e13' : (σ2.set 8 (some (.int (0 + (j : Nat)))))[13]? = some (some (.int (1 + (i : Nat)))) := get_ne e13 (by decide)
      have out : KS st D t prs H0 r sp (6 * i + (j + 1)) (σ2.set 8 (some (.int (0 + (j : Nat))))) H2 := h3.mono (by omega)
      obtain ⟨cs, esp, hcl, hcs⟩ := h3.cs
      obtain ⟨pa, pa1, pa2, pa3⟩ := rowAt_mem (prs := prs) (i := i) (by omega)
      obtain ⟨pb, pb1, pb2, pb3⟩ := rowAt_mem (prs := prs) (i := i + 1) (by omega)
      have la := g.len pa pa1
      have lb := g.len pb pb1
      have key : ∀ (c : Addr) (H3 : Hp), H2 c = none → H3 = upd H2 c (.tup [.int (1 + (i : Nat)), .int (0 + (j : Nat))]) → KS st D t prs H0 r sp (6 * i + (j + 1)) (σ2.set 8 (some (.int (0 + (j : Nat))))) (upd H3 sp (.lst ((cs.map fun c => V.ref c.1) ++ [.ref c]))) := fun c H3 hc e3 => by
        have s3 : Same H2 H3 := by rw [e3]; exact Same.new hc
        have ec : H3 c = some (.tup [.int (1 + (i : Nat)), .int (0 + (j : Nat))]) := by rw [e3]; exact upd_same
        have nc : c ≠ sp := fun z => by rw [z, esp] at hc; cases hc
        have nst : c ≠ st := (h3.kr.c.S.ne hc).symm
        refine ⟨(h3.kr.same s3).upd h3.nw, h3.nw, h3.v12, (h3.v9.same s3).upd, cs ++ [(c, i + 1, j)], ?_, ?_, fun x hx => ?_⟩
        · rw [upd_same, List.map_append]
          rfl
        · rw [List.length_append, List.length_singleton]
          omega
        · rcases List.mem_append.mp hx with z | z
          · obtain ⟨z1, z2, z3⟩ := hcs x z
            exact ⟨by rw [upd_ne z2]; exact s3 _ _ z1, z2, z3⟩
          · have : x = (c, i + 1, j) := by simpa using z
            subst this
            refine ⟨?_, nc, nst, by show 1 ≤ i + 1; omega, hi', hj'⟩
            rw [upd_ne nc, ec]
            show some (HO.tup [V.int (1 + (i : Nat)), V.int (0 + (j : Nat))]) = some (HO.tup [V.int ((i + 1 : Nat) : Int), V.int ((j : Nat) : Int)])
            rw [show ((i + 1 : Nat) : Int) = 1 + (i : Nat) by omega, show (0 : Int) + (j : Nat) = ((j : Nat) : Int) by omega]
      refine ⟨_, e8, rfl, _, rfl, ?_⟩
      have T3 := h3.kr.c.T
      have csl : (cs.map fun c => V.ref c.1).length < sizeLine := by rw [List.length_map]; exact small1000 (by omega)
      refine ite2 (fun _ => iteT ?_) (fun hne => ⟨_, h3.kr.c.s1, _, e13', _, _, rfl, rfl, t, _, _, .ref pa.1, rfl, rfl, T3.sq, ?_, _, e8, pa.1, _, _, .int (pa.2.getD j 0), rfl, rfl, (T3.r pa pa1).sq, ?_, _, h3.kr.c.s1, _, e13', t, _, _, .ref pb.1, rfl, rfl, T3.sq, ?_, _, e8, _, _, rfl, rfl, pb.1, _, _, .int (pb.2.getD (j - 1) 0), rfl, rfl, (T3.r pb pb1).sq, ?_, _, _, rfl, rfl, _, rfl, ite2 (fun _ => ?_) (fun _ => ⟨out, e13'⟩)⟩)
      · exact ⟨_, h3.v12, .inl ⟨rfl, _, SqL.of esp⟩, _, e13', _, e8, len2, fun c hc => ⟨sp, _, _, rfl, rfl, (Same.new hc) _ _ esp, csl, key c _ hc rfl, e13'⟩⟩
      · rw [show (1 : Int) + (i : Nat) - 1 = ((i : Nat) : Int) by omega]
        exact atI_nat (by rw [List.getElem?_map, pa2]; rfl)
      · rw [Int.zero_add]
        exact at_row (by omega)
      · rw [show (1 : Int) + (i : Nat) = ((i + 1 : Nat) : Int) by omega]
        exact atI_nat (by rw [List.getElem?_map, pb2]; rfl)
      · have hj0 : j ≠ 0 := fun z => hne (by subst z; rfl)
        rw [show (0 : Int) + (j : Nat) - 1 = ((j - 1 : Nat) : Int) by omega]
        exact at_row (by omega)
      · exact ⟨_, h3.v12, .inl ⟨rfl, _, SqL.of esp⟩, _, e13', _, e8, len2, fun c hc => ⟨sp, _, _, rfl, rfl, (Same.new hc) _ _ esp, csl, key c _ hc rfl, e13'⟩⟩
    · rintro σ2 H2 ⟨h2, _⟩
      refine h2.mono ?_
      rw [List.length_map, hl5]
      omega
  · rintro σ' H' h'
    refine q _ _ ⟨r, sp, h'.mono ?_⟩
    rw [List.length_map]
    omega
end
end Seek
namespace Seek
open PySem L2 PyProof.Rows
theorem bt_spot {prs : Prs} (hg : tabB prs = true) (hb : Bnd prs) {k a : Nat} (hk1 : 1 ≤ k) (hk : k < prs.length) (ha : a < w0 prs) : BT (putD (rws prs) k (setD (rwD prs k) a (.int ((rwD prs (k - 1)).getD a 0 - 1)))) := by
  have gR := goodR_of hg
  have hl := rw_len hg hk
  have b1 := bnd_get hg hb (i := k - 1) (j := a) (by omega) ha
  refine bt_put hg hb hk ⟨?_, sz_setI hg hb hk ?_⟩
  · rw [setD_int (by omega)]
    refine bad_set gR (by rw [List.length_map]; exact hk) ha (.inr (.inr (.inl ⟨k - 1, by omega, ?_⟩)))
    show _ < (rwD prs (k - 1)).getD a 0
    omega
  · have e38 : (10 : Nat) ^ 40 = 100 * 10 ^ 38 := by decide
    rw [e38]
    generalize (10 : Nat) ^ 38 = M at *
    omega
section
variable {P : Program} {w : World} {K : PySem.W.Frag} {mg : Str → Option Value} {base : Heap} {f : Addr} {cdv : Value} {A : Around} {outer : List Env} {s : Shared} {Hs H0 : Hp} {E : XK} {st D t : Addr} {prs : Prs}
abbrev lnD (prs : Prs) (k a : Nat) : PyData := .list (((rwD prs k).map PyData.int).take a ++ [.int ((rwD prs (k - 1)).getD a 0 - 1)])
theorem ad_rowK {X : Cx} {Γ : EnB} {e ei : Expr} {k : Nat} {pos : Pos} (sg : StbE Γ) (hg : tabB prs = true) (h1 : AE X Γ e (tE (dTab (rws prs)))) (h2 : AE X Γ ei (tE (.int (k : Nat)))) (pl : PlainIx ei) (hk : k < prs.length) : AE X Γ (.Subscript e ei pos) (tE (dRow (rwD prs k))) :=
  ad_ixE sg h1 h2 pl (by rw [List.length_map, List.length_map]; exact ixN_nat hk) (getD_row (by rw [List.length_map]; exact hk))
set_option maxHeartbeats 32000000 in
theorem kr12 (T : Blt mg) (G : FnAt P w K mg base 1 "_law_take" ["store", "many"] spTakeK) (hr1 : Room 1 (ktX P w K mg base f cdv A outer s Hs E).A) (hg : tabB prs = true) (hb : Bnd prs) : PS (ktX P w K mg base f cdv A outer s Hs E) (ktS 12) (tTr (K11 st D t prs H0 36) (K13 st D t prs H0 6 12)) := by
  have nd := sc_noTab.nd
  have gR := goodR_of hg
  have hw := gR.w
  have hn : 1 ≤ prs.length ∧ prs.length ≤ 6 := by
    have := gR.n
    rwa [List.length_map] at this
  have Z1 : ∀ k a : Nat, (1 ≤ k ∧ k < prs.length) ∧ a < w0 prs → ∀ {p1 p2 p3 p4 p5 p6 p7 p8 p9 p10 p11 p12 p13 p14 p15 p16 p17 : Pos} {j1 j2}, AE (ktX P w K mg base f cdv A outer s Hs E) (EnvD st D [(1, dTab (rws prs)), (13, .int (k : Nat)), (8, .int (a : Nat))])
      (.BinOp (.Subscript (.Subscript (.Name "table" p1) (.Name "k" p2) p3) (.Slice none (some (.Name "at" p4)) none p5) p6) .Add (.List [.BinOp (.Subscript (.Subscript (.Name "table" p7) (.BinOp (.Name "k" p8) .Sub (.Constant (.int 1) j1 p9) p10) p11) (.Name "at" p12) p13) .Sub (.Constant (.int 1) j2 p14) p15] p16) p17) (tE (lnD prs k a)) := fun k a hc {p1 p2 p3 p4 p5 p6 p7 p8 p9 p10 p11 p12 p13 p14 p15 p16 p17 j1 j2} => by
    have hl := rw_len hg hc.1.2
    have hl1 := rw_len hg (r := k - 1) (by omega)
    have hK : ∀ {p : Pos}, AE (ktX P w K mg base f cdv A outer s Hs E) (EnvD st D [(1, dTab (rws prs)), (13, .int (k : Nat)), (8, .int (a : Nat))]) (.Name "k" p) (tE (.int (k : Nat))) := fun {p} => ad_env (pv 13) (.tail _ (.head _))
    have hA : ∀ {p : Pos}, AE (ktX P w K mg base f cdv A outer s Hs E) (EnvD st D [(1, dTab (rws prs)), (13, .int (k : Nat)), (8, .int (a : Nat))]) (.Name "at" p) (tE (.int (a : Nat))) := fun {p} => ad_env (pv 8) (.tail _ (.tail _ (.head _)))
    have hT : ∀ {p : Pos}, AE (ktX P w K mg base f cdv A outer s Hs E) (EnvD st D [(1, dTab (rws prs)), (13, .int (k : Nat)), (8, .int (a : Nat))]) (.Name "table" p) (tE (dTab (rws prs))) := fun {p} => ad_env (pv 1) (.head _)
    have z1 : ∀ {q1 q2 q3 q4 : Pos}, AE (ktX P w K mg base f cdv A outer s Hs E) (EnvD st D [(1, dTab (rws prs)), (13, .int (k : Nat)), (8, .int (a : Nat))]) (.Subscript (.Name "table" q1) (.BinOp (.Name "k" q2) .Sub (.Constant (.int 1) j1 p9) q3) q4) (tE (dRow (rwD prs (k - 1)))) := fun {q1 q2 q3 q4} => ad_rowK st_env hg hT (ad_cast (ad_subE st_env hK (ad_intE pe_int)) (by rw [show ((k : Nat) : Int) - 1 = ((k - 1 : Nat) : Int) by omega])) (fun _ _ => rfl) (by omega)
    refine ad_cast (ad_catE st_env (ad_slice st_env (ad_rowK st_env hg hT hK (fun _ _ => rfl) hc.1.2) ax_none (ax_some hA)) (ad_lstE (ax_consE st_env (ad_subE st_env (ad_ixE (k := a) st_env z1 hA (fun _ _ => rfl) (by rw [List.length_map]; exact ixN_nat (by omega)) (getD_num (by omega))) (ad_intE pe_int)) ax_nil) (by simp)) (by rw [cutD_to (by rw [List.length_map]; omega), List.length_take, List.length_map]; omega) (by simp)) ?_
    rw [cutD_to (by rw [List.length_map]; omega)]
  have Z2 : ∀ k a : Nat, (1 ≤ k ∧ k < prs.length) ∧ a < w0 prs → ∀ {p1 p2 p3 p4 p5 p6 p7 p8 p9 p10 : Pos} {j1}, AE (ktX P w K mg base f cdv A outer s Hs E) (EnvD st D [(1, dTab (rws prs)), (13, .int (k : Nat)), (8, .int (a : Nat)), (14, lnD prs k a)])
      (.BinOp (.Name "line" p1) .Add (.Subscript (.Subscript (.Name "table" p2) (.Name "k" p3) p4) (.Slice (some (.BinOp (.Name "at" p5) .Add (.Constant (.int 1) j1 p6) p7)) none none p8) p9) p10) (tE (setD (rwD prs k) a (.int ((rwD prs (k - 1)).getD a 0 - 1)))) := fun k a hc {p1 p2 p3 p4 p5 p6 p7 p8 p9 p10 j1} => by
    have hl := rw_len hg hc.1.2
    refine ad_cast (ad_catE st_env (ad_env (pv 14) (.tail _ (.tail _ (.tail _ (.head _))))) (ad_slice st_env (ad_rowK st_env hg (ad_env (pv 1) (.head _)) (ad_env (pv 13) (.tail _ (.head _))) (fun _ _ => rfl) hc.1.2) (ax_some (ad_addE st_env (ad_env (pv 8) (.tail _ (.tail _ (.head _)))) (ad_intE pe_int))) ax_none) (by rw [List.length_append, List.length_take, List.length_map, List.length_singleton]; omega) (by rw [show ((a : Nat) : Int) + 1 = ((a + 1 : Nat) : Int) by omega, cutD_from, List.length_drop, List.length_map]; omega)) ?_
    rw [show ((a : Nat) : Int) + 1 = ((a + 1 : Nat) : Int) by omega, cutD_from]
    rfl
  have Z : PS (ktX P w K mg base f cdv A outer s Hs E) (ktS 12) (tIfS _ (tSeq _ (tSeq (fun E σ H => ∃ k a : Nat, ((1 ≤ k ∧ k < prs.length) ∧ a < w0 prs) ∧ tAsg (tA (EnvD st D [(1, dTab (rws prs)), (13, .int (k : Nat)), (8, .int (a : Nat))]) (tE (lnD prs k a))) (gName 14) E σ H)
      (tSeq (fun E σ H => ∃ k a : Nat, ((1 ≤ k ∧ k < prs.length) ∧ a < w0 prs) ∧ tAsg (tA (EnvD st D [(1, dTab (rws prs)), (13, .int (k : Nat)), (8, .int (a : Nat)), (14, lnD prs k a)]) (tE (setD (rwD prs k) a (.int ((rwD prs (k - 1)).getD a 0 - 1))))) (gName 14) E σ H)
      (tSeq (fun E σ H => ∃ (k : Nat) (o : PyData), (k < prs.length ∧ BT (putD (rws prs) k o)) ∧ tAsg (tA (EnvL st D [(1, dTab (rws prs)), (13, .int (k : Nat)), (14, o)] 9 (LP BT 6 9)) (tD (LP BT (6 + 3) (9 + 3)))) (gName 9) E σ H) tNext)))) tNext) :=
    ps_if (pt_cmpR (op_neD hr1.units) (pv 12) (pe_lst pa_nil) (nomark _)) (pss_cons (ps_asg (pe_ix ix_list (pv 12) (pe_f G hr1 (pa_cons (pv 0) (pa_cons (pe_b call_len_seq T.len boot_len (pa_cons (pv 12) pa_nil)) pa_nil))) (fun _ _ => rfl)) (pg_tup rfl (pgs_cons (pg_name (i := 13) nd rfl (Or.inl rfl)) (pgs_cons (pg_name (i := 8) nd rfl (Or.inl rfl)) pgs_nil))))
      (pss_cons (ps_w2 fun k a hc => ps_set (i := 14) nd rfl (Or.inl rfl) (Z1 k a hc).pe)
      (pss_cons (ps_w2 fun k a hc => ps_set (i := 14) nd rfl (Or.inl rfl) (Z2 k a hc).pe)
      (pss_one (ps_w2 fun k o hc => ps_set (i := 9) nd rfl (Or.inl rfl) (ad_more (φ := BT) st_envL (ad_some (pv 9)) (ad_repE st_envL (ad_disp (au_cons st_envL (ad_imp (ad_putE st_envL (ad_envL (pv 1) (.head _)) (ad_envL (pv 13) (.tail _ (.head _))) (ad_envL (pv 14) (.tail _ (.tail _ (.head _)))) (ad_envL (pv 1) (.head _)) (ad_envL (pv 13) (.tail _ (.head _))) pe_int (by rw [List.length_map]; omega) (by rw [List.length_map]; exact hc.1)) fun z e => by rw [e]; exact hc.2) au_nil)) (ad_intE pe_int) (by decide) (by decide)) (by decide) (by decide)).pe))))) pss_nil
  clear Z1 Z2
  generalize ktS 12 = S0 at Z ⊢
  refine ps_sub Z fun Ee σ H ⟨⟨r, sp, h⟩, q⟩ => ?_
  obtain ⟨cs, esp, hcl, hcs⟩ := h.cs
  refine ⟨_, h.v12, len0, fun l1 hl1 => ?_⟩
  have s1 : Same H (upd H l1 (.lst [])) := Same.new hl1
  have el1 : RdD K (upd H l1 (.lst [])) (.ref l1) (.list []) := .lst (SqL.of upd_same) .nil
  have esp1 := s1 _ _ esp
  have hcs1 : ∀ c ∈ cs, (upd H l1 (.lst [])) c.1 = some (.tup [.int (c.2.1 : Nat), .int (c.2.2 : Nat)]) := fun c hc => s1 _ _ (hcs c hc).1
  have h1 := h.kr.same s1
  have v91 : VP (abS st D) σ (upd H l1 (.lst [])) 9 (LP BT 6 9) := (h.v9.same s1).vp
  generalize upd H l1 (.lst []) = H1 at s1 el1 esp1 hcs1 h1 v91 ⊢
  refine ⟨_, _, .lst (SqL.of esp1) (rd_prs cs hcs1), el1, shp_prs cs, rfl, _, rfl, ?_⟩
  rw [eqv_mt]
  cases cs with
  | nil => exact iteF (q _ _ ⟨h1.c, v91.imp fun z hz => lp_mono hz (by decide) (by decide)⟩)
  | cons c0 cs' =>
    refine iteT ⟨_, h.v12, _, h1.c.s0, _, h.v12, sp, _, rfl, .inl (SqL.of esp1), st, _, rfl, by rw [List.length_map]; simp, by rw [List.length_map]; omega, h1.c.S, fun d H2 d0 d1 b2 S2 => ?_⟩
    obtain ⟨x, hx, hat⟩ := at_memV (xs := (c0 :: cs').map fun c => V.ref c.1) d0 d1
    obtain ⟨c, hc, rfl⟩ := List.mem_map.mp hx
    obtain ⟨z1, z2, z3, z4, z5, z6⟩ := hcs c hc
    have ec : H2 c.1 = some (.tup [.int (c.2.1 : Nat), .int (c.2.2 : Nat)]) := b2 _ _ z3 (hcs1 c hc)
    have h2 := h1.but b2 S2
    refine ⟨sp, _, d, _, rfl, rfl, SqL.of (b2 _ _ h.nw.n1 esp1), hat, c.1, _, rfl, SqT.of ec, rfl, _, _, rfl, _, _, rfl, rfl, ?_⟩
    have h3 := (h2.set (i := 13) (v := .int (c.2.1 : Nat)) (by decide)).set (i := 8) (v := .int (c.2.2 : Nat)) (by decide)
    have v93 : VP (abS st D) ((σ.set 13 (some (.int (c.2.1 : Nat)))).set 8 (some (.int (c.2.2 : Nat)))) H2 9 (LP BT 6 9) := ((v91.but b2.butS).ne (by decide)).ne (by decide)
    have e13 : ((σ.set 13 (some (.int (c.2.1 : Nat)))).set 8 (some (.int (c.2.2 : Nat))))[13]? = some (some (.int (c.2.1 : Nat))) := get_ne (get_eq (by rw [h.kr.c.len]; decide)) (by decide)
    have e8 : ((σ.set 13 (some (.int (c.2.1 : Nat)))).set 8 (some (.int (c.2.2 : Nat))))[8]? = some (some (.int (c.2.2 : Nat))) := get_eq (by rw [List.length_set, h.kr.c.len]; decide)
    generalize (σ.set 13 (some (.int (c.2.1 : Nat)))).set 8 (some (.int (c.2.2 : Nat))) = σ3 at h3 v93 e13 e8 ⊢
    have hc3 : (1 ≤ c.2.1 ∧ c.2.1 < prs.length) ∧ c.2.2 < w0 prs := ⟨⟨z4, z5⟩, z6⟩
    refine ⟨c.2.1, c.2.2, hc3, abS st D, h3.env ?_, h3.c.S, fun v H4 b4 S4 ⟨d4, r4, e4⟩ => ?_⟩
    · intro x hx
      simp only [List.mem_cons, List.not_mem_nil, or_false] at hx
      rcases hx with rfl | rfl | rfl
      · exact h3.c.v1
      · exact vr_int e13
      · exact vr_int e8
    subst e4
    have h4 := (h3.but b4.but S4).set (i := 14) (v := v) (by decide)
    have v94 := (v93.but b4).ne (k := 14) (x := some v) (by decide)
    have e13' := get_ne (y := some v) e13 (show 14 ≠ 13 by decide)
    have e8' := get_ne (y := some v) e8 (show 14 ≠ 8 by decide)
    have e14 : (σ3.set 14 (some v))[14]? = some (some v) := get_eq (by rw [h3.c.len]; decide)
    refine ⟨c.2.1, c.2.2, hc3, abS st D, h4.env ?_, h4.c.S, fun v H5 b5 S5 ⟨d5, r5, e5⟩ => ?_⟩
    · intro x hx
      simp only [List.mem_cons, List.not_mem_nil, or_false] at hx
      rcases hx with rfl | rfl | rfl | rfl
      · exact h4.c.v1
      · exact vr_int e13'
      · exact vr_int e8'
      · exact ⟨_, e14, r4⟩
    subst e5
    have h5 := (h4.but b5.but S5).set (i := 14) (v := v) (by decide)
    refine ⟨c.2.1, setD (rwD prs c.2.1) c.2.2 (.int ((rwD prs (c.2.1 - 1)).getD c.2.2 0 - 1)), ⟨z5, bt_spot hg hb z4 z5 z6⟩, abS st D, ⟨h5.env ?_, (v94.but b5).ne (by decide)⟩, h5.c.S, fun v H6 b6 S6 ⟨z, rz, ez⟩ => q _ _ ⟨(h5.c.but b6.but S6).set (by decide), _, get_eq (by rw [h5.c.len]; decide), z, rz, lp_mono ez (by decide) (by decide)⟩⟩
    intro x hx
    simp only [List.mem_cons, List.not_mem_nil, or_false] at hx
    rcases hx with rfl | rfl | rfl
    · exact h5.c.v1
    · exact vr_int (get_ne e13' (by decide))
    · exact ⟨_, get_eq (by rw [h4.c.len]; decide), r5⟩
end
end Seek
namespace Seek
open PySem L2 PyProof.Rows
/-- the rows with one shorter and one longer -/
def mdR (rows : List (List Int)) (r to : Nat) (x : Int) : List (List Int) := (rows.set r (rows.getD r []).dropLast).set to (rows.getD to [] ++ [x])
theorem mdR_get {rows : List (List Int)} {r to i : Nat} {x : Int} (hr : r < rows.length) (ht : to < rows.length) (hne : to ≠ r) : (mdR rows r to x)[i]? = if i = to then some (rows.getD to [] ++ [x]) else if i = r then some (rows.getD r []).dropLast else rows[i]? := by
  unfold mdR
  rw [List.getElem?_set, List.length_set]
  by_cases h : to = i
  · rw [if_pos h, if_pos h.symm, if_pos ht]
  · rw [if_neg h, if_neg (Ne.symm h), List.getElem?_set]
    by_cases h2 : r = i
    · rw [if_pos h2, if_pos h2.symm, if_pos hr]
    · rw [if_neg h2, if_neg (Ne.symm h2)]
theorem mdR_bad {W : Nat} {rows : List (List Int)} (g : GoodR W rows) {r to : Nat} {x : Int} (hr : r < rows.length) (ht : to < rows.length) (hne : to ≠ r) : ¬ GoodD (dTab (mdR rows r to x)) := by
  have l1 : (mdR rows r to x).length = rows.length := by unfold mdR; rw [List.length_set, List.length_set]
  refine bad_lens (i := r) (k := to) (by omega) (by omega) ?_
  have e1 : (mdR rows r to x).getD r [] = (rows.getD r []).dropLast := by rw [List.getD_eq_getElem?_getD, mdR_get hr ht hne, if_neg (Ne.symm hne), if_pos rfl]; rfl
  have e2 : (mdR rows r to x).getD to [] = rows.getD to [] ++ [x] := by rw [List.getD_eq_getElem?_getD, mdR_get hr ht hne, if_pos rfl]; rfl
  rw [e1, e2, List.length_dropLast, List.length_append, List.length_singleton, g.len r hr, g.len to ht]
  have := g.w
  omega
theorem bt_mdR {prs : Prs} (hg : tabB prs = true) (hb : Bnd prs) {r to : Nat} (hr : r < prs.length) (ht : to < prs.length) (hne : to ≠ r) {x : Int} (hx : x.natAbs < 10 ^ 40) : BT (dTab (mdR (rws prs) r to x)) := by
  have gR := goodR_of hg
  have hw := gR.w
  have hrr : r < (rws prs).length := by rw [List.length_map]; exact hr
  have htt : to < (rws prs).length := by rw [List.length_map]; exact ht
  have hn := gR.n
  refine ⟨mdR_bad gR hrr htt hne, sz_rows (by unfold mdR; rw [List.length_set, List.length_set]; exact hn.2) fun y hy => ?_⟩
  obtain ⟨i, hi⟩ := List.mem_iff_getElem?.mp hy
  rw [mdR_get hrr htt hne] at hi
  have hlr := rw_len hg hr
  have hlt := rw_len hg ht
  by_cases c3 : i = to
  · rw [if_pos c3] at hi
    rw [← Option.some.inj hi]
    refine ⟨by rw [List.length_append, List.length_singleton]; show (rwD prs to).length + 1 ≤ 8; omega, fun n hn => ?_⟩
    rcases List.mem_append.mp hn with z | z
    · exact Nat.lt_of_lt_of_le (bnd_at hg hb ht n z) (by decide)
    · rw [List.mem_singleton.mp z]
      exact hx
  · rw [if_neg c3] at hi
    by_cases c4 : i = r
    · rw [if_pos c4] at hi
      rw [← Option.some.inj hi]
      refine ⟨by rw [List.length_dropLast]; show (rwD prs r).length - 1 ≤ 8; omega, fun n hn => Nat.lt_of_lt_of_le (bnd_at hg hb hr n (List.dropLast_subset _ hn)) (by decide)⟩
    · rw [if_neg c4] at hi
      have hil : i < prs.length := by have := (List.getElem?_eq_some_iff.mp hi).1; rw [List.length_map] at this; exact this
      have hxe : y = rwD prs i := by
        have : (rws prs).getD i [] = y := by rw [List.getD_eq_getElem?_getD, hi]; rfl
        exact this.symm
      have hli := rw_len hg hil
      rw [hxe]
      exact ⟨by omega, fun n hn => Nat.lt_of_lt_of_le (bnd_at hg hb hil n hn) (by decide)⟩
section
variable {P : Program} {w : World} {K : PySem.W.Frag} {mg : Str → Option Value} {base : Heap}
def spNoTabK : Sp := fun vs H Q _ => ∃ (s t : Addr) (prs : Prs), vs = [.ref s, .ref t] ∧ StK H s ∧ Tab H t prs ∧ t ≠ s ∧ (∀ p ∈ prs, p.1 ≠ s) ∧ tabB prs = true ∧ Bnd prs ∧ ∀ x d H', But s H H' → StK H' s → RdS [s] H' x d → BT d → Q x H'
theorem sc_uneven : FnScope ["store", "table", "at", "other", "found"] ["store", "table"] (defScope dUneven) := ⟨rfl, rfl, rfl, by decide +kernel, rfl, by decide +kernel, by decide +kernel⟩
theorem atQ {qs : List (Addr × (Addr × List Int))} {prs : Prs} (hm : qs.map (·.2) = prs) {i : Nat} (hi : i < prs.length) : ∃ q, qs[i]? = some q ∧ q ∈ qs ∧ q.2.2 = rwD prs i := by
  subst hm
  rw [List.length_map] at hi
  refine ⟨qs[i], List.getElem?_eq_getElem hi, List.getElem_mem _, ?_⟩
  have : (qs.map (·.2))[i]? = some qs[i].2 := by rw [List.getElem?_map, List.getElem?_eq_getElem hi]; rfl
  unfold rwD rws
  rw [List.getD_eq_getElem?_getD, List.getElem?_map, this]
  rfl
set_option maxHeartbeats 32000000 in
theorem ok_uneven (T : Blt mg) (Df : DefAt K mg "_law_uneven" dUneven ["store", "table"]) (G : FnAt P w K mg base 1 "_law_take" ["store", "many"] spTakeK) : FnAt P w K mg base 2 "_law_uneven" ["store", "table"] spNoTabK := by
  refine FnAt.of Df sc_uneven (fun vs H Q E h => ?_) (fun f cdv A outer s H vs Q E hr h => ?_)
  · obtain ⟨s, t, prs, rfl, _⟩ := h
    rfl
  · obtain ⟨st, t, prs, rfl, S0, hT, nt, np, hg, hb, q⟩ := h
    have nd := sc_uneven.nd
    have nd1 : (["row"] : List Str).Nodup := by decide +kernel
    have gR := goodR_of hg
    obtain ⟨g, g1, g2, g3, g4⟩ := good_of hg
    obtain ⟨p0, hp0, hm0, hx0⟩ := head_at (prs := prs) g1
    have hl0 := g.len p0 hm0
    refine ⟨_, pss_cons (ps_if (PW.pt (pw_or (pt_cmpR o_lt (pe_b call_len_seq T.len boot_len (pa_cons (pv 1) pa_nil)) pe_int (nomark _)) (pw_or1 (pt_cmpR o_lt (pe_b call_len_seq T.len boot_len (pa_cons (pe_ix ix_list (pv 1) pe_int (fun _ _ => rfl)) pa_nil)) pe_int (nomark _)))))
        (pss_one (ps_ret (pe_op op_cat (pv 1) (pe_lst (pa_cons (pe_lst pa_nil) pa_nil))))) pss_nil)
      (pss_cons (ps_set (i := 2) nd rfl (Or.inl rfl) (pe_f G hr (pa_cons (pv 0) (pa_cons (pe_b call_len_seq T.len boot_len (pa_cons (pv 1) pa_nil)) pa_nil))))
      (pss_cons (ps_set (i := 3) nd rfl (Or.inl rfl) (pe_op o_mod (pe_op o_add (pe_op o_add (pv 2) pe_int) (pe_f G hr (pa_cons (pv 0) (pa_cons (pe_op o_sub (pe_b call_len_seq T.len boot_len (pa_cons (pv 1) pa_nil)) pe_int) pa_nil)))) (pe_b call_len_seq T.len boot_len (pa_cons (pv 1) pa_nil))))
      (pss_cons (ps_setC ["row"] [none] (defScope dUneven) ["store", "table", "at", "other", "found"] (i := 4) nd rfl (Or.inl rfl) rfl (pi_list (pv 1)) (by decide +kernel) (fun cl C s2 H2 ex => pg_c 0 nd1) (fun cl C s2 H2 ex => pifs_nil) (fun cl C s2 H2 ex => pe_t (listK K) T.list boot_list (pa_cons (pv 0) pa_nil)))
      (pss_cons (ps_asg (pe_op op_cat (pe_ix ix_list (pv 4) (pv 2) (fun _ _ => rfl)) (pe_lst (pa_cons (pe_op o_add (pe_ix ix_list (pe_ix ix_list (pv 1) (pe_un o_neg pe_int) (fun _ _ => rfl)) (pe_un o_neg pe_int) (fun _ _ => rfl)) pe_int) pa_nil))) (pg_sub (pv 4) (pv 2) set_list))
      (pss_cons (ps_asg (pe_slice sl_list (pe_ix ix_list (pv 4) (pv 3) (fun _ _ => rfl)) po_none (po_some (pe_un o_neg pe_int))) (pg_sub (pv 4) (pv 3) set_list))
      (pss_one (ps_ret (pv 4)))))))), ?_⟩
    have rt : ∀ {H' : Hp}, Tab H' t prs → RdSs [st] H' (prs.map fun p => V.ref p.1) ((rws prs).map dRow) := fun {H'} hT' => by
      have z := tabRdS (S := [st]) hT' (by simpa using nt) fun p hp => by simpa using np p hp
      cases z with
      | @lst _ xs _ ea na ra =>
        have := hT'.l.symm.trans ea
        injection this with this
        injection this with this
        rw [this]
        exact ra
    have early : ∀ H' : Hp, Same H H' → ∃ v, ([some (.ref st), some (.ref t), none, none, none] : L2.St)[1]? = some (some v) ∧ (tLst (tCons (tLst tNil) tNil)) [some (.ref st), some (.ref t), none, none, none] H' (fun y H2 => rCat v y H2 Q) := fun H' s' => by
      refine ⟨_, rfl, len0, fun l1 hl1 => ⟨len1, fun l2 hl2 => ?_⟩⟩
      have s2 := s'.trans ((Same.new (o := .lst []) hl1).trans (Same.new (o := .lst [.ref l1]) hl2))
      have e1 : (upd (upd H' l1 (.lst [])) l2 (.lst [.ref l1])) l1 = some (.lst []) := (Same.new hl2) _ _ upd_same
      refine ⟨t, l2, _, _, rfl, rfl, s2 _ _ hT.l, upd_same, sl6 (by rw [List.length_map]; simp only [List.length_singleton]; omega), fun l3 hl3 => ?_⟩
      have s3 := s2.trans (Same.new (o := .lst ((prs.map fun p => V.ref p.1) ++ [.ref l1])) hl3)
      have S2 := S0.same s2
      have n1 : l1 ≠ st := ((S0.same s').ne hl1).symm
      have n3 : l3 ≠ st := (S2.ne hl3).symm
      refine q _ (.list ((rws prs).map dRow ++ [.list []])) _ (Same.but s3) (S0.same s3) (.lst upd_same (by simpa using n3) (rdss_app (rt (hT.same s3)) (.cons (.lst ((Same.new hl3) _ _ e1) (by simpa using n1) .nil) .nil))) ⟨bad_any (d := .list []) (by simp) rfl, (sz_list (c := 400) (k := 1) (n := 7) (fun d hd => ?_) (by rw [List.length_append, List.length_map, List.length_map, List.length_singleton]; omega)).mono (by decide) (by decide)⟩
      rcases List.mem_append.mp hd with z | z
      · obtain ⟨x, hx, rfl⟩ := List.mem_map.mp z
        exact (sz_row0 hg hb x hx).1
      · rw [List.mem_singleton.mp z]
        exact (sz_of (c := 400) (k := 1) (by decide +kernel))
    refine ⟨_, rfl, t, _, rfl, .inl hT.sq, _, _, rfl, rfl, _, rfl, ?_⟩
    rw [List.length_map]
    by_cases c1 : ((prs.length : Nat) : Int) < 2
    · rw [decide_eq_true c1]
      exact iteT (iteT (early H (Same.refl _)))
    · rw [decide_eq_false c1]
      refine iteF ⟨_, rfl, t, _, 0, .ref p0.1, rfl, rfl, hT.sq, atI_nat (j := 0) (by rw [List.getElem?_map, hx0]; rfl), p0.1, _, rfl, .inl (hT.r p0 hm0).sq, _, _, rfl, rfl, _, rfl, ?_⟩
      rw [List.length_map, hl0]
      by_cases c2 : ((w0 prs : Nat) : Int) < 2
      · rw [decide_eq_true c2]
        exact iteT (early H (Same.refl _))
      · rw [decide_eq_false c2]
        refine iteF ⟨_, rfl, _, rfl, t, _, rfl, .inl hT.sq, st, _, rfl, by rw [List.length_map]; omega, by rw [List.length_map]; omega, S0, fun d1 H1 d10 d11 b1 S1 => ?_⟩
        rw [List.length_map] at d11
        have hT1 := hT.but nt np b1
        refine ⟨_, rfl, _, _, rfl, rfl, _, rfl, _, rfl, t, _, rfl, .inl hT1.sq, _, _, rfl, rfl, st, _, rfl, by rw [List.length_map]; omega, by rw [List.length_map]; omega, S1, fun d2 H2 d20 d21 b2 S2 => ?_⟩
        rw [List.length_map] at d21
        have hT2 := hT1.but nt np b2
        refine ⟨_, _, rfl, rfl, _, rfl, t, _, rfl, .inl hT2.sq, _, _, rfl, rfl, by rw [List.length_map]; omega, ?_⟩
        rw [List.length_map]
        obtain ⟨a, rfl⟩ : ∃ a : Nat, d1 = a := ⟨d1.toNat, by omega⟩
        obtain ⟨o, ho, hol, hoa⟩ : ∃ o : Nat, ((a : Nat) + 1 + d2) % ((prs.length : Nat) : Int) = (o : Nat) ∧ o < prs.length ∧ a ≠ o := by
          by_cases hh : (a : Int) + 1 + d2 < prs.length
          · refine ⟨((a : Int) + 1 + d2).toNat, ?_, by omega, by omega⟩
            rw [Int.emod_eq_of_lt (by omega) hh]
            omega
          · refine ⟨((a : Int) + 1 + d2 - prs.length).toNat, ?_, by omega, by omega⟩
            rw [← Int.sub_emod_right, Int.emod_eq_of_lt (by omega) (by omega)]
            omega
        rw [ho]
        have ha : a < prs.length := by omega
        have B2 := b1.trans b2
        refine ⟨_, rfl, t, rfl, ⟨_, hT2.sq⟩, comp_objsL (fun p : Addr × List Int => V.ref p.1) (fun p => .lst (p.2.map V.int)) hT2.sq (by omega) (fun p hp H' Q' sm q' => ⟨_, rfl, p.1, _, rfl, .inl ((hT2.same sm).r p hp).sq, fun l hl => q' l _ hl (Same.new hl) upd_same⟩) fun M qs H3 hM hqm hnd hq s3 eM => ?_⟩
        have hql : qs.length = prs.length := by rw [← hqm, List.length_map]
        obtain ⟨qa, hqa, mqa, dqa⟩ := atQ hqm ha
        obtain ⟨qo, hqo, mqo, dqo⟩ := atQ hqm hol
        have hla := rw_len hg ha
        have hlo := rw_len hg hol
        have hT3 := hT2.same s3
        have S3 := S2.same s3
        have nM : M ≠ st := (S2.ne hM).symm
        have nMt : M ≠ t := (ne_of_none hT2.l hM).symm
        have nMq : ∀ x ∈ qs, x.1 ≠ M := fun x hx => (hq x hx).2.2
        have nqs : ∀ x ∈ qs, x.1 ≠ st := fun x hx => (S2.ne (hq x hx).2.1).symm
        have ea : H3 qa.1 = some (.lst ((rwD prs a).map V.int)) := by rw [(hq qa mqa).1, dqa]
        obtain ⟨pl, hpl1, hpl2, hpl3⟩ := rowAt_mem (prs := prs) (i := prs.length - 1) (by omega)
        have hll := g.len pl hpl1
        have vb : (pl.2.getD (w0 prs - 1) 0 + 9).natAbs < 10 ^ 40 := by
          have := hb pl hpl1 (pl.2.getD (w0 prs - 1) 0) (by rw [List.getD_eq_getElem?_getD, List.getElem?_eq_getElem (by omega)]; exact List.getElem_mem _)
          have e38 : (10 : Nat) ^ 40 = 100 * 10 ^ 38 := by decide
          rw [e38]
          generalize (10 : Nat) ^ 38 = MM at *
          omega
        generalize hv : pl.2.getD (w0 prs - 1) 0 + 9 = v at vb
        refine ⟨_, rfl, _, rfl, M, _, _, .ref qa.1, rfl, rfl, SqL.of eM, atI_nat (by rw [List.getElem?_map, hqa]; rfl), _, rfl, 1, rfl, t, _, _, .ref pl.1, rfl, rfl, hT3.sq, ?_, 1, rfl, pl.1, _, _, .int (pl.2.getD (w0 prs - 1) 0), rfl, rfl, (hT3.r pl hpl1).sq, ?_, _, _, rfl, rfl, len1, fun l1 hl1 => ?_⟩
        · unfold atI
          rw [List.length_map, show ixN prs.length (-1) = some (prs.length - 1) from ixN_last g1]
          show (prs.map fun p => V.ref p.1)[prs.length - 1]? = _
          rw [List.getElem?_map, hpl2]
          rfl
        · unfold atI
          rw [List.length_map, show ixN pl.2.length (-1) = some (pl.2.length - 1) from ixN_last (by omega), hll]
          show (pl.2.map V.int)[w0 prs - 1]? = _
          rw [List.getElem?_map, List.getElem?_eq_getElem (by omega), List.getD_eq_getElem?_getD, List.getElem?_eq_getElem (by omega)]
          rfl
        rw [hv]
        refine ⟨qa.1, l1, _, _, rfl, rfl, (Same.new hl1) _ _ ea, upd_same, sl6 (by rw [List.length_map]; simp only [List.length_singleton]; omega), fun p1 hp1 => ?_⟩
        have s4 := (Same.new (o := .lst [.int v]) hl1).trans (Same.new (o := .lst ((rwD prs a).map V.int ++ [.int v])) hp1)
        have ep1 : Row (upd (upd H3 l1 (.lst [.int v])) p1 (.lst ((rwD prs a).map V.int ++ [.int v]))) p1 (rwD prs a ++ [v]) := by
          unfold Row
          rw [upd_same, List.map_append]
          rfl
        have np1 : p1 ≠ st := ((S3.same (Same.new hl1)).ne hp1).symm
        have np1M : p1 ≠ M := fun z => by
          have := (Same.new (o := .lst [.int v]) hl1) _ _ eM
          rw [← z, hp1] at this
          cases this
        generalize upd (upd H3 l1 (.lst [.int v])) p1 (.lst ((rwD prs a).map V.int ++ [.int v])) = H4 at s4 ep1 ⊢
        have hML : (qs.map fun q => V.ref q.1).length = prs.length := by rw [List.length_map]; exact hql
        refine ⟨_, rfl, _, rfl, M, _, _, a, rfl, rfl, s4 _ _ eM, by rw [hML]; exact ixN_nat ha, ?_⟩
        have eM5 : (upd H4 M (.lst ((qs.map fun q => V.ref q.1).set a (.ref p1)))) M = some (.lst ((qs.map fun q => V.ref q.1).set a (.ref p1))) := upd_same
        have k5 : ∀ b o', b ≠ M → H4 b = some o' → (upd H4 M (.lst ((qs.map fun q => V.ref q.1).set a (.ref p1)))) b = some o' := fun b o' n e => by rw [upd_ne n]; exact e
        have b5 : But st H2 (upd H4 M (.lst ((qs.map fun q => V.ref q.1).set a (.ref p1)))) := fun b o' n e => k5 b o' (ne_of_none e hM) (s4 _ _ (s3 _ _ e))
        have S5 : StK (upd H4 M (.lst ((qs.map fun q => V.ref q.1).set a (.ref p1)))) st := by
          obtain ⟨x1, x2, x3, x4⟩ := S3.same s4
          exact ⟨x1, x2, x3, k5 _ _ nM.symm x4⟩
        have eq5 : ∀ x ∈ qs, (upd H4 M (.lst ((qs.map fun q => V.ref q.1).set a (.ref p1)))) x.1 = some (.lst (x.2.2.map V.int)) := fun x hx => k5 _ _ (nMq x hx) (s4 _ _ (hq x hx).1)
        have ep5 : Row (upd H4 M (.lst ((qs.map fun q => V.ref q.1).set a (.ref p1)))) p1 (rwD prs a ++ [v]) := k5 _ _ np1M ep1
        generalize upd H4 M (.lst ((qs.map fun q => V.ref q.1).set a (.ref p1))) = H5 at eM5 k5 b5 S5 eq5 ep5 ⊢
        have hML5 : ((qs.map fun q => V.ref q.1).set a (.ref p1)).length = prs.length := by rw [List.length_set]; exact hML
        have eo5 : H5 qo.1 = some (.lst ((rwD prs o).map V.int)) := by rw [eq5 qo mqo, dqo]
        refine ⟨_, rfl, _, rfl, M, _, _, .ref qo.1, rfl, rfl, SqL.of eM5, atI_nat (by rw [List.getElem?_set_ne hoa, List.getElem?_map, hqo]; rfl), 1, rfl, _, rfl, qo.1, _, rfl, SqL.of eo5, fun p2 hp2 => ?_⟩
        have ecut : cutV ((rwD prs o).map V.int) none (some (-1)) = (rwD prs o).dropLast.map V.int := by
          unfold cutV
          have e : HT.sIx ((rwD prs o).map V.int).length ((rwD prs o).map V.int).length (some (-1)) = ((rwD prs o).map V.int).length - 1 := by
            unfold HT.sIx
            simp
            omega
          rw [e, HT.sIx_none, List.drop_zero, Nat.sub_zero, List.map_dropLast, List.dropLast_eq_take]
        rw [show cutV ((rwD prs o).map V.int) none (some (-(1 : Int))) = _ from ecut] at *
        have s6 : Same H5 (upd H5 p2 (.lst ((rwD prs o).dropLast.map V.int))) := Same.new hp2
        have ep2 : Row (upd H5 p2 (.lst ((rwD prs o).dropLast.map V.int))) p2 (rwD prs o).dropLast := upd_same
        have np2 : p2 ≠ st := (S5.ne hp2).symm
        have np2M : p2 ≠ M := fun z => by rw [z, eM5] at hp2; cases hp2
        generalize upd H5 p2 (.lst ((rwD prs o).dropLast.map V.int)) = H6 at s6 ep2 ⊢
        refine ⟨_, rfl, _, rfl, M, _, _, o, rfl, rfl, s6 _ _ eM5, by rw [hML5]; exact ixN_nat hol, ?_⟩
        have k7 : ∀ b o', b ≠ M → H6 b = some o' → (upd H6 M (.lst (((qs.map fun q => V.ref q.1).set a (.ref p1)).set o (.ref p2)))) b = some o' := fun b o' n e => by rw [upd_ne n]; exact e
        have eM7 : (upd H6 M (.lst (((qs.map fun q => V.ref q.1).set a (.ref p1)).set o (.ref p2)))) M = some (.lst ((((qs.map (·.1)).set a p1).set o p2).map V.ref)) := by
          rw [upd_same, List.map_set, List.map_set, List.map_map]
          rfl
        have b7 : But st H2 (upd H6 M (.lst (((qs.map fun q => V.ref q.1).set a (.ref p1)).set o (.ref p2)))) := fun b o' n e => k7 b o' (ne_of_none e hM) (s6 _ _ (b5 _ _ n e))
        have S7 : StK (upd H6 M (.lst (((qs.map fun q => V.ref q.1).set a (.ref p1)).set o (.ref p2)))) st := by
          obtain ⟨x1, x2, x3, x4⟩ := S5.same s6
          exact ⟨x1, x2, x3, k7 _ _ nM.symm x4⟩
        have r7 : ∀ {x : Addr} {ns : List Int}, x ≠ M → Row H6 x ns → Row (upd H6 M (.lst (((qs.map fun q => V.ref q.1).set a (.ref p1)).set o (.ref p2)))) x ns := fun n e => k7 _ _ n e
        generalize upd H6 M (.lst (((qs.map fun q => V.ref q.1).set a (.ref p1)).set o (.ref p2))) = H7 at k7 eM7 b7 S7 r7 ⊢
        refine ⟨_, rfl, q _ (dTab (mdR (rws prs) o a v)) _ (B2.trans b7) S7 (.lst eM7 (by simpa using nM) (rdss_rowsS (by rw [List.length_set, List.length_set, List.length_map, hql]; unfold mdR; rw [List.length_set, List.length_set, List.length_map]) fun i x y hx hy => ?_)) (bt_mdR hg hb hol ha hoa vb)⟩
        rw [mdR_get (by rw [List.length_map]; exact hol) (by rw [List.length_map]; exact ha) hoa] at hy
        have lq : (qs.map (·.1)).length = prs.length := by rw [List.length_map]; exact hql
        by_cases c3 : i = a
        · subst c3
          rw [if_pos rfl] at hy
          rw [List.getElem?_set_ne (Ne.symm hoa), List.getElem?_set, if_pos rfl, if_pos (by omega)] at hx
          rw [← Option.some.inj hx, ← Option.some.inj hy]
          exact ⟨r7 np1M (s6 _ _ ep5), by simpa using np1⟩
        · rw [if_neg c3] at hy
          by_cases c4 : i = o
          · subst c4
            rw [if_pos rfl] at hy
            rw [List.getElem?_set, if_pos rfl, List.length_set, if_pos (by omega)] at hx
            rw [← Option.some.inj hx, ← Option.some.inj hy]
            exact ⟨r7 np2M ep2, by simpa using np2⟩
          · rw [if_neg c4] at hy
            rw [List.getElem?_set_ne (Ne.symm c4), List.getElem?_set_ne (Ne.symm c3), List.getElem?_map] at hx
            obtain ⟨qi, hqi, rfl⟩ := Option.map_eq_some_iff.mp hx
            have mqi := List.mem_of_getElem? hqi
            have hil : i < prs.length := by rw [← hql]; exact (List.getElem?_eq_some_iff.mp hqi).1
            obtain ⟨qj, hqj, mqj, dqj⟩ := atQ hqm hil
            have : qi = qj := Option.some.inj (hqi.symm.trans hqj)
            subst this
            have hye : y = rwD prs i := by
              have : (rws prs).getD i [] = y := by rw [List.getD_eq_getElem?_getD, hy]; rfl
              exact this.symm
            rw [hye, ← dqj]
            exact ⟨r7 (nMq qi mqi) (s6 _ _ (eq5 qi mqi)), by simpa using nqs qi mqi⟩
end
end Seek
namespace Seek
open PySem L2 PyProof.Rows
section
variable (st D t : Addr) (prs : Prs) (H0 : Hp)
def K15 (lo hi : Nat) (σ : L2.St) (H : Hp) : Prop := NtC st D t prs H0 16 σ H ∧ VP (abS st D) σ H 9 (LP BT lo hi) ∧ VP (abS st D) σ H 15 BT
end
section
variable {P : Program} {w : World} {K : PySem.W.Frag} {mg : Str → Option Value} {base : Heap} {f : Addr} {cdv : Value} {A : Around} {outer : List Env} {s : Shared} {Hs H0 : Hp} {E : XK} {st D t : Addr} {prs : Prs}
theorem kr13 (G : FnAt P w K mg base 2 "_law_uneven" ["store", "table"] spNoTabK) (hr2 : Room 2 (ktX P w K mg base f cdv A outer s Hs E).A) (hg : tabB prs = true) (hb : Bnd prs) : PS (ktX P w K mg base f cdv A outer s Hs E) (ktS 13) (tTr (K13 st D t prs H0 6 12) (K13 st D t prs H0 9 15)) := by
  have nd := sc_noTab.nd
  have Z : PS (ktX P w K mg base f cdv A outer s Hs E) (ktS 13) _ := ps_set (i := 9) nd rfl (Or.inl rfl) (pe_op op_cat (pv 9) (pe_op op_rep (pe_lst (pa_cons (pe_f G hr2 (pa_cons (pv 0) (pa_cons (pv 1) pa_nil))) pa_nil)) pe_int))
  generalize ktS 13 = S0 at Z ⊢
  refine tr_set (i := 9) Z fun σ H Q ⟨h, v9⟩ q => ?_
  obtain ⟨v, e9, d9, r9, ds, rfl, l1, l2, hds⟩ := v9
  refine ⟨v, e9, _, h.s0, _, h.s1, st, t, prs, rfl, h.S, h.T, h.nt, h.np, hg, hb, fun x d H1 b1 S1 rx bx => ⟨len1, fun m1 hm1 => ⟨m1, 3, _, rfl, rfl, upd_same, by decide, by decide, sl6 (show 3 ≤ 1000 by decide), fun m2 hm2 => ?_⟩⟩⟩
  have r9' := rds_but r9 b1.butS
  have s2 := (Same.new (o := .lst [x]) hm1).trans (Same.new (o := .lst ((List.replicate (3 : Int).toNat [x]).flatten)) hm2)
  cases r9' with
  | @lst a9 xs _ ea na ra =>
    refine ⟨a9, m2, _, _, rfl, rfl, s2 _ _ ea, upd_same, sl6 (by rw [ra.length, flat_rep, List.length_replicate]; show ds.length + 3 ≤ 1000; omega), fun m3 hm3 => q _ _ ?_⟩
    have s3 := s2.trans (Same.new (o := .lst (xs ++ (List.replicate (3 : Int).toNat [x]).flatten)) hm3)
    have h1 := h.but b1 S1
    have rx3 := rx.same s3
    refine ⟨(h1.same s3).set (by decide), _, get_eq (by rw [h.len]; decide), .list (ds ++ List.replicate 3 d), .lst upd_same ((abS st D).fresh (S1.same s2) hm3) ?_, lp_of (by simp only [List.length_append, List.length_replicate]; omega) (by simp only [List.length_append, List.length_replicate]; omega) fun z hz => ?_⟩
    · rw [flat_rep]
      exact rdss_app (ra.same s3) (.cons rx3 (.cons rx3 (.cons rx3 .nil)))
    · rcases List.mem_append.mp hz with z' | z'
      · exact hds z z'
      · rw [List.eq_of_mem_replicate z']
        exact bx
set_option maxHeartbeats 16000000 in
theorem kr14 (T : Blt mg) (hg : tabB prs = true) (hb : Bnd prs) : PS (ktX P w K mg base f cdv A outer s Hs E) (ktS 14) (tTr (K13 st D t prs H0 9 15) (K15 st D t prs H0 9 15)) := by
  have nd := sc_noTab.nd
  have gR := goodR_of hg
  have hn : 1 ≤ prs.length ∧ prs.length ≤ 6 := by
    have := gR.n
    rwa [List.length_map] at this
  have hT : ∀ {p : Pos}, AE (ktX P w K mg base f cdv A outer s Hs E) (EnvD st D [(1, dTab (rws prs))]) (.Name "table" p) (tE (.list ((rws prs).map dRow))) := fun {p} => ad_env (pv 1) (.head _)
  have lr : ((rws prs).map dRow).length = prs.length := by simp only [List.length_map]
  have hL : ∀ {p1 p2 p3 p4 p5 p6 p7 p8 p9 p10 p11 p12 p13 : Pos} {j1 j2}, AE (ktX P w K mg base f cdv A outer s Hs E) (EnvD st D [(1, dTab (rws prs))]) (.BinOp (.Name "table" p1) .Add (.BinOp (.List [.Subscript (.Name "table" p2) (.UnaryOp .USub (.Constant (.int 1) j1 p3) p4) p5] p6) .Mult (.BinOp (.Constant (.int 7) j2 p7) .Sub (.Call (.Name "len" p8) [.Name "table" p9] [] p10) p11) p12) p13) (tD BT) := fun {p1 p2 p3 p4 p5 p6 p7 p8 p9 p10 p11 p12 p13 j1 j2} => by
    refine ad_cat st_env hT (ad_repE (φ := Sz 400 1) (i := 7 - (((rws prs).map dRow).length : Nat)) st_env (ad_disp (au_cons st_env (ad_imp (ad_ixE (k := prs.length - 1) st_env hT (ad_negE (ad_intE pe_int)) (fun _ _ => rfl) (by rw [lr]; exact ixN_last hn.1) (getD_row (by rw [List.length_map]; omega))) fun z e => ?_) au_nil)) (ad_subE st_env (ad_intE pe_int) (ad_lenE hT T.len)) (by rw [lr]; omega) (by omega)) (fun d e => ⟨_, e, by rw [lr]; omega⟩) (fun d ⟨ds, e, l1, l2, _⟩ => ⟨ds, e, by rw [lr] at l2; omega⟩) fun a c ha ⟨ds, e, l1, l2, hz⟩ => ?_
    · rw [e]
      refine (sz_row0 hg hb _ ?_).1
      rw [List.getD_eq_getElem?_getD, List.getElem?_eq_getElem (by rw [List.length_map]; omega)]
      exact List.getElem_mem _
    · injection ha with ha
      injection e with e
      subst ha e
      rw [lr] at l1 l2
      refine ⟨bad_count (.inr (by rw [List.length_append, lr]; omega)), (sz_list (c := 400) (k := 1) (n := 8) (fun d hd => ?_) (by rw [List.length_append, lr]; omega)).mono (by decide) (by decide)⟩
      rcases List.mem_append.mp hd with z | z
      · obtain ⟨x, hx, rfl⟩ := List.mem_map.mp z
        exact (sz_row0 hg hb x hx).1
      · exact hz d z
  have Z : PS (ktX P w K mg base f cdv A outer s Hs E) (ktS 14) (tAsg (tA (EnvD st D [(1, dTab (rws prs))]) (tD BT)) (gName 15)) := ps_set (i := 15) nd rfl (Or.inl rfl) hL.pe
  generalize ktS 14 = S0 at Z ⊢
  refine tr_set (i := 15) Z fun σ H Q ⟨h, v9⟩ q => ⟨abS st D, ⟨rfl, h.s0, fun x hx => ?_⟩, h.S, fun v H' b S a => q _ _ ⟨(h.but b.but S).set (by decide), (v9.but b).ne (by decide), _, get_eq (by rw [h.len]; decide), a⟩⟩
  simp only [List.mem_cons, List.not_mem_nil, or_false] at hx
  rcases hx with rfl
  exact h.v1
abbrev En15 (st D : Addr) (prs : Prs) : EnB := fun B σ H => EnvL st D [(1, dTab (rws prs))] 9 (LP BT 9 15) B σ H ∧ VP B σ H 15 BT
theorem st_15 : StbE (En15 st D prs) := fun _ _ _ _ ⟨h1, h2⟩ b => ⟨st_envL _ _ _ _ h1 b, h2.but b⟩
set_option maxHeartbeats 32000000 in
theorem kr15 (htu : mg "tuple" = none) (hg : tabB prs = true) (hb : Bnd prs) : PS (ktX P w K mg base f cdv A outer s Hs E) (ktS 15) (tTr (K15 st D t prs H0 9 15) (K13 st D t prs H0 20 26)) := by
  have nd := sc_noTab.nd
  have gR := goodR_of hg
  have hn : 1 ≤ prs.length ∧ prs.length ≤ 6 := by
    have := gR.n
    rwa [List.length_map] at this
  have hT : ∀ {p : Pos}, AE (ktX P w K mg base f cdv A outer s Hs E) (En15 st D prs) (.Name "table" p) (tE (.list ((rws prs).map dRow))) := fun {p} => ad_vr (pv 1) fun B σ H q => q.1.1.2.2 _ (.head _)
  have hA : ∀ {p : Pos}, AE (ktX P w K mg base f cdv A outer s Hs E) (En15 st D prs) (.Name "long" p) (tD BT) := fun {p} => ad_var (pv 15) fun B σ H q => q.2
  have szT : Sz 10000 3 (.list ((rws prs).map dRow)) := (sz_list (c := 400) (k := 1) (n := 6) (fun d hd => by
    obtain ⟨x, hx, rfl⟩ := List.mem_map.mp hd
    exact (sz_row0 hg hb x hx).1) (by simp only [List.length_map]; omega)).mono (by decide) (by decide)
  have szU : Sz 10000 3 (.tuple ((rws prs).map dRow)) := (sz_tuple (c := 400) (k := 1) (n := 6) (fun d hd => by
    obtain ⟨x, hx, rfl⟩ := List.mem_map.mp hd
    exact (sz_row0 hg hb x hx).1) (by simp only [List.length_map]; omega)).mono (by decide) (by decide)
  have hL : BT (.list [.list ((rws prs).map dRow)]) := by
    refine ⟨bad_any (d := .list ((rws prs).map dRow)) (.head _) ?_, (sz_list (n := 1) (fun d hd => by rw [List.mem_singleton.mp hd]; exact szT) (Nat.le_refl _)).mono (by decide) (by decide)⟩
    have h0 : 0 < (rws prs).length := by simp only [List.length_map]; exact hn.1
    rw [rowD_list]
    have : ((rws prs).map dRow).all isIntD = false := by
      rw [List.all_eq_false]
      exact ⟨dRow ((rws prs)[0]'h0), List.mem_map.mpr ⟨_, List.getElem_mem h0, rfl⟩, by simp [isIntD, dRow]⟩
    rw [this, Bool.and_false]
  have Z : PS (ktX P w K mg base f cdv A outer s Hs E) (ktS 15) (tAsg (tA (En15 st D prs) (tD (LP BT (9 + 11) (15 + 11)))) (gName 9)) :=
    ps_set (i := 9) nd rfl (Or.inl rfl) (ad_more (φ := BT) st_15 (ad_var (pv 9) fun B σ H q => q.1.2)
      (ad_disp (au_cons st_15 hA (au_cons st_15 (ad_lit (.list []) st_15 (by kernel_rfl) ⟨bad_count (.inl rfl), (sz_of (c := 1000) (k := 4) (by decide +kernel)).mono (by decide) (by decide)⟩) (au_cons st_15 (ad_lit (.list [.list []]) st_15 (by kernel_rfl) ⟨bad_any (d := .list []) (.head _) rfl, (sz_of (c := 1000) (k := 4) (by decide +kernel)).mono (by decide) (by decide)⟩) (au_cons st_15 (ad_lit .none st_15 (by kernel_rfl) (bt_lit (fun _ e => by cases e) (by decide +kernel))) (au_cons st_15 (ad_lit (.int 0) st_15 (by kernel_rfl) (bt_lit (fun _ e => by cases e) (by decide +kernel))) (au_cons st_15 (ad_lit (.str "") st_15 (by kernel_rfl) (bt_lit (fun _ e => by cases e) (by decide +kernel))) (au_cons st_15 (ad_lit (.dict []) st_15 (by kernel_rfl) (bt_lit (fun _ e => by cases e) (by decide +kernel))) (au_cons st_15 (ad_lit (.tuple []) st_15 (by kernel_rfl) (bt_lit (fun _ e => by cases e) (by decide +kernel))) (au_cons st_15 (ad_lit (.bool true) st_15 (by kernel_rfl) (bt_lit (fun _ e => by cases e) (by decide +kernel)))
        (au_cons st_15 (ad_imp (ad_tupleOf hT htu) fun z e => by rw [e]; exact ⟨bad_kind (fun _ e => by cases e), szU.mono (by decide) (by decide)⟩) (au_cons st_15 (ad_imp (ad_lstE (ax_consE st_15 hT ax_nil) (by simp)) fun z e => by rw [e]; exact hL) au_nil))))))))))))).pe
  generalize ktS 15 = S0 at Z ⊢
  refine tr_set (i := 9) Z fun σ H Q ⟨h, v9, v15⟩ q => ?_
  refine ⟨abS st D, ⟨⟨⟨rfl, h.s0, fun x hx => ?_⟩, v9⟩, v15⟩, h.S, fun v H' b S a => ?_⟩
  · simp only [List.mem_cons, List.not_mem_nil, or_false] at hx
    rcases hx with rfl
    exact h.v1
  · obtain ⟨d, rd, z⟩ := a
    exact q _ _ ⟨(h.but b.but S).set (by decide), _, get_eq (by rw [h.len]; decide), d, rd, lp_mono z (by decide) (by decide)⟩
set_option maxHeartbeats 16000000 in
theorem ok_noTabK (T : Blt mg) (htu : mg "tuple" = none) (Df : DefAt K mg "_law_no_table" dNoTable ["store", "table"]) (G : FnAt P w K mg base 1 "_law_take" ["store", "many"] spTakeK) (G2 : FnAt P w K mg base 2 "_law_uneven" ["store", "table"] spNoTabK) : FnAt P w K mg base 3 "_law_no_table" ["store", "table"] spNoTabK := by
  refine FnAt.of Df sc_noTab (fun vs H Q E h => ?_) (fun f cdv A outer s H vs Q E hr h => ?_)
  · obtain ⟨st, t, prs, rfl, _⟩ := h
    rfl
  · obtain ⟨st, t, prs, rfl, hS0, hT, nt, np, hg, hb, q⟩ := h
    have hr1 : Room 1 (ktX P w K mg base f cdv A outer s H E).A := hr.mono (by decide)
    have hr2 : Room 2 (ktX P w K mg base f cdv A outer s H E).A := hr
    have T0 := @kr0 P w K mg base f cdv A outer s H H E st 0 t prs T G hr1 hg
    have T1 := @kr1 P w K mg base f cdv A outer s H H E st 0 t prs T G hr1 hg
    have T2 := @kr2 P w K mg base f cdv A outer s H H E st 0 t prs G hr1
    have T3 := @kr3 P w K mg base f cdv A outer s H H E st 0 t prs
    have T4 := @kr4 P w K mg base f cdv A outer s H H E st 0 t prs hg hb
    have T5 := @kr5 P w K mg base f cdv A outer s H H E st 0 t prs T htu hg hb
    have T6 := @kr6 P w K mg base f cdv A outer s H H E st 0 t prs T hg hb
    have T7 := @kr7 P w K mg base f cdv A outer s H H E st 0 t prs T G hr1 hg hb
    have T8 := @kr8 P w K mg base f cdv A outer s H H E st 0 t prs T G hr1 hg hb
    have T9 := @kr9 P w K mg base f cdv A outer s H H E st 0 t prs G hr1 hg hb
    have T10 := @kr10 P w K mg base f cdv A outer s H H E st 0 t prs
    have T11 := @kr11 P w K mg base f cdv A outer s H H E st 0 t prs T hg
    have T12 := @kr12 P w K mg base f cdv A outer s H H E st 0 t prs T G hr1 hg hb
    have T13 := @kr13 P w K mg base f cdv A outer s H H E st 0 t prs G2 hr2 hg hb
    have T14 := @kr14 P w K mg base f cdv A outer s H H E st 0 t prs T hg hb
    have T15 := @kr15 P w K mg base f cdv A outer s H H E st 0 t prs htu hg hb
    have T16 : PS (ktX P w K mg base f cdv A outer s H E) (ktS 16) _ := ps_ret (pe_ix ix_list (pv 9) (pe_f G hr1 (pa_cons (pv 0) (pa_cons (pe_b call_len_seq T.len boot_len (pa_cons (pv 9) pa_nil)) pa_nil))) (fun _ _ => rfl))
    have n0 : NtC st 0 t prs H 16 (start ktN [.ref st, .ref t]) H := ⟨rfl, rfl, rfl, But.refl _ _, hS0, hT, nt, np⟩
    have hbd : defBody dNoTable = [ktS 0, ktS 1, ktS 2, ktS 3, ktS 4, ktS 5, ktS 6, ktS 7, ktS 8, ktS 9, ktS 10, ktS 11, ktS 12, ktS 13, ktS 14, ktS 15, ktS 16] := by kernel_rfl
    rw [hbd]
    clear hbd
    generalize ktS 0 = S0 at *
    generalize ktS 1 = S1 at *
    generalize ktS 2 = S2 at *
    generalize ktS 3 = S3 at *
    generalize ktS 4 = S4 at *
    generalize ktS 5 = S5 at *
    generalize ktS 6 = S6 at *
    generalize ktS 7 = S7 at *
    generalize ktS 8 = S8 at *
    generalize ktS 9 = S9 at *
    generalize ktS 10 = S10 at *
    generalize ktS 11 = S11 at *
    generalize ktS 12 = S12 at *
    generalize ktS 13 = S13 at *
    generalize ktS 14 = S14 at *
    generalize ktS 15 = S15 at *
    generalize ktS 16 = S16 at *
    refine ⟨_, pss_tr T0 (pss_tr T1 (pss_tr T2 (pss_tr T3 (pss_tr T4 (pss_tr T5 (pss_tr T6 (pss_tr T7 (pss_tr T8 (pss_tr T9 (pss_tr T10 (pss_tr T11 (pss_tr T12 (pss_tr T13 (pss_tr T14 (pss_tr T15 (pss_end (pss_one T16))))))))))))))))), n0, fun σ H1 n => ?_⟩
    obtain ⟨h, v, e9, d9, r9, ds, rfl, hd1, hd2, hds⟩ := n
    cases r9 with
    | @lst a9 xs _ ea na ra =>
      refine ⟨_, e9, _, h.s0, _, e9, a9, _, rfl, .inl (SqL.of ea), st, _, rfl, by rw [ra.length]; omega, by rw [ra.length]; omega, h.S, fun d H2 d0 d1 b2 S2 => ?_⟩
      have ra2 := rdss_but ra b2.butS
      have ea2 := b2.butS _ _ na ea
      obtain ⟨x, hx, hat⟩ := at_memV (xs := xs) d0 d1
      obtain ⟨dx, hdx, rx⟩ := rdss_at' ra2 hx
      exact ⟨a9, xs, d, x, rfl, rfl, SqL.of ea2, hat, q x dx H2 (h.b.trans b2) S2 rx (hds dx hdx)⟩
end
end Seek
namespace Seek
open PySem L2 PyProof.Rows
/-- one class of the twelve (the i-th of cs), as the laws ask of it -/
structure Err (K : PySem.W.Frag) (S : Addr) (cs : List Addr) (i : Nat) (C : Addr) : Prop where
  k : ExcK K C
  sk : PySem.W.mroIn K C (.ref S) = some true
  kv : PySem.W.kitOne K (.ref C) (.type "ValueError") = some true
  ks : ∀ j D, cs[j]? = some D → PySem.W.kitOne K (.ref C) (.ref D) = some (decide (j = i))
theorem rdss_ints {S : List Addr} {H : Hp} : ∀ ns : List Int, RdSs S H (ns.map V.int) (ns.map PyData.int)
  | [] => .nil
  | n :: r => .cons (.int n) (rdss_ints r)
theorem rdss_rows {H : Hp} : ∀ prs : Prs, (∀ p ∈ prs, Row H p.1 p.2) → RdSs [] H (prs.map fun p => V.ref p.1) ((prs.map (·.2)).map dRow)
  | [], _ => .nil
  | p :: r, h => .cons (.lst (h p (by simp)) (by simp) (rdss_ints p.2)) (rdss_rows r fun q hq => h q (by simp [hq]))
theorem tab_rds {H : Hp} {t : Addr} {prs : Prs} (hT : Tab H t prs) : RdS [] H (.ref t) (dTab (prs.map (·.2))) := .lst hT.l (by simp) (rdss_rows prs hT.r)
section
variable {P : Program} {w : World} {K : PySem.W.Frag} {mg : Str → Option Value} {base : Heap} {c c0 c1 c2 : Addr}
/-! need_table, need_number of any thing -/
def spNeedTX (c : Addr) : Sp := fun vs H Q E => ∃ (x : V) (d : PyData), vs = [x] ∧ RdS [] H x d ∧ (GoodD d → ∀ H', Same H H' → Q .non H') ∧ (¬ GoodD d → ∀ H', Same H H' → E (.ref c) none H')
theorem ok_needTX (hk : ExcK K c) (hm : mg "NoTable" = some (.ref c)) (D : DefAt K mg "need_table" dNeedTable ["thing"]) (G : FnAt P w K mg base 5 "is_table" ["thing"] spIsTableA) : FnAtX P w K mg base 6 "need_table" ["thing"] (spNeedTX c) := by
  refine FnAtX.of D sc_needTable (fun vs H Q E h => ?_) (fun f cdv A outer s H vs Q E hr h => ?_)
  · obtain ⟨x, d, rfl, _⟩ := h
    rfl
  · obtain ⟨x, d, rfl, rd, hq, he⟩ := h
    refine ⟨_, pss_one (ps_if (pt_not (pt_val (pe_f G hr (pa_cons (pv 0) pa_nil)))) (pss_one (ps_raise throws_def hk pe_str hm)) pss_nil), ?_⟩
    refine ⟨_, rfl, x, d, rfl, rd, fun b H1 hb s1 => ⟨_, rfl, ?_⟩⟩
    cases b with
    | false => exact iteT (he (fun g => by have := hb.mpr g; cases this) H1 s1)
    | true => exact iteF (hq (hb.mp rfl) H1 s1)
def spNeedNX (c : Addr) : Sp := fun vs H Q E => ∃ (x : V) (d : PyData), vs = [x] ∧ RdS [] H x d ∧ (isIntD d = true → Q .non H) ∧ (isIntD d = false → E (.ref c) none H)
theorem ok_needNX (hk : ExcK K c) (hm : mg "NoNumber" = some (.ref c)) (D : DefAt K mg "need_number" dNeedNumber ["thing"]) (G : FnAt P w K mg base 1 "is_whole" ["thing"] spIsWholeA) : FnAtX P w K mg base 2 "need_number" ["thing"] (spNeedNX c) := by
  refine FnAtX.of D sc_needNumber (fun vs H Q E h => ?_) (fun f cdv A outer s H vs Q E hr h => ?_)
  · obtain ⟨x, d, rfl, _⟩ := h
    rfl
  · obtain ⟨x, d, rfl, rd, hq, he⟩ := h
    refine ⟨_, pss_one (ps_if (pt_not (pt_val (pe_f G hr (pa_cons (pv 0) pa_nil)))) (pss_one (ps_raise throws_def hk pe_str hm)) pss_nil), ?_⟩
    refine ⟨_, rfl, x, d, rfl, rd, _, rfl, ?_⟩
    cases e : isIntD d with
    | false => exact iteT (he e)
    | true => exact iteF (hq e)
end
end Seek
namespace L2
open PySem PySem.Spec PyProof.Rows
theorem boot_ValueError : bootBuiltins "ValueError" = some (.type "ValueError") := by kernel_rfl
section
variable {X : Cx}
/-- isinstance of a caught exception -/
theorem call_isinstE (K : PySem.W.Frag) (hK : X.K = K := by rfl) : CallR X (.builtin "isinstance") (fun xs H Q => ∃ e C D b, xs = [.ref e, .ref D] ∧ H e = some (excO e C) ∧ ExcK K C ∧ PySem.W.kitOne K (.ref C) (.ref D) = some b ∧ Q (.bl b) H) := by
  subst hK
  intro pins s σ H xs us Q I rv h
  obtain ⟨e, C, D, b, rfl, he, kC, hk, q⟩ := h
  obtain ⟨u, v, rfl, r1, r2⟩ := rv.two
  obtain rfl : u = .ref e := r1
  obtain rfl : v = .ref D := r2
  exact PySem.W.kia_one (kitx_exc kC) I.kIn (excO_at I he) hk (fun z => nomatch z) fun tk => ⟨.bl b, H, I.tok tk, rfl, q⟩
theorem call_isinstET (K : PySem.W.Frag) (hK : X.K = K := by rfl) : CallR X (.builtin "isinstance") (fun xs H Q => ∃ e C T b, xs = [.ref e, .ty T] ∧ H e = some (excO e C) ∧ ExcK K C ∧ PySem.W.kitOne K (.ref C) (.type T) = some b ∧ Q (.bl b) H) := by
  subst hK
  intro pins s σ H xs us Q I rv h
  obtain ⟨e, C, T, b, rfl, he, kC, hk, q⟩ := h
  obtain ⟨u, v, rfl, r1, r2⟩ := rv.two
  obtain rfl : u = .ref e := r1
  obtain rfl : v = .type T := r2
  exact PySem.W.kia_one (kitx_exc kC) I.kIn (excO_at I he) hk (fun z => nomatch z) fun tk => ⟨.bl b, H, I.tok tk, rfl, q⟩
end
end L2
namespace L2
open PySem PySem.Spec PyProof.Rows
/-- over zip of two lists of one length, with an if -/
theorem compZ_if {K : PySem.W.Frag} {a c : Addr} {xs zs : List V} {σ0 : St} {H1 : Hp} {tc : TT} {te : TE} {Q : VK} (p : Nat → Bool) (f : Nat → V) (hq : SqL K H1 a xs) (hq2 : SqL K H1 c zs) (hlen : xs.length = zs.length) (hn : xs.length ≤ 1000)
    (hc : ∀ i x z, xs[i]? = some x → zs[i]? = some z → ∀ H' (Q' : Bool → Hp → Prop), Same H1 H' → Q' (p i) H' → tc ((σ0.set 0 (some x)).set 1 (some z)) H' Q')
    (he : ∀ i x z, xs[i]? = some x → zs[i]? = some z → ∀ H' (Q' : VK), Same H1 H' → Q' (f i) H' → te ((σ0.set 0 (some x)).set 1 (some z)) H' Q')
    (fin : ∀ D H', H1 D = none → Same H1 H' → H' D = some (.lst (((List.range xs.length).filter p).map f)) → Q (.ref D) H') :
    CompRun (Itz K a c) (gTup K 2 (gCons (gName 0) (gCons (gName 1) gNil))) tc te σ0 H1 Q := by
  intro D hD
  refine ⟨fun i m ys σ' H' => m = xs.length - i ∧ i ≤ xs.length ∧ (∀ u v, (σ'.set 0 u).set 1 v = (σ0.set 0 u).set 1 v) ∧ Same H1 H' ∧ H' D = some (.lst ys) ∧ ys = ((List.range i).filter p).map f, ⟨xs.length, by simp, Nat.zero_le _, fun _ _ => rfl, Same.new hD, upd_same, by simp⟩, ?_⟩
  rintro i m ys σ' H' ⟨rfl, hi, es, sm, hDl, hys⟩
  refine ⟨hDl, ?_⟩
  have q := sm.seq hq
  have q2 := sm.seq hq2
  by_cases hlt : i < xs.length
  · refine .inr ⟨⟨_, _, xs[i], zs[i]'(by omega), q, q2, by simp [hlt], by simp⟩, fun x H2 y => ?_⟩
    obtain ⟨T, z, z2, rfl, hT, rfl, y, y2⟩ := y
    have y := y _ q
    have y2 := y2 _ q2
    have smT : Same H' (upd H' T (.tup [z, z2])) := Same.new hT
    refine ⟨T, _, rfl, SqT.of upd_same, rfl, _, _, rfl, _, _, rfl, rfl, ?_⟩
    rw [es]
    refine hc i _ _ y y2 _ _ (sm.trans smT) ?_
    cases hp : p i with
    | true =>
      refine iteT (he i _ _ y y2 _ _ (sm.trans smT) ⟨smT _ _ hDl, ?_, xs.length - (i + 1), by omega, rfl, hlt, fun _ _ => set2, (sm.trans smT).upd hD, upd_same, ?_⟩)
      · rw [hys, List.length_map]
        have := List.length_filter_le p (List.range i)
        rw [List.length_range] at this
        exact small1000 (by omega)
      · rw [List.range_succ, List.filter_append, List.map_append, ← hys]
        simp [hp]
    | false =>
      refine iteF ⟨xs.length - (i + 1), by omega, rfl, hlt, fun _ _ => set2, sm.trans smT, smT _ _ hDl, ?_⟩
      rw [List.range_succ, List.filter_append, List.map_append, ← hys]
      simp [hp]
  · have e : i = xs.length := by omega
    subst e
    exact .inl ⟨⟨_, _, q, q2, .inl (Nat.le_refl _)⟩, fin D H' hD sm (by rw [hDl, hys])⟩
end L2
namespace Seek
open PySem L2 PyProof.Rows
/-- the classes by name, and the one above them -/
structure Nms (mg : Str → Option Value) (S : Addr) (cs : List Addr) : Prop where
  len : cs.length = 12
  seek : mg "SeekError" = some (.ref S)
  n0 : mg "NoTable" = some (.ref (cs.getD 0 0))
  n1 : mg "NoCell" = some (.ref (cs.getD 1 0))
  n2 : mg "NoNumber" = some (.ref (cs.getD 2 0))
  n3 : mg "NoSize" = some (.ref (cs.getD 3 0))
  n4 : mg "NoStair" = some (.ref (cs.getD 4 0))
  n5 : mg "NoLook" = some (.ref (cs.getD 5 0))
  n6 : mg "NoPlace" = some (.ref (cs.getD 6 0))
  n7 : mg "NoFit" = some (.ref (cs.getD 7 0))
  n8 : mg "NoChange" = some (.ref (cs.getD 8 0))
  n9 : mg "NoText" = some (.ref (cs.getD 9 0))
  n10 : mg "NoName" = some (.ref (cs.getD 10 0))
  n11 : mg "NoRow" = some (.ref (cs.getD 11 0))
theorem Err.kit {K : PySem.W.Frag} {S : Addr} {cs : List Addr} {i : Nat} {C : Addr} (h : Err K S cs i C) (hl : cs.length = 12) (j : Nat) (hj : j < 12) : PySem.W.kitOne K (.ref C) (.ref (cs.getD j 0)) = some (decide (j = i)) :=
  h.ks j _ (by rw [List.getD_eq_getElem?_getD, List.getElem?_eq_getElem (by omega)]; rfl)
def abT : Ab := ⟨[], fun _ => True, fun _ _ => trivial, fun _ _ => by simp⟩
def wdL : List Str := ["table", "cell", "number", "size", "stair", "look", "place", "fit", "change", "text", "name", "row"]
theorem rdss_strs {S : List Addr} {H : Hp} : ∀ {xs : List V} {ws : List Str}, RdSs S H xs (ws.map PyData.str) → xs = ws.map V.str
  | _, [], .nil => rfl
  | _, _ :: _, .cons r t => by
    cases r
    rw [List.map_cons, rdss_strs t]
theorem eqv_str1 (a b : Str) : PyData.eqv (.list [.str a]) (.list [.str b]) = decide (a = b) := by
  by_cases h : a = b <;> simp [PyData.eqv, PyData.eqvAll, h]
section
variable {P : Program} {w : World} {K : PySem.W.Frag} {mg : Str → Option Value} {base : Heap} {S : Addr} {cs : List Addr}
def spKind (K : PySem.W.Frag) (S : Addr) (cs : List Addr) : Sp := fun vs H Q _ => ∃ (e C : Addr) (i : Nat) (wd : Str), vs = [.ref e, .str wd] ∧ H e = some (excO e C) ∧ Err K S cs i C ∧ i < 12 ∧ SeqAt.shaped (.list [.str wd]) = true ∧ ∀ H', Same H H' → Q (.bl (decide (wdL.getD i "" = wd))) H'
abbrev kdN : List Str := ["e", "due", "kinds", "words", "found"]
theorem sc_kind : FnScope kdN ["e", "due"] (defScope dKind) := ⟨rfl, rfl, rfl, by decide +kernel, rfl, by decide +kernel, by decide +kernel⟩
def kb (i m : Nat) : List Bool := (List.range m).map fun c => decide (c = i)
theorem kb_at {i m j : Nat} (h : j < m) : ((kb i m).map V.bl)[j]? = some (.bl (decide (j = i))) := by
  unfold kb
  rw [List.map_map, List.getElem?_map, List.getElem?_range h]
  rfl
theorem wd_one {i : Nat} (h : i < 12) : ((List.range 12).filter fun j => decide (j = i)).map (fun j => V.str (wdL.getD j "")) = [V.str (wdL.getD i "")] := by
  have : (List.range 12).filter (fun j => decide (j = i)) = [i] := by
    have : ∀ i : Fin 12, (List.range 12).filter (fun j => decide (j = i.1)) = [i.1] := by decide
    exact this ⟨i, h⟩
  rw [this]
  rfl
theorem sh_wd {i : Nat} (h : i < 12) : SeqAt.shaped (.list [.str (wdL.getD i "")]) = true := by
  have : ∀ i : Fin 12, SeqAt.shaped (.list [.str (wdL.getD i.1 "")]) = true := by decide +kernel
  exact this ⟨i, h⟩
set_option maxHeartbeats 16000000 in
theorem ok_kind (T : Blt mg) (hzip : mg "zip" = none) (hve : mg "ValueError" = none) (N : Nms mg S cs) (Df : DefAt K mg "_law_kind" dKind ["e", "due"]) : FnAt P w K mg base 1 "_law_kind" ["e", "due"] (spKind K S cs) := by
  refine FnAt.of Df sc_kind (fun vs H Q E h => ?_) (fun f cdv A outer s H vs Q E hr h => ?_)
  · obtain ⟨e, C, i, wd, rfl, _⟩ := h
    rfl
  · obtain ⟨e, C, i, wd, rfl, he, er, hi, hw, q⟩ := h
    have nd := sc_kind.nd
    have nd1 : (["word", "kind"] : List Str).Nodup := by decide +kernel
    let X : Cx := (cxOf CX0 P w K mg base kdN "_law_kind" (defScope dKind) f cdv A outer s H E).nox
    have A0 : PS X ((defBody dKind).getD 0 (.Pass ⟨0, 0, 0, 0⟩)) _ := ps_set (i := 2) nd rfl (Or.inl rfl) (pe_lst (pa_cons (pe_b (call_isinstE K) T.isinst boot_isinstance (pa_cons (pv 0) (pa_cons (pe_glob (v := .ref _) rfl N.n0 rfl) pa_nil))) (pa_cons (pe_b (call_isinstE K) T.isinst boot_isinstance (pa_cons (pv 0) (pa_cons (pe_glob (v := .ref _) rfl N.n1 rfl) pa_nil))) (pa_cons (pe_b (call_isinstE K) T.isinst boot_isinstance (pa_cons (pv 0) (pa_cons (pe_glob (v := .ref _) rfl N.n2 rfl) pa_nil))) (pa_cons (pe_b (call_isinstE K) T.isinst boot_isinstance (pa_cons (pv 0) (pa_cons (pe_glob (v := .ref _) rfl N.n3 rfl) pa_nil))) pa_nil)))))
    have A1 : PS X ((defBody dKind).getD 1 (.Pass ⟨0, 0, 0, 0⟩)) _ := ps_set (i := 2) nd rfl (Or.inl rfl) (pe_op op_cat (pv 2) (pe_lst (pa_cons (pe_b (call_isinstE K) T.isinst boot_isinstance (pa_cons (pv 0) (pa_cons (pe_glob (v := .ref _) rfl N.n4 rfl) pa_nil))) (pa_cons (pe_b (call_isinstE K) T.isinst boot_isinstance (pa_cons (pv 0) (pa_cons (pe_glob (v := .ref _) rfl N.n5 rfl) pa_nil))) (pa_cons (pe_b (call_isinstE K) T.isinst boot_isinstance (pa_cons (pv 0) (pa_cons (pe_glob (v := .ref _) rfl N.n6 rfl) pa_nil))) (pa_cons (pe_b (call_isinstE K) T.isinst boot_isinstance (pa_cons (pv 0) (pa_cons (pe_glob (v := .ref _) rfl N.n7 rfl) pa_nil))) pa_nil))))))
    have A2 : PS X ((defBody dKind).getD 2 (.Pass ⟨0, 0, 0, 0⟩)) _ := ps_set (i := 2) nd rfl (Or.inl rfl) (pe_op op_cat (pv 2) (pe_lst (pa_cons (pe_b (call_isinstE K) T.isinst boot_isinstance (pa_cons (pv 0) (pa_cons (pe_glob (v := .ref _) rfl N.n8 rfl) pa_nil))) (pa_cons (pe_b (call_isinstE K) T.isinst boot_isinstance (pa_cons (pv 0) (pa_cons (pe_glob (v := .ref _) rfl N.n9 rfl) pa_nil))) (pa_cons (pe_b (call_isinstE K) T.isinst boot_isinstance (pa_cons (pv 0) (pa_cons (pe_glob (v := .ref _) rfl N.n10 rfl) pa_nil))) (pa_cons (pe_b (call_isinstE K) T.isinst boot_isinstance (pa_cons (pv 0) (pa_cons (pe_glob (v := .ref _) rfl N.n11 rfl) pa_nil))) pa_nil))))))
    have L3 := fun (es : List Expr) (p1 p2 p3 : Pos) => ps_w1 (X := X) (C := fun d => litOf 40 (.List es p1) = some d) fun d h => ps_set (X := X) (pos := p2) (pos' := p3) (i := 3) nd rfl (Or.inl rfl) (ad_lit (φ := (· = d)) (Γ := fun B _ _ => B = abT) d (fun _ _ _ _ h _ => h) h rfl).pe
    have A3 : PS X ((defBody dKind).getD 3 (.Pass ⟨0, 0, 0, 0⟩)) _ := L3 _ _ _ _
    have A4 : PS X ((defBody dKind).getD 4 (.Pass ⟨0, 0, 0, 0⟩)) _ := ps_setC ["word", "kind"] [none, none] (defScope dKind) kdN (i := 4) nd rfl (Or.inl rfl) rfl (pi_zip rfl hzip (pa_cons (pv 3) (pa_cons (pv 2) pa_nil))) (by decide +kernel) (fun cl C s2 H2 ex => pg_cz K rfl nd1) (fun cl C s2 H2 ex => pifs_one (pt_val (pv 1))) (fun cl C s2 H2 ex => pv 0)
    have A5 : PS X ((defBody dKind).getD 5 (.Pass ⟨0, 0, 0, 0⟩)) _ := ps_ret (pe_and (pe_b (call_isinstET K) T.isinst boot_isinstance (pa_cons (pv 0) (pa_cons (pe_ty hve boot_ValueError) pa_nil))) (pe_one (pe_cmpR (op_eqD hr.units) (pv 4) (pe_lst (pa_cons (pv 1) pa_nil)) (nomark _))))
    obtain ⟨B0, e0⟩ : ∃ S, S = (defBody dKind).getD 0 (.Pass ⟨0, 0, 0, 0⟩) := ⟨_, rfl⟩
    rw [← e0] at A0
    obtain ⟨B1, e1⟩ : ∃ S, S = (defBody dKind).getD 1 (.Pass ⟨0, 0, 0, 0⟩) := ⟨_, rfl⟩
    rw [← e1] at A1
    obtain ⟨B2, e2⟩ : ∃ S, S = (defBody dKind).getD 2 (.Pass ⟨0, 0, 0, 0⟩) := ⟨_, rfl⟩
    rw [← e2] at A2
    obtain ⟨B3, e3⟩ : ∃ S, S = (defBody dKind).getD 3 (.Pass ⟨0, 0, 0, 0⟩) := ⟨_, rfl⟩
    rw [← e3] at A3
    obtain ⟨B4, e4⟩ : ∃ S, S = (defBody dKind).getD 4 (.Pass ⟨0, 0, 0, 0⟩) := ⟨_, rfl⟩
    rw [← e4] at A4
    obtain ⟨B5, e5⟩ : ∃ S, S = (defBody dKind).getD 5 (.Pass ⟨0, 0, 0, 0⟩) := ⟨_, rfl⟩
    rw [← e5] at A5
    have hbd : defBody dKind = [B0, B1, B2, B3, B4, B5] := by
      rw [e0, e1, e2, e3, e4, e5]
      kernel_rfl
    rw [hbd]
    clear hbd e0 e1 e2 e3 e4 e5 L3
    have kk := er.kit N.len
    refine ⟨_, pss_cons A0 (pss_cons A1 (pss_cons A2 (pss_cons A3 (pss_cons A4 (pss_one A5))))), ?_⟩
    refine ⟨_, rfl, e, C, _, _, rfl, he, er.k, kk 0 (by decide), _, rfl, e, C, _, _, rfl, he, er.k, kk 1 (by decide), _, rfl, e, C, _, _, rfl, he, er.k, kk 2 (by decide), _, rfl, e, C, _, _, rfl, he, er.k, kk 3 (by decide), len4, fun l1 h1 => ?_⟩
    have s1 := Same.new (o := .lst [.bl (decide (0 = i)), .bl (decide (1 = i)), .bl (decide (2 = i)), .bl (decide (3 = i))]) h1
    have e1 : (upd H l1 (.lst [.bl (decide (0 = i)), .bl (decide (1 = i)), .bl (decide (2 = i)), .bl (decide (3 = i))])) l1 = some (.lst ((kb i 4).map V.bl)) := upd_same
    generalize upd H l1 (.lst [.bl (decide (0 = i)), .bl (decide (1 = i)), .bl (decide (2 = i)), .bl (decide (3 = i))]) = H1 at s1 e1 ⊢
    have he1 := s1 _ _ he
    refine ⟨_, rfl, _, rfl, e, C, _, _, rfl, he1, er.k, kk 4 (by decide), _, rfl, e, C, _, _, rfl, he1, er.k, kk 5 (by decide), _, rfl, e, C, _, _, rfl, he1, er.k, kk 6 (by decide), _, rfl, e, C, _, _, rfl, he1, er.k, kk 7 (by decide), len4, fun l2 h2 => ⟨l1, l2, _, _, rfl, rfl, Same.new h2 _ _ e1, upd_same, (show 8 ≤ sizeLine by decide), fun l3 h3 => ?_⟩⟩
    have s3 := s1.trans ((Same.new (o := .lst [.bl (decide (4 = i)), .bl (decide (5 = i)), .bl (decide (6 = i)), .bl (decide (7 = i))]) h2).trans (Same.new (o := .lst ((kb i 4).map V.bl ++ [.bl (decide (4 = i)), .bl (decide (5 = i)), .bl (decide (6 = i)), .bl (decide (7 = i))])) h3))
    have e3 : (upd (upd H1 l2 (.lst [.bl (decide (4 = i)), .bl (decide (5 = i)), .bl (decide (6 = i)), .bl (decide (7 = i))])) l3 (.lst ((kb i 4).map V.bl ++ [.bl (decide (4 = i)), .bl (decide (5 = i)), .bl (decide (6 = i)), .bl (decide (7 = i))]))) l3 = some (.lst ((kb i 8).map V.bl)) := upd_same
    generalize upd (upd H1 l2 (.lst [.bl (decide (4 = i)), .bl (decide (5 = i)), .bl (decide (6 = i)), .bl (decide (7 = i))])) l3 (.lst ((kb i 4).map V.bl ++ [.bl (decide (4 = i)), .bl (decide (5 = i)), .bl (decide (6 = i)), .bl (decide (7 = i))])) = H3 at s3 e3 ⊢
    have he3 := s3 _ _ he
    refine ⟨_, rfl, _, rfl, e, C, _, _, rfl, he3, er.k, kk 8 (by decide), _, rfl, e, C, _, _, rfl, he3, er.k, kk 9 (by decide), _, rfl, e, C, _, _, rfl, he3, er.k, kk 10 (by decide), _, rfl, e, C, _, _, rfl, he3, er.k, kk 11 (by decide), len4, fun l4 h4 => ⟨l3, l4, _, _, rfl, rfl, Same.new h4 _ _ e3, upd_same, (show 12 ≤ sizeLine by decide), fun l5 h5 => ?_⟩⟩
    have s5 := s3.trans ((Same.new (o := .lst [.bl (decide (8 = i)), .bl (decide (9 = i)), .bl (decide (10 = i)), .bl (decide (11 = i))]) h4).trans (Same.new (o := .lst ((kb i 8).map V.bl ++ [.bl (decide (8 = i)), .bl (decide (9 = i)), .bl (decide (10 = i)), .bl (decide (11 = i))])) h5))
    have e5 : (upd (upd H3 l4 (.lst [.bl (decide (8 = i)), .bl (decide (9 = i)), .bl (decide (10 = i)), .bl (decide (11 = i))])) l5 (.lst ((kb i 8).map V.bl ++ [.bl (decide (8 = i)), .bl (decide (9 = i)), .bl (decide (10 = i)), .bl (decide (11 = i))]))) l5 = some (.lst ((kb i 12).map V.bl)) := upd_same
    generalize upd (upd H3 l4 (.lst [.bl (decide (8 = i)), .bl (decide (9 = i)), .bl (decide (10 = i)), .bl (decide (11 = i))])) l5 (.lst ((kb i 8).map V.bl ++ [.bl (decide (8 = i)), .bl (decide (9 = i)), .bl (decide (10 = i)), .bl (decide (11 = i))])) = H5 at s5 e5 ⊢
    refine ⟨.list (wdL.map PyData.str), by kernel_rfl, abT, rfl, trivial, fun v6 H6 b6 _ ⟨d6, r6, e6⟩ => ?_⟩
    subst e6
    have s6 : Same H H6 := fun b o e => b6 b o (by simp [abT]) (s5 _ _ e)
    have e56 : H6 l5 = some (.lst ((kb i 12).map V.bl)) := b6 _ _ (by simp [abT]) e5
    cases r6 with
    | @lst a6 xs6 _ ea6 na6 ra6 =>
      have hx6 := rdss_strs ra6
      subst hx6
      refine ⟨_, rfl, _, rfl, a6, l5, rfl, ⟨_, SqL.of ea6⟩, ⟨_, SqL.of e56⟩, compZ_if (fun j => decide (j = i)) (fun j => V.str (wdL.getD j "")) (SqL.of ea6) (SqL.of e56) rfl (show 12 ≤ 1000 by decide) (fun j x z hx hz H' Q' sm q' => ?_) (fun j x z hx hz H' Q' sm q' => ?_) fun D7 H7 hD7 s7 eD7 => ?_⟩
      · have hj : j < 12 := by
          have := (List.getElem?_eq_some_iff.mp hx).1
          rw [List.length_map] at this
          exact this
        rw [kb_at hj] at hz
        rw [← Option.some.inj hz]
        exact ⟨_, rfl, _, rfl, q'⟩
      · have hj : j < 12 := by
          have := (List.getElem?_eq_some_iff.mp hx).1
          rw [List.length_map] at this
          exact this
        refine ⟨x, rfl, ?_⟩
        rw [List.getElem?_map] at hx
        obtain ⟨w', h1', h2'⟩ := Option.map_eq_some_iff.mp hx
        have : wdL.getD j "" = w' := by rw [List.getD_eq_getElem?_getD, h1']; rfl
        rw [← h2', ← this]
        exact q'
      · rw [show (wdL.map V.str).length = 12 from rfl, wd_one hi] at eD7
        have he7 := s7 _ _ (s6 _ _ he)
        refine ⟨_, rfl, e, C, _, _, rfl, he7, er.k, er.kv, _, rfl, iteT ⟨_, rfl, _, rfl, len1, fun l8 h8 => ?_⟩⟩
        have s8 := Same.new (o := .lst [.str wd]) h8
        refine ⟨_, _, .lst (SqL.of (s8 _ _ eD7)) (.cons (.str _) .nil), .lst (SqL.of upd_same) (.cons (.str wd) .nil), sh_wd hi, hw, ?_⟩
        rw [show (if false = true then !PyData.eqv (.list [.str (wdL.getD i "")]) (.list [.str wd]) else PyData.eqv (.list [.str (wdL.getD i "")]) (.list [.str wd])) = _ from eqv_str1 _ _]
        exact q _ ((s6.trans s7).trans s8)
end
end Seek
namespace Seek
open PySem L2 PyProof.Rows
/-- a cell of a table, as it is handed in -/
def Cell (H : Hp) (c : Addr) (i j : Nat) : Prop := H c = some (.tup [.int (i : Nat), .int (j : Nat)])
section
variable {P : Program} {w : World} {K : PySem.W.Frag} {mg : Str → Option Value} {base : Heap}
/-! all_whole of a tuple of two -/
def spAllWholeT : Sp := fun vs H Q _ => ∃ (c : Addr) (i j : Nat), vs = [.ref c] ∧ Cell H c i j ∧ ∀ H', Same H H' → Q (.bl true) H'
theorem ok_allWholeT (T : Blt mg) (D : DefAt K mg "all_whole" dAllWhole ["things"]) (G1 : FnAt P w K mg base 1 "is_whole" ["thing"] spIsWhole) : FnAt P w K mg base 2 "all_whole" ["things"] spAllWholeT := by
  refine FnAt.of D sc_allWhole (fun vs H Q E h => ?_) (fun f cdv A outer s H vs Q E hr h => ?_)
  · obtain ⟨c, i, j, rfl, _⟩ := h
    rfl
  · obtain ⟨c, i, j, rfl, hC, q⟩ := h
    have nd1 : (["thing"] : List Str).Nodup := by decide +kernel
    refine ⟨_, pss_one (ps_ret (pe_b (call_all rfl) T.all boot_all (pa_cons (pe_comp ["thing"] [none] (defScope dAllWhole) ["things"] rfl (pi_tup (pv 0)) (by decide +kernel)
      (fun cl C s2 H2 ex => pg_c 0 nd1) (fun cl C s2 H2 ex => pifs_nil) (fun cl C s2 H2 ex => pe_f G1 hr (pa_cons (pv 0) pa_nil))) pa_nil))), ?_⟩
    refine ⟨_, rfl, c, rfl, ⟨_, SqT.of hC⟩, comp_tup V.int (ms := [(i : Int), (j : Int)]) (fun _ => .bl true) (SqT.of hC) (by show 2 ≤ sizeLine; decide) (fun n _ H' Q' sm q' => ?_) fun L H' hL sm hLl => ?_⟩
    · exact ⟨_, rfl, n, rfl, q' _ (Same.refl _)⟩
    · exact ⟨L, [true, true], rfl, SqL.of hLl, q H' sm⟩
/-! is_cell_of_size, is_cell, need_cell, number_at: of good ones -/
def spCellSz : Sp := fun vs H Q _ => ∃ (c : Addr) (r p i j : Nat), vs = [.int (r : Nat), .int (p : Nat), .ref c] ∧ Cell H c i j ∧ i < r ∧ j < p ∧ ∀ H', Same H H' → Q (.bl true) H'
theorem sc_cellSz : FnScope ["rows", "places", "thing"] ["rows", "places", "thing"] (defScope dCellSz) := ⟨rfl, rfl, rfl, by decide +kernel, rfl, by decide +kernel, by decide +kernel⟩
theorem ok_cellSz (T : Blt mg) (htup : mg "tuple" = none) (D : DefAt K mg "is_cell_of_size" dCellSz ["rows", "places", "thing"]) (G : FnAt P w K mg base 2 "all_whole" ["things"] spAllWholeT) : FnAt P w K mg base 3 "is_cell_of_size" ["rows", "places", "thing"] spCellSz := by
  refine FnAt.of D sc_cellSz (fun vs H Q E h => ?_) (fun f cdv A outer s H vs Q E hr h => ?_)
  · obtain ⟨c, r, p, i, j, rfl, _⟩ := h
    rfl
  · obtain ⟨c, r, p, i, j, rfl, hC, hi, hj, q⟩ := h
    refine ⟨_, pss_cons (ps_if (PW.pt (pw_or (pt_not (pt_val (pe_b call_isinst T.isinst boot_isinstance (pa_cons (pv 2) (pa_cons (pe_ty htup boot_tuple) pa_nil))))) (pw_or (pt_cmpR op_ne (pe_b call_len_seq T.len boot_len (pa_cons (pv 2) pa_nil)) pe_int (nomark _)) (pw_or1 (pt_not (pt_val (pe_f G hr (pa_cons (pv 2) pa_nil)))))))) (pss_one (ps_ret pe_bl)) pss_nil)
      (pss_one (ps_ret (pe_and (pe_chain o_le o_lt pe_int (pe_ix ix_tup (pv 2) pe_int (fun _ _ => rfl)) (pv 0))
        (pe_one (pe_chain o_le o_lt pe_int (pe_ix ix_tup (pv 2) pe_int (fun _ _ => rfl)) (pv 1)))))), ?_⟩
    refine ⟨_, rfl, _, _, _, _, rfl, .tup hC, kit_tt _, _, rfl, iteF ⟨_, rfl, c, _, rfl, .inr (SqT.of hC), rfl, _, rfl, ?_⟩⟩
    refine iteF ⟨_, rfl, c, i, j, rfl, hC, fun H1 s1 => ⟨_, rfl, iteF ?_⟩⟩
    have hC1 : Cell H1 c i j := s1 _ _ hC
    refine ⟨_, rfl, c, _, 0, .int (i : Nat), rfl, rfl, SqT.of hC1, rfl, _, _, rfl, rfl, _, rfl, ?_⟩
    rw [decide_eq_true (show (0 : Int) ≤ (i : Nat) by omega)]
    refine iteT ⟨_, rfl, _, _, rfl, rfl, _, rfl, ?_⟩
    rw [decide_eq_true (show ((i : Nat) : Int) < (r : Nat) by omega)]
    refine iteT ⟨_, rfl, c, _, 1, .int (j : Nat), rfl, rfl, SqT.of hC1, rfl, _, _, rfl, rfl, _, rfl, ?_⟩
    rw [decide_eq_true (show (0 : Int) ≤ (j : Nat) by omega)]
    refine iteT ⟨_, rfl, _, _, rfl, rfl, ?_⟩
    rw [decide_eq_true (show ((j : Nat) : Int) < (p : Nat) by omega)]
    exact q H1 s1
def spIsCell : Sp := fun vs H Q _ => ∃ (t c : Addr) (prs : Prs) (i j : Nat), vs = [.ref t, .ref c] ∧ Tab H t prs ∧ tabB prs = true ∧ Cell H c i j ∧ i < prs.length ∧ j < w0 prs ∧ ∀ H', Same H H' → Q (.bl true) H'
theorem sc_isCell : FnScope ["table", "thing"] ["table", "thing"] (defScope dIsCell) := ⟨rfl, rfl, rfl, by decide +kernel, rfl, by decide +kernel, by decide +kernel⟩
theorem ok_isCell (T : Blt mg) (D : DefAt K mg "is_cell" dIsCell ["table", "thing"]) (G : FnAt P w K mg base 3 "is_cell_of_size" ["rows", "places", "thing"] spCellSz) : FnAt P w K mg base 4 "is_cell" ["table", "thing"] spIsCell := by
  refine FnAt.of D sc_isCell (fun vs H Q E h => ?_) (fun f cdv A outer s H vs Q E hr h => ?_)
  · obtain ⟨t, c, prs, i, j, rfl, _⟩ := h
    rfl
  · obtain ⟨t, c, prs, i, j, rfl, hT, hg, hC, hi, hj, q⟩ := h
    obtain ⟨g, g1, g2, g3, g4⟩ := good_of hg
    obtain ⟨p0, hp0, hm0, hx0⟩ := head_at (prs := prs) g1
    refine ⟨_, pss_one (ps_ret (pe_f G hr (pa_cons (pe_b call_len_seq T.len boot_len (pa_cons (pv 0) pa_nil)) (pa_cons (pe_b call_len_seq T.len boot_len (pa_cons (pe_ix ix_list (pv 0) pe_int (fun _ _ => rfl)) pa_nil)) (pa_cons (pv 1) pa_nil))))), ?_⟩
    exact ⟨_, rfl, t, _, rfl, .inl hT.sq, _, rfl, t, _, 0, .ref p0.1, rfl, rfl, hT.sq, atI_nat (j := 0) (by rw [List.getElem?_map, hx0]; rfl), p0.1, _, rfl, .inl (hT.r p0 hm0).sq, _, rfl, c, prs.length, w0 prs, i, j, by rw [List.length_map, List.length_map, g.len p0 hm0], hC, hi, hj, q⟩
def spNeedCell : Sp := fun vs H Q _ => ∃ (t c : Addr) (prs : Prs) (i j : Nat), vs = [.ref t, .ref c] ∧ Tab H t prs ∧ tabB prs = true ∧ Cell H c i j ∧ i < prs.length ∧ j < w0 prs ∧ ∀ H', Same H H' → Q .non H'
theorem sc_needCell : FnScope ["table", "thing"] ["table", "thing"] (defScope dNeedCell) := ⟨rfl, rfl, rfl, by decide +kernel, rfl, by decide +kernel, by decide +kernel⟩
theorem ok_needCell (D : DefAt K mg "need_cell" dNeedCell ["table", "thing"]) (G : FnAt P w K mg base 4 "is_cell" ["table", "thing"] spIsCell) : FnAt P w K mg base 5 "need_cell" ["table", "thing"] spNeedCell := by
  refine FnAt.of D sc_needCell (fun vs H Q E h => ?_) (fun f cdv A outer s H vs Q E hr h => ?_)
  · obtain ⟨t, c, prs, i, j, rfl, _⟩ := h
    rfl
  · obtain ⟨t, c, prs, i, j, rfl, hT, hg, hC, hi, hj, q⟩ := h
    refine ⟨_, pss_one (ps_if (pt_not (pt_val (pe_f G hr (pa_cons (pv 0) (pa_cons (pv 1) pa_nil))))) pss_never pss_nil), ?_⟩
    exact ⟨_, rfl, _, rfl, t, c, prs, i, j, rfl, hT, hg, hC, hi, hj, fun H' sm => ⟨_, rfl, iteF (q H' sm)⟩⟩
def spNumberAt : Sp := fun vs H Q _ => ∃ (t c : Addr) (prs : Prs) (i j : Nat), vs = [.ref t, .ref c] ∧ Tab H t prs ∧ tabB prs = true ∧ Cell H c i j ∧ i < prs.length ∧ j < w0 prs ∧ ∀ H', Same H H' → Q (.int ((rowAt prs i).getD j 0)) H'
theorem sc_numberAt : FnScope ["table", "cell"] ["table", "cell"] (defScope dNumberAt) := ⟨rfl, rfl, rfl, by decide +kernel, rfl, by decide +kernel, by decide +kernel⟩
theorem ok_numberAt (D : DefAt K mg "number_at" dNumberAt ["table", "cell"]) (G1 : FnAt P w K mg base 6 "need_table" ["thing"] spNeedTable) (G2 : FnAt P w K mg base 5 "need_cell" ["table", "thing"] spNeedCell) : FnAt P w K mg base 7 "number_at" ["table", "cell"] spNumberAt := by
  refine FnAt.of D sc_numberAt (fun vs H Q E h => ?_) (fun f cdv A outer s H vs Q E hr h => ?_)
  · obtain ⟨t, c, prs, i, j, rfl, _⟩ := h
    rfl
  · obtain ⟨t, c, prs, i, j, rfl, hT, hg, hC, hi, hj, q⟩ := h
    obtain ⟨g, g1, g2, g3, g4⟩ := good_of hg
    have hsm : Sm prs := ⟨by omega, fun p hp => by rw [g.len p hp]; omega⟩
    refine ⟨_, pss_cons (ps_expr (pe_f G1 hr (pa_cons (pv 0) pa_nil))) (pss_cons (ps_expr (pe_f G2 (hr.mono (by decide)) (pa_cons (pv 0) (pa_cons (pv 1) pa_nil))))
      (pss_one (ps_ret (pe_ix ix_list (pe_ix ix_list (pv 0) (pe_ix ix_tup (pv 1) pe_int (fun _ _ => rfl)) (fun _ _ => rfl)) (pe_ix ix_tup (pv 1) pe_int (fun _ _ => rfl)) (fun _ _ => rfl))))), ?_⟩
    refine ⟨_, rfl, t, prs, rfl, hT, hsm, hg, fun H1 s1 => ⟨_, rfl, _, rfl, t, c, prs, i, j, rfl, hT.same s1, hg, s1 _ _ hC, hi, hj, fun H2 s2 => ?_⟩⟩
    have s12 := s1.trans s2
    have hT2 := hT.same s12
    have hC2 : Cell H2 c i j := s12 _ _ hC
    obtain ⟨p, hp1, hp2, hp3⟩ := rowAt_mem hi
    have hpl := g.len p hp1
    refine ⟨_, rfl, _, rfl, c, _, 0, .int (i : Nat), rfl, rfl, SqT.of hC2, rfl, t, _, _, .ref p.1, rfl, rfl, hT2.sq, atI_nat (by rw [List.getElem?_map, hp2]; rfl), _, rfl, c, _, 1, .int (j : Nat), rfl, rfl, SqT.of hC2, rfl, p.1, _, _, .int (p.2.getD j 0), rfl, rfl, (hT2.r p hp1).sq, at_row (by omega), ?_⟩
    rw [← hp3]
    exact q H2 s12
end
end Seek
namespace Seek
open PySem L2 PyProof.Rows
abbrev Es := List (Addr × List Int)
def EntAt (H : Hp) (e : Addr × List Int) : Prop := H e.1 = some (.tup (e.2.map V.int))
/-! deep data of lists of tuples of ints -/
def dEnt (e : List Int) : PyData := .tuple (e.map PyData.int)
def dEnts (fs : List (List Int)) : PyData := .list (fs.map dEnt)
theorem EntAt.rd {K : PySem.W.Frag} {H : Hp} {e : Addr × List Int} (h : EntAt H e) : RdD K H (.ref e.1) (dEnt e.2) := .tup (SqT.of h) (rdAll_ints e.2)
theorem rdAll_ents {K : PySem.W.Frag} {H : Hp} : ∀ es : Es, (∀ e ∈ es, EntAt H e) → RdAll K H (es.map fun e => V.ref e.1) ((es.map (·.2)).map dEnt)
  | [], _ => .nil
  | e :: r, h => .cons (h e (by simp)).rd (rdAll_ents r fun q hq => h q (by simp [hq]))
theorem ents_rd {K : PySem.W.Frag} {H : Hp} {L : Addr} {es : Es} (hL : H L = some (.lst (es.map fun e => V.ref e.1))) (h : ∀ e ∈ es, EntAt H e) : RdD K H (.ref L) (dEnts (es.map (·.2))) := .lst (SqL.of hL) (rdAll_ents es h)
theorem lay_ents : ∀ fs : List (List Int), PyData.canLayAll0 (fs.map dEnt) = true ∧ PyData.depthAll (fs.map dEnt) ≤ 1
  | [] => by simp [PyData.canLayAll0, PyData.depthAll]
  | ns :: r => by
    have h := lay_ents r
    have h2 := lay_ints ns
    simp only [List.map_cons, dEnt, PyData.canLayAll0, PyData.canLay0, PyData.depthAll, PyData.depth, h2.1]
    have a1 := h.2
    have a2 := h2.2
    refine ⟨by rw [Bool.true_and]; exact h.1, ?_⟩
    show max (PyData.depthAll (ns.map PyData.int) + 1) (PyData.depthAll (r.map dEnt)) ≤ 1
    omega
theorem shaped_ents (fs : List (List Int)) : SeqAt.shaped (dEnts fs) = true := by
  have h := lay_ents fs
  have h2 := h.2
  show (PyData.canLay0 (.list (fs.map dEnt)) && decide (PyData.depth (.list (fs.map dEnt)) ≤ 64)) = true
  rw [Bool.and_eq_true]
  exact ⟨by simp only [PyData.canLay0]; exact h.1, decide_eq_true (by simp only [PyData.depth]; omega)⟩
theorem eqv_ent (e : List Int) : PyData.eqv (dEnt e) (dEnt e) = true := by
  unfold dEnt
  simp only [PyData.eqv]
  exact eqv_ints e
theorem eqv_entsA : ∀ fs : List (List Int), PyData.eqvAll (fs.map dEnt) (fs.map dEnt) = true
  | [] => by simp [PyData.eqvAll]
  | n :: r => by simp [PyData.eqvAll, eqv_ent n, eqv_entsA r]
theorem eqv_ents (fs : List (List Int)) : PyData.eqv (dEnts fs) (dEnts fs) = true := by
  unfold dEnts
  simp only [PyData.eqv]
  exact eqv_entsA fs
theorem ltTK {X : Cx} (K : PySem.W.Frag) (hu : X.A.units < cLine) (hK : X.K = K := by rfl) : OpR X (compareOp .Lt) (rLtT K) := by subst hK; exact op_ltT hu
end Seek
namespace Seek
open PySem L2 PyProof.Rows
def lessN (x : Int) (ns : List Int) : Nat := (ns.filter fun n => decide (n < x)).length
def mostN (x : Int) (ns : List Int) : Nat := (ns.filter fun n => decide (n ≤ x)).length
end Seek
namespace Seek
open PySem L2 PyProof.Rows
/-! ### counts over all rows -/
def flatP (prs : Prs) : List Int := (prs.map (·.2)).flatten
def amidN (a b : Int) (ns : List Int) : Nat := (ns.filter fun n => decide (a ≤ n) && decide (n ≤ b)).length
theorem flatP_cons (p : Addr × List Int) (r : Prs) : flatP (p :: r) = p.2 ++ flatP r := rfl
theorem less_flat (x : Int) : ∀ prs : Prs, (prs.map fun p => (lessN x p.2 : Int)).sum = (lessN x (flatP prs) : Nat)
  | [] => rfl
  | p :: r => by
    rw [List.map_cons, List.sum_cons, less_flat x r, flatP_cons]
    unfold lessN
    rw [List.filter_append, List.length_append]
    omega
theorem most_flat (x : Int) : ∀ prs : Prs, (prs.map fun p => (mostN x p.2 : Int)).sum = (mostN x (flatP prs) : Nat)
  | [] => rfl
  | p :: r => by
    rw [List.map_cons, List.sum_cons, most_flat x r, flatP_cons]
    unfold mostN
    rw [List.filter_append, List.length_append]
    omega
theorem amid_le {a b : Int} (h : a ≤ b) : ∀ ns : List Int, mostN b ns = lessN a ns + amidN a b ns
  | [] => rfl
  | n :: r => by
    have ih := amid_le h r
    unfold mostN lessN amidN at ih ⊢
    simp only [List.filter_cons]
    by_cases h1 : n < a
    · rw [if_pos (decide_eq_true (show n ≤ b by omega)), if_pos (decide_eq_true h1), if_neg (by rw [decide_eq_false (show ¬ a ≤ n by omega)]; simp)]
      simp only [List.length_cons]
      omega
    · by_cases h2 : n ≤ b
      · rw [if_pos (decide_eq_true h2), if_neg (by simpa using h1), if_pos (by rw [decide_eq_true (show a ≤ n by omega), decide_eq_true h2]; rfl)]
        simp only [List.length_cons]
        omega
      · rw [if_neg (by simpa using h2), if_neg (by simpa using h1), if_neg (by rw [decide_eq_false h2]; simp)]
        exact ih
theorem amid_gt {a b : Int} (h : b < a) : ∀ ns : List Int, amidN a b ns = 0 ∧ mostN b ns ≤ lessN a ns
  | [] => ⟨rfl, Nat.le_refl _⟩
  | n :: r => by
    have ih := amid_gt h r
    unfold mostN lessN amidN at ih ⊢
    simp only [List.filter_cons]
    have h3 : ¬ ((decide (a ≤ n) && decide (n ≤ b)) = true) := by
      simp
      omega
    rw [if_neg h3]
    refine ⟨ih.1, ?_⟩
    by_cases h2 : n ≤ b
    · rw [if_pos (decide_eq_true h2), if_pos (decide_eq_true (show n < a by omega))]
      simp only [List.length_cons]
      omega
    · rw [if_neg (by simpa using h2)]
      by_cases h1 : n < a
      · rw [if_pos (decide_eq_true h1)]
        simp only [List.length_cons]
        omega
      · rw [if_neg (by simpa using h1)]
        exact ih.2
theorem amid_max (a b : Int) (ns : List Int) : (if (mostN b ns : Int) - (lessN a ns : Int) > 0 then (mostN b ns : Int) - (lessN a ns : Int) else 0) = (amidN a b ns : Nat) := by
  by_cases h : a ≤ b
  · have := amid_le h ns
    split <;> omega
  · have := amid_gt (show b < a by omega) ns
    split <;> omega
end Seek
namespace Seek
open PySem L2 PyProof.Rows
theorem flatK_take {prs : Prs} {i : Nat} {p : Addr × List Int} (h : prs[i]? = some p) : flatP (prs.take (i + 1)) = flatP (prs.take i) ++ p.2 := by
  unfold flatP
  rw [List.take_add_one, h, List.map_append, List.flatten_append]
  simp
theorem flatK_len {prs : Prs} {wide : Nat} (h : ∀ p ∈ prs, p.2.length = wide) : (flatP prs).length = prs.length * wide := by
  induction prs with
  | nil => simp [flatP]
  | cons p r ih =>
    rw [flatP_cons, List.length_append, h p (by simp), ih fun q hq => h q (by simp [hq]), List.length_cons, Nat.add_mul, Nat.one_mul, Nat.add_comm]
section
variable {P : Program} {w : World} {K : PySem.W.Frag} {mg : Str → Option Value} {base : Heap}
/-! _law_x -/
def spXK : Sp := fun vs H Q _ => ∃ (s t : Addr) (prs : Prs), vs = [.ref s, .ref t] ∧ StK H s ∧ Tab H t prs ∧ tabB prs = true ∧ t ≠ s ∧ (∀ p ∈ prs, p.1 ≠ s) ∧ Bnd prs ∧ ∀ x H', x.natAbs < 10 ^ 40 → But s H H' → StK H' s → Q (.int x) H'
theorem sc_xK : FnScope ["store", "table", "some", "row", "one", "other", "menu"] ["store", "table"] (defScope dX) := ⟨rfl, rfl, rfl, by decide +kernel, rfl, by decide +kernel, by decide +kernel⟩
set_option maxHeartbeats 16000000 in
theorem ok_xK (T : Blt mg) (hmin : mg "min" = none) (D : DefAt K mg "_law_x" dX ["store", "table"]) (G : FnAt P w K mg base 1 "_law_take" ["store", "many"] spTakeK) (G2 : FnAt P w K mg base 2 "_law_far" ["store", "figures"] spFar) : FnAt P w K mg base 3 "_law_x" ["store", "table"] spXK := by
  refine FnAt.of D sc_xK (fun vs H Q E h => ?_) (fun f cdv A outer s H vs Q E hr h => ?_)
  · obtain ⟨st, t, prs, rfl, _⟩ := h
    rfl
  · obtain ⟨st, t, prs, rfl, S, hT, hg, nt, np, hbn, q⟩ := h
    obtain ⟨g, g1, g2, g3, g4⟩ := good_of hg
    have nd := sc_xK.nd
    have hr1 : Room 1 _ := hr.mono (by decide)
    have hfl : (flatP prs).length = prs.length * w0 prs := flatK_len g.len
    have hf1 : 1 * 1 ≤ prs.length * w0 prs := Nat.mul_le_mul g1 g3
    have hf2 : prs.length * w0 prs ≤ 6 * 6 := Nat.mul_le_mul g2 g4
    refine ⟨_, pss_cons (ps_set (i := 2) nd rfl (Or.inl rfl) (pe_lst pa_nil))
      (pss_cons (ps_for PassesOwn.never rfl (pi_list (pv 1)) (pg_name (i := 3) nd rfl (Or.inl rfl)) (pss_one (ps_set (i := 2) nd rfl (Or.inl rfl) (pe_op op_cat (pv 2) (pv 3)))))
      (pss_cons (ps_set (i := 4) nd rfl (Or.inl rfl) (pe_ix ix_list (pv 2) (pe_f G hr1 (pa_cons (pv 0) (pa_cons (pe_b call_len_seq T.len boot_len (pa_cons (pv 2) pa_nil)) pa_nil))) (fun _ _ => rfl)))
      (pss_cons (ps_set (i := 5) nd rfl (Or.inl rfl) (pe_ix ix_list (pv 2) (pe_f G hr1 (pa_cons (pv 0) (pa_cons (pe_b call_len_seq T.len boot_len (pa_cons (pv 2) pa_nil)) pa_nil))) (fun _ _ => rfl)))
      (pss_cons (ps_set (i := 6) nd rfl (Or.inl rfl) (pe_lst (pa_cons (pv 4) (pa_cons (pv 4) (pa_cons (pe_op o_add (pv 4) pe_int) (pa_cons (pe_op o_sub (pv 4) pe_int) (pa_cons (pe_op o_div (pe_op o_add (pv 4) (pv 5)) pe_int)
        (pa_cons (pe_op o_sub (pe_op o_sub (pe_b (call_minL rfl) hmin boot_min (pa_cons (pv 2) pa_nil)) pe_int) (pe_f G hr1 (pa_cons (pv 0) (pa_cons pe_int pa_nil)))) pa_nil))))))))
      (pss_cons (ps_set (i := 6) nd rfl (Or.inl rfl) (pe_op op_cat (pv 6) (pe_lst (pa_cons (pe_op o_add (pe_op o_add (pe_b (call_maxL rfl) T.max boot_max (pa_cons (pv 2) pa_nil)) pe_int) (pe_f G hr1 (pa_cons (pv 0) (pa_cons pe_int pa_nil)))) (pa_cons pe_int (pa_cons (pe_f G2 hr (pa_cons (pv 0) (pa_cons pe_int pa_nil))) (pa_cons (pe_op o_sub pe_int (pe_f G2 hr (pa_cons (pv 0) (pa_cons pe_int pa_nil)))) pa_nil)))))))
      (pss_one (ps_ret (pe_ix ix_list (pv 6) (pe_f G hr1 (pa_cons (pv 0) (pa_cons pe_int pa_nil))) (fun _ _ => rfl))))))))), ?_⟩
    refine ⟨len0, fun e0 he0 => ?_⟩
    have n0 : e0 ≠ st := Ne.symm (S.ne he0)
    have s0 : Same H (upd H e0 (.lst [])) := Same.new he0
    have r0 : Row (upd H e0 (.lst [])) e0 [] := Row.new
    generalize upd H e0 (.lst []) = H1 at s0 r0 ⊢
    refine ⟨_, rfl, t, rfl, ⟨_, (hT.same s0).sq⟩, for_list (xs := prs.map fun p => V.ref p.1) (fun j σ H2 => ∃ (o3 : Option V) (e : Addr), σ = [some (.ref st), some (.ref t), some (.ref e), o3, none, none, none] ∧ Same H H2 ∧ e ≠ st ∧ Row H2 e (flatP (prs.take j)))
      ⟨none, e0, rfl, s0, n0, by rw [List.take_zero]; exact r0⟩ (fun j σ H2 _ ⟨_, _, _, s2, _⟩ => (hT.same s2).sq) ?_ ?_⟩
    · rintro j x σ H2 hj ⟨o3, e, rfl, s2, ne, r2⟩
      have hjl : j < prs.length := by
        have := (List.getElem?_eq_some_iff.mp hj).1
        rw [List.length_map] at this
        exact this
      have hpj : prs[j]? = some prs[j] := List.getElem?_eq_getElem hjl
      rw [List.getElem?_map, hpj] at hj
      have hx : V.ref prs[j].1 = x := Option.some.inj hj
      subst hx
      have rj := (hT.same s2).r prs[j] (List.getElem_mem hjl)
      refine ⟨_, rfl, _, rfl, e, prs[j].1, _, _, rfl, rfl, r2, rj, ?_, fun e2 he2 => ⟨_, e2, rfl, s2.trans (Same.new he2), Ne.symm ((S.same s2).ne he2), ?_⟩⟩
      · rw [List.length_map, List.length_map, flatK_len (wide := w0 prs) fun p hp => g.len p (List.mem_of_mem_take hp), List.length_take, g.len _ (List.getElem_mem hjl)]
        have : min j prs.length * w0 prs ≤ 6 * 6 := Nat.mul_le_mul (by omega) g4
        exact sl6 (by omega)
      · unfold Row
        rw [upd_same, flatK_take hpj, List.map_append]
    · rintro σ H2 ⟨o3, e, rfl, s2, ne, r2⟩
      rw [List.length_map, List.take_length] at r2
      have S2 := S.same s2
      have C2 : But st H H2 := Same.but s2
      have hfb : ∀ n ∈ flatP prs, n.natAbs < 10 ^ 38 := fun n hn => by
        unfold flatP at hn
        obtain ⟨l, hl, hnl⟩ := List.mem_flatten.mp hn
        obtain ⟨p, hp, rfl⟩ := List.mem_map.mp hl
        exact hbn p hp n hnl
      generalize flatP prs = ns at r2 hfl hfb
      -- one, other
      refine ⟨_, rfl, _, rfl, _, rfl, e, _, rfl, .inl r2.sq, st, _, rfl, by rw [List.length_map]; omega, by rw [List.length_map]; omega, S2, fun d3 H3 d30 d31 B3 S3 => ?_⟩
      rw [List.length_map] at d31
      have r3 := r2.but ne B3
      obtain ⟨one, m1', e1⟩ := at_mem d30 d31
      have bo1 := hfb one m1'
      refine ⟨e, _, _, .int one, rfl, rfl, r3.sq, e1, ?_⟩
      refine ⟨_, rfl, _, rfl, _, rfl, e, _, rfl, .inl r3.sq, st, _, rfl, by rw [List.length_map]; omega, by rw [List.length_map]; omega, S3, fun d4 H4 d40 d41 B4 S4 => ?_⟩
      rw [List.length_map] at d41
      have r4 := r3.but ne B4
      obtain ⟨other, m2', e2⟩ := at_mem d40 d41
      have bo2 := hfb other m2'
      refine ⟨e, _, _, .int other, rfl, rfl, r4.sq, e2, ?_⟩
      -- menu
      refine ⟨_, rfl, _, rfl, _, rfl, _, _, rfl, rfl, _, rfl, _, _, rfl, rfl, _, rfl, _, rfl, _, _, rfl, rfl, _, _, rfl, rfl, ⟨by decide, by decide⟩, _, rfl, e, ns, rfl, r4.sq, by omega, fun mn mmn _ => ⟨_, _, rfl, rfl, _, rfl, st, _, rfl, by decide, by decide, S4, fun d5 H5 d50 d51 B5 S5 => ⟨_, _, rfl, rfl, len6, fun m1 hm1 => ?_⟩⟩⟩
      have nm1 : m1 ≠ st := Ne.symm (S5.ne hm1)
      have s6 : Same H5 (upd H5 m1 (.lst [.int one, .int one, .int (one + 1), .int (one - 1), .int ((one + other) / 2), .int (mn - 1 - d5)])) := Same.new hm1
      have e6 : (upd H5 m1 (.lst [.int one, .int one, .int (one + 1), .int (one - 1), .int ((one + other) / 2), .int (mn - 1 - d5)])) m1 = some (.lst ([one, one, one + 1, one - 1, (one + other) / 2, mn - 1 - d5].map V.int)) := upd_same
      generalize upd H5 m1 (.lst [.int one, .int one, .int (one + 1), .int (one - 1), .int ((one + other) / 2), .int (mn - 1 - d5)]) = H6 at s6 e6 ⊢
      have r6 := (r4.but ne B5).same s6
      have S6 := S5.same s6
      have C6 := C2.trans (B3.trans (B4.trans (B5.trans (Same.but s6))))
      refine ⟨_, rfl, _, rfl, e, ns, rfl, r6.sq, by omega, fun mx mmx _ => ⟨_, _, rfl, rfl, _, rfl, st, _, rfl, by decide, by decide, S6, fun d7 H7 d70 d71 B7 S7 => ⟨_, _, rfl, rfl, _, rfl, st, _, rfl, by decide, by decide, S7, fun d8 H8 d80 d8b B8 S8 => ⟨_, rfl, st, _, rfl, by decide, by decide, S8, fun d9 H9 d90 d9b B9 S9 => ⟨_, _, rfl, rfl, len4, fun m2 hm2 => ?_⟩⟩⟩⟩⟩
      have e9 := B9 _ _ nm1 (B8 _ _ nm1 (B7 _ _ nm1 e6))
      have s10 : Same H9 (upd H9 m2 (.lst [.int (mx + 1 + d7), .int 0, .int d8, .int (0 - d9)])) := Same.new hm2
      have e10 : (upd H9 m2 (.lst [.int (mx + 1 + d7), .int 0, .int d8, .int (0 - d9)])) m2 = some (.lst ([mx + 1 + d7, 0, d8, 0 - d9].map V.int)) := upd_same
      generalize upd H9 m2 (.lst [.int (mx + 1 + d7), .int 0, .int d8, .int (0 - d9)]) = H10 at s10 e10 ⊢
      refine ⟨m1, m2, _, _, rfl, rfl, s10 _ _ e9, e10, (show 6 + 4 ≤ sizeLine by decide), fun m3 hm3 => ?_⟩
      have S10 := S9.same s10
      have nm3 : m3 ≠ st := Ne.symm (S10.ne hm3)
      have s11 : Same H10 (upd H10 m3 (.lst ([one, one, one + 1, one - 1, (one + other) / 2, mn - 1 - d5].map V.int ++ [mx + 1 + d7, 0, d8, 0 - d9].map V.int))) := Same.new hm3
      have e11 : (upd H10 m3 (.lst ([one, one, one + 1, one - 1, (one + other) / 2, mn - 1 - d5].map V.int ++ [mx + 1 + d7, 0, d8, 0 - d9].map V.int))) m3 = some (.lst ([one, one, one + 1, one - 1, (one + other) / 2, mn - 1 - d5, mx + 1 + d7, 0, d8, 0 - d9].map V.int)) := upd_same
      generalize upd H10 m3 (.lst ([one, one, one + 1, one - 1, (one + other) / 2, mn - 1 - d5].map V.int ++ [mx + 1 + d7, 0, d8, 0 - d9].map V.int)) = H11 at s11 e11 ⊢
      refine ⟨_, rfl, _, rfl, st, _, rfl, by decide, by decide, S10.same s11, fun d12 H12 d120 d121 B12 S12 => ?_⟩
      obtain ⟨r, mr, er⟩ := at_mem (ns := [one, one, one + 1, one - 1, (one + other) / 2, mn - 1 - d5, mx + 1 + d7, 0, d8, 0 - d9]) d120 d121
      refine ⟨m3, _, _, .int r, rfl, rfl, SqL.of (B12 _ _ nm3 e11), er, ?_⟩
      have br : r.natAbs < 10 ^ 40 := by
        have b3 := hfb mn mmn
        have b4 := hfb mx mmx
        rw [e25] at d8b d9b
        have e38 : (10 : Nat) ^ 40 = 100 * 10 ^ 38 := by decide
        have e39 : (10000000000000000000000000 : Nat) ≤ 10 ^ 38 := by decide
        rw [e38]
        generalize (10 : Nat) ^ 38 = M at *
        simp only [List.mem_cons, List.not_mem_nil, or_false] at mr
        rcases mr with rfl | rfl | rfl | rfl | rfl | rfl | rfl | rfl | rfl | rfl <;> omega
      exact q r H12 br (C6.trans (B7.trans (B8.trans (B9.trans ((Same.but s10).trans ((Same.but s11).trans B12)))))) S12
end
end Seek
namespace Seek
open PySem L2 PyProof.Rows
/-! ### the walk -/
def valN (prs : Prs) (i j : Nat) : Int := (rowAt prs i).getD j 0
def walkL (prs : Prs) (x : Int) : Nat → Nat → Nat → List (Nat × Nat)
  | 0, _, _ => []
  | f + 1, r, p => if r < prs.length ∧ 0 < p then (r, p - 1) :: (if valN prs r (p - 1) = x then [] else if x < valN prs r (p - 1) then walkL prs x f r (p - 1) else walkL prs x f (r + 1) p) else []
def walkE (prs : Prs) (x : Int) : Nat → Nat → Nat → Option (Nat × Nat)
  | 0, _, _ => none
  | f + 1, r, p => if r < prs.length ∧ 0 < p then (if valN prs r (p - 1) = x then some (r, p - 1) else if x < valN prs r (p - 1) then walkE prs x f r (p - 1) else walkE prs x f (r + 1) p) else none
def walkP (prs : Prs) (x : Int) : List (Nat × Nat) := walkL prs x (prs.length + w0 prs) 0 (w0 prs)
def walkF (prs : Prs) (x : Int) : Option (Nat × Nat) := walkE prs x (prs.length + w0 prs) 0 (w0 prs)
theorem walkL_in (prs : Prs) (x : Int) : ∀ f r p, ∀ c ∈ walkL prs x f r p, c.1 < prs.length ∧ c.2 < p
  | 0, _, _, c, h => nomatch h
  | f + 1, r, p, c, h => by
    unfold walkL at h
    split at h
    · rename_i hi
      rcases List.mem_cons.mp h with rfl | h
      · exact ⟨hi.1, by show p - 1 < p; omega⟩
      · split at h
        · nomatch h
        · split at h
          · have := walkL_in prs x f r (p - 1) c h
            omega
          · exact walkL_in prs x f (r + 1) p c h
    · nomatch h
theorem walkL_len (prs : Prs) (x : Int) : ∀ f r p, (walkL prs x f r p).length ≤ f
  | 0, _, _ => Nat.le_refl _
  | f + 1, r, p => by
    unfold walkL
    have h1 := walkL_len prs x f r (p - 1)
    have h2 := walkL_len prs x f (r + 1) p
    split
    · rw [List.length_cons]
      split
      · simp
      · split <;> omega
    · simp
/-- the walk from some cell on ends where it finds x, or does not find it -/
theorem walkE_last (prs : Prs) (x : Int) : ∀ f r p, (walkL prs x f r p = [] ∧ walkE prs x f r p = none) ∨ ∃ c, (walkL prs x f r p).getLast? = some c ∧ walkE prs x f r p = if valN prs c.1 c.2 = x then some c else none
  | 0, _, _ => .inl ⟨rfl, rfl⟩
  | f + 1, r, p => by
    unfold walkL walkE
    by_cases hi : r < prs.length ∧ 0 < p
    · rw [if_pos hi, if_pos hi]
      right
      by_cases h1 : valN prs r (p - 1) = x
      · rw [if_pos h1, if_pos h1]
        exact ⟨(r, p - 1), rfl, by rw [if_pos h1]⟩
      · rw [if_neg h1, if_neg h1]
        have key : ∀ l e, (l = [] ∧ e = none) ∨ (∃ c, l.getLast? = some c ∧ e = if valN prs c.1 c.2 = x then some c else none) → ∃ c, ((r, p - 1) :: l).getLast? = some c ∧ e = if valN prs c.1 c.2 = x then some c else none := by
          rintro l e (⟨rfl, rfl⟩ | ⟨c, h, h2⟩)
          · exact ⟨(r, p - 1), rfl, by rw [if_neg h1]⟩
          · refine ⟨c, ?_, h2⟩
            rw [List.getLast?_cons, h]
            rfl
        by_cases h2 : x < valN prs r (p - 1)
        · rw [if_pos h2, if_pos h2]
          exact key _ _ (walkE_last prs x f r (p - 1))
        · rw [if_neg h2, if_neg h2]
          exact key _ _ (walkE_last prs x f (r + 1) p)
    · rw [if_neg hi, if_neg hi]
      exact .inl ⟨rfl, rfl⟩
theorem walk_last {prs : Prs} (x : Int) (h1 : 1 ≤ prs.length) (h2 : 1 ≤ w0 prs) : ∃ c, (walkP prs x).getLast? = some c ∧ walkF prs x = if valN prs c.1 c.2 = x then some c else none := by
  rcases walkE_last prs x (prs.length + w0 prs) 0 (w0 prs) with z | z
  · have : walkL prs x (prs.length + w0 prs) 0 (w0 prs) ≠ [] := by
      obtain ⟨f, hf⟩ : ∃ f, prs.length + w0 prs = f + 1 := ⟨prs.length + w0 prs - 1, by omega⟩
      rw [hf]
      unfold walkL
      rw [if_pos ⟨by omega, by omega⟩]
      exact List.cons_ne_nil _ _
    exact absurd z.1 this
  · exact z
theorem rowAt_rows {prs qs : Prs} (h : qs.map (·.2) = prs.map (·.2)) (i : Nat) : rowAt qs i = rowAt prs i := by
  unfold rowAt
  rw [← List.getElem?_map, ← List.getElem?_map, h]
theorem len_rows {prs qs : Prs} (h : qs.map (·.2) = prs.map (·.2)) : qs.length = prs.length := by
  have := congrArg List.length h
  simpa using this
theorem w0_rows {prs qs : Prs} (h : qs.map (·.2) = prs.map (·.2)) : w0 qs = w0 prs := by
  have := congrArg (fun l : List (List Int) => (l.head?.map List.length).getD 0) h
  simp only [List.head?_map, Option.map_map] at this
  exact this
theorem walkL_rows {prs qs : Prs} (h : qs.map (·.2) = prs.map (·.2)) (x : Int) : ∀ f r p, walkL qs x f r p = walkL prs x f r p
  | 0, _, _ => rfl
  | f + 1, r, p => by
    unfold walkL valN
    rw [len_rows h, rowAt_rows h, walkL_rows h x f, walkL_rows h x f]
theorem walkE_rows {prs qs : Prs} (h : qs.map (·.2) = prs.map (·.2)) (x : Int) : ∀ f r p, walkE qs x f r p = walkE prs x f r p
  | 0, _, _ => rfl
  | f + 1, r, p => by
    unfold walkE valN
    rw [len_rows h, rowAt_rows h, walkE_rows h x f, walkE_rows h x f]
theorem walkP_rows {prs qs : Prs} (h : qs.map (·.2) = prs.map (·.2)) (x : Int) : walkP qs x = walkP prs x := by
  unfold walkP
  rw [len_rows h, w0_rows h, walkL_rows h]
theorem walkF_rows {prs qs : Prs} (h : qs.map (·.2) = prs.map (·.2)) (x : Int) : walkF qs x = walkF prs x := by
  unfold walkF
  rw [len_rows h, w0_rows h, walkE_rows h]
/-- one step -/
theorem walkL_step {prs : Prs} {x : Int} {f r p : Nat} (h1 : r < prs.length) (h2 : 0 < p) : walkL prs x (f + 1) r p = (r, p - 1) :: (if valN prs r (p - 1) = x then [] else if x < valN prs r (p - 1) then walkL prs x f r (p - 1) else walkL prs x f (r + 1) p) := by
  show (if _ then _ else _) = _
  rw [if_pos ⟨h1, h2⟩]
theorem walkL_stop {prs : Prs} {x : Int} {f r p : Nat} (h : ¬ (r < prs.length ∧ 0 < p)) : walkL prs x f r p = [] := by
  cases f with
  | zero => rfl
  | succ f =>
    show (if _ then _ else _) = _
    rw [if_neg h]
theorem walkE_step {prs : Prs} {x : Int} {f r p : Nat} (h1 : r < prs.length) (h2 : 0 < p) : walkE prs x (f + 1) r p = (if valN prs r (p - 1) = x then some (r, p - 1) else if x < valN prs r (p - 1) then walkE prs x f r (p - 1) else walkE prs x f (r + 1) p) := by
  show (if _ then _ else _) = _
  rw [if_pos ⟨h1, h2⟩]
theorem walkE_stop {prs : Prs} {x : Int} {f r p : Nat} (h : ¬ (r < prs.length ∧ 0 < p)) : walkE prs x f r p = none := by
  cases f with
  | zero => rfl
  | succ f =>
    show (if _ then _ else _) = _
    rw [if_neg h]
end Seek
namespace Seek
open PySem L2 PyProof.Rows
abbrev Cs := List (Addr × Nat × Nat)
def cellV (c : Addr × Nat × Nat) : V := .ref c.1
def CellAt (H : Hp) (c : Addr × Nat × Nat) : Prop := H c.1 = some (.tup [.int (c.2.1 : Nat), .int (c.2.2 : Nat)])
def ck (k : Nat × Nat) : List Int := [(k.1 : Int), (k.2 : Int)]
def IsCellO (H : Hp) (v : V) : Option (Nat × Nat) → Prop
  | none => v = .non
  | some k => ∃ T, v = .ref T ∧ CellAt H (T, k)
theorem IsCellO.same {H H' : Hp} {v : V} (s : Same H H') : ∀ {o : Option (Nat × Nat)}, IsCellO H v o → IsCellO H' v o
  | none, h => h
  | some k, ⟨T, h1, h2⟩ => ⟨T, h1, s _ _ h2⟩
theorem cells_rd {K : PySem.W.Frag} {H : Hp} {L : Addr} {cs : Cs} (hL : H L = some (.lst (cs.map cellV))) (h : ∀ c ∈ cs, CellAt H c) : RdD K H (.ref L) (dEnts ((cs.map (·.2)).map ck)) := by
  have e := ents_rd (K := K) (H := H) (L := L) (es := cs.map fun c => (c.1, ck c.2)) (by rw [hL, List.map_map]; rfl) (fun e he => by
    obtain ⟨c, hc, rfl⟩ := List.mem_map.mp he
    exact h c hc)
  rw [List.map_map] at e ⊢
  exact e
theorem isCellO_rd {K : PySem.W.Frag} {H : Hp} {v : V} : ∀ {o : Option (Nat × Nat)}, IsCellO H v o → ∃ d, RdD K H v d ∧ SeqAt.shaped d = true ∧ d = (o.map fun k => dEnt (ck k)).getD .none
  | none, h => by
    cases h
    exact ⟨.none, .non, rfl, rfl⟩
  | some k, ⟨T, h1, h2⟩ => by
    cases h1
    exact ⟨dEnt (ck k), EntAt.rd (e := (T, ck k)) h2, rfl, rfl⟩
theorem eqv_o : ∀ o : Option (Nat × Nat), PyData.eqv ((o.map fun k => dEnt (ck k)).getD .none) ((o.map fun k => dEnt (ck k)).getD .none) = true
  | none => rfl
  | some k => eqv_ent (ck k)
theorem cells_ne {H : Hp} {L : Addr} {xs : List V} {c : Addr × Nat × Nat} (h : CellAt H c) (hL : H L = some (.lst xs)) : c.1 ≠ L := ne_of h hL (by intro z; cases z)
section
variable {P : Program} {w : World} {K : PySem.W.Frag} {mg : Str → Option Value} {base : Heap}
/-! walk_for -/
def spWalk : Sp := fun vs H Q _ => ∃ (t : Addr) (prs : Prs) (x : Int), vs = [.ref t, .int x] ∧ Tab H t prs ∧ tabB prs = true ∧
  ∀ L (cs : Cs) H', H L = none → Same H H' → H' L = some (.lst (cs.map cellV)) → (∀ c ∈ cs, CellAt H' c ∧ H c.1 = none) → cs.map (·.2) = walkP prs x → Q (.ref L) H'
theorem sc_walk : FnScope ["table", "x", "looked_at", "row", "place", "number"] ["table", "x"] (defScope dWalk) := ⟨rfl, rfl, rfl, by decide +kernel, rfl, by decide +kernel, by decide +kernel⟩
set_option maxHeartbeats 16000000 in
theorem ok_walk (T : Blt mg) (D : DefAt K mg "walk_for" dWalk ["table", "x"]) (G1 : FnAt P w K mg base 6 "need_table" ["thing"] spNeedTable) (G2 : FnAt P w K mg base 2 "need_number" ["thing"] spNeedNumber) : FnAt P w K mg base 7 "walk_for" ["table", "x"] spWalk := by
  refine FnAt.of D sc_walk (fun vs H Q E h => ?_) (fun f cdv A outer s H vs Q E hr h => ?_)
  · obtain ⟨t, prs, x, rfl, _⟩ := h
    rfl
  · obtain ⟨t, prs, x, rfl, hT, hg, q⟩ := h
    obtain ⟨g, g1, g2, g3, g4⟩ := good_of hg
    obtain ⟨p0, hp0, hm0, hx0⟩ := head_at (prs := prs) g1
    have nd := sc_walk.nd
    refine ⟨_, pss_cons (ps_expr (pe_f G1 hr (pa_cons (pv 0) pa_nil))) (pss_cons (ps_expr (pe_f G2 (hr.mono (by decide)) (pa_cons (pv 1) pa_nil)))
      (pss_cons (ps_set (i := 2) nd rfl (Or.inl rfl) (pe_lst pa_nil)) (pss_cons (ps_set (i := 3) nd rfl (Or.inl rfl) pe_int)
      (pss_cons (ps_set (i := 4) nd rfl (Or.inl rfl) (pe_op o_sub (pe_b call_len_seq T.len boot_len (pa_cons (pe_ix ix_list (pv 0) pe_int (fun _ _ => rfl)) pa_nil)) pe_int))
      (pss_cons (ps_while PassesOwn.never (PW.pt (pw_and (pt_cmpR o_lt (pv 3) (pe_b call_len_seq T.len boot_len (pa_cons (pv 0) pa_nil)) (nomark _)) (pw_and1 (pt_cmpR o_ge (pv 4) pe_int (nomark _)))))
        (pss_cons (ps_expr (pe_bm PySem.F.plainAttrs_list PySem.F.slot_list_append PySem.F.type_list_append mt_append (pv 2) (pa_cons (pe_tup (pa_cons (pv 3) (pa_cons (pv 4) pa_nil))) pa_nil)))
        (pss_cons (ps_set (i := 5) nd rfl (Or.inl rfl) (pe_ix ix_list (pe_ix ix_list (pv 0) (pv 3) (fun _ _ => rfl)) (pv 4) (fun _ _ => rfl)))
        (pss_cons (ps_if (pt_cmpR op_eq (pv 1) (pv 5) (nomark _)) (pss_one ps_break) pss_nil)
        (pss_one (ps_if (pt_cmpR o_lt (pv 1) (pv 5) (nomark _)) (pss_one (ps_aug (i := 4) nd rfl (Or.inl rfl) pe_int ip_sub)) (pss_one (ps_aug (i := 3) nd rfl (Or.inl rfl) pe_int ip_add))))))))
      (pss_one (ps_ret (pv 2)))))))), ?_⟩
    refine ⟨_, rfl, t, prs, rfl, hT, good_bounds hg, hg, fun H1 s1 => ⟨_, rfl, x, rfl, len0, fun L hL => ?_⟩⟩
    have L0 : H L = none := s1.free hL
    have s2 : Same H (upd H1 L (.lst [])) := s1.trans (Same.new hL)
    have e2 : (upd H1 L (.lst [])) L = some (.lst []) := upd_same
    generalize upd H1 L (.lst []) = H2 at s2 e2 ⊢
    have hT2 := hT.same s2
    refine ⟨_, rfl, t, _, 0, .ref p0.1, rfl, rfl, hT2.sq, atI_nat (j := 0) (by rw [List.getElem?_map, hx0]; rfl), p0.1, _, rfl, .inl (hT2.r p0 hm0).sq, _, _, rfl, rfl, ?_⟩
    rw [List.length_map, g.len p0 hm0]
    refine ⟨fun m σ H3 => ∃ (r p : Nat) (rr qq : Int) (cs : Cs) (o5 : Option V), m = (prs.length - r) + p ∧ r ≤ prs.length ∧ p ≤ w0 prs ∧ rr = (r : Nat) ∧ qq = (p : Nat) - 1 ∧ σ = [some (.ref t), some (.int x), some (.ref L), some (.int rr), some (.int qq), o5] ∧ Same H H3 ∧ H3 L = some (.lst (cs.map cellV)) ∧
      (∀ c ∈ cs, CellAt H3 c ∧ H c.1 = none) ∧ cs.map (·.2) ++ walkL prs x m r p = walkP prs x ∧ cs.length + m ≤ 12, ⟨_, 0, w0 prs, 0, _, [], none, rfl, by omega, by omega, rfl, rfl, rfl, s2, e2, fun c hc => (nomatch hc), rfl, by simp; omega⟩, ?_⟩
    rintro m σ H3 ⟨r, p, rr, qq, cs, o5, hm, hr1, hp1, hrr, hqq, rfl, sm, hLl, hcs, hcw, hcl⟩
    have hT3 := hT.same sm
    have fin : ¬ (r < prs.length ∧ 0 < p) → Q (.ref L) H3 := fun hn => by
      rw [walkL_stop hn, List.append_nil] at hcw
      exact q L cs H3 L0 sm hLl hcs hcw
    refine ⟨_, rfl, _, rfl, t, _, rfl, .inl hT3.sq, _, _, rfl, rfl, _, rfl, ?_⟩
    rw [List.length_map]
    refine ite2 (fun h1 => ?_) (fun h1 => ?_)
    rotate_left
    · refine iteF ⟨_, rfl, fin fun z => h1 (decide_eq_true (by omega))⟩
    have h1' := of_decide_eq_true h1
    have hrl : r < prs.length := by omega
    clear h1'
    refine ⟨_, rfl, _, _, rfl, rfl, _, rfl, ite2 (fun h2 => ?_) (fun h2 => ?_)⟩
    rotate_left
    · exact ⟨_, rfl, fin fun z => h2 (decide_eq_true (by omega))⟩
    have h2 := of_decide_eq_true h2
    obtain ⟨k, rfl⟩ : ∃ k, p = k + 1 := ⟨p - 1, by omega⟩
    have hk : qq = (k : Nat) := by omega
    subst hk hrr
    obtain ⟨mm, rfl⟩ : ∃ mm, m = mm + 1 := ⟨m - 1, by omega⟩
    rw [walkL_step hrl (by omega), Nat.add_sub_cancel] at hcw
    refine ⟨_, fun _ _ hh => hh, ⟨_, rfl, .inl ⟨rfl, _, SqL.of hLl⟩, _, rfl, _, rfl, len2, fun T1 hT1 => ?_⟩⟩
    have s3 : Same H3 (upd H3 T1 (.tup [.int (r : Nat), .int (k : Nat)])) := Same.new hT1
    have e3 : CellAt (upd H3 T1 (.tup [.int (r : Nat), .int (k : Nat)])) (T1, r, k) := upd_same
    generalize upd H3 T1 (.tup [.int (r : Nat), .int (k : Nat)]) = H4 at s3 e3 ⊢
    have hL4 := s3 _ _ hLl
    refine ⟨L, _, _, rfl, rfl, hL4, by rw [List.length_map]; exact small1000 (by omega), ?_⟩
    have e5 : (upd H4 L (.lst (cs.map cellV ++ [.ref T1]))) L = some (.lst ((cs ++ [(T1, r, k)]).map cellV)) := by
      rw [upd_same, List.map_append]
      rfl
    have s5 : Same H (upd H4 L (.lst (cs.map cellV ++ [.ref T1]))) := (sm.trans s3).upd L0
    have c5 : ∀ c ∈ cs ++ [(T1, r, k)], CellAt (upd H4 L (.lst (cs.map cellV ++ [.ref T1]))) c ∧ H c.1 = none := fun c hc => by
      have h4 : CellAt H4 c ∧ H c.1 = none := by
        rcases List.mem_append.mp hc with z | z
        · exact ⟨s3 _ _ (hcs c z).1, (hcs c z).2⟩
        · have : c = (T1, r, k) := by simpa using z
          subst this
          exact ⟨e3, sm.free hT1⟩
      refine ⟨?_, h4.2⟩
      unfold CellAt
      rw [upd_ne (cells_ne h4.1 hL4)]
      exact h4.1
    generalize upd H4 L (.lst (cs.map cellV ++ [.ref T1])) = H5 at e5 s5 c5 ⊢
    have hT5 := hT.same s5
    obtain ⟨pr, hp1', hp2, hp3⟩ := rowAt_mem hrl
    have hpl := g.len pr hp1'
    have ev : valN prs r k = pr.2.getD k 0 := by
      unfold valN
      rw [hp3]
    refine ⟨_, rfl, _, rfl, t, _, _, .ref pr.1, rfl, rfl, hT5.sq, atI_nat (by rw [List.getElem?_map, hp2]; rfl), _, rfl, pr.1, _, _, .int (pr.2.getD k 0), rfl, rfl, (hT5.r pr hp1').sq, at_row (by omega), ?_⟩
    rw [← ev]
    generalize valN prs r k = n at hcw
    refine ⟨_, rfl, _, rfl, rfl, _, rfl, ?_⟩
    by_cases hx : n = x
    · rw [decide_eq_true (by rw [hx])]
      refine iteT ⟨_, rfl, q L _ H5 L0 s5 e5 c5 ?_⟩
      rw [if_pos hx] at hcw
      rw [List.map_append]
      exact hcw
    · rw [decide_eq_false (by intro z; injection z with z; exact hx z.symm)]
      rw [if_neg hx] at hcw
      refine iteF ⟨_, rfl, _, rfl, _, _, rfl, rfl, _, rfl, ite2 (fun h3 => ?_) (fun h3 => ?_)⟩
      · have h3 := of_decide_eq_true h3
        rw [if_pos h3] at hcw
        refine ⟨_, rfl, _, _, rfl, rfl, mm, by omega, r, k, _, _, cs ++ [(T1, r, k)], _, by omega, hr1, by omega, rfl, rfl, rfl, s5, e5, c5, ?_, ?_⟩
        · rw [List.map_append, List.append_assoc]
          exact hcw
        · rw [List.length_append, List.length_singleton]
          omega
      · have h3 : ¬ x < n := fun z => h3 (decide_eq_true z)
        rw [if_neg h3] at hcw
        refine ⟨_, rfl, _, _, rfl, rfl, mm, by omega, r + 1, k + 1, _, _, cs ++ [(T1, r, k)], _, by omega, by omega, hp1, rfl, by omega, rfl, s5, e5, c5, ?_, ?_⟩
        · rw [List.map_append, List.append_assoc]
          exact hcw
        · rw [List.length_append, List.length_singleton]
          omega
/-! found_at -/
def spFound : Sp := fun vs H Q _ => ∃ (t : Addr) (prs : Prs) (x : Int), vs = [.ref t, .int x] ∧ Tab H t prs ∧ tabB prs = true ∧ ∀ v H', Same H H' → IsCellO H' v (walkF prs x) → Q v H'
theorem sc_found : FnScope ["table", "x", "last"] ["table", "x"] (defScope dFound) := ⟨rfl, rfl, rfl, by decide +kernel, rfl, by decide +kernel, by decide +kernel⟩
theorem ok_found (D : DefAt K mg "found_at" dFound ["table", "x"]) (G1 : FnAt P w K mg base 7 "walk_for" ["table", "x"] spWalk) (G2 : FnAt P w K mg base 7 "number_at" ["table", "cell"] spNumberAt) : FnAt P w K mg base 8 "found_at" ["table", "x"] spFound := by
  refine FnAt.of D sc_found (fun vs H Q E h => ?_) (fun f cdv A outer s H vs Q E hr h => ?_)
  · obtain ⟨t, prs, x, rfl, _⟩ := h
    rfl
  · obtain ⟨t, prs, x, rfl, hT, hg, q⟩ := h
    obtain ⟨g, g1, g2, g3, g4⟩ := good_of hg
    have nd := sc_found.nd
    refine ⟨_, pss_cons (ps_set (i := 2) nd rfl (Or.inl rfl) (pe_ix ix_list (pe_f G1 hr (pa_cons (pv 0) (pa_cons (pv 1) pa_nil))) (pe_un o_neg pe_int) (fun _ _ => rfl)))
      (pss_one (ps_ret (pe_ifExp (pt_cmpR op_eq (pe_f G2 hr (pa_cons (pv 0) (pa_cons (pv 2) pa_nil))) (pv 1) (nomark _)) (pv 2) pe_non))), ?_⟩
    refine ⟨_, rfl, _, rfl, t, prs, x, rfl, hT, hg, fun L cs H1 hL s1 hLl hcs hcm => ?_⟩
    obtain ⟨c0, hc0, hf0⟩ := walk_last x g1 g3
    rw [← hcm, List.getLast?_map] at hc0
    obtain ⟨cc, hcc, rfl⟩ : ∃ cc, cs.getLast? = some cc ∧ cc.2 = c0 := by
      cases e : cs.getLast? with
      | none => rw [e] at hc0; cases hc0
      | some cc => rw [e] at hc0; exact ⟨cc, rfl, Option.some.inj hc0⟩
    obtain ⟨cs', rfl⟩ := List.getLast?_eq_some_iff.mp hcc
    have hcA := (hcs cc (by simp)).1
    have hin := walkL_in prs x _ _ _ cc.2 (by
      show cc.2 ∈ walkP prs x
      rw [← hcm]
      simp)
    refine ⟨_, rfl, L, _, _, .ref cc.1, rfl, rfl, SqL.of hLl, by rw [List.map_append]; exact L2.atI_last _ _, ?_⟩
    refine ⟨_, rfl, _, rfl, t, cc.1, prs, cc.2.1, cc.2.2, rfl, hT.same s1, hg, hcA, hin.1, hin.2, fun H2 s2 => ⟨_, rfl, rfl, _, rfl, ?_⟩⟩
    have ev : (rowAt prs cc.2.1).getD cc.2.2 0 = valN prs cc.2.1 cc.2.2 := rfl
    rw [ev]
    by_cases hx : valN prs cc.2.1 cc.2.2 = x
    · rw [decide_eq_true (by rw [hx])]
      rw [if_pos hx] at hf0
      refine iteT ⟨_, rfl, q _ H2 (s1.trans s2) ?_⟩
      rw [hf0]
      exact ⟨cc.1, rfl, s2 _ _ hcA⟩
    · rw [decide_eq_false (by intro z; injection z with z; exact hx z)]
      rw [if_neg hx] at hf0
      refine iteF (q _ H2 (s1.trans s2) ?_)
      rw [hf0]
      exact rfl
end
end Seek
namespace Seek
open PySem L2 PyProof.Rows
theorem boot_repr : bootBuiltins "repr" = some (.builtin "repr") := by kernel_rfl
theorem sizeM {n : Nat} (h : n ≤ 1000000) : n ≤ sizeLine := Nat.le_trans h (by decide)
theorem ne_self (v : V) : (!decide (v = v)) = false := by rw [decide_eq_true rfl]; rfl
theorem sz_tabB {prs : Prs} (hg : tabB prs = true) (hb : Bnd prs) : Sz 100000 50 (dTab (prs.map (·.2))) := by
  obtain ⟨g, g1, g2, g3, g4⟩ := good_of hg
  refine (sz_rows (by rw [List.length_map]; exact g2) fun x hx => ?_).mono (by decide) (by decide)
  obtain ⟨p, hp, rfl⟩ := List.mem_map.mp hx
  exact ⟨by rw [g.len p hp]; omega, fun n hn => Nat.lt_of_lt_of_le (hb p hp n hn) (by decide)⟩
section
variable {P : Program} {w : World} {K : PySem.W.Frag} {mg : Str → Option Value} {base : Heap} {S c0 c2 : Addr} {cs : List Addr}
def spTX (c0 c2 : Addr) : Sp := fun vs H Q E => ∃ (x y : V), vs = [x, y] ∧ ((∃ d, RdS [] H x d ∧ ¬ GoodD d ∧ ∀ H', Same H H' → E (.ref c0) none H') ∨
  ∃ (t : Addr) (prs : Prs) (e : PyData), x = .ref t ∧ Tab H t prs ∧ tabB prs = true ∧ RdS [] H y e ∧ isIntD e = false ∧ ∀ H', Same H H' → E (.ref c2) none H')
theorem ok_walkX (D : DefAt K mg "walk_for" dWalk ["table", "x"]) (G1 : FnAtX P w K mg base 6 "need_table" ["thing"] (spNeedTX c0)) (G2 : FnAtX P w K mg base 2 "need_number" ["thing"] (spNeedNX c2)) : FnAtX P w K mg base 7 "walk_for" ["table", "x"] (spTX c0 c2) := by
  refine FnAtX.of D sc_walk (fun vs H Q E h => ?_) (fun f cdv A outer s H vs Q E hr h => ?_)
  · obtain ⟨x, y, rfl, _⟩ := h
    rfl
  · obtain ⟨x, y, rfl, h⟩ := h
    refine ⟨_, pss_cons (ps_expr (pe_fx G1 hr flies_def (pa_cons (pv 0) pa_nil))) (pss_cons (ps_expr (pe_fx G2 (hr.mono (by decide)) flies_def (pa_cons (pv 1) pa_nil))) pss_never), ?_⟩
    rcases h with ⟨d, rd, hn, he⟩ | ⟨t, prs, e, rfl, hT, hg, re, hc, he⟩
    · exact ⟨_, rfl, x, d, rfl, rd, fun g => absurd g hn, fun _ => he⟩
    · exact ⟨_, rfl, _, _, rfl, tab_rds hT, fun _ H1 s1 => ⟨_, rfl, y, e, rfl, re.same s1, (fun z => by rw [hc] at z; cases z), fun _ => he H1 s1⟩, fun z => absurd (goodD_tab.mpr hg) z⟩
theorem ok_foundX (D : DefAt K mg "found_at" dFound ["table", "x"]) (G1 : FnAtX P w K mg base 7 "walk_for" ["table", "x"] (spTX c0 c2)) : FnAtX P w K mg base 8 "found_at" ["table", "x"] (spTX c0 c2) := by
  refine FnAtX.of D sc_found (fun vs H Q E h => ?_) (fun f cdv A outer s H vs Q E hr h => ?_)
  · obtain ⟨x, y, rfl, _⟩ := h
    rfl
  · obtain ⟨x, y, rfl, h⟩ := h
    exact ⟨_, pss_cons (ps_set (i := 2) sc_found.nd rfl (Or.inl rfl) (pe_ix ix_list (pe_fx G1 hr flies_def (pa_cons (pv 0) (pa_cons (pv 1) pa_nil))) (pe_un o_neg pe_int) (fun _ _ => rfl))) pss_never, _, rfl, _, rfl, x, y, rfl, h⟩
/-! _law_word -/
inductive Wd (H : Hp) : V → V → Str → Prop
  | tab {x y : V} {d : PyData} : RdS [] H x d → ¬ GoodD d → Wd H x y "table"
  | num {t : Addr} {prs : Prs} {y : V} {e : PyData} : Tab H t prs → tabB prs = true → RdS [] H y e → isIntD e = false → Wd H (.ref t) y "number"
  | all {t : Addr} {prs : Prs} {n : Int} : Tab H t prs → tabB prs = true → Wd H (.ref t) (.int n) ""
def spWord : Sp := fun vs H Q _ => ∃ (door : Int) (x y : V) (wd : Str), vs = [.int door, x, y] ∧ Wd H x y wd ∧ ∀ H', Same H H' → Q (.str wd) H'
abbrev wN : List Str := ["door", "table", "x", "caught", "e"]
theorem sc_word : FnScope wN ["door", "table", "x"] (defScope dWord) := ⟨rfl, rfl, rfl, by decide +kernel, rfl, by decide +kernel, by decide +kernel⟩
set_option maxHeartbeats 16000000 in
theorem ok_word (N : Nms mg S cs) (kS : ExcK K S) (E0 : Err K S cs 0 c0) (E2 : Err K S cs 2 c2) (D : DefAt K mg "_law_word" dWord ["door", "table", "x"])
    (G1 : FnAt P w K mg base 7 "walk_for" ["table", "x"] spWalk) (G1x : FnAtX P w K mg base 7 "walk_for" ["table", "x"] (spTX c0 c2)) (G2 : FnAt P w K mg base 8 "found_at" ["table", "x"] spFound) (G2x : FnAtX P w K mg base 8 "found_at" ["table", "x"] (spTX c0 c2))
    (G3 : FnAt P w K mg base 1 "_law_kind" ["e", "due"] (spKind K S cs)) : FnAt P w K mg base 9 "_law_word" ["door", "table", "x"] spWord := by
  refine FnAt.of D sc_word (fun vs H Q E h => ?_) (fun f cdv A outer s H vs Q E hr h => ?_)
  · obtain ⟨door, x, y, wd, rfl, _⟩ := h
    rfl
  · obtain ⟨door, x, y, wd, rfl, hd, q⟩ := h
    have nd := sc_word.nd
    have nd1 : (["word", "caught"] : List Str).Nodup := by decide +kernel
    have g1 := G1.toX.or G1x
    have g2 := G2.toX.or G2x
    have hr1 : Room 1 _ := hr.mono (by decide)
    have hr7 : Room 7 _ := hr.mono (by decide)
    refine ⟨_, pss_cons (ps_set (i := 3) nd rfl (Or.inr rfl) pe_non) (pss_cons (ps_try (i := 4) rfl rfl nd kS N.seek (fun pn W R hR => pss_one (ps_if (pt_cmpR op_eq (pv 0) pe_int (nomark _)) (pss_one (ps_expr (pe_fx g1 hr7 hR (pa_cons (pv 1) (pa_cons (pv 2) pa_nil))))) (pss_one (ps_expr (pe_fx g2 hr hR (pa_cons (pv 1) (pa_cons (pv 2) pa_nil)))))))
      (fun v => pss_one (ps_set (i := 3) nd rfl (Or.inr rfl) (pv 4))))
      (pss_cons (ps_if (pt_cmpR op_isN (pv 3) pe_non (nomark _)) (pss_one (ps_ret pe_str)) pss_nil)
      (pss_one (ps_ret (pe_ix ix_list (pe_op op_cat (pe_comp ["word", "caught"] [none, some 3] (defScope dWord) wN rfl (pi_list (pe_lst (pa_cons pe_str (pa_cons pe_str pa_nil)))) (by decide +kernel)
        (fun cl C s2 H2 ex => pg_c 0 nd1) (fun cl C s2 H2 ex => pifs_one (pt_val (pe_f G3 hr1 (pa_cons (pv 1) (pa_cons (pv 0) pa_nil))))) (fun cl C s2 H2 ex => pv 0)) (pe_lst (pa_cons pe_str pa_nil))) pe_int (fun _ _ => rfl)))))), ?_⟩
    refine ⟨_, rfl, rfl, _, rfl, ?_⟩
    cases hd with
    | @tab x y d rd hn =>
      refine ite2 (fun _ => ⟨_, rfl, _, rfl, .inr ⟨x, y, rfl, .inl ⟨d, rd, hn, fun H1 s1 => ⟨c0, rfl, E0.k, E0.sk, fun e he => ?_⟩⟩⟩⟩) (fun _ => ⟨_, rfl, _, rfl, .inr ⟨x, y, rfl, .inl ⟨d, rd, hn, fun H1 s1 => ⟨c0, rfl, E0.k, E0.sk, fun e he => ?_⟩⟩⟩⟩)
      all_goals
        have s2 := s1.trans (Same.new (o := excO e c0) he)
        have ee : (upd H1 e (excO e c0)) e = some (excO e c0) := upd_same
        refine ⟨_, rfl, _, rfl, rfl, _, rfl, iteF ⟨len2, fun l hl => ?_⟩⟩
        have s3 := Same.new (o := .lst [.str "table", .str "number"]) hl
        refine ⟨l, rfl, ⟨_, SqL.of upd_same⟩, comp_of (ms := (["table", "number"] : List Str)) V.str (fun wd => decide (wdL.getD 0 "" = wd)) V.str (SqL.of upd_same) (show 2 ≤ sizeLine by decide) (fun wd hx H' Q' sm q' => ?_) (fun wd hx _ H' Q' sm q' => ⟨_, rfl, q' _ (Same.refl _)⟩) fun D6 H6 hD6 sm6 hDl6 => ?_⟩
        · refine ⟨_, rfl, _, rfl, e, c0, 0, wd, rfl, sm _ _ (s3 _ _ ee), E0, by decide, ?_, fun H'' s'' => ⟨_, rfl, q' _ s''⟩⟩
          simp only [List.mem_cons, List.not_mem_nil, or_false] at hx
          rcases hx with rfl | rfl <;> decide +kernel
        · refine ⟨len1, fun l7 hl7 => ⟨D6, l7, _, _, rfl, rfl, (Same.new hl7) _ _ hDl6, upd_same, ?_, fun l8 hl8 => ⟨l8, _, 0, .str "table", rfl, rfl, SqL.of upd_same, ?_, q _ (s2.trans (s3.trans (sm6.trans ((Same.new hl7).trans (Same.new hl8)))))⟩⟩⟩
          · exact sl6 (by rw [List.length_map]; have := List.length_filter_le (fun wd => decide (wdL.getD 0 "" = wd)) (["table", "number"] : List Str); simp only [List.length_cons, List.length_nil] at this ⊢; omega)
          · rw [show (["table", "number"] : List Str).filter (fun wd => decide (wdL.getD 0 "" = wd)) = (["table"] : List Str) by decide +kernel]
            rfl
    | @num t prs y e1 hT hg re hc =>
      refine ite2 (fun _ => ⟨_, rfl, _, rfl, .inr ⟨_, y, rfl, .inr ⟨t, prs, e1, rfl, hT, hg, re, hc, fun H1 s1 => ⟨c2, rfl, E2.k, E2.sk, fun e he => ?_⟩⟩⟩⟩) (fun _ => ⟨_, rfl, _, rfl, .inr ⟨_, y, rfl, .inr ⟨t, prs, e1, rfl, hT, hg, re, hc, fun H1 s1 => ⟨c2, rfl, E2.k, E2.sk, fun e he => ?_⟩⟩⟩⟩)
      all_goals
        have s2 := s1.trans (Same.new (o := excO e c2) he)
        have ee : (upd H1 e (excO e c2)) e = some (excO e c2) := upd_same
        refine ⟨_, rfl, _, rfl, rfl, _, rfl, iteF ⟨len2, fun l hl => ?_⟩⟩
        have s3 := Same.new (o := .lst [.str "table", .str "number"]) hl
        refine ⟨l, rfl, ⟨_, SqL.of upd_same⟩, comp_of (ms := (["table", "number"] : List Str)) V.str (fun wd => decide (wdL.getD 2 "" = wd)) V.str (SqL.of upd_same) (show 2 ≤ sizeLine by decide) (fun wd hx H' Q' sm q' => ?_) (fun wd hx _ H' Q' sm q' => ⟨_, rfl, q' _ (Same.refl _)⟩) fun D6 H6 hD6 sm6 hDl6 => ?_⟩
        · refine ⟨_, rfl, _, rfl, e, c2, 2, wd, rfl, sm _ _ (s3 _ _ ee), E2, by decide, ?_, fun H'' s'' => ⟨_, rfl, q' _ s''⟩⟩
          simp only [List.mem_cons, List.not_mem_nil, or_false] at hx
          rcases hx with rfl | rfl <;> decide +kernel
        · refine ⟨len1, fun l7 hl7 => ⟨D6, l7, _, _, rfl, rfl, (Same.new hl7) _ _ hDl6, upd_same, ?_, fun l8 hl8 => ⟨l8, _, 0, .str "number", rfl, rfl, SqL.of upd_same, ?_, q _ (s2.trans (s3.trans (sm6.trans ((Same.new hl7).trans (Same.new hl8)))))⟩⟩⟩
          · exact sl6 (by rw [List.length_map]; have := List.length_filter_le (fun wd => decide (wdL.getD 2 "" = wd)) (["table", "number"] : List Str); simp only [List.length_cons, List.length_nil] at this ⊢; omega)
          · rw [show (["table", "number"] : List Str).filter (fun wd => decide (wdL.getD 2 "" = wd)) = (["number"] : List Str) by decide +kernel]
            rfl
    | @all t prs n hT hg =>
      exact ite2 (fun _ => ⟨_, rfl, _, rfl, .inl ⟨t, prs, n, rfl, hT, hg, fun L cs' H1 _ s1 _ _ _ => ⟨_, rfl, rfl, _, rfl, iteT (q H1 s1)⟩⟩⟩) (fun _ => ⟨_, rfl, _, rfl, .inl ⟨t, prs, n, rfl, hT, hg, fun v H1 s1 _ => ⟨_, rfl, rfl, _, rfl, iteT (q H1 s1)⟩⟩⟩)
end
end Seek
namespace Seek
open PySem L2 PyProof.Rows
section
variable {P : Program} {w : World} {K : PySem.W.Frag} {mg : Str → Option Value} {base : Heap} {S c0 : Addr} {cs : List Addr}
def spLaw (K : PySem.W.Frag) : Sp := fun vs H Q _ => ∃ (a : Addr) (ns : List Int), vs = [.ref a] ∧ SqL K H a (ns.map V.int) ∧ ns.length ≤ 63 ∧ ∀ H', Q (.bl true) H'
abbrev lawN : List Str := ["script", "at", "store", "table", "turn", "bad", "x", "odd", "kept", "door"]
theorem sc_law : FnScope lawN ["script"] (defScope dLaw) := ⟨rfl, rfl, rfl, by decide +kernel, rfl, by decide +kernel, by decide +kernel⟩
/-- no number, of a size -/
def NN (d : PyData) : Prop := isIntD d = false ∧ Sz 1000 8 d
theorem nn_lit {d : PyData} (h : isIntD d = false) (hz : (d.showable && decide (d.shown.length ≤ 1000) && decide (d.depth ≤ 8)) = true) : NN d := ⟨h, sz_of hz⟩
set_option maxHeartbeats 32000000 in
theorem ok_law (T : Blt mg) (hmin : mg "min" = none) (hre : mg "repr" = none) {f : Addr} {fd : FuncData} (F : Fun K "law" "law" dLaw f fd) (G1 : FnAt P w K mg base 1 "_law_cell" ["script", "k"] (spLCell K)) (G2 : FnAt P w K mg base 1 "_law_store" ["cell"] spStore) (G0 : FnAt P w K mg base 1 "_law_take" ["store", "many"] spTakeK) (G3 : FnAt P w K mg base 3 "_law_table" ["store"] spTableK)
    (G7 : FnAt P w K mg base 3 "_law_no_table" ["store", "table"] spNoTabK) (G6 : FnAt P w K mg base 3 "_law_x" ["store", "table"] spXK) (G8 : FnAt P w K mg base 9 "_law_word" ["door", "table", "x"] spWord) : FnOk P w K mg base CX0 10 f fd ["script"] (spLaw K) := by
  refine F.ok sc_law (fun vs H Q E h => ?_) (fun cdv A outer s H vs Q E hr h => ?_)
  · obtain ⟨a, ns, rfl, _⟩ := h
    rfl
  · obtain ⟨a, ns, rfl, hS, hlen, q⟩ := h
    have nd := sc_law.nd
    have hr1 : Room 1 _ := hr.mono (by decide)
    have hr3 : Room 3 _ := hr.mono (by decide)
    refine ⟨_, pss_cons (ps_for PassesOwn.never rfl (pi_range1 rfl T.rng (pa_cons (pe_b (call_min2 rfl) hmin boot_min (pa_cons (pe_b (call_max2 rfl) T.max boot_max (pa_cons (pe_b call_len_seq T.len boot_len (pa_cons (pv 0) pa_nil)) (pa_cons pe_int pa_nil))) (pa_cons pe_int pa_nil))) pa_nil)) (pg_name (i := 1) nd rfl (Or.inl rfl))
        (pss_cons (ps_set (i := 2) nd rfl (Or.inl rfl) (pe_f G2 hr1 (pa_cons (pe_f G1 hr1 (pa_cons (pv 0) (pa_cons (pv 1) pa_nil))) pa_nil)))
        (pss_cons (ps_set (i := 3) nd rfl (Or.inl rfl) (pe_f G3 hr3 (pa_cons (pv 2) pa_nil)))
        (pss_one (ps_for PassesOwn.never rfl (pi_range1 rfl T.rng (pa_cons pe_int pa_nil)) (pg_name (i := 4) nd rfl (Or.inl rfl))
          (pss_cons (ps_set (i := 5) nd rfl (Or.inl rfl) (pe_f G7 hr3 (pa_cons (pv 2) (pa_cons (pv 3) pa_nil))))
          (pss_cons (ps_set (i := 6) nd rfl (Or.inl rfl) (pe_f G6 hr3 (pa_cons (pv 2) (pa_cons (pv 3) pa_nil))))
          (pss_cons (ps_w1 (C := fun c : Addr × Int => c.2.natAbs < 10 ^ 40) (t := fun c => tAsg (tA (fun B σ H => B = abS c.1 0 ∧ σ[2]? = some (some (.ref c.1)) ∧ Vr B σ H 6 (.int c.2)) (tD NN)) (gName 7)) fun c hc => by
            have sg : StbE (fun B σ H => B = abS c.1 0 ∧ σ[2]? = some (some (.ref c.1)) ∧ Vr B σ H 6 (.int c.2)) := fun _ _ _ _ ⟨h1, h2, h3⟩ b => ⟨h1, h2, h3.but b⟩
            have hx : ∀ {p : Pos}, AE (cxOf CX0 P w K mg base lawN "law" (defScope dLaw) f cdv A outer s H E).nox (fun B σ H => B = abS c.1 0 ∧ σ[2]? = some (some (.ref c.1)) ∧ Vr B σ H 6 (.int c.2)) (.Name "x" p) (tE (.int c.2)) := fun {p} => ad_vr (pv 6) fun B σ H q => q.2.2
            have sx : Sz 41 0 (.int c.2) := sz_int hc
            exact ps_set (i := 7) nd rfl (Or.inl rfl) (ad_item (lo := 9) (hi := 9) (ad_disp (au_cons sg (ad_lit (.bool true) sg (by kernel_rfl) (nn_lit rfl (by decide +kernel))) (au_cons sg (ad_lit (.bool false) sg (by kernel_rfl) (nn_lit rfl (by decide +kernel))) (au_cons sg (ad_lit .none sg (by kernel_rfl) (nn_lit rfl (by decide +kernel))) (au_cons sg (ad_lit (.str "1") sg (by kernel_rfl) (nn_lit rfl (by decide +kernel)))
              (au_cons sg (ad_imp (ad_lstE (ax_consE sg hx ax_nil) (by simp)) fun z e => by rw [e]; exact ⟨rfl, (sz_list (n := 1) (fun d hd => by rw [List.mem_singleton.mp hd]; exact sx) (Nat.le_refl _)).mono (by decide) (by decide)⟩) (au_cons sg (ad_imp (ad_tupE (ax_consE sg hx ax_nil) (by simp)) fun z e => by rw [e]; exact ⟨rfl, (sz_tuple (n := 1) (fun d hd => by rw [List.mem_singleton.mp hd]; exact sx) (Nat.le_refl _)).mono (by decide) (by decide)⟩)
              (au_cons sg (ad_lit (.dict []) sg (by kernel_rfl) (nn_lit rfl (by decide +kernel))) (au_cons sg (ad_lit (.str "") sg (by kernel_rfl) (nn_lit rfl (by decide +kernel))) (au_cons sg (ad_lit (.list []) sg (by kernel_rfl) (nn_lit rfl (by decide +kernel))) au_nil))))))))))
              (pe_f G0 hr1 (pa_cons (pv 2) (pa_cons pe_int pa_nil))) (fun _ _ => rfl) (fun B σ H Q hg j q => by
                obtain ⟨e1, e2, _⟩ := hg
                subst e1
                exact ⟨_, e2, c.1, 9, rfl, by decide, by decide, j, fun v H' v0 v1 b S => q v H' v0 v1 b.butS S⟩) sg).pe)
          (pss_cons (ps_set (i := 8) nd rfl (Or.inl rfl) (pe_b (call_reprS hr.gd hr.units) hre boot_repr (pa_cons (pe_lst (pa_cons (pv 5) (pa_cons (pv 7) (pa_cons (pv 3) pa_nil)))) pa_nil)))
          (pss_cons (ps_for PassesOwn.never rfl (pi_range1 rfl T.rng (pa_cons pe_int pa_nil)) (pg_name (i := 9) nd rfl (Or.inl rfl))
            (pss_cons (ps_if (PW.pt (pw_or (pt_cmpR op_ne (pe_f G8 hr (pa_cons (pv 9) (pa_cons (pv 5) (pa_cons (pv 6) pa_nil)))) pe_str (nomark _)) (pw_or1 (pt_cmpR op_ne (pe_f G8 hr (pa_cons (pv 9) (pa_cons (pv 5) (pa_cons (pv 7) pa_nil)))) pe_str (nomark _))))) (pss_one (ps_ret pe_bl)) pss_nil)
            (pss_one (ps_if (PW.pt (pw_or (pt_cmpR op_ne (pe_f G8 hr (pa_cons (pv 9) (pa_cons (pv 3) (pa_cons (pv 7) pa_nil)))) pe_str (nomark _)) (pw_or1 (pt_cmpR op_ne (pe_f G8 hr (pa_cons (pv 9) (pa_cons (pv 3) (pa_cons (pv 6) pa_nil)))) pe_str (nomark _))))) (pss_one (ps_ret pe_bl)) pss_nil))))
          (pss_one (ps_if (pt_cmpR op_ne (pe_b (call_reprS hr.gd hr.units) hre boot_repr (pa_cons (pe_lst (pa_cons (pv 5) (pa_cons (pv 7) (pa_cons (pv 3) pa_nil)))) pa_nil)) (pv 8) (nomark _)) (pss_one (ps_ret pe_bl)) pss_nil))))))))))))
      (pss_one (ps_ret pe_bl)), ?_⟩
    refine ⟨_, rfl, a, _, rfl, .inl hS, _, _, rfl, _, _, rfl, ?_⟩
    rw [List.length_map]
    have hb : ∀ y : Int, y = (if (10 : Int) < (if (3 : Int) > (ns.length : Int) then 3 else (ns.length : Int)) then 10 else (if (3 : Int) > (ns.length : Int) then 3 else (ns.length : Int))) → 0 ≤ y ∧ y ≤ 10 := fun y hy => by
      subst hy
      split
      · omega
      · split at * <;> omega
    have hb := hb _ rfl
    generalize (if (10 : Int) < (if (3 : Int) > (ns.length : Int) then 3 else (ns.length : Int)) then 10 else (if (3 : Int) > (ns.length : Int) then 3 else (ns.length : Int))) = many at hb ⊢
    refine ⟨many, rfl, by omega, by omega, for_range (fun i σ H2 => ∃ o1 o2 o3 o4 o5 o6 o7 o8 o9 : Option V, σ = [some (.ref a), o1, o2, o3, o4, o5, o6, o7, o8, o9] ∧ Same H H2) ⟨none, none, none, none, none, none, none, none, none, rfl, Same.refl _⟩ ?_ (fun σ H2 _ => q _)⟩
    rintro i σ H2 hi ⟨o1, o2, o3, o4, o5, o6, o7, o8, o9, rfl, sm⟩
    refine ⟨_, rfl, _, rfl, a, ns, i, by rw [Int.zero_add], sm.seq hS, by omega, fun c => ⟨c, rfl, fun st H3 hst s3 S3 => ?_⟩⟩
    have hst0 : H st = none := sm.free hst
    have sm3 := sm.trans s3
    refine ⟨_, rfl, st, rfl, S3, fun t prs H4 ht hfr hnd B4 S4 hT4 hg hbn => ?_⟩
    have sm4 := Same.but' sm3 hst0 B4
    have nt : t ≠ st := (S3.ne ht).symm
    have np : ∀ p ∈ prs, p.1 ≠ st := fun p hp => (S3.ne (hfr p hp)).symm
    have sT := sz_tabB hg hbn
    refine ⟨6, rfl, by decide, by decide, for_range (fun j σ H8 => ∃ o4 o5 o6 o7 o8 o9 : Option V, σ = [some (.ref a), some (.int (0 + (i : Nat))), some (.ref st), some (.ref t), o4, o5, o6, o7, o8, o9] ∧ Same H H8 ∧ StK H8 st ∧ Tab H8 t prs) ⟨_, _, _, _, _, _, rfl, sm4, S4, hT4⟩ ?_ (fun σ H8 ⟨o4, o5, o6, o7, o8, o9, e, sm8, _⟩ => ⟨_, _, _, _, _, _, _, _, _, e, sm8⟩)⟩
    rintro j σ H8 hj ⟨o4, o5, o6, o7, o8, o9, rfl, sm8, S8, hT8⟩
    refine ⟨_, rfl, _, rfl, st, t, prs, rfl, S8, hT8, nt, np, hg, hbn, fun xb db H9 b9 S9 rb9 bt => ?_⟩
    have hT9 := hT8.but nt np b9
    have sm9 := Same.but' sm8 hst0 b9
    refine ⟨_, rfl, _, rfl, st, t, prs, rfl, S9, hT9, hg, nt, np, hbn, fun x Ha bx ba Sa => ?_⟩
    have hTa := hT9.but nt np ba
    have sma := Same.but' sm9 hst0 ba
    have rba := rds_but rb9 ba.butS
    refine ⟨(st, x), bx, abS st 0, ⟨rfl, rfl, vr_int rfl⟩, Sa, fun xo Hb bb Sb ⟨eo, ro, no⟩ => ?_⟩
    have hT : Tab Hb t prs := hTa.but nt np bb.but
    have smb := Same.but' sma hst0 bb.but
    have rb : RdS [] Hb xb db := (rds_but rba bb).any
    have ro' : RdS [] Hb xo eo := ro.any
    have rt : RdS [] Hb (.ref t) (dTab (prs.map (·.2))) := tab_rds hT
    have sb : Sz 100000 50 db := bt.2.mono (by decide) (by decide)
    have so : Sz 100000 50 eo := no.2.mono (by decide) (by decide)
    have sz : Sz 1000000 60 (.list [db, eo, dTab (prs.map (·.2))]) := (sz_list (n := 3) (fun z hz => by
      simp only [List.mem_cons, List.not_mem_nil, or_false] at hz
      rcases hz with h | h | h
      · rw [h]; exact sb
      · rw [h]; exact so
      · rw [h]; exact sT) (Nat.le_refl _)).mono (by decide) (by decide)
    refine ⟨_, rfl, _, rfl, _, rfl, len3, fun m hm => ⟨_, _, rfl, .lst upd_same (by simp) (.cons (rb.same (Same.new hm)) (.cons (ro'.same (Same.new hm)) (.cons (rt.same (Same.new hm)) .nil))), sz.sh, sizeM sz.le, sz.dp, ?_⟩⟩
    have s10 := Same.new (o := .lst [xb, xo, .ref t]) hm
    generalize upd Hb m (.lst [xb, xo, .ref t]) = H10 at s10 ⊢
    refine ⟨2, rfl, by decide, by decide, for_range (fun j' σ H' => ∃ o9 : Option V, σ = [some (.ref a), some (.int (0 + (i : Nat))), some (.ref st), some (.ref t), some (.int (0 + (j : Nat))), some xb, some (.int x), some xo, some (.str (PyData.list [db, eo, dTab (prs.map (·.2))]).shown), o9] ∧ Same Hb H') ⟨_, rfl, s10⟩ ?_ ?_⟩
    · rintro j' σ H' hj' ⟨o9, rfl, s'⟩
      refine ⟨_, rfl, _, rfl, _, rfl, _, xb, .int x, _, rfl, .tab (rb.same s') bt.1, fun Hc sc => ⟨rfl, _, rfl, ?_⟩⟩
      rw [ne_self]
      have sc := s'.trans sc
      refine iteF ⟨_, rfl, _, rfl, _, rfl, _, xb, xo, _, rfl, .tab (rb.same sc) bt.1, fun Hd sd => ⟨rfl, _, rfl, ?_⟩⟩
      rw [ne_self]
      have sd := sc.trans sd
      refine iteF ⟨_, rfl, _, rfl, _, rfl, _, .ref t, xo, _, rfl, .num (hT.same sd) hg (ro'.same sd) no.1, fun He se => ⟨rfl, _, rfl, ?_⟩⟩
      rw [ne_self]
      have se := sd.trans se
      refine iteF ⟨_, rfl, _, rfl, _, rfl, _, .ref t, .int x, _, rfl, .all (hT.same se) hg, fun Hf sf => ⟨rfl, _, rfl, ?_⟩⟩
      rw [ne_self]
      exact iteF ⟨_, rfl, se.trans sf⟩
    · rintro σ H' ⟨o9, rfl, s'⟩
      refine ⟨_, rfl, _, rfl, _, rfl, len3, fun m2 hm2 => ⟨_, _, rfl, .lst upd_same (by simp) (.cons (rb.same (s'.trans (Same.new hm2))) (.cons (ro'.same (s'.trans (Same.new hm2))) (.cons (rt.same (s'.trans (Same.new hm2))) .nil))), sz.sh, sizeM sz.le, sz.dp, _, rfl, rfl, _, rfl, ?_⟩⟩
      rw [ne_self]
      have s11 := s'.trans (Same.new (o := .lst [xb, xo, .ref t]) hm2)
      exact iteF ⟨_, _, _, _, _, _, rfl, smb.trans s11, Sb.same s11, hT.same s11⟩
end
end Seek
namespace Seek
open PySem L2 PyProof.Rows
theorem defAt_mk {K : PySem.W.Frag} {h : Heap} {mg : Str → Option Value} {x : Str} {st : Stmt} {ps : List Str} {f : Addr} (X : K.In h) (G : h.Ns mainGlobals mg) {od an : Option Addr} {sl : Array (Option Value)} {oc kV dc pm cd ct : Value}
    (a : PySem.W.nsIn K mainGlobals x = some (some (.ref f))) (l : K.lookup f = some ⟨oc, od, .func (PySem.W.fnOf x x (defArgs st) (defBody st) (defScope st) .none kV dc pm an cd ct), sl⟩) (c : PySem.W.codeIn K cd x = true) (k : PySem.W.keepIn K (.ref f) = true)
    (b : ∀ (kV doc pm : Value) (an : Option Addr) (cdv ct : Value) (us : List Value), us.length = ps.length → bindArgs (PySem.W.fnOf x x (defArgs st) (defBody st) (defScope st) .none kV doc pm an cdv ct) ⟨us, []⟩ = pure (ps.zip us)) : DefAt K mg x st ps := by
  have F := fun_mk (st := st) l c k
  exact ⟨f, _, F, PySem.W.mg_of X G a, F.binds b⟩
theorem blt_mk {K : PySem.W.Frag} {h : Heap} {mg : Str → Option Value} {t1 t2 : Tok} (X : K.In h) (G : h.Ns mainGlobals mg) (e1 : PySem.W.nsIn K mainGlobals "len" = some none) (e2 : PySem.W.nsIn K mainGlobals "all" = some none) (e3 : PySem.W.nsIn K mainGlobals "isinstance" = some none)
    (e4 : PySem.W.nsIn K mainGlobals "range" = some none) (e5 : PySem.W.nsIn K mainGlobals "int" = some none) (e6 : PySem.W.nsIn K mainGlobals "bool" = some none) (e7 : PySem.W.nsIn K mainGlobals "list" = some none) (e8 : PySem.W.nsIn K mainGlobals "enumerate" = some none)
    (e9 : PySem.W.nsIn K mainGlobals "abs" = some none) (e10 : PySem.W.nsIn K mainGlobals "max" = some none) (e11 : PySem.W.nsIn K mainGlobals "MOST_ROWS" = some (some (.int 6 t1))) (e12 : PySem.W.nsIn K mainGlobals "MOST_PLACES" = some (some (.int 6 t2))) : Blt mg :=
  ⟨PySem.W.mg_none_of X G e1, PySem.W.mg_none_of X G e2, PySem.W.mg_none_of X G e3, PySem.W.mg_none_of X G e4, PySem.W.mg_none_of X G e5, PySem.W.mg_none_of X G e6, PySem.W.mg_none_of X G e7, PySem.W.mg_none_of X G e8, PySem.W.mg_none_of X G e9, PySem.W.mg_none_of X G e10,
    ⟨_, PySem.W.mg_of X G e11⟩, ⟨_, PySem.W.mg_of X G e12⟩⟩
theorem walk {l : PySem.W.OpenLaw} {q : Program} {loose : List Str} {XP : (Str → Option Value) → Heap → Prop} {YP : World → Heap → Prop} {d : DefRec} {K : Params → PySem.W.Frag} (hn : l.most = some 63) (hdf : d.params.defaults = [])
    (hY : ∀ (w : World) (h : Heap), YP w h → (K w.params).In h)
    (F : ∀ (w : World) (mg : Str → Option Value) (fa : Addr) (h : Heap), (K w.params).In h → h.Ns mainGlobals mg → mg d.name = some (.ref fa) →
      ∃ fd : FuncData, (∀ (s : Shared) (u : Value), BindsTo s fd ⟨[u], []⟩ [("script", u)]) ∧ ∀ base : Heap, (K w.params).In base → base.Ns mainGlobals mg → FnOk l.prog w (K w.params) mg base CX0 20 fa fd ["script"] (spLaw (K w.params))) :
    PySem.W.WalkO q loose XP YP l.row.toRowW d [] (fun f vs => PySem.call f vs) :=
  L2.walk_of (n := 63) (k := 20) (x := "script") (CX := fun _ => CX0) (sp := fun w => spLaw (K w.params)) hn (by decide) hdf ⟨rfl, by decide, by decide, rfl⟩ hY F (fun _ _ a ns hl _ hS => ⟨a, ns, rfl, hS, hl, fun _ => rfl⟩) fun _ _ _ _ _ z => z
end Seek
namespace Seek
open PySem L2 PyProof.Rows
theorem nms_mk {K : PySem.W.Frag} {h : Heap} {mg : Str → Option Value} {S a0 a1 a2 a3 a4 a5 a6 a7 a8 a9 a10 a11 : Addr} (X : K.In h) (G : h.Ns mainGlobals mg) (e : PySem.W.nsIn K mainGlobals "SeekError" = some (some (.ref S))) (e0 : PySem.W.nsIn K mainGlobals "NoTable" = some (some (.ref a0))) (e1 : PySem.W.nsIn K mainGlobals "NoCell" = some (some (.ref a1)))
    (e2 : PySem.W.nsIn K mainGlobals "NoNumber" = some (some (.ref a2))) (e3 : PySem.W.nsIn K mainGlobals "NoSize" = some (some (.ref a3))) (e4 : PySem.W.nsIn K mainGlobals "NoStair" = some (some (.ref a4))) (e5 : PySem.W.nsIn K mainGlobals "NoLook" = some (some (.ref a5)))
    (e6 : PySem.W.nsIn K mainGlobals "NoPlace" = some (some (.ref a6))) (e7 : PySem.W.nsIn K mainGlobals "NoFit" = some (some (.ref a7))) (e8 : PySem.W.nsIn K mainGlobals "NoChange" = some (some (.ref a8))) (e9 : PySem.W.nsIn K mainGlobals "NoText" = some (some (.ref a9)))
    (e10 : PySem.W.nsIn K mainGlobals "NoName" = some (some (.ref a10))) (e11 : PySem.W.nsIn K mainGlobals "NoRow" = some (some (.ref a11))) : Nms mg S [a0, a1, a2, a3, a4, a5, a6, a7, a8, a9, a10, a11] :=
  ⟨rfl, PySem.W.mg_of X G e, PySem.W.mg_of X G e0, PySem.W.mg_of X G e1, PySem.W.mg_of X G e2, PySem.W.mg_of X G e3, PySem.W.mg_of X G e4, PySem.W.mg_of X G e5, PySem.W.mg_of X G e6, PySem.W.mg_of X G e7, PySem.W.mg_of X G e8, PySem.W.mg_of X G e9, PySem.W.mg_of X G e10, PySem.W.mg_of X G e11⟩
theorem err_mk {K : PySem.W.Frag} {S C a0 a1 a2 a3 a4 a5 a6 a7 a8 a9 a10 a11 : Addr} {i : Nat} (k : ExcK K C) (sk : PySem.W.mroIn K C (.ref S) = some true) (kv : PySem.W.kitOne K (.ref C) (.type "ValueError") = some true)
    (k0 : PySem.W.kitOne K (.ref C) (.ref a0) = some (decide (0 = i))) (k1 : PySem.W.kitOne K (.ref C) (.ref a1) = some (decide (1 = i))) (k2 : PySem.W.kitOne K (.ref C) (.ref a2) = some (decide (2 = i))) (k3 : PySem.W.kitOne K (.ref C) (.ref a3) = some (decide (3 = i)))
    (k4 : PySem.W.kitOne K (.ref C) (.ref a4) = some (decide (4 = i))) (k5 : PySem.W.kitOne K (.ref C) (.ref a5) = some (decide (5 = i))) (k6 : PySem.W.kitOne K (.ref C) (.ref a6) = some (decide (6 = i))) (k7 : PySem.W.kitOne K (.ref C) (.ref a7) = some (decide (7 = i)))
    (k8 : PySem.W.kitOne K (.ref C) (.ref a8) = some (decide (8 = i))) (k9 : PySem.W.kitOne K (.ref C) (.ref a9) = some (decide (9 = i))) (k10 : PySem.W.kitOne K (.ref C) (.ref a10) = some (decide (10 = i))) (k11 : PySem.W.kitOne K (.ref C) (.ref a11) = some (decide (11 = i))) :
    Err K S [a0, a1, a2, a3, a4, a5, a6, a7, a8, a9, a10, a11] i C :=
  ⟨k, sk, kv, fun j D h => match j, h with
    | 0, h => by cases h; exact k0
    | 1, h => by cases h; exact k1
    | 2, h => by cases h; exact k2
    | 3, h => by cases h; exact k3
    | 4, h => by cases h; exact k4
    | 5, h => by cases h; exact k5
    | 6, h => by cases h; exact k6
    | 7, h => by cases h; exact k7
    | 8, h => by cases h; exact k8
    | 9, h => by cases h; exact k9
    | 10, h => by cases h; exact k10
    | 11, h => by cases h; exact k11
    | n + 12, h => by simp at h⟩
end Seek
namespace Seek
open PySem L2 PyProof.Rows
theorem all_mk {l : PySem.W.OpenLaw} {w : World} {K : PySem.W.Frag} {mg : Str → Option Value} {fa S a0 a1 a2 a3 a4 a5 a6 a7 a8 a9 a10 a11 : Addr} (hfa : mg "law" = some (.ref fa)) (T : Blt mg) (h_min : mg "min" = none) (h_tuple : mg "tuple" = none) (h_zip : mg "zip" = none) (h_repr : mg "repr" = none) (h_ValueError : mg "ValueError" = none) (N : Nms mg S [a0, a1, a2, a3, a4, a5, a6, a7, a8, a9, a10, a11]) (kS : ExcK K S) (E0 : Err K S [a0, a1, a2, a3, a4, a5, a6, a7, a8, a9, a10, a11] 0 a0) (E2 : Err K S [a0, a1, a2, a3, a4, a5, a6, a7, a8, a9, a10, a11] 2 a2)
    (d_is_whole : DefAt K mg "is_whole" dIsWhole ["thing"])
    (d_all_whole : DefAt K mg "all_whole" dAllWhole ["things"])
    (d_never_falls : DefAt K mg "never_falls" dNeverFalls ["numbers"])
    (d_is_row : DefAt K mg "is_row" dIsRow ["thing"])
    (d_has_table_shape : DefAt K mg "has_table_shape" dShape ["thing"])
    (d_numbers_at_place : DefAt K mg "numbers_at_place" dAtPlace ["table", "place"])
    (d_is_sorted_both_ways : DefAt K mg "is_sorted_both_ways" dSorted ["table"])
    (d_is_table : DefAt K mg "is_table" dIsTable ["thing"])
    (d_need_table : DefAt K mg "need_table" dNeedTable ["thing"])
    (d_need_number : DefAt K mg "need_number" dNeedNumber ["thing"])
    (d_is_cell_of_size : DefAt K mg "is_cell_of_size" dCellSz ["rows", "places", "thing"])
    (d_is_cell : DefAt K mg "is_cell" dIsCell ["table", "thing"])
    (d_need_cell : DefAt K mg "need_cell" dNeedCell ["table", "thing"])
    (d_number_at : DefAt K mg "number_at" dNumberAt ["table", "cell"])
    (d_walk_for : DefAt K mg "walk_for" dWalk ["table", "x"])
    (d_found_at : DefAt K mg "found_at" dFound ["table", "x"])
    (d__law_cell : DefAt K mg "_law_cell" dLCell ["script", "k"])
    (d__law_store : DefAt K mg "_law_store" dStore ["cell"])
    (d__law_take : DefAt K mg "_law_take" dTake ["store", "many"])
    (d__law_far : DefAt K mg "_law_far" dFar ["store", "figures"])
    (d__law_table : DefAt K mg "_law_table" dTable ["store"])
    (d__law_x : DefAt K mg "_law_x" dX ["store", "table"])
    (d__law_uneven : DefAt K mg "_law_uneven" dUneven ["store", "table"])
    (d__law_no_table : DefAt K mg "_law_no_table" dNoTable ["store", "table"])
    (d__law_kind : DefAt K mg "_law_kind" dKind ["e", "due"])
    (d__law_word : DefAt K mg "_law_word" dWord ["door", "table", "x"])
    (d_law : DefAt K mg "law" dLaw ["script"])
    : ∃ fd : FuncData, (∀ (s : Shared) (v : Value), BindsTo s fd ⟨[v], []⟩ [("script", v)]) ∧ ∀ base : Heap, K.In base → base.Ns mainGlobals mg → FnOk l.prog w K mg base CX0 20 fa fd ["script"] (spLaw K) := by
  obtain ⟨f, fd, F, hm, hb⟩ := d_law
  have e := hfa.symm.trans hm
  cases e
  refine ⟨fd, ?_, fun base _ _ => ?_⟩
  · obtain ⟨oc, od, kV, doc, pm, an, cdv, ct, osl, rfl, lk, hcd⟩ := F.ex
    exact fun s v => .of_eq rfl
  · have g_is_whole := ok_isWholeA (P := l.prog) (w := w) (base := base) T d_is_whole
    have g_is_wholeI := ok_isWhole (P := l.prog) (w := w) (base := base) T d_is_whole
    have g_all_whole := ok_allWholeA T d_all_whole g_is_whole
    have g_all_wholeI := ok_allWhole T d_all_whole g_is_wholeI
    have g_all_wholeTI := ok_allWholeT T d_all_whole g_is_wholeI
    have g_never_falls := ok_nf (P := l.prog) (w := w) (base := base) T d_never_falls
    have g_is_row := ok_isRowA T d_is_row g_all_whole
    have g_is_rowI := ok_isRow T d_is_row g_all_wholeI
    have g_has_table_shape := ok_shapeA T d_has_table_shape g_is_row
    have g_has_table_shapeI := ok_shape T d_has_table_shape g_is_rowI
    have g_numbers_at_place := ok_atPlace (P := l.prog) (w := w) (base := base) d_numbers_at_place
    have g_is_sorted_both_ways := ok_sorted T d_is_sorted_both_ways g_never_falls g_numbers_at_place
    have g_is_table := ok_isTableA d_is_table g_has_table_shape g_is_sorted_both_ways
    have g_is_tableI := ok_isTable d_is_table g_has_table_shapeI g_is_sorted_both_ways
    have g_need_table := ok_needTX E0.k N.n0 d_need_table g_is_table
    have g_need_tableI := ok_needTable d_need_table g_is_tableI
    have g_need_number := ok_needNX E2.k N.n2 d_need_number g_is_whole
    have g_need_numberI := ok_needNumber d_need_number g_is_wholeI
    have g_is_cell_of_size := ok_cellSz T h_tuple d_is_cell_of_size g_all_wholeTI
    have g_is_cell := ok_isCell T d_is_cell g_is_cell_of_size
    have g_need_cell := ok_needCell d_need_cell g_is_cell
    have g_number_at := ok_numberAt d_number_at g_need_tableI g_need_cell
    have g_walk_for := ok_walkX d_walk_for g_need_table g_need_number
    have g_walk_forI := ok_walk T d_walk_for g_need_tableI g_need_numberI
    have g_found_at := ok_foundX d_found_at g_walk_for
    have g_found_atI := ok_found d_found_at g_walk_forI g_number_at
    have g__law_cell := ok_lcell (P := l.prog) (w := w) (base := base) T d__law_cell
    have g__law_store := ok_store (P := l.prog) (w := w) (base := base) d__law_store
    have g__law_take := ok_takeK (P := l.prog) (w := w) (base := base) d__law_take
    have g__law_far := ok_far T d__law_far g__law_take
    have g__law_table := ok_tableK T d__law_table g__law_take g__law_far
    have g__law_x := ok_xK T h_min d__law_x g__law_take g__law_far
    have g__law_uneven := ok_uneven T d__law_uneven g__law_take
    have g__law_no_table := ok_noTabK T h_tuple d__law_no_table g__law_take g__law_uneven
    have g__law_kind := ok_kind (P := l.prog) (w := w) (base := base) T h_zip h_ValueError N d__law_kind
    have g__law_word := ok_word N kS E0 E2 d__law_word g_walk_forI g_walk_for g_found_atI g_found_at g__law_kind
    exact FnOk.mono (ok_law T h_min h_repr F g__law_cell g__law_store g__law_take g__law_table g__law_no_table g__law_x g__law_word) (by decide)
end Seek
def PySem.W.Fast.tw10261993256182463589 : Unit := ()
def PySem.W.Fast.tw12121336595596923901 : Unit := ()
def PySem.W.Fast.tw12601063557149720229 : Unit := ()
def PySem.W.Fast.tw12962593669824392104 : Unit := ()
def PySem.W.Fast.tw13222992541232606827 : Unit := ()
def PySem.W.Fast.tw13694337669648177826 : Unit := ()
def PySem.W.Fast.tw13895375703115663360 : Unit := ()
def PySem.W.Fast.tw14878533205859079772 : Unit := ()
def PySem.W.Fast.tw15103192167988837690 : Unit := ()
def PySem.W.Fast.tw15115683149840234101 : Unit := ()
def PySem.W.Fast.tw15366789394887135148 : Unit := ()
def PySem.W.Fast.tw1640977776965737349 : Unit := ()
def PySem.W.Fast.tw16805546313309269743 : Unit := ()
def PySem.W.Fast.tw17113118807967950700 : Unit := ()
def PySem.W.Fast.tw18089065120884148962 : Unit := ()
def PySem.W.Fast.tw18219672307052713100 : Unit := ()
def PySem.W.Fast.tw251800435335938944 : Unit := ()
def PySem.W.Fast.tw4831561531392479181 : Unit := ()
def PySem.W.Fast.tw5934329363911641986 : Unit := ()
def PySem.W.Fast.tw6710293066611230192 : Unit := ()
def PySem.W.Fast.tw6902217874195484010 : Unit := ()
def PySem.W.Fast.tw7098078042449055086 : Unit := ()
def PySem.W.Fast.tw723086331200815390 : Unit := ()
def PySem.W.Fast.tw7619887911900485245 : Unit := ()
def PySem.W.Fast.tw7743988018975014032 : Unit := ()
def PySem.W.Fast.tw8158460379869283695 : Unit := ()
def PySem.W.Fast.tw830074439368122932 : Unit := ()
def PySem.W.Fast.tw8322362090840134129 : Unit := ()
def PySem.W.Fast.tw9085554451499276731 : Unit := ()
def PySem.W.Fast.tw9754879224077934696 : Unit := ()
open PySem PySem.W PyProof.Rows
set_option maxRecDepth 100000 in
set_option maxHeartbeats 0 in
theorem PySem.Challenge.cw_stairseek_k12_no_tables_and_no_numbers_holds : PySem.Challenge.rw_stairseek_k12_no_tables_and_no_numbers.Holds := by
  w_on; o_law; k_head; (case hw => w_witness2)
  k_fill
  refine Seek.walk (l := PySem.Challenge.rw_stairseek_k12_no_tables_and_no_numbers) rfl rfl (fun w h Y => PySem.W.kIn_of Y) ?F
  case F =>
    intro w mg fa h KX G hmg
    refine' Seek.all_mk hmg ?T ?x_min ?x_tuple ?x_zip ?x_repr ?x_ValueError ?zN ?zS ?zE0 ?zE2 ?d_is_whole ?d_all_whole ?d_never_falls ?d_is_row ?d_has_table_shape ?d_numbers_at_place ?d_is_sorted_both_ways ?d_is_table ?d_need_table ?d_need_number ?d_is_cell_of_size ?d_is_cell ?d_need_cell ?d_number_at ?d_walk_for ?d_found_at ?d__law_cell ?d__law_store ?d__law_take ?d__law_far ?d__law_table ?d__law_x ?d__law_uneven ?d__law_no_table ?d__law_kind ?d__law_word ?d_law
    case T =>
      refine' Seek.blt_mk KX G ?e1 ?e2 ?e3 ?e4 ?e5 ?e6 ?e7 ?e8 ?e9 ?e10 ?e11 ?e12
      (case e1 => k_is); (case e2 => k_is); (case e3 => k_is); (case e4 => k_is); (case e5 => k_is); (case e6 => k_is); (case e7 => k_is); (case e8 => k_is); (case e9 => k_is); (case e10 => k_is); (case e11 => k_is); (case e12 => k_is)
    case x_min =>
      refine' PySem.W.mg_none_of KX G ?e
      (case e => k_is)
    case x_tuple =>
      refine' PySem.W.mg_none_of KX G ?e
      (case e => k_is)
    case x_zip =>
      refine' PySem.W.mg_none_of KX G ?e
      (case e => k_is)
    case x_repr =>
      refine' PySem.W.mg_none_of KX G ?e
      (case e => k_is)
    case x_ValueError =>
      refine' PySem.W.mg_none_of KX G ?e
      (case e => k_is)
    case zN =>
      refine' Seek.nms_mk KX G ?e ?e0 ?e1 ?e2 ?e3 ?e4 ?e5 ?e6 ?e7 ?e8 ?e9 ?e10 ?e11
      (case e => k_is); (case e0 => k_is); (case e1 => k_is); (case e2 => k_is); (case e3 => k_is); (case e4 => k_is); (case e5 => k_is); (case e6 => k_is); (case e7 => k_is); (case e8 => k_is); (case e9 => k_is); (case e10 => k_is); (case e11 => k_is)
    case zS =>
      refine' L2.ExcK.mk ?exc ?ga ?gt ?cl ?ob ?bx
      (case exc => k_exc); (case ga => k_is); (case gt => k_is); (case cl => k_is); (case ob => k_is); (case bx => k_is)
    case zE0 =>
      refine' Seek.err_mk (L2.ExcK.mk ?exc ?ga ?gt ?cl ?ob ?bx) ?sk ?kv ?k0 ?k1 ?k2 ?k3 ?k4 ?k5 ?k6 ?k7 ?k8 ?k9 ?k10 ?k11
      (case exc => k_exc); (case ga => k_is); (case gt => k_is); (case cl => k_is); (case ob => k_is); (case bx => k_is)
      (case sk => k_is); (case kv => kit_is); (case k0 => kit_is); (case k1 => kit_is); (case k2 => kit_is); (case k3 => kit_is); (case k4 => kit_is); (case k5 => kit_is); (case k6 => kit_is); (case k7 => kit_is); (case k8 => kit_is); (case k9 => kit_is); (case k10 => kit_is); (case k11 => kit_is)
    case zE2 =>
      refine' Seek.err_mk (L2.ExcK.mk ?exc ?ga ?gt ?cl ?ob ?bx) ?sk ?kv ?k0 ?k1 ?k2 ?k3 ?k4 ?k5 ?k6 ?k7 ?k8 ?k9 ?k10 ?k11
      (case exc => k_exc); (case ga => k_is); (case gt => k_is); (case cl => k_is); (case ob => k_is); (case bx => k_is)
      (case sk => k_is); (case kv => kit_is); (case k0 => kit_is); (case k1 => kit_is); (case k2 => kit_is); (case k3 => kit_is); (case k4 => kit_is); (case k5 => kit_is); (case k6 => kit_is); (case k7 => kit_is); (case k8 => kit_is); (case k9 => kit_is); (case k10 => kit_is); (case k11 => kit_is)
    case d_is_whole =>
      refine' Seek.defAt_mk KX G ?a ?l ?c ?k ?b
      (case a => k_is); (case l => k_is); (case c => k_is); (case k => k_is)
      case b => exact fun _ _ _ _ _ _ us hl => match us, hl with | [_], _ => rfl
    case d_all_whole =>
      refine' Seek.defAt_mk KX G ?a ?l ?c ?k ?b
      (case a => k_is); (case l => k_is); (case c => k_is); (case k => k_is)
      case b => exact fun _ _ _ _ _ _ us hl => match us, hl with | [_], _ => rfl
    case d_never_falls =>
      refine' Seek.defAt_mk KX G ?a ?l ?c ?k ?b
      (case a => k_is); (case l => k_is); (case c => k_is); (case k => k_is)
      case b => exact fun _ _ _ _ _ _ us hl => match us, hl with | [_], _ => rfl
    case d_is_row =>
      refine' Seek.defAt_mk KX G ?a ?l ?c ?k ?b
      (case a => k_is); (case l => k_is); (case c => k_is); (case k => k_is)
      case b => exact fun _ _ _ _ _ _ us hl => match us, hl with | [_], _ => rfl
    case d_has_table_shape =>
      refine' Seek.defAt_mk KX G ?a ?l ?c ?k ?b
      (case a => k_is); (case l => k_is); (case c => k_is); (case k => k_is)
      case b => exact fun _ _ _ _ _ _ us hl => match us, hl with | [_], _ => rfl
    case d_numbers_at_place =>
      refine' Seek.defAt_mk KX G ?a ?l ?c ?k ?b
      (case a => k_is); (case l => k_is); (case c => k_is); (case k => k_is)
      case b => exact fun _ _ _ _ _ _ us hl => match us, hl with | [_, _], _ => rfl
    case d_is_sorted_both_ways =>
      refine' Seek.defAt_mk KX G ?a ?l ?c ?k ?b
      (case a => k_is); (case l => k_is); (case c => k_is); (case k => k_is)
      case b => exact fun _ _ _ _ _ _ us hl => match us, hl with | [_], _ => rfl
    case d_is_table =>
      refine' Seek.defAt_mk KX G ?a ?l ?c ?k ?b
      (case a => k_is); (case l => k_is); (case c => k_is); (case k => k_is)
      case b => exact fun _ _ _ _ _ _ us hl => match us, hl with | [_], _ => rfl
    case d_need_table =>
      refine' Seek.defAt_mk KX G ?a ?l ?c ?k ?b
      (case a => k_is); (case l => k_is); (case c => k_is); (case k => k_is)
      case b => exact fun _ _ _ _ _ _ us hl => match us, hl with | [_], _ => rfl
    case d_need_number =>
      refine' Seek.defAt_mk KX G ?a ?l ?c ?k ?b
      (case a => k_is); (case l => k_is); (case c => k_is); (case k => k_is)
      case b => exact fun _ _ _ _ _ _ us hl => match us, hl with | [_], _ => rfl
    case d_is_cell_of_size =>
      refine' Seek.defAt_mk KX G ?a ?l ?c ?k ?b
      (case a => k_is); (case l => k_is); (case c => k_is); (case k => k_is)
      case b => exact fun _ _ _ _ _ _ us hl => match us, hl with | [_, _, _], _ => rfl
    case d_is_cell =>
      refine' Seek.defAt_mk KX G ?a ?l ?c ?k ?b
      (case a => k_is); (case l => k_is); (case c => k_is); (case k => k_is)
      case b => exact fun _ _ _ _ _ _ us hl => match us, hl with | [_, _], _ => rfl
    case d_need_cell =>
      refine' Seek.defAt_mk KX G ?a ?l ?c ?k ?b
      (case a => k_is); (case l => k_is); (case c => k_is); (case k => k_is)
      case b => exact fun _ _ _ _ _ _ us hl => match us, hl with | [_, _], _ => rfl
    case d_number_at =>
      refine' Seek.defAt_mk KX G ?a ?l ?c ?k ?b
      (case a => k_is); (case l => k_is); (case c => k_is); (case k => k_is)
      case b => exact fun _ _ _ _ _ _ us hl => match us, hl with | [_, _], _ => rfl
    case d_walk_for =>
      refine' Seek.defAt_mk KX G ?a ?l ?c ?k ?b
      (case a => k_is); (case l => k_is); (case c => k_is); (case k => k_is)
      case b => exact fun _ _ _ _ _ _ us hl => match us, hl with | [_, _], _ => rfl
    case d_found_at =>
      refine' Seek.defAt_mk KX G ?a ?l ?c ?k ?b
      (case a => k_is); (case l => k_is); (case c => k_is); (case k => k_is)
      case b => exact fun _ _ _ _ _ _ us hl => match us, hl with | [_, _], _ => rfl
    case d__law_cell =>
      refine' Seek.defAt_mk KX G ?a ?l ?c ?k ?b
      (case a => k_is); (case l => k_is); (case c => k_is); (case k => k_is)
      case b => exact fun _ _ _ _ _ _ us hl => match us, hl with | [_, _], _ => rfl
    case d__law_store =>
      refine' Seek.defAt_mk KX G ?a ?l ?c ?k ?b
      (case a => k_is); (case l => k_is); (case c => k_is); (case k => k_is)
      case b => exact fun _ _ _ _ _ _ us hl => match us, hl with | [_], _ => rfl
    case d__law_take =>
      refine' Seek.defAt_mk KX G ?a ?l ?c ?k ?b
      (case a => k_is); (case l => k_is); (case c => k_is); (case k => k_is)
      case b => exact fun _ _ _ _ _ _ us hl => match us, hl with | [_, _], _ => rfl
    case d__law_far =>
      refine' Seek.defAt_mk KX G ?a ?l ?c ?k ?b
      (case a => k_is); (case l => k_is); (case c => k_is); (case k => k_is)
      case b => exact fun _ _ _ _ _ _ us hl => match us, hl with | [_, _], _ => rfl
    case d__law_table =>
      refine' Seek.defAt_mk KX G ?a ?l ?c ?k ?b
      (case a => k_is); (case l => k_is); (case c => k_is); (case k => k_is)
      case b => exact fun _ _ _ _ _ _ us hl => match us, hl with | [_], _ => rfl
    case d__law_x =>
      refine' Seek.defAt_mk KX G ?a ?l ?c ?k ?b
      (case a => k_is); (case l => k_is); (case c => k_is); (case k => k_is)
      case b => exact fun _ _ _ _ _ _ us hl => match us, hl with | [_, _], _ => rfl
    case d__law_uneven =>
      refine' Seek.defAt_mk KX G ?a ?l ?c ?k ?b
      (case a => k_is); (case l => k_is); (case c => k_is); (case k => k_is)
      case b => exact fun _ _ _ _ _ _ us hl => match us, hl with | [_, _], _ => rfl
    case d__law_no_table =>
      refine' Seek.defAt_mk KX G ?a ?l ?c ?k ?b
      (case a => k_is); (case l => k_is); (case c => k_is); (case k => k_is)
      case b => exact fun _ _ _ _ _ _ us hl => match us, hl with | [_, _], _ => rfl
    case d__law_kind =>
      refine' Seek.defAt_mk KX G ?a ?l ?c ?k ?b
      (case a => k_is); (case l => k_is); (case c => k_is); (case k => k_is)
      case b => exact fun _ _ _ _ _ _ us hl => match us, hl with | [_, _], _ => rfl
    case d__law_word =>
      refine' Seek.defAt_mk KX G ?a ?l ?c ?k ?b
      (case a => k_is); (case l => k_is); (case c => k_is); (case k => k_is)
      case b => exact fun _ _ _ _ _ _ us hl => match us, hl with | [_, _, _], _ => rfl
    case d_law =>
      refine' Seek.defAt_mk KX G ?a ?l ?c ?k ?b
      (case a => k_is); (case l => k_is); (case c => k_is); (case k => k_is)
      case b => exact fun _ _ _ _ _ _ us hl => match us, hl with | [_], _ => rfl
