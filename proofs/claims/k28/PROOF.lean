import PyProof.Rows.All
import Wide.All
import OpenK.AllK
import Wide.FinOn
import Lean
import PyProof.EqAt
import PyProof.EqKinds
import PyProof.TupleCall
import PySem.Challenge.RW_stairseek_k28_a_keeper_by_drawn_deeds
set_option Elab.async false
set_option linter.all false
set_option maxRecDepth 100000
namespace L2
open PySem PySem.Spec PyProof.Rows
abbrev Key := Sum Int Str
def keyIs : Key → Value → Bool
  | .inl k, v => Value.isInt k v
  | .inr x, v => Value.isStrOf x v
def keyH (w : World) : Key → Int
  | .inl k => hashInt k
  | .inr x => hashStr w x
theorem keyIs_shape : ∀ {k : Key} {v : Value}, keyIs k v = true → (∃ i t, k = Sum.inl i ∧ v = Value.int i t) ∨ (∃ x t, k = Sum.inr x ∧ v = Value.str x t)
  | .inl i, v, h => by
    obtain ⟨t, e⟩ := Value.isInt_shape (k := i) (v := v) h
    exact .inl ⟨i, t, rfl, e⟩
  | .inr x, v, h => by
    obtain ⟨t, e⟩ := Value.isStrOf_shape (x := x) (v := v) h
    exact .inr ⟨x, t, rfl, e⟩
theorem key_ll (a b : Int) : decide ((Sum.inl a : Key) = Sum.inl b) = (a == b) := by
  by_cases e : a = b
  · subst e; simp
  · have h : ¬ (Sum.inl a : Key) = Sum.inl b := fun q => e (Sum.inl.inj q)
    rw [decide_eq_false h]
    exact (beq_eq_false_iff_ne.mpr e).symm
theorem key_rr (a b : Str) : decide ((Sum.inr a : Key) = Sum.inr b) = decide (a = b) := by
  by_cases e : a = b
  · subst e; simp
  · have h : ¬ (Sum.inr a : Key) = Sum.inr b := fun q => e (Sum.inr.inj q)
    rw [decide_eq_false h, decide_eq_false e]
theorem key_lr (a : Int) (b : Str) : decide ((Sum.inl a : Key) = Sum.inr b) = false := decide_eq_false (fun q => nomatch q)
theorem key_rl (a : Str) (b : Int) : decide ((Sum.inr a : Key) = Sum.inl b) = false := decide_eq_false (fun q => nomatch q)
def mixKind (prog : Program) (w : World) : PySem.KeyKind prog w Key where
  is := keyIs
  hash := keyH w
  inj := fun v a b ha hb => by
    rcases keyIs_shape ha with ⟨i, t, rfl, rfl⟩ | ⟨x, t, rfl, rfl⟩
    · rcases keyIs_shape hb with ⟨j, u, rfl, e⟩ | ⟨y, u, rfl, e⟩
      · injection e with e1 _; rw [e1]
      · exact nomatch e
    · rcases keyIs_shape hb with ⟨j, u, rfl, e⟩ | ⟨y, u, rfl, e⟩
      · exact nomatch e
      · injection e with e1 _; rw [e1]
  byValue := fun k v h => by
    rcases keyIs_shape h with ⟨i, t, rfl, rfl⟩ | ⟨x, t, rfl, rfl⟩ <;> rfl
  pyHash := fun hv h => by
    rcases keyIs_shape hv with ⟨i, t, rfl, rfl⟩ | ⟨x, t, rfl, rfl⟩
    · exact wpAny_pyHash_int h
    · exact wpAny_pyHash_str h
  eqBool := fun hu hv h => by
    rcases keyIs_shape hu with ⟨i, t, rfl, rfl⟩ | ⟨x, t, rfl, rfl⟩
    · rcases keyIs_shape hv with ⟨j, u, rfl, rfl⟩ | ⟨y, u, rfl, rfl⟩
      · rw [key_ll] at h; exact wpAny_eqBool_int h
      · rw [key_lr] at h; exact SeqAt.EqAt.int_str i t y u _ _ _ _ h
    · rcases keyIs_shape hv with ⟨j, u, rfl, rfl⟩ | ⟨y, u, rfl, rfl⟩
      · rw [key_rl] at h; exact SeqAt.EqAt.str_int x t j u _ _ _ _ h
      · rw [key_rr] at h; exact wpAny_eqBool_str h
  «strs» := fun k x t v h => by
    rcases keyIs_shape h with ⟨i, u, rfl, e⟩ | ⟨y, u, rfl, e⟩
    · exact nomatch e
    · injection e with e1 _
      subst e1
      cases v <;> rfl
inductive V where
  | non | bl (b : Bool) | int (i : Int) | str (x : Str) | byt (b : Array UInt8) | flt (b : UInt64) | ref (a : Addr) | ty (n : String)
  deriving DecidableEq
def RelV : V → Value → Prop
  | .non, u => u = Value.none
  | .bl b, u => u = Value.bool b
  | .int i, u => ∃ t, u = Value.int i t
  | .str x, u => ∃ t, u = Value.str x t
  | .byt b, u => ∃ t, u = Value.bytes b t
  | .flt b, u => ∃ t, u = Value.float b t
  | .ref a, u => u = Value.ref a
  | .ty n, u => u = Value.type n
abbrev Vals : List V → List Value → Prop := Paired RelV
theorem Vals.length {xs : List V} {us : List Value} (r : Vals xs us) : xs.length = us.length := Paired.length r
theorem Vals.get : ∀ {xs : List V} {us : List Value} {i : Nat} {x : V}, Vals xs us → xs[i]? = some x → ∃ u, us[i]? = some u ∧ RelV x u
  | _, _, _, _, .nil, e => by simp at e
  | _, _, 0, _, .cons r _, e => by simp at e; subst e; exact ⟨_, rfl, r⟩
  | _, _, i + 1, x, .cons _ t, e => by
    obtain ⟨u, h1, h2⟩ := Vals.get (i := i) (x := x) t (by simpa using e)
    exact ⟨u, by simpa using h1, h2⟩
theorem Vals.set {x : V} {u : Value} (r : RelV x u) : ∀ {xs : List V} {us : List Value} (i : Nat), Vals xs us → Vals (xs.set i x) (us.set i u)
  | _, _, _, .nil => .nil
  | _, _, 0, .cons _ t => .cons r t
  | _, _, i + 1, .cons q t => .cons q (Vals.set r i t)
theorem Vals.append : ∀ {xs ys : List V} {us ws : List Value}, Vals xs us → Vals ys ws → Vals (xs ++ ys) (us ++ ws)
  | _, _, _, _, .nil, s => s
  | _, _, _, _, .cons r t, s => .cons r (Vals.append t s)
theorem Vals.take : ∀ {xs : List V} {us : List Value} (n : Nat), Vals xs us → Vals (xs.take n) (us.take n)
  | _, _, 0, _ => .nil
  | _, _, _ + 1, .nil => .nil
  | _, _, n + 1, .cons r t => .cons r (Vals.take n t)
theorem Vals.drop : ∀ {xs : List V} {us : List Value} (n : Nat), Vals xs us → Vals (xs.drop n) (us.drop n)
  | _, _, 0, r => r
  | _, _, _ + 1, .nil => .nil
  | _, _, n + 1, .cons _ t => Vals.drop n t
def RelO : Option V → Option Value → Prop
  | some v, some u => RelV v u
  | none, none => True
  | _, _ => False
def KV {κ : Type} : List (κ × V) → List (κ × Value) → Prop := Paired fun (p : κ × V) (q : κ × Value) => p.1 = q.1 ∧ RelV p.2 q.2
def kV : Key → V
  | .inl i => .int i
  | .inr x => .str x
inductive HO where
  | lst (xs : List V)
  | tup (xs : List V)
  | dK (kvs : List (Key × V)) | dT (kvs : List (List Key × V))
  | set (S : Int → Bool) (n : Nat)
  | ins (C dx : Addr) (fs : List (Str × V))
  | own (x : Addr)
  | xd (fs : List (Str × V))
  | met (f x : Addr)
  | rng (lo hi : Int)
  | frz (o : Obj) (u : HO)
  | tbl (ps : Array Value)
  | ext (φ : Heap → Prop)
abbrev Hp := Addr → Option HO
def upd (H : Hp) (a : Addr) (o : HO) : Hp := fun b => if b = a then some o else H b
theorem upd_same {H : Hp} {a : Addr} {o : HO} : upd H a o a = some o := by unfold upd; rw [if_pos rfl]
theorem upd_ne {H : Hp} {a b : Addr} {o : HO} (h : b ≠ a) : upd H a o b = H b := by unfold upd; rw [if_neg h]
theorem ne_of {H : Hp} {a b : Addr} {o u : HO} (h : H a = some o) (h' : H b = some u) (d : o ≠ u) : a ≠ b := by
  intro e; subst e; rw [h] at h'; exact d (Option.some.inj h')
theorem ne_of_none {H : Hp} {a b : Addr} {o : HO} (h : H a = some o) (h' : H b = none) : a ≠ b := by
  intro e; subst e; rw [h] at h'; cases h'
section
variable (P : Program) (w : World)
def ObjOk (H : Hp) (h : Heap) (a : Addr) : HO → Prop
  | .lst xs => xs.length ≤ sizeLine ∧ ∃ (its : List Value) (n : Nat), Vals xs its ∧ h.get? a = some { cls := .type "list", data := .seq its.toArray n }
  | .tup xs => xs.length ≤ sizeLine ∧ ∃ its : List Value, Vals xs its ∧ IsTup h a its.toArray
  | .dK kvs => kvs.length ≤ sizeLine ∧ (a == sysModules) = false ∧ ∃ vs, KV kvs vs ∧ h.DictOf (mixKind P w) a vs
  | .dT kvs => kvs.length ≤ sizeLine ∧ (a == sysModules) = false ∧ ∃ xs : List (List Key × Addr × Value),
      Paired (fun (p : List Key × V) (q : List Key × Addr × Value) => p.1 = q.1 ∧ H q.2.1 = some (.tup (p.1.map kV)) ∧ RelV p.2 q.2.2) kvs xs ∧
      ∃ o es ep, h.get? a = some o ∧ o.ExactDict ∧ o.data = .dict es ep ∧ es.toList = xs.map (entryOfKey (tupleKind (mixKind P w))) ∧ (xs.map (·.1)).Nodup
  | .set S n => h.SetOf (intKind P w) a S n
  | .ins C dx fs => H dx = some (.own a) ∧ fs.length ≤ 1000 ∧ dx ≠ a ∧ h.get? a = some (PySem.W.instObj C dx) ∧
      ∃ mA, h.Ns1 dx mA ∧ (∀ f, RelO (fs.lookup f) (mA f)) ∧ PySem.Within mA (fs.map (·.1))
  | .own _ => ∃ o, h.get? a = some o
  | .xd fs => ∃ mA, h.Ns1 a mA ∧ ∀ f, RelO (fs.lookup f) (mA f)
  | .rng lo hi => ∃ t u v, h.get? a = some { cls := .type "range", data := .fields #[.int lo t, .int hi u, .int 1 v] }
  | .frz o u => h.get? a = some o ∧ ObjOk H h a u
  | .tbl ps => h.get? a = some { cls := .none, data := .fields ps }
  | .met f x => h.get? a = some (PySem.W.methodObj (.ref f) (.ref x))
  | .ext φ => φ h ∧ (∃ o, h.get? a = some o) ∧ ∀ h1 h2 : Heap, φ h1 → (∀ o, h1.get? a = some o → h2.get? a = some o) → φ h2
def HOk (H : Hp) (h : Heap) : Prop := ∀ a o, H a = some o → ObjOk P w H h a o
end
section
variable {P : Program} {w : World} {H H' : Hp} {h h' : Heap} {a : Addr} {o : HO}
theorem ObjOk.lt (x : ObjOk P w H h a o) : a < h.objs.size := by
  cases o with
  | lst xs => obtain ⟨_, _, _, _, e⟩ := x; exact Heap.lt_size e
  | tup xs => obtain ⟨_, _, _, p⟩ := x; exact p.lt
  | dK kvs => obtain ⟨_, _, _, _, o, _, _, e, _⟩ := x; exact Heap.lt_size e
  | dT kvs => obtain ⟨_, _, _, _, o, _, _, e, _⟩ := x; exact Heap.lt_size e
  | set S n => obtain ⟨o, _, _, _, e, _⟩ := x; exact Heap.lt_size e
  | ins C dx fs => obtain ⟨_, _, _, e, _⟩ := x; exact Heap.lt_size e
  | own y => obtain ⟨_, e⟩ := x; exact Heap.lt_size e
  | xd fs => obtain ⟨_, ⟨_, _, _, e, _⟩, _⟩ := x; exact Heap.lt_size e
  | rng lo hi => obtain ⟨_, _, _, e⟩ := x; exact Heap.lt_size e
  | frz ob u => obtain ⟨e, _⟩ := x; exact Heap.lt_size e
  | tbl ps => exact Heap.lt_size (show h.get? a = some _ from x)
  | met f y => exact Heap.lt_size (show h.get? a = some _ from x)
  | ext φ => obtain ⟨_, ⟨_, e⟩, _⟩ := x; exact Heap.lt_size e
theorem Paired.mapP {α β : Type} {F G : α → β → Prop} : ∀ {l₁ : List α} {l₂ : List β}, Paired F l₁ l₂ → (∀ a b, F a b → G a b) → Paired G l₁ l₂
  | _, _, .nil, _ => .nil
  | _, _, .cons r t, f => .cons (f _ _ r) (Paired.mapP t f)
theorem ObjOk.stay (x : ObjOk P w H h a o) (k : ∀ b u, (b = a ∨ H b = some (.own a)) → h.get? b = some u → h'.get? b = some u)
    (ho : ∀ b, H b = some (.own a) → H' b = some (.own a)) (ht : ∀ b xs, H b = some (.tup xs) → H' b = some (.tup xs)) : ObjOk P w H' h' a o := by
  induction o with
  | lst xs => obtain ⟨z, its, n, r, e⟩ := x; exact ⟨z, its, n, r, k _ _ (.inl rfl) e⟩
  | tup xs => obtain ⟨z, its, r, ob, e, c⟩ := x; exact ⟨z, its, r, ob, k _ _ (.inl rfl) e, c⟩
  | dK kvs => obtain ⟨z, y, vs, r, ob, es, ep, e, c⟩ := x; exact ⟨z, y, vs, r, ob, es, ep, k _ _ (.inl rfl) e, c⟩
  | dT kvs =>
    obtain ⟨z, y, xs, r, ob, es, ep, e, c⟩ := x
    exact ⟨z, y, xs, Paired.mapP r fun p q z => ⟨z.1, ht _ _ z.2.1, z.2.2⟩, ob, es, ep, k _ _ (.inl rfl) e, c⟩
  | set S n => obtain ⟨ob, es, ep, t, e, c⟩ := x; exact ⟨ob, es, ep, t, k _ _ (.inl rfl) e, c⟩
  | ins C dx fs =>
    obtain ⟨d, z, ne, e, mA, ⟨od, es, ep, e2, c⟩, r⟩ := x
    exact ⟨ho _ d, z, ne, k _ _ (.inl rfl) e, mA, ⟨od, es, ep, k _ _ (.inr d) e2, c⟩, r⟩
  | own y => obtain ⟨ob, e⟩ := x; exact ⟨ob, k _ _ (.inl rfl) e⟩
  | xd fs => obtain ⟨mA, ⟨od, es, ep, e, c⟩, r⟩ := x; exact ⟨mA, ⟨od, es, ep, k _ _ (.inl rfl) e, c⟩, r⟩
  | rng lo hi => obtain ⟨t, u, v, e⟩ := x; exact ⟨t, u, v, k _ _ (.inl rfl) e⟩
  | frz ob u ih => obtain ⟨e, q⟩ := x; exact ⟨k _ _ (.inl rfl) e, ih q⟩
  | tbl ps =>
    have e : h.get? a = some { cls := .none, data := .fields ps } := x
    show h'.get? a = some { cls := .none, data := .fields ps }
    exact k a _ (.inl rfl) e
  | met f y =>
    have e : h.get? a = some (PySem.W.methodObj (.ref f) (.ref y)) := x
    show h'.get? a = some (PySem.W.methodObj (.ref f) (.ref y))
    exact k a _ (.inl rfl) e
  | ext φ => obtain ⟨p, ⟨o, e⟩, st⟩ := x; exact ⟨st _ _ p fun o q => k _ _ (.inl rfl) q, ⟨o, k _ _ (.inl rfl) e⟩, st⟩
theorem HOk.lt (x : HOk P w H h) (e : H a = some o) : a < h.objs.size := (x a o e).lt
theorem HOk.fresh (x : HOk P w H h) (e : h.objs.size ≤ a) : H a = none := by
  cases q : H a with
  | none => rfl
  | some u => exact absurd (Nat.lt_of_lt_of_le (x.lt q) e) (Nat.lt_irrefl _)
theorem HOk.kept (x : HOk P w H h) (k : ∀ b u, h.get? b = some u → h'.get? b = some u) : HOk P w H h' := fun a o e =>
  (x a o e).stay (fun b u _ q => k b u q) (fun _ q => q) fun _ _ q => q
theorem HOk.laid (x : HOk P w H h) (k : ∀ b u, h.get? b = some u → h'.get? b = some u) (hp : h.objs.size ≤ a) (new : ObjOk P w (upd H a o) h' a o) : HOk P w (upd H a o) h' := fun b u e => by
  have hn := x.fresh hp
  by_cases hb : b = a
  · subst hb; rw [upd_same] at e; cases e; exact new
  · rw [upd_ne hb] at e
    exact (x b u e).stay (fun c v _ q => k c v q) (fun c q => by rw [upd_ne (ne_of_none q hn)]; exact q) fun c xs q => by rw [upd_ne (ne_of_none q hn)]; exact q
end
def Rd (H : Hp) (a : Addr) (u : HO) : Prop := H a = some u ∨ ∃ o, H a = some (.frz o u)
theorem Rd.ok {P : Program} {w : World} {H : Hp} {h : Heap} {a : Addr} {u : HO} (r : Rd H a u) (x : HOk P w H h) : ObjOk P w H h a u := by
  rcases r with r | ⟨o, r⟩
  · exact x a u r
  · obtain ⟨_, q⟩ := x a _ r
    exact q
def Mut : Option HO → Prop
  | some (.lst _) => True
  | some (.dK _) => True
  | some (.dT _) => True
  | some (.set _ _) => True
  | some (.ins _ _ _) => True
  | some (.ext _) => True
  | _ => False
section
variable {P : Program} {w : World} {H : Hp} {h h' : Heap} {x e : Addr} {o' : HO}
theorem HOk.write (ok : HOk P w H h) (mu : Mut (H x)) (he : e = x ∨ H e = some (.own x)) (k : ∀ b u, b ≠ e → h.get? b = some u → h'.get? b = some u) (heo : ∃ u, h'.get? e = some u)
    (new : ObjOk P w (upd H x o') h' x o') : HOk P w (upd H x o') h' := fun b u q => by
  have nown : ∀ c y, H c = some (.own y) → c ≠ x := fun c y r z => by subst z; rw [r] at mu; exact mu
  have ntup : ∀ c xs, H c = some (.tup xs) → c ≠ x := fun c xs r z => by subst z; rw [r] at mu; exact mu
  by_cases hb : b = x
  · subst hb; rw [upd_same] at q; cases q; exact new
  · rw [upd_ne hb] at q
    by_cases hbe : b = e
    · have q' : H b = some (.own x) := by
        rcases he with z | z
        · exact absurd (hbe.trans z) hb
        · rw [hbe]; exact z
      rw [q] at q'; cases q'
      obtain ⟨v, hv⟩ := heo
      exact ⟨v, by rw [hbe]; exact hv⟩
    · refine (ok b u q).stay (fun c v hc r => k c v ?_ r) (fun c r => by rw [upd_ne (nown c b r)]; exact r) fun c xs r => by rw [upd_ne (ntup c xs r)]; exact r
      rcases hc with rfl | hc
      · exact hbe
      · rintro rfl
        rcases he with z | z
        · exact nown c b hc z
        · rw [hc] at z; cases z; exact hb rfl
end
structure Un (fs ex : List Addr) (H H' : Hp) (h h' : Heap) : Prop where
  keep : ∀ b o, h.get? b = some o → H b = none → b ∉ fs → b ∉ ex → h'.get? b = some o
  slot : ∀ b o, h.get? b = some o → H b = none → b ∈ fs → b ∉ ex → ∃ sl, h'.get? b = some { o with slots := sl }
  free : ∀ b o, h.get? b = some o → H b = none → b ∉ ex → H' b = none
  there : ∀ b o, h.get? b = some o → b ∉ ex → ∃ o', h'.get? b = some o'
  tups : ∀ b xs, H b = some (.tup xs) → H' b = some (.tup xs)
  frzs : ∀ b o u, H b = some (.frz o u) → H' b = some (.frz o u)
  tbls : ∀ b ps, H b = some (.tbl ps) → ∃ more, H' b = some (.tbl (ps ++ more))
section
variable {fs fs' ex ex' : List Addr} {H H1 H2 : Hp} {h h1 h2 h' : Heap} {a x e : Addr} {o : HO}
theorem Un.any (u : Un fs ex H H1 h h1) {b : Addr} {ob : Obj} (q : h.get? b = some ob) (n : H b = none) (hx : b ∉ ex) : ∃ sl, h1.get? b = some { ob with slots := sl } := by
  by_cases hb : b ∈ fs
  · exact u.slot b ob q n hb hx
  · exact ⟨ob.slots, u.keep b ob q n hb hx⟩
theorem Un.kept (k : ∀ b u, h.get? b = some u → h'.get? b = some u) : Un fs ex H H h h' :=
  ⟨fun b ob q _ _ _ => k b ob q, fun b ob q _ _ _ => ⟨ob.slots, k b ob q⟩, fun _ _ _ n _ => n, fun b ob q _ => ⟨ob, k b ob q⟩, fun _ _ q => q, fun _ _ _ q => q, fun _ ps q => ⟨#[], by rw [q]; simp⟩⟩
theorem Un.refl : Un fs ex H H h h := Un.kept fun _ _ q => q
theorem Un.laid (k : ∀ b u, h.get? b = some u → h'.get? b = some u) (hp : h.objs.size ≤ a) (hn : H a = none) : Un fs ex H (upd H a o) h h' where
  keep := fun b u q _ _ _ => k b u q
  slot := fun b u q _ _ _ => ⟨u.slots, k b u q⟩
  free := fun b u q n _ => by rw [upd_ne (Nat.ne_of_lt (Nat.lt_of_lt_of_le (Heap.lt_size q) hp))]; exact n
  there := fun b u q _ => ⟨u, k b u q⟩
  tups := fun b xs q => by rw [upd_ne (ne_of_none q hn)]; exact q
  frzs := fun b u xs q => by rw [upd_ne (ne_of_none q hn)]; exact q
  tbls := fun b ps q => ⟨#[], by rw [upd_ne (ne_of_none q hn), q]; simp⟩
theorem Un.write (mu : Mut (H x)) (he : e = x ∨ H e = some (.own x)) (k : ∀ b u, b ≠ e → h.get? b = some u → h'.get? b = some u) (heo : ∃ u, h'.get? e = some u) : Un fs ex H (upd H x o) h h' := by
  have hx : ∀ b, H b = none → b ≠ x := fun b n z => by subst z; rw [n] at mu; exact mu
  have hb : ∀ b, H b = none → b ≠ e := fun b n z => by
    subst z
    rcases he with r | r
    · exact hx b n r
    · rw [n] at r; cases r
  have hm : ∀ b u, H b = some u → ¬ Mut (some u) → b ≠ x := fun b u q nm z => by subst z; rw [q] at mu; exact nm mu
  refine ⟨fun b u q n _ _ => k b u (hb b n) q, fun b u q n _ _ => ⟨u.slots, k b u (hb b n) q⟩, fun b u q n _ => by rw [upd_ne (hx b n)]; exact n, fun b u q _ => ?_,
    fun b xs q => by rw [upd_ne (hm b _ q fun z => z)]; exact q, fun b u xs q => by rw [upd_ne (hm b _ q fun z => z)]; exact q, fun b ps q => ⟨#[], by rw [upd_ne (hm b _ q fun z => z), q]; simp⟩⟩
  by_cases hbe : b = e
  · subst hbe; exact heo
  · exact ⟨u, k b u hbe q⟩
theorem Un.mono (u : Un fs ex H H1 h h1) (hs : ∀ b ∈ fs, b ∈ fs') (hx : ∀ b ∈ ex, b ∈ ex') : Un fs' ex' H H1 h h1 :=
  ⟨fun b ob q n hb he => u.keep b ob q n (fun z => hb (hs b z)) fun z => he (hx b z), fun _ _ q n _ he => u.any q n fun z => he (hx _ z), fun b ob q n he => u.free b ob q n fun z => he (hx b z), fun b ob q he => u.there b ob q fun z => he (hx b z), u.tups, u.frzs, u.tbls⟩
end
def trk (h : Heap) (H : Hp) : List Addr := (List.range h.objs.size).filter fun a => (H a).isSome
def hidT (h : Heap) (H : Hp) : Heap := PySem.W.hideAll h (trk h H)
theorem hidT_size (h : Heap) (H : Hp) : (hidT h H).objs.size = h.objs.size := PySem.W.hideAll_size _ _
theorem hidT_get {h : Heap} {H : Hp} {b : Addr} {o : Obj} (e : h.get? b = some o) (n : H b = none) : (hidT h H).get? b = some o :=
  PySem.W.hideAll_get _ e fun hm => by
    have q : (H b).isSome = true := (List.mem_filter.mp hm).2
    rw [n] at q; simp at q
theorem of_hidT {h : Heap} {H : Hp} {b : Addr} {o : Obj} (e : (hidT h H).get? b = some o) : h.get? b = some o ∧ H b = none := by
  have e' : h.get? b = some o := PySem.W.of_hideAll (trk h H) e
  refine ⟨e', ?_⟩
  cases q : H b with
  | none => rfl
  | some x =>
    have hm : b ∈ trk h H := List.mem_filter.mpr ⟨List.mem_range.mpr (Heap.lt_size e'), by simp [q]⟩
    have z : (hidT h H).get? b = none := PySem.W.hideAll_none (trk h H) hm
    rw [z] at e; cases e
def allNews (g h : Heap) (L : Addr) : List (Addr × Obj) := (List.range h.objs.size).filterMap fun a => if a = L ∨ (g.get? a).isSome = true then none else (h.get? a).map fun o => (a, o)
def rest (g h : Heap) (L d : Addr) : List (Addr × Obj) := (allNews g h L).filter fun p => decide (p.1 ≠ d)
structure Mod (K : PySem.W.Frag) (mg : Str → Option Value) (base : Heap) : Prop where
  kin : K.In base
  glob : base.Ns mainGlobals mg
  blt : ∃ mb, base.Ns builtinsNs mb ∧ ∀ x : Str, x ≠ "__name__" → mb x = bootBuiltins x
  nolimit : base.NoLimit
structure Cx where
  prog : Program
  w : World
  K : PySem.W.Frag
  mg : Str → Option Value
  base : Heap
  A : Around
  N : List Str
  s₀ : Shared
  H₀ : Hp
  env : Env
  outer : List Env
  stack : List Env
  ex : List Addr
  fn : Str → Bool
  calm : Bool
  pn : List (Addr × Obj)
  xe : Value → Shared → Prop
def frs (l : List Env) : List Addr := l.filterMap (·.frame)
abbrev Cx.fs (X : Cx) : List Addr := frs X.outer
def Vis (sc : Scope) (x : Str) : Prop := sc.names.lookup x = some .local ∨ sc.names.lookup x = some .cell ∨ sc.names.lookup x = some .free
def Loc (sc : Scope) (x : Str) : Prop := sc.names.lookup x = some .local ∨ sc.names.lookup x = some .cell
def Look (env : Env) (h : Heap) (m : Str → Option Value) (x : Str) (u : Value) : Prop :=
  (env.kindOf x = some .local ∧ m x = some u) ∨ ((env.kindOf x = some .cell ∨ env.kindOf x = some .free) ∧ ∃ c, env.cells.lookup x = some c ∧ h.IsCell c (some u))
structure Cx.Ok (X : Cx) : Prop where
  mod : Mod X.K X.mg X.base
  kind : X.env.scope.kind = .function
  glob : X.env.globals = mainGlobals
  blt : X.env.builtins = builtinsNs
  above : X.s₀.heap.objs.size ≤ X.env.locals
  inj : ∀ x y c, X.env.cells.lookup x = some c → X.env.cells.lookup y = some c → x = y
  has : ∀ x, (X.env.kindOf x = some .cell ∨ X.env.kindOf x = some .free) → ∃ c, X.env.cells.lookup x = some c
  cab : ∀ x c, X.fn x = true → X.env.cells.lookup x = some c → X.s₀.heap.objs.size ≤ c
  hd : X.calm = true → X.A.handled = none
  frames : X.A.frames = some X.stack
  stk : X.stack = X.outer ∨ (X.stack = X.env :: X.outer ∧ X.env.frame = some X.env.locals)
  exf : ∀ b ∈ X.ex, b ≠ X.env.locals ∧ ∀ x c, X.env.cells.lookup x = some c → c ≠ b
  bs : ∀ b o, X.base.get? b = some o → X.s₀.heap.get? b = some o ∧ X.H₀ b = none
  bsz : X.base.objs.size ≤ X.s₀.heap.objs.size
  noex : ∀ b o, X.base.get? b = some o → b ∉ X.ex
  exfs : ∀ b ∈ X.ex, b ∉ X.fs
  funs : X.s₀.heap.FunFrames X.base X.outer
  frf : ∀ b ∈ X.fs, X.H₀ b = none
structure Inv (X : Cx) (pins : List (Addr × Obj)) (σ : List (Option V)) (H : Hp) (s : Shared) : Prop where
  ok : X.Ok
  os : s.os = X.s₀.os
  bare : AllBare s.gens
  base : Un X.fs X.ex X.H₀ H X.s₀.heap s.heap
  loc : ∃ m, s.heap.Ns X.env.locals m ∧ ∀ (i : Nat) (x : Str) (v : V), X.N[i]? = some x → σ[i]? = some (some v) → Vis X.env.scope x → ∃ u, RelV v u ∧ Look X.env s.heap m x u
  cell : ∀ x c, X.env.cells.lookup x = some c → ∃ v, s.heap.IsCell c v
  free : H X.env.locals = none
  freeC : ∀ x c, X.env.cells.lookup x = some c → H c = none
  pin : ∀ p ∈ X.pn ++ pins, s.heap.get? p.1 = some p.2 ∧ H p.1 = none ∧ p.1 ≠ X.env.locals ∧ p.1 ∉ X.fs ∧ ∀ v, p.2.data ≠ .cell v
  hok : HOk X.prog X.w H s.heap
  len : σ.length = X.N.length
section
variable {X : Cx} {pins : List (Addr × Obj)} {σ : List (Option V)} {H H' : Hp} {s : Shared} {h' : Heap}
theorem Cx.Ok.nofr (ok : X.Ok) {b : Addr} {o : Obj} (e : X.base.get? b = some o) : b ∉ X.fs := fun hb => by
  have := (ok.funs.mem hb).1
  rw [e] at this; cases this
theorem Inv.bs (I : Inv X pins σ H s) : ∀ b o, X.base.get? b = some o → s.heap.get? b = some o ∧ H b = none := fun b o e =>
  ⟨I.base.keep b o (I.ok.bs b o e).1 (I.ok.bs b o e).2 (I.ok.nofr e) (I.ok.noex b o e), I.base.free b o (I.ok.bs b o e).1 (I.ok.bs b o e).2 (I.ok.noex b o e)⟩
theorem Inv.bk (I : Inv X pins σ H s) : ∀ b o, X.base.get? b = some o → s.heap.get? b = some o := fun b o e => (I.bs b o e).1
theorem Inv.mod (I : Inv X pins σ H s) : Mod X.K X.mg X.base := I.ok.mod
theorem Inv.kIn (I : Inv X pins σ H s) : X.K.In s.heap := I.ok.mod.kin.keeps I.bk
theorem Inv.fr (I : Inv X pins σ H s) : ∃ m, Fr X.base X.env.locals s.heap m :=
  let ⟨m, hn, _⟩ := I.loc
  ⟨m, hn, I.bk, Nat.le_trans I.ok.bsz I.ok.above⟩
theorem Inv.lt (I : Inv X pins σ H s) : X.env.locals < s.heap.objs.size := let ⟨_, hn, _⟩ := I.loc; hn.lt
theorem Inv.sz (I : Inv X pins σ H s) : X.s₀.heap.objs.size ≤ s.heap.objs.size := Nat.le_trans I.ok.above (Nat.le_of_lt I.lt)
theorem Inv.nofs (I : Inv X pins σ H s) {a : Addr} (h : s.heap.objs.size ≤ a) : a ∉ X.fs := fun hb => by
  obtain ⟨_, o, ho, _⟩ := I.ok.funs.mem hb
  exact absurd (Nat.lt_of_lt_of_le (Heap.lt_size ho) (Nat.le_trans I.sz h)) (Nat.lt_irrefl _)
theorem Inv.cne (I : Inv X pins σ H s) : ∀ x c, X.env.cells.lookup x = some c → c ≠ X.env.locals := fun x c e z => by
  obtain ⟨v, o, ho, hd⟩ := I.cell x c e
  obtain ⟨m, ⟨o', es, ep, ho', hd', _⟩, _⟩ := I.loc
  rw [z, ho'] at ho; cases ho; rw [hd'] at hd; cases hd
theorem Inv.funs (I : Inv X pins σ H s) : s.heap.FunFrames X.base X.outer := by
  have all : ∀ (l : List Env), (∀ b ∈ frs l, b ∈ X.fs) → X.s₀.heap.FunFrames X.base l → s.heap.FunFrames X.base l := by
    intro l
    induction l with
    | nil => intro _ _; trivial
    | cons env r ih =>
      intro hs hl
      obtain ⟨hk, ⟨L, o, hf, hn, ho, hd⟩, hr⟩ := hl
      have hL : L ∈ X.fs := hs L (by unfold frs; rw [List.filterMap_cons, hf]; exact List.mem_cons_self)
      obtain ⟨sl, e⟩ := I.base.slot L o ho (I.ok.frf L hL) hL fun z => I.ok.exfs L z hL
      exact ⟨hk, ⟨L, _, hf, hn, e, hd⟩, ih (fun b hb => hs b (by unfold frs; rw [List.filterMap_cons, hf]; exact List.mem_cons_of_mem _ hb)) hr⟩
  exact all X.outer (fun _ hb => hb) I.ok.funs
theorem Inv.stack (I : Inv X pins σ H s) : s.heap.FunFrames X.base X.stack := by
  rcases I.ok.stk with e | ⟨e, hf⟩
  · rw [e]; exact I.funs
  · rw [e]
    obtain ⟨m, hn, _⟩ := I.loc
    refine .cons (by rw [I.ok.kind]; decide) hf hn ?_ I.funs
    exact Heap.get?_none_of_le (Nat.le_trans I.ok.bsz I.ok.above)
theorem Inv.stkSub (I : Inv X pins σ H s) : ∀ b ∈ frs X.stack, b ∈ X.env.locals :: X.fs := fun b hb => by
  rcases I.ok.stk with e | ⟨e, hf⟩
  · rw [e] at hb; exact List.mem_cons_of_mem _ hb
  · rw [e] at hb
    unfold frs at hb
    rw [List.filterMap_cons, hf] at hb
    exact hb
theorem Inv.stkFree (I : Inv X pins σ H s) : ∀ b ∈ frs X.stack, H b = none := fun b hb => by
  rcases List.mem_cons.mp (I.stkSub b hb) with e | hb
  · rw [e]; exact I.free
  · obtain ⟨_, o, ho, _⟩ := I.ok.funs.mem hb
    exact I.base.free b o ho (I.ok.frf b hb) fun z => I.ok.exfs b z hb
theorem Inv.step {g' : Array GenState} {t' : Nat} {d' : Drawn} {ch : List Addr} (I : Inv X pins σ H s)
    (hch : ∀ b ∈ ch, (b ∈ X.ex ∨ X.s₀.heap.objs.size ≤ b) ∧ b ≠ X.env.locals ∧ (∀ x c, X.env.cells.lookup x = some c → c ≠ b) ∧ ∀ p ∈ X.pn ++ pins, p.1 ≠ b)
    (keep : ∀ b o, b ≠ X.env.locals → b ∉ X.fs → b ∉ ch → s.heap.get? b = some o → H b = none → h'.get? b = some o)
    (slot : ∀ b o, b ≠ X.env.locals → b ∈ X.fs → b ∉ ch → s.heap.get? b = some o → H b = none → ∃ sl, h'.get? b = some { o with slots := sl }) (free : ∀ b o, b ∉ ch → s.heap.get? b = some o → H b = none → H' b = none)
    (there : ∀ b o, b ∉ ch → s.heap.get? b = some o → ∃ o', h'.get? b = some o')
    (tups : ∀ b xs, H b = some (.tup xs) → H' b = some (.tup xs)) (frzs : ∀ b o u, H b = some (.frz o u) → H' b = some (.frz o u)) (tbls : ∀ b ps, H b = some (.tbl ps) → ∃ more, H' b = some (.tbl (ps ++ more)))
    (ns : ∀ m, s.heap.Ns X.env.locals m → h'.Ns X.env.locals m) (hok : HOk X.prog X.w H' h') (hg : AllBare g') :
    Inv X pins σ H' { s with heap := h', gens := g', drawn := d', toks := t' } := by
  have neL : ∀ b o, X.s₀.heap.get? b = some o → b ≠ X.env.locals := fun b o e => Nat.ne_of_lt (Nat.lt_of_lt_of_le (Heap.lt_size e) I.ok.above)
  have neC : ∀ b o, X.s₀.heap.get? b = some o → b ∉ X.ex → b ∉ ch := fun b o e hx hb => by
    rcases (hch b hb).1 with z | z
    · exact hx z
    · exact absurd (Nat.lt_of_lt_of_le (Heap.lt_size e) z) (Nat.lt_irrefl _)
  have cellK : ∀ x c, X.env.cells.lookup x = some c → ∀ v, s.heap.IsCell c v → h'.IsCell c v := fun x c e v ⟨o, ho, hd⟩ => by
    have nch : c ∉ ch := fun z => (hch c z).2.2.1 x c e rfl
    by_cases hc : c ∈ X.fs
    · obtain ⟨sl, q⟩ := slot c o (I.cne x c e) hc nch ho (I.freeC x c e)
      exact ⟨_, q, hd⟩
    · exact ⟨o, keep c o (I.cne x c e) hc nch ho (I.freeC x c e), hd⟩
  refine ⟨I.ok, I.os, hg, ⟨fun b o e n hb hx => ?_, fun b o e n hb hx => ?_, fun b o e n hx => ?_, fun b o e hx => ?_, fun b xs e => tups b xs (I.base.tups b xs e), fun b o xs e => frzs b o xs (I.base.frzs b o xs e), fun b ps e => ?_⟩, ?_, fun x c e => ?_, ?_, fun x c e => ?_, fun p hp => ?_, hok, I.len⟩
  · exact keep b o (neL b o e) hb (neC b o e hx) (I.base.keep b o e n hb hx) (I.base.free b o e n hx)
  · obtain ⟨sl, e1⟩ := I.base.slot b o e n hb hx
    obtain ⟨sl', e2⟩ := slot b _ (neL b o e) hb (neC b o e hx) e1 (I.base.free b o e n hx)
    exact ⟨sl', e2⟩
  · obtain ⟨o', e1⟩ := I.base.there b o e hx
    exact free b o' (neC b o e hx) e1 (I.base.free b o e n hx)
  · obtain ⟨o', e1⟩ := I.base.there b o e hx
    exact there b o' (neC b o e hx) e1
  · obtain ⟨m1, e1⟩ := I.base.tbls b ps e
    obtain ⟨m2, e2⟩ := tbls b _ e1
    exact ⟨m1 ++ m2, by rw [e2, Array.append_assoc]⟩
  · obtain ⟨m, hn, hl⟩ := I.loc
    refine ⟨m, ns m hn, fun i x v e1 e2 e3 => ?_⟩
    obtain ⟨u, r, l⟩ := hl i x v e1 e2 e3
    refine ⟨u, r, ?_⟩
    rcases l with l | ⟨k, c, e, z⟩
    · exact .inl l
    · exact .inr ⟨k, c, e, cellK x c e _ z⟩
  · obtain ⟨v, z⟩ := I.cell x c e
    exact ⟨v, cellK x c e v z⟩
  · obtain ⟨m, ⟨o, _, _, ho, _⟩, _⟩ := I.loc
    exact free _ o (fun z => (hch _ z).2.1 rfl) ho I.free
  · obtain ⟨v, o, ho, hd⟩ := I.cell x c e
    exact free c o (fun z => (hch c z).2.2.1 x c e rfl) ho (I.freeC x c e)
  · obtain ⟨e, n, ne, nf, d⟩ := I.pin p hp
    have nch : p.1 ∉ ch := fun z => (hch p.1 z).2.2.2 p hp rfl
    exact ⟨keep p.1 p.2 ne nf nch e n, free p.1 p.2 nch e n, ne, nf, d⟩
theorem Inv.un {t' : Nat} (I : Inv X pins σ H s) (u : Un X.fs [] H H' s.heap h') (hok : HOk X.prog X.w H' h') : Inv X pins σ H' { s with heap := h', toks := t' } := by
  obtain ⟨m, ⟨o, es, ep, ho, r⟩, _⟩ := id I.loc
  obtain ⟨sl, hL⟩ := u.any ho I.free (by simp)
  exact I.step (g' := s.gens) (d' := s.drawn) (ch := []) (fun _ z => nomatch z) (fun b o _ hb _ e n => u.keep b o e n hb (by simp)) (fun b o _ hb _ e n => u.slot b o e n hb (by simp)) (fun b o _ e n => u.free b o e n (by simp)) (fun b o _ e => u.there b o e (by simp)) u.tups u.frzs u.tbls (fun m' hm => by
    obtain ⟨o', es', ep', ho', r'⟩ := hm
    rw [ho] at ho'; cases ho'
    exact ⟨_, es', ep', hL, r'⟩) hok I.bare
theorem Inv.call {g' : Array GenState} {t' : Nat} {d' : Drawn} {ch : List Addr} (I : Inv X pins σ H s) (u : Un (frs X.stack) ch H H' s.heap h') (hok : HOk X.prog X.w H' h') (hg : AllBare g')
    (hch : ∀ b ∈ ch, (b ∈ X.ex ∨ X.s₀.heap.objs.size ≤ b) ∧ b ≠ X.env.locals ∧ (∀ x c, X.env.cells.lookup x = some c → c ≠ b) ∧ ∀ p ∈ X.pn ++ pins, p.1 ≠ b) :
    Inv X pins σ H' { s with heap := h', gens := g', drawn := d', toks := t' } := by
  obtain ⟨m, ⟨o, es, ep, ho, r⟩, _⟩ := id I.loc
  obtain ⟨sl, hL⟩ := u.any ho I.free fun z => (hch _ z).2.1 rfl
  exact I.step (ch := ch) hch (fun b o hL hb hc e n => u.keep b o e n (fun z => (List.mem_cons.mp (I.stkSub b z)).elim hL hb) hc) (fun b o _ _ hc e n => u.any e n hc) (fun b o hc e n => u.free b o e n hc) (fun b o hc e => u.there b o e hc) u.tups u.frzs u.tbls (fun m' hm => by
    obtain ⟨o', es', ep', ho', r'⟩ := hm
    rw [ho] at ho'; cases ho'
    exact ⟨_, es', ep', hL, r'⟩) hok hg
theorem Inv.turned {t' : Nat} {it : Addr} (I : Inv X pins σ H s) (k : ∀ b o, b ≠ it → s.heap.get? b = some o → h'.get? b = some o) (hn : H it = none) (hL : it ≠ X.env.locals)
    (h1 : it ∈ X.ex ∨ X.s₀.heap.objs.size ≤ it) (h2 : ∀ x c, X.env.cells.lookup x = some c → c ≠ it) (h3 : ∀ p ∈ X.pn ++ pins, p.1 ≠ it) : Inv X pins σ H { s with heap := h', toks := t' } := by
  have nit : ∀ b u, H b = some u → b ≠ it := fun b u e z => by rw [z, hn] at e; cases e
  refine I.step (g' := s.gens) (d' := s.drawn) (ch := [it]) (fun b hb => ?_) (fun b o _ _ hc e _ => k b o (fun z => hc (by simp [z])) e) (fun b o _ _ hc e _ => ⟨o.slots, k b o (fun z => hc (by simp [z])) e⟩) (fun _ _ _ _ n => n)
    (fun b o hc e => ⟨o, k b o (fun z => hc (by simp [z])) e⟩) (fun _ _ e => e) (fun _ _ _ e => e) (fun b ps e => ⟨#[], by rw [e]; simp⟩) (fun m hm => ?_) (fun b u e => ?_) I.bare
  · have e : b = it := by simpa using hb
    subst e
    exact ⟨h1, hL, h2, h3⟩
  · obtain ⟨o, es, ep, ho, r⟩ := hm
    exact ⟨o, es, ep, k _ o (Ne.symm hL) ho, r⟩
  · refine (I.hok b u e).stay (fun c v hc q => k c v ?_ q) (fun _ q => q) fun _ _ q => q
    rcases hc with z | z
    · rw [z]; exact nit b u e
    · exact nit c _ z
theorem Inv.tok (I : Inv X pins σ H s) (t : Nat) : Inv X pins σ H { s with toks := t } := I.un (h' := s.heap) (t' := t) Un.refl I.hok
theorem Inv.kept {t' : Nat} (I : Inv X pins σ H s) (k : ∀ b u, s.heap.get? b = some u → h'.get? b = some u) : Inv X pins σ H { s with heap := h', toks := t' } := I.un (Un.kept k) (I.hok.kept k)
theorem Inv.laid {a : Addr} {o : HO} {t' : Nat} (I : Inv X pins σ H s) (k : ∀ b u, s.heap.get? b = some u → h'.get? b = some u) (hp : s.heap.objs.size ≤ a) (new : ObjOk X.prog X.w (upd H a o) h' a o) :
    Inv X pins σ (upd H a o) { s with heap := h', toks := t' } := I.un (Un.laid k hp (I.hok.fresh hp)) (I.hok.laid k hp new)
theorem Inv.write {x e : Addr} {o : HO} {t' : Nat} (I : Inv X pins σ H s) (mu : Mut (H x)) (he : e = x ∨ H e = some (.own x)) (k : ∀ b u, b ≠ e → s.heap.get? b = some u → h'.get? b = some u) (heo : ∃ u, h'.get? e = some u)
    (new : ObjOk X.prog X.w (upd H x o) h' x o) : Inv X pins σ (upd H x o) { s with heap := h', toks := t' } := I.un (Un.write mu he k heo) (I.hok.write mu he k heo new)
theorem Inv.pins_of {pins' : List (Addr × Obj)} (I : Inv X pins σ H s) (h : ∀ p ∈ pins', s.heap.get? p.1 = some p.2 ∧ H p.1 = none ∧ p.1 ≠ X.env.locals ∧ p.1 ∉ X.fs ∧ ∀ v, p.2.data ≠ .cell v) : Inv X pins' σ H s :=
  ⟨I.ok, I.os, I.bare, I.base, I.loc, I.cell, I.free, I.freeC, fun p hp => (List.mem_append.mp hp).elim (fun z => I.pin p (List.mem_append_left _ z)) (h p), I.hok, I.len⟩
theorem nodup_ix {N : List Str} (hN : N.Nodup) {i j : Nat} {x : Str} (a : N[i]? = some x) (b : N[j]? = some x) : i = j := by
  obtain ⟨h1, e1⟩ := List.getElem?_eq_some_iff.mp a
  obtain ⟨h2, e2⟩ := List.getElem?_eq_some_iff.mp b
  exact (List.getElem_inj hN).mp (e1.trans e2.symm)
theorem store_ok2 {M : Model} {A : Around} {E : Value → Shared → Prop} {i : Nat} {x : Str} {v : V} {u : Value} {Q : Unit → Shared → Prop} (I : Inv X pins σ H s) (hN : X.N.Nodup) (hi : X.N[i]? = some x) (hx : Loc X.env.scope x) (r : RelV v u)
    (h : ∀ s', Inv X pins (σ.set i (some v)) H s' → (∃ a, Heap.SameBut a s.heap s'.heap ∧ (a = X.env.locals ∨ X.env.cells.lookup x = some a)) → Q () s') (hf : X.fn x = true ∨ X.env.scope.names.lookup x = some .local := by first | exact .inl rfl | exact .inr rfl | assumption) : wpAny M A (storeName X.env x u) Q E s := by
  obtain ⟨m, hn, hl⟩ := id I.loc
  have hcls : (X.env.scope.kind == .class || (X.env.scope.kind == .module && X.env.locals != X.env.globals)) = false := by rw [I.ok.kind]; rfl
  have hiσ : i < σ.length := by rw [I.len]; exact (List.getElem?_eq_some_iff.mp hi).1
  have cne := I.cne
  have tracked : ∀ {a : Addr} {h' : Heap}, (∃ o, s.heap.get? a = some o ∧ H a = none) → Heap.SameBut a s.heap h' → HOk X.prog X.w H h' := fun {a h'} ha hs b ob e => by
    obtain ⟨_, _, hfree⟩ := ha
    refine (I.hok b ob e).stay (fun c w' hc q => (hs.2 c ?_).trans q) (fun _ q => q) fun _ _ q => q
    rintro rfl
    rcases hc with rfl | hc
    · rw [hfree] at e; cases e
    · rw [hfree] at hc; cases hc
  rcases hx with hk | hk
  · refine wpAny_storeName_local hk hn (fun h' hn' hs => ?_) hcls
    obtain ⟨oL, _, _, hoL, _⟩ := id hn
    refine h _ ⟨I.ok, I.os, I.bare, ⟨fun b o e n hb hx => ?_, fun b o e n hb hx => ?_, I.base.free, fun b o e hx => ?_, I.base.tups, I.base.frzs, I.base.tbls⟩, ⟨_, hn', fun j y v' e1 e2 e3 => ?_⟩, fun y c e => ?_, I.free, I.freeC, fun p hp => ?_, tracked ⟨oL, hoL, I.free⟩ hs, by simpa using I.len⟩ ⟨_, hs, .inl rfl⟩
    · exact (hs.2 b (Nat.ne_of_lt (Nat.lt_of_lt_of_le (Heap.lt_size e) I.ok.above))).trans (I.base.keep b o e n hb hx)
    · obtain ⟨sl, e1⟩ := I.base.slot b o e n hb hx
      exact ⟨sl, (hs.2 b (Nat.ne_of_lt (Nat.lt_of_lt_of_le (Heap.lt_size e) I.ok.above))).trans e1⟩
    · obtain ⟨o', e1⟩ := I.base.there b o e hx
      exact ⟨o', (hs.2 b (Nat.ne_of_lt (Nat.lt_of_lt_of_le (Heap.lt_size e) I.ok.above))).trans e1⟩
    · by_cases hj : j = i
      · subst hj
        rw [hi] at e1; cases e1
        rw [List.getElem?_set_self hiσ] at e2
        cases e2
        exact ⟨u, r, .inl ⟨hk, by simp⟩⟩
      · rw [List.getElem?_set_ne (Ne.symm hj)] at e2
        obtain ⟨u', r', q⟩ := hl j y v' e1 e2 e3
        refine ⟨u', r', ?_⟩
        rcases q with ⟨k, e⟩ | ⟨k, c, e, z⟩
        · refine .inl ⟨k, ?_⟩
          have : y ≠ x := fun e => hj (nodup_ix hN e1 (e ▸ hi))
          simp [this, e]
        · exact .inr ⟨k, c, e, z.sameBut hs (cne y c e)⟩
    · obtain ⟨w', z⟩ := I.cell y c e
      exact ⟨w', z.sameBut hs (cne y c e)⟩
    · obtain ⟨e, n, ne, nf, d⟩ := I.pin p hp
      exact ⟨(hs.2 p.1 ne).trans e, n, ne, nf, d⟩
  · have hfn : X.fn x = true := by
      rcases hf with z | z
      · exact z
      · rw [z] at hk; cases hk
    obtain ⟨c, hc⟩ := I.ok.has x (.inl hk)
    obtain ⟨w', z⟩ := I.cell x c hc
    refine wpAny_storeName_cell I.ok.kind hk hc z (fun h' hc' hs => ?_)
    obtain ⟨oc, hoc, hocd⟩ := id z
    refine h { s with heap := h' } ⟨I.ok, I.os, I.bare, ⟨fun b o e n hb hx => ?_, fun b o e n hb hx => ?_, I.base.free, fun b o e hx => ?_, I.base.tups, I.base.frzs, I.base.tbls⟩, ⟨m, hn.sameBut hs (Ne.symm (cne x c hc)), fun j y v' e1 e2 e3 => ?_⟩, fun y c' e => ?_, I.free, I.freeC, fun p hp => ?_, tracked ⟨oc, hoc, I.freeC x c hc⟩ hs, by simpa using I.len⟩ ⟨c, hs, .inr hc⟩
    · exact (hs.2 b (Nat.ne_of_lt (Nat.lt_of_lt_of_le (Heap.lt_size e) (I.ok.cab x c hfn hc)))).trans (I.base.keep b o e n hb hx)
    · obtain ⟨sl, e1⟩ := I.base.slot b o e n hb hx
      exact ⟨sl, (hs.2 b (Nat.ne_of_lt (Nat.lt_of_lt_of_le (Heap.lt_size e) (I.ok.cab x c hfn hc)))).trans e1⟩
    · obtain ⟨o', e1⟩ := I.base.there b o e hx
      exact ⟨o', (hs.2 b (Nat.ne_of_lt (Nat.lt_of_lt_of_le (Heap.lt_size e) (I.ok.cab x c hfn hc)))).trans e1⟩
    · by_cases hj : j = i
      · subst hj
        rw [hi] at e1; cases e1
        rw [List.getElem?_set_self hiσ] at e2
        cases e2
        exact ⟨u, r, .inr ⟨.inl hk, c, hc, hc'⟩⟩
      · rw [List.getElem?_set_ne (Ne.symm hj)] at e2
        obtain ⟨u', r', q⟩ := hl j y v' e1 e2 e3
        refine ⟨u', r', ?_⟩
        rcases q with q | ⟨k, c', e, z'⟩
        · exact .inl q
        · refine .inr ⟨k, c', e, z'.sameBut hs ?_⟩
          rintro rfl
          exact hj (nodup_ix hN e1 (I.ok.inj _ _ _ e hc ▸ hi))
    · by_cases hcc : c' = c
      · subst hcc; exact ⟨_, hc'⟩
      · obtain ⟨w2, z2⟩ := I.cell y c' e
        exact ⟨w2, z2.sameBut hs hcc⟩
    · obtain ⟨e, n, ne, nf, d⟩ := I.pin p hp
      refine ⟨(hs.2 p.1 ?_).trans e, n, ne, nf, d⟩
      intro q
      rw [q, hoc] at e
      have q' : oc = p.2 := Option.some.inj e
      exact d w' (by rw [← q']; exact hocd)
theorem store_ok {M : Model} {A : Around} {E : Value → Shared → Prop} {i : Nat} {x : Str} {v : V} {u : Value} {Q : Unit → Shared → Prop} (I : Inv X pins σ H s) (hN : X.N.Nodup) (hi : X.N[i]? = some x) (hx : Loc X.env.scope x) (r : RelV v u)
    (h : ∀ s', Inv X pins (σ.set i (some v)) H s' → Q () s') (hf : X.fn x = true ∨ X.env.scope.names.lookup x = some .local := by first | exact .inl rfl | exact .inr rfl | assumption) : wpAny M A (storeName X.env x u) Q E s :=
  store_ok2 I hN hi hx r (fun s' I' _ => h s' I') hf
theorem Inv.call' {s' : Shared} {ch : List Addr} (I : Inv X pins σ H s) (ho : s'.os = s.os) (u : Un (frs X.stack) ch H H' s.heap s'.heap) (hok : HOk X.prog X.w H' s'.heap) (hg : AllBare s'.gens)
    (hch : ∀ b ∈ ch, (b ∈ X.ex ∨ X.s₀.heap.objs.size ≤ b) ∧ b ≠ X.env.locals ∧ (∀ x c, X.env.cells.lookup x = some c → c ≠ b) ∧ ∀ p ∈ X.pn ++ pins, p.1 ≠ b) : Inv X pins σ H' s' := by
  obtain ⟨h', g', d', t', o'⟩ := s'
  have e : o' = s.os := ho
  subst e
  exact I.call (g' := g') (t' := t') (d' := d') u hok hg hch
end
abbrev XK := Value → Option Addr → Hp → Prop
abbrev St := List (Option V)
abbrev VK := V → Hp → Prop
abbrev TE := St → Hp → VK → Prop
abbrev TT := St → Hp → (Bool → Hp → Prop) → Prop
abbrev TA := St → Hp → (List V → Hp → Prop) → Prop
structure Ends where
  nx : St → Hp → Prop
  rt : VK
  bk : St → Hp → Prop := fun _ _ => False
  ct : St → Hp → Prop := fun _ _ => False
abbrev TS := Ends → St → Hp → Prop
def EP (X : Cx) (pins : List (Addr × Obj)) (σ : St) (Q : VK) (u : Value) (s' : Shared) : Prop := ∃ v H', Inv X pins σ H' s' ∧ RelV v u ∧ Q v H'
def TP (X : Cx) (pins : List (Addr × Obj)) (σ : St) (Q : Bool → Hp → Prop) (b : Bool) (s' : Shared) : Prop := ∃ H', Inv X pins σ H' s' ∧ Q b H'
def AP (X : Cx) (pins : List (Addr × Obj)) (σ : St) (Q : List V → Hp → Prop) (us : List Value) (s' : Shared) : Prop := ∃ vs H', Inv X pins σ H' s' ∧ Vals vs us ∧ Q vs H'
def SP (X : Cx) (pins : List (Addr × Obj)) (D : Ends) (f : Flow) (s' : Shared) : Prop :=
  match f with
  | .next => ∃ σ' H', Inv X pins σ' H' s' ∧ D.nx σ' H'
  | .brk => ∃ σ' H', Inv X pins σ' H' s' ∧ D.bk σ' H'
  | .cont => ∃ σ' H', Inv X pins σ' H' s' ∧ D.ct σ' H'
  | .ret u => ∃ v σ' H', Inv X pins σ' H' s' ∧ RelV v u ∧ D.rt v H'
def PE (X : Cx) (e : Expr) (t : TE) : Prop :=
  ∀ (pins : List (Addr × Obj)) (s : Shared) (σ : St) (H : Hp) (Q : VK), Inv X pins σ H s → t σ H Q → wpAny (model X.prog X.w) X.A (eval e X.env) (EP X pins σ Q) X.xe s
def PT (X : Cx) (e : Expr) (t : TT) : Prop :=
  ∀ (pins : List (Addr × Obj)) (s : Shared) (σ : St) (H : Hp) (Q : Bool → Hp → Prop), Inv X pins σ H s → t σ H Q → wpAny (model X.prog X.w) X.A (isTrue e X.env (eval e X.env)) (TP X pins σ Q) X.xe s
def PW (X : Cx) (e : Expr) (t : TT) : Prop :=
  ∀ (whole : Sem Value) (pins : List (Addr × Obj)) (s : Shared) (σ : St) (H : Hp) (Q : Bool → Hp → Prop), Inv X pins σ H s → t σ H Q → wpAny (model X.prog X.w) X.A (isTrue e X.env whole) (TP X pins σ Q) X.xe s
theorem PW.pt {X : Cx} {e : Expr} {t : TT} (h : PW X e t) : PT X e t := h _
def PA (X : Cx) (es : List Expr) (t : TA) : Prop :=
  ∀ (pos : Pos) (pins : List (Addr × Obj)) (s : Shared) (σ : St) (H : Hp) (Q : List V → Hp → Prop), Inv X pins σ H s → t σ H Q → wpAny (model X.prog X.w) X.A (spliced (backTo pos (starEach es X.env))) (AP X pins σ Q) X.xe s
def PS (X : Cx) (st : Stmt) (t : TS) : Prop :=
  ∀ (pins : List (Addr × Obj)) (s : Shared) (σ : St) (H : Hp) (D : Ends), Inv X pins σ H s → t D σ H → wpAny (model X.prog X.w) X.A (exec st X.env) (SP X pins D) X.xe s
def PSs (X : Cx) (st : List Stmt) (t : TS) : Prop :=
  ∀ (pins : List (Addr × Obj)) (s : Shared) (σ : St) (H : Hp) (D : Ends), Inv X pins σ H s → t D σ H → wpAny (model X.prog X.w) X.A (execs st X.env) (SP X pins D) X.xe s
theorem thn {α : Type} {t : Sem α} {Q Q' : α → Shared → Prop} {M : Model} {A : Around} {E : Value → Shared → Prop} {s : Shared} (h : wpAny M A t Q E s) (hQ : ∀ a s, Q a s → Q' a s) : wpAny M A t Q' E s := wpAny_mono h hQ fun _ _ x => x
section
variable {X : Cx}
theorem bin {a b : Expr} {ta tb : TE} (ha : PE X a ta) (hb : PE X b tb) {pins : List (Addr × Obj)} {s : Shared} {σ : St} {H : Hp} {R : V → V → Hp → Prop} (I : Inv X pins σ H s) (h : ta σ H fun x H1 => tb σ H1 fun y H2 => R x y H2)
    {α : Type} {Q : α → Shared → Prop} {f : Value → Value → Sem α}
    (hf : ∀ v u s2 x y H2, Inv X pins σ H2 s2 → RelV x v → RelV y u → R x y H2 → wpAny (model X.prog X.w) X.A (f v u) Q X.xe s2) :
    wpAny (model X.prog X.w) X.A (eval a X.env) (fun v s₁ => wpAny (model X.prog X.w) X.A (eval b X.env) (fun u s₂ => wpAny (model X.prog X.w) X.A (f v u) Q X.xe s₂) X.xe s₁) X.xe s := by
  refine thn (ha pins s σ H _ I h) fun v s1 ⟨x, H1, I1, r1, q1⟩ => ?_
  refine thn (hb pins s1 σ H1 _ I1 q1) fun u s2 ⟨y, H2, I2, r2, q2⟩ => ?_
  exact hf v u s2 x y H2 I2 r1 r2 q2
def tVar (i : Nat) : TE := fun σ H Q => ∃ v, σ[i]? = some (some v) ∧ Q v H
def tC (v : V) : TE := fun _ H Q => Q v H
theorem pe_var {i : Nat} {x : Str} {pos : Pos} (hN : X.N[i]? = some x) (hv : Vis X.env.scope x) (hd : (x == ("__debug__" : Str)) = false := by decide) (hcd : (x == ("__classdict__" : Str)) = false := by decide) : PE X (.Name x pos) (tVar i) := by
  intro pins s σ H Q I h
  obtain ⟨v, e, h⟩ := h
  obtain ⟨m, hn, hl⟩ := I.loc
  obtain ⟨u, r, l⟩ := hl i x v hN e hv
  have fin : EP X pins σ Q u s := ⟨v, H, I, r, h⟩
  rcases l with ⟨hk, hm⟩ | ⟨hk, c, hc, hcell⟩
  · exact wpAny_Name (wpAny_loadName_local I.ok.kind hk hn hm fin) hd
  · rcases hk with hk | hk
    · exact wpAny_Name (wpAny_loadName_cell I.ok.kind hk hc hcell fin) hd
    · exact wpAny_Name (wpAny_loadName_free I.ok.kind hk hc hcell fin hcd) hd
theorem pe_int {i j pos} : PE X (.Constant (.int i) j pos) (tC (.int i)) := fun _ _ _ H _ I h => wpAny_Constant_int ⟨.int i, H, I.tok _, ⟨_, rfl⟩, h⟩
theorem pe_bl {b j pos} : PE X (.Constant (.bool b) j pos) (tC (.bl b)) := fun _ _ _ H _ I h => Constant_bool ⟨.bl b, H, I, rfl, h⟩
theorem pe_non {j pos} : PE X (.Constant .none j pos) (tC .non) := fun _ _ _ H _ I h => Constant_none ⟨.non, H, I, rfl, h⟩
theorem pe_str {x j pos} : PE X (.Constant (.str x) j pos) (tC (.str x)) := fun _ _ _ H _ I h => Calls.Constant_str ⟨.str x, H, I.tok _, ⟨_, rfl⟩, h⟩
def Gl (X : Cx) (x : Str) : Prop := X.env.kindOf x = some .globalImplicit
theorem ld_glob {E : Value → Shared → Prop} {pins : List (Addr × Obj)} {s : Shared} {σ : St} {H : Hp} {x : Str} {u : Value} {pos : Pos} {Q : Value → Shared → Prop} (I : Inv X pins σ H s) (hg : Gl X x) (hm : X.mg x = some u) (h : Q u s)
    (hd : (x == ("__debug__" : Str)) = false := by decide) : wpAny (model X.prog X.w) X.A (eval (.Name x pos) X.env) Q E s :=
  Calls.Name_function_global I.ok.kind hg (Calls.loadGlobal_global (by rw [I.ok.glob]; exact I.mod.glob.keeps I.bk) hm h) hd
theorem ld_blt {E : Value → Shared → Prop} {pins : List (Addr × Obj)} {s : Shared} {σ : St} {H : Hp} {x : Str} {u : Value} {pos : Pos} {Q : Value → Shared → Prop} (I : Inv X pins σ H s) (hg : Gl X x) (hm : X.mg x = none) (hv : bootBuiltins x = some u) (h : Q u s)
    (hn : x ≠ "__name__" := by decide) (hd : (x == ("__debug__" : Str)) = false := by decide) : wpAny (model X.prog X.w) X.A (eval (.Name x pos) X.env) Q E s := by
  obtain ⟨mb, h1, h2⟩ := I.mod.blt
  exact Calls.Name_function_global I.ok.kind hg (Calls.loadGlobal_builtin (by rw [I.ok.glob]; exact I.mod.glob.keeps I.bk) hm (by rw [I.ok.blt]; exact h1.keeps I.bk) ((h2 x hn).trans hv) h) hd
theorem pe_glob {x : Str} {v : V} {u : Value} {pos : Pos} (hg : Gl X x) (hm : X.mg x = some u) (r : RelV v u) (hd : (x == ("__debug__" : Str)) = false := by decide) : PE X (.Name x pos) (tC v) :=
  fun _ _ _ H _ I h => ld_glob I hg hm ⟨v, H, I, r, h⟩ hd
theorem pe_bltn {x : Str} {v : V} {u : Value} {pos : Pos} (hg : Gl X x) (hm : X.mg x = none) (hv : bootBuiltins x = some u) (r : RelV v u) (hn : x ≠ "__name__" := by decide) (hd : (x == ("__debug__" : Str)) = false := by decide) : PE X (.Name x pos) (tC v) :=
  fun _ _ _ H _ I h => ld_blt I hg hm hv ⟨v, H, I, r, h⟩ hn hd
variable {a b : Expr} {ta tb : TE} {pos : Pos}
def tB (t : TE) : TT := fun σ H Q => t σ H fun x H1 => ∃ c, x = .bl c ∧ Q c H1
theorem pt_val {e : Expr} {t : TE} (h : PE X e t) (he : ∀ whole, isTrue e X.env whole = (do let v ← whole; standAt e.pos; holding [v] (truthy v)) := by intro _; rfl) : PT X e (tB t) := by
  intro pins s σ H Q I hw
  refine isTrue_plain (thn (h pins s σ H _ I hw) fun v s1 ⟨x, H1, I1, r1, q1⟩ => ?_) (he _)
  obtain ⟨d, rfl, q⟩ := q1
  cases r1
  exact wpAny_truthy_bool ⟨H1, I1, q⟩
variable {tA tB' : TT} {rest : List Expr}
def tAnd (t u : TT) : TT := fun σ H Q => t σ H fun c H1 => if c = true then u σ H1 Q else Q false H1
def tOr (t u : TT) : TT := fun σ H Q => t σ H fun c H1 => if c = true then Q true H1 else u σ H1 Q
def tNot (t : TT) : TT := fun σ H Q => t σ H fun c H1 => Q (!c) H1
theorem pw_and1 (ha : PT X a tA) : PW X (.BoolOp .And [a] pos) tA := by
  intro wh pins s σ H Q I h
  refine isTrue_and (thn (ha pins s σ H Q I h) fun c s1 e => ?_)
  cases c with
  | true => exact isTrue_and_nil e
  | false => exact e
theorem pw_or1 (ha : PT X a tA) : PW X (.BoolOp .Or [a] pos) tA := by
  intro wh pins s σ H Q I h
  refine isTrue_or (thn (ha pins s σ H Q I h) fun c s1 e => ?_)
  cases c with
  | false => exact isTrue_or_nil e
  | true => exact e
theorem pw_and (ha : PT X a tA) (hb : PW X (.BoolOp .And (b :: rest) pos) tB') : PW X (.BoolOp .And (a :: b :: rest) pos) (tAnd tA tB') := by
  intro wh pins s σ H Q I h
  refine isTrue_and (thn (ha pins s σ H _ I h) fun c s1 ⟨H1, I1, q1⟩ => ?_)
  cases c with
  | true => exact hb wh pins s1 σ H1 Q I1 q1
  | false => exact ⟨H1, I1, q1⟩
theorem pw_or (ha : PT X a tA) (hb : PW X (.BoolOp .Or (b :: rest) pos) tB') : PW X (.BoolOp .Or (a :: b :: rest) pos) (tOr tA tB') := by
  intro wh pins s σ H Q I h
  refine isTrue_or (thn (ha pins s σ H _ I h) fun c s1 ⟨H1, I1, q1⟩ => ?_)
  cases c with
  | true => exact ⟨H1, I1, q1⟩
  | false => exact hb wh pins s1 σ H1 Q I1 q1
theorem pt_not (ha : PT X a tA) : PT X (.UnaryOp .Not a pos) (tNot tA) := by
  intro pins s σ H Q I h
  exact isTrue_not (ha pins s σ H (fun c H1 => Q (!c) H1) I h)
def tAndV (ta tb : TE) : TE := fun σ H Q => ta σ H fun x H1 => ∃ c, x = .bl c ∧ if c = true then tb σ H1 Q else Q (.bl false) H1
def tNotV (ta : TE) : TE := fun σ H Q => ta σ H fun x H1 => ∃ c, x = .bl c ∧ Q (.bl (!c)) H1
theorem pe_one {op} {t : TE} (h : PE X a t) : PE X (.BoolOp op [a] pos) t := fun pins s σ H Q I hw => BoolOp_one (h pins s σ H Q I hw)
theorem pe_and (ha : PE X a ta) (hb : PE X (.BoolOp .And (b :: rest) pos) tb) : PE X (.BoolOp .And (a :: b :: rest) pos) (tAndV ta tb) := by
  intro pins s σ H Q I h
  refine BoolOp_and (thn (ha pins s σ H _ I h) fun v s1 ⟨x, H1, I1, r1, q1⟩ => ?_)
  obtain ⟨c, rfl, q1⟩ := q1
  cases r1
  refine wpAny_truthy_bool ?_
  cases c with
  | true => exact hb pins s1 σ H1 Q I1 q1
  | false => exact ⟨.bl false, H1, I1, rfl, q1⟩
theorem pe_not (ha : PE X a ta) : PE X (.UnaryOp .Not a pos) (tNotV ta) := by
  intro pins s σ H Q I h
  refine UnaryOp_ (thn (ha pins s σ H _ I h) fun v s1 ⟨x, H1, I1, r1, q1⟩ => ?_)
  obtain ⟨c, rfl, q1⟩ := q1
  cases r1
  exact not_of (wpAny_truthy_bool ⟨.bl (!c), H1, I1, rfl, q1⟩)
end
def SqL (K : PySem.W.Frag) (H : Hp) (a : Addr) (xs : List V) : Prop :=
  Rd H a (.lst xs) ∨
    ∃ (o : Obj) (its : Array Value) (n : Nat), K.lookup a = some o ∧ o.cls = .type "list" ∧ o.dict = none ∧ o.data = .seq its n ∧ its.size ≤ sizeLine ∧ Vals xs its.toList
def SqT (K : PySem.W.Frag) (H : Hp) (a : Addr) (xs : List V) : Prop :=
  Rd H a (.tup xs) ∨
    ∃ (o : Obj) (its : Array Value) (n : Nat), K.lookup a = some o ∧ o.cls = .type "tuple" ∧ o.data = .seq its n ∧ its.size ≤ sizeLine ∧ Vals xs its.toList
def absV : Value → Option V
  | .none => some .non
  | .bool b => some (.bl b)
  | .int i _ => some (.int i)
  | .str x _ => some (.str x)
  | .bytes b _ => some (.byt b)
  | .float b _ => some (.flt b)
  | .ref a => some (.ref a)
  | .type n => some (.ty n)
  | _ => none
theorem RelV.abs {x : V} {u : Value} (r : RelV x u) : absV u = some x := by
  cases x with
  | non => cases r; rfl
  | bl _ => cases r; rfl
  | int _ => obtain ⟨t, rfl⟩ := r; rfl
  | str _ => obtain ⟨t, rfl⟩ := r; rfl
  | byt _ => obtain ⟨t, rfl⟩ := r; rfl
  | flt _ => obtain ⟨t, rfl⟩ := r; rfl
  | ref _ => cases r; rfl
  | ty _ => cases r; rfl
theorem RelV.inj {x y : V} {u : Value} (r : RelV x u) (q : RelV y u) : x = y := Option.some.inj (r.abs.symm.trans q.abs)
theorem Vals.inj : ∀ {xs ys : List V} {us : List Value}, Vals xs us → Vals ys us → xs = ys
  | _, _, _, .nil, .nil => rfl
  | _, _, _, .cons r t, .cons r' t' => by rw [r.inj r', Vals.inj t t']
section
variable {X : Cx} {pins : List (Addr × Obj)} {σ : St} {H : Hp} {s : Shared} {a : Addr} {xs ys : List V}
theorem SqL.of {K : PySem.W.Frag} (h : H a = some (.lst xs)) : SqL K H a xs := .inl (.inl h)
theorem SqT.of {K : PySem.W.Frag} (h : H a = some (.tup xs)) : SqT K H a xs := .inl (.inl h)
theorem Inv.list (I : Inv X pins σ H s) (h : SqL X.K H a xs) : ∃ its : List Value, Vals xs its ∧ PlainL s.heap a its.toArray ∧ xs.length ≤ sizeLine := by
  rcases h with h | ⟨o, its, n, hk, hc, hd, hs, hz, r⟩
  · obtain ⟨z, its, n, r, e⟩ := h.ok I.hok
    exact ⟨its, r, ⟨_, n, e, rfl, rfl, rfl⟩, z⟩
  · refine ⟨its.toList, r, ⟨o, n, I.kIn a o hk, hc, hd, by simpa using hs⟩, ?_⟩
    have e := r.length
    simp only [Array.length_toList] at e
    omega
theorem Inv.tuple (I : Inv X pins σ H s) (h : SqT X.K H a xs) : ∃ its : List Value, Vals xs its ∧ IsTup s.heap a its.toArray ∧ xs.length ≤ sizeLine := by
  rcases h with h | ⟨o, its, n, hk, hc, hs, hz, r⟩
  · obtain ⟨z, its, r, p⟩ := h.ok I.hok
    exact ⟨its, r, p, z⟩
  · refine ⟨its.toList, r, ⟨o, I.kIn a o hk, hc, n, by simpa using hs⟩, ?_⟩
    have e := r.length
    simp only [Array.length_toList] at e
    omega
theorem Inv.list_inj (I : Inv X pins σ H s) (h : SqL X.K H a xs) (h' : SqL X.K H a ys) : xs = ys := by
  obtain ⟨its, r, ⟨o, n, e, _, _, d⟩, _⟩ := I.list h
  obtain ⟨its', r', ⟨o', n', e', _, _, d'⟩, _⟩ := I.list h'
  rw [e] at e'; cases e'
  rw [d] at d'
  injection d' with d1 _
  have : its = its' := by simpa using congrArg Array.toList d1
  subst this
  exact r.inj r'
theorem Inv.tuple_inj (I : Inv X pins σ H s) (h : SqT X.K H a xs) (h' : SqT X.K H a ys) : xs = ys := by
  obtain ⟨its, r, ⟨o, e, _, n, d⟩, _⟩ := I.tuple h
  obtain ⟨its', r', ⟨o', e', _, n', d'⟩, _⟩ := I.tuple h'
  rw [e] at e'; cases e'
  rw [d] at d'
  injection d' with d1 _
  have : its = its' := by simpa using congrArg Array.toList d1
  subst this
  exact r.inj r'
end
abbrev Cx.wish (X : Cx) (E : Value → Shared → Prop) : Cx := { X with xe := E }
abbrev Cx.nox (X : Cx) : Cx := X.wish fun _ _ => False
theorem Cx.Ok.wish {X : Cx} (ok : X.Ok) (E : Value → Shared → Prop) : (X.wish E).Ok :=
  ⟨ok.mod, ok.kind, ok.glob, ok.blt, ok.above, ok.inj, ok.has, ok.cab, ok.hd, ok.frames, ok.stk, ok.exf, ok.bs, ok.bsz, ok.noex, ok.exfs, ok.funs, ok.frf⟩
theorem Cx.Ok.unwish {X : Cx} {E : Value → Shared → Prop} (ok : (X.wish E).Ok) : X.Ok :=
  ⟨ok.mod, ok.kind, ok.glob, ok.blt, ok.above, ok.inj, ok.has, ok.cab, ok.hd, ok.frames, ok.stk, ok.exf, ok.bs, ok.bsz, ok.noex, ok.exfs, ok.funs, ok.frf⟩
section
variable {X : Cx} {pins : List (Addr × Obj)} {σ : St} {H : Hp} {s : Shared} {E : Value → Shared → Prop}
theorem Inv.wish (I : Inv X pins σ H s) (E : Value → Shared → Prop) : Inv (X.wish E) pins σ H s := ⟨I.ok.wish E, I.os, I.bare, I.base, I.loc, I.cell, I.free, I.freeC, I.pin, I.hok, I.len⟩
theorem Inv.unwish (I : Inv (X.wish E) pins σ H s) : Inv X pins σ H s := ⟨I.ok.unwish, I.os, I.bare, I.base, I.loc, I.cell, I.free, I.freeC, I.pin, I.hok, I.len⟩
theorem SP.unwish {D : Ends} {f : Flow} {s' : Shared} (h : SP (X.wish E) pins D f s') : SP X pins D f s' := by
  cases f with
  | next => obtain ⟨σ', H', I, q⟩ := h; exact ⟨σ', H', I.unwish, q⟩
  | brk => obtain ⟨σ', H', I, q⟩ := h; exact ⟨σ', H', I.unwish, q⟩
  | cont => obtain ⟨σ', H', I, q⟩ := h; exact ⟨σ', H', I.unwish, q⟩
  | ret u => obtain ⟨v, σ', H', I, r, q⟩ := h; exact ⟨v, σ', H', I.unwish, r, q⟩
theorem PSs.nox {st : List Stmt} {t : TS} (h : PSs X.nox st t) : PSs X st t := fun pins s σ H D I hw =>
  wpAny_mono (h pins s σ H D (I.wish _) hw) (fun _ _ q => q.unwish) fun _ _ z => False.elim z
end
section
variable {X : Cx} {st : Stmt} {rest : List Stmt} {t u : TS} {e : Expr} {te : TE} {pos : Pos}
def tNext : TS := fun D σ H => D.nx σ H
def tSeq (t u : TS) : TS := fun D σ H => t { D with nx := u D } σ H
theorem pss_nil : PSs X [] tNext := fun _ _ σ H _ I h => wpAny_execs_nil ⟨σ, H, I, h⟩
theorem pss_cons (h1 : PS X st t) (h2 : PSs X rest u) : PSs X (st :: rest) (tSeq t u) := by
  intro pins s σ H D I h
  refine wpAny_execs_cons (thn (h1 pins s σ H { D with nx := u D } I h) fun f s1 q => ?_)
  cases f with
  | next =>
    obtain ⟨σ', H', I', q⟩ := q
    exact h2 pins s1 σ' H' D I' q
  | ret v => exact q
  | brk => exact q
  | cont => exact q
theorem pss_one (h1 : PS X st t) : PSs X [st] t := by
  intro pins s σ H D I h
  refine wpAny_execs_cons (thn (h1 pins s σ H D I h) fun f s1 q => ?_)
  cases f with
  | next => exact wpAny_execs_nil q
  | ret v => exact q
  | brk => exact q
  | cont => exact q
theorem Inv.quiet {pins : List (Addr × Obj)} {σ : St} {H : Hp} {s : Shared} (I : Inv X pins σ H s) : interactive X.env = false := by simp [interactive, I.ok.kind]
def tDrop (te : TE) : TS := fun D σ H => te σ H fun _ H1 => D.nx σ H1
theorem ps_expr (he : PE X e te) (hs : swapsWith e none pos.line X.env = pure false := by rfl) : PS X (.Expr e pos) (tDrop te) := by
  intro pins s σ H D I h
  exact wpAny_Expr_any (thn (he pins s σ H _ I h) fun v s1 ⟨x, H1, I1, r1, q1⟩ => ⟨σ, H1, I1, q1⟩) I.quiet hs
def tRet (te : TE) : TS := fun D σ H => te σ H D.rt
theorem ps_ret (he : PE X e te) : PS X (.Return (some e) pos) (tRet te) := by
  intro pins s σ H D I h
  exact wpAny_Return_some (thn (he pins s σ H _ I h) fun v s1 ⟨x, H1, I1, r1, q1⟩ => ⟨x, σ, H1, I1, r1, q1⟩)
def tIfS (c : TT) (t u : TS) : TS := fun D σ H => c σ H fun b H1 => if b = true then t D σ H1 else u D σ H1
theorem ps_if {c : Expr} {a b : List Stmt} {tc : TT} (hc : PT X c tc) (ha : PSs X a t) (hb : PSs X b u) : PS X (.If c a b pos) (tIfS tc t u) := by
  intro pins s σ H D I h
  refine wpAny_If (thn (hc pins s σ H _ I h) fun d s1 ⟨H1, I1, q1⟩ => ?_)
  cases d with
  | true => exact ha pins s1 σ H1 D I1 q1
  | false => exact hb pins s1 σ H1 D I1 q1
def tNever : TS := fun _ _ _ => False
theorem pss_never {sts : List Stmt} : PSs X sts tNever := fun _ _ _ _ _ _ h => h.elim
end
abbrev TG := V → St → Hp → (St → Hp → Prop) → Prop
abbrev TGs := List V → St → Hp → (St → Hp → Prop) → Prop
def PG (X : Cx) (target : Expr) (t : TG) : Prop :=
  ∀ (pins : List (Addr × Obj)) (s : Shared) (σ : St) (H : Hp) (v : V) (u : Value) (Q : St → Hp → Prop), Inv X pins σ H s → RelV v u → t v σ H Q →
    wpAny (model X.prog X.w) X.A (assign target X.env u) (fun _ s' => ∃ σ' H', Inv X pins σ' H' s' ∧ Q σ' H') X.xe s
def PGs (X : Cx) (ts : List Expr) (t : TGs) : Prop :=
  ∀ (pins : List (Addr × Obj)) (s : Shared) (σ : St) (H : Hp) (vs : List V) (us : List Value) (Q : St → Hp → Prop), Inv X pins σ H s → Vals vs us → t vs σ H Q →
    wpAny (model X.prog X.w) X.A (assignInOrder ((assignEach ts X.env).map (·.2)) us) (fun _ s' => ∃ σ' H', Inv X pins σ' H' s' ∧ Q σ' H') X.xe s
abbrev TSet := V → V → V → Hp → (Hp → Prop) → Prop
def PSet (X : Cx) (t : TSet) : Prop :=
  ∀ (pins : List (Addr × Obj)) (s : Shared) (σ : St) (H : Hp) (o i v : V) (ov iv u : Value) (Q : Hp → Prop), Inv X pins σ H s → RelV o ov → RelV i iv → RelV v u → t o i v H Q →
    wpAny (model X.prog X.w) X.A (setItem ov iv u) (fun _ s' => ∃ H', Inv X pins σ H' s' ∧ Q H') X.xe s
section
variable {X : Cx} {pos : Pos}
def gName (i : Nat) : TG := fun v σ H Q => Q (σ.set i (some v)) H
theorem pg_name {i : Nat} {x : Str} (hN : X.N.Nodup) (hi : X.N[i]? = some x) (hx : Loc X.env.scope x) (hf : X.fn x = true ∨ X.env.scope.names.lookup x = some .local := by first | exact .inl rfl | exact .inr rfl | assumption) : PG X (.Name x pos) (gName i) := by
  intro pins s σ H v u Q I r h
  exact wpAny_assign_Name (store_ok I hN hi hx r (fun s' I' => ⟨_, H, I', h⟩) hf)
def gNil : TGs := fun vs σ H Q => vs = [] ∧ Q σ H
def gCons (t : TG) (u : TGs) : TGs := fun vs σ H Q => ∃ v r, vs = v :: r ∧ t v σ H fun σ' H' => u r σ' H' Q
theorem pgs_nil : PGs X [] gNil := by
  intro pins s σ H vs us Q I r h
  obtain ⟨e, h⟩ := h
  subst e
  cases r
  exact assignInOrder_nil ⟨σ, H, I, h⟩
theorem pgs_cons {e : Expr} {es : List Expr} {t : TG} {u : TGs} (h1 : PG X e t) (h2 : PGs X es u)
    (hs : (assignEach (e :: es) X.env).map (·.2) = assign e X.env :: (assignEach es X.env).map (·.2) := by rfl) : PGs X (e :: es) (gCons t u) := by
  intro pins s σ H vs us Q I r h
  obtain ⟨v, vr, e1, h⟩ := h
  subst e1
  cases r with
  | cons r rr =>
    rw [hs]
    refine assignInOrder_cons (thn (h1 pins s σ H _ _ _ I r h) fun _ s1 ⟨σ1, H1, I1, q1⟩ => ?_)
    exact h2 pins s1 σ1 H1 _ _ Q I1 rr q1
def gTup (K : PySem.W.Frag) (n : Nat) (t : TGs) : TG := fun v σ H Q => ∃ a xs, v = .ref a ∧ SqT K H a xs ∧ xs.length = n ∧ t xs σ H Q
theorem pg_tup {es : List Expr} {k : Nat} {t : TGs} {n : Nat} (hc : X.calm = true) (h : PGs X es t)
    (hn : (assignEach es X.env).length = n := by rfl) (hst : (assignEach es X.env).findIdx? (·.1) = none := by rfl) : PG X (.Tuple es k pos) (gTup X.K n t) := by
  intro pins s σ H v u Q I r hw
  obtain ⟨a, xs, e1, hq, hl, hw⟩ := hw
  subst e1
  cases r
  obtain ⟨its, rv, ht, hz⟩ := I.tuple hq
  refine assign_Tuple_tuple (I.ok.hd hc) ht (by simp [hn, ← hl, rv.length]) hst fun h' hx => ?_
  have I1 : Inv X pins σ H { s with heap := h' } := I.kept (t' := s.toks) fun b o e => hx b o (Nat.ne_of_lt (Heap.lt_size e)) e
  exact h pins _ σ H xs _ Q I1 (by simpa using rv) hw
def gSub (to ti : TE) (t : TSet) : TG := fun v σ H Q => to σ H fun o H1 => ti σ H1 fun i H2 => t o i v H2 fun H3 => Q σ H3
theorem pg_sub {o i : Expr} {to ti : TE} {t : TSet} (ho : PE X o to) (hi : PE X i ti) (hs : PSet X t)
    (ha : ∀ v, assign (.Subscript o i pos) X.env v = (do
      let ov ← holding [v] (eval o X.env)
      let iv ← holding [v, ov] (eval i X.env)
      standAt pos
      holding [v, ov, iv] (setItem ov iv v)
      release [v, ov, iv] []) := by intro _; rfl) : PG X (.Subscript o i pos) (gSub to ti t) := by
  intro pins s σ H v u Q I r h
  rw [ha]
  refine wpAny_bind (wpAny_holding (thn (ho pins s σ H _ I h) fun ov s1 ⟨x, H1, I1, r1, q1⟩ => ?_))
  refine wpAny_bind (wpAny_holding (thn (hi pins s1 σ H1 _ I1 q1) fun iv s2 ⟨y, H2, I2, r2, q2⟩ => ?_))
  refine wpAny_bind (wpAny_standAt (wpAny_bind (wpAny_holding (thn (hs pins s2 σ H2 x y v ov iv u _ I2 r1 r2 r q2) fun _ s3 ⟨H3, I3, q3⟩ => ?_))))
  exact wpAny_release ⟨σ, H3, I3, q3⟩
def tAsg (te : TE) (g : TG) : TS := fun D σ H => te σ H fun x H1 => g x σ H1 D.nx
theorem ps_asg {tg e : Expr} {te : TE} {g : TG} (he : PE X e te) (hg : PG X tg g) (hs : swapsWithSole [tg] e pos.line X.env = pure false := by rfl) (hw : swappedStores [tg] e X.env = pure none := by rfl)
    (h1 : (assignEach [tg] X.env).map (·.2) = [assign tg X.env] := by rfl) : PS X (.Assign [tg] e pos) (tAsg te g) := by
  intro pins s σ H D I h
  refine wpAny_Assign_stores (thn (he pins s σ H _ I h) fun v s1 ⟨x, H1, I1, r1, q1⟩ => ?_) hs hw
  rw [h1]
  exact thn (hg pins s1 σ H1 x v _ I1 r1 q1) fun _ s2 q => q
theorem ps_set {i : Nat} {x : Str} {e : Expr} {te : TE} {pos' : Pos} (hN : X.N.Nodup) (hi : X.N[i]? = some x) (hx : Loc X.env.scope x) (he : PE X e te) (hs : swapsWith e (some (.Name x pos')) pos.line X.env = pure false := by rfl) (hf : X.fn x = true ∨ X.env.scope.names.lookup x = some .local := by first | exact .inl rfl | exact .inr rfl | assumption) :
    PS X (.Assign [.Name x pos'] e pos) (tAsg te (gName i)) := by
  intro pins s σ H D I h
  refine wpAny_Assign_Name (thn (he pins s σ H _ I h) fun v s1 ⟨y, H1, I1, r1, q1⟩ => ?_) hs
  exact store_ok I1 hN hi hx r1 (fun s2 I2 => ⟨_, H1, I2, q1⟩) hf
end
structure It where
  go : Nat → Hp → Prop
  yld : Nat → Hp → V → Hp → Prop
  stop : Nat → Hp → Prop
def FpOk (X : Cx) (pins : List (Addr × Obj)) (H : Hp) (b : Addr) : Prop :=
  H b = none ∧ b ≠ X.env.locals ∧ b ∉ X.fs ∧ (b ∈ X.ex ∨ X.s₀.heap.objs.size ≤ b) ∧ (∀ x c, X.env.cells.lookup x = some c → c ≠ b) ∧ ∀ p ∈ X.pn ++ pins, p.1 ≠ b
theorem Inv.fpOk {X : Cx} {pins : List (Addr × Obj)} {σ : St} {H H' : Hp} {s : Shared} {b : Addr} (I : Inv X pins σ H s) (hb : s.heap.objs.size ≤ b) (hn : H' b = none) : FpOk X pins H' b := by
  refine ⟨hn, Nat.ne_of_gt (Nat.lt_of_lt_of_le I.lt hb), I.nofs hb, .inr (Nat.le_trans I.sz hb), fun x c e z => ?_, fun p hp z => ?_⟩
  · obtain ⟨v, q⟩ := I.cell x c e
    exact absurd (Nat.lt_of_lt_of_le q.lt (by rw [z]; exact hb)) (Nat.lt_irrefl _)
  · exact absurd (Nat.lt_of_lt_of_le (Heap.lt_size (I.pin p hp).1) (by rw [z]; exact hb)) (Nat.lt_irrefl _)
structure Turn (P : Program) (w : World) (K : PySem.W.Frag) (tg : Expr) (J : It) (fp : List Addr) (it : Addr) (tn : Nat → Heap → Prop) : Prop where
  mem : it ∈ fp
  obj : ∀ i h, tn i h → ∀ b ∈ fp, ∃ o, h.get? b = some o ∧ ∀ v, o.data ≠ .cell v
  keep : ∀ i h h', tn i h → (∀ b ∈ fp, ∀ o, h.get? b = some o → h'.get? b = some o) → tn i h'
  item : ∀ (X : Cx), X.prog = P → X.w = w → X.K = K → X.calm = true → ∀ (i : Nat) (pins : List (Addr × Obj)) (s : Shared) (σ : St) (H : Hp) (E : Value → Shared → Prop), Inv X pins σ H s → (∀ b ∈ fp, FpOk X pins H b) → tn i s.heap → J.go i H →
    wpAny (model P w) X.A (pyNext (.ref it)) (fun r s1 => ∃ u, r = some u ∧
      wpAny (model P w) X.A (letOwnedTupleGo tg (.ref it) u) (fun _ s2 => ∃ x H', Inv X pins σ H' s2 ∧ RelV x u ∧ J.yld i H x H' ∧ tn (i + 1) s2.heap ∧ ∀ b ∈ fp, H' b = none) E s1) E s
  done : ∀ (X : Cx), X.prog = P → X.w = w → X.K = K → X.calm = true → ∀ (i : Nat) (pins : List (Addr × Obj)) (s : Shared) (σ : St) (H : Hp) (E : Value → Shared → Prop), Inv X pins σ H s → (∀ b ∈ fp, FpOk X pins H b) → tn i s.heap → J.stop i H →
    wpAny (model P w) X.A (pyNext (.ref it)) (fun r s1 => r = none ∧ Inv X pins σ H s1) E s
  self : ∀ (A : Around) (i : Nat) (s : Shared) (Q : Value → Shared → Prop) (E : Value → Shared → Prop), tn i s.heap → Q (.ref it) s → wpAny (model P w) A (pyIter (.ref it)) Q E s
abbrev TI := St → Hp → (It → Hp → Prop) → Prop
def PIE (X : Cx) (pins : List (Addr × Obj)) (σ : St) (tg : Expr) (R : It → Hp → Prop) (itv : Value) (s2 : Shared) : Prop :=
  ∃ (it : Addr) (fp : List Addr) (tn : Nat → Heap → Prop) (J : It) (H' : Hp), itv = .ref it ∧ Inv X pins σ H' s2 ∧ Turn X.prog X.w X.K tg J fp it tn ∧ tn 0 s2.heap ∧ (∀ b ∈ fp, FpOk X pins H' b) ∧ R J H'
def PI (X : Cx) (tg iter : Expr) (wi : TI) : Prop :=
  ∀ (pins : List (Addr × Obj)) (s : Shared) (σ : St) (H : Hp) (R : It → Hp → Prop), Inv X pins σ H s → wi σ H R →
    wpAny (model X.prog X.w) X.A (eval iter X.env) (fun v s1 => wpAny (model X.prog X.w) X.A (pyIter v) (PIE X pins σ tg R) X.xe s1) X.xe s
theorem go_of {M : Model} {A : Around} {E : Value → Shared → Prop} {s : Shared} {tg : Expr} {it : Addr} {u : Value} {o : Obj} {n : String} {vs : Array Value} {Q : Unit → Shared → Prop} (ho : s.heap.get? it = some o) (hc : o.cls = .type n) (hd : o.data = .fields vs)
    (hn : ["enumerate", "zip", "dict_itemiterator", "dict_reverseitemiterator", "odict_iterator", "itertools.zip_longest", "itertools.pairwise"].contains n = false) (hQ : Q () s) : wpAny M A (letOwnedTupleGo tg (.ref it) u) Q E s := by
  unfold letOwnedTupleGo
  cases tg <;> first
    | exact wpAny_pure hQ
    | (cases u <;> first
        | exact wpAny_pure hQ
        | (refine wpAny_bind (wpAny_load ho ?_)
           rw [hc, hd]
           show wpAny M A (if (["enumerate", "zip", "dict_itemiterator", "dict_reverseitemiterator", "odict_iterator", "itertools.zip_longest", "itertools.pairwise"].contains n && vs[0]? == some (rawInt _)) = true then _ else _) Q E s
           rw [if_neg (by intro h; rw [hn, Bool.false_and] at h; cases h)]
           exact wpAny_pure hQ))
def Itl (K : PySem.W.Frag) (a : Addr) : It :=
  ⟨fun i H => ∃ xs x, SqL K H a xs ∧ xs[i]? = some x, fun i H x H' => H' = H ∧ ∀ xs, SqL K H a xs → xs[i]? = some x, fun i H => ∃ xs, SqL K H a xs ∧ xs.length ≤ i⟩
def Itt (K : PySem.W.Frag) (a : Addr) : It :=
  ⟨fun i H => ∃ xs x, SqT K H a xs ∧ xs[i]? = some x, fun i H x H' => H' = H ∧ ∀ xs, SqT K H a xs → xs[i]? = some x, fun i H => ∃ xs, SqT K H a xs ∧ xs.length ≤ i⟩
def Itr (lo : Int) (n : Nat) : It := ⟨fun i _ => i < n, fun i H x H' => H' = H ∧ x = .int (lo + i), fun i _ => n ≤ i⟩
theorem turn_list {P : Program} {w : World} {K : PySem.W.Frag} {tg : Expr} (a it : Addr) : Turn P w K tg (Itl K a) [it] it (fun i h => h.IsListIter it a i) where
  mem := by simp
  obj := fun i h st b hb => by
    have e : b = it := by simpa using hb
    subst e
    obtain ⟨o, e, c, d⟩ := st
    exact ⟨o, e, fun v z => by rw [d] at z; cases z⟩
  keep := fun i h h' st k => st.at fun o e => k it (by simp) o e
  item := by
    intro X hP hw hK hc i pins s σ H E I hf st hg
    subst hP hw hK
    obtain ⟨xs, x, hq, hx⟩ := hg
    obtain ⟨its, rv, p, hz⟩ := I.list hq
    obtain ⟨u, hu, ru⟩ := rv.get hx
    obtain ⟨f0, f1, f2, f3, f4, f5⟩ := hf it (by simp)
    refine wpAny_pyNext_list_item st p.isList (x := u) (by simpa using hu) fun h' st' sb => ?_
    have I1 : Inv X pins σ H { s with heap := h' } := I.turned (t' := s.toks) (fun b o hb e => (sb.2 b hb).trans e) f0 f1 f3 f4 f5
    obtain ⟨o, e, c, d⟩ := id st'
    exact ⟨u, rfl, go_of (s := { s with heap := h' }) e c d (by decide) ⟨x, H, I1, ru, ⟨rfl, fun ys hy => by rw [I.list_inj hy hq]; exact hx⟩, st', fun b hb => (hf b hb).1⟩⟩
  done := by
    intro X hP hw hK hc i pins s σ H E I hf st hg
    subst hP hw hK
    obtain ⟨xs, hq, hx⟩ := hg
    obtain ⟨its, rv, p, hz⟩ := I.list hq
    obtain ⟨f0, f1, f2, f3, f4, f5⟩ := hf it (by simp)
    have hl := rv.length
    exact wpAny_pyNext_list_end (I.ok.hd hc) st p.isList (by simp; omega) fun h' eb => ⟨rfl, I.turned (t' := s.toks) (fun b o hb e => eb b o hb e) f0 f1 f3 f4 f5⟩
  self := fun _ _ _ _ _ st h => wpAny_pyIter_listiter st h
theorem turn_tuple {P : Program} {w : World} {K : PySem.W.Frag} {tg : Expr} (a it : Addr) : Turn P w K tg (Itt K a) [it] it (fun i h => h.IsTupleIter it a i) where
  mem := by simp
  obj := fun i h st b hb => by
    have e : b = it := by simpa using hb
    subst e
    obtain ⟨o, e, c, d⟩ := st
    exact ⟨o, e, fun v z => by rw [d] at z; cases z⟩
  keep := fun i h h' st k => st.at fun o e => k it (by simp) o e
  item := by
    intro X hP hw hK hc i pins s σ H E I hf st hg
    subst hP hw hK
    obtain ⟨xs, x, hq, hx⟩ := hg
    obtain ⟨its, rv, p, hz⟩ := I.tuple hq
    obtain ⟨u, hu, ru⟩ := rv.get hx
    obtain ⟨f0, f1, f2, f3, f4, f5⟩ := hf it (by simp)
    refine wpAny_pyNext_tuple_item st (show s.heap.IsTuple a its.toArray from p) (x := u) (by simpa using hu) fun h' st' sb => ?_
    have I1 : Inv X pins σ H { s with heap := h' } := I.turned (t' := s.toks) (fun b o hb e => (sb.2 b hb).trans e) f0 f1 f3 f4 f5
    obtain ⟨o, e, c, d⟩ := id st'
    exact ⟨u, rfl, go_of (s := { s with heap := h' }) e c d (by decide) ⟨x, H, I1, ru, ⟨rfl, fun ys hy => by rw [I.tuple_inj hy hq]; exact hx⟩, st', fun b hb => (hf b hb).1⟩⟩
  done := by
    intro X hP hw hK hc i pins s σ H E I hf st hg
    subst hP hw hK
    obtain ⟨xs, hq, hx⟩ := hg
    obtain ⟨its, rv, p, hz⟩ := I.tuple hq
    obtain ⟨f0, f1, f2, f3, f4, f5⟩ := hf it (by simp)
    have hl := rv.length
    exact wpAny_pyNext_tuple_end (I.ok.hd hc) st (show s.heap.IsTuple a its.toArray from p) (by simp; omega) fun h' eb => ⟨rfl, I.turned (t' := s.toks) (fun b o hb e => eb b o hb e) f0 f1 f3 f4 f5⟩
  self := fun _ _ _ _ _ st h => wpAny_pyIter_tupleiter st h
theorem turn_range {P : Program} {w : World} {K : PySem.W.Frag} {tg : Expr} (it : Addr) (lo : Int) (n : Nat) : Turn P w K tg (Itr lo n) [it] it (fun i h => IsRangeIter h it (lo + (i : Nat) * 1) ((n : Int) - (i : Nat)) 1) where
  mem := by simp
  obj := fun i h st b hb => by
    have e : b = it := by simpa using hb
    subst e
    exact ⟨_, st, fun v z => by
      have z' : Data.fields _ = Data.cell v := z
      cases z'⟩
  keep := fun i h h' st k => k it (by simp) _ st
  item := by
    intro X hP hw hK hc i pins s σ H E I hf st hg
    subst hP hw hK
    obtain ⟨f0, f1, f2, f3, f4, f5⟩ := hf it (by simp)
    have W := Walks.range (prog := X.prog) (w := X.w) (I.ok.hd hc) it lo 1 n
    refine W.item i s _ _ hg st fun v h' tk hv st' kk => ?_
    obtain ⟨t, rfl⟩ := hv
    have I1 : Inv X pins σ H { s with heap := h', toks := tk } := I.turned (fun b o hb e => kk b o (by simpa using hb) e) f0 f1 f3 f4 f5
    refine ⟨_, rfl, go_of (s := { s with heap := h', toks := tk }) (n := "range_iterator") st' rfl rfl (by decide) ⟨.int (lo + i), H, I1, ⟨t, ?_⟩, ⟨rfl, rfl⟩, st', fun b hb => (hf b hb).1⟩⟩
    rw [Int.mul_one]
  done := by
    intro X hP hw hK hc i pins s σ H E I hf st hg
    subst hP hw hK
    obtain ⟨f0, f1, f2, f3, f4, f5⟩ := hf it (by simp)
    exact wpAny_pyNext_range_end (I.ok.hd hc) st (by have : n ≤ i := hg; omega) fun h' eb => ⟨rfl, I.turned (t' := s.toks) (fun b o hb e => eb b o hb e) f0 f1 f3 f4 f5⟩
  self := fun _ _ _ _ _ st h => wpAny_pyIter_rangeiter st h
section
variable {X : Cx} {tg : Expr}
def iList (K : PySem.W.Frag) (tl : TE) : TI := fun σ H R => tl σ H fun x H1 => ∃ a, x = .ref a ∧ (∃ xs, SqL K H1 a xs) ∧ R (Itl K a) H1
def iTup (K : PySem.W.Frag) (tl : TE) : TI := fun σ H R => tl σ H fun x H1 => ∃ a, x = .ref a ∧ (∃ xs, SqT K H1 a xs) ∧ R (Itt K a) H1
theorem pi_list {l : Expr} {tl : TE} (hl : PE X l tl) : PI X tg l (iList X.K tl) := by
  intro pins s σ H R I h
  refine thn (hl pins s σ H _ I h) fun v s1 ⟨x, H1, I1, r1, q1⟩ => ?_
  obtain ⟨a, e, ⟨xs, hq⟩, q⟩ := q1
  subst e
  cases r1
  obtain ⟨its, rv, p, hz⟩ := I1.list hq
  refine wpAny_pyIter_list p.isList ?_
  refine ⟨s1.heap.objs.size, [s1.heap.objs.size], _, _, H1, rfl, I1.kept (t' := s1.toks) fun b o e => Heap.get?_push_of_some _ e, turn_list a _, ⟨_, Heap.get?_push_size _ rfl, rfl, rfl⟩, fun b hb => ?_, q⟩
  have e : b = s1.heap.objs.size := by simpa using hb
  subst e
  exact I1.fpOk (Nat.le_refl _) (I1.hok.fresh (Nat.le_refl _))
theorem pi_tup {l : Expr} {tl : TE} (hl : PE X l tl) : PI X tg l (iTup X.K tl) := by
  intro pins s σ H R I h
  refine thn (hl pins s σ H _ I h) fun v s1 ⟨x, H1, I1, r1, q1⟩ => ?_
  obtain ⟨a, e, ⟨xs, hq⟩, q⟩ := q1
  subst e
  cases r1
  obtain ⟨its, rv, p, hz⟩ := I1.tuple hq
  refine wpAny_pyIter_tuple (show s1.heap.IsTuple a its.toArray from p) ?_
  refine ⟨s1.heap.objs.size, [s1.heap.objs.size], _, _, H1, rfl, I1.kept (t' := s1.toks) fun b o e => Heap.get?_push_of_some _ e, turn_tuple a _, ⟨_, Heap.get?_push_size _ rfl, rfl, rfl⟩, fun b hb => ?_, q⟩
  have e : b = s1.heap.objs.size := by simpa using hb
  subst e
  exact I1.fpOk (Nat.le_refl _) (I1.hok.fresh (Nat.le_refl _))
theorem range_it {pins : List (Addr × Obj)} {σ : St} {H : Hp} {s : Shared} {R : It → Hp → Prop} {E : Value → Shared → Prop} {lo hi : Int} {t u v : Tok} {tk : Nat} (I : Inv X pins σ H s) (h1 : -(2 ^ 62) ≤ lo) (h2 : lo < 2 ^ 62) (h3 : -(2 ^ 62) ≤ hi) (h4 : hi < 2 ^ 62)
    (q : R (Itr lo (hi - lo).toNat) H) : wpAny (model X.prog X.w) X.A (pyIter (.ref s.heap.objs.size)) (PIE X pins σ tg R) E { s with heap := s.heap.push { cls := .type "range", data := .fields #[.int lo t, .int hi u, .int 1 v] }, toks := tk } := by
  refine wpAny_pyIter_range (IsRange.new ..) (small_one h1 h2 h3 h4) ?_
  have I1 : Inv X pins σ H { s with heap := s.heap.push { cls := .type "range", data := .fields #[.int lo t, .int hi u, .int 1 v] }, toks := tk } := I.kept fun b o e => Heap.get?_push_of_some _ e
  refine ⟨(s.heap.push { cls := .type "range", data := .fields #[.int lo t, .int hi u, .int 1 v] }).objs.size, [(s.heap.push { cls := .type "range", data := .fields #[.int lo t, .int hi u, .int 1 v] }).objs.size], _, _, H, rfl,
    I1.kept (t' := tk) fun b o e => Heap.get?_push_of_some _ e, turn_range _ lo (hi - lo).toNat, ?_, fun b hb => ?_, q⟩
  · have e1 : lo + ((0 : Nat) : Int) * 1 = lo := by simp
    have e2 : (((hi - lo).toNat : Nat) : Int) - ((0 : Nat) : Int) = Builtin.Range.rangeSize lo hi 1 := by rw [rangeSize_one]; split <;> omega
    show IsRangeIter _ _ (lo + ((0 : Nat) : Int) * 1) ((((hi - lo).toNat : Nat) : Int) - ((0 : Nat) : Int)) 1
    rw [e1, e2]
    exact Heap.get?_push_size _ rfl
  · have e : b = (s.heap.push { cls := .type "range", data := .fields #[.int lo t, .int hi u, .int 1 v] }).objs.size := by simpa using hb
    subst e
    exact I1.fpOk (Nat.le_refl _) (I1.hok.fresh (Nat.le_refl _))
def iRng1 (ta : TA) : TI := fun σ H R => ta σ H fun vs H1 => ∃ j : Int, vs = [.int j] ∧ -(2 ^ 62) ≤ j ∧ j < 2 ^ 62 ∧ R (Itr 0 j.toNat) H1
def iRng2 (ta : TA) : TI := fun σ H R => ta σ H fun vs H1 => ∃ i j : Int, vs = [.int i, .int j] ∧ (-(2 ^ 62) ≤ i ∧ i < 2 ^ 62 ∧ -(2 ^ 62) ≤ j ∧ j < 2 ^ 62) ∧ R (Itr i (j - i).toNat) H1
theorem pi_range1 {a : Expr} {ta : TA} {p pos : Pos} (hg : Gl X "range") (hm : X.mg "range" = none) (ha : PA X [a] ta) (hs : starEach [a] X.env = [(false, eval a X.env)] := by rfl) : PI X tg (.Call (.Name "range" p) [a] [] pos) (iRng1 ta) := by
  intro pins s σ H R I h
  refine Call_ (ld_blt I hg hm boot_range (PyProof.Rows.callWith_type1 (thn (ha pos pins s σ H _ I h) fun us s1 ⟨vs, H1, I1, r1, q1⟩ => ?_) hs rfl))
  obtain ⟨j, e, q1, q2, q⟩ := q1
  subst e
  cases r1 with
  | cons r rr =>
    cases rr
    obtain ⟨t, rfl⟩ := r
    exact call_range_1 (range_it I1 (by omega) (by omega) q1 q2 (by simpa using q))
theorem pi_range2 {a b : Expr} {ta : TA} {p pos : Pos} (hg : Gl X "range") (hm : X.mg "range" = none) (ha : PA X [a, b] ta) (hs : starEach [a, b] X.env = [(false, eval a X.env), (false, eval b X.env)] := by rfl) (hs2 : starEach [b] X.env = [(false, eval b X.env)] := by rfl) :
    PI X tg (.Call (.Name "range" p) [a, b] [] pos) (iRng2 ta) := by
  intro pins s σ H R I h
  refine Call_ (ld_blt I hg hm boot_range (PyProof.Rows.callWith_type1 (thn (ha pos pins s σ H _ I h) fun us s1 ⟨vs, H1, I1, r1, q1⟩ => ?_) (by rw [hs, hs2]) (by rw [hs2]; rfl)))
  obtain ⟨i, j, e, ⟨q1, q2, q3, q4⟩, q⟩ := q1
  subst e
  cases r1 with
  | cons r rr =>
    cases rr with
    | cons r' rr =>
      cases rr
      obtain ⟨t, rfl⟩ := r
      obtain ⟨t', rfl⟩ := r'
      exact call_range_2 (range_it I1 q1 q2 q3 q4 q)
def tFor (wi : TI) (g : TG) (tb : TS) : TS := fun D σ H => wi σ H fun J H1 => ∃ W : Nat → Nat → St → Hp → Prop, (∃ m, W 0 m σ H1) ∧ ∀ i m σ H, W i m σ H →
  (J.stop i H ∧ D.nx σ H) ∨ (J.go i H ∧ ∃ N : St → Hp → Prop, (∀ σ' H', N σ' H' → ∃ m', m' < m ∧ W (i + 1) m' σ' H') ∧ ∀ x H', J.yld i H x H' → g x σ H' fun σ2 H2 => tb { D with nx := N, ct := N, bk := D.nx } σ2 H2)
def pinsAt (fp : List Addr) (h : Heap) : List (Addr × Obj) := fp.filterMap fun b => (h.get? b).map fun o => (b, o)
theorem mem_pinsAt {fp : List Addr} {h : Heap} {b : Addr} {o : Obj} (hb : b ∈ fp) (e : h.get? b = some o) : (b, o) ∈ pinsAt fp h := List.mem_filterMap.mpr ⟨b, hb, by rw [e]; rfl⟩
theorem of_pinsAt {fp : List Addr} {h : Heap} {p : Addr × Obj} (hp : p ∈ pinsAt fp h) : p.1 ∈ fp ∧ h.get? p.1 = some p.2 := by
  obtain ⟨b, hb, e⟩ := List.mem_filterMap.mp hp
  cases q : h.get? b with
  | none => rw [q] at e; cases e
  | some o =>
    rw [q] at e
    have e' : (b, o) = p := Option.some.inj e
    subst e'
    exact ⟨hb, q⟩
theorem Inv.pinned {pins : List (Addr × Obj)} {σ : St} {H : Hp} {s : Shared} {fp : List Addr} (I : Inv X pins σ H s) (hf : ∀ b ∈ fp, FpOk X pins H b) (ho : ∀ b ∈ fp, ∃ o, s.heap.get? b = some o ∧ ∀ v, o.data ≠ .cell v) : Inv X (pins ++ pinsAt fp s.heap) σ H s :=
  I.pins_of fun p hp => (List.mem_append.mp hp).elim (fun z => I.pin p (List.mem_append_right _ z)) fun z => by
    obtain ⟨hb, e⟩ := of_pinsAt z
    obtain ⟨f0, f1, f2, _⟩ := hf p.1 hb
    obtain ⟨o, e', d⟩ := ho p.1 hb
    rw [e] at e'; cases e'
    exact ⟨e, f0, f1, f2, d⟩
theorem Inv.unpinned {pins pl : List (Addr × Obj)} {σ : St} {H : Hp} {s : Shared} (I : Inv X (pins ++ pl) σ H s) : Inv X pins σ H s := I.pins_of fun p hp => I.pin p (List.mem_append_right _ (List.mem_append_left _ hp))
theorem ps_for {iter : Expr} {body : List Stmt} {wi : TI} {g : TG} {tb : TS} {pos : Pos} (hp : PassesOwn (model X.prog X.w) X.A X.env X.xe) (hc : X.calm = true) (hi : PI X tg iter wi) (hg : PG X tg g) (hb : PSs X body tb)
    (hs : ∀ x, foldedSetIterable iter X.env x = pure x := by intro _; rfl) : PS X (.For tg iter body [] pos) (tFor wi g tb) := by
  intro pins s σ H D I h
  refine wpAny_For (thn (hi pins s σ H _ I h) fun v s1 h1 => thn h1 fun itv s2 h2 => ?_) hs
  obtain ⟨it, fp, tn, J, H2, e, I2, T, st2, f2, W, ⟨m0, w0⟩, turn⟩ := h2
  subst e
  have stat : ∀ {H' : Hp}, (∀ b ∈ fp, H' b = none) → ∀ b ∈ fp, FpOk X pins H' b := fun hn b hb => ⟨hn b hb, (f2 b hb).2⟩
  refine codeAny_forLoop_any (fun n s' => ∃ i σ' H', Inv X pins σ' H' s' ∧ tn i s'.heap ∧ (∀ b ∈ fp, H' b = none) ∧ W i n σ' H') ?_ m0 ⟨0, σ, H2, I2, st2, fun b hb => (f2 b hb).1, w0⟩
  rintro n s3 ⟨i, σ3, H3, I3, st3, fr3, w3⟩
  rcases turn i n σ3 H3 w3 with ⟨stop, qn⟩ | ⟨go, N, hN, step⟩
  · refine wpAny_passesOwn hp (thn (T.done X rfl rfl rfl hc i pins s3 σ3 H3 X.xe I3 (stat fr3) st3 stop) fun r s4 ⟨hr, I4⟩ => ?_)
    subst hr
    exact wpAny_execs_nil ⟨σ3, H3, I4, qn⟩
  · refine wpAny_passesOwn hp (thn (T.item X rfl rfl rfl hc i pins s3 σ3 H3 X.xe I3 (stat fr3) st3 go) fun r s4 ⟨u, hr, h4⟩ => ?_)
    subst hr
    refine wpAny_passesOwn hp (thn h4 fun _ s5 ⟨x, H5, I5, r5, y5, st5, fr5⟩ => ?_)
    have I5' := I5.pinned (stat fr5) (T.obj _ _ st5)
    refine wpAny_passesOwn hp (thn (hg _ s5 σ3 H5 x u _ I5' r5 (step x H5 y5)) fun _ s6 ⟨σ6, H6, I6, q6⟩ => ?_)
    refine wpAny_passesOwn hp (thn (hb _ s6 σ6 H6 _ I6 q6) fun f s7 q7 => ?_)
    have again : ∀ {σ7 : St} {H7 : Hp}, Inv X (pins ++ pinsAt fp s5.heap) σ7 H7 s7 → N σ7 H7 → ∃ m, m < n ∧ ∃ i σ' H', Inv X pins σ' H' s7 ∧ tn i s7.heap ∧ (∀ b ∈ fp, H' b = none) ∧ W i m σ' H' := fun {σ7 H7} I7 n7 => by
      obtain ⟨m', hm, w7⟩ := hN σ7 H7 n7
      refine ⟨m', hm, i + 1, σ7, H7, I7.unpinned, T.keep _ _ _ st5 fun b hb o e => (I7.pin (b, o) (List.mem_append_right _ (List.mem_append_right _ (mem_pinsAt hb e)))).1, fun b hb => ?_, w7⟩
      obtain ⟨o, e, d⟩ := T.obj _ _ st5 b hb
      exact (I7.pin (b, o) (List.mem_append_right _ (List.mem_append_right _ (mem_pinsAt hb e)))).2.1
    cases f with
    | next => obtain ⟨σ7, H7, I7, n7⟩ := q7; exact again I7 n7
    | cont => obtain ⟨σ7, H7, I7, n7⟩ := q7; exact again I7 n7
    | brk => obtain ⟨σ7, H7, I7, q7⟩ := q7; exact ⟨σ7, H7, I7.unpinned, q7⟩
    | ret v => obtain ⟨x7, σ7, H7, I7, r7, q7⟩ := q7; exact ⟨x7, σ7, H7, I7.unpinned, r7, q7⟩
end
theorem for_list {K : PySem.W.Frag} {a : Addr} {xs : List V} {g : TG} {tb : TS} {D : Ends} {σ : St} {H : Hp} (Pv : Nat → St → Hp → Prop) (h0 : Pv 0 σ H) (hl : ∀ i σ H, i ≤ xs.length → Pv i σ H → SqL K H a xs)
    (hs : ∀ i x σ H, xs[i]? = some x → Pv i σ H → g x σ H fun σ2 H2 => tb { D with nx := Pv (i + 1), ct := Pv (i + 1), bk := D.nx } σ2 H2) (hd : ∀ σ H, Pv xs.length σ H → D.nx σ H) :
    ∃ W : Nat → Nat → St → Hp → Prop, (∃ m, W 0 m σ H) ∧ ∀ i m σ H, W i m σ H →
      ((Itl K a).stop i H ∧ D.nx σ H) ∨ ((Itl K a).go i H ∧ ∃ N : St → Hp → Prop, (∀ σ' H', N σ' H' → ∃ m', m' < m ∧ W (i + 1) m' σ' H') ∧ ∀ x H', (Itl K a).yld i H x H' → g x σ H' fun σ2 H2 => tb { D with nx := N, ct := N, bk := D.nx } σ2 H2) := by
  refine ⟨fun i m σ H => m = xs.length - i ∧ i ≤ xs.length ∧ Pv i σ H, ⟨xs.length, by simp, Nat.zero_le _, h0⟩, ?_⟩
  rintro i m σ H ⟨rfl, hi, p⟩
  have q := hl i σ H hi p
  by_cases hlt : i < xs.length
  · refine .inr ⟨⟨xs, xs[i], q, by simp [hlt]⟩, Pv (i + 1), fun σ' H' p' => ⟨xs.length - (i + 1), by omega, rfl, hlt, p'⟩, fun x H' y => ?_⟩
    obtain ⟨e, y⟩ := y
    subst e
    exact hs i x σ _ (y xs q) p
  · have e : i = xs.length := by omega
    subst e
    exact .inl ⟨⟨xs, q, Nat.le_refl _⟩, hd σ H p⟩
theorem for_tup {K : PySem.W.Frag} {a : Addr} {xs : List V} {g : TG} {tb : TS} {D : Ends} {σ : St} {H : Hp} (Pv : Nat → St → Hp → Prop) (h0 : Pv 0 σ H) (hl : ∀ i σ H, i ≤ xs.length → Pv i σ H → SqT K H a xs)
    (hs : ∀ i x σ H, xs[i]? = some x → Pv i σ H → g x σ H fun σ2 H2 => tb { D with nx := Pv (i + 1), ct := Pv (i + 1), bk := D.nx } σ2 H2) (hd : ∀ σ H, Pv xs.length σ H → D.nx σ H) :
    ∃ W : Nat → Nat → St → Hp → Prop, (∃ m, W 0 m σ H) ∧ ∀ i m σ H, W i m σ H →
      ((Itt K a).stop i H ∧ D.nx σ H) ∨ ((Itt K a).go i H ∧ ∃ N : St → Hp → Prop, (∀ σ' H', N σ' H' → ∃ m', m' < m ∧ W (i + 1) m' σ' H') ∧ ∀ x H', (Itt K a).yld i H x H' → g x σ H' fun σ2 H2 => tb { D with nx := N, ct := N, bk := D.nx } σ2 H2) := by
  refine ⟨fun i m σ H => m = xs.length - i ∧ i ≤ xs.length ∧ Pv i σ H, ⟨xs.length, by simp, Nat.zero_le _, h0⟩, ?_⟩
  rintro i m σ H ⟨rfl, hi, p⟩
  have q := hl i σ H hi p
  by_cases hlt : i < xs.length
  · refine .inr ⟨⟨xs, xs[i], q, by simp [hlt]⟩, Pv (i + 1), fun σ' H' p' => ⟨xs.length - (i + 1), by omega, rfl, hlt, p'⟩, fun x H' y => ?_⟩
    obtain ⟨e, y⟩ := y
    subst e
    exact hs i x σ _ (y xs q) p
  · have e : i = xs.length := by omega
    subst e
    exact .inl ⟨⟨xs, q, Nat.le_refl _⟩, hd σ H p⟩
theorem for_range {lo : Int} {n : Nat} {g : TG} {tb : TS} {D : Ends} {σ : St} {H : Hp} (Pv : Nat → St → Hp → Prop) (h0 : Pv 0 σ H)
    (hs : ∀ i σ H, i < n → Pv i σ H → g (.int (lo + i)) σ H fun σ2 H2 => tb { D with nx := Pv (i + 1), ct := Pv (i + 1), bk := D.nx } σ2 H2) (hd : ∀ σ H, Pv n σ H → D.nx σ H) :
    ∃ W : Nat → Nat → St → Hp → Prop, (∃ m, W 0 m σ H) ∧ ∀ i m σ H, W i m σ H →
      ((Itr lo n).stop i H ∧ D.nx σ H) ∨ ((Itr lo n).go i H ∧ ∃ N : St → Hp → Prop, (∀ σ' H', N σ' H' → ∃ m', m' < m ∧ W (i + 1) m' σ' H') ∧ ∀ x H', (Itr lo n).yld i H x H' → g x σ H' fun σ2 H2 => tb { D with nx := N, ct := N, bk := D.nx } σ2 H2) := by
  refine ⟨fun i m σ H => m = n - i ∧ i ≤ n ∧ Pv i σ H, ⟨n, by simp, Nat.zero_le _, h0⟩, ?_⟩
  rintro i m σ H ⟨rfl, hi, p⟩
  by_cases hlt : i < n
  · refine .inr ⟨hlt, Pv (i + 1), fun σ' H' p' => ⟨n - (i + 1), by omega, rfl, hlt, p'⟩, fun x H' y => ?_⟩
    obtain ⟨e, y⟩ := y
    subst e y
    exact hs i σ _ hlt p
  · have e : i = n := by omega
    subst e
    exact .inl ⟨Nat.le_refl _, hd σ H p⟩
abbrev R2 := V → V → Hp → VK → Prop
def OpR (X : Cx) (f : Value → Value → Sem Value) (r : R2) : Prop :=
  ∀ (pins : List (Addr × Obj)) (s : Shared) (σ : St) (H : Hp) (x y : V) (v u : Value) (Q : VK), Inv X pins σ H s → RelV x v → RelV y u → r x y H Q →
    wpAny (model X.prog X.w) X.A (f v u) (EP X pins σ Q) X.xe s
def UnR (X : Cx) (f : Value → Sem Value) (r : V → Hp → VK → Prop) : Prop :=
  ∀ (pins : List (Addr × Obj)) (s : Shared) (σ : St) (H : Hp) (x : V) (v : Value) (Q : VK), Inv X pins σ H s → RelV x v → r x H Q →
    wpAny (model X.prog X.w) X.A (f v) (EP X pins σ Q) X.xe s
def CallR (X : Cx) (f : Value) (r : List V → Hp → VK → Prop) : Prop :=
  ∀ (pins : List (Addr × Obj)) (s : Shared) (σ : St) (H : Hp) (xs : List V) (us : List Value) (Q : VK), Inv X pins σ H s → Vals xs us → r xs H Q →
    wpAny (model X.prog X.w) X.A (call f us) (EP X pins σ Q) X.xe s
def tOp (r : R2) (ta tb : TE) : TE := fun σ H Q => ta σ H fun x H1 => tb σ H1 fun y H2 => r x y H2 Q
def tUn (r : V → Hp → VK → Prop) (ta : TE) : TE := fun σ H Q => ta σ H fun x H1 => r x H1 Q
def rI (C : Int → Int → Prop) (g : Int → Int → V) : R2 := fun x y H Q => ∃ i j, x = .int i ∧ y = .int j ∧ C i j ∧ Q (g i j) H
def rI0 (g : Int → Int → V) : R2 := fun x y H Q => ∃ i j, x = .int i ∧ y = .int j ∧ Q (g i j) H
def rU (g : Int → V) : V → Hp → VK → Prop := fun x H Q => ∃ i, x = .int i ∧ Q (g i) H
section
variable {X : Cx} {a b c : Expr} {ta tb tc : TE} {pos : Pos}
theorem binT (ha : PE X a ta) (hb : PE X b tb) {pins : List (Addr × Obj)} {s : Shared} {σ : St} {H : Hp} {R : V → V → Hp → Prop} (I : Inv X pins σ H s)
    (h : ta σ H fun x H1 => tb σ H1 fun y H2 => R x y H2) {Q : Value → Shared → Prop} {f : Value → Value → Sem Value}
    (hf : ∀ v u s2 x y H2, Inv X pins σ H2 s2 → RelV x v → RelV y u → R x y H2 → wpAny (model X.prog X.w) X.A (f v u) Q X.xe s2) :
    wpAny (model X.prog X.w) X.A (eval a X.env) (fun v s₁ => wpAny (model X.prog X.w) X.A (eval b X.env) (fun u s₂ => wpAny (model X.prog X.w) X.A (f v u) Q X.xe s₂) X.xe s₁) X.xe s := by
  refine thn (ha pins s σ H _ I h) fun v s1 ⟨x, H1, I1, r1, q1⟩ => ?_
  refine thn (hb pins s1 σ H1 _ I1 q1) fun u s2 ⟨y, H2, I2, r2, q2⟩ => ?_
  exact hf v u s2 x y H2 I2 r1 r2 q2
theorem pe_op {op : Operator} {r : R2} (ho : OpR X (binaryOp op) r) (ha : PE X a ta) (hb : PE X b tb) : PE X (.BinOp a op b pos) (tOp r ta tb) := by
  intro pins s σ H Q I h
  exact wpAny_BinOp (binT ha hb I h fun v u s2 x y H2 I2 rx ry q => ho pins s2 σ H2 x y v u Q I2 rx ry q)
theorem pe_un {op : UnaryOp} {r : V → Hp → VK → Prop} (ho : UnR X (unaryOp op) r) (ha : PE X a ta) : PE X (.UnaryOp op a pos) (tUn r ta) := by
  intro pins s σ H Q I h
  exact UnaryOp_ (thn (ha pins s σ H _ I h) fun v s1 ⟨x, H1, I1, r1, q1⟩ => ho pins s1 σ H1 x v Q I1 r1 q1)
theorem opI {f : Value → Value → Sem Value} {C : Int → Int → Prop} {g : Int → Int → Int}
    (rule : ∀ (i j : Int) (t u : Tok) (s : Shared) (Q : Value → Shared → Prop) (E : Value → Shared → Prop), C i j → Q (.int (g i j) s.toks) { s with toks := s.toks + 1 } → wpAny (model X.prog X.w) X.A (f (.int i t) (.int j u)) Q E s) :
    OpR X f (rI C fun i j => .int (g i j)) := by
  intro pins s σ H x y v u Q I rx ry h
  obtain ⟨i, j, rfl, rfl, hc, q⟩ := h
  obtain ⟨t, rfl⟩ := rx
  obtain ⟨t', rfl⟩ := ry
  exact rule i j t t' s _ _ hc ⟨.int (g i j), H, I.tok _, ⟨_, rfl⟩, q⟩
theorem opI0 {f : Value → Value → Sem Value} {g : Int → Int → Int}
    (rule : ∀ (i j : Int) (t u : Tok) (s : Shared) (Q : Value → Shared → Prop) (E : Value → Shared → Prop), Q (.int (g i j) s.toks) { s with toks := s.toks + 1 } → wpAny (model X.prog X.w) X.A (f (.int i t) (.int j u)) Q E s) :
    OpR X f (rI0 fun i j => .int (g i j)) := by
  intro pins s σ H x y v u Q I rx ry h
  obtain ⟨i, j, rfl, rfl, q⟩ := h
  obtain ⟨t, rfl⟩ := rx
  obtain ⟨t', rfl⟩ := ry
  exact rule i j t t' s _ _ ⟨.int (g i j), H, I.tok _, ⟨_, rfl⟩, q⟩
theorem opB0 {f : Value → Value → Sem Value} {g : Int → Int → Bool}
    (rule : ∀ (i j : Int) (t u : Tok) (s : Shared) (Q : Value → Shared → Prop) (E : Value → Shared → Prop), Q (.bool (g i j)) s → wpAny (model X.prog X.w) X.A (f (.int i t) (.int j u)) Q E s) :
    OpR X f (rI0 fun i j => .bl (g i j)) := by
  intro pins s σ H x y v u Q I rx ry h
  obtain ⟨i, j, rfl, rfl, q⟩ := h
  obtain ⟨t, rfl⟩ := rx
  obtain ⟨t', rfl⟩ := ry
  exact rule i j t t' s _ _ ⟨.bl (g i j), H, I, rfl, q⟩
def CDiv (i j : Int) : Prop := 0 < j ∧ j < 1073741824
def CPow (i j : Int) : Prop := 0 ≤ j ∧ j ≤ 1000000 ∧ i.natAbs < 2 ^ 64
def CMul (i j : Int) : Prop := (-(2 ^ 64) < i ∧ i < 2 ^ 64) ∨ (-(2 ^ 64) < j ∧ j < 2 ^ 64)
theorem CMul.ok {i j : Int} (h : CMul i j) : IntMulOk i j := by
  rcases h with ⟨h1, h2⟩ | ⟨h1, h2⟩
  · exact .of_left (intBits_le_64 h1 h2)
  · exact .of_right (intBits_le_64 h1 h2)
theorem op_add : OpR X (binaryOp .Add) (rI0 fun i j => .int (i + j)) := opI0 fun _ _ _ _ _ _ _ q => add_int q
theorem op_sub : OpR X (binaryOp .Sub) (rI0 fun i j => .int (i - j)) := opI0 fun _ _ _ _ _ _ _ q => sub_int q
theorem op_mul : OpR X (binaryOp .Mult) (rI CMul fun i j => .int (i * j)) := opI fun _ _ _ _ _ _ _ hc q => mul_int q hc.ok
theorem op_fdiv : OpR X (binaryOp .FloorDiv) (rI CDiv fun i j => .int (i / j)) := opI fun i j _ _ _ _ _ hc q => by
  have h1 : (0 : Int) < j := hc.1
  have h2 : j < 1073741824 := hc.2
  exact floordiv_int (by omega) (by rw [Int.fdiv_eq_ediv_of_nonneg i (by omega)]; exact q) (.inl (PyProof.noPylong_small (by omega)))
theorem op_mod : OpR X (binaryOp .Mod) (rI (fun _ j => 0 < j) fun i j => .int (i % j)) := opI fun i j _ _ _ _ _ hc q => by
  have h1 : (0 : Int) < j := hc
  exact mod_int' (by omega) (by rw [Int.fmod_eq_emod_of_nonneg i (by omega)]; exact q)
theorem op_pow : OpR X (binaryOp .Pow) (rI CPow fun i j => .int (i ^ j.toNat)) := opI fun _ _ _ _ _ _ _ hc q => pow_int_small hc.1 hc.2.1 hc.2.2 q
theorem unI {f : Value → Sem Value} {g : Int → Int}
    (rule : ∀ (i : Int) (t : Tok) (s : Shared) (Q : Value → Shared → Prop) (E : Value → Shared → Prop), Q (.int (g i) s.toks) { s with toks := s.toks + 1 } → wpAny (model X.prog X.w) X.A (f (.int i t)) Q E s) :
    UnR X f (rU fun i => .int (g i)) := by
  intro pins s σ H x v Q I rx h
  obtain ⟨i, rfl, q⟩ := h
  obtain ⟨t, rfl⟩ := rx
  exact rule i t s _ _ ⟨.int (g i), H, I.tok _, ⟨_, rfl⟩, q⟩
theorem un_neg : UnR X (unaryOp .USub) (rU fun i => .int (-i)) := unI fun _ _ _ _ _ q => neg_int q
end
def scal : V → V → Bool
  | .non, .non => true | .non, .int _ => true | .int _, .non => true | .non, .bl _ => true | .bl _, .non => true | .non, .str _ => true | .str _, .non => true
  | .int _, .int _ => true | .bl _, .bl _ => true | .str _, .str _ => true | .byt _, .byt _ => true
  | .int _, .str _ => true | .str _, .int _ => true | .bl _, .str _ => true | .str _, .bl _ => true
  | _, _ => false
def rEq : R2 := fun x y H Q => scal x y = true ∧ Q (.bl (decide (x = y))) H
def rNe : R2 := fun x y H Q => scal x y = true ∧ Q (.bl (!decide (x = y))) H
theorem dec_int {i j : Int} : decide (V.int i = V.int j) = (i == j) := by
  rw [Bool.eq_iff_iff]
  simp
theorem dec_bl {i j : Bool} : decide (V.bl i = V.bl j) = (i == j) := by
  rw [Bool.eq_iff_iff]
  simp
theorem dec_str {i j : Str} : decide (V.str i = V.str j) = (i == j) := by
  rw [Bool.eq_iff_iff]
  simp
theorem dec_byt {i j : Array UInt8} : decide (V.byt i = V.byt j) = (i.toList == j.toList) := by
  rw [Bool.eq_iff_iff]
  cases i
  cases j
  simp
section
variable {X : Cx} {a b c : Expr} {ta tb tc : TE} {pos : Pos}
theorem fin_bl {pins : List (Addr × Obj)} {σ : St} {H : Hp} {s : Shared} {Q : VK} {k k' : Bool} (I : Inv X pins σ H s) (q : Q (.bl k) H) (e : k = k') : EP X pins σ Q (.bool k') s := by
  subst e
  exact ⟨.bl k, H, I, rfl, q⟩
theorem op_eq : OpR X (compareOp .Eq) rEq := by
  intro pins s σ H x y v u Q I rx ry h
  obtain ⟨hs, q⟩ := h
  cases x with
  | non =>
    cases rx
    cases y with
    | non => cases ry; exact PySem.EqNone.eq_none_none (fin_bl I q (by simp))
    | bl j => cases ry; exact PySem.EqNone.eq_none_bool (fin_bl I q (by simp))
    | int j => obtain ⟨t', rfl⟩ := ry; exact PySem.EqNone.eq_none_int (fin_bl I q (by simp))
    | str j => obtain ⟨t', rfl⟩ := ry; exact PySem.EqNone.eq_none_str (fin_bl I q (by simp))
    | _ => exact absurd (show false = true from hs) Bool.false_ne_true
  | bl i =>
    cases rx
    cases y with
    | non => cases ry; exact PySem.EqNone.eq_bool_none (fin_bl I q (by simp))
    | bl j => cases ry; exact eq_bool (fin_bl I q dec_bl)
    | str j => obtain ⟨t', rfl⟩ := ry; exact PySem.EqMixed.eq_bool_str (fin_bl I q (by simp))
    | _ => exact absurd (show false = true from hs) Bool.false_ne_true
  | int i =>
    obtain ⟨t, rfl⟩ := rx
    cases y with
    | non => cases ry; exact PySem.EqNone.eq_int_none (fin_bl I q (by simp))
    | int j => obtain ⟨t', rfl⟩ := ry; exact eq_int (fin_bl I q dec_int)
    | str j => obtain ⟨t', rfl⟩ := ry; exact PySem.EqMixed.eq_int_str (fin_bl I q (by simp))
    | _ => exact absurd (show false = true from hs) Bool.false_ne_true
  | str i =>
    obtain ⟨t, rfl⟩ := rx
    cases y with
    | non => cases ry; exact PySem.EqNone.eq_str_none (fin_bl I q (by simp))
    | bl j => cases ry; exact PySem.EqMixed.eq_str_bool (fin_bl I q (by simp))
    | int j => obtain ⟨t', rfl⟩ := ry; exact PySem.EqMixed.eq_str_int (fin_bl I q (by simp))
    | str j => obtain ⟨t', rfl⟩ := ry; exact eq_str (fin_bl I q dec_str)
    | _ => exact absurd (show false = true from hs) Bool.false_ne_true
  | byt i =>
    obtain ⟨t, rfl⟩ := rx
    cases y with
    | byt j => obtain ⟨t', rfl⟩ := ry; exact PySem.W.eq_bytes (fin_bl I q dec_byt)
    | _ => exact absurd (show false = true from hs) Bool.false_ne_true
  | _ => cases y <;> exact absurd (show false = true from hs) Bool.false_ne_true
theorem op_ne : OpR X (compareOp .NotEq) rNe := by
  intro pins s σ H x y v u Q I rx ry h
  obtain ⟨hs, q⟩ := h
  cases x with
  | non =>
    cases rx
    cases y with
    | non => cases ry; exact PySem.EqNone.ne_none_none (fin_bl I q (by simp))
    | bl j => cases ry; exact PySem.EqNone.ne_none_bool (fin_bl I q (by simp))
    | int j => obtain ⟨t', rfl⟩ := ry; exact PySem.EqNone.ne_none_int (fin_bl I q (by simp))
    | str j => obtain ⟨t', rfl⟩ := ry; exact PySem.EqNone.ne_none_str (fin_bl I q (by simp))
    | _ => exact absurd (show false = true from hs) Bool.false_ne_true
  | bl i =>
    cases rx
    cases y with
    | non => cases ry; exact PySem.EqNone.ne_bool_none (fin_bl I q (by simp))
    | bl j => cases ry; exact ne_bool (fin_bl I q (congrArg not dec_bl))
    | str j => obtain ⟨t', rfl⟩ := ry; exact PySem.EqMixed.ne_bool_str (fin_bl I q (by simp))
    | _ => exact absurd (show false = true from hs) Bool.false_ne_true
  | int i =>
    obtain ⟨t, rfl⟩ := rx
    cases y with
    | non => cases ry; exact PySem.EqNone.ne_int_none (fin_bl I q (by simp))
    | int j => obtain ⟨t', rfl⟩ := ry; exact ne_int (fin_bl I q (congrArg not dec_int))
    | str j => obtain ⟨t', rfl⟩ := ry; exact PySem.EqMixed.ne_int_str (fin_bl I q (by simp))
    | _ => exact absurd (show false = true from hs) Bool.false_ne_true
  | str i =>
    obtain ⟨t, rfl⟩ := rx
    cases y with
    | non => cases ry; exact PySem.EqNone.ne_str_none (fin_bl I q (by simp))
    | bl j => cases ry; exact PySem.EqMixed.ne_str_bool (fin_bl I q (by simp))
    | int j => obtain ⟨t', rfl⟩ := ry; exact PySem.EqMixed.ne_str_int (fin_bl I q (by simp))
    | str j => obtain ⟨t', rfl⟩ := ry; exact ne_str (fin_bl I q (congrArg not dec_str))
    | _ => exact absurd (show false = true from hs) Bool.false_ne_true
  | byt i =>
    obtain ⟨t, rfl⟩ := rx
    cases y with
    | byt j => obtain ⟨t', rfl⟩ := ry; exact PySem.W.ne_bytes (fin_bl I q (congrArg not dec_byt))
    | _ => exact absurd (show false = true from hs) Bool.false_ne_true
  | _ => cases y <;> exact absurd (show false = true from hs) Bool.false_ne_true
theorem op_lt : OpR X (compareOp .Lt) (rI0 fun i j => .bl (decide (i < j))) := opB0 fun _ _ _ _ _ _ _ q => lt_int q
theorem op_le : OpR X (compareOp .LtE) (rI0 fun i j => .bl (decide (i ≤ j))) := opB0 fun _ _ _ _ _ _ _ q => le_int q
theorem op_gt : OpR X (compareOp .Gt) (rI0 fun i j => .bl (decide (j < i))) := opB0 fun _ _ _ _ _ _ _ q => gt_int q
theorem op_ge : OpR X (compareOp .GtE) (rI0 fun i j => .bl (decide (j ≤ i))) := opB0 fun _ _ _ _ _ _ _ q => ge_int q
theorem op_isN : OpR X (compareOp .Is) (fun x y H Q => y = .non ∧ Q (.bl (decide (x = .non))) H) := by
  intro pins s σ H x y v u Q I rx ry h
  obtain ⟨rfl, q⟩ := h
  cases ry
  refine is_none_gen (fin_bl I q ?_)
  cases x <;> first
    | (cases rx; rfl)
    | (obtain ⟨t, rfl⟩ := rx; rfl)
theorem op_notN : OpR X (compareOp .IsNot) (fun x y H Q => y = .non ∧ Q (.bl (!decide (x = .non))) H) := by
  intro pins s σ H x y v u Q I rx ry h
  obtain ⟨rfl, q⟩ := h
  cases ry
  refine isnot_none_gen (fin_bl I q ?_)
  cases x <;> first
    | (cases rx; rfl)
    | (obtain ⟨t, rfl⟩ := rx; rfl)
theorem nomark (b : Expr) {op : CmpOp} (h : op ≠ .In := by decide) (h2 : op ≠ .NotIn := by decide) : behindInMarks op b = false := by
  have e1 : (op == CmpOp.In) = false := by cases op <;> first | rfl | exact absurd rfl h
  have e2 : (op == CmpOp.NotIn) = false := by cases op <;> first | rfl | exact absurd rfl h2
  cases b <;> simp [behindInMarks, e1, e2]
theorem pe_cmpR {op : CmpOp} {r : R2} (ho : OpR X (compareOp op) r) (ha : PE X a ta) (hb : PE X b tb) (hm : behindInMarks op b = false) : PE X (.Compare a [op] [b] pos) (tOp r ta tb) := by
  intro pins s σ H Q I h
  exact wpAny_Compare1 (binT ha hb I h fun v u s2 x y H2 I2 rx ry q => ho pins s2 σ H2 x y v u Q I2 rx ry q) hm
def tTest (t : TE) : TT := fun σ H Q => t σ H fun x H' => ∃ k, x = .bl k ∧ Q k H'
theorem pt_cmpR {op : CmpOp} {r : R2} (ho : OpR X (compareOp op) r) (ha : PE X a ta) (hb : PE X b tb) (hm : behindInMarks op b = false) : PT X (.Compare a [op] [b] pos) (tTest (tOp r ta tb)) := by
  intro pins s σ H Q I h
  refine wpAny_isTrue_Compare1 (thn (ha pins s σ H _ I h) fun v s1 ⟨x, H1, I1, r1, q1⟩ => thn (hb pins s1 σ H1 _ I1 q1) fun u s2 ⟨y, H2, I2, r2, q2⟩ =>
    thn (ho pins s2 σ H2 x y v u _ I2 r1 r2 q2) fun c s3 ⟨z, H3, I3, r3, k, e, q3⟩ => ?_) hm
  subst e
  cases r3
  exact wpAny_truthy_bool ⟨H3, I3, q3⟩
def tChain (r r' : R2) (ta tb tc : TE) : TE := fun σ H Q => ta σ H fun x H1 => tb σ H1 fun y H2 => r x y H2 fun z H3 => ∃ k, z = .bl k ∧
  (if k = true then tc σ H3 fun w' H4 => r' y w' H4 Q else Q (.bl false) H3)
theorem pe_chain {op op' : CmpOp} {r r' : R2} (ho : OpR X (compareOp op) r) (ho' : OpR X (compareOp op') r') (ha : PE X a ta) (hb : PE X b tb) (hc : PE X c tc)
    (hm : lastMarks [op, op'] [b, c] = false := by with_unfolding_all rfl) : PE X (.Compare a [op, op'] [b, c] pos) (tChain r r' ta tb tc) := by
  intro pins s σ H Q I h
  refine Compare_chain (thn (ha pins s σ H _ I h) fun v s1 ⟨x, H1, I1, r1, q1⟩ => chain_link (thn (hb pins s1 σ H1 _ I1 q1) fun u s2 ⟨y, H2, I2, r2, q2⟩ =>
    thn (ho pins s2 σ H2 x y v u _ I2 r1 r2 q2) fun d s3 ⟨z, H3, I3, r3, k, e, q3⟩ => ?_)) hm
  subst e
  cases r3
  refine wpAny_truthy_bool ?_
  cases k with
  | false => exact ite_ff ⟨.bl false, H3, I3, rfl, q3⟩
  | true => exact ite_tt (chain_last (thn (hc pins s3 σ H3 _ I3 q3) fun w' s4 ⟨z', H4, I4, r4, q4⟩ => ho' pins s4 σ H4 y z' u w' Q I4 r2 r4 q4))
theorem pt_chain {op op' : CmpOp} {r r' : R2} (ho : OpR X (compareOp op) r) (ho' : OpR X (compareOp op') r') (ha : PE X a ta) (hb : PE X b tb) (hc : PE X c tc)
    (hm : lastMarks [op, op'] [b, c] = false := by with_unfolding_all rfl) : PT X (.Compare a [op, op'] [b, c] pos) (tTest (tChain r r' ta tb tc)) := by
  intro pins s σ H Q I h
  refine isTrue_chain (thn (ha pins s σ H _ I h) fun v s1 ⟨x, H1, I1, r1, q1⟩ => test_link (thn (hb pins s1 σ H1 _ I1 q1) fun u s2 ⟨y, H2, I2, r2, q2⟩ =>
    thn (ho pins s2 σ H2 x y v u _ I2 r1 r2 q2) fun d s3 ⟨z, H3, I3, r3, k, e, q3⟩ => ?_)) hm
  subst e
  cases r3
  refine wpAny_truthy_bool ?_
  cases k with
  | false =>
    obtain ⟨k', e', q'⟩ := q3
    cases e'
    exact ite_ff ⟨H3, I3, q'⟩
  | true =>
    refine ite_tt (test_last (thn (hc pins s3 σ H3 _ I3 q3) fun w' s4 ⟨z', H4, I4, r4, q4⟩ => thn (ho' pins s4 σ H4 y z' u w' _ I4 r2 r4 q4) fun d' s5 ⟨z2, H5, I5, r5, k2, e2, q5⟩ => ?_))
    subst e2
    cases r5
    exact wpAny_truthy_bool ⟨H5, I5, q5⟩
theorem line63 : (sizeLine : Nat) < 2 ^ 63 := by rw [sizeLine_eq]; decide
theorem vals1 {x : V} {us : List Value} (r : Vals [x] us) : ∃ u, us = [u] ∧ RelV x u := by
  cases r with
  | cons r1 r2 => cases r2; exact ⟨_, rfl, r1⟩
theorem vals2 {x y : V} {us : List Value} (r : Vals [x, y] us) : ∃ u w', us = [u, w'] ∧ RelV x u ∧ RelV y w' := by
  cases r with
  | cons r1 r2 =>
    cases r2 with
    | cons r3 r4 => cases r4; exact ⟨_, _, rfl, r1, r3⟩
theorem call_max2 (hc : X.calm = true) : CallR X (.builtin "max") (fun xs H Q => ∃ i j, xs = [.int i, .int j] ∧ Q (.int (if j > i then j else i)) H) := by
  intro pins s σ H xs us Q I r h
  obtain ⟨i, j, rfl, q⟩ := h
  obtain ⟨u, w', rfl, ⟨t, rfl⟩, ⟨t', rfl⟩⟩ := vals2 r
  refine max_two_ints (I.ok.hd hc) fun h' tk k => ⟨_, H, I.kept k, ?_, q⟩
  by_cases hj : j > i
  · rw [if_pos hj, if_pos hj]; exact ⟨_, rfl⟩
  · rw [if_neg hj, if_neg hj]; exact ⟨_, rfl⟩
theorem call_min2 (hc : X.calm = true) : CallR X (.builtin "min") (fun xs H Q => ∃ i j, xs = [.int i, .int j] ∧ Q (.int (if j < i then j else i)) H) := by
  intro pins s σ H xs us Q I r h
  obtain ⟨i, j, rfl, q⟩ := h
  obtain ⟨u, w', rfl, ⟨t, rfl⟩, ⟨t', rfl⟩⟩ := vals2 r
  refine min_two_ints (I.ok.hd hc) fun h' tk k => ⟨_, H, I.kept k, ?_, q⟩
  by_cases hj : j < i
  · rw [if_pos hj, if_pos hj]; exact ⟨_, rfl⟩
  · rw [if_neg hj, if_neg hj]; exact ⟨_, rfl⟩
theorem call_int1 : CallR X (.type "int") (fun xs H Q => (∃ i, xs = [.int i] ∧ Q (.int i) H) ∨ ∃ k, xs = [.bl k] ∧ Q (.int (if k then 1 else 0)) H) := by
  intro pins s σ H xs us Q I r h
  rcases h with ⟨i, rfl, q⟩ | ⟨k, rfl, q⟩
  · obtain ⟨u, rfl, t, rfl⟩ := vals1 r
    exact call_int_int ⟨.int i, H, I, ⟨_, rfl⟩, q⟩
  · obtain ⟨u, rfl, r1⟩ := vals1 r
    cases r1
    exact call_int_bool ⟨.int (if k then 1 else 0), H, I.tok _, ⟨_, rfl⟩, q⟩
end
structure ObjM (h : Heap) (x dx C : Addr) (mA : Str → Option Value) : Prop where
  obj : h.get? x = some (PySem.W.instObj C dx)
  ns : h.Ns1 dx mA
  ne : dx ≠ x
theorem lookIn_ns {h : Heap} {dx : Addr} {mA : Str → Option Value} (n : h.Ns1 dx mA) : ∃ od, h.get? dx = some od ∧ ∀ name, PySem.W.lookIn name od = some (mA name) := by
  obtain ⟨o, es, ep, ho, hd, hk, _, hm⟩ := n
  refine ⟨o, ho, fun name => ?_⟩
  have e := hm name
  unfold nsFind findBy at e
  rw [← Array.find?_toList] at e
  unfold PySem.W.lookIn
  rw [hd]
  dsimp only
  split
  · rename_i y q
    rw [q] at e
    exact congrArg some e
  · rename_i q
    rw [q] at e
    have a : es.toList.any (·.refKey) = false := by
      rw [List.any_eq_false]
      intro y hy
      obtain ⟨z, t, hkey⟩ := hk y (Array.mem_toList_iff.mp hy)
      simp [DictEntry.refKey, hkey]
    have a' : ¬ es.toList.any (·.refKey) = true := by rw [a]; exact Bool.false_ne_true
    rw [if_neg a']
    exact congrArg some e
theorem ObjM.look {h : Heap} {x dx C : Addr} {mA : Str → Option Value} (I : ObjM h x dx C mA) : ∃ od, PySem.W.InstAt h x (PySem.W.instObj C dx) C (some od) ∧ ∀ name, PySem.W.lookIn name od = some (mA name) :=
  let ⟨od, ho, hl⟩ := lookIn_ns I.ns
  ⟨od, ⟨I.obj, rfl, rfl, ho⟩, hl⟩
section
variable {prog : Program} {w : World} {A : Around} {E : Value → Shared → Prop} {s : Shared} {K : PySem.W.Frag} {x dx C f : Addr} {mA : Str → Option Value} {name : Str} {v : Value}
theorem get_map {expr : Bool} {Q : Value → Shared → Prop} (X : K.In s.heap) (I : ObjM s.heap x dx C mA) (hg : PySem.W.plainGet K C name = true) (hh : PySem.W.hasDictIn K C = true)
    (ha : PySem.W.findIn K (.ref C) name = some none) (hv : mA name = some v) (hv' : PySem.W.handedIn v = true) (h : Q v { s with toks := s.toks + 1 }) :
    wpAny (model prog w) A (getAttr (.ref x) name expr) Q E s := by
  obtain ⟨od, J, hl⟩ := I.look
  exact PySem.W.get_value X J (PySem.W.plainGet_of hg).1 (PySem.W.findObj_own hh ha rfl (by rw [hl, hv])) hv' h
theorem get_meth {pl : Sem Bool} {Q : Value × List Value → Shared → Prop} (X : K.In s.heap) (I : ObjM s.heap x dx C mA) (hg : PySem.W.plainGet K C name = true)
    (hf : PySem.W.findIn K (.ref C) name = some (some (.ref f))) (ht : PySem.W.isFn K (.ref f) = true) (hv : mA name = none) (h : Q (.ref f, [.ref x]) s) :
    wpAny (model prog w) A (getMethod (.ref x) name pl) Q E s := by
  obtain ⟨od, J, hl⟩ := I.look
  exact PySem.W.method_fn X J (PySem.W.plainGet_of hg).1 (PySem.W.plainGet_of hg).2 hf (beq_iff_eq.mp ht) (by show (PySem.W.lookIn name od).map (·.isSome) = some false; rw [hl, hv]; rfl) h
theorem set_map {ns : List Str} {Q : Unit → Shared → Prop} (X : K.In s.heap) (I : ObjM s.heap x dx C mA)
    (hs : PySem.W.findIn K (.ref C) "__setattr__" = some (some (.builtin "object.__setattr__"))) (hp : PySem.W.plainOver K C = true) (ht : PySem.W.takerIn K C name = some none) (hh : PySem.W.hasDictIn K C = true)
    (hw : PySem.Within mA ns) (hsz : ns.length ≤ sizeLine)
    (h : ∀ h', ObjM h' x dx C (fun y => if y = name then some v else mA y) → Heap.SameBut dx s.heap h' → Q () { s with heap := h', toks := s.toks + 2 }) :
    wpAny (model prog w) A (setAttr (.ref x) name v) Q E s := by
  obtain ⟨od, J, hl⟩ := I.look
  refine PySem.W.set_plain X J hs (PySem.W.osa_open (s := { s with toks := s.toks + 1 }) (r := none) X J hp ht fun b => ?_)
  obtain ⟨cd, hc, hd'⟩ := PySem.W.any_some hh
  have hx : s.heap.get? x = some ⟨.ref C, some dx, .plain, #[]⟩ := I.obj
  refine wpAny_bind (wpAny_pure (wpAny_bind (wpAny_bind (wpAny_loadPart hx (wpAny_bind (PySem.W.Looks.here (s := { s with toks := s.toks + 1 }) (PySem.W.looks_clsIn X hc) ?_))))))
  rw [hd']
  refine wpAny_pure (a := some dx) (wpAny_bind (wpAny_pure (wpAny_bind ?_)))
  refine wpAny_nsSet1 (s := { s with toks := s.toks + 1 }) I.ns fun h' hn2 hs2 => ?_
  obtain ⟨oD, esD, epD, hoD, hdD, hcD⟩ := hn2.count (PySem.Within.cons name v hw)
  refine wpAny_bind (wpAny_lookBehind hoD (by rw [hdD]; exact pastItsLine_dict (Nat.le_trans hcD (by rw [List.length_cons]; omega))) ?_)
  exact wpAny_pure (h _ ⟨(hs2.2 _ (Ne.symm I.ne)).trans I.obj, hn2, I.ne⟩ hs2)
theorem make_map {R : Result → Shared → Prop} {vs : List Value} {kw : List (Str × Value)} (X : K.In s.heap) (hm : PySem.W.makesIn K C = true)
    (hi : PySem.W.findIn K (.ref C) "__init__" = some (some (.ref f))) (hf : PySem.W.typeIn K (.ref f) = some (.type "function"))
    (h : codeAny (model prog w) (A.under (.builtin "type.__call__" ⟨.ref C :: vs, kw⟩)) (.call (.ref f) ⟨.ref (s.heap.objs.size + 1) :: vs, kw⟩) (PySem.W.InitBack (s.heap.objs.size + 1) R)
      { s with heap := (s.heap.push PySem.W.emptyDict).push (PySem.W.instObj C s.heap.objs.size) }) :
    codeAny (model prog w) A (.call (.ref C) ⟨vs, kw⟩) R s := by
  obtain ⟨hh, g, d, t, os⟩ := s
  exact PySem.W.make_core (PySem.W.makes_of X hm) (PySem.W.looks_findIn X hi) (fun self => PySem.W.bind_fn X self hf) (.inl rfl) h
end
def putF (f : Str) (v : V) : List (Str × V) → List (Str × V)
  | [] => [(f, v)]
  | (g, x) :: r => if g = f then (g, v) :: r else (g, x) :: putF f v r
theorem lookup_putF (f g : Str) (v : V) : ∀ fs : List (Str × V), (putF f v fs).lookup g = if g = f then some v else fs.lookup g
  | [] => by
    show List.lookup g [(f, v)] = _
    by_cases h : g = f
    · have hb : (g == f) = true := beq_iff_eq.mpr h
      simp only [List.lookup, hb, if_pos h]
    · have hb : (g == f) = false := beq_eq_false_iff_ne.mpr h
      simp only [List.lookup, hb, if_neg h]
  | (k, x) :: r => by
    have ih := lookup_putF f g v r
    rw [show putF f v ((k, x) :: r) = (if k = f then (k, v) :: r else (k, x) :: putF f v r) from rfl]
    by_cases hk : k = f
    · rw [if_pos hk]
      by_cases h : g = k
      · have hb : (g == k) = true := beq_iff_eq.mpr h
        simp only [List.lookup, hb, if_pos (h.trans hk)]
      · have hb : (g == k) = false := beq_eq_false_iff_ne.mpr h
        simp only [List.lookup, hb, if_neg (fun e : g = f => h (e.trans hk.symm))]
    · rw [if_neg hk]
      by_cases h : g = k
      · have hb : (g == k) = true := beq_iff_eq.mpr h
        simp only [List.lookup, hb, if_neg (fun e : g = f => hk (h.symm.trans e))]
      · have hb : (g == k) = false := beq_eq_false_iff_ne.mpr h
        simp only [List.lookup, hb]
        exact ih
theorem keys_putF (f : Str) (v : V) : ∀ fs : List (Str × V), f ∈ (putF f v fs).map (·.1) ∧ ∀ g, g ∈ fs.map (·.1) → g ∈ (putF f v fs).map (·.1)
  | [] => ⟨by simp [putF], fun g h => by simp at h⟩
  | (k, x) :: r => by
    obtain ⟨i1, i2⟩ := keys_putF f v r
    rw [show putF f v ((k, x) :: r) = (if k = f then (k, v) :: r else (k, x) :: putF f v r) from rfl]
    by_cases hk : k = f
    · rw [if_pos hk]
      subst hk
      exact ⟨by simp, fun g h => by simpa using h⟩
    · rw [if_neg hk]
      refine ⟨?_, fun g h => ?_⟩
      · rw [List.map_cons]
        exact List.mem_cons_of_mem _ i1
      · rw [List.map_cons] at h ⊢
        rcases List.mem_cons.mp h with e | e
        · exact List.mem_cons.mpr (.inl e)
        · exact List.mem_cons_of_mem _ (i2 g e)
theorem length_putF (f : Str) (v : V) : ∀ fs : List (Str × V), (putF f v fs).length ≤ fs.length + 1
  | [] => by simp [putF]
  | (k, x) :: r => by
    have ih := length_putF f v r
    rw [show putF f v ((k, x) :: r) = (if k = f then (k, v) :: r else (k, x) :: putF f v r) from rfl]
    by_cases hk : k = f
    · rw [if_pos hk, List.length_cons, List.length_cons]; omega
    · rw [if_neg hk, List.length_cons, List.length_cons]; omega
theorem RelO.some_of {v : V} {o : Option Value} (r : RelO (some v) o) : ∃ u, o = some u ∧ RelV v u := by
  cases o with
  | none => exact (show False from r).elim
  | some u => exact ⟨u, rfl, r⟩
theorem RelO.none_of {o : Option Value} (r : RelO none o) : o = none := by
  cases o with
  | none => rfl
  | some u => exact (show False from r).elim
theorem handed_of {v : V} {u : Value} (r : RelV v u) : PySem.W.handedIn u = true := by
  cases v with
  | non => cases (show u = Value.none from r); rfl
  | bl b => cases (show u = Value.bool b from r); rfl
  | int i => obtain ⟨t, e⟩ := (show ∃ t, u = Value.int i t from r); cases e; rfl
  | str x => obtain ⟨t, e⟩ := (show ∃ t, u = Value.str x t from r); cases e; rfl
  | byt b => obtain ⟨t, e⟩ := (show ∃ t, u = Value.bytes b t from r); cases e; rfl
  | flt b => obtain ⟨t, e⟩ := (show ∃ t, u = Value.float b t from r); cases e; rfl
  | ref a => cases (show u = Value.ref a from r); rfl
  | ty n => cases (show u = Value.type n from r); rfl
section
variable {P : Program} {w : World} {H H' : Hp} {h h' : Heap} {a C dx : Addr} {fs fs' : List (Str × V)}
theorem ins_get (hok : HOk P w H h) (e : H a = some (.ins C dx fs)) : ∃ mA, ObjM h a dx C mA ∧ (∀ f, RelO (fs.lookup f) (mA f)) ∧ PySem.Within mA (fs.map (·.1)) ∧ fs.length ≤ 1000 ∧ H dx = some (.own a) := by
  obtain ⟨d, z, ne, ob, mA, n, r, q⟩ := (show ObjOk P w H h a (.ins C dx fs) from hok a _ e)
  exact ⟨mA, ⟨ob, n, ne⟩, r, q, z, d⟩
end
structure Cls (K : PySem.W.Frag) (C : Addr) : Prop where
  pg : PySem.W.plainGet K C Str.empty = true
  hd : PySem.W.hasDictIn K C = true
  po : PySem.W.plainOver K C = true
  sa : PySem.W.findIn K (.ref C) "__setattr__" = some (some (.builtin "object.__setattr__"))
theorem Cls.get {K : PySem.W.Frag} {C : Addr} (c : Cls K C) (f : Str) : PySem.W.plainGet K C f = true := c.pg
def NoAttr (K : PySem.W.Frag) (C : Addr) (f : Str) : Prop := PySem.W.findIn K (.ref C) f = some none
theorem NoAttr.taker {K : PySem.W.Frag} {C : Addr} {f : Str} (n : NoAttr K C f) : PySem.W.takerIn K C f = some none := by
  unfold PySem.W.takerIn
  rw [show PySem.W.findIn K (.ref C) f = some none from n]
  rfl
structure Meth (K : PySem.W.Frag) (C : Addr) (m : Str) (f : Addr) : Prop where
  at_ : PySem.W.findIn K (.ref C) m = some (some (.ref f))
  fn : PySem.W.isFn K (.ref f) = true
  kp : PySem.W.keepIn K (.ref f) = true
section
variable {X : Cx} {pins : List (Addr × Obj)} {σ : St} {H : Hp} {s : Shared} {a C dx : Addr} {fs : List (Str × V)} {f : Str} {v : V} {A : Around} {E : Value → Shared → Prop}
theorem getattr_ok {b : Bool} {Q : Value → Shared → Prop} (I : Inv X pins σ H s) (e : H a = some (.ins C dx fs)) (c : Cls X.K C) (n : NoAttr X.K C f) (l : fs.lookup f = some v)
    (h : ∀ u s', Inv X pins σ H s' → RelV v u → Q u s') : wpAny (model X.prog X.w) A (getAttr (.ref a) f b) Q E s := by
  obtain ⟨mA, O, r, _, _, _⟩ := ins_get I.hok e
  obtain ⟨u, hu, ru⟩ := RelO.some_of (v := v) (o := mA f) (by rw [← l]; exact r f)
  exact get_map I.kIn O (c.get f) c.hd n hu (handed_of ru) (h u _ (I.tok _) ru)
theorem getmeth_ok {m : Str} {g : Addr} {pl : Sem Bool} {Q : Value × List Value → Shared → Prop} (I : Inv X pins σ H s) (e : H a = some (.ins C dx fs)) (c : Cls X.K C) (k : Meth X.K C m g) (l : fs.lookup m = none)
    (h : Q (.ref g, [.ref a]) s) : wpAny (model X.prog X.w) A (getMethod (.ref a) m pl) Q E s := by
  obtain ⟨mA, O, r, _, _, _⟩ := ins_get I.hok e
  have hn : mA m = none := RelO.none_of (by rw [← l]; exact r m)
  exact get_meth I.kIn O (c.get m) k.at_ k.fn hn h
theorem setattr_ok {y : V} {u : Value} {Q : Unit → Shared → Prop} (I : Inv X pins σ H s) (e : H a = some (.ins C dx fs)) (c : Cls X.K C) (n : NoAttr X.K C f) (hl : fs.length < 1000) (ry : RelV y u)
    (h : ∀ s', Inv X pins σ (upd H a (.ins C dx (putF f y fs))) s' → Q () s') : wpAny (model X.prog X.w) A (setAttr (.ref a) f u) Q E s := by
  obtain ⟨mA, O, r, wi, _, ho⟩ := ins_get I.hok e
  have hz : (fs.map (·.1)).length ≤ sizeLine := by rw [List.length_map, sizeLine_eq]; omega
  refine set_map I.kIn O c.sa c.po n.taker c.hd wi hz fun h' O' sb => h _ ?_
  have hd : ∃ o, h'.get? dx = some o := let ⟨o, _, _, e', _⟩ := O'.ns; ⟨o, e'⟩
  refine I.write (x := a) (e := dx) (by rw [e]; exact True.intro) (.inr ho) (fun b q hb z => (sb.2 b hb).trans z) hd ?_
  refine ⟨by rw [upd_ne O.ne]; exact ho, ?_, O.ne, O'.obj, _, O'.ns, fun g => ?_, fun g hg => ?_⟩
  · have := length_putF f y fs; omega
  · show RelO ((putF f y fs).lookup g) (if g = f then some u else mA g)
    rw [lookup_putF]
    by_cases q : g = f
    · rw [if_pos q, if_pos q]; exact ry
    · rw [if_neg q, if_neg q]; exact r g
  · by_cases q : g = f
    · rw [q]; exact (keys_putF f y fs).1
    · refine (keys_putF f y fs).2 g (wi g fun z => hg ?_)
      show (if g = f then some u else mA g) = none
      rw [if_neg q]; exact z
theorem Inv.made (I : Inv X pins σ H s) : Inv X pins σ (upd (upd H s.heap.objs.size (.own (s.heap.objs.size + 1))) (s.heap.objs.size + 1) (.ins C s.heap.objs.size []))
    { s with heap := (s.heap.push PySem.W.emptyDict).push (PySem.W.instObj C s.heap.objs.size) } := by
  have e1 : (s.heap.push PySem.W.emptyDict).get? s.heap.objs.size = some PySem.W.emptyDict := Heap.get?_push_size s.heap rfl
  have e2 : ((s.heap.push PySem.W.emptyDict).push (PySem.W.instObj C s.heap.objs.size)).get? (s.heap.objs.size + 1) = some (PySem.W.instObj C s.heap.objs.size) := by
    have := Heap.get?_push_size (s.heap.push PySem.W.emptyDict) (o := PySem.W.instObj C s.heap.objs.size) rfl
    rwa [Heap.size_push] at this
  have e3 : (s.heap.push PySem.W.emptyDict).Ns s.heap.objs.size (fun _ => none) := ⟨PySem.W.emptyDict, #[], _, e1, rfl, (fun e he => absurd he (by simp)), fun _ => rfl⟩
  have I1 := I.laid (a := s.heap.objs.size) (o := .own (s.heap.objs.size + 1)) (h' := s.heap.push PySem.W.emptyDict) (t' := s.toks) (fun b u q => Heap.get?_push_of_some _ q) (Nat.le_refl _) ⟨_, e1⟩
  refine I1.laid (a := s.heap.objs.size + 1) (o := .ins C s.heap.objs.size []) (t' := s.toks) (fun b u q => Heap.get?_push_of_some _ q) (Nat.le_of_eq (Heap.size_push _ _)) ?_
  have ne : s.heap.objs.size ≠ s.heap.objs.size + 1 := Nat.ne_of_lt (Nat.lt_succ_self _)
  refine ⟨by rw [upd_ne ne, upd_same], Nat.zero_le _, ne, e2, fun _ => none, (Heap.Ns1.of_empty e3).at fun o q => Heap.get?_push_of_some _ q, fun _ => True.intro, fun y hy => absurd rfl hy⟩
theorem attr_of {prog : Program} {w : World} {env : Env} {e : Expr} {f : Str} {pos : Pos} {s : Shared} {Q : Value → Shared → Prop} (hb : attributeBase e f env (eval e env) = eval e env)
    (h : wpAny (model prog w) A (eval e env) (fun o s₁ => wpAny (model prog w) A (getAttr o f true) Q E s₁) E s) : wpAny (model prog w) A (eval (.Attribute e f pos) env) Q E s :=
  Attribute_any_ h (by rw [arm_eval_Attribute, hb])
end
def tFld (K : PySem.W.Frag) (ta : TE) (f : Str) : TE := fun σ H Q => ta σ H fun x H1 => ∃ a C dx fs v, x = .ref a ∧ H1 a = some (.ins C dx fs) ∧ Cls K C ∧ NoAttr K C f ∧ fs.lookup f = some v ∧ Q v H1
def sFld (K : PySem.W.Frag) (ta tv : TE) (f : Str) : TS := fun D σ H => tv σ H fun y H1 => ta σ H1 fun x H2 => ∃ a C dx fs, x = .ref a ∧ H2 a = some (.ins C dx fs) ∧ Cls K C ∧ NoAttr K C f ∧ fs.length < 1000 ∧
  D.nx σ (upd H2 a (.ins C dx (putF f y fs)))
section
variable {X : Cx} {o e value : Expr} {f : Str} {pos pos' tpos : Pos} {ta tv : TE}
theorem pe_fld (he : PE X e ta) (hb : attributeBase e f X.env (eval e X.env) = eval e X.env) : PE X (.Attribute e f pos) (tFld X.K ta f) := by
  intro pins s σ H Q I h
  refine attr_of hb (thn (he pins s σ H _ I h) fun u s1 ⟨x, H1, I1, rx, a, C, dx, fs, v, ex, ea, c, n, l, q⟩ => ?_)
  subst ex
  obtain rfl : u = Value.ref a := rx
  exact getattr_ok I1 ea c n l fun u' s2 I2 ru => ⟨v, H1, I2, ru, q⟩
theorem ps_fld (ha : PE X o ta) (hv : PE X value tv) (hs : swapsWith value (some (.Attribute o f pos')) pos.line X.env = pure false) : PS X (.Assign [.Attribute o f pos'] value pos) (sFld X.K ta tv f) := by
  intro pins s σ H D I h
  refine plainObj_wpAny_Assign_Attribute (thn (hv pins s σ H _ I h) fun u s1 ⟨y, H1, I1, ry, q⟩ => thn (ha pins s1 σ H1 _ I1 q) fun ov s2 ⟨x, H2, I2, rx, a, C, dx, fs, ex, ea, c, n, l, q2⟩ => ?_) hs
  subst ex
  obtain rfl : ov = Value.ref a := rx
  exact setattr_ok I2 ea c n l ry fun s3 I3 => ⟨σ, _, I3, q2⟩
end
section
variable {X : Cx} {pins : List (Addr × Obj)} {σ : St} {H : Hp} {s : Shared} {A : Around} {E : Value → Shared → Prop} {Q : Value → Shared → Prop} {c : Value} {b : Bool}
inductive TyOf (K : PySem.W.Frag) (H : Hp) : V → Value → Prop where
  | non : TyOf K H .non (.type "NoneType")
  | bl (x : Bool) : TyOf K H (.bl x) (.type "bool")
  | int (i : Int) : TyOf K H (.int i) (.type "int")
  | str (x : Str) : TyOf K H (.str x) (.type "str")
  | flt (x : UInt64) : TyOf K H (.flt x) (.type "float")
  | lst {a : Addr} {xs : List V} (e : H a = some (.lst xs)) : TyOf K H (.ref a) (.type "list")
  | frz {a : Addr} {o : Obj} {xs : List V} (e : H a = some (.frz o (.lst xs))) : TyOf K H (.ref a) (.type "list")
  | tup {a : Addr} {xs : List V} (e : H a = some (.tup xs)) : TyOf K H (.ref a) (.type "tuple")
  | dK {a : Addr} {kvs : List (Key × V)} (e : H a = some (.dK kvs)) : TyOf K H (.ref a) (.type "dict")
  | dT {a : Addr} {kvs : List (List Key × V)} (e : H a = some (.dT kvs)) : TyOf K H (.ref a) (.type "dict")
  | ins {a C dx : Addr} {fs : List (Str × V)} (e : H a = some (.ins C dx fs)) (cl : Cls K C) (ha : PySem.W.findIn K (.ref C) "__class__" = some (some (.builtin "object.__class__")))
      (hn : PySem.W.specialIn K (.builtin "object.__class__") "__get__" = some (some (.builtin "getset_descriptor.__get__"))) (htk : PySem.W.takesIn K (.builtin "object.__class__") = some true)
      (hm : PySem.W.mroIn K C (.type "object") = some true) : TyOf K H (.ref a) (.ref C)
theorem isinst_ok {x : V} {u t : Value} (I : Inv X pins σ H s) (rx : RelV x u) (ty : TyOf X.K H x t) (e : PySem.W.kitOne X.K t c = some b) (h : ∀ tk, Q (.bool b) { s with toks := tk }) :
    wpAny (model X.prog X.w) A (call (.builtin "isinstance") [u, c]) Q E s := by
  cases ty with
  | non => cases (show u = Value.none from rx); exact PySem.W.kia_one PySem.W.kitx_none I.kIn True.intro e (fun z => nomatch z) h
  | bl y => cases (show u = Value.bool y from rx); exact PySem.W.kia_one PySem.W.kitx_bool I.kIn True.intro e (fun z => nomatch z) h
  | int i => obtain ⟨t, q⟩ := (show ∃ t, u = Value.int i t from rx); cases q; exact PySem.W.kia_one PySem.W.kitx_int I.kIn True.intro e (fun z => nomatch z) h
  | str y => obtain ⟨t, q⟩ := (show ∃ t, u = Value.str y t from rx); cases q; exact PySem.W.kia_one PySem.W.kitx_str I.kIn True.intro e (fun z => nomatch z) h
  | flt y => obtain ⟨t, q⟩ := (show ∃ t, u = Value.float y t from rx); cases q; exact PySem.W.kia_one PySem.W.kitx_float I.kIn True.intro e (fun z => nomatch z) h
  | @lst a xs ea =>
    cases (show u = Value.ref a from rx)
    obtain ⟨_, _, n, _, h1⟩ := (show ObjOk X.prog X.w H s.heap a (.lst xs) from I.hok a _ ea)
    exact PySem.W.kia_one PySem.W.kitx_list I.kIn ⟨_, h1, rfl⟩ e (fun z => nomatch z) h
  | @frz a ob xs ea =>
    cases (show u = Value.ref a from rx)
    obtain ⟨_, _, _, n, _, h1⟩ := (show ObjOk X.prog X.w H s.heap a (.frz ob (.lst xs)) from I.hok a _ ea)
    exact PySem.W.kia_one PySem.W.kitx_list I.kIn ⟨_, h1, rfl⟩ e (fun z => nomatch z) h
  | @tup a xs ea =>
    cases (show u = Value.ref a from rx)
    obtain ⟨_, _, _, p⟩ := (show ObjOk X.prog X.w H s.heap a (.tup xs) from I.hok a _ ea)
    obtain ⟨o, h1, h2, _⟩ := p
    exact PySem.W.kia_one PySem.W.kitx_tuple I.kIn ⟨o, h1, h2⟩ e (fun z => nomatch z) h
  | @dK a kvs ea =>
    cases (show u = Value.ref a from rx)
    obtain ⟨_, _, vs, _, p⟩ := (show ObjOk X.prog X.w H s.heap a (.dK kvs) from I.hok a _ ea)
    obtain ⟨o, es, ep, h1, h2, _⟩ := p
    exact PySem.W.kia_one PySem.W.kitx_dict I.kIn ⟨o, h1, h2.1⟩ e (fun z => nomatch z) h
  | @dT a kvs ea =>
    cases (show u = Value.ref a from rx)
    obtain ⟨_, _, xs, _, o, es, ep, h1, h2, _⟩ := (show ObjOk X.prog X.w H s.heap a (.dT kvs) from I.hok a _ ea)
    exact PySem.W.kia_one PySem.W.kitx_dict I.kIn ⟨o, h1, h2.1⟩ e (fun z => nomatch z) h
  | @ins a C dx fs ea cl ha hn htk hm =>
    cases (show u = Value.ref a from rx)
    obtain ⟨mA, O, _⟩ := ins_get I.hok ea
    obtain ⟨od, J, _⟩ := O.look
    exact PySem.W.kia_one (PySem.W.kitx_own (cl.get _) cl.hd ha hn htk hm) I.kIn J e (fun z => nomatch z) h
end
structure Room (k : Nat) (A : Around) : Prop where
  hd : A.handled = none
  dp : A.depth + 3 * k + 5 < recursionLimit
  un : A.units + 16 * k + 200 < cLine
  gd : A.guards = some []
theorem Room.mono {j k : Nat} {A : Around} (r : Room k A) (h : j ≤ k) : Room j A := ⟨r.hd, by have := r.dp; omega, by have := r.un; omega, r.gd⟩
theorem Room.deeper {k : Nat} {A : Around} (r : Room (k + 1) A) (env : Env) : Room k (A.deeper env) :=
  ⟨r.hd, by have := r.dp; show A.depth + 1 + 3 * k + 5 < _; omega, by have := r.un; show A.units + 3 + 16 * k + 200 < _; omega, r.gd⟩
theorem make_depth {A : Around} {C : Addr} {us : List Value} {kw : List (Str × Value)} : (A.under (.builtin "type.__call__" ⟨.ref C :: us, kw⟩)).depth = A.depth + 1 := by
  first | rfl | simp [Around.under, Code.weight, Code.isCreation, Code.isGuard, Code.isCaller, Code.frames, Code.isFrame, guardIds]
theorem make_units {A : Around} {C : Addr} {us : List Value} {kw : List (Str × Value)} : (A.under (.builtin "type.__call__" ⟨.ref C :: us, kw⟩)).units = A.units + 1 := by
  first | rfl | simp [Around.under, Code.cUnits, Code.frames, Code.isFrame]
theorem Room.make {k : Nat} {A : Around} (r : Room (k + 1) A) (C : Addr) (us : List Value) (kw : List (Str × Value)) : Room k (A.under (.builtin "type.__call__" ⟨.ref C :: us, kw⟩)) :=
  ⟨r.hd, by have := r.dp; rw [make_depth]; omega, by have := r.un; rw [make_units]; omega, by first | exact r.gd | (rw [← r.gd]; rfl) | (simp only [Around.under]; rw [r.gd]; rfl)⟩
theorem Room.depth {k : Nat} {A : Around} (r : Room k A) : A.depth < recursionLimit := by have := r.dp; omega
theorem Room.units {k : Nat} {A : Around} (r : Room k A) : A.units + 64 < cLine := by have := r.un; omega
def tNil : TA := fun _ H Q => Q [] H
def tCons (ta : TE) (tr : TA) : TA := fun σ H Q => ta σ H fun x H1 => tr σ H1 fun xs H2 => Q (x :: xs) H2
section
variable {X : Cx} {e : Expr} {es : List Expr} {te : TE} {t : TA} {pos : Pos}
theorem pa_nil : PA X [] tNil := fun _ _ _ _ H Q I h => Calls.spliced_nil ⟨[], H, I, .nil, h⟩
theorem pa_cons (ha : PE X e te) (hr : PA X es t) (hs : starEach (e :: es) X.env = (false, eval e X.env) :: starEach es X.env := by rfl) : PA X (e :: es) (tCons te t) := by
  intro pos pins s σ H Q I h
  rw [hs]
  show wpAny _ _ (spliced ((false, eval e X.env) :: backTo pos (starEach es X.env))) _ _ s
  refine Calls.spliced_cons (thn (ha pins s σ H _ I h) fun u s1 ⟨x, H1, I1, r1, q1⟩ => ?_)
  exact thn (hr pos pins s1 σ H1 _ I1 q1) fun us s2 ⟨xs, H2, I2, r2, q2⟩ => ⟨x :: xs, H2, I2, .cons r1 r2, q2⟩
def tTup (t : TA) : TE := fun σ H Q => t σ H fun xs H1 => xs.length ≤ sizeLine ∧ ∀ p, H1 p = none → Q (.ref p) (upd H1 p (.tup xs))
def tLst (t : TA) : TE := fun σ H Q => t σ H fun xs H1 => xs.length ≤ sizeLine ∧ ∀ p, H1 p = none → Q (.ref p) (upd H1 p (.lst xs))
theorem pe_tup {x1} (h : PA X es t) : PE X (.Tuple es x1 pos) (tTup t) := by
  intro pins s σ H Q I hq
  refine wpAny_Tuple_spliced (thn (h pos pins s σ H _ I hq) fun us s1 ⟨xs, H1, I1, r, z, q⟩ => ⟨by rw [← r.length]; exact z, ?_⟩)
  have hf : H1 s1.heap.objs.size = none := I1.hok.fresh (Nat.le_refl _)
  refine ⟨.ref s1.heap.objs.size, upd H1 s1.heap.objs.size (.tup xs), I1.laid (t' := s1.toks) (fun b u e => Heap.get?_push_of_some _ e) (Nat.le_refl _) ?_, rfl, q _ hf⟩
  exact ⟨z, us, r, ⟨_, Heap.get?_push_size _ rfl, rfl, _, rfl⟩⟩
theorem pe_lst (h : PA X es t) : PE X (.List es pos) (tLst t) := by
  intro pins s σ H Q I hq
  refine wpAny_List_spliced (thn (h pos pins s σ H _ I hq) fun us s1 ⟨xs, H1, I1, r, z, q⟩ => ⟨by rw [← r.length]; exact z, ?_⟩)
  have hf : H1 s1.heap.objs.size = none := I1.hok.fresh (Nat.le_refl _)
  refine ⟨.ref s1.heap.objs.size, upd H1 s1.heap.objs.size (.lst xs), I1.laid (t' := s1.toks) (fun b u e => Heap.get?_push_of_some _ e) (Nat.le_refl _) ?_, rfl, q _ hf⟩
  exact ⟨z, us, 0, r, Heap.get?_push_size _ rfl⟩
end
abbrev Sp := List V → Hp → VK → XK → Prop
abbrev CXT := List Env → Hp → Shared → XK → Value → Shared → Prop
structure Env0 (P : Program) (w : World) (K : PySem.W.Frag) (mg : Str → Option Value) (base : Heap) (A : Around) (outer : List Env) (s : Shared) (H : Hp) : Prop where
  frames : A.frames = some outer
  mod : Mod K mg base
  bs : ∀ b o, base.get? b = some o → s.heap.get? b = some o ∧ H b = none
  bsz : base.objs.size ≤ s.heap.objs.size
  funs : s.heap.FunFrames base outer
  frf : ∀ b ∈ frs outer, H b = none
  hok : HOk P w H s.heap
  bare : AllBare s.gens
def CE (outer : List Env) (P : Program) (w : World) (H : Hp) (s : Shared) (Q : VK) (u : Value) (s' : Shared) : Prop :=
  ∃ v H', s'.os = s.os ∧ AllBare s'.gens ∧ Un (frs outer) [] H H' s.heap s'.heap ∧ HOk P w H' s'.heap ∧ RelV v u ∧ Q v H'
def CR (CX : CXT) (outer : List Env) (P : Program) (w : World) (H : Hp) (s : Shared) (Q : VK) (E : XK) (r : Result) (s' : Shared) : Prop :=
  match r with
  | .ok (.ret u) => CE outer P w H s Q u s'
  | .ok _ => False
  | .error e => CX outer H s E e s'
structure FnOk (P : Program) (w : World) (K : PySem.W.Frag) (mg : Str → Option Value) (base : Heap) (CX : CXT) (k : Nat) (f : Addr) (fd : FuncData) (ps : List Str) (sp : Sp) : Prop where
  len : ∀ vs H Q E, sp vs H Q E → vs.length = ps.length
  run : ∀ (A : Around) (outer : List Env) (s : Shared) (H : Hp) (args : Args) (us : List Value) (vs : List V) (Q : VK) (E : XK), Room k A → Env0 P w K mg base A outer s H → BindsTo s fd args (ps.zip us) → Vals vs us → sp vs H Q E →
    codeAny (model P w) A (.call (.ref f) args) (CR CX outer P w H s Q E) s
theorem FnOk.mono {P : Program} {w : World} {K : PySem.W.Frag} {mg : Str → Option Value} {base : Heap} {CX : CXT} {j k : Nat} {f : Addr} {fd : FuncData} {ps : List Str} {sp : Sp} (F : FnOk P w K mg base CX j f fd ps sp) (h : j ≤ k) :
    FnOk P w K mg base CX k f fd ps sp := ⟨F.len, fun A outer s H args us vs Q E hr => F.run A outer s H args us vs Q E (hr.mono h)⟩
theorem Env0.make {P : Program} {w : World} {K : PySem.W.Frag} {mg : Str → Option Value} {base : Heap} {A : Around} {outer : List Env} {s : Shared} {H : Hp} (e : Env0 P w K mg base A outer s H) (C : Addr) (us : List Value) (kw : List (Str × Value)) :
    Env0 P w K mg base (A.under (.builtin "type.__call__" ⟨.ref C :: us, kw⟩)) outer s H := ⟨by first | exact e.frames | (simpa [Around.under, Code.envs, Code.isFrame, pushEnvs] using e.frames), e.mod, e.bs, e.bsz, e.funs, e.frf, e.hok, e.bare⟩
section
variable {X : Cx} {pins : List (Addr × Obj)} {σ : St} {H : Hp} {s s' : Shared}
theorem Inv.env0 (I : Inv X pins σ H s) : Env0 X.prog X.w X.K X.mg X.base X.A X.stack s H :=
  ⟨I.ok.frames, I.ok.mod, I.bs, Nat.le_trans I.ok.bsz I.sz, I.stack, I.stkFree, I.hok, I.bare⟩
theorem Inv.after {Q : VK} {u : Value} (I : Inv X pins σ H s) (h : CE X.stack X.prog X.w H s Q u s') : EP X pins σ Q u s' := by
  obtain ⟨v, H', os, bare, un, hok, r, q⟩ := h
  obtain ⟨hh, g, d, t, os'⟩ := s'
  obtain rfl : os' = s.os := os
  exact ⟨v, H', I.call (h' := hh) (g' := g) (d' := d) (t' := t) (ch := []) un hok bare (fun b z => absurd z (by simp)), r, q⟩
end
def tCall (sp : Sp) (dvs : List V) (E : XK) (t : TA) : TE := fun σ H Q => t σ H fun vs H1 => sp (vs ++ dvs) H1 Q E
def tMeth (C : Addr) (m : Str) (sp : Sp) (dvs : List V) (E : XK) (ta : TE) (t : TA) : TE := fun σ H Q => ta σ H fun x H1 => ∃ a dx fs, x = .ref a ∧ H1 a = some (.ins C dx fs) ∧ fs.lookup m = none ∧
  t σ H1 fun vs H2 => sp (x :: (vs ++ dvs)) H2 Q E
def tMake (C : Addr) (sp : Sp) (dvs : List V) (E : XK) (t : TA) : TE := fun σ H Q => t σ H fun vs H1 => ∀ x dx, H1 x = none → H1 dx = none → dx ≠ x →
  sp (.ref x :: (vs ++ dvs)) (upd (upd H1 dx (.own x)) x (.ins C dx [])) (fun v H2 => v = .non ∧ Q (.ref x) H2) E
def Binds (K : PySem.W.Frag) (fd : FuncData) (ps : List Str) (ds : List Value) : Prop :=
  ∀ (s : Shared) (us : List Value), K.In s.heap → (us ++ ds).length = ps.length → BindsTo s fd ⟨us, []⟩ (ps.zip (us ++ ds))
theorem Binds.all {K : PySem.W.Frag} {fd : FuncData} {ps : List Str} (h : ∀ us : List Value, us.length = ps.length → bindArgs fd ⟨us, []⟩ = pure (ps.zip us)) : Binds K fd ps [] := fun s us _ hl => by
  rw [List.append_nil] at hl ⊢
  exact .of_eq (h us hl)
def Passes (CX : CXT) (X : Cx) (E : XK) : Prop := ∀ (pins : List (Addr × Obj)) (σ : St) (H : Hp) (s : Shared) (e : Value) (s' : Shared), Inv X pins σ H s → CX X.stack H s E e s' → X.xe e s'
section
variable {X : Cx} {CX : CXT} {k : Nat} {f C : Addr} {fd : FuncData} {ps : List Str} {sp : Sp} {dvs : List V} {ds : List Value} {E : XK} {x m : Str} {p pos apos : Pos} {e o : Expr} {es : List Expr} {ta : TE} {t : TA}
theorem run_fn {pins : List (Addr × Obj)} {σ : St} {H : Hp} {s : Shared} {Q : VK} {us : List Value} {vs : List V} (F : FnOk X.prog X.w X.K X.mg X.base CX k f fd ps sp) (hr : Room k X.A) (hb : Binds X.K fd ps ds) (hd : Vals dvs ds) (hx : Passes CX X E)
    (I : Inv X pins σ H s) (r : Vals vs us) (h : sp (vs ++ dvs) H Q E) : wpAny (model X.prog X.w) X.A (call (.ref f) us) (EP X pins σ Q) X.xe s := by
  have r2 : Vals (vs ++ dvs) (us ++ ds) := r.append hd
  have hl : (us ++ ds).length = ps.length := by rw [← r2.length]; exact F.len _ _ _ _ h
  refine wpAny_call (codeAny_mono (F.run X.A X.stack s H ⟨us, []⟩ (us ++ ds) (vs ++ dvs) Q E hr I.env0 (hb s us I.kIn hl) r2 h) fun r s' hq => ?_)
  cases r with
  | error e => exact hx pins σ H s e s' I hq
  | ok fl =>
    cases fl with
    | ret u => exact I.after hq
    | next => exact False.elim hq
    | brk => exact False.elim hq
    | cont => exact False.elim hq
theorem pe_call (F : FnOk X.prog X.w X.K X.mg X.base CX k f fd ps sp) (hr : Room k X.A) (hg : Gl X x) (hm : X.mg x = some (.ref f)) (hk : PySem.W.keepIn X.K (.ref f) = true) (hb : Binds X.K fd ps ds) (hd : Vals dvs ds) (hx : Passes CX X E)
    (ha : PA X (e :: es) t) (hdb : (x == ("__debug__" : Str)) = false := by decide) (he : starEach (e :: es) X.env = (false, eval e X.env) :: starEach es X.env := by rfl) (hpl : (backTo pos (starEach es X.env)).any (·.1) = false := by rfl) :
    PE X (.Call (.Name x p) (e :: es) [] pos) (tCall sp dvs E t) := by
  intro pins s σ H Q I h
  refine wpAny_Call_Name_kw (ld_glob I hg hm ?_ hdb)
  refine PySem.W.callWith_K (h₀ := X.base) I.ok.mod.kin hk (thn (ha pos pins s σ H _ I h) fun us s1 ⟨vs, H1, I1, r, q⟩ => ⟨I1.kIn, ?_⟩) he hpl
  exact run_fn F hr hb hd hx I1 r q
theorem pe_meth {pl : Sem Bool} (he : PE X o ta) (c : Cls X.K C) (hm : Meth X.K C m f) (F : FnOk X.prog X.w X.K X.mg X.base CX k f fd ps sp) (hr : Room k X.A) (hb : Binds X.K fd ps ds) (hd : Vals dvs ds) (hx : Passes CX X E) (ha : PA X (e :: es) t)
    (hst : starEach (e :: es) X.env = (false, eval e X.env) :: starEach es X.env := by rfl) (hpl : (backTo pos (starEach es X.env)).any (·.1) = false := by rfl)
    (ht : eval (.Call (.Attribute o m apos) (e :: es) [] pos) X.env = (do
      let ov ← eval o X.env
      standAt apos.atName
      let (f, first) ← holding [ov] (getMethod ov m pl)
      callWith pos f first (backTo pos (starEach (e :: es) X.env)) (backToKw pos (keywordEach [] X.env))) := by rfl) :
    PE X (.Call (.Attribute o m apos) (e :: es) [] pos) (tMeth C m sp dvs E ta t) := by
  intro pins s σ H Q I h
  refine PySem.W.methodCall_KW (pl := pl) (thn (he pins s σ H _ I h) fun u s1 ⟨x, H1, I1, rx, a, dx, fs, ex, ea, l, q⟩ => ?_) ht
  subst ex
  obtain rfl : u = Value.ref a := rx
  refine getmeth_ok I1 ea c hm l ?_
  refine PySem.W.callWith_K (first := [.ref a]) (h₀ := X.base) I.ok.mod.kin hm.kp (thn (ha pos pins s1 σ H1 _ I1 q) fun us s2 ⟨vs, H2, I2, r, q2⟩ => ⟨I2.kIn, ?_⟩) hst hpl
  exact run_fn (us := .ref a :: us) (vs := .ref a :: vs) F hr hb hd hx I2 (.cons rfl r) q2
theorem pe_meth0 {pl : Sem Bool} (he : PE X o ta) (c : Cls X.K C) (hm : Meth X.K C m f) (F : FnOk X.prog X.w X.K X.mg X.base CX k f fd ps sp) (hr : Room k X.A) (hb : Binds X.K fd ps ds) (hd : Vals dvs ds) (hx : Passes CX X E)
    (ht : eval (.Call (.Attribute o m apos) [] [] pos) X.env = (do
      let ov ← eval o X.env
      standAt apos.atName
      let (f, first) ← holding [ov] (getMethod ov m pl)
      callWith pos f first (backTo pos (starEach [] X.env)) (backToKw pos (keywordEach [] X.env))) := by rfl) :
    PE X (.Call (.Attribute o m apos) [] [] pos) (tMeth C m sp dvs E ta tNil) := by
  intro pins s σ H Q I h
  refine PySem.W.methodCall_KW (pl := pl) (thn (he pins s σ H _ I h) fun u s1 ⟨x, H1, I1, rx, a, dx, fs, ex, ea, l, q⟩ => ?_) ht
  subst ex
  obtain rfl : u = Value.ref a := rx
  refine getmeth_ok I1 ea c hm l ?_
  exact PySem.W.callWith_K0 (first := [.ref a]) I1.kIn hm.kp (run_fn (us := [.ref a]) (vs := [.ref a]) F hr hb hd hx I1 (.cons rfl .nil) q)
structure Mk (K : PySem.W.Frag) (C f : Addr) : Prop where
  makes : PySem.W.makesIn K C = true
  init : PySem.W.findIn K (.ref C) "__init__" = some (some (.ref f))
  fn : PySem.W.isFn K (.ref f) = true
  kp : PySem.W.keepIn K (.ref C) = true
theorem run_make {pins : List (Addr × Obj)} {σ : St} {H : Hp} {s : Shared} {Q : VK} {us : List Value} {vs : List V} (M : Mk X.K C f) (F : FnOk X.prog X.w X.K X.mg X.base CX k f fd ps sp) (hr : Room (k + 1) X.A) (hb : Binds X.K fd ps ds) (hd : Vals dvs ds)
    (hx : Passes CX X E) (I : Inv X pins σ H s) (r : Vals vs us)
    (h : ∀ x dx, H x = none → H dx = none → dx ≠ x → sp (.ref x :: (vs ++ dvs)) (upd (upd H dx (.own x)) x (.ins C dx [])) (fun v H2 => v = .non ∧ Q (.ref x) H2) E) :
    wpAny (model X.prog X.w) X.A (call (.ref C) us) (EP X pins σ Q) X.xe s := by
  have hq := h (s.heap.objs.size + 1) s.heap.objs.size (I.hok.fresh (Nat.le_succ _)) (I.hok.fresh (Nat.le_refl _)) (Nat.ne_of_lt (Nat.lt_succ_self _))
  have I2 := Inv.made (C := C) I
  have r2 : Vals (V.ref (s.heap.objs.size + 1) :: (vs ++ dvs)) (Value.ref (s.heap.objs.size + 1) :: (us ++ ds)) := .cons rfl (r.append hd)
  have hl : (Value.ref (s.heap.objs.size + 1) :: us ++ ds).length = ps.length := by
    have e := r2.length
    rw [F.len _ _ _ _ hq] at e
    exact e.symm
  refine wpAny_call (make_map (f := f) I.kIn M.makes M.init (beq_iff_eq.mp M.fn) (codeAny_mono (F.run _ X.stack _ _ ⟨Value.ref (s.heap.objs.size + 1) :: us, []⟩ (Value.ref (s.heap.objs.size + 1) :: (us ++ ds)) _ _ E (hr.make C us [])
    (I2.env0.make C us []) (hb _ (Value.ref (s.heap.objs.size + 1) :: us) I2.kIn hl) r2 hq) fun r s' hq' => ?_))
  cases r with
  | error e => exact hx pins σ _ _ e s' I2 hq'
  | ok fl =>
    cases fl with
    | ret u =>
      obtain ⟨v, H', I3, rv, ev, q3⟩ := I2.after hq'
      subst ev
      exact ⟨rv, ⟨V.ref (s.heap.objs.size + 1), H', I3, rfl, q3⟩⟩
    | next => exact False.elim hq'
    | brk => exact False.elim hq'
    | cont => exact False.elim hq'
theorem pe_make (M : Mk X.K C f) (F : FnOk X.prog X.w X.K X.mg X.base CX k f fd ps sp) (hr : Room (k + 1) X.A) (hg : Gl X x) (hm : X.mg x = some (.ref C)) (hb : Binds X.K fd ps ds) (hd : Vals dvs ds) (hx : Passes CX X E)
    (ha : PA X (e :: es) t) (hdb : (x == ("__debug__" : Str)) = false := by decide) (he : starEach (e :: es) X.env = (false, eval e X.env) :: starEach es X.env := by rfl) (hpl : (backTo pos (starEach es X.env)).any (·.1) = false := by rfl) :
    PE X (.Call (.Name x p) (e :: es) [] pos) (tMake C sp dvs E t) := by
  intro pins s σ H Q I h
  refine wpAny_Call_Name_kw (ld_glob I hg hm ?_ hdb)
  refine PySem.W.callWith_K (h₀ := X.base) I.ok.mod.kin M.kp (thn (ha pos pins s σ H _ I h) fun us s1 ⟨vs, H1, I1, r, q⟩ => ⟨I1.kIn, ?_⟩) he hpl
  exact run_make M F hr hb hd hx I1 r q
end
def PK (X : Cx) (kws : List Keyword) (t : TA) : Prop :=
  ∀ (pos : Pos) (pins : List (Addr × Obj)) (s : Shared) (σ : St) (H : Hp) (Q : List V → Hp → Prop), Inv X pins σ H s → t σ H Q → wpAny (model X.prog X.w) X.A (evalAll ((backToKw pos (keywordEach kws X.env)).map (·.2))) (AP X pins σ Q) X.xe s
section
variable {X : Cx} {CX : CXT} {k : Nat} {f C : Addr} {fd : FuncData} {ps ks : List Str} {sp : Sp} {E : XK} {x m : Str} {p pos apos kpos : Pos} {e o : Expr} {es : List Expr} {kws : List Keyword} {te ta : TE} {t tk : TA} {nm : Option Str}
theorem pk_nil : PK X [] tNil := fun _ _ _ _ H Q I h => wpAny_evalAll_nil ⟨[], H, I, .nil, h⟩
theorem pk_cons (ha : PE X e te) (hr : PK X kws t) : PK X (⟨nm, e, kpos⟩ :: kws) (tCons te t) := by
  intro pos pins s σ H Q I h
  show wpAny _ _ (evalAll ((do let v ← eval e X.env; standAt pos; pure v) :: (backToKw pos (keywordEach kws X.env)).map (·.2))) _ _ s
  refine wpAny_evalAll_cons (wpAny_bind (thn (ha pins s σ H _ I h) fun u s1 ⟨x, H1, I1, r1, q1⟩ => wpAny_bind (wpAny_standAt (wpAny_pure ?_))))
  exact thn (hr pos pins s1 σ H1 _ I1 q1) fun us s2 ⟨xs, H2, I2, r2, q2⟩ => ⟨x :: xs, H2, I2, .cons r1 r2, q2⟩
variable {g : List Value → List Value → List Value} {gV : List V → List V → List V}
end
structure FnScope (N P : List Str) (sc : Scope) : Prop where
  kind : sc.kind = .function
  co : sc.isCoroutine = false
  gen : sc.isGenerator = false
  nd : N.Nodup
  pre : N.take P.length = P
  par : ∀ x ∈ P, sc.names.lookup x = some .local ∨ sc.names.lookup x = some .cell
  nofree : ∀ y ∈ sc.names, y.2 ≠ .free
theorem bindL_out {kindOf : Str → Option NameKind} {x : Str} : ∀ {binds : List (Str × Value)} {m : Str → Option Value}, (∀ v, (x, v) ∉ binds) → bindL kindOf binds m x = m x
  | [], _, _ => rfl
  | (n, v) :: r, m, h => by
    unfold bindL
    rw [bindL_out fun w hw => h w (List.mem_cons_of_mem _ hw)]
    split
    · have : x ≠ n := by rintro rfl; exact h v List.mem_cons_self
      simp [this]
    · rfl
theorem bindC_out {kindOf : Str → Option NameKind} {x : Str} : ∀ {binds : List (Str × Value)} {m : Str → Option Value}, (∀ v, (x, v) ∉ binds) → bindC kindOf binds m x = m x
  | [], _, _ => rfl
  | (n, v) :: r, m, h => by
    unfold bindC
    rw [bindC_out fun w hw => h w (List.mem_cons_of_mem _ hw)]
    split
    · rfl
    · have : x ≠ n := by rintro rfl; exact h v List.mem_cons_self
      simp [this]
theorem bindL_get {kindOf : Str → Option NameKind} {x : Str} {v : Value} : ∀ {P : List Str} {vs : List Value} {i : Nat} {m : Str → Option Value}, P.Nodup → P[i]? = some x → vs[i]? = some v → kindOf x = some .local →
    bindL kindOf (P.zip vs) m x = some v
  | [], _, _, _, _, h, _, _ => by simp at h
  | _ :: _, [], _, _, _, _, h, _ => by simp at h
  | p :: P, w :: vs, 0, m, nd, h1, h2, hk => by
    simp at h1 h2; subst h1; subst h2
    show bindL kindOf ((p, w) :: P.zip vs) m p = _
    unfold bindL
    rw [bindL_out fun v hv => (List.nodup_cons.mp nd).1 (List.of_mem_zip hv).1, if_pos hk]
    simp
  | p :: P, w :: vs, i + 1, m, nd, h1, h2, hk => by
    show bindL kindOf ((p, w) :: P.zip vs) m x = _
    unfold bindL
    exact bindL_get (i := i) (List.nodup_cons.mp nd).2 (by simpa using h1) (by simpa using h2) hk
theorem bindC_get {kindOf : Str → Option NameKind} {x : Str} {v : Value} : ∀ {P : List Str} {vs : List Value} {i : Nat} {m : Str → Option Value}, P.Nodup → P[i]? = some x → vs[i]? = some v → kindOf x ≠ some .local →
    bindC kindOf (P.zip vs) m x = some v
  | [], _, _, _, _, h, _, _ => by simp at h
  | _ :: _, [], _, _, _, _, h, _ => by simp at h
  | p :: P, w :: vs, 0, m, nd, h1, h2, hk => by
    simp at h1 h2; subst h1; subst h2
    show bindC kindOf ((p, w) :: P.zip vs) m p = _
    unfold bindC
    rw [bindC_out fun v hv => (List.nodup_cons.mp nd).1 (List.of_mem_zip hv).1, if_neg hk]
    simp
  | p :: P, w :: vs, i + 1, m, nd, h1, h2, hk => by
    show bindC kindOf ((p, w) :: P.zip vs) m x = _
    unfold bindC
    exact bindC_get (i := i) (List.nodup_cons.mp nd).2 (by simpa using h1) (by simpa using h2) hk
def start (N : List Str) (vs : List V) : St := vs.map some ++ List.replicate (N.length - vs.length) none
def cxOf (CX : CXT) (P : Program) (w : World) (K : PySem.W.Frag) (mg : Str → Option Value) (base : Heap) (N : List Str) (qual : Str) (scope : Scope) (f : Addr) (cd : Value) (A : Around) (outer : List Env) (s : Shared) (H : Hp) (E : XK) : Cx where
  prog := P
  w := w
  K := K
  mg := mg
  base := base
  A := A.deeper (envOfC qual scope s.heap.objs.size f cd)
  N := N
  s₀ := s
  H₀ := H
  env := envOfC qual scope s.heap.objs.size f cd
  outer := outer
  stack := envOfC qual scope s.heap.objs.size f cd :: outer
  ex := []
  calm := true
  fn := fun _ => true
  pn := []
  xe := fun e s' => wpAny (model P w) (A.deeper (envOfC qual scope s.heap.objs.size f cd)) (leaving (envOfC qual scope s.heap.objs.size f cd) e) (fun _ s'' => CX outer H s E e s'') (fun e' s'' => CX outer H s E e' s'') s'
theorem cell_has {sc : Scope} {n : Nat} {x : Str} (h : sc.names.lookup x = some .cell) : ∃ c, (cellsFrom n sc.names []).lookup x = some c := by
  have q := PySem.W.cellsFrom_some sc.names n [] (.inl h)
  exact Option.isSome_iff_exists.mp q
theorem inv_start {CX : CXT} {P : Program} {w : World} {K : PySem.W.Frag} {mg : Str → Option Value} {base : Heap} {N ps : List Str} {qual : Str} {scope : Scope} {f : Addr} {cd : Value} {A : Around} {outer : List Env} {s s1 : Shared} {H : Hp} {E : XK} {us : List Value} {vs : List V}
    (S : FnScope N ps scope) (hd : A.handled = none) (e0 : Env0 P w K mg base A outer s H) (hl : vs.length = ps.length) (r : Vals vs us)
    (x : InCallC s s.heap.objs.size (bindL (envOfC qual scope s.heap.objs.size f cd).kindOf (ps.zip us) fun _ => none) (cellsFrom (s.heap.objs.size + 1) scope.names []) (bindC (envOfC qual scope s.heap.objs.size f cd).kindOf (ps.zip us) fun _ => none) s1) :
    Inv (cxOf CX P w K mg base N qual scope f cd A outer s H E) [] (start N vs) H s1 := by
  have hpl : ps.length ≤ N.length := by have := congrArg List.length S.pre; rw [List.length_take] at this; omega
  obtain ⟨h1, tk, rfl, hk⟩ := x.done
  have noA : ∀ b : Addr, b ∉ (cxOf CX P w K mg base N qual scope f cd A outer s H E).ex := fun b z => absurd (show b ∈ ([] : List Addr) from z) (by simp)
  refine ⟨⟨e0.mod, S.kind, rfl, rfl, Nat.le_refl _, fun y z c h1 h2 => ?_, fun y hy => ?_, fun y c _ h => ?_, fun _ => hd, Around.frames_deeper e0.frames, .inr ⟨rfl, rfl⟩, fun b z => absurd z (noA b), e0.bs, e0.bsz, fun b _ _ => noA b, fun b z => absurd z (noA b), e0.funs, e0.frf⟩,
    rfl, e0.bare, Un.kept hk, ⟨_, x.toInCall.ns, fun i y v h1 h2 h3 => ?_⟩, fun y c h => ⟨_, x.cell y c h⟩, e0.hok.fresh (Nat.le_refl _), fun y c h => ?_, fun p hp => absurd (show p ∈ ([] : List (Addr × Obj)) from hp) (by simp), e0.hok.kept hk, ?_⟩
  · exact name_of_addr x.apart (PySem.mem_of_lookup h1) (PySem.mem_of_lookup h2)
  · have hy : scope.names.lookup y = some .cell ∨ scope.names.lookup y = some .free := hy
    rcases hy with hy | hy
    · exact cell_has hy
    · exact absurd rfl (S.nofree _ (PySem.mem_of_lookup hy))
  · exact Nat.le_of_lt (x.above y c (PySem.mem_of_lookup h))
  · have hi : i < vs.length := by
      unfold start at h2
      by_cases hi : i < vs.length
      · exact hi
      · rw [List.getElem?_append_right (by simpa using hi)] at h2
        rw [List.getElem?_replicate] at h2
        split at h2 <;> cases h2
    have ha : vs[i]? = some v := by
      unfold start at h2
      rw [List.getElem?_append_left (by simpa using hi), List.getElem?_map] at h2
      cases e : vs[i]? with
      | none => rw [e] at h2; cases h2
      | some a => rw [e] at h2; cases h2; rfl
    obtain ⟨u, hu, rv⟩ := r.get ha
    have hp : ps[i]? = some y := by
      rw [← S.pre, List.getElem?_take_of_lt (by omega)]; exact h1
    have ndP : ps.Nodup := by rw [← S.pre]; exact S.nd.sublist (List.take_sublist _ _)
    refine ⟨u, rv, ?_⟩
    rcases S.par y (List.mem_of_getElem? hp) with k | k
    · exact .inl ⟨k, bindL_get ndP hp hu k⟩
    · obtain ⟨c, e⟩ := cell_has (n := s.heap.objs.size + 1) k
      refine .inr ⟨.inl k, c, e, ?_⟩
      have q := x.cell y c e
      rw [bindC_get ndP hp hu (by show scope.names.lookup y ≠ _; rw [k]; decide)] at q
      exact q
  · exact e0.hok.fresh (Nat.le_of_lt (x.above y c (PySem.mem_of_lookup h)))
  · unfold start
    show _ = N.length
    rw [List.length_append, List.length_map, List.length_replicate]
    omega
theorem fn_of {CX : CXT} {P : Program} {w : World} {K : PySem.W.Frag} {mg : Str → Option Value} {base : Heap} {k : Nat} {f : Addr} {name qual : Str} {params : Arguments} {body : List Stmt} {scope : Scope} {dV kV doc pm cdv ct oc : Value} {an od : Option Addr}
    {osl : Array (Option Value)} {N ps : List Str} {sp : Sp} (lk : K.lookup f = some ⟨oc, od, .func (PySem.W.fnOf name qual params body scope dV kV doc pm an cdv ct), osl⟩) (hcd : PySem.W.codeIn K cdv qual = true) (S : FnScope N ps scope)
    (len : ∀ vs H Q E, sp vs H Q E → vs.length = ps.length)
    (hbody : ∀ (A : Around) (outer : List Env) (s : Shared) (H : Hp) (vs : List V) (Q : VK) (E : XK), Room k (A.deeper (envOfC qual scope s.heap.objs.size f cdv)) → sp vs H Q E →
      ∃ t, PSs (cxOf CX P w K mg base N qual scope f cdv A outer s H E) body t ∧ t { nx := fun _ H' => Q .non H', rt := Q } (start N vs) H) :
    FnOk P w K mg base CX (k + 1) f (PySem.W.fnOf name qual params body scope dV kV doc pm an cdv ct) ps sp := by
  refine ⟨len, fun A outer s H args us vs Q E hr e0 hb r hsp => ?_⟩
  have hl := len _ _ _ _ hsp
  have KX : K.In s.heap := e0.mod.kin.keeps fun b o e => (e0.bs b o e).1
  have lim : s.heap.NoLimit := e0.mod.nolimit.keeps fun b o e => (e0.bs b o e).1
  have hkind : ∀ y ∈ ps.zip us, scope.names.lookup y.1 = some .local ∨ (scope.names.lookup y.1 = some .cell ∧ ((cellsFrom (s.heap.objs.size + 1) scope.names []).lookup y.1).isSome = true) := fun ⟨n, v⟩ hy => by
    rcases S.par n (List.of_mem_zip hy).1 with q | q
    · exact .inl q
    · exact .inr ⟨q, PySem.W.cellsFrom_some _ _ _ (.inl q)⟩
  refine codeAny_call_function hr.depth (KX _ _ lk) rfl S.co S.gen rfl (PySem.W.codeRec_of KX hcd) (hb _ _ _ _ ?_)
  refine wpAny_newFunctionEnv_cells S.kind hkind fun env he s1 x => ?_
  subst he
  refine ⟨lim.keeps x.toInCall.keep, codeAny_func ?_⟩
  obtain ⟨t, ht, hq⟩ := hbody A outer s H vs Q E (hr.deeper _) hsp
  have I : Inv (cxOf CX P w K mg base N qual scope f cdv A outer s H E) [] (start N vs) H s1 := inv_start S hr.hd e0 hl r x
  refine wpAny_mono (ht [] s1 (start N vs) H _ I hq) (fun fl s' hs => ?_) fun e s' hs => hs
  have fin : ∀ {σ' : St} {H' : Hp} {v : V} {u : Value}, Inv (cxOf CX P w K mg base N qual scope f cdv A outer s H E) [] σ' H' s' → RelV v u → Q v H' → CE outer P w H s Q u s' :=
    fun {σ' H' v u} J rv q => ⟨v, H', J.os, J.bare, J.base, J.hok, rv, q⟩
  cases fl with
  | ret u =>
    obtain ⟨v, σ', H', J, rv, q⟩ := hs
    exact fin J rv q
  | next =>
    obtain ⟨σ', H', J, q⟩ := hs
    exact fin (v := V.non) (u := Value.none) J rfl q
  | brk =>
    obtain ⟨_, _, _, q⟩ := hs
    exact False.elim q
  | cont =>
    obtain ⟨_, _, _, q⟩ := hs
    exact False.elim q
section
variable {X : Cx} {x : Str} {p pos : Pos} {e : Expr} {es : List Expr} {t : TA} {id T : String} {r : List V → Hp → VK → Prop}
def tCB (r : List V → Hp → VK → Prop) (t : TA) : TE := fun σ H Q => t σ H fun vs H1 => r vs H1 Q
theorem pe_callB (hc : CallR X (.builtin id) r) (hg : Gl X x) (hm : X.mg x = none) (hv : bootBuiltins x = some (.builtin id)) (ha : PA X (e :: es) t) (hn : x ≠ "__name__" := by decide) (hdb : (x == ("__debug__" : Str)) = false := by decide)
    (he : starEach (e :: es) X.env = (false, eval e X.env) :: starEach es X.env := by rfl) (hpl : (backTo pos (starEach es X.env)).any (·.1) = false := by rfl) : PE X (.Call (.Name x p) (e :: es) [] pos) (tCB r t) := by
  intro pins s σ H Q I h
  refine wpAny_Call_Name_kw (ld_blt I hg hm hv ?_ hn hdb)
  exact PyProof.Rows.callWith_builtin1 (thn (ha pos pins s σ H _ I h) fun us s1 ⟨vs, H1, I1, r1, q1⟩ => hc pins s1 σ H1 vs us Q I1 r1 q1) he hpl
theorem pe_callTy (hc : CallR X (.type T) r) (hg : Gl X x) (hm : X.mg x = none) (hv : bootBuiltins x = some (.type T)) (ha : PA X (e :: es) t) (hn : x ≠ "__name__" := by decide) (hdb : (x == ("__debug__" : Str)) = false := by decide)
    (he : starEach (e :: es) X.env = (false, eval e X.env) :: starEach es X.env := by rfl) (hpl : (backTo pos (starEach es X.env)).any (·.1) = false := by rfl) : PE X (.Call (.Name x p) (e :: es) [] pos) (tCB r t) := by
  intro pins s σ H Q I h
  refine wpAny_Call_Name_kw (ld_blt I hg hm hv ?_ hn hdb)
  exact PyProof.Rows.callWith_type1 (thn (ha pos pins s σ H _ I h) fun us s1 ⟨vs, H1, I1, r1, q1⟩ => hc pins s1 σ H1 vs us Q I1 r1 q1) he hpl
end
end L2
namespace HT
open PySem PyProof.Rows
def lexLt : List Int → List Int → Bool
  | [], [] => false
  | [], _ :: _ => true
  | _ :: _, [] => false
  | x :: xs, y :: ys => if x = y then lexLt xs ys else decide (x < y)
theorem lexLt_cons (x y : Int) (xs ys : List Int) : lexLt (x :: xs) (y :: ys) = if x = y then lexLt xs ys else decide (x < y) := rfl
theorem lexLt_nil_nil : lexLt [] [] = false := rfl
theorem lexLt_nil_cons (y : Int) (ys : List Int) : lexLt [] (y :: ys) = true := rfl
theorem lexLt_cons_nil (x : Int) (xs : List Int) : lexLt (x :: xs) [] = false := rfl
section
open PySem.SeqAt
open PySem.AutoSeq1 (wpAny_loadPart')
open PySem.MeetsSeq PySem.MeetsSeq2 PySem.MeetsSeq3
end
section
variable {prog : Program} {w : World} {A : Around} {E : Value → Shared → Prop} {s : Shared}
def sIx (n d : Nat) : Option Int → Nat
  | none => d
  | some v => if v < 0 then (v + (n : Int)).toNat else min v.toNat n
theorem sIx_none (n d : Nat) : sIx n d none = d := rfl
end
end HT
namespace L2
open PySem PySem.Spec PyProof.Rows
abbrev TO := St → Hp → (Option Int → Hp → Prop) → Prop
def PO (X : Cx) (e : Option Expr) (t : TO) : Prop :=
  ∀ (pins : List (Addr × Obj)) (s : Shared) (σ : St) (H : Hp) (Q : Option Int → Hp → Prop), Inv X pins σ H s → t σ H Q →
    wpAny (model X.prog X.w) X.A (evalPart e X.env) (fun u s' => ∃ o H', Inv X pins σ H' s' ∧ IsPart u o ∧ Q o H') X.xe s
def tNoPart : TO := fun _ H Q => Q none H
def tPart (t : TE) : TO := fun σ H Q => t σ H fun x H1 => ∃ i, x = .int i ∧ Q (some i) H1
section
variable {X : Cx} {e : Expr} {te : TE} {lo hi : Option Expr} {tl th : TO} {pos p2 : Pos}
theorem po_none : PO X none tNoPart := by
  intro pins s σ H Q I h
  rw [evalPart_none]
  exact wpAny_pure ⟨none, H, I, .none, h⟩
theorem po_some (h : PE X e te) : PO X (some e) (tPart te) := by
  intro pins s σ H Q I hw
  rw [evalPart_some]
  refine thn (h pins s σ H _ I hw) fun u s1 ⟨x, H1, I1, r1, q1⟩ => ?_
  obtain ⟨i, rfl, q⟩ := q1
  obtain ⟨t, rfl⟩ := r1
  exact ⟨some i, H1, I1, .int i t, q⟩
def SlR (X : Cx) (r : V → Option Int → Option Int → Hp → VK → Prop) : Prop :=
  ∀ (pins : List (Addr × Obj)) (s : Shared) (σ : St) (H : Hp) (x : V) (v vl vu : Value) (lo hi : Option Int) (sl : Addr) (Q : VK), Inv X pins σ H s → RelV x v → s.heap.IsSliceOf sl vl vu .none → IsPart vl lo → IsPart vu hi → r x lo hi H Q →
    ∃ T id, typeLookup (.type T) "__getitem__" = pure (some (.builtin id)) ∧ s.TypeIs v T ∧ wpAny (model X.prog X.w) X.A (getItem v (.ref sl)) (EP X pins σ Q) X.xe s
def tSl (r : V → Option Int → Option Int → Hp → VK → Prop) (te : TE) (tl th : TO) : TE := fun σ H Q => te σ H fun x H1 => tl σ H1 fun l H2 => th σ H2 fun u H3 => r x l u H3 Q
theorem pe_slice {r : V → Option Int → Option Int → Hp → VK → Prop} (hr : SlR X r) (he : PE X e te) (hl : PO X lo tl) (hu : PO X hi th) : PE X (.Subscript e (.Slice lo hi none p2) pos) (tSl r te tl th) := by
  intro pins s σ H Q I h
  refine Subscript_ (thn (he pins s σ H _ I h) fun v s1 ⟨x, H1, I1, r1, q1⟩ => ?_)
  refine wpAny_Slice (thn (hl pins s1 σ H1 _ I1 q1) fun vl s2 ⟨l, H2, I2, pl, q2⟩ => thn (hu pins s2 σ H2 _ I2 q2) fun vu s3 ⟨u, H3, I3, pu, q3⟩ => ?_)
  rw [evalPart_none]
  refine wpAny_pure ?_
  have I4 : Inv X pins σ H3 { s3 with heap := s3.heap.push { cls := .type "slice", data := .fields #[vl, vu, .none] } } := I3.kept (t' := s3.toks) fun b ob q => Heap.get?_push_of_some _ q
  obtain ⟨T, id, hT, ht, hg⟩ := hr pins { s3 with heap := s3.heap.push { cls := .type "slice", data := .fields #[vl, vu, .none] } } σ H3 x v vl vu l u s3.heap.objs.size Q I4 r1 (Heap.IsSliceOf.new ..) pl pu q3
  show wpAny (model X.prog X.w) X.A (subscriptTail e (.Slice lo hi none p2) v (.ref s3.heap.objs.size)) (EP X pins σ Q) X.xe { s3 with heap := s3.heap.push { cls := .type "slice", data := .fields #[vl, vu, .none] } }
  exact tail_any (ops := [.ref s3.heap.objs.size, v]) ht hT hg (by with_unfolding_all rfl)
def cutV (xs : List V) (lo hi : Option Int) : List V := (xs.drop (HT.sIx xs.length 0 lo)).take (HT.sIx xs.length xs.length hi - HT.sIx xs.length 0 lo)
theorem cutV_length (xs : List V) (lo hi : Option Int) : (cutV xs lo hi).length ≤ xs.length := by
  unfold cutV
  rw [List.length_take, List.length_drop]
  omega
end
def ixN (n : Nat) (i : Int) : Option Nat := if 0 ≤ i then (if i < n then some i.toNat else none) else if -(n : Int) ≤ i then some (i + n).toNat else none
def atI {α : Type} (xs : List α) (i : Int) : Option α := (ixN xs.length i).bind fun j => xs[j]?
theorem ixN_seq {n : Nat} {i : Int} {j : Nat} (h : ixN n i = some j) : seqIndex? i n = some j ∧ j < n ∧ -(n : Int) ≤ i ∧ i < n := by
  unfold ixN at h
  by_cases h0 : 0 ≤ i
  · rw [if_pos h0] at h
    by_cases h1 : i < n
    · rw [if_pos h1] at h
      have e : i.toNat = j := Option.some.inj h
      exact ⟨by rw [seqIndex_of h0 h1, e], by omega, by omega, h1⟩
    · rw [if_neg h1] at h; cases h
  · rw [if_neg h0] at h
    by_cases h1 : -(n : Int) ≤ i
    · rw [if_pos h1] at h
      have e : (i + n).toNat = j := Option.some.inj h
      exact ⟨by rw [seqIndex_neg (by omega) h1, e], by omega, h1, by omega⟩
    · rw [if_neg h1] at h; cases h
theorem atI_get {α : Type} {xs : List α} {i : Int} {v : α} (h : atI xs i = some v) : ∃ j, seqIndex? i xs.length = some j ∧ xs[j]? = some v ∧ j < xs.length ∧ -(xs.length : Int) ≤ i ∧ i < xs.length := by
  unfold atI at h
  cases e : ixN xs.length i with
  | none => rw [e] at h; cases h
  | some j =>
    rw [e] at h
    obtain ⟨h1, h2, h3, h4⟩ := ixN_seq e
    exact ⟨j, h1, h, h2, h3, h4⟩
theorem atI_nat {α : Type} {xs : List α} {j : Nat} {v : α} (h : xs[j]? = some v) : atI xs (j : Int) = some v := by
  have hj : j < xs.length := (List.getElem?_eq_some_iff.mp h).1
  have e : ixN xs.length (j : Int) = some j := by
    unfold ixN
    rw [if_pos (by omega), if_pos (by omega)]; simp
  unfold atI; rw [e]; exact h
def PlainIx (b : Expr) : Prop := ∀ o i, subscripted b false o i = operate [o, i] (getItem o i)
def IxR (X : Cx) (r : R2) : Prop :=
  ∀ (value slice : Expr) (pins : List (Addr × Obj)) (s : Shared) (σ : St) (H : Hp) (x y : V) (v u : Value) (Q : VK), Inv X pins σ H s → RelV x v → RelV y u → r x y H Q →
    subscripted slice false v u = operate [v, u] (getItem v u) → wpAny (model X.prog X.w) X.A (subscriptTail value slice v u) (EP X pins σ Q) X.xe s
def MtR (X : Cx) (id : String) (r : V → List V → Hp → VK → Prop) : Prop :=
  ∀ (pins : List (Addr × Obj)) (s : Shared) (σ : St) (H : Hp) (x : V) (xs : List V) (v : Value) (us : List Value) (Q : VK), Inv X pins σ H s → RelV x v → Vals xs us → r x xs H Q →
    wpAny (model X.prog X.w) X.A (call (.builtin id) (v :: us)) (EP X pins σ Q) X.xe s
section
variable {X : Cx} {a b : Expr} {ta tb : TE} {pos : Pos}
theorem pe_ix {r : R2} (hr : IxR X r) (ha : PE X a ta) (hb : PE X b tb) (hs : PlainIx b) : PE X (.Subscript a b pos) (tOp r ta tb) := by
  intro pins s σ H Q I h
  exact Subscript_ (binT ha hb I h fun v u s2 x y H2 I2 rx ry q => hr a b pins s2 σ H2 x y v u Q I2 rx ry q (hs _ _))
def rIxL (K : PySem.W.Frag) : R2 := fun x y H Q => ∃ p xs i v, x = .ref p ∧ y = .int i ∧ SqL K H p xs ∧ atI xs i = some v ∧ Q v H
def rIxT (K : PySem.W.Frag) : R2 := fun x y H Q => ∃ p xs i v, x = .ref p ∧ y = .int i ∧ SqT K H p xs ∧ atI xs i = some v ∧ Q v H
theorem ix_list : IxR X (rIxL X.K) := by
  intro value slice pins s σ H x y v u Q I rx ry h hs
  obtain ⟨p, xs, i, z, rfl, rfl, hq, he, q⟩ := h
  cases rx
  obtain ⟨t, rfl⟩ := ry
  obtain ⟨its, r, pl, hz⟩ := I.list hq
  obtain ⟨j, h1, h2, h3, h4, h5⟩ := atI_get he
  obtain ⟨w, ew, rw'⟩ := r.get h2
  have hl := r.length
  have hn := line63
  have fin : EP X pins σ Q w s := ⟨z, H, I, rw', q⟩
  by_cases h0 : 0 ≤ i
  · have hj : i.toNat = j := by
      rw [seqIndex_of h0 h5] at h1
      exact Option.some.inj h1
    exact item_listR pl.isList h0 (by omega) (by rw [hj]; simpa using ew) fin hs
  · have hj : (i + (its.toArray.size : Int)).toNat = j := by
      rw [seqIndex_neg (by omega) h4] at h1
      rw [List.size_toArray, ← hl]
      exact Option.some.inj h1
    exact subscriptTail_builtinR (x := w) pl.isList.typeIs slot_list_getitem.lookup
      (wpAny_getItem_list_neg (Q := fun r s' => r = w ∧ EP X pins σ Q r s') pl.isList (by omega) (by rw [List.size_toArray] <;> omega) (by omega) (by rw [hj]; simpa using ew) ⟨rfl, fin⟩) hs
theorem ix_tup : IxR X (rIxT X.K) := by
  intro value slice pins s σ H x y v u Q I rx ry h hs
  obtain ⟨p, xs, i, z, rfl, rfl, hq, he, q⟩ := h
  cases rx
  obtain ⟨t, rfl⟩ := ry
  obtain ⟨its, r, pl, hz⟩ := I.tuple hq
  obtain ⟨j, h1, h2, h3, h4, h5⟩ := atI_get he
  obtain ⟨w, ew, rw'⟩ := r.get h2
  have hl := r.length
  have hn := line63
  have fin : EP X pins σ Q w s := ⟨z, H, I, rw', q⟩
  exact subscriptTail_builtinR (x := w) pl.typeIs slot_tuple_getitem.lookup
    (getItem_tuple (j := j) (Q := fun r s' => r = w ∧ EP X pins σ Q r s') pl (by omega) (by omega) (by rw [List.size_toArray, ← hl]; exact h1) (by simpa using ew) ⟨rfl, fin⟩) hs
theorem mapSeq_set (its : List Value) (n j : Nat) (u : Value) : Obj.mapSeq (·.setIfInBounds j u) { cls := .type "list", data := .seq its.toArray n } = { cls := .type "list", data := .seq (its.set j u).toArray n } := by
  simp [Obj.mapSeq]
theorem Inv.lst {pins : List (Addr × Obj)} {σ : St} {H : Hp} {s : Shared} {p : Addr} {xs : List V} (I : Inv X pins σ H s) (h : H p = some (.lst xs)) :
    ∃ (its : List Value) (n : Nat), Vals xs its ∧ s.heap.get? p = some { cls := .type "list", data := .seq its.toArray n } ∧ xs.length ≤ sizeLine := by
  obtain ⟨z, its, n, r, e⟩ := I.hok p _ h
  exact ⟨its, n, r, e, z⟩
theorem Inv.lstUpd {pins : List (Addr × Obj)} {σ : St} {H : Hp} {s : Shared} {p : Addr} {xs ys : List V} {its its' : List Value} {n n' : Nat} {f : Obj → Obj} (I : Inv X pins σ H s) (h : H p = some (.lst xs))
    (ho : s.heap.get? p = some { cls := .type "list", data := .seq its.toArray n }) (hf : f { cls := .type "list", data := .seq its.toArray n } = { cls := .type "list", data := .seq its'.toArray n' }) (r : Vals ys its') (hz : ys.length ≤ sizeLine) (t : Nat) :
    Inv X pins σ (upd H p (.lst ys)) { s with heap := s.heap.update p f, toks := t } := by
  have e : (s.heap.update p f).get? p = some { cls := .type "list", data := .seq its'.toArray n' } := by
    rw [Heap.get?_update_self f ho (by rw [hf] <;> rfl), hf]
  refine I.write (x := p) (e := p) (by rw [h]; trivial) (.inl rfl) (fun b u hb q => (Heap.get?_update_other _ _ (Ne.symm hb)).trans q) ⟨_, e⟩ ?_
  exact ⟨hz, its', n', r, e⟩
def rSetL : V → V → V → Hp → (Hp → Prop) → Prop := fun o i v H Q => ∃ p xs k j, o = .ref p ∧ i = .int k ∧ H p = some (.lst xs) ∧ ixN xs.length k = some j ∧ Q (upd H p (.lst (xs.set j v)))
theorem set_list : PSet X rSetL := by
  intro pins s σ H o i v ov iv u Q I ro ri rv h
  obtain ⟨p, xs, k, j, rfl, rfl, hp, hj, q⟩ := h
  cases ro
  obtain ⟨t, rfl⟩ := ri
  obtain ⟨its, n, r, ho, hz⟩ := I.lst hp
  obtain ⟨h1, h2, h3, h4⟩ := ixN_seq hj
  have hl := r.length
  have hn := line63
  have I' : Inv X pins σ (upd H p (.lst (xs.set j v))) { s with heap := s.heap.update p (Obj.mapSeq (·.setIfInBounds j u)) } :=
    I.lstUpd hp ho (mapSeq_set its n j u) (r.set rv j) (by rw [List.length_set]; exact hz) s.toks
  by_cases h0 : 0 ≤ k
  · have hk : k.toNat = j := by
      rw [seqIndex_of h0 h4] at h1
      exact Option.some.inj h1
    exact PySem.W.ki_setAt ho h0 (by omega) (by rw [List.size_toArray, ← hl]; exact h4) (by rw [hk]; exact ⟨_, I', q⟩)
  · have hk : (k + (its.toArray.size : Int)).toNat = j := by
      rw [seqIndex_neg (by omega) h3] at h1
      rw [List.size_toArray, ← hl]
      exact Option.some.inj h1
    exact PySem.W.ki_setBack ho (by omega) (by rw [List.size_toArray, ← hl]; exact h3) (by omega) (by rw [hk]; exact ⟨_, I', q⟩)
theorem slice_bounds (lo hi : Option Int) (n : Nat) : (sliceBounds lo hi none n).1 = ((HT.sIx n 0 lo : Nat) : Int) ∧ (sliceBounds lo hi none n).2.1 = ((HT.sIx n n hi : Nat) : Int) ∧ (sliceBounds lo hi none n).2.2 = 1 := by
  refine ⟨?_, ?_, rfl⟩
  · cases lo with
    | none => simp [sliceBounds, HT.sIx]
    | some i =>
      simp only [sliceBounds, HT.sIx, Option.getD_none, show (1 : Int) > 0 by decide, if_true]
      by_cases h : i < 0
      · simp only [h, if_true] <;> omega
      · simp only [h, if_false] <;> omega
  · cases hi with
    | none => simp [sliceBounds, HT.sIx]
    | some i =>
      simp only [sliceBounds, HT.sIx, Option.getD_none, show (1 : Int) > 0 by decide, if_true]
      by_cases h : i < 0
      · simp only [h, if_true] <;> omega
      · simp only [h, if_false] <;> omega
theorem slicePick_cut (its : List Value) (lo hi : Option Int) : slicePick its.toArray lo hi none = ((its.drop (HT.sIx its.length 0 lo)).take (HT.sIx its.length its.length hi - HT.sIx its.length 0 lo)).toArray := by
  obtain ⟨h1, h2, h3⟩ := slice_bounds lo hi its.toArray.size
  unfold slicePick
  rw [h1, h2, h3]
  simp only [sliceRange_one, pick_run, List.size_toArray] <;> rfl
def rSlL (K : PySem.W.Frag) : V → Option Int → Option Int → Hp → VK → Prop := fun x lo hi H Q => ∃ a xs, x = .ref a ∧ SqL K H a xs ∧ ∀ p, H p = none → Q (.ref p) (upd H p (.lst (cutV xs lo hi)))
theorem sl_list : SlR X (rSlL X.K) := by
  intro pins s σ H x v vl vu lo hi sl Q I rx hs pl pu h
  obtain ⟨a, xs, rfl, hx, q⟩ := h
  cases rx
  obtain ⟨its, r, ht, hz⟩ := I.list hx
  have hlen := r.length
  refine ⟨"list", _, slot_list_getitem.lookup, ht.isList.typeIs, ?_⟩
  refine wpAny_getItem_list_slice ht.isList hs pl pu .none (by simp) ?_ (by rw [List.size_toArray] <;> omega)
  rw [slicePick_cut, ← hlen]
  refine ⟨.ref s.heap.objs.size, _, I.laid (t' := s.toks) (o := .lst (cutV xs lo hi)) (fun b ob q => Heap.get?_push_of_some _ q) (Nat.le_refl _) ?_, rfl, q _ (I.hok.fresh (Nat.le_refl _))⟩
  exact ⟨Nat.le_trans (cutV_length xs lo hi) hz, _, 0, (r.drop (HT.sIx xs.length 0 lo)).take (HT.sIx xs.length xs.length hi - HT.sIx xs.length 0 lo), Heap.get?_push_size _ rfl⟩
def flatV : V → Bool
  | .non => true
  | .bl _ => true
  | .int _ => true
  | .str _ => true
  | _ => false
def eqV : V → V → Bool
  | .non, .non => true
  | .bl a, .bl b => a == b
  | .bl a, .int b => (if a then 1 else 0) == b
  | .int a, .bl b => a == (if b then 1 else 0)
  | .int a, .int b => a == b
  | .str a, .str b => a == b
  | _, _ => false
theorem eqAt_V {A : Around} {s : Shared} {y x : V} {u v : Value} (ry : RelV y u) (rx : RelV x v) (fy : flatV y = true) (fx : flatV x = true) : SeqAt.EqAt A s u v (eqV y x) := by
  cases y with
  | non =>
    cases ry
    cases x with
    | non => cases rx; exact SeqAt.EqAt.same _
    | bl b => cases rx; exact SeqAt.EqAt.none_bool b
    | int b => obtain ⟨t, rfl⟩ := rx; exact SeqAt.EqAt.none_int b t
    | str b => obtain ⟨t, rfl⟩ := rx; exact SeqAt.EqAt.none_str b t
    | _ => exact absurd (show false = true from fx) Bool.false_ne_true
  | bl a =>
    cases ry
    cases x with
    | non => cases rx; exact SeqAt.EqAt.bool_none a
    | bl b => cases rx; exact SeqAt.EqAt.bool_bool a b
    | int b => obtain ⟨t, rfl⟩ := rx; exact SeqAt.EqAt.bool_int a b t
    | str b => obtain ⟨t, rfl⟩ := rx; exact SeqAt.EqAt.bool_str a b t
    | _ => exact absurd (show false = true from fx) Bool.false_ne_true
  | int a =>
    obtain ⟨t', rfl⟩ := ry
    cases x with
    | non => cases rx; exact SeqAt.EqAt.int_none a t'
    | bl b => cases rx; exact SeqAt.EqAt.int_bool a t' b
    | int b => obtain ⟨t, rfl⟩ := rx; exact SeqAt.EqAt.int_int a t' b t
    | str b => obtain ⟨t, rfl⟩ := rx; exact SeqAt.EqAt.int_str a t' b t
    | _ => exact absurd (show false = true from fx) Bool.false_ne_true
  | str a =>
    obtain ⟨t', rfl⟩ := ry
    cases x with
    | non => cases rx; exact SeqAt.EqAt.str_none a t'
    | bl b => cases rx; exact SeqAt.EqAt.str_bool a t' b
    | int b => obtain ⟨t, rfl⟩ := rx; exact SeqAt.EqAt.str_int a t' b t
    | str b => obtain ⟨t, rfl⟩ := rx; exact SeqAt.EqAt.str_str a t' b t
    | _ => exact absurd (show false = true from fx) Bool.false_ne_true
  | _ => exact absurd (show false = true from fy) Bool.false_ne_true
def eqU (x : V) (u : Value) : Bool := match u with
  | .none => eqV .non x
  | .bool b => eqV (.bl b) x
  | .int i _ => eqV (.int i) x
  | .str z _ => eqV (.str z) x
  | _ => false
theorem eqU_of {x y : V} {u : Value} (r : RelV y u) (f : flatV y = true) : eqU x u = eqV y x := by
  cases y with
  | non => cases r; rfl
  | bl b => cases r; rfl
  | int i => obtain ⟨t, rfl⟩ := r; rfl
  | str z => obtain ⟨t, rfl⟩ := r; rfl
  | _ => exact absurd (show false = true from f) Bool.false_ne_true
theorem any_eqU {x : V} : ∀ {xs : List V} {us : List Value}, Vals xs us → xs.all flatV = true → us.any (eqU x) = xs.any fun y => eqV y x
  | _, _, .nil, _ => rfl
  | y :: xs, u :: us, .cons r t, f => by
    rw [List.all_cons, Bool.and_eq_true] at f
    rw [List.any_cons, List.any_cons, eqU_of r f.1, any_eqU t f.2]
theorem mem_eqAt {A : Around} {s : Shared} {x : V} {v : Value} (rx : RelV x v) (fx : flatV x = true) : ∀ {xs : List V} {us : List Value}, Vals xs us → xs.all flatV = true → ∀ u ∈ us, SeqAt.EqAt A s u v (eqU x u)
  | _, _, .nil, _ => fun u hu => by cases hu
  | y :: xs, u :: us, .cons r t, f => fun u' hu => by
    rw [List.all_cons, Bool.and_eq_true] at f
    rcases List.mem_cons.mp hu with rfl | hu
    · rw [eqU_of r f.1]; exact eqAt_V r rx f.1 fx
    · exact mem_eqAt rx fx t f.2 u' hu
def inV (x : V) (xs : List V) : Bool := xs.any fun y => eqV y x
def rIn (K : PySem.W.Frag) (neg : Bool) : R2 := fun x y H Q => ∃ p xs, y = .ref p ∧ (SqL K H p xs ∨ SqT K H p xs) ∧ flatV x = true ∧ xs.all flatV = true ∧ Q (.bl (if neg then !inV x xs else inV x xs)) H
theorem op_in_seq : OpR X (compareOp .In) (rIn X.K false) := by
  intro pins s σ H x y v u Q I rx ry h
  obtain ⟨p, xs, rfl, hq, fx, fs, q⟩ := h
  cases ry
  rcases hq with hq | hq
  · obtain ⟨its, r, pl, hz⟩ := I.list hq
    refine SeqAt.in_listAt (eqU x) pl.isList (fun w hw => mem_eqAt rx fx r fs w (by simpa using hw)) ⟨.bl _, H, I, rfl, ?_⟩
    rw [show its.toArray.any (eqU x) = its.any (eqU x) by simp, any_eqU r fs]
    exact q
  · obtain ⟨its, r, pl, hz⟩ := I.tuple hq
    refine SeqAt.in_tupleAt (eqU x) pl (fun w hw => mem_eqAt rx fx r fs w (by simpa using hw)) ⟨.bl _, H, I, rfl, ?_⟩
    rw [show its.toArray.any (eqU x) = its.any (eqU x) by simp, any_eqU r fs]
    exact q
theorem op_notIn_seq : OpR X (compareOp .NotIn) (rIn X.K true) := by
  intro pins s σ H x y v u Q I rx ry h
  obtain ⟨p, xs, rfl, hq, fx, fs, q⟩ := h
  cases ry
  rcases hq with hq | hq
  · obtain ⟨its, r, pl, hz⟩ := I.list hq
    refine SeqAt.notIn_listAt (eqU x) pl.isList (fun w hw => mem_eqAt rx fx r fs w (by simpa using hw)) ⟨.bl _, H, I, rfl, ?_⟩
    rw [show its.toArray.any (eqU x) = its.any (eqU x) by simp, any_eqU r fs]
    exact q
  · obtain ⟨its, r, pl, hz⟩ := I.tuple hq
    refine SeqAt.notIn_tupleAt (eqU x) pl (fun w hw => mem_eqAt rx fx r fs w (by simpa using hw)) ⟨.bl _, H, I, rfl, ?_⟩
    rw [show its.toArray.any (eqU x) = its.any (eqU x) by simp, any_eqU r fs]
    exact q
theorem call_len_seq : CallR X (.builtin "len") (fun xs H Q => ∃ p ys, xs = [.ref p] ∧ (SqL X.K H p ys ∨ SqT X.K H p ys) ∧ Q (.int ys.length) H) := by
  intro pins s σ H xs us Q I r h
  obtain ⟨p, ys, rfl, hq, q⟩ := h
  obtain ⟨u, rfl, rx⟩ := vals1 r
  cases rx
  have hn := line63
  rcases hq with hq | hq
  · obtain ⟨its, r', pl, hz⟩ := I.list hq
    have hlen := r'.length
    exact Calls.call_len_list pl.isList (by simp only [List.size_toArray] <;> omega) ⟨.int ys.length, H, I.tok _, ⟨s.toks + 1, by rw [List.size_toArray, hlen]⟩, q⟩
  · obtain ⟨its, r', pl, hz⟩ := I.tuple hq
    have hlen := r'.length
    exact len_tuple pl (by simp only [List.size_toArray] <;> omega) ⟨.int ys.length, H, I.tok _, ⟨s.toks + 1, by rw [List.size_toArray, hlen]⟩, q⟩
theorem call_list_of : CallR X (.type "list") (fun xs H Q => ∃ p ys, xs = [.ref p] ∧ (SqL X.K H p ys ∨ SqT X.K H p ys) ∧ ∀ l, H l = none → Q (.ref l) (upd H l (.lst ys))) := by
  intro pins s σ H xs us Q I r h
  obtain ⟨p, ys, rfl, hq, q⟩ := h
  obtain ⟨u, rfl, rx⟩ := vals1 r
  cases rx
  have fin : ∀ (its : List Value), Vals ys its → ys.length ≤ sizeLine → ∀ (h' : Heap) (c' : Nat), (∀ b o', s.heap.get? b = some o' → h'.get? b = some o') →
      h'.get? s.heap.objs.size = some { cls := .type "list", dict := none, data := .seq its.toArray c', slots := #[] } → EP X pins σ Q (.ref s.heap.objs.size) { s with heap := h' } := fun its r' hz h' c' kp e =>
    ⟨.ref s.heap.objs.size, _, I.laid (t' := s.toks) kp (Nat.le_refl _) (show ObjOk X.prog X.w _ h' _ (.lst ys) from ⟨hz, its, c', r', e⟩), rfl, q _ (I.hok.fresh (Nat.le_refl _))⟩
  rcases hq with hq | hq
  · obtain ⟨its, r', pl, hz⟩ := I.list hq
    have hlen := r'.length
    obtain ⟨o, ho, hc, n, hd⟩ := pl.isList
    exact call_list_seq p (.inl rfl) ho hc hd (fun h' c' kp e => fin its r' hz h' c' kp e) (by simp only [List.size_toArray] <;> omega)
  · obtain ⟨its, r', pl, hz⟩ := I.tuple hq
    have hlen := r'.length
    obtain ⟨o, ho, hc, n, hd⟩ := pl
    exact call_list_seq p (.inr rfl) ho hc hd (fun h' c' kp e => fin its r' hz h' c' kp e) (by simp only [List.size_toArray] <;> omega)
def tyV (K : PySem.W.Frag) (T : String) (x : V) (H : Hp) : Prop := match x with
  | .str _ => T = "str"
  | .int _ => T = "int"
  | .ref p => (T = "list" ∧ ∃ xs, SqL K H p xs) ∨ (T = "tuple" ∧ ∃ o, K.lookup p = some o ∧ o.cls = .type "tuple" ∧ o.dict = none) ∨
      (T = "dict" ∧ ((∃ kvs, H p = some (.dK kvs)) ∨ ∃ kvs, H p = some (.dT kvs))) ∨ (T = "set" ∧ ∃ S n, H p = some (.set S n))
  | _ => False
theorem tyV_is {pins : List (Addr × Obj)} {σ : St} {H : Hp} {s : Shared} {T : String} {x : V} {v : Value} (I : Inv X pins σ H s) (r : RelV x v) (ty : tyV X.K T x H) :
    s.TypeIs v T ∧ ∀ a, v = .ref a → ∃ ob, s.heap.get? a = some ob ∧ ob.dict = none := by
  cases x with
  | str z =>
    obtain ⟨t, rfl⟩ := r
    cases (show T = "str" from ty)
    exact ⟨typeIs_str s z t, fun _ e => nomatch e⟩
  | int i =>
    obtain ⟨t, rfl⟩ := r
    cases (show T = "int" from ty)
    exact ⟨typeIs_int s i t, fun _ e => nomatch e⟩
  | ref p =>
    cases r
    rcases ty with ⟨rfl, xs, hq⟩ | ⟨rfl, o, hk, hc, hd⟩ | ⟨rfl, hk⟩ | ⟨rfl, S, n, hk⟩
    · obtain ⟨its, _, pl, _⟩ := I.list hq
      refine ⟨pl.isList.typeIs, fun a e => ?_⟩
      cases e
      obtain ⟨o, n, e, c, hd, _⟩ := pl
      exact ⟨o, e, hd⟩
    · refine ⟨⟨o, I.kIn p o hk, hc⟩, fun a e => ?_⟩
      cases e
      exact ⟨o, I.kIn _ o hk, hd⟩
    · have z : ∃ o, s.heap.get? p = some o ∧ o.ExactDict := by
        rcases hk with ⟨kvs, hk⟩ | ⟨kvs, hk⟩
        · obtain ⟨_, _, _, _, o, _, _, e, ex, _⟩ := I.hok p _ hk
          exact ⟨o, e, ex⟩
        · obtain ⟨_, _, _, _, o, _, _, e, ex, _⟩ := I.hok p _ hk
          exact ⟨o, e, ex⟩
      obtain ⟨o, e, ex⟩ := z
      refine ⟨⟨o, e, ex.1⟩, fun a e2 => ?_⟩
      cases e2
      exact ⟨o, e, ex.2.1⟩
    · obtain ⟨o, _, _, _, e, ex, _⟩ := I.hok p _ hk
      refine ⟨⟨o, e, ex.1⟩, fun a e2 => ?_⟩
      cases e2
      exact ⟨o, e, ex.2.1⟩
  | _ => exact False.elim ty
def tBM0 (K : PySem.W.Frag) (T : String) (r : V → List V → Hp → VK → Prop) (to : TE) : TE := fun σ H Q => to σ H fun x H1 => tyV K T x H1 ∧ r x [] H1 Q
def tBM (K : PySem.W.Frag) (T : String) (r : V → List V → Hp → VK → Prop) (to : TE) (t : TA) : TE := fun σ H Q => to σ H fun x H1 => tyV K T x H1 ∧ t σ H1 fun xs H2 => r x xs H2 Q
variable {o e : Expr} {es : List Expr} {to : TE} {t : TA} {name : Str} {apos cpos : Pos} {T id : String} {r : V → List V → Hp → VK → Prop}
theorem pe_bm0 (pa : PlainAttrs T) (slot : Slot T name id) (hty : typeOf (.builtin id) = pure (.type "method_descriptor")) (hm : MtR X id r) (ho : PE X o to)
    (hbase : attributeBase o name X.env (eval o X.env) = eval o X.env := by rfl) (hline : (apos.endLine == cpos.line) = true := by rfl) : PE X (.Call (.Attribute o name apos) [] [] cpos) (tBM0 X.K T r to) := by
  intro pins s σ H Q I h
  refine wpAny_Call_method0_late hbase hline (thn (ho pins s σ H _ I h) fun v s1 ⟨x, H1, I1, r1, ty, q1⟩ => ?_)
  obtain ⟨h1, h2⟩ := tyV_is I1 r1 ty
  exact ⟨T, id, pa, slot, hty, h1, h2, Calls.callWith_builtin rfl (PySem.evalArgs_none (hm pins s1 σ H1 x [] v [] Q I1 r1 .nil q1))⟩
theorem pe_bm (pa : PlainAttrs T) (slot : Slot T name id) (hty : typeOf (.builtin id) = pure (.type "method_descriptor")) (hm : MtR X id r) (ho : PE X o to) (ha : PA X (e :: es) t)
    (hbase : attributeBase o name X.env (eval o X.env) = eval o X.env := by rfl)
    (hfew : ((backTo cpos (starEach (e :: es) X.env)).all (fun x => !x.1) && (backToKw cpos (keywordEach [] X.env)).all (fun x => x.1.isSome)
      && decide ((e :: es).length + ([] : List Keyword).length + (if ([] : List Keyword).isEmpty then 0 else 1) < 30)) = true := by rfl)
    (hline : (apos.endLine == cpos.line) = true := by rfl) (hs : starEach (e :: es) X.env = (false, eval e X.env) :: starEach es X.env := by rfl) (hplain : (backTo cpos (starEach es X.env)).any (·.1) = false := by rfl) :
    PE X (.Call (.Attribute o name apos) (e :: es) [] cpos) (tBM X.K T r to t) := by
  intro pins s σ H Q I h
  refine wpAny_Call_method_late hbase hfew hline rfl (thn (ho pins s σ H _ I h) fun v s1 ⟨x, H1, I1, r1, ty, q1⟩ => ?_)
  obtain ⟨h1, h2⟩ := tyV_is I1 r1 ty
  refine ⟨T, id, pa, slot, hty, h1, h2, ?_⟩
  have hA := ha cpos pins s1 σ H1 _ I1 q1
  rw [hs] at hA ⊢
  refine Calls.callWith_builtin (by show (false || (backTo cpos (starEach es X.env)).any (·.1)) = false; rw [hplain] <;> rfl) (Calls.evalArgs_plain ?_)
  exact thn hA fun us s2 ⟨vs, H2, I2, r2, q2⟩ => hm pins s2 σ H2 x vs v us Q I2 r1 r2 q2
end
def MtM (X : Cx) (id : String) (r : V → List V → Hp → VK → Prop) : Prop :=
  ∀ (pins : List (Addr × Obj)) (s : Shared) (σ : St) (H : Hp) (x : V) (xs : List V) (v : Value) (us : List Value) (Q : VK), Inv X pins σ H s → RelV x v → Vals xs us → r x xs H Q →
    wpAny (model X.prog X.w) X.A (call (.builtin id) (v :: us)) (EP X pins σ Q) X.xe s
theorem Vals.one : ∀ {x : V} {us : List Value}, Vals [x] us → ∃ u, us = [u] ∧ RelV x u
  | _, _, .cons r .nil => ⟨_, rfl, r⟩
theorem Vals.two : ∀ {x y : V} {us : List Value}, Vals [x, y] us → ∃ u v, us = [u, v] ∧ RelV x u ∧ RelV y v
  | _, _, _, .cons r (.cons q .nil) => ⟨_, _, rfl, r, q⟩
theorem Vals.zero : ∀ {us : List Value}, Vals [] us → us = []
  | _, .nil => rfl
theorem Vals.dropLast {xs : List V} {us : List Value} (h : Vals xs us) : Vals xs.dropLast us.dropLast := by
  induction h with
  | nil => exact .nil
  | cons r t ih =>
    cases t with
    | nil => exact .nil
    | cons q t' => exact .cons r ih
theorem Vals.rep {xs : List V} {us : List Value} (h : Vals xs us) : ∀ k : Nat, Vals (List.replicate k xs).flatten (List.replicate k us).flatten
  | 0 => .nil
  | k + 1 => by
    rw [List.replicate_succ, List.replicate_succ, List.flatten_cons, List.flatten_cons]
    exact Vals.append h (Vals.rep h k)
theorem erase_last {α : Type} (l : List α) : l.eraseIdx (l.length - 1) = l.dropLast := by
  induction l with
  | nil => rfl
  | cons a r ih =>
    cases r with
    | nil => rfl
    | cons b r =>
      have e : (a :: b :: r).length - 1 = ((b :: r).length - 1) + 1 := by
        have h1 : (a :: b :: r).length = r.length + 2 := rfl
        have h2 : (b :: r).length = r.length + 1 := rfl
        omega
      rw [e, List.eraseIdx_cons_succ, ih]
      all_goals rfl
theorem foldl_rep (its : List Value) : ∀ (k : Nat) (acc : List Value),
    List.foldl (fun x1 x2 => x1 ++ x2) acc.toArray (List.replicate k its.toArray) = (acc ++ (List.replicate k its).flatten).toArray
  | 0, acc => by simp
  | k + 1, acc => by
    have e : acc.toArray ++ its.toArray = (acc ++ its).toArray := by simp
    have e2 : (acc ++ its) ++ (List.replicate k its).flatten = acc ++ (List.replicate (k + 1) its).flatten := by
      rw [List.replicate_succ, List.flatten_cons, List.append_assoc]
    rw [← e2, ← foldl_rep its k (acc ++ its), ← e, List.replicate_succ, List.foldl_cons]
section
variable {X : Cx} {pins : List (Addr × Obj)} {σ : St} {H : Hp} {s : Shared} {l b : Addr} {xs ys zs : List V}
theorem Inv.lset {its its' : List Value} {n : Nat} {f : Array Value → Array Value} {t' : Nat} (I : Inv X pins σ H s) (hH : H l = some (.lst xs))
    (e : s.heap.get? l = some { cls := .type "list", data := .seq its.toArray n }) (hf : f its.toArray = its'.toArray) (hv : Vals ys its') (hz : ys.length ≤ sizeLine) :
    Inv X pins σ (upd H l (.lst ys)) { s with heap := s.heap.update l (Obj.mapSeq f), toks := t' } := by
  have q := PySem.IsL.update e f
  rw [hf] at q
  refine I.write (x := l) (e := l) (by rw [hH]; exact trivial) (.inl rfl) (fun b' u hb hu => (Heap.get?_update_other s.heap (Obj.mapSeq f) (Ne.symm hb)).trans hu) ⟨_, q⟩ ?_
  exact ⟨hz, its', _, hv, q⟩
theorem Inv.lnew {its : List Value} {t' : Nat} (I : Inv X pins σ H s) (hv : Vals ys its) (hz : ys.length ≤ sizeLine) :
    Inv X pins σ (upd H s.heap.objs.size (.lst ys)) { s with heap := s.heap.push { cls := .type "list", data := .seq its.toArray }, toks := t' } :=
  I.laid (fun _ _ q => Heap.get?_push_of_some _ q) (Nat.le_refl _) ⟨hz, its, 0, hv, Heap.get?_push_size _ rfl⟩
theorem Inv.fresh (I : Inv X pins σ H s) : H s.heap.objs.size = none := I.hok.fresh (Nat.le_refl _)
theorem Inv.lstM (I : Inv X pins σ H s) (hH : H l = some (.lst xs)) : xs.length ≤ sizeLine ∧ ∃ (its : List Value) (n : Nat), Vals xs its ∧ xs.length = its.length ∧ s.heap.get? l = some { cls := .type "list", data := .seq its.toArray n } := by
  obtain ⟨z, its, n, r, e⟩ := I.hok l _ hH
  exact ⟨z, its, n, r, r.length, e⟩
theorem notLongL {n : Nat} (h : n ≤ sizeLine) : Builtin.List.listTooLong n = false := by
  unfold Builtin.List.listTooLong
  exact decide_eq_false (by omega)
end
section
variable {X : Cx}
def rAppend : V → List V → Hp → VK → Prop := fun x vs H Q => ∃ l xs y, x = .ref l ∧ vs = [y] ∧ H l = some (.lst xs) ∧ xs.length < sizeLine ∧ Q .non (upd H l (.lst (xs ++ [y])))
theorem mt_append : MtM X "list.append" rAppend := by
  intro pins s σ H x vs v us Q I rx rv h
  obtain ⟨l, xs, y, rfl, rfl, hH, hz, q⟩ := h
  cases rx
  obtain ⟨u, rfl, ru⟩ := rv.one
  obtain ⟨z, its, n, r, hl, e⟩ := I.lstM hH
  refine call_meets F.slot_list_append ⟨_, e, rfl⟩ F.entry_list_append (F.args_list_append_2 _ _) (PySem.list_append l its.toArray n u (by rw [List.size_toArray]; omega)) ⟨e, ?_⟩
  refine ⟨.non, _, I.lset (its' := its ++ [u]) hH e (by simp) (r.append (.cons ru .nil)) ?_, rfl, q⟩
  rw [List.length_append, List.length_singleton]
  omega
def rExtend : V → List V → Hp → VK → Prop := fun x vs H Q => ∃ l b xs zs, x = .ref l ∧ vs = [.ref b] ∧ H l = some (.lst xs) ∧ H b = some (.lst zs) ∧ xs.length + zs.length ≤ sizeLine ∧ Q .non (upd H l (.lst (xs ++ zs)))
theorem mt_extend : MtM X "list.extend" rExtend := by
  intro pins s σ H x vs v us Q I rx rv h
  obtain ⟨l, b, xs, zs, rfl, rfl, hH, hB, hz, q⟩ := h
  cases rx
  obtain ⟨u, rfl, ru⟩ := rv.one
  cases ru
  obtain ⟨z, its, n, r, hl, e⟩ := I.lstM hH
  obtain ⟨z2, its2, n2, r2, hl2, e2⟩ := I.lstM hB
  have hsz : its.toArray.size + its2.toArray.size ≤ sizeLine := by rw [List.size_toArray, List.size_toArray]; omega
  have hlong : ¬ (!its.toArray.isEmpty && Builtin.List.listTooLong (its.toArray.size + its2.toArray.size)) = true := by
    rw [notLongL hsz, Bool.and_false]
    exact Bool.false_ne_true
  refine call_meets F.slot_list_extend ⟨_, e, rfl⟩ F.entry_list_extend (F.args_list_extend_2 _ _)
    (AutoSeq1.list_extend_list_list_0 l its.toArray n b its2.toArray n2 hlong (by rw [List.size_toArray]; omega) (by omega)) ⟨e, e2, ?_⟩
  refine ⟨.non, _, I.lset (its' := its ++ its2) hH e (by simp) (r.append r2) ?_, rfl, q⟩
  rw [List.length_append]
  omega
def rPop : V → List V → Hp → VK → Prop := fun x vs H Q => ∃ l xs y, x = .ref l ∧ vs = [] ∧ H l = some (.lst xs) ∧ xs[xs.length - 1]? = some y ∧ Q y (upd H l (.lst xs.dropLast))
theorem mt_pop : MtM X "list.pop" rPop := by
  intro pins s σ H x vs v us Q I rx rv h
  obtain ⟨l, xs, y, rfl, rfl, hH, hy, q⟩ := h
  cases rx
  have hus := rv.zero
  subst hus
  obtain ⟨z, its, n, r, hl, e⟩ := I.lstM hH
  obtain ⟨u, hu, ru⟩ := r.get hy
  have hy' : its.toArray[its.toArray.size - 1]? = some u := by
    show its.toArray[its.length - 1]? = some u
    rw [← Array.getElem?_toList, ← hl]
    exact hu
  refine call_meets F.slot_list_pop ⟨_, e, rfl⟩ F.entry_list_pop (F.args_list_pop_1 _) (MeetsSeq.list_pop_last l its.toArray n u hy' (by rw [List.size_toArray]; omega)) ⟨e, ?_⟩
  refine ⟨y, _, I.lset (its' := its.dropLast) hH e ?_ r.dropLast ?_, ru, q⟩
  · show its.toArray.eraseIdxIfInBounds (its.toArray.size - 1) = its.dropLast.toArray
    rw [List.size_toArray, List.eraseIdxIfInBounds_toArray, erase_last]
  · rw [List.length_dropLast]
    omega
def rCat : R2 := fun x y H Q => ∃ l b xs zs, x = .ref l ∧ y = .ref b ∧ H l = some (.lst xs) ∧ H b = some (.lst zs) ∧ xs.length + zs.length ≤ sizeLine ∧ ∀ p, H p = none → Q (.ref p) (upd H p (.lst (xs ++ zs)))
theorem op_cat : OpR X (binaryOp .Add) rCat := by
  intro pins s σ H x y v u Q I rx ry h
  obtain ⟨l, b, xs, zs, rfl, rfl, hH, hB, hz, q⟩ := h
  cases rx
  cases ry
  obtain ⟨z, its, n, r, hl, e⟩ := I.lstM hH
  obtain ⟨z2, its2, n2, r2, hl2, e2⟩ := I.lstM hB
  refine PySem.P.add_list e e2 ?_ (by rw [List.size_toArray, List.size_toArray]; omega)
  have ea : its.toArray ++ its2.toArray = (its ++ its2).toArray := by simp
  rw [ea]
  exact ⟨.ref _, _, I.lnew (t' := s.toks) (r.append r2) (by rw [List.length_append]; omega), rfl, q _ I.fresh⟩
def rRep : R2 := fun x y H Q => ∃ l k xs, x = .ref l ∧ y = .int k ∧ H l = some (.lst xs) ∧ -(2 ^ 63) ≤ k ∧ k < 2 ^ 63 ∧ xs.length * k.toNat ≤ sizeLine ∧
  ∀ p, H p = none → Q (.ref p) (upd H p (.lst (List.replicate k.toNat xs).flatten))
theorem len_rep {α : Type} (xs : List α) (k : Nat) : (List.replicate k xs).flatten.length = k * xs.length := by
  induction k with
  | zero => simp
  | succ k ih => rw [List.replicate_succ, List.flatten_cons, List.length_append, ih, Nat.succ_mul, Nat.add_comm]
theorem op_rep : OpR X (binaryOp .Mult) rRep := by
  intro pins s σ H x y v u Q I rx ry h
  obtain ⟨l, k, xs, rfl, rfl, hH, h1, h2, hz, q⟩ := h
  cases rx
  obtain ⟨t, rfl⟩ := ry
  obtain ⟨z, its, n, r, hl, e⟩ := I.lstM hH
  have hlen : its.toArray.size * k.toNat ≤ sizeLine := by rw [List.size_toArray, ← hl]; exact hz
  have hcap : ¬ its.toArray.size * k.toNat > (2 ^ 63 - 1) / 8 := by
    have : (sizeLine : Nat) ≤ (2 ^ 63 - 1) / 8 := by decide
    omega
  have hfit : ¬ (!Builtin.List.listFitsIndex k) = true := by
    rw [fitsIndex_both h1 h2]
    exact Bool.false_ne_true
  have hlong : ¬ Builtin.List.listTooLong (its.toArray.size * k.toNat) = true := by
    rw [notLongL hlen]
    exact Bool.false_ne_true
  have hnew : List.foldl (fun x1 x2 => x1 ++ x2) #[] (List.replicate (if its.toArray.isEmpty = true then 0 else k.toNat) its.toArray) = (List.replicate k.toNat its).flatten.toArray := by
    have f0 : ∀ m : Nat, List.foldl (fun x1 x2 => x1 ++ x2) #[] (List.replicate m its.toArray) = (List.replicate m its).flatten.toArray := fun m => by
      have := foldl_rep its m []
      rw [List.nil_append] at this
      exact this
    rw [f0]
    cases its with
    | nil => simp
    | cons a r' => rw [if_neg (by simp)]
  refine wpAny_binaryOp_repeat_ref (T := "list") (U := "int") (by decide) ⟨_, e, rfl⟩ (fun s' => typeIs_int s' k t) noFill_list_mul F.fills_int_mul F.slot_int_rmul repeat_list F.slot_int_index.lookup
    (call_meets F.slot_int_rmul (typeIs_int s k t) F.entry_int_rmul (F.args_int_rmul_2 _ _) (int___rmul___int_list k t l its.toArray n)
      ⟨e, rfl, ⟨_, e, rfl⟩, call_meets F.slot_list_mul ⟨_, e, rfl⟩ F.entry_list_mul (F.args_list_mul_2 _ _) (AutoListH.list___mul___list_int_3 l its.toArray n k t hfit hcap hlong) ⟨e, ?_⟩⟩)
  rw [hnew]
  exact ⟨.ref _, _, I.lnew (t' := s.toks) (r.rep k.toNat) (by rw [len_rep, Nat.mul_comm]; exact hz), rfl, q _ I.fresh⟩
end
section
variable {prog : Program} {w : World} {A : Around} {E : Value → Shared → Prop} {s : Shared}
end
section
variable {X : Cx}
end
end L2
namespace Att
open PySem PySem.W PySem.Calls PyProof.Rows
theorem ints_of_wellAll {P : Params} {h : Heap} : ∀ (ns : List Int) (vs : List Value), WellAll P h vs (ns.map WData.int) → IntsAre vs ns := by
  intro ns
  induction ns with
  | nil =>
    intro vs w
    rw [List.map_nil] at w
    cases w
    exact .nil
  | cons n ns ih =>
    intro vs w
    rw [List.map_cons] at w
    cases w with
    | cons a b =>
      cases a
      exact .cons _ _ (ih _ b)
theorem script_of {l : OpenLaw} {n : Nat} (hn : l.most = some n) {P : Params} {h : Heap} {args : List WData} {vals : List Value}
    (hpre : l.row.toRowW.claim.pre args = true) (hwl : WellAll P h vals args) :
    ∃ a vs ns, vals = [Value.ref a] ∧ args = [WData.list (ns.map WData.int)] ∧ h.get? a = some { cls := .type "list", data := .seq vs.toArray } ∧ IntsAre vs ns ∧ ns.length ≤ n := by
  have hsh : WShape.hasAll [] args [.list .int] = true := (pre_splitW hpre).1
  have hc : l.pre.holds [] { args := args } = true := (pre_splitW hpre).2
  obtain ⟨d, r, rfl, h1, h2⟩ := hasAllW_cons hsh
  obtain rfl := hasAllW_nil h2
  obtain ⟨xs, rfl, h3⟩ := hasW_list h1
  obtain ⟨ns, rfl⟩ := items_int h3
  have hlen : ns.length ≤ n := by
    unfold OpenLaw.pre at hc
    have h4 : (WTm.not (.lt (.lit (.int (n : Int))) (.len (.arg 0)))).holds [] { args := [.list (ns.map .int)] } = true := by
      have h4 := (holds_andW hc).1
      rw [hn] at h4
      exact h4
    have h5 := condW_of h4 (w_not (w_lt w_lit (w_len_list (w_arg rfl))))
    rw [List.length_map] at h5
    refine Nat.le_of_not_lt fun q => ?_
    have q' : (n : Int) < ((ns.length : Nat) : Int) := by omega
    first
      | (rw [decide_eq_true q'] at h5; exact absurd h5 (by decide))
      | (simp at h5; omega)
  cases hwl with
  | cons w1 w2 =>
    cases w2
    cases w1 with
    | list ho hall => exact ⟨_, _, ns, rfl, rfl, ho, ints_of_wellAll ns _ hall, hlen⟩
theorem post_true (l : OpenLaw) (args : List WData) : l.row.toRowW.claim.post args (.bool true) args = true :=
  postW_of (r := l.row.toRowW) (X := (true == true))
    (show WShape.has [] (.bool true) .bool = true by first | rfl | decide | simp [WShape.has, WShape.arms, WShape.armsAll])
    (show (WTm.eq .res (.lit (.bool true))).value [] { args := args, res := some (.bool true), after := args } = some (.bool (true == true)) from w_eq_bool (w_res rfl) w_lit) rfl
theorem attach_call {l : OpenLaw} {n : Nat} {q : Program} {loose : List Str} {XP : (Str → Option Value) → Heap → Prop} {YP : World → Heap → Prop} {d : DefRec}
    (hn : l.most = some n) (hdf : d.params.defaults = [])
    (call : ∀ (w : World) (s₀ s₁ : Shared) (mg mb : Str → Option Value) (fa : Addr) (o : Obj) (pm cd doc : Value) (a : Addr) (vs : List Value) (ns : List Int),
      Ground q loose [] XP w s₀ mg mb s₁.heap → YP w s₁.heap →
      s₁.heap.get? fa = some o → o.data = .func (docDef d.name d.params d.body d.scope pm cd doc) → s₁.heap.CodeRec cd d.name → mg d.name = some (.ref fa) →
      s₁.heap.get? a = some { cls := .type "list", data := .seq vs.toArray } → IntsAre vs ns → ns.length ≤ n → s₁.gens = #[] →
      codeAny (model l.prog w) callerA (.call (.ref fa) ⟨[.ref a], []⟩) (fun r s' => r = .ok (.ret (.bool true)) ∧ OldK s₁.heap s'.heap ∧ s'.os = s₁.os ∧ AllBare s'.gens) s₁) :
    WalkO q loose XP YP l.row.toRowW d [] (fun f vs => PySem.call f vs) := by
  intro w s₀ s₁ mg mb G Y fa o pm cd doc dV kV ho hd hcd hD hmg hg args vals as hpre hlay hrd hwl hlo
  obtain rfl : dV = .none := Dflts.none hD hdf
  obtain rfl : kV = .none := Dflts.noKw hD
  obtain ⟨a, vs, ns, rfl, rfl, hobj, hints, hlen⟩ := script_of hn hpre hwl
  refine enter_call (codeAny_mono (call w s₀ s₁ mg mb fa o pm cd doc a vs ns G Y ho (fd_plain hd) hcd hmg hobj hints hlen hg) fun r s' hq => ?_)
  obtain ⟨rfl, h2, h3, h4⟩ := hq
  exact ⟨.inl ⟨.bool true, .bool true, [], rfl, fun _ => rfl, .bool true, post_true l _, fun _ => ⟨List.Pairwise.nil, fun _ hm => (nomatch hm)⟩⟩, h2, h3, h4⟩
section
variable {prog : Program} {w : World} {A : Around} {E : Value → Shared → Prop} {s : Shared} {K : Frag}
end
end Att
namespace L2
open PySem PySem.Spec PyProof.Rows
theorem vals_ints : ∀ {vs : List Value} {ns : List Int}, IntsAre vs ns → Vals (ns.map V.int) vs
  | _, _, .nil => .nil
  | _, _, .cons n t h => .cons ⟨t, rfl⟩ (vals_ints h)
def Only (H : Hp) : Prop := ∀ b, H b = none ∨ ∃ o xs, H b = some (.frz o (.lst xs))
theorem law_call {P : Program} {w : World} {K : PySem.W.Frag} {mg mb : Str → Option Value} {CX : CXT} {k : Nat} {fa a : Addr} {fd : FuncData} {x : Str} {sp : Sp} {s₁ : Shared} {vs : List Value} {ns : List Int}
    (KX : K.In s₁.heap) (hns : s₁.heap.Ns mainGlobals mg) (hb : s₁.heap.Ns builtinsNs mb) (hbb : ∀ x : Str, x ≠ "__name__" → mb x = bootBuiltins x) (hlim : s₁.heap.NoLimit) (hg : s₁.gens = #[])
    (ha : s₁.heap.get? a = some { cls := .type "list", data := .seq vs.toArray }) (hi : IntsAre vs ns) (hl : ns.length ≤ sizeLine) (hr : Room k callerA)
    (F : ∀ base : Heap, K.In base → base.Ns mainGlobals mg → FnOk P w K mg base CX k fa fd [x] sp) (hbind : ∀ (s : Shared) (u : Value), BindsTo s fd ⟨[u], []⟩ [(x, u)])
    (hsp : ∀ H : Hp, Only H → SqL K H a (ns.map V.int) → sp [.ref a] H (fun v _ => v = .bl true) fun _ _ _ => False)
    (hCX : ∀ H e s', CX [] H s₁ (fun _ _ _ => False) e s' → False) :
    codeAny (model P w) callerA (.call (.ref fa) ⟨[.ref a], []⟩) (fun r s' => r = .ok (.ret (.bool true)) ∧ OldK s₁.heap s'.heap ∧ s'.os = s₁.os ∧ AllBare s'.gens) s₁ := by
  have rv := vals_ints hi
  have lenV := hi.length
  have core : ∀ H : Hp, Only H → SqL K H a (ns.map V.int) → HOk P w H s₁.heap → (∀ b, H b ≠ none → b = a) → (H a ≠ none → K.lookup a = none) →
      codeAny (model P w) callerA (.call (.ref fa) ⟨[.ref a], []⟩) (fun r s' => r = .ok (.ret (.bool true)) ∧ OldK s₁.heap s'.heap ∧ s'.os = s₁.os ∧ AllBare s'.gens) s₁ := by
    intro H hO hS hok hA hK
    have base_of : ∀ {b : Addr} {o : Obj}, s₁.heap.get? b = some o → H b = none → (hidT s₁.heap H).get? b = some o := fun e n => hidT_get e n
    have noA : ∀ {b : Addr} {o : Obj} {es : Array DictEntry} {ep : Nat}, s₁.heap.get? b = some o → o.data = .dict es ep → H b = none := fun {b o es ep} e d => by
      cases q : H b with
      | none => rfl
      | some u =>
        have e' : b = a := hA b (by rw [q]; simp)
        subst e'
        rw [ha] at e; cases e
        have d' : Data.seq vs.toArray _ = Data.dict es ep := d
        cases d'
    have nsK : ∀ {b : Addr} {m : Str → Option Value}, s₁.heap.Ns b m → (hidT s₁.heap H).Ns b m := fun {b m} ⟨o, es, ep, e, d, r⟩ => ⟨o, es, ep, base_of e (noA e d), d, r⟩
    have hKb : K.In (hidT s₁.heap H) := fun b o e => base_of (KX b o e) (by
      cases q : H b with
      | none => rfl
      | some u =>
        have e' : b = a := hA b (by rw [q]; simp)
        subst e'
        rw [hK (by rw [q]; simp)] at e; cases e)
    have hM : Mod K mg (hidT s₁.heap H) := ⟨hKb, nsK hns, ⟨mb, nsK hb, hbb⟩, let ⟨mc, h1, h2⟩ := hlim; ⟨mc, nsK h1, h2⟩⟩
    have e0 : Env0 P w K mg (hidT s₁.heap H) callerA [] s₁ H := ⟨rfl, hM, fun b o e => of_hidT e, Nat.le_of_eq (hidT_size _ _), trivial, fun b hb => absurd (show b ∈ ([] : List Addr) from hb) (by simp), hok, .of_eq hg⟩
    refine codeAny_mono ((F _ hKb (nsK hns)).run callerA [] s₁ H ⟨[.ref a], []⟩ [.ref a] [.ref a] _ _ hr e0 (hbind s₁ (.ref a)) (.cons rfl .nil) (hsp H hO hS)) fun r s' h => ?_
    cases r with
    | error e => exact (hCX H e s' h).elim
    | ok fl =>
      cases fl with
      | next => exact False.elim h
      | brk => exact False.elim h
      | cont => exact False.elim h
      | ret u =>
        obtain ⟨v, H', os, bare, un, hok', r', q⟩ := h
        have q' : v = .bl true := q
        subst q'
        obtain rfl : u = Value.bool true := r'
        refine ⟨rfl, OldK.of_keep fun b o e => ?_, os, bare⟩
        cases q : H b with
        | none => exact un.keep b o e q (by intro z; exact absurd (show b ∈ ([] : List Addr) from z) (by simp)) (by simp)
        | some u =>
          rcases hO b with z | ⟨ob, xs, z⟩
          · rw [q] at z; cases z
          · have z2 := un.frzs b ob _ z
            obtain ⟨e1, _⟩ := hok b _ z
            obtain ⟨e2, _⟩ := hok' b _ z2
            rw [e] at e1; cases e1
            exact e2
  cases hk : K.lookup a with
  | some o =>
    have e := KX a o hk
    rw [ha] at e
    cases e
    refine core (fun _ => none) (fun _ => .inl rfl) (.inr ⟨_, vs.toArray, _, hk, rfl, rfl, rfl, by rw [List.size_toArray, lenV]; exact hl, by simpa using rv⟩) (fun b u z => by have z' : (none : Option HO) = some u := z; cases z') (fun b z => absurd rfl z) fun z => absurd rfl z
  | none =>
    refine core (fun b => if b = a then some (.frz { cls := .type "list", data := .seq vs.toArray } (.lst (ns.map V.int))) else none) (fun b => ?_) (.inl (.inr ⟨{ cls := .type "list", data := .seq vs.toArray }, if_pos rfl⟩)) (fun b u z => ?_) (fun b z => ?_) fun _ => hk
    · by_cases hb : b = a
      · exact .inr ⟨_, _, if_pos hb⟩
      · exact .inl (if_neg hb)
    · by_cases hb : b = a
      · have z' := (if_pos hb).symm.trans z
        cases z'
        subst hb
        exact ⟨ha, by rw [List.length_map]; exact hl, vs, _, rv, ha⟩
      · have z' := (if_neg hb).symm.trans z
        cases z'
    · by_cases hb : b = a
      · exact hb
      · exact absurd (if_neg hb) z
theorem walk_of {l : PySem.W.OpenLaw} {n k : Nat} {q : Program} {loose : List Str} {XP : (Str → Option Value) → Heap → Prop} {YP : World → Heap → Prop} {d : DefRec} {K : Params → PySem.W.Frag} {CX : World → CXT} {sp : World → Sp} {x : Str}
    (hn : l.most = some n) (hn2 : n ≤ sizeLine) (hdf : d.params.defaults = []) (hr : Room k callerA)
    (hY : ∀ (w : World) (h : Heap), YP w h → (K w.params).In h)
    (F : ∀ (w : World) (mg : Str → Option Value) (fa : Addr) (h : Heap), (K w.params).In h → h.Ns mainGlobals mg → mg d.name = some (.ref fa) →
      ∃ fd : FuncData, (∀ (s : Shared) (u : Value), BindsTo s fd ⟨[u], []⟩ [(x, u)]) ∧
        ∀ base : Heap, (K w.params).In base → base.Ns mainGlobals mg → FnOk l.prog w (K w.params) mg base (CX w) k fa fd [x] (sp w))
    (hsp : ∀ (w : World) (H : Hp) (a : Addr) (ns : List Int), ns.length ≤ n → Only H → SqL (K w.params) H a (ns.map V.int) → sp w [.ref a] H (fun v _ => v = .bl true) fun _ _ _ => False)
    (hCX : ∀ (w : World) (H : Hp) (s : Shared) (e : Value) (s' : Shared), CX w [] H s (fun _ _ _ => False) e s' → False) :
    PySem.W.WalkO q loose XP YP l.row.toRowW d [] (fun f vs => PySem.call f vs) := by
  refine Att.attach_call hn hdf fun w s₀ s₁ mg mb fa o pm cd doc a vs ns G Y ho hd hcd hmg hobj hints hlen hg => ?_
  have KX := hY w _ Y
  obtain ⟨fd, hb, hF⟩ := F w mg fa _ KX G.T.g hmg
  exact law_call KX G.T.g G.T.b G.T.builtins G.T.nolimit hg hobj hints (Nat.le_trans hlen hn2) hr hF hb (fun H hO hS => hsp w H a ns hlen hO hS) fun H e s' => hCX w H s₁ e s'
def defArgs (s : Stmt) : Arguments := match s with
  | .FunctionDef _ a _ _ _ _ _ _ _ _ => a
  | _ => { posonlyargs := [], args := [], vararg := none, kwonlyargs := [], kw_defaults := [], kwarg := none, defaults := [] }
def defBody (s : Stmt) : List Stmt := match s with
  | .FunctionDef _ _ b _ _ _ _ _ _ _ => b
  | _ => []
def defScope (s : Stmt) : Scope := match s with
  | .FunctionDef _ _ _ _ _ _ sc _ _ _ => sc
  | _ => { kind := .function, names := [], isGenerator := false, isCoroutine := false }
abbrev CX0 : CXT := fun _ _ _ _ _ _ => False
abbrev E0 : XK := fun _ _ _ => False
theorem pass0 {X : Cx} : Passes CX0 X E0 := fun _ _ _ _ _ _ _ h => h.elim
structure Fun (K : PySem.W.Frag) (x qual : Str) (st : Stmt) (f : Addr) (fd : FuncData) : Prop where
  ex : ∃ (oc : Value) (od : Option Addr) (kV doc pm : Value) (an : Option Addr) (cdv ct : Value) (osl : Array (Option Value)),
    fd = PySem.W.fnOf x qual (defArgs st) (defBody st) (defScope st) .none kV doc pm an cdv ct ∧ K.lookup f = some ⟨oc, od, .func fd, osl⟩ ∧ PySem.W.codeIn K cdv qual = true
  kp : PySem.W.keepIn K (.ref f) = true
section
variable {P : Program} {w : World} {K : PySem.W.Frag} {mg : Str → Option Value} {base : Heap}
theorem Fun.ok {x qual : Str} {st : Stmt} {f : Addr} {fd : FuncData} {N ps : List Str} {k : Nat} {sp : Sp} (F : Fun K x qual st f fd) (S : FnScope N ps (defScope st)) (len : ∀ vs H Q E, sp vs H Q E → vs.length = ps.length)
    (hbody : ∀ (cdv : Value) (A : Around) (outer : List Env) (s : Shared) (H : Hp) (vs : List V) (Q : VK) (E : XK), Room k (A.deeper (envOfC qual (defScope st) s.heap.objs.size f cdv)) → sp vs H Q E →
      ∃ t, PSs (cxOf CX0 P w K mg base N qual (defScope st) f cdv A outer s H E).nox (defBody st) t ∧ t { nx := fun _ H' => Q .non H', rt := Q } (start N vs) H) : FnOk P w K mg base CX0 (k + 1) f fd ps sp := by
  obtain ⟨oc, od, kV, doc, pm, an, cdv, ct, osl, rfl, lk, hcd⟩ := F.ex
  refine fn_of lk hcd S len fun A outer s H vs Q E hr hsp => ?_
  obtain ⟨t, h, q⟩ := hbody cdv A outer s H vs Q E hr hsp
  exact ⟨t, h.nox, q⟩
theorem Fun.binds {x qual : Str} {st : Stmt} {f : Addr} {fd : FuncData} {ps : List Str} (F : Fun K x qual st f fd)
    (h : ∀ (kV doc pm : Value) (an : Option Addr) (cdv ct : Value) (us : List Value), us.length = ps.length → bindArgs (PySem.W.fnOf x qual (defArgs st) (defBody st) (defScope st) .none kV doc pm an cdv ct) ⟨us, []⟩ = pure (ps.zip us)) : Binds K fd ps [] := by
  obtain ⟨oc, od, kV, doc, pm, an, cdv, ct, osl, rfl, lk, hcd⟩ := F.ex
  exact .all (h kV doc pm an cdv ct)
theorem fun_mk {x qual : Str} {st : Stmt} {f : Addr} {oc : Value} {od an : Option Addr} {osl : Array (Option Value)} {kV doc pm cdv ct : Value} (l : K.lookup f = some ⟨oc, od, .func (PySem.W.fnOf x qual (defArgs st) (defBody st) (defScope st) .none kV doc pm an cdv ct), osl⟩)
    (c : PySem.W.codeIn K cdv qual = true) (k : PySem.W.keepIn K (.ref f) = true) : Fun K x qual st f (PySem.W.fnOf x qual (defArgs st) (defBody st) (defScope st) .none kV doc pm an cdv ct) := ⟨⟨oc, od, kV, doc, pm, an, cdv, ct, osl, rfl, l, c⟩, k⟩
end
theorem small1000 {n : Nat} (h : n ≤ 1000) : n < sizeLine := Nat.lt_of_le_of_lt h (by decide)
section
variable {X : Cx}
theorem pv (i : Nat) {x : Str} {pos : Pos} (hN : X.N[i]? = some x := by rfl) (hv : Vis X.env.scope x := by first | exact Or.inl rfl | exact Or.inr (Or.inl rfl) | exact Or.inr (Or.inr rfl)) (hd : (x == ("__debug__" : Str)) = false := by decide)
    (hcd : (x == ("__classdict__" : Str)) = false := by decide) : PE X (.Name x pos) (tVar i) := pe_var hN hv hd hcd
end
theorem iteF {A B : Prop} (h : B) : if false = true then A else B := by
  rw [if_neg Bool.false_ne_true]
  exact h
theorem iteT {A B : Prop} (h : A) : if true = true then A else B := by
  rw [if_pos rfl]
  exact h
theorem ite2 {c A B : Prop} [Decidable c] (h1 : c → A) (h2 : ¬ c → B) : if c then A else B := by
  by_cases h : c
  · rw [if_pos h]
    exact h1 h
  · rw [if_neg h]
    exact h2 h
def Same (H H' : Hp) : Prop := ∀ b o, H b = some o → H' b = some o
theorem Same.refl (H : Hp) : Same H H := fun _ _ h => h
theorem Same.trans {H H1 H2 : Hp} (a : Same H H1) (b : Same H1 H2) : Same H H2 := fun c o h => b c o (a c o h)
theorem Same.free {H H' : Hp} (e : Same H H') {l : Addr} (h : H' l = Option.none) : H l = Option.none := by
  cases q : H l with
  | none => rfl
  | some o =>
    rw [e l o q] at h
    cases h
theorem Same.seq {K : PySem.W.Frag} {H H' : Hp} {a : Addr} {xs : List V} (e : Same H H') (h : SqL K H a xs) : SqL K H' a xs := by
  rcases h with (h | ⟨o, h⟩) | h
  · exact .inl (.inl (e _ _ h))
  · exact .inl (.inr ⟨o, e _ _ h⟩)
  · exact .inr h
end L2
set_option Elab.async false
set_option linter.all false
set_option maxRecDepth 100000
set_option maxHeartbeats 4000000
namespace L2
open PySem PySem.Spec PyProof.Rows
def Cx.comp (X : Cx) (N' : List Str) (scope : Scope) (cl : List (Str × Addr)) (C : Addr) (s2 : Shared) (H2 : Hp) (ex : List Addr) : Cx :=
  { X with N := N', s₀ := s2, H₀ := H2, env := compEnvC scope cl C X.env, outer := X.stack, ex := ex, fn := fun _ => false, pn := [], xe := fun _ _ => False }
theorem closure_go {env : Env} : ∀ (names : List (Str × NameKind)) (acc : List (Str × Addr)), (∀ y ∈ names, y.2 = .free → ∃ c, env.cells.lookup y.1 = some c) →
    (∀ x c, acc.lookup x = some c → env.cells.lookup x = some c) →
    ∃ cl, (forIn names acc fun (x : Str × NameKind) (cs : List (Str × Addr)) => (match x with
      | (name, kind) => if (kind == NameKind.free) = true then do let c ← cellOf env name; pure (ForInStep.yield ((name, c) :: cs)) else pure (ForInStep.yield cs) : Sem (ForInStep (List (Str × Addr))))) = pure cl ∧
      (∀ x c, cl.lookup x = some c → env.cells.lookup x = some c) ∧ (∀ x c, acc.lookup x = some c → cl.lookup x = some c) ∧
      (∀ x, (x, NameKind.free) ∈ names → ∃ c, cl.lookup x = some c)
  | [], acc, _, h2 => ⟨acc, rfl, h2, fun _ _ h => h, fun _ h => nomatch h⟩
  | (n, k) :: r, acc, h1, h2 => by
    rw [List.forIn_cons]
    dsimp only
    by_cases hk : (k == NameKind.free) = true
    · have hk' : k = NameKind.free := by simpa using hk
      obtain ⟨c, hc⟩ := h1 (n, k) List.mem_cons_self hk'
      have e : cellOf env n = pure c := by unfold cellOf; rw [hc]
      obtain ⟨cl, e1, e2, e3, e4⟩ := closure_go r ((n, c) :: acc) (fun y hy => h1 y (List.mem_cons_of_mem _ hy)) (fun x d hd => by
        rw [List.lookup_cons] at hd
        cases hx : x == n with
        | true =>
          rw [hx] at hd
          have : x = n := by simpa using hx
          subst this
          cases hd
          exact hc
        | false =>
          rw [hx] at hd
          exact h2 x d hd)
      have self : cl.lookup n = some c := e3 n c (by rw [List.lookup_cons]; simp)
      refine ⟨cl, ?_, e2, fun x d hd => ?_, fun x hx => ?_⟩
      · rw [if_pos hk, e, pure_bind, pure_bind]
        exact e1
      · by_cases hx : x = n
        · subst hx
          have := h2 x d hd
          rw [hc] at this
          cases this
          exact self
        · exact e3 x d (by rw [List.lookup_cons]; simp only [show (x == n) = false by simpa using hx]; exact hd)
      · rcases List.mem_cons.mp hx with z | z
        · cases z
          exact ⟨c, self⟩
        · exact e4 x z
    · obtain ⟨cl, e1, e2, e3, e4⟩ := closure_go r acc (fun y hy => h1 y (List.mem_cons_of_mem _ hy)) h2
      refine ⟨cl, ?_, e2, e3, fun x hx => ?_⟩
      · rw [if_neg hk, pure_bind]
        exact e1
      · rcases List.mem_cons.mp hx with z | z
        · cases z
          exact absurd rfl hk
        · exact e4 x z
theorem closure_of {scope : Scope} {env : Env} (h : ∀ y ∈ scope.names, y.2 = .free → ∃ c, env.cells.lookup y.1 = some c) :
    ∃ cl, closureFor scope env = pure cl ∧ (∀ x c, cl.lookup x = some c → env.cells.lookup x = some c) ∧ (∀ x, (x, NameKind.free) ∈ scope.names → ∃ c, cl.lookup x = some c) := by
  obtain ⟨cl, e1, e2, e3, e4⟩ := closure_go (env := env) scope.names [] h (fun x c hc => by simp at hc)
  refine ⟨cl, ?_, e2, e4⟩
  unfold closureFor
  simp only [bind_pure]
  exact e1
theorem relabel_lookup {env : Env} {x : Str} {k : NameKind} : ∀ {names : List (Str × NameKind)},
    (names.map fun (n, k) => if (k == NameKind.free && env.scope.kind == .function && env.kindOf n == some .cell) then (n, NameKind.cell) else (n, k)).lookup x = some k →
    ∃ k', names.lookup x = some k' ∧ (k' = k ∨ k' = .free ∧ k = .cell)
  | [], h => by simp at h
  | (n, j) :: r, h => by
    rw [List.map_cons] at h
    dsimp only at h
    have ih := @relabel_lookup env x k r
    by_cases hc : (j == NameKind.free && env.scope.kind == .function && env.kindOf n == some .cell) = true
    · rw [if_pos hc, List.lookup_cons] at h
      rw [List.lookup_cons]
      cases hx : x == n with
      | true =>
        rw [hx] at h
        cases h
        simp only [Bool.and_eq_true] at hc
        exact ⟨j, rfl, .inr ⟨by simpa using hc.1.1, rfl⟩⟩
      | false =>
        rw [hx] at h
        exact ih h
    · rw [if_neg hc, List.lookup_cons] at h
      rw [List.lookup_cons]
      cases hx : x == n with
      | true =>
        rw [hx] at h
        cases h
        exact ⟨_, rfl, .inl rfl⟩
      | false =>
        rw [hx] at h
        exact ih h
theorem relabel_free {env : Env} {x : Str} : ∀ {names : List (Str × NameKind)}, names.lookup x = some .free →
    (names.map fun (n, k) => if (k == NameKind.free && env.scope.kind == .function && env.kindOf n == some .cell) then (n, NameKind.cell) else (n, k)).lookup x = some .cell ∨
    (names.map fun (n, k) => if (k == NameKind.free && env.scope.kind == .function && env.kindOf n == some .cell) then (n, NameKind.cell) else (n, k)).lookup x = some .free
  | [], h => by simp at h
  | (n, j) :: r, h => by
    rw [List.map_cons]
    dsimp only
    have ih := @relabel_free env x r
    rw [List.lookup_cons] at h
    by_cases hc : (j == NameKind.free && env.scope.kind == .function && env.kindOf n == some .cell) = true
    · rw [if_pos hc, List.lookup_cons]
      cases hx : x == n with
      | true => exact .inl rfl
      | false => rw [hx] at h; exact ih h
    · rw [if_neg hc, List.lookup_cons]
      cases hx : x == n with
      | true => rw [hx] at h; cases h; exact .inr rfl
      | false => rw [hx] at h; exact ih h
theorem compLoop_any {prog : Program} {w : World} {A : Around} {R : Result → Shared → Prop} {s : Shared} {elt target iter : Expr} {ifs : List Expr} {scope : Scope} {pos : Pos} {it acc : Value} {env : Env} (I : Nat → Shared → Prop)
    (turn : ∀ n s, I n s → wpAny (model prog w) A (pyNext it) (fun r s₁ => match r with
      | none => R (.ok .next) s₁
      | some v => wpAny (model prog w) A (letOwnedTupleGo target it v) (fun _ s₁' => wpAny (model prog w) A (assign target env v) (fun _ s₂ =>
          wpAny (model prog w) A (forIn ifs true fun c r => if r = true then do let ok ← isTrue c env (eval c env); pure (ForInStep.yield ok) else pure (ForInStep.yield r)) (fun ok s₃ =>
            if ok = true then wpAny (model prog w) A (eval elt env) (fun x s₄ =>
              wpAny (model prog w) A (call (.builtin "list.append") [acc, x]) (fun _ s₅ => ∃ m, m < n ∧ I m s₅) (fun _ _ => False) s₄) (fun _ _ => False) s₃
            else ∃ m, m < n ∧ I m s₃) (fun _ _ => False) s₂) (fun _ _ => False) s₁') (fun _ _ => False) s₁) (fun _ _ => False) s)
    (n : Nat) (h : I n s) :
    codeAny (model prog w) A (.compLoop (.ListComp elt [⟨target, iter, ifs, 0⟩] scope pos) 0 it acc env) R s := by
  refine codeAny_loop rfl I (fun n s hI => ?_) n h
  show wpAny _ A ((compTurn (.ListComp elt [⟨target, iter, ifs, 0⟩] scope pos) 0 it acc env).onRaise (fun x => do noteFrame x env; theTreesLotGoes x)) _ _ s
  refine wpAny_noted ?_
  rw [compTurn_list]
  refine wpAny_bind (wpAny_standAt (wpAny_bind (wpAny_mono (turn n s hI) (fun r s₁ h₁ => ?_) fun _ _ h' => h'.elim)))
  cases r with
  | none => exact wpAny_pure h₁
  | some v =>
    refine wpAny_bind (wpAny_mono h₁ (fun _ s₁' h₁' => ?_) fun _ _ h' => h'.elim)
    refine wpAny_bind (wpAny_mono h₁' (fun _ s₂ h₂ => wpAny_bind (wpAny_mono h₂ (fun ok s₃ h₃ => ?_) fun _ _ h' => h'.elim)) fun _ _ h' => h'.elim)
    cases ok with
    | false => exact wpAny_pure ⟨rfl, h₃⟩
    | true =>
      exact wpAny_bind (wpAny_bind (wpAny_mono h₃ (fun x s₄ h₄ => wpAny_bind (wpAny_mono h₄ (fun _ s₅ h₅ => wpAny_pure (wpAny_pure ⟨rfl, h₅⟩)) fun _ _ h' => h'.elim)) fun _ _ h' => h'.elim))
end L2
set_option Elab.async false
set_option linter.all false
set_option maxRecDepth 100000
set_option maxHeartbeats 4000000
namespace L2
open PySem PySem.Spec PyProof.Rows
def pick (σ : St) : Option Nat → Option V
  | none => none
  | some i => (σ[i]?).getD none
theorem pick_some {σ : St} {j : Nat} {v : V} (h : pick σ (some j) = some v) : σ[j]? = some (some v) := by
  have h : (σ[j]?).getD none = some v := h
  cases e : σ[j]? with
  | none => rw [e] at h; cases h
  | some o => rw [e] at h; exact congrArg some h
def compOk (osc scope : Scope) (N Nb : List Str) (ix : List (Option Nat)) : Bool :=
  decide (scope.kind = .function) && scope.names.all (fun y => decide (y.2 ≠ .cell)) &&
  scope.names.all (fun y => decide (y.2 = .local → scope.names.lookup y.1 = some .local)) &&
  scope.names.all (fun y => decide (y.2 = .free → osc.names.lookup y.1 = some .cell ∨ osc.names.lookup y.1 = some .free)) &&
  decide (ix.length = Nb.length) &&
  (List.range Nb.length).all (fun i => match ix[i]? with
    | some (some j) => match Nb[i]? with
      | some x => decide (N[j]? = some x ∧ scope.names.lookup x = some .free)
      | none => true
    | _ => true)
structure CompOk (osc scope : Scope) (N Nb : List Str) (ix : List (Option Nat)) : Prop where
  kind : scope.kind = .function
  nocell : ∀ y ∈ scope.names, y.2 ≠ .cell
  names : ∀ y ∈ scope.names, y.2 = .local → scope.names.lookup y.1 = some .local
  fr : ∀ y ∈ scope.names, y.2 = .free → osc.names.lookup y.1 = some .cell ∨ osc.names.lookup y.1 = some .free
  len : ix.length = Nb.length
  src : ∀ (i j : Nat) (x : Str), Nb[i]? = some x → ix[i]? = some (some j) → N[j]? = some x ∧ scope.names.lookup x = some .free
theorem compOk_of {osc scope : Scope} {N Nb : List Str} {ix : List (Option Nat)} (h : compOk osc scope N Nb ix = true) : CompOk osc scope N Nb ix := by
  unfold compOk at h
  simp only [Bool.and_eq_true] at h
  obtain ⟨⟨⟨⟨⟨h1, h2⟩, h3⟩, h4⟩, h5⟩, h6⟩ := h
  refine ⟨of_decide_eq_true h1, fun y hy => of_decide_eq_true (List.all_eq_true.mp h2 y hy), fun y hy => of_decide_eq_true (List.all_eq_true.mp h3 y hy), fun y hy => of_decide_eq_true (List.all_eq_true.mp h4 y hy), of_decide_eq_true h5, fun i j x e1 e2 => ?_⟩
  have hi : i < Nb.length := (List.getElem?_eq_some_iff.mp e1).1
  have q := List.all_eq_true.mp h6 i (List.mem_range.mpr hi)
  rw [e2] at q
  simp only [e1] at q
  exact of_decide_eq_true q
def PIfs (X : Cx) (ifs : List Expr) (t : TT) : Prop :=
  ∀ (pins : List (Addr × Obj)) (s : Shared) (σ : St) (H : Hp) (Q : Bool → Hp → Prop), Inv X pins σ H s → t σ H Q →
    wpAny (model X.prog X.w) X.A (forIn ifs true fun c r => if r = true then do let ok ← isTrue c X.env (eval c X.env); pure (ForInStep.yield ok) else pure (ForInStep.yield r)) (TP X pins σ Q) X.xe s
def tTrue : TT := fun _ H Q => Q true H
theorem pifs_nil {X : Cx} : PIfs X [] tTrue := fun _ _ _ H _ I h => wpAny_tests_nil ⟨H, I, h⟩
theorem pifs_one {X : Cx} {c : Expr} {t : TT} (h : PT X c t) : PIfs X [c] t := fun pins s σ H Q I hq => wpAny_tests_one (h pins s σ H Q I hq)
def CompRun (J : It) (g : TG) (tc : TT) (te : TE) (σ0 : St) (H1 : Hp) (Q : VK) : Prop := ∀ D, H1 D = none →
  ∃ W : Nat → Nat → List V → St → Hp → Prop, (∃ m, W 0 m [] σ0 (upd H1 D (.lst []))) ∧
    ∀ i m ys σ' H', W i m ys σ' H' → H' D = some (.lst ys) ∧ ((J.stop i H' ∧ Q (.ref D) H') ∨ (J.go i H' ∧ ∀ x H2, J.yld i H' x H2 → g x σ' H2 fun σ2 H3 => tc σ2 H3 fun b H4 =>
      if b = true then te σ2 H4 fun y H5 => H5 D = some (.lst ys) ∧ ys.length < sizeLine ∧ ∃ m', m' < m ∧ W (i + 1) m' (ys ++ [y]) σ2 (upd H5 D (.lst (ys ++ [y])))
      else ∃ m', m' < m ∧ W (i + 1) m' ys σ2 H4))
def tComp (wi : TI) (g : TG) (tc : TT) (te : TE) (ix : List (Option Nat)) : TE := fun σ H Q => wi σ H fun J H1 => CompRun J g tc te (ix.map (pick σ)) H1 Q
section
variable {X : Cx} {N' : List Str} {scope osc : Scope} {cl : List (Str × Addr)} {C : Addr} {ex : List Addr} {ix : List (Option Nat)} {pins : List (Addr × Obj)} {σ : St} {H2 : Hp} {s2 : Shared}
theorem comp_ok (I2 : Inv X pins σ H2 s2) (K : CompOk X.env.scope scope X.N N' ix) (e2 : ∀ x c, cl.lookup x = some c → X.env.cells.lookup x = some c) (e3 : ∀ x, (x, NameKind.free) ∈ scope.names → ∃ c, cl.lookup x = some c)
    (hC : s2.heap.objs.size ≤ C) (f2 : ∀ b ∈ ex, FpOk X pins H2 b) (hex : ∀ b ∈ ex, b < s2.heap.objs.size) : (X.comp N' scope cl C s2 H2 ex).Ok where
  mod := I2.ok.mod
  kind := K.kind
  glob := I2.ok.glob
  blt := I2.ok.blt
  above := hC
  inj := fun x y c h1 h2 => I2.ok.inj x y c (e2 x c h1) (e2 y c h2)
  has := fun x hx => by
    have key : ∀ k, (relabel scope X.env).names.lookup x = some k → k = .cell ∨ k = .free → ∃ c, cl.lookup x = some c := fun k hk hk2 => by
      obtain ⟨k', h1, h2⟩ := relabel_lookup hk
      have hm := PySem.mem_of_lookup h1
      rcases h2 with rfl | ⟨rfl, rfl⟩
      · rcases hk2 with rfl | rfl
        · exact absurd rfl (K.nocell _ hm)
        · exact e3 x hm
      · exact e3 x hm
    rcases hx with hx | hx
    · exact key _ hx (.inl rfl)
    · exact key _ hx (.inr rfl)
  cab := fun x c h => by cases h
  hd := I2.ok.hd
  frames := I2.ok.frames
  stk := .inl rfl
  exf := fun b hb => ⟨Nat.ne_of_lt (Nat.lt_of_lt_of_le (hex b hb) hC), fun x c h => (f2 b hb).2.2.2.2.1 x c (e2 x c h)⟩
  bs := I2.bs
  bsz := Nat.le_trans I2.ok.bsz I2.sz
  noex := fun b o e hb => by
    rcases (f2 b hb).2.2.2.1 with z | z
    · exact I2.ok.noex b o e z
    · exact absurd (Nat.lt_of_lt_of_le (Heap.lt_size (I2.ok.bs b o e).1) z) (Nat.lt_irrefl _)
  exfs := fun b hb hf => by
    rcases List.mem_cons.mp (I2.stkSub b hf) with z | z
    · exact (f2 b hb).2.1 z
    · exact (f2 b hb).2.2.1 z
  funs := I2.stack
  frf := I2.stkFree
theorem comp_out (I2 : Inv X pins σ H2 s2) (f2 : ∀ b ∈ ex, FpOk X pins H2 b) (hC : s2.heap.objs.size ≤ C) {σ3 : St} {H3 : Hp} {s4 : Shared} {h' : Heap}
    (J : Inv (X.comp N' scope cl C s2 H2 ex) [] σ3 H3 s4) (sb : Heap.SameBut C s4.heap h') : Inv X pins σ H3 { s4 with heap := h' } := by
  have ne : ∀ b o, s2.heap.get? b = some o → b ≠ C := fun b o e => Nat.ne_of_lt (Nat.lt_of_lt_of_le (Heap.lt_size e) hC)
  have B := J.base
  have fr : H3 C = none := J.free
  refine I2.call' (s' := { s4 with heap := h' }) (ch := ex) J.os ⟨fun b o e n hb hx => ?_, fun b o e n hb hx => ?_, B.free, fun b o e hx => ?_, B.tups, B.frzs, B.tbls⟩ ?_ J.bare fun b hb => ?_
  · exact (sb.2 b (ne b o e)).trans (B.keep b o e n hb hx)
  · obtain ⟨sl, q⟩ := B.slot b o e n hb hx
    exact ⟨sl, (sb.2 b (ne b o e)).trans q⟩
  · obtain ⟨o', q⟩ := B.there b o e hx
    exact ⟨o', (sb.2 b (ne b o e)).trans q⟩
  · intro b ob e
    refine (J.hok b ob e).stay (fun c w' hc q => (sb.2 c ?_).trans q) (fun _ q => q) fun _ _ q => q
    rintro rfl
    rcases hc with rfl | hc
    · rw [fr] at e; cases e
    · rw [fr] at hc; cases hc
  · obtain ⟨_, f1, _, f3, f4, f5⟩ := f2 b hb
    exact ⟨f3, f1, f4, f5⟩
end
theorem comp_block {X : Cx} {tg iter elt : Expr} {ifs : List Expr} {scope : Scope} {pos : Pos} {g : TG} {tc : TT} {te : TE} {N' : List Str} {ix : List (Option Nat)} {pins : List (Addr × Obj)} {σ : St} {s2 : Shared} {itv : Value} {Q : VK} {cl : List (Str × Addr)}
    {RR : Value → Addr → Result → Shared → Prop} (hc : X.calm = true) (K : CompOk X.env.scope scope X.N N' ix) (e2 : ∀ x c, cl.lookup x = some c → X.env.cells.lookup x = some c) (e3 : ∀ x, (x, NameKind.free) ∈ scope.names → ∃ c, cl.lookup x = some c)
    (hg : ∀ cl C s2 H2 ex, PG (X.comp N' scope cl C s2 H2 ex) tg g) (ht : ∀ cl C s2 H2 ex, PIfs (X.comp N' scope cl C s2 H2 ex) ifs tc) (he : ∀ cl C s2 H2 ex, PE (X.comp N' scope cl C s2 H2 ex) elt te)
    (h2 : PIE X pins σ tg (fun J H1 => CompRun J g tc te (ix.map (pick σ)) H1 Q) itv s2)
    (hRR : ∀ H2 fp C D σ3 H3 s4, Inv X pins σ H2 s2 → (∀ b ∈ fp, FpOk X pins H2 b) → s2.heap.objs.size ≤ C → Inv (X.comp N' scope cl C s2 H2 fp) [] σ3 H3 s4 → Q (.ref D) H3 → RR (.ref D) C (.ok .next) s4) :
    wpAny (model X.prog X.w) X.A (newList []) (fun acc s₃ => wpAny (model X.prog X.w) X.A (newFunctionEnv scope X.env.globals cl [] X.env.qual none .none (some X.env)) (fun cenv s₄ =>
      codeAny (model X.prog X.w) X.A (.compStart (.ListComp elt [⟨tg, iter, ifs, 0⟩] scope pos) 0 itv acc { cenv with scope := relabel scope X.env }) (RR acc cenv.locals) s₄) X.xe s₃) X.xe s2 := by
  obtain ⟨it, fp, tn, J, H2, rfl, I2, T, st2, f2, q⟩ := h2
  refine wpAny_newObj_type (wpAny_newFunctionEnv K.nocell (by intro y hy; simp at hy) (fun h1 hns1 hsb1 => ?_) K.kind)
  dsimp only at hns1 hsb1 ⊢
  generalize hP : s2.heap.push { cls := .type "list", dict := none, data := .seq ([] : List Value).toArray } = P2 at hns1 hsb1 ⊢
  have hCs : P2.objs.size = s2.heap.objs.size + 1 := by rw [← hP, Heap.size_push]
  have hC : s2.heap.objs.size ≤ P2.objs.size := by omega
  have hDC : s2.heap.objs.size ≠ P2.objs.size := by omega
  have old : ∀ b o, s2.heap.get? b = some o → h1.get? b = some o := fun b o e =>
    hsb1.extBut b o (Nat.ne_of_lt (Nat.lt_of_lt_of_le (Heap.lt_size e) hC)) (Heap.get?_push_of_some _ (hP ▸ Heap.get?_push_of_some _ e))
  have hacc : h1.get? s2.heap.objs.size = some { cls := .type "list", dict := none, data := .seq ([] : List Value).toArray } :=
    hsb1.extBut _ _ hDC (Heap.get?_push_of_some _ (hP ▸ Heap.get?_push_size _ rfl))
  have hD : H2 s2.heap.objs.size = none := I2.hok.fresh (Nat.le_refl _)
  have hCn : H2 P2.objs.size = none := I2.hok.fresh hC
  obtain ⟨W, ⟨m0, w0⟩, turn⟩ := q s2.heap.objs.size hD
  have hex : ∀ b ∈ fp, b < s2.heap.objs.size := fun b hb => by
    obtain ⟨o, e, _⟩ := T.obj 0 _ st2 b hb
    exact Heap.lt_size e
  have YOk := comp_ok (cl := cl) (C := P2.objs.size) (ex := fp) I2 K e2 e3 hC f2 hex
  have hok1 : HOk X.prog X.w (upd H2 s2.heap.objs.size (.lst [])) h1 := I2.hok.laid old (Nat.le_refl _) ⟨Nat.zero_le _, [], 0, .nil, hacc⟩
  have IY : Inv (X.comp N' scope cl P2.objs.size s2 H2 fp) [] (ix.map (pick σ)) (upd H2 s2.heap.objs.size (.lst [])) { s2 with heap := h1, toks := s2.toks + ([] : List (Str × Value)).length } := by
    refine ⟨YOk, rfl, I2.bare, ?_, ⟨_, hns1, fun i x v e1 e4 e5 => ?_⟩, fun x c e => ?_, ?_, fun x c e => ?_, fun p hp => absurd (show p ∈ ([] : List (Addr × Obj)) from hp) (by simp), hok1, ?_⟩
    · exact (Un.laid old (Nat.le_refl _) hD).mono (fun _ z => z) (fun _ z => z)
    · rw [List.getElem?_map] at e4
      cases e6 : ix[i]? with
      | none => rw [e6] at e4; cases e4
      | some o =>
        rw [e6] at e4
        cases o with
        | none => cases (Option.some.inj e4)
        | some j =>
          have e7 : σ[j]? = some (some v) := pick_some (Option.some.inj e4)
          obtain ⟨n1, n2⟩ := K.src i j x e1 e6
          have hm := PySem.mem_of_lookup n2
          have kx := K.fr _ hm rfl
          obtain ⟨m, hn, hl⟩ := I2.loc
          obtain ⟨u, r, l⟩ := hl j x v n1 e7 (kx.elim (fun z => .inr (.inl z)) fun z => .inr (.inr z))
          refine ⟨u, r, .inr ⟨?_, ?_⟩⟩
          · exact relabel_free n2
          · rcases l with ⟨k1, _⟩ | ⟨_, c, hc1, hc2⟩
            · exfalso
              have k1' : X.env.scope.names.lookup x = some .local := k1
              rcases kx with z | z
              · rw [k1'] at z; cases z
              · rw [k1'] at z; cases z
            · obtain ⟨c', hc'⟩ := e3 x hm
              have e8 := e2 x c' hc'
              rw [hc1] at e8
              cases e8
              obtain ⟨o, ho, hd⟩ := hc2
              exact ⟨c, hc', o, old _ _ ho, hd⟩
    · obtain ⟨v, o, ho, hd⟩ := I2.cell x c (e2 x c e)
      exact ⟨v, o, old _ _ ho, hd⟩
    · show upd H2 s2.heap.objs.size (.lst []) P2.objs.size = none
      rw [upd_ne (Ne.symm hDC)]
      exact hCn
    · obtain ⟨v, z⟩ := I2.cell x c (e2 x c e)
      rw [upd_ne (Nat.ne_of_lt z.lt)]
      exact I2.freeC x c (e2 x c e)
    · rw [List.length_map]
      exact K.len
  have hnf : ∀ b ∈ fp, b ≠ P2.objs.size := fun b hb => Nat.ne_of_lt (Nat.lt_of_lt_of_le (hex b hb) hC)
  have stat : ∀ {H' : Hp}, (∀ b ∈ fp, H' b = none) → ∀ b ∈ fp, FpOk (X.comp N' scope cl P2.objs.size s2 H2 fp) [] H' b := fun hn b hb =>
    ⟨hn b hb, hnf b hb, YOk.exfs b hb, .inl hb, fun x c e => (f2 b hb).2.2.2.2.1 x c (e2 x c e), fun p hp => absurd (show p ∈ ([] : List (Addr × Obj)) from hp) (by simp)⟩
  have loop : ∀ s₃ : Shared, s₃ = { s2 with heap := h1, toks := s2.toks + ([] : List (Str × Value)).length } →
      codeAny (model X.prog X.w) X.A (.compLoop (.ListComp elt [⟨tg, iter, ifs, 0⟩] scope pos) 0 (.ref it) (.ref s2.heap.objs.size) (compEnvC scope cl P2.objs.size X.env))
        (RR (.ref s2.heap.objs.size) P2.objs.size) s₃ := by
    rintro s₃ rfl
    refine compLoop_any (fun n s' => ∃ i ys σ' H', Inv (X.comp N' scope cl P2.objs.size s2 H2 fp) [] σ' H' s' ∧ tn i s'.heap ∧ (∀ b ∈ fp, H' b = none) ∧ W i n ys σ' H') ?_ m0
      ⟨0, [], _, _, IY, T.keep _ _ _ st2 (fun b hb o e => old b o e), fun b hb => ?_, w0⟩
    · rintro n s3 ⟨i, ys, σ3, H3, I3, st3, fr3, w3⟩
      obtain ⟨hDl, tt⟩ := turn i n ys σ3 H3 w3
      rcases tt with ⟨stop, qn⟩ | ⟨go, step⟩
      · refine thn (T.done (X.comp N' scope cl P2.objs.size s2 H2 fp) rfl rfl rfl hc i [] s3 σ3 H3 (fun _ _ => False) I3 (stat fr3) st3 stop) fun r s4 ⟨hr, I4⟩ => ?_
        subst hr
        exact hRR H2 fp P2.objs.size s2.heap.objs.size σ3 H3 s4 I2 f2 hC I4 qn
      · refine thn (T.item (X.comp N' scope cl P2.objs.size s2 H2 fp) rfl rfl rfl hc i [] s3 σ3 H3 (fun _ _ => False) I3 (stat fr3) st3 go) fun r s4 ⟨u, hr, h4⟩ => ?_
        subst hr
        refine thn h4 fun _ s5 ⟨x, H5, I5, r5, y5, st5, fr5⟩ => ?_
        have I5' := I5.pinned (stat fr5) (T.obj _ _ st5)
        refine thn (hg cl P2.objs.size s2 H2 fp _ s5 σ3 H5 x u _ I5' r5 (step x H5 y5)) fun _ s6 ⟨σ6, H6, I6, q6⟩ => ?_
        refine thn (ht cl P2.objs.size s2 H2 fp _ s6 σ6 H6 _ I6 q6) fun b s7 ⟨H7, I7, q7⟩ => ?_
        have again : ∀ {s8 : Shared} {H8 : Hp} {ys' : List V} {m' : Nat}, Inv (X.comp N' scope cl P2.objs.size s2 H2 fp) ([] ++ pinsAt fp s5.heap) σ6 H8 s8 → m' < n → W (i + 1) m' ys' σ6 H8 →
            ∃ m, m < n ∧ ∃ i ys σ' H', Inv (X.comp N' scope cl P2.objs.size s2 H2 fp) [] σ' H' s8 ∧ tn i s8.heap ∧ (∀ b ∈ fp, H' b = none) ∧ W i m ys σ' H' := fun {s8 H8 ys' m'} I8 hm w8 => by
          refine ⟨m', hm, i + 1, ys', σ6, H8, I8.unpinned, T.keep _ _ _ st5 fun b hb o e => (I8.pin (b, o) (List.mem_append_right _ (List.mem_append_right _ (mem_pinsAt hb e)))).1, fun b hb => ?_, w8⟩
          obtain ⟨o, e, d⟩ := T.obj _ _ st5 b hb
          exact (I8.pin (b, o) (List.mem_append_right _ (List.mem_append_right _ (mem_pinsAt hb e)))).2.1
        cases b with
        | false =>
          obtain ⟨m', hm, w7⟩ : ∃ m', m' < n ∧ W (i + 1) m' ys σ6 H7 := q7
          exact again I7 hm w7
        | true =>
          have q7' : te σ6 H7 _ := q7
          show wpAny _ _ (eval elt (compEnvC scope cl P2.objs.size X.env)) _ _ _
          refine thn (he cl P2.objs.size s2 H2 fp _ s7 σ6 H7 _ I7 q7') fun yv s8 ⟨y, H8, I8, r8, hD8, hz8, m', hm, w8⟩ => ?_
          refine thn (mt_append (X := X.comp N' scope cl P2.objs.size s2 H2 fp) _ s8 σ6 H8 (.ref s2.heap.objs.size) [y] (.ref s2.heap.objs.size) [yv] (fun _ H9 => H9 = upd H8 s2.heap.objs.size (.lst (ys ++ [y]))) I8 rfl (.cons r8 .nil)
            ⟨_, ys, y, rfl, rfl, hD8, hz8, rfl⟩) fun _ s9 ⟨_, H9, I9, _, e9⟩ => ?_
          subst e9
          exact again I9 hm w8
    · show upd H2 s2.heap.objs.size (.lst []) b = none
      rw [upd_ne (Nat.ne_of_lt (hex b hb))]
      exact (f2 b hb).1
  exact codeAny_compStart_list (loop _ rfl) (T.self X.A 0 _ _ _ (T.keep _ _ _ st2 (fun b hb o e => old b o e)) (loop _ rfl))
theorem pe_comp {X : Cx} {tg iter elt : Expr} {ifs : List Expr} {scope : Scope} {pos : Pos} {wi : TI} {g : TG} {tc : TT} {te : TE} (N' : List Str) (ix : List (Option Nat)) (osc : Scope) (N : List Str)
    (hc : X.calm = true) (hi : PI X tg iter wi) (ok : compOk osc scope N N' ix = true)
    (hg : ∀ cl C s2 H2 ex, PG (X.comp N' scope cl C s2 H2 ex) tg g) (ht : ∀ cl C s2 H2 ex, PIfs (X.comp N' scope cl C s2 H2 ex) ifs tc) (he : ∀ cl C s2 H2 ex, PE (X.comp N' scope cl C s2 H2 ex) elt te)
    (hsc : X.env.scope = osc := by rfl) (hN : X.N = N := by rfl) (hs : ∀ x, foldedSetIterable iter X.env x = pure x := by intro _; rfl) : PE X (.ListComp elt [⟨tg, iter, ifs, 0⟩] scope pos) (tComp wi g tc te ix) := by
  intro pins s σ H Q I h
  have K0 := compOk_of ok
  have K : CompOk X.env.scope scope X.N N' ix := by rw [hsc, hN]; exact K0
  obtain ⟨cl, hclos, e2, e3⟩ := closure_of (scope := scope) (env := X.env) (fun y hy hf => I.ok.has y.1 (K.fr y hy hf))
  rw [eval_ListComp]
  refine wpAny_comprehension_free (use := none) rfl hs hclos K.kind K.names (wpAny_mono (hi pins s σ H _ I h) (fun v s1 h1 => thn h1 fun itv s2 h2 => ?_) fun _ _ e => e)
  refine comp_block hc K e2 e3 hg ht he h2 fun H2 fp C D σ3 H3 s4 I2 f2 hC I4 qn => ?_
  obtain ⟨m, hn, _⟩ := I4.loc
  exact ⟨m, hn, fun h' sb => ⟨.ref D, H3, comp_out I2 f2 hC I4 sb, rfl, qn⟩⟩
theorem ps_setC {X : Cx} {tg iter elt : Expr} {ifs : List Expr} {scope : Scope} {pos spos py : Pos} {y : Str} {wi : TI} {g : TG} {tc : TT} {te : TE} (N' : List Str) (ix : List (Option Nat)) (osc : Scope) (N : List Str) {i : Nat} (nd : X.N.Nodup) (hiy : X.N[i]? = some y) (hxy : Loc X.env.scope y)
    (hc : X.calm = true) (hi : PI X tg iter wi) (ok : compOk osc scope N N' ix = true)
    (hg : ∀ cl C s2 H2 ex, PG (X.comp N' scope cl C s2 H2 ex) tg g) (ht : ∀ cl C s2 H2 ex, PIfs (X.comp N' scope cl C s2 H2 ex) ifs tc) (he : ∀ cl C s2 H2 ex, PE (X.comp N' scope cl C s2 H2 ex) elt te)
    (hsc : X.env.scope = osc := by rfl) (hN : X.N = N := by rfl) (hs : ∀ x, foldedSetIterable iter X.env x = pure x := by intro _; rfl)
    (hsw : swapsWith (.ListComp elt [⟨tg, iter, ifs, 0⟩] scope pos) (some (.Name y py)) spos.line X.env = pure true := by rfl) (hf : X.fn y = true ∨ X.env.scope.names.lookup y = some .local := by first | exact .inl rfl | exact .inr rfl | assumption) :
    PS X (.Assign [.Name y py] (.ListComp elt [⟨tg, iter, ifs, 0⟩] scope pos) spos) (tAsg (tComp wi g tc te ix) (gName i)) := by
  intro pins s σ H D I h
  have K0 := compOk_of ok
  have K : CompOk X.env.scope scope X.N N' ix := by rw [hsc, hN]; exact K0
  obtain ⟨cl, hclos, e2, e3⟩ := closure_of (scope := scope) (env := X.env) (fun y hy hf => I.ok.has y.1 (K.fr y hy hf))
  rw [exec_Assign_Name_used _ _ _ _ hsw]
  refine wpAny_bind (wpAny_standAt (wpAny_bind ?_))
  show wpAny _ X.A (do let _ ← comprehension (.ListComp elt [⟨tg, iter, ifs, 0⟩] scope pos) scope X.env _ (newList []) false (eval iter X.env) (some (assign (.Name y py) X.env))) _ _ s
  refine wpAny_bind (wpAny_mono (wpAny_comprehension_free (use := some (assign (.Name y py) X.env)) (Q := fun _ s' => SP X pins D .next s') rfl hs hclos K.kind K.names
    (wpAny_mono (hi pins s σ H _ I h) (fun v s1 h1 => thn h1 fun itv s2 h2 => ?_) fun _ _ e => e)) (fun _ s' hq => wpAny_pure (wpAny_pure hq)) fun _ _ e => e)
  refine comp_block hc K e2 e3 hg ht he h2 fun H2 fp C L σ3 H3 s4 I2 f2 hC I4 qn => ?_
  have I5 : Inv X pins σ H3 s4 := comp_out I2 f2 hC I4 (Heap.SameBut.refl ..)
  obtain ⟨m, hn, _⟩ := I4.loc
  have hn : s4.heap.Ns C m := hn
  have fC : FpOk X pins H3 C := I2.fpOk hC I4.free
  show wpAny _ X.A (assign (.Name y py) X.env (.ref L)) _ _ s4
  refine wpAny_assign_Name (store_ok2 I5 nd hiy hxy (v := .ref L) rfl (fun s5 I6 hch => ?_) hf)
  obtain ⟨a, sb, ha⟩ := hch
  have nCa : C ≠ a := by
    rcases ha with rfl | ha
    · exact fC.2.1
    · exact fun z => fC.2.2.2.2.1 y a ha z.symm
  refine ⟨m, hn.sameBut sb nCa, fun h' sb' => ⟨_, H3, ?_, qn⟩⟩
  obtain ⟨f0, f1, f2', f3, f4, f5⟩ := fC
  exact I6.turned (t' := s5.toks) (fun b o hb e => (sb'.2 b hb).trans e) f0 f1 f3 f4 f5
end L2
set_option Elab.async false
set_option linter.all false
set_option maxRecDepth 100000
set_option maxHeartbeats 4000000
namespace L2
open PySem PySem.Spec PyProof.Rows
section
variable {X : Cx}
theorem bools_of : ∀ {bs : List Bool} {us : List Value}, Vals (bs.map V.bl) us → LSm.BoolsAre us bs
  | [], _, .nil => .nil
  | b :: bs, _, .cons r t => by
    cases r
    exact .cons b (bools_of t)
theorem call_all (hc : X.calm = true) : CallR X (.builtin "all") (fun xs H Q => ∃ (p : Addr) (bs : List Bool), xs = [.ref p] ∧ SqL X.K H p (bs.map V.bl) ∧ Q (.bl (bs.all id)) H) := by
  intro pins s σ H xs us Q I rv h
  obtain ⟨p, bs, rfl, hq, q⟩ := h
  obtain ⟨u, rfl, ru⟩ := rv.one
  cases ru
  obtain ⟨its, r, pl, hz⟩ := I.list hq
  have hb := bools_of r
  obtain ⟨m, F⟩ := I.fr
  have hl := pl.isList
  have hlt : p < s.heap.objs.size := by obtain ⟨_, e, _⟩ := hl; exact Heap.lt_size e
  have hh := I.ok.hd hc
  refine call_all_walk (wpAny_pyIter_list hl ?_)
  refine ⟨s.heap.objs.size, [s.heap.objs.size, p], [s.heap.objs.size], its.toArray.size, _, _, fun i => (bs[i]?).getD true, rfl, Walks.list (A := X.A.in1) hh _ p (Nat.ne_of_lt hlt) its.toArray,
    ⟨⟨_, Heap.get?_push_size _ rfl, rfl, rfl⟩, hl.push _⟩, fun i v s' Q' E' hP hQ => ?_, fun h' tk hk => ?_⟩
  · obtain ⟨b, e, rfl⟩ := hb.get i v (by simpa using hP)
    simp only [e, Option.getD_some] at hQ
    exact wpAny_truthy_bool hQ
  · have e : ((List.range its.toArray.size).all fun i => (bs[i]?).getD true) = bs.all id := by
      rw [List.size_toArray, hb.length]; exact LSm.range_all bs
    rw [e]
    exact ⟨.bl _, H, I.kept (LSm.kept_iter hk), rfl, q⟩
theorem call_isinst : CallR X (.builtin "isinstance") (fun xs H Q => ∃ x T t b, xs = [x, .ty T] ∧ TyOf X.K H x t ∧ PySem.W.kitOne X.K t (.type T) = some b ∧ Q (.bl b) H) := by
  intro pins s σ H xs us Q I rv h
  obtain ⟨x, T, t, b, rfl, ty, e, q⟩ := h
  obtain ⟨u, v, rfl, ru, rv⟩ := rv.two
  cases rv
  exact isinst_ok I ru ty e fun tk => ⟨.bl b, H, I.tok tk, rfl, q⟩
theorem ints_of : ∀ {ns : List Int} {us : List Value}, Vals (ns.map V.int) us → IntsAre us ns
  | [], _, .nil => .nil
  | b :: bs, _, .cons r t => by
    obtain ⟨tk, rfl⟩ := r
    exact .cons _ _ (ints_of t)
end
mutual
inductive RdD (K : PySem.W.Frag) (H : Hp) : V → PyData → Prop
  | non : RdD K H .non .none
  | bl (b : Bool) : RdD K H (.bl b) (.bool b)
  | int (i : Int) : RdD K H (.int i) (.int i)
  | str (x : Str) : RdD K H (.str x) (.str x)
  | lst {a : Addr} {xs : List V} {ds : List PyData} : SqL K H a xs → RdAll K H xs ds → RdD K H (.ref a) (.list ds)
  | tup {a : Addr} {xs : List V} {ds : List PyData} : SqT K H a xs → RdAll K H xs ds → RdD K H (.ref a) (.tuple ds)
inductive RdAll (K : PySem.W.Frag) (H : Hp) : List V → List PyData → Prop
  | nil : RdAll K H [] []
  | cons {x : V} {d : PyData} {xs : List V} {ds : List PyData} : RdD K H x d → RdAll K H xs ds → RdAll K H (x :: xs) (d :: ds)
end
section
variable {X : Cx} {pins : List (Addr × Obj)} {σ : St} {H : Hp} {s : Shared}
mutual
theorem Inv.reads (I : Inv X pins σ H s) : ∀ {x : V} {d : PyData} {u : Value}, RdD X.K H x d → RelV x u → ∃ as, Reads s.heap u d as
  | _, _, _, .non, r => by cases r; exact ⟨_, .none⟩
  | _, _, _, .bl b, r => by cases r; exact ⟨_, .bool b⟩
  | _, _, _, .int i, r => by obtain ⟨t, rfl⟩ := r; exact ⟨_, .int i t⟩
  | _, _, _, .str x, r => by obtain ⟨t, rfl⟩ := r; exact ⟨_, .str x t⟩
  | _, _, _, .lst hq ha, r => by
    cases r
    obtain ⟨its, rv, ⟨o, n, e, c, dd, dt⟩, _⟩ := I.list hq
    obtain ⟨as, q⟩ := Inv.readsAll I ha rv
    exact ⟨_, .list e c dt (by simpa using q)⟩
  | _, _, _, .tup hq ha, r => by
    cases r
    obtain ⟨its, rv, ⟨o, e, c, n, dt⟩, _⟩ := I.tuple hq
    obtain ⟨as, q⟩ := Inv.readsAll I ha rv
    exact ⟨_, .tuple e c dt (by simpa using q)⟩
theorem Inv.readsAll (I : Inv X pins σ H s) : ∀ {xs : List V} {ds : List PyData} {us : List Value}, RdAll X.K H xs ds → Vals xs us → ∃ as, ReadsAll s.heap us ds as
  | _, _, _, .nil, .nil => ⟨_, .nil⟩
  | _, _, _, .cons h t, .cons r rr => by
    obtain ⟨as, q⟩ := Inv.reads I h r
    obtain ⟨bs, p⟩ := Inv.readsAll I t rr
    exact ⟨_, .cons q p⟩
end
def rEqD (K : PySem.W.Frag) (neg : Bool) : R2 := fun x y H Q => ∃ dx dy, RdD K H x dx ∧ RdD K H y dy ∧ SeqAt.shaped dx = true ∧ SeqAt.shaped dy = true ∧ Q (.bl (if neg then !PyData.eqv dx dy else PyData.eqv dx dy)) H
theorem op_eqD (hu : X.A.units + 64 < cLine) : OpR X (compareOp .Eq) (rEqD X.K false) := by
  intro pins s σ H x y v u Q I rx ry h
  obtain ⟨dx, dy, h1, h2, s1, s2, q⟩ := h
  obtain ⟨as, r1⟩ := I.reads h1 rx
  obtain ⟨bs, r2⟩ := I.reads h2 ry
  exact eq_dataH r1 r2 s1 s2 hu ⟨.bl _, H, I, rfl, q⟩
theorem op_neD (hu : X.A.units + 64 < cLine) : OpR X (compareOp .NotEq) (rEqD X.K true) := by
  intro pins s σ H x y v u Q I rx ry h
  obtain ⟨dx, dy, h1, h2, s1, s2, q⟩ := h
  obtain ⟨as, r1⟩ := I.reads h1 rx
  obtain ⟨bs, r2⟩ := I.reads h2 ry
  exact ne_dataH r1 r2 s1 s2 hu ⟨.bl _, H, I, rfl, q⟩
end
end L2
set_option Elab.async false
set_option linter.all false
set_option maxRecDepth 100000
set_option maxHeartbeats 4000000
namespace L2
open PySem PySem.Spec PyProof.Rows
def Ite (K : PySem.W.Frag) (a : Addr) : It :=
  ⟨fun i H => ∃ xs x, SqL K H a xs ∧ xs[i]? = some x, fun i H y H' => ∃ T x, y = .ref T ∧ H T = none ∧ H' = upd H T (.tup [.int (i : Nat), x]) ∧ ∀ xs, SqL K H a xs → xs[i]? = some x, fun i H => ∃ xs, SqL K H a xs ∧ xs.length ≤ i⟩
theorem Inv.tupNew {X : Cx} {pins : List (Addr × Obj)} {σ : St} {H : Hp} {s : Shared} {h' : Heap} {t' : Nat} {fp : List Addr} {T : Addr} {xs : List V} {its : List Value} {n : Nat} (I : Inv X pins σ H s) (hf : ∀ b ∈ fp, FpOk X pins H b)
    (hT : s.heap.objs.size ≤ T) (k : ∀ b o, b ∉ fp → s.heap.get? b = some o → h'.get? b = some o) (hz : xs.length ≤ sizeLine) (rv : Vals xs its) (e : h'.get? T = some { cls := .type "tuple", data := .seq its.toArray n })
    (tr : ∀ b ∈ fp, ∃ o, h'.get? b = some o) : Inv X pins σ (upd H T (.tup xs)) { s with heap := h', toks := t' } := by
  have hTn : H T = none := I.hok.fresh hT
  have nT : ∀ b o, s.heap.get? b = some o → b ≠ T := fun b o q => Nat.ne_of_lt (Nat.lt_of_lt_of_le (Heap.lt_size q) hT)
  have nfp : ∀ b o, H b = some o → b ∉ fp := fun b o q hb => by have := (hf b hb).1; rw [q] at this; cases this
  refine I.step (g' := s.gens) (d' := s.drawn) (ch := fp) (fun b hb => ?_) (fun b o _ _ hc q _ => k b o hc q) (fun b o _ _ hc q _ => ⟨o.slots, k b o hc q⟩) (fun b o _ q n => by rw [upd_ne (nT b o q)]; exact n)
    (fun b o hc q => ⟨o, k b o hc q⟩) (fun b ys q => by rw [upd_ne (ne_of_none q hTn)]; exact q) (fun b o u q => by rw [upd_ne (ne_of_none q hTn)]; exact q) (fun b ps q => ⟨#[], by rw [upd_ne (ne_of_none q hTn), q]; simp⟩) (fun m hm => ?_) (fun b u q => ?_) I.bare
  · obtain ⟨_, f1, _, f3, f4, f5⟩ := hf b hb
    exact ⟨f3, f1, f4, f5⟩
  · obtain ⟨o, es, ep, ho, r⟩ := hm
    exact ⟨o, es, ep, k _ o (fun z => (hf _ z).2.1 rfl) ho, r⟩
  · by_cases hb : b = T
    · subst hb
      rw [upd_same] at q
      cases q
      exact ⟨hz, its, rv, _, e, rfl, n, rfl⟩
    · rw [upd_ne hb] at q
      refine (I.hok b u q).stay (fun c v hc w => k c v ?_ w) (fun c w => by rw [upd_ne (ne_of_none w hTn)]; exact w) fun c ys w => by rw [upd_ne (ne_of_none w hTn)]; exact w
      rcases hc with rfl | hc
      · exact nfp _ _ q
      · exact nfp _ _ hc
theorem turn_enum {P : Program} {w : World} {K : PySem.W.Frag} {es : List Expr} {k1} {ps : Pos} (a e it : Addr) : Turn P w K (.Tuple es k1 ps) (Ite K a) [e, it] e (fun i h => (∃ old, IsEnum h e it (i : Nat) old) ∧ h.IsListIter it a i ∧ e ≠ it) where
  mem := by simp
  obj := fun i h st b hb => by
    obtain ⟨⟨old, he⟩, hit, hne⟩ := st
    rcases List.mem_cons.mp hb with rfl | hb
    · exact ⟨_, he, fun v z => by
        have z' : Data.fields _ = Data.cell v := z
        cases z'⟩
    · have z : b = it := by simpa using hb
      subst z
      obtain ⟨o, e, c, d⟩ := hit
      exact ⟨o, e, fun v z => by rw [d] at z; cases z⟩
  keep := fun i h h' st k => by
    obtain ⟨⟨old, he⟩, hit, hne⟩ := st
    exact ⟨⟨old, k e (by simp) _ he⟩, hit.at fun o q => k it (by simp) o q, hne⟩
  item := by
    intro X hP hw hK hc i pins s σ H E I hf st hg
    subst hP hw hK
    obtain ⟨⟨old, he⟩, hit, hne⟩ := st
    obtain ⟨xs, x, hq, hx⟩ := hg
    obtain ⟨its, rv, p, hz⟩ := I.list hq
    obtain ⟨u, hu, ru⟩ := rv.get hx
    refine wpAny_pyNext_enum_item he hit p.isList (x := u) (by simpa using hu) hne fun h' heo hit' hT hsz hk => ?_
    refine ⟨_, rfl, wpAny_letOwnedTupleGo_enum heo fun h2 he2 hs2 => ?_⟩
    have elt : e ≠ s.heap.objs.size := Nat.ne_of_lt (Heap.lt_size he)
    have ilt : it ≠ s.heap.objs.size := by obtain ⟨o, q, _⟩ := hit; exact Nat.ne_of_lt (Heap.lt_size q)
    have hs2' : Heap.SameBut e h' h2 := hs2
    have hT2 : h2.get? s.heap.objs.size = some { cls := .type "tuple", data := .seq #[.int i s.toks, u] } := (hs2'.2 _ (Ne.symm elt)).trans hT
    have hit2 : h2.IsListIter it a (i + 1) := hit'.at fun o q => (hs2'.2 it (Ne.symm hne)).trans q
    have hfr : H s.heap.objs.size = none := I.hok.fresh (Nat.le_refl _)
    have I2 : Inv X pins σ (upd H s.heap.objs.size (.tup [.int (i : Nat), x])) { s with heap := h2, toks := s.toks + 1 } := by
      refine I.tupNew (its := [.int i s.toks, u]) hf (Nat.le_refl _) (fun b o hb q => ?_) (by show 2 ≤ sizeLine; decide) (.cons ⟨_, rfl⟩ (.cons ru .nil)) hT2 (fun b hb => ?_)
      · simp only [List.mem_cons, not_or] at hb
        exact (hs2'.2 b hb.1).trans (hk b o hb.1 hb.2.1 q)
      · rcases List.mem_cons.mp hb with rfl | hb
        · exact ⟨_, he2⟩
        · have z : b = it := by simpa using hb
          subst z
          obtain ⟨o, q, _⟩ := hit2
          exact ⟨o, q⟩
    refine ⟨.ref s.heap.objs.size, _, I2, rfl, ⟨_, x, rfl, hfr, rfl, fun ys hy => by rw [I.list_inj hy hq]; exact hx⟩, ⟨⟨_, by simpa using he2⟩, hit2, hne⟩, fun b hb => ?_⟩
    rw [upd_ne (fun z => ?_)]
    · exact (hf b hb).1
    · rcases List.mem_cons.mp hb with rfl | hb
      · exact elt z
      · have z' : b = it := by simpa using hb
        subst z'
        exact ilt z
  done := by
    intro X hP hw hK hc i pins s σ H E I hf st hg
    subst hP hw hK
    obtain ⟨⟨old, he⟩, hit, hne⟩ := st
    obtain ⟨xs, hq, hx⟩ := hg
    obtain ⟨its, rv, p, hz⟩ := I.list hq
    obtain ⟨f0, f1, f2, f3, f4, f5⟩ := hf it (by simp)
    have hl := rv.length
    exact wpAny_pyNext_enum_end (I.ok.hd hc) he hit p.isList (by simp; omega) fun h' eb => ⟨rfl, I.turned (t' := s.toks) (fun b o hb e => eb b o hb e) f0 f1 f3 f4 f5⟩
  self := fun _ _ _ _ _ st h => by
    obtain ⟨⟨old, he⟩, hit, hne⟩ := st
    exact wpAny_pyIter_enum he h
def iEnum (K : PySem.W.Frag) (ta : TA) : TI := fun σ H R => ta σ H fun vs H1 => ∃ a, vs = [.ref a] ∧ (∃ xs, SqL K H1 a xs) ∧ R (Ite K a) H1
theorem pi_enum {X : Cx} {a : Expr} {ta : TA} {es : List Expr} {k1} {ps p pos : Pos} (hg : Gl X "enumerate") (hm : X.mg "enumerate" = none) (ha : PA X [a] ta) (hs : starEach [a] X.env = [(false, eval a X.env)] := by rfl) :
    PI X (.Tuple es k1 ps) (.Call (.Name "enumerate" p) [a] [] pos) (iEnum X.K ta) := by
  intro pins s σ H R I h
  refine Call_ (ld_blt I hg hm boot_enumerate (PyProof.Rows.callWith_type1 (thn (ha pos pins s σ H _ I h) fun us s1 ⟨vs, H1, I1, r1, q1⟩ => ?_) hs rfl))
  obtain ⟨a, e, ⟨xs, hq⟩, q⟩ := q1
  subst e
  obtain ⟨u, rfl, ru⟩ := r1.one
  cases ru
  obtain ⟨its, rv, pl, hz⟩ := I1.list hq
  refine call_enumerate_list pl.isList fun h' he hit hsz hk => wpAny_pyIter_enum he ?_
  have I2 : Inv X pins σ H1 { s1 with heap := h' } := I1.kept (t' := s1.toks) hk
  refine ⟨s1.heap.objs.size + 1, [s1.heap.objs.size + 1, s1.heap.objs.size], _, _, H1, rfl, I2, turn_enum a _ _, ⟨⟨_, he⟩, hit, Nat.ne_of_gt (Nat.lt_succ_self _)⟩, fun b hb => ?_, q⟩
  rcases List.mem_cons.mp hb with rfl | hb
  · exact I1.fpOk (Nat.le_succ _) (I1.hok.fresh (Nat.le_succ _))
  · have z : b = s1.heap.objs.size := by simpa using hb
    subst z
    exact I1.fpOk (Nat.le_refl _) (I1.hok.fresh (Nat.le_refl _))
theorem for_enum {K : PySem.W.Frag} {a : Addr} {xs : List V} {g : TG} {tb : TS} {D : Ends} {σ : St} {H : Hp} (Pv : Nat → St → Hp → Prop) (h0 : Pv 0 σ H) (hl : ∀ i σ H, i ≤ xs.length → Pv i σ H → SqL K H a xs)
    (hs : ∀ i x σ H T, xs[i]? = some x → Pv i σ H → H T = none → g (.ref T) σ (upd H T (.tup [.int (i : Nat), x])) fun σ2 H2 => tb { D with nx := Pv (i + 1), ct := Pv (i + 1), bk := D.nx } σ2 H2) (hd : ∀ σ H, Pv xs.length σ H → D.nx σ H) :
    ∃ W : Nat → Nat → St → Hp → Prop, (∃ m, W 0 m σ H) ∧ ∀ i m σ H, W i m σ H →
      ((Ite K a).stop i H ∧ D.nx σ H) ∨ ((Ite K a).go i H ∧ ∃ N : St → Hp → Prop, (∀ σ' H', N σ' H' → ∃ m', m' < m ∧ W (i + 1) m' σ' H') ∧ ∀ x H', (Ite K a).yld i H x H' → g x σ H' fun σ2 H2 => tb { D with nx := N, ct := N, bk := D.nx } σ2 H2) := by
  refine ⟨fun i m σ H => m = xs.length - i ∧ i ≤ xs.length ∧ Pv i σ H, ⟨xs.length, by simp, Nat.zero_le _, h0⟩, ?_⟩
  rintro i m σ H ⟨rfl, hi, p⟩
  have q := hl i σ H hi p
  by_cases hlt : i < xs.length
  · refine .inr ⟨⟨xs, xs[i], q, by simp [hlt]⟩, Pv (i + 1), fun σ' H' p' => ⟨xs.length - (i + 1), by omega, rfl, hlt, p'⟩, fun x H' y => ?_⟩
    obtain ⟨T, z, rfl, hT, rfl, y⟩ := y
    exact hs i z σ _ T (y xs q) p hT
  · have e : i = xs.length := by omega
    subst e
    exact .inl ⟨⟨xs, q, Nat.le_refl _⟩, hd σ H p⟩
end L2
set_option Elab.async false
set_option linter.all false
set_option maxRecDepth 100000
set_option maxHeartbeats 4000000
namespace L2
open PySem PySem.Spec PyProof.Rows
def Pu (te : TE) (σ : St) (H : Hp) (v : V) : Prop := ∀ (H' : Hp) (Q : VK), Same H H' → (∀ H'', Same H' H'' → Q v H'') → te σ H' Q
def PuT (tc : TT) (σ : St) (H : Hp) (b : Bool) : Prop := ∀ (H' : Hp) (Q : Bool → Hp → Prop), Same H H' → (∀ H'', Same H' H'' → Q b H'') → tc σ H' Q
theorem puT_true {σ : St} {H : Hp} : PuT tTrue σ H true := fun H' Q _ q => q H' (Same.refl _)
theorem Same.upd {H H' : Hp} {D : Addr} {o : HO} (e : Same H H') (hD : H D = none) : Same H (upd H' D o) := fun b u q => by
  rw [upd_ne (ne_of_none q hD)]
  exact e b u q
theorem Same.new {H : Hp} {D : Addr} {o : HO} (hD : H D = none) : Same H (L2.upd H D o) := (Same.refl H).upd hD
theorem Same.tup {K : PySem.W.Frag} {H H' : Hp} {a : Addr} {xs : List V} (e : Same H H') (h : SqT K H a xs) : SqT K H' a xs := by
  rcases h with (h | ⟨o, h⟩) | h
  · exact .inl (.inl (e _ _ h))
  · exact .inl (.inr ⟨o, e _ _ h⟩)
  · exact .inr h
theorem comp_by {J : It} {n : Nat} {σ0 : St} {H1 : Hp} {D : Addr} {tc : TT} {te : TE} {Q : VK} (Pv : Nat → List V → Hp → Prop) (h0 : Pv 0 [] (upd H1 D (.lst [])))
    (hl : ∀ i ys H', i ≤ n → Pv i ys H' → H' D = some (.lst ys)) (hgo : ∀ i ys H', i < n → Pv i ys H' → J.go i H') (hst : ∀ ys H', Pv n ys H' → J.stop n H')
    (step : ∀ i ys H' x H2, i < n → Pv i ys H' → J.yld i H' x H2 → tc (σ0.set 0 (some x)) H2 fun b H4 => if b = true then te (σ0.set 0 (some x)) H4 fun y H5 => H5 D = some (.lst ys) ∧ ys.length < sizeLine ∧ Pv (i + 1) (ys ++ [y]) (upd H5 D (.lst (ys ++ [y]))) else Pv (i + 1) ys H4)
    (fin : ∀ ys H', Pv n ys H' → Q (.ref D) H') :
    ∃ W : Nat → Nat → List V → St → Hp → Prop, (∃ m, W 0 m [] σ0 (upd H1 D (.lst []))) ∧
      ∀ i m ys σ' H', W i m ys σ' H' → H' D = some (.lst ys) ∧ ((J.stop i H' ∧ Q (.ref D) H') ∨ (J.go i H' ∧ ∀ x H2, J.yld i H' x H2 → gName 0 x σ' H2 fun σ2 H3 => tc σ2 H3 fun b H4 =>
        if b = true then te σ2 H4 fun y H5 => H5 D = some (.lst ys) ∧ ys.length < sizeLine ∧ ∃ m', m' < m ∧ W (i + 1) m' (ys ++ [y]) σ2 (upd H5 D (.lst (ys ++ [y])))
        else ∃ m', m' < m ∧ W (i + 1) m' ys σ2 H4)) := by
  refine ⟨fun i m ys σ' H' => m = n - i ∧ i ≤ n ∧ (∀ x, σ'.set 0 x = σ0.set 0 x) ∧ Pv i ys H', ⟨n, by simp, Nat.zero_le _, fun _ => rfl, h0⟩, ?_⟩
  rintro i m ys σ' H' ⟨rfl, hi, es, p⟩
  refine ⟨hl i ys H' hi p, ?_⟩
  by_cases hlt : i < n
  · refine .inr ⟨hgo i ys H' hlt p, fun x H2 y => ?_⟩
    have st := step i ys H' x H2 hlt p y
    show tc (σ'.set 0 (some x)) H2 _
    rw [es]
    have e1 : ∀ z, (σ0.set 0 (some x)).set 0 z = σ0.set 0 z := fun z => by rw [List.set_set]
    have e2 : ∀ ys' H5, (∃ m', m' < n - i ∧ m' = n - (i + 1) ∧ i + 1 ≤ n ∧ (∀ z, (σ0.set 0 (some x)).set 0 z = σ0.set 0 z) ∧ Pv (i + 1) ys' H5) ↔ Pv (i + 1) ys' H5 := fun ys' H5 =>
      ⟨fun ⟨_, _, _, _, _, q⟩ => q, fun q => ⟨n - (i + 1), by omega, rfl, hlt, e1, q⟩⟩
    simp only [e2]
    exact st
  · have e : i = n := by omega
    subst e
    exact .inl ⟨hst ys H' p, fin ys H' p⟩
theorem comp_of {α : Type} {K : PySem.W.Frag} {a : Addr} {ms : List α} {σ0 : St} {H1 : Hp} {tc : TT} {te : TE} {Q : VK} (u : α → V) (p : α → Bool) (f : α → V) (hq : SqL K H1 a (ms.map u)) (hn : ms.length ≤ sizeLine)
    (ht : ∀ x ∈ ms, PuT tc (σ0.set 0 (some (u x))) H1 (p x)) (he : ∀ x ∈ ms, p x = true → Pu te (σ0.set 0 (some (u x))) H1 (f x))
    (fin : ∀ D H', H1 D = none → Same H1 H' → H' D = some (.lst ((ms.filter p).map f)) → Q (.ref D) H') :
    CompRun (Itl K a) (gName 0) tc te σ0 H1 Q := by
  intro D hD
  refine comp_by (n := ms.length) (fun i ys H' => Same H1 H' ∧ H' D = some (.lst ys) ∧ ys = ((ms.take i).filter p).map f) ⟨Same.new hD, upd_same, by simp⟩ (fun i ys H' _ q => q.2.1) (fun i ys H' hi q => ⟨ms.map u, u ms[i], q.1.seq hq, by simp [hi]⟩)
    (fun ys H' q => ⟨ms.map u, q.1.seq hq, by simp⟩) ?_ (fun ys H' q => ?_)
  · rintro i ys H' x H2 hi ⟨sm, hDl, hys⟩ ⟨rfl, hy⟩
    have hx : (ms.map u)[i]? = some x := hy _ (sm.seq hq)
    obtain ⟨z, hz, rfl⟩ : ∃ z, ms[i]? = some z ∧ u z = x := by
      rw [List.getElem?_map] at hx
      cases e : ms[i]? with
      | none => rw [e] at hx; cases hx
      | some z => rw [e] at hx; exact ⟨z, rfl, Option.some.inj hx⟩
    have hm : z ∈ ms := List.mem_of_getElem? hz
    have tk : ms.take (i + 1) = ms.take i ++ [z] := by
      rw [List.take_add_one, hz]
      simp only [Option.toList]
    have hlen : ys.length ≤ i := by
      rw [hys, List.length_map]
      exact Nat.le_trans (List.length_filter_le _ _) (by rw [List.length_take]; omega)
    refine ht z hm _ _ sm fun H4 s4 => ?_
    cases hp : p z with
    | true =>
      refine iteT ?_
      refine he z hm hp _ _ (sm.trans s4) fun H5 s5 => ⟨s5 _ _ (s4 _ _ hDl), by omega, ((sm.trans s4).trans s5).upd hD, upd_same, ?_⟩
      rw [tk, List.filter_append, List.map_append, ← hys]
      simp [hp]
    | false =>
      refine iteF ⟨sm.trans s4, s4 _ _ hDl, ?_⟩
      rw [tk, List.filter_append, List.map_append, ← hys]
      simp [hp]
  · obtain ⟨sm, hDl, hys⟩ := q
    rw [List.take_length] at hys
    exact fin D H' hD sm (by rw [← hys]; exact hDl)
theorem comp_map {α : Type} {K : PySem.W.Frag} {a : Addr} {ms : List α} {σ0 : St} {H1 : Hp} {te : TE} {Q : VK} (u : α → V) (f : α → V) (hq : SqL K H1 a (ms.map u)) (hn : ms.length ≤ sizeLine)
    (he : ∀ x ∈ ms, Pu te (σ0.set 0 (some (u x))) H1 (f x))
    (fin : ∀ D H', H1 D = none → Same H1 H' → H' D = some (.lst (ms.map f)) → Q (.ref D) H') :
    CompRun (Itl K a) (gName 0) tTrue te σ0 H1 Q :=
  comp_of u (fun _ => true) f hq hn (fun _ _ => puT_true) (fun x hx _ => he x hx) fun D H' hD sm e => fin D H' hD sm (by rw [List.filter_eq_self.mpr (fun _ _ => rfl)] at e; exact e)
theorem comp_range {lo : Int} {n : Nat} {σ0 : St} {H1 : Hp} {te : TE} {Q : VK} (f : Nat → V) (hn : n ≤ sizeLine)
    (he : ∀ i, i < n → Pu te (σ0.set 0 (some (.int (lo + i)))) H1 (f i))
    (fin : ∀ D H', H1 D = none → Same H1 H' → H' D = some (.lst ((List.range n).map f)) → Q (.ref D) H') :
    CompRun (Itr lo n) (gName 0) tTrue te σ0 H1 Q := by
  intro D hD
  refine comp_by (n := n) (fun i ys H' => Same H1 H' ∧ H' D = some (.lst ys) ∧ ys = (List.range i).map f) ⟨Same.new hD, upd_same, by simp⟩ (fun i ys H' _ q => q.2.1) (fun i ys H' hi q => hi)
    (fun ys H' q => Nat.le_refl _) ?_ (fun ys H' q => ?_)
  · rintro i ys H' x H2 hi ⟨sm, hDl, hys⟩ ⟨rfl, rfl⟩
    unfold tTrue
    refine iteT ?_
    refine he i hi _ _ sm fun H5 s5 => ⟨s5 _ _ hDl, ?_, (sm.trans s5).upd hD, upd_same, ?_⟩
    · rw [hys, List.length_map, List.length_range]
      omega
    · rw [List.range_succ, List.map_append, ← hys]
      simp
  · obtain ⟨sm, hDl, hys⟩ := q
    exact fin D H' hD sm (by rw [← hys]; exact hDl)
def DefAt (K : PySem.W.Frag) (mg : Str → Option Value) (x : Str) (st : Stmt) (ps : List Str) : Prop := ∃ f fd, Fun K x x st f fd ∧ mg x = some (.ref f) ∧ Binds K fd ps []
def FnAt (P : Program) (w : World) (K : PySem.W.Frag) (mg : Str → Option Value) (base : Heap) (k : Nat) (x : Str) (ps : List Str) (sp : Sp) : Prop :=
  ∃ f fd, FnOk P w K mg base CX0 k f fd ps sp ∧ mg x = some (.ref f) ∧ PySem.W.keepIn K (.ref f) = true ∧ Binds K fd ps []
theorem FnAt.of {P : Program} {w : World} {K : PySem.W.Frag} {mg : Str → Option Value} {base : Heap} {k : Nat} {x : Str} {st : Stmt} {N ps : List Str} {sp : Sp} (D : DefAt K mg x st ps) (S : FnScope N ps (defScope st)) (len : ∀ vs H Q E, sp vs H Q E → vs.length = ps.length)
    (hbody : ∀ (f : Addr) (cdv : Value) (A : Around) (outer : List Env) (s : Shared) (H : Hp) (vs : List V) (Q : VK) (E : XK), Room k (A.deeper (envOfC x (defScope st) s.heap.objs.size f cdv)) → sp vs H Q E →
      ∃ t, PSs (cxOf CX0 P w K mg base N x (defScope st) f cdv A outer s H E).nox (defBody st) t ∧ t { nx := fun _ H' => Q .non H', rt := Q } (start N vs) H) : FnAt P w K mg base (k + 1) x ps sp := by
  obtain ⟨f, fd, F, hm, hb⟩ := D
  exact ⟨f, fd, F.ok S len fun cdv A outer s H vs Q E hr h => hbody f cdv A outer s H vs Q E hr h, hm, F.kp, hb⟩
def tF (sp : Sp) (t : TA) : TE := fun σ H Q => t σ H fun vs H1 => sp vs H1 Q E0
section
variable {X : Cx} {k : Nat} {x : Str} {ps : List Str} {sp : Sp} {e : Expr} {es : List Expr} {t : TA} {p pos : Pos}
theorem pe_f (F : FnAt X.prog X.w X.K X.mg X.base k x ps sp) (hr : Room k X.A) (ha : PA X (e :: es) t) (hg : Gl X x := by rfl) (hdb : (x == ("__debug__" : Str)) = false := by decide)
    (he : starEach (e :: es) X.env = (false, eval e X.env) :: starEach es X.env := by rfl) (hpl : (backTo pos (starEach es X.env)).any (·.1) = false := by rfl) : PE X (.Call (.Name x p) (e :: es) [] pos) (tF sp t) := by
  obtain ⟨f, fd, F, hm, hk, hb⟩ := F
  have q := pe_call (p := p) (pos := pos) F hr hg hm hk hb .nil (pass0 (X := X)) ha hdb he hpl
  have e : tCall sp [] E0 t = tF sp t := by
    unfold tCall tF
    simp only [List.append_nil]
  rw [e] at q
  exact q
theorem pe_b {id : String} {r : List V → Hp → VK → Prop} (hc : CallR X (.builtin id) r) (hm : X.mg x = none) (hv : bootBuiltins x = some (.builtin id)) (ha : PA X (e :: es) t) (hg : Gl X x := by rfl) (hn : x ≠ "__name__" := by decide) (hdb : (x == ("__debug__" : Str)) = false := by decide)
    (he : starEach (e :: es) X.env = (false, eval e X.env) :: starEach es X.env := by rfl) (hpl : (backTo pos (starEach es X.env)).any (·.1) = false := by rfl) : PE X (.Call (.Name x p) (e :: es) [] pos) (tCB r t) := pe_callB hc hg hm hv ha hn hdb he hpl
theorem pe_t {T : String} {r : List V → Hp → VK → Prop} (hc : CallR X (.type T) r) (hm : X.mg x = none) (hv : bootBuiltins x = some (.type T)) (ha : PA X (e :: es) t) (hg : Gl X x := by rfl) (hn : x ≠ "__name__" := by decide) (hdb : (x == ("__debug__" : Str)) = false := by decide)
    (he : starEach (e :: es) X.env = (false, eval e X.env) :: starEach es X.env := by rfl) (hpl : (backTo pos (starEach es X.env)).any (·.1) = false := by rfl) : PE X (.Call (.Name x p) (e :: es) [] pos) (tCB r t) := pe_callTy hc hg hm hv ha hn hdb he hpl
theorem pe_ty {T : String} {pos : Pos} (hm : X.mg x = none) (hv : bootBuiltins x = some (.type T)) (hg : Gl X x := by rfl) (hn : x ≠ "__name__" := by decide) (hd : (x == ("__debug__" : Str)) = false := by decide) : PE X (.Name x pos) (tC (.ty T)) :=
  pe_bltn hg hm hv rfl hn hd
theorem pg_c {N' : List Str} {scope : Scope} {cl : List (Str × Addr)} {C : Addr} {s2 : Shared} {H2 : Hp} {ex : List Addr} (i : Nat) {y : Str} (nd : N'.Nodup) (hi : N'[i]? = some y := by rfl) (hx : (relabel scope X.env).names.lookup y = some .local := by rfl) :
    PG (X.comp N' scope cl C s2 H2 ex) (.Name y pos) (gName i) := pg_name (X := X.comp N' scope cl C s2 H2 ex) nd hi (.inl hx) (.inr hx)
end
section
variable {X : Cx}
theorem ixL (K : PySem.W.Frag) (hK : X.K = K := by rfl) : IxR X (rIxL K) := by subst hK; exact ix_list
theorem lenK (K : PySem.W.Frag) (hK : X.K = K := by rfl) : CallR X (.builtin "len") (fun xs H Q => ∃ p ys, xs = [.ref p] ∧ (SqL K H p ys ∨ SqT K H p ys) ∧ Q (.int ys.length) H) := by subst hK; exact call_len_seq
theorem isiK (K : PySem.W.Frag) (hK : X.K = K := by rfl) : CallR X (.builtin "isinstance") (fun xs H Q => ∃ x T t b, xs = [x, .ty T] ∧ TyOf K H x t ∧ PySem.W.kitOne K t (.type T) = some b ∧ Q (.bl b) H) := by subst hK; exact call_isinst
theorem listK (K : PySem.W.Frag) (hK : X.K = K := by rfl) : CallR X (.type "list") (fun xs H Q => ∃ p ys, xs = [.ref p] ∧ (SqL K H p ys ∨ SqT K H p ys) ∧ ∀ l, H l = none → Q (.ref l) (upd H l (.lst ys))) := by subst hK; exact call_list_of
end
theorem kit_ii (K : PySem.W.Frag) : PySem.W.kitOne K (.type "int") (.type "int") = some true := by kernel_rfl
theorem kit_ib (K : PySem.W.Frag) : PySem.W.kitOne K (.type "int") (.type "bool") = some false := by kernel_rfl
theorem kit_ll (K : PySem.W.Frag) : PySem.W.kitOne K (.type "list") (.type "list") = some true := by kernel_rfl
theorem kit_tt (K : PySem.W.Frag) : PySem.W.kitOne K (.type "tuple") (.type "tuple") = some true := by kernel_rfl
end L2
set_option Elab.async false
set_option linter.all false
set_option maxRecDepth 100000
set_option maxHeartbeats 4000000
namespace L2
open PySem PySem.Spec PyProof.Rows
section
variable {X : Cx}
def rAddI : R2 := fun x y H Q => ∃ i j : Int, x = .int i ∧ y = .int j ∧ Q (.int (i + j)) H
def rSubI : R2 := fun x y H Q => ∃ i j : Int, x = .int i ∧ y = .int j ∧ Q (.int (i - j)) H
def rMulI : R2 := fun x y H Q => ∃ i j : Int, x = .int i ∧ y = .int j ∧ CMul i j ∧ Q (.int (i * j)) H
def rModI : R2 := fun x y H Q => ∃ i j : Int, x = .int i ∧ y = .int j ∧ 0 < j ∧ Q (.int (i % j)) H
def rDivI : R2 := fun x y H Q => ∃ i j : Int, x = .int i ∧ y = .int j ∧ CDiv i j ∧ Q (.int (i / j)) H
def rPowI : R2 := fun x y H Q => ∃ i j : Int, x = .int i ∧ y = .int j ∧ CPow i j ∧ Q (.int (i ^ j.toNat)) H
def rLtI : R2 := fun x y H Q => ∃ i j : Int, x = .int i ∧ y = .int j ∧ Q (.bl (decide (i < j))) H
def rLeI : R2 := fun x y H Q => ∃ i j : Int, x = .int i ∧ y = .int j ∧ Q (.bl (decide (i ≤ j))) H
def rGtI : R2 := fun x y H Q => ∃ i j : Int, x = .int i ∧ y = .int j ∧ Q (.bl (decide (j < i))) H
def rGeI : R2 := fun x y H Q => ∃ i j : Int, x = .int i ∧ y = .int j ∧ Q (.bl (decide (j ≤ i))) H
def rNegI : V → Hp → VK → Prop := fun x H Q => ∃ i : Int, x = .int i ∧ Q (.int (-i)) H
theorem o_add : OpR X (binaryOp .Add) rAddI := op_add
theorem o_sub : OpR X (binaryOp .Sub) rSubI := op_sub
theorem o_mul : OpR X (binaryOp .Mult) rMulI := op_mul
theorem o_mod : OpR X (binaryOp .Mod) rModI := op_mod
theorem o_div : OpR X (binaryOp .FloorDiv) rDivI := op_fdiv
theorem o_pow : OpR X (binaryOp .Pow) rPowI := op_pow
theorem o_lt : OpR X (compareOp .Lt) rLtI := op_lt
theorem o_le : OpR X (compareOp .LtE) rLeI := op_le
theorem o_gt : OpR X (compareOp .Gt) rGtI := op_gt
theorem o_ge : OpR X (compareOp .GtE) rGeI := op_ge
theorem o_neg : UnR X (unaryOp .USub) rNegI := un_neg
end
end L2
set_option Elab.async false
set_option linter.all false
set_option maxRecDepth 100000
set_option maxHeartbeats 4000000
namespace L2
open PySem PySem.Spec PyProof.Rows
theorem Inv.turnedL {X : Cx} {pins : List (Addr × Obj)} {σ : St} {H : Hp} {s : Shared} {h' : Heap} {t' : Nat} {fp : List Addr} (I : Inv X pins σ H s) (hf : ∀ b ∈ fp, FpOk X pins H b)
    (k : ∀ b o, b ∉ fp → s.heap.get? b = some o → h'.get? b = some o) : Inv X pins σ H { s with heap := h', toks := t' } := by
  have nfp : ∀ b o, H b = some o → b ∉ fp := fun b o q hb => by have := (hf b hb).1; rw [q] at this; cases this
  refine I.step (g' := s.gens) (d' := s.drawn) (ch := fp) (fun b hb => ?_) (fun b o _ _ hc q _ => k b o hc q) (fun b o _ _ hc q _ => ⟨o.slots, k b o hc q⟩) (fun b o _ _ n => n)
    (fun b o hc q => ⟨o, k b o hc q⟩) (fun b ys q => q) (fun b o u q => q) (fun b ps q => ⟨#[], by rw [q]; simp⟩) (fun m hm => ?_) (fun b u q => ?_) I.bare
  · obtain ⟨_, f1, _, f3, f4, f5⟩ := hf b hb
    exact ⟨f3, f1, f4, f5⟩
  · obtain ⟨o, es, ep, ho, r⟩ := hm
    exact ⟨o, es, ep, k _ o (fun z => (hf _ z).2.1 rfl) ho, r⟩
  · refine (I.hok b u q).stay (fun c v hc w => k c v ?_ w) (fun c w => w) fun c ys w => w
    rcases hc with rfl | hc
    · exact nfp _ _ q
    · exact nfp _ _ hc
theorem Inv.sq_ne {X : Cx} {pins : List (Addr × Obj)} {σ : St} {H : Hp} {s : Shared} {a b : Addr} {xs : List V} (I : Inv X pins σ H s) (h : SqL X.K H a xs) (f : FpOk X pins H b) : a ≠ b := by
  rintro rfl
  rcases h with (h | ⟨o, h⟩) | ⟨o, its, n, hk, _⟩
  · rw [f.1] at h
    cases h
  · rw [f.1] at h
    cases h
  · have hb : X.base.get? a = some o := I.ok.mod.kin a o hk
    rcases f.2.2.2.1 with z | z
    · exact I.ok.noex a o hb z
    · exact absurd (Nat.lt_of_lt_of_le (Heap.lt_size (I.ok.bs a o hb).1) z) (Nat.lt_irrefl _)
def Itz (K : PySem.W.Frag) (a c : Addr) : It :=
  ⟨fun i H => ∃ xs ys x y, SqL K H a xs ∧ SqL K H c ys ∧ xs[i]? = some x ∧ ys[i]? = some y,
    fun i H v H' => ∃ T x y, v = .ref T ∧ H T = none ∧ H' = upd H T (.tup [x, y]) ∧ (∀ xs, SqL K H a xs → xs[i]? = some x) ∧ ∀ ys, SqL K H c ys → ys[i]? = some y,
    fun i H => ∃ xs ys, SqL K H a xs ∧ SqL K H c ys ∧ (xs.length ≤ i ∨ ys.length ≤ i)⟩
structure ZipAt (h : Heap) (z TI TO i1 i2 l1 l2 : Addr) (i : Nat) : Prop where
  hz : IsZip h z TI TO .none
  hTI : IsPair h TI (.ref i1) (.ref i2)
  hTO : ∃ a b, IsPair h TO a b
  h1 : h.IsListIter i1 l1 i
  h2 : h.IsListIter i2 l2 i
  nd : [z, TI, TO, i1, i2].Nodup
theorem turn_zip {P : Program} {w : World} {K : PySem.W.Frag} {es : List Expr} {k1} {ps : Pos} (a c z TI TO i1 i2 : Addr) : Turn P w K (.Tuple es k1 ps) (Itz K a c) [z, TI, TO, i1, i2] z (fun i h => ZipAt h z TI TO i1 i2 a c i) where
  mem := by simp
  obj := fun i h st b hb => by
    simp only [List.mem_cons, List.not_mem_nil, or_false] at hb
    rcases hb with rfl | rfl | rfl | rfl | rfl
    · exact ⟨_, st.hz, fun v q => by have q' : Data.fields _ = Data.cell v := q; cases q'⟩
    · exact ⟨_, st.hTI, fun v q => by have q' : Data.seq _ _ = Data.cell v := q; cases q'⟩
    · obtain ⟨x, y, e⟩ := st.hTO
      exact ⟨_, e, fun v q => by have q' : Data.seq _ _ = Data.cell v := q; cases q'⟩
    · obtain ⟨o, e, _, d⟩ := st.h1
      exact ⟨o, e, fun v q => by rw [d] at q; cases q⟩
    · obtain ⟨o, e, _, d⟩ := st.h2
      exact ⟨o, e, fun v q => by rw [d] at q; cases q⟩
  keep := fun i h h' st k => ⟨k z (by simp) _ st.hz, k TI (by simp) _ st.hTI, let ⟨x, y, e⟩ := st.hTO; ⟨x, y, k TO (by simp) _ e⟩, st.h1.at fun o q => k i1 (by simp) o q, st.h2.at fun o q => k i2 (by simp) o q, st.nd⟩
  item := by
    intro X hP hw hK hc i pins s σ H E I hf st hg
    subst hP hw hK
    obtain ⟨xs, ys, x, y, hq, hq2, hx, hy⟩ := hg
    obtain ⟨its, rv, p, _⟩ := I.list hq
    obtain ⟨its2, rv2, p2, _⟩ := I.list hq2
    obtain ⟨u, hu, ru⟩ := rv.get hx
    obtain ⟨u2, hu2, ru2⟩ := rv2.get hy
    obtain ⟨ta, tb, hTO⟩ := st.hTO
    have nd := st.nd
    simp only [List.nodup_cons, List.mem_cons, List.not_mem_nil, or_false, not_or, List.nodup_nil, and_true, not_false_eq_true] at nd
    obtain ⟨⟨n1, n2, n3, n4⟩, ⟨n5, n6, n7⟩, ⟨n8, n9⟩, n10⟩ := nd
    have Dz : ZipApart z TI TO i1 i2 a c := ⟨Ne.symm n1, Ne.symm n2, Ne.symm n3, Ne.symm n4, n5, n6, n7, n8, n9, n10, I.sq_ne hq (hf z (by simp)), I.sq_ne hq (hf TO (by simp)), I.sq_ne hq (hf i1 (by simp)), I.sq_ne hq (hf i2 (by simp)),
      I.sq_ne hq2 (hf z (by simp)), I.sq_ne hq2 (hf TO (by simp)), I.sq_ne hq2 (hf i1 (by simp)), I.sq_ne hq2 (hf i2 (by simp))⟩
    refine wpAny_pyNext_zip_item Dz st.hz st.hTI hTO st.h1 st.h2 p.isList p2.isList (x := u) (y := u2) (by simpa using hu) (by simpa using hu2) fun h' z1 z2 z3 z4 z5 z6 z7 => ?_
    refine ⟨_, rfl, wpAny_letOwnedTupleGo_zip z1 fun h2 hz2 hs2 => ?_⟩
    have hs2' : Heap.SameBut z h' h2 := hs2
    have zlt : z ≠ s.heap.objs.size := Nat.ne_of_lt (Heap.lt_size st.hz)
    have fresh : ∀ b ∈ [z, TI, TO, i1, i2], b ≠ s.heap.objs.size := fun b hb => by
      simp only [List.mem_cons, List.not_mem_nil, or_false] at hb
      rcases hb with rfl | rfl | rfl | rfl | rfl
      · exact zlt
      · exact Nat.ne_of_lt (Heap.lt_size st.hTI)
      · exact Nat.ne_of_lt (Heap.lt_size hTO)
      · obtain ⟨o, e, _⟩ := st.h1; exact Nat.ne_of_lt (Heap.lt_size e)
      · obtain ⟨o, e, _⟩ := st.h2; exact Nat.ne_of_lt (Heap.lt_size e)
    have hT2 : IsPair h2 s.heap.objs.size u u2 := (hs2'.2 _ (Ne.symm zlt)).trans z5
    have st2 : ZipAt h2 z TI TO i1 i2 a c (i + 1) := ⟨hz2, (hs2'.2 TI (Ne.symm n1)).trans (z7 TI _ (Ne.symm n1) n5 n6 n7 st.hTI), ⟨_, _, (hs2'.2 TO (Ne.symm n2)).trans z2⟩, z3.at fun o q => (hs2'.2 i1 (Ne.symm n3)).trans q, z4.at fun o q => (hs2'.2 i2 (Ne.symm n4)).trans q, st.nd⟩
    have hfr : H s.heap.objs.size = none := I.hok.fresh (Nat.le_refl _)
    have I2 : Inv X pins σ (upd H s.heap.objs.size (.tup [x, y])) { s with heap := h2, toks := s.toks } := by
      refine I.tupNew (its := [u, u2]) hf (Nat.le_refl _) (fun b o hb q => ?_) (by show 2 ≤ sizeLine; decide) (.cons ru (.cons ru2 .nil)) hT2 (fun b hb => ?_)
      · simp only [List.mem_cons, List.not_mem_nil, or_false, not_or] at hb
        exact (hs2'.2 b hb.1).trans (z7 b o hb.1 hb.2.2.1 hb.2.2.2.1 hb.2.2.2.2 q)
      · simp only [List.mem_cons, List.not_mem_nil, or_false] at hb
        rcases hb with rfl | rfl | rfl | rfl | rfl
        · exact ⟨_, st2.hz⟩
        · exact ⟨_, st2.hTI⟩
        · obtain ⟨_, _, e⟩ := st2.hTO; exact ⟨_, e⟩
        · obtain ⟨o, e, _⟩ := st2.h1; exact ⟨_, e⟩
        · obtain ⟨o, e, _⟩ := st2.h2; exact ⟨_, e⟩
    refine ⟨.ref s.heap.objs.size, _, I2, rfl, ⟨_, x, y, rfl, hfr, rfl, fun zs hz => by rw [I.list_inj hz hq]; exact hx, fun zs hz => by rw [I.list_inj hz hq2]; exact hy⟩, st2, fun b hb => ?_⟩
    rw [upd_ne (fresh b hb)]
    exact (hf b hb).1
  done := by
    intro X hP hw hK hc i pins s σ H E I hf st hg
    subst hP hw hK
    obtain ⟨xs, ys, hq, hq2, hend⟩ := hg
    obtain ⟨its, rv, p, _⟩ := I.list hq
    obtain ⟨its2, rv2, p2, _⟩ := I.list hq2
    obtain ⟨ta, tb, hTO⟩ := st.hTO
    have nd := st.nd
    simp only [List.nodup_cons, List.mem_cons, List.not_mem_nil, or_false, not_or, List.nodup_nil, and_true, not_false_eq_true] at nd
    obtain ⟨⟨n1, n2, n3, n4⟩, ⟨n5, n6, n7⟩, ⟨n8, n9⟩, n10⟩ := nd
    have Dz : ZipApart z TI TO i1 i2 a c := ⟨Ne.symm n1, Ne.symm n2, Ne.symm n3, Ne.symm n4, n5, n6, n7, n8, n9, n10, I.sq_ne hq (hf z (by simp)), I.sq_ne hq (hf TO (by simp)), I.sq_ne hq (hf i1 (by simp)), I.sq_ne hq (hf i2 (by simp)),
      I.sq_ne hq2 (hf z (by simp)), I.sq_ne hq2 (hf TO (by simp)), I.sq_ne hq2 (hf i1 (by simp)), I.sq_ne hq2 (hf i2 (by simp))⟩
    have l1 := rv.length
    have l2 := rv2.length
    refine wpAny_pyNext_zip_end (I.ok.hd hc) Dz st.hz st.hTI hTO st.h1 st.h2 p.isList p2.isList (hend.elim (fun q => .inl (by simp; omega)) fun q => .inr (by simp; omega)) fun h' k => ⟨rfl, I.turnedL (t' := s.toks) hf fun b o hb q => ?_⟩
    simp only [List.mem_cons, List.not_mem_nil, or_false, not_or] at hb
    exact k b o hb.1 hb.2.2.1 hb.2.2.2.1 hb.2.2.2.2 q
  self := fun _ _ _ _ _ st h => wpAny_pyIter_zip st.hz h
def iZip (K : PySem.W.Frag) (ta : TA) : TI := fun σ H R => ta σ H fun vs H1 => ∃ a c, vs = [.ref a, .ref c] ∧ (∃ xs, SqL K H1 a xs) ∧ (∃ ys, SqL K H1 c ys) ∧ R (Itz K a c) H1
theorem pi_zip {X : Cx} {a b : Expr} {ta : TA} {es : List Expr} {k1} {ps p pos : Pos} (hg : Gl X "zip") (hm : X.mg "zip" = none) (ha : PA X [a, b] ta) (hs : starEach [a, b] X.env = [(false, eval a X.env), (false, eval b X.env)] := by rfl) (hs2 : starEach [b] X.env = [(false, eval b X.env)] := by rfl) :
    PI X (.Tuple es k1 ps) (.Call (.Name "zip" p) [a, b] [] pos) (iZip X.K ta) := by
  intro pins s σ H R I h
  refine Call_ (ld_blt I hg hm boot_zip (PyProof.Rows.callWith_type1 (thn (ha pos pins s σ H _ I h) fun us s1 ⟨vs, H1, I1, r1, q1⟩ => ?_) (by rw [hs, hs2]) (by rw [hs2]; rfl)))
  obtain ⟨a, c, e, ⟨xs, hq⟩, ⟨ys, hq2⟩, q⟩ := q1
  subst e
  obtain ⟨u, v, rfl, ru, rv⟩ := r1.two
  cases ru
  cases rv
  obtain ⟨its, _, pl, _⟩ := I1.list hq
  obtain ⟨its2, _, pl2, _⟩ := I1.list hq2
  refine call_zip_2 pl.isList pl2.isList fun h' z1 z2 z3 z4 z5 z6 z7 => wpAny_pyIter_zip z1 ?_
  have I2 : Inv X pins σ H1 { s1 with heap := h' } := I1.kept (t' := s1.toks) z7
  refine ⟨s1.heap.objs.size + 4, [s1.heap.objs.size + 4, s1.heap.objs.size + 2, s1.heap.objs.size + 3, s1.heap.objs.size, s1.heap.objs.size + 1], _, _, H1, rfl, I2, turn_zip a c _ _ _ _ _, ⟨z1, z2, ⟨_, _, z3⟩, z4, z5, ?_⟩, fun b hb => ?_, q⟩
  · generalize s1.heap.objs.size = n
    show List.Nodup ([n + 4, n + 2, n + 3, n, n + 1] : List Nat)
    simp
  · have hb' : s1.heap.objs.size ≤ b := by
      simp only [List.mem_cons, List.not_mem_nil, or_false] at hb
      rcases hb with rfl | rfl | rfl | rfl | rfl
      · exact Nat.le_add_right _ _
      · exact Nat.le_add_right _ _
      · exact Nat.le_add_right _ _
      · exact Nat.le_refl _
      · exact Nat.le_add_right _ _
    exact I1.fpOk hb' (I1.hok.fresh hb')
theorem set2 {σ : St} {a b u v : Option V} : ((((σ.set 0 a).set 1 b).set 0 u).set 1 v) = (σ.set 0 u).set 1 v := by
  rw [List.set_comm b u (by decide : (1 : Nat) ≠ 0), List.set_set, List.set_set]
theorem compE_by {K : PySem.W.Frag} {a : Addr} {xs : List V} {σ0 : St} {H1 : Hp} {D : Addr} {tc : TT} {te : TE} {Q : VK} (Pv : Nat → List V → Hp → Prop) (h0 : Pv 0 [] (upd H1 D (.lst [])))
    (hl : ∀ i ys H', i ≤ xs.length → Pv i ys H' → H' D = some (.lst ys) ∧ SqL K H' a xs)
    (step : ∀ i x ys H' T, xs[i]? = some x → Pv i ys H' → H' T = none → tc ((σ0.set 0 (some (.int (i : Nat)))).set 1 (some x)) (upd H' T (.tup [.int (i : Nat), x])) fun b H4 =>
      if b = true then te ((σ0.set 0 (some (.int (i : Nat)))).set 1 (some x)) H4 fun y H5 => H5 D = some (.lst ys) ∧ ys.length < sizeLine ∧ Pv (i + 1) (ys ++ [y]) (upd H5 D (.lst (ys ++ [y]))) else Pv (i + 1) ys H4)
    (fin : ∀ ys H', Pv xs.length ys H' → Q (.ref D) H') :
    ∃ W : Nat → Nat → List V → St → Hp → Prop, (∃ m, W 0 m [] σ0 (upd H1 D (.lst []))) ∧
      ∀ i m ys σ' H', W i m ys σ' H' → H' D = some (.lst ys) ∧ (((Ite K a).stop i H' ∧ Q (.ref D) H') ∨ ((Ite K a).go i H' ∧ ∀ x H2, (Ite K a).yld i H' x H2 → gTup K 2 (gCons (gName 0) (gCons (gName 1) gNil)) x σ' H2 fun σ2 H3 => tc σ2 H3 fun b H4 =>
        if b = true then te σ2 H4 fun y H5 => H5 D = some (.lst ys) ∧ ys.length < sizeLine ∧ ∃ m', m' < m ∧ W (i + 1) m' (ys ++ [y]) σ2 (upd H5 D (.lst (ys ++ [y])))
        else ∃ m', m' < m ∧ W (i + 1) m' ys σ2 H4)) := by
  refine ⟨fun i m ys σ' H' => m = xs.length - i ∧ i ≤ xs.length ∧ (∀ u v, (σ'.set 0 u).set 1 v = (σ0.set 0 u).set 1 v) ∧ Pv i ys H', ⟨xs.length, by simp, Nat.zero_le _, fun _ _ => rfl, h0⟩, ?_⟩
  rintro i m ys σ' H' ⟨rfl, hi, es, p⟩
  obtain ⟨hD, hq⟩ := hl i ys H' hi p
  refine ⟨hD, ?_⟩
  by_cases hlt : i < xs.length
  · refine .inr ⟨⟨xs, xs[i], hq, by simp [hlt]⟩, fun x H2 y => ?_⟩
    obtain ⟨T, z, rfl, hT, rfl, y⟩ := y
    have st := step i z ys H' T (y xs hq) p hT
    refine ⟨T, _, rfl, SqT.of upd_same, rfl, _, _, rfl, _, _, rfl, rfl, ?_⟩
    rw [es]
    have e2 : ∀ ys' H5, (∃ m', m' < xs.length - i ∧ m' = xs.length - (i + 1) ∧ i + 1 ≤ xs.length ∧ (∀ u v, ((((σ0.set 0 (some (.int (i : Nat)))).set 1 (some z)).set 0 u).set 1 v) = (σ0.set 0 u).set 1 v) ∧ Pv (i + 1) ys' H5) ↔ Pv (i + 1) ys' H5 := fun ys' H5 =>
      ⟨fun ⟨_, _, _, _, _, q⟩ => q, fun q => ⟨xs.length - (i + 1), by omega, rfl, hlt, fun _ _ => set2, q⟩⟩
    simp only [e2]
    exact st
  · have e : i = xs.length := by omega
    subst e
    exact .inl ⟨⟨xs, hq, Nat.le_refl _⟩, fin ys H' p⟩
theorem compE_run {K : PySem.W.Frag} {a : Addr} {xs : List V} {σ0 : St} {H1 : Hp} {tc : TT} {te : TE} {Q : VK} (Pv : Addr → Nat → List V → Hp → Prop) (h0 : ∀ D, H1 D = none → Pv D 0 [] (upd H1 D (.lst [])))
    (hl : ∀ D i ys H', H1 D = none → i ≤ xs.length → Pv D i ys H' → H' D = some (.lst ys) ∧ SqL K H' a xs)
    (step : ∀ D i x ys H' T, H1 D = none → xs[i]? = some x → Pv D i ys H' → H' T = none → tc ((σ0.set 0 (some (.int (i : Nat)))).set 1 (some x)) (upd H' T (.tup [.int (i : Nat), x])) fun b H4 =>
      if b = true then te ((σ0.set 0 (some (.int (i : Nat)))).set 1 (some x)) H4 fun y H5 => H5 D = some (.lst ys) ∧ ys.length < sizeLine ∧ Pv D (i + 1) (ys ++ [y]) (upd H5 D (.lst (ys ++ [y]))) else Pv D (i + 1) ys H4)
    (fin : ∀ D ys H', H1 D = none → Pv D xs.length ys H' → Q (.ref D) H') : CompRun (Ite K a) (gTup K 2 (gCons (gName 0) (gCons (gName 1) gNil))) tc te σ0 H1 Q :=
  fun D hD => compE_by (Pv D) (h0 D hD) (fun i ys H' hi p => hl D i ys H' hD hi p) (fun i x ys H' T hx p hT => step D i x ys H' T hD hx p hT) fun ys H' p => fin D ys H' hD p
theorem pg_c2 {X : Cx} {N' : List Str} {scope : Scope} {cl : List (Str × Addr)} {C : Addr} {s2 : Shared} {H2 : Hp} {ex : List Addr} {y z : Str} {p1 p2 pos : Pos} {k : Nat} (K : PySem.W.Frag) (hc : X.calm = true) (nd : N'.Nodup) (h0 : N'[0]? = some y := by rfl) (h1 : N'[1]? = some z := by rfl)
    (hy : (relabel scope X.env).names.lookup y = some .local := by rfl) (hz : (relabel scope X.env).names.lookup z = some .local := by rfl) (hK : X.K = K := by rfl) :
    PG (X.comp N' scope cl C s2 H2 ex) (.Tuple [.Name y p1, .Name z p2] k pos) (gTup K 2 (gCons (gName 0) (gCons (gName 1) gNil))) := by
  subst hK
  exact pg_tup (X := X.comp N' scope cl C s2 H2 ex) hc (pgs_cons (pg_name (X := X.comp N' scope cl C s2 H2 ex) nd h0 (.inl hy) (.inr hy)) (pgs_cons (pg_name (X := X.comp N' scope cl C s2 H2 ex) nd h1 (.inl hz) (.inr hz)) pgs_nil))
end L2
set_option Elab.async false
set_option linter.all false
set_option maxRecDepth 100000
set_option maxHeartbeats 4000000
namespace L2
open PySem PySem.Spec PyProof.Rows
theorem call_maxL {X : Cx} (hc : X.calm = true) : CallR X (.builtin "max") (fun xs H Q => ∃ (p : Addr) (ns : List Int), xs = [.ref p] ∧ SqL X.K H p (ns.map V.int) ∧ 0 < ns.length ∧ ∀ M, M ∈ ns → (∀ a ∈ ns, a ≤ M) → Q (.int M) H) := by
  intro pins s σ H xs us Q I rv h
  obtain ⟨p, ns, rfl, hq, hne, q⟩ := h
  obtain ⟨u, rfl, ru⟩ := rv.one
  cases ru
  obtain ⟨its, r, pl, _⟩ := I.list hq
  have hi := ints_of r
  obtain ⟨ys, e⟩ := hi.allInts.items
  have hl := pl.isList
  have en : ns = ys.toList.map (·.1) := by
    have e1 := hi.numsOf
    have e2 := nums_intItems ys
    rw [← e] at e2
    exact e1.symm.trans e2
  have lz : ys.size = ns.length := by rw [en]; simp
  rw [e] at hl
  refine max_intList (I.ok.hd hc) hl (by omega) fun v h' tk hv hk => ?_
  obtain ⟨t, rfl⟩ := intItems_at hv
  obtain ⟨b1, b2⟩ := argBest_gt (numAt ys) (ys.size - 1)
  refine ⟨.int _, H, I.kept hk, ⟨_, rfl⟩, q _ ?_ fun a ha => ?_⟩
  · rw [en, numAt_eq]
    exact getD_mem (by rw [List.length_map, Array.length_toList]; omega)
  · rw [en] at ha
    obtain ⟨j, hj, rfl⟩ := mem_getD ha
    rw [List.length_map, Array.length_toList] at hj
    have := b2 j (by omega)
    rw [numAt_eq ys j] at this
    exact this
theorem comp_tup {α : Type} {K : PySem.W.Frag} {a : Addr} {σ0 : St} {H1 : Hp} {te : TE} {Q : VK} (u : α → V) {ms : List α} (f : α → V) (hq : SqT K H1 a (ms.map u)) (hn : ms.length ≤ sizeLine)
    (he : ∀ x ∈ ms, Pu te (σ0.set 0 (some (u x))) H1 (f x))
    (fin : ∀ D H', H1 D = none → Same H1 H' → H' D = some (.lst (ms.map f)) → Q (.ref D) H') :
    CompRun (Itt K a) (gName 0) tTrue te σ0 H1 Q := by
  intro D hD
  refine comp_by (n := ms.length) (fun i ys H' => Same H1 H' ∧ H' D = some (.lst ys) ∧ ys = (ms.take i).map f) ⟨Same.new hD, upd_same, by simp⟩ (fun i ys H' _ q => q.2.1) (fun i ys H' hi q => ⟨ms.map u, u ms[i], q.1.tup hq, by simp [hi]⟩)
    (fun ys H' q => ⟨ms.map u, q.1.tup hq, by simp⟩) ?_ (fun ys H' q => ?_)
  · rintro i ys H' x H2 hi ⟨sm, hDl, hys⟩ ⟨rfl, hy⟩
    have hx := hy _ (sm.tup hq)
    rw [List.getElem?_map, List.getElem?_eq_getElem hi] at hx
    have hx : u ms[i] = x := Option.some.inj hx
    subst hx
    unfold tTrue
    refine iteT ?_
    refine he ms[i] (List.getElem_mem hi) _ _ sm fun H5 s5 => ⟨s5 _ _ hDl, ?_, (sm.trans s5).upd hD, upd_same, ?_⟩
    · rw [hys, List.length_map, List.length_take]
      omega
    · rw [List.take_add_one, List.getElem?_eq_getElem hi, List.map_append, ← hys]
      rfl
  · obtain ⟨sm, hDl, hys⟩ := q
    rw [List.take_length] at hys
    exact fin D H' hD sm (by rw [← hys]; exact hDl)
end L2
set_option Elab.async false
set_option linter.all false
set_option maxRecDepth 100000
set_option maxHeartbeats 4000000
namespace SrtT
open PySem PySem.W PyProof.Rows
section
variable {O : KeyOrd} {key : Nat → O.α} {N : Nat} {cmp : Nat → Nat → (Bool → Shared → Prop) → Shared → Prop} {s : Shared}
def kk (key : Nat → O.α) (p : Array Nat) (i : Nat) : O.α := key (p.getD i 0)
def Up (key : Nat → O.α) (p : Array Nat) (k : Nat) : Prop := ∀ i j, i ≤ j → j < k → O.kle (kk key p i) (kk key p j)
def Dn (key : Nat → O.α) (p : Array Nat) (k : Nat) : Prop := ∀ i j, i ≤ j → j < k → O.kle (kk key p j) (kk key p i)
def Fair (key : Nat → O.α) (N : Nat) (cmp : Nat → Nat → (Bool → Shared → Prop) → Shared → Prop) (s : Shared) : Prop := ∀ i j C, i < N → j < N → C (O.blt (key i) (key j)) s → cmp i j C s
def Pm (N : Nat) (p : Array Nat) : Prop := p.Perm (List.toArray (List.range N))
theorem Pm.size {p : Array Nat} (h : Pm N p) : p.size = N := by
  have e := h.size_eq
  simpa using e
theorem Pm.lt {p : Array Nat} (h : Pm N p) {i : Nat} (hi : i < N) : p.getD i 0 < N := by
  have hz := h.size
  have hip : i < p.size := by omega
  have e : p.getD i 0 = p[i] := by simp [Array.getD, hip]
  rw [e]
  have hm : p[i] ∈ (List.range N) := by
    have h1 := (Array.perm_iff_toList_perm.mp h).mem_iff (a := p[i])
    have h2 : p[i] ∈ p.toList := by simp
    simpa using h1.mp h2
  exact List.mem_range.mp hm
theorem Pm.of {p q : Array Nat} (h : Pm N p) (e : q.Perm p) : Pm N q := e.trans h
theorem kk_get {p q : Array Nat} {i j : Nat} (h : p[i]? = q[j]?) : kk key p i = kk key q j := by
  unfold kk
  have e : p.getD i 0 = q.getD j 0 := by
    rw [Array.getD_eq_getD_getElem?, Array.getD_eq_getD_getElem?, h]
  rw [e]
theorem kk_bub {p : Array Nat} {a d : Nat} (ha : a < p.size) (hd : d ≤ a) (k : Nat) :
    kk key (bubble p a d) k = if k = a - d then kk key p a else if a - d < k ∧ k ≤ a then kk key p (k - 1) else kk key p k := by
  have e := getElem?_bubble ha d hd k
  split at e
  · rename_i h1
    rw [if_pos h1]
    exact kk_get e
  · rename_i h1
    rw [if_neg h1]
    split at e
    · rename_i h2
      rw [if_pos h2]
      exact kk_get e
    · rename_i h2
      rw [if_neg h2]
      exact kk_get e
theorem kk_rev {p : Array Nat} {i j : Nat} (hj : j ≤ p.size) (k : Nat) : kk key (kas_rev p i j) k = if i ≤ k ∧ k < j then kk key p (i + j - 1 - k) else kk key p k := by
  have e := getElem?_mirror_all (xs := p) (i := i) hj k
  split at e
  · rename_i h1
    rw [if_pos h1]
    exact kk_get e
  · rename_i h1
    rw [if_neg h1]
    exact kk_get e
theorem kk_alike {p : Array Nat} {i j : Nat} (hj : j ≤ p.size) (he : ∀ k, i ≤ k → k < j → kk key p k = kk key p (j - 1)) (k : Nat) : kk key (kas_rev p i j) k = kk key p k := by
  rw [kk_rev hj]
  by_cases h : i ≤ k ∧ k < j
  · rw [if_pos h, he (i + j - 1 - k) (by omega) (by omega), he k h.1 h.2]
  · rw [if_neg h]
theorem ask {α : Type} {p : Array Nat} {i j : Nat} {k : Bool → KasT α} {Q : α → Shared → Prop} (hf : Fair key N cmp s) (hp : Pm N p) (hi : i < N) (hj : j < N)
    (h : (k (O.blt (kk key p i) (kk key p j))).kasWp cmp Q s) : (KasT.ask (p.getD i 0) (p.getD j 0) k).kasWp cmp Q s := hf _ _ _ (hp.lt hi) (hp.lt hj) h
theorem Up.one {p : Array Nat} : Up key p 1 := fun i j hij hj => by
  have : i = j := by omega
  subst this
  exact KeyOrd.kle_refl _
theorem Up.more {p : Array Nat} {n : Nat} (h1 : 1 ≤ n) (h : Up key p n) (hn : O.kle (kk key p (n - 1)) (kk key p n)) : Up key p (n + 1) := fun i j hij hj => by
  by_cases hjn : j < n
  · exact h i j hij hjn
  · have e : j = n := by omega
    subst e
    by_cases hi : i = j
    · subst hi; exact KeyOrd.kle_refl _
    · exact KeyOrd.kle_trans (h i (j - 1) (by omega) (by omega)) hn
theorem Dn.more {p : Array Nat} {n : Nat} (h1 : 1 ≤ n) (h : Dn key p n) (hn : O.kle (kk key p n) (kk key p (n - 1))) : Dn key p (n + 1) := fun i j hij hj => by
  by_cases hjn : j < n
  · exact h i j hij hjn
  · have e : j = n := by omega
    subst e
    by_cases hi : i = j
    · subst hi; exact KeyOrd.kle_refl _
    · exact KeyOrd.kle_trans hn (h i (j - 1) (by omega) (by omega))
theorem asc {p : Array Nat} {Q : Nat → Shared → Prop} (hf : Fair key N cmp s) (hp : Pm N p) : ∀ f n, 1 ≤ n → n + f ≤ N → Up key p n →
    (∀ m, n ≤ m → m ≤ n + f → Up key p m → (m = n + f ∨ O.klt (kk key p m) (kk key p (m - 1))) → Q m s) → (kas_asc p f n).kasWp cmp Q s
  | 0, n, _, _, hu, q => q n (Nat.le_refl _) (Nat.le_refl _) hu (.inl rfl)
  | f + 1, n, h1, hN, hu, q => by
    refine ask hf hp (by omega) (by omega) ?_
    cases hb : O.blt (kk key p n) (kk key p (n - 1)) with
    | true =>
      rw [if_pos rfl]
      exact q n (Nat.le_refl _) (by omega) hu (.inr hb)
    | false =>
      rw [if_neg (by simp)]
      exact asc hf hp f (n + 1) (by omega) (by omega) (hu.more h1 hb) fun m a b c d => q m (by omega) (by omega) c (d.imp (fun z => by omega) id)
theorem dsc {Q : Array Nat × Nat × Nat → Shared → Prop} (hf : Fair key N cmp s) : ∀ f p n q, Pm N p → 1 ≤ n → n + f ≤ N → Dn key p n → q + 1 ≤ n → (∀ i, n - (q + 1) ≤ i → i < n → kk key p i = kk key p (n - 1)) →
    (∀ p' m q', Pm N p' → n ≤ m → m ≤ n + f → Dn key p' m → q' + 1 ≤ m → (∀ i, m - (q' + 1) ≤ i → i < m → kk key p' i = kk key p' (m - 1)) → Q (p', m, q') s) → (kas_desc f p n q).kasWp cmp Q s
  | 0, p, n, q, hp, h1, hN, hd, hq, he, k => k p n q hp (Nat.le_refl _) (Nat.le_refl _) hd hq he
  | f + 1, p, n, q, hp, h1, hN, hd, hq, he, k => by
    refine ask hf hp (by omega) (by omega) ?_
    have hz := hp.size
    have z0 : ∀ p' : Array Nat, ∀ i, n + 1 - (0 + 1) ≤ i → i < n + 1 → kk key p' i = kk key p' (n + 1 - 1) := fun p' i a b => by
      have : i = n := by omega
      subst this
      rfl
    cases hb : O.blt (kk key p n) (kk key p (n - 1)) with
    | true =>
      rw [if_pos rfl]
      have hle := KeyOrd.kle_of_klt (O := O) hb
      by_cases hq0 : q > 0
      · rw [if_pos hq0]
        have ea := kk_alike (key := key) (p := p) (i := n - (q + 1)) (j := n) (by omega) he
        have hd' : Dn key (kas_rev p (n - (q + 1)) n) (n + 1) := fun i j a b => by
          rw [ea, ea]
          exact (hd.more h1 hle) i j a b
        exact dsc hf f _ (n + 1) 0 (hp.of (mirror_perm _ _ _ _)) (by omega) (by omega) hd' (by omega) (z0 _) fun p' m q' a b c d e g => k p' m q' a (by omega) (by omega) d e g
      · rw [if_neg hq0]
        exact dsc hf f _ (n + 1) 0 hp (by omega) (by omega) (hd.more h1 hle) (by omega) (z0 _) fun p' m q' a b c d e g => k p' m q' a (by omega) (by omega) d e g
    | false =>
      rw [if_neg (by simp)]
      refine ask hf hp (by omega) (by omega) ?_
      cases hb2 : O.blt (kk key p (n - 1)) (kk key p n) with
      | true =>
        rw [if_pos rfl]
        exact k p n q hp (Nat.le_refl _) (by omega) hd hq he
      | false =>
        rw [if_neg (by simp)]
        have ex : kk key p n = kk key p (n - 1) := KeyOrd.kle_antisymm hb2 hb
        have hle : O.kle (kk key p n) (kk key p (n - 1)) := by rw [ex]; exact KeyOrd.kle_refl _
        refine dsc hf f _ (n + 1) (q + 1) hp (by omega) (by omega) (hd.more h1 hle) (by omega) (fun i a b => ?_) fun p' m q' a b c d e g => k p' m q' a (by omega) (by omega) d e g
        show kk key p i = kk key p n
        by_cases hi : i = n
        · rw [hi]
        · rw [ex]
          exact he i (by omega) (by omega)
theorem tl3 {n r : Nat} {p : Array Nat} {Q : Nat × Array Nat → Shared → Prop} (hf : Fair key N cmp s) (hp : Pm N p) (h1 : 1 ≤ n) (hn : n ≤ r) (hr : r ≤ N) (hd : Dn key p n)
    (k : ∀ m p', Pm N p' → 1 ≤ m → m ≤ r → Up key p' m → Q (m, p') s) : (kas_tail3 n r p).kasWp cmp Q s := by
  unfold kas_tail3
  rw [KasT.kasWp_bind]
  have hz := hp.size
  have hp' : Pm N (kas_rev p 0 n) := hp.of (mirror_perm _ _ _ _)
  refine asc hf hp' (r - n) n h1 (by omega) (fun i j a b => ?_) fun m a b c _ => k m _ hp' (by omega) (by omega) c
  rw [kk_rev (by omega), kk_rev (by omega), if_pos (by omega), if_pos (by omega)]
  exact hd _ _ (by omega) (by omega)
theorem dpart {n r : Nat} {p : Array Nat} {Q : Nat × Array Nat → Shared → Prop} (hf : Fair key N cmp s) (hp : Pm N p) (hn : n + 1 ≤ r) (hr : r ≤ N) (hd : Dn key p (n + 1))
    (k : ∀ m p', Pm N p' → 1 ≤ m → m ≤ r → Up key p' m → Q (m, p') s) : (kas_descPart n r p).kasWp cmp Q s := by
  unfold kas_descPart
  rw [KasT.kasWp_bind]
  refine dsc hf (r - (n + 1)) p (n + 1) 0 hp (by omega) (by omega) hd (by omega) (fun i a b => ?_) fun p' m q hp' a b c d e => ?_
  · have : i = n := by omega
    subst this
    rfl
  · have hz := hp'.size
    show (if q > 0 then kas_tail3 m r (kas_rev p' (m - (q + 1)) m) else kas_tail3 m r p').kasWp cmp Q s
    by_cases hq : q > 0
    · rw [if_pos hq]
      have ea := kk_alike (key := key) (p := p') (i := m - (q + 1)) (j := m) (by omega) e
      exact tl3 hf (hp'.of (mirror_perm _ _ _ _)) (by omega) (by omega) hr (fun i j x y => by rw [ea, ea]; exact c i j x y) k
    · rw [if_neg hq]
      exact tl3 hf hp' (by omega) (by omega) hr c k
theorem cnt {r : Nat} {p : Array Nat} {Q : Nat × Array Nat → Shared → Prop} (hf : Fair key N cmp s) (hp : Pm N p) (h1 : 1 ≤ r) (hr : r ≤ N)
    (k : ∀ m p', Pm N p' → 1 ≤ m → m ≤ r → Up key p' m → Q (m, p') s) : (kas_count r p).kasWp cmp Q s := by
  unfold kas_count
  rw [KasT.kasWp_bind]
  have hz := hp.size
  refine asc hf hp (r - 1) 1 (Nat.le_refl _) (by omega) Up.one fun n a b c d => ?_
  by_cases hn : n = r
  · rw [if_pos (by simpa using hn)]
    exact k n p hp a (by omega) c
  · rw [if_neg (by simpa using hn)]
    have hlt : O.klt (kk key p n) (kk key p (n - 1)) := d.resolve_left (by omega)
    by_cases hg : n > 1
    · rw [if_pos hg]
      refine ask hf hp (by omega) (by omega) ?_
      cases hb : O.blt (kk key p 0) (kk key p (n - 1)) with
      | true =>
        rw [if_pos rfl]
        exact k n p hp a (by omega) c
      | false =>
        rw [if_neg (by simp)]
        have all : ∀ i, 0 ≤ i → i < n → kk key p i = kk key p (n - 1) := fun i _ hi =>
          KeyOrd.kle_antisymm (c i (n - 1) (by omega) (by omega)) (KeyOrd.kle_trans (show O.kle _ _ from hb) (c 0 i (Nat.zero_le _) hi))
        have ea := kk_alike (key := key) (p := p) (i := 0) (j := n) (by omega) all
        refine dpart hf (hp.of (mirror_perm _ _ _ _)) (by omega) hr (fun i j x y => ?_) k
        rw [ea, ea]
        refine Dn.more a (fun i j x y => ?_) (KeyOrd.kle_of_klt hlt) i j x y
        rw [all i (by omega) (by omega), all j (by omega) y]
        exact KeyOrd.kle_refl _
    · rw [if_neg hg]
      have e : n = 1 := by omega
      subst e
      refine dpart hf hp (by omega) hr (Dn.more (Nat.le_refl _) (fun i j x y => ?_) (KeyOrd.kle_of_klt hlt)) k
      have : i = j := by omega
      subst this
      exact KeyOrd.kle_refl _
theorem plc {p : Array Nat} {k : Nat} {Q : Nat → Shared → Prop} (hf : Fair key N cmp s) (hp : Pm N p) (hk : k < N) (hu : Up key p k) : ∀ f l r, l ≤ r → r ≤ k → r - l ≤ f → (∀ i, i < l → O.kle (kk key p i) (kk key p k)) → (∀ i, r ≤ i → i < k → O.klt (kk key p k) (kk key p i)) →
    (∀ l, l ≤ k → (∀ i, i < l → O.kle (kk key p i) (kk key p k)) → (∀ i, l ≤ i → i < k → O.klt (kk key p k) (kk key p i)) → Q l s) → (kas_place p k f l r).kasWp cmp Q s
  | 0, l, r, h1, h2, h3, lo, hi, q => by
    have : l = r := by omega
    subst this
    exact q l h2 lo hi
  | f + 1, l, r, h1, h2, h3, lo, hi, q => by
    unfold kas_place
    by_cases hg : l ≥ r
    · rw [if_pos hg]
      have : l = r := by omega
      subst this
      exact q l h2 lo hi
    · rw [if_neg hg]
      refine ask hf hp hk (by omega) ?_
      cases hb : O.blt (kk key p k) (kk key p ((l + r) / 2)) with
      | true =>
        rw [if_pos rfl]
        exact plc hf hp hk hu f l _ (by omega) (by omega) (by omega) lo (fun i a b => KeyOrd.klt_of_klt_of_kle hb (hu _ _ a b)) q
      | false =>
        rw [if_neg (by simp)]
        exact plc hf hp hk hu f _ r (by omega) h2 (by omega) (fun i a => KeyOrd.kle_trans (hu i ((l + r) / 2) (by omega) (by omega)) (show O.kle _ _ from hb)) hi q
theorem bin {Q : Array Nat → Shared → Prop} (hf : Fair key N cmp s) : ∀ f p k, Pm N p → k + f ≤ N → Up key p k → (∀ p', Pm N p' → Up key p' (k + f) → Q p' s) → (kas_bin f p k).kasWp cmp Q s
  | 0, p, k, hp, _, hu, q => q p hp hu
  | f + 1, p, k, hp, hN, hu, q => by
    unfold kas_bin
    rw [KasT.kasWp_bind]
    refine plc hf hp (by omega) hu k 0 k (Nat.zero_le _) (Nat.le_refl _) (by omega) (fun i z => by omega) (fun i a b => by omega) fun l hl lo hi => ?_
    have hz := hp.size
    refine bin hf f _ (k + 1) (hp.of (bubble_perm _ _ _)) (by omega) (fun i j a b => ?_) fun p' hp' hu' => q p' hp' (by rw [show k + (f + 1) = k + 1 + f by omega]; exact hu')
    rw [kk_bub (by omega) (by omega), kk_bub (by omega) (by omega), show k - (k - l) = l by omega]
    by_cases i1 : i = l
    · rw [if_pos i1]
      by_cases j1 : j = l
      · rw [if_pos j1]; exact KeyOrd.kle_refl _
      · rw [if_neg j1, if_pos (by omega)]
        exact KeyOrd.kle_of_klt (hi _ (by omega) (by omega))
    · rw [if_neg i1]
      by_cases i2 : l < i ∧ i ≤ k
      · rw [if_pos i2, if_neg (by omega), if_pos (by omega)]
        exact hu _ _ (by omega) (by omega)
      · rw [if_neg i2]
        by_cases j1 : j = l
        · rw [if_pos j1]; exact lo _ (by omega)
        · rw [if_neg j1]
          by_cases j2 : l < j ∧ j ≤ k
          · rw [if_pos j2]
            exact hu _ _ (by omega) (by omega)
          · rw [if_neg j2]
            exact hu _ _ a (by omega)
theorem srt {Q : Array Nat → Shared → Prop} (hf : Fair key N cmp s) (h2 : 1 ≤ N) (q : ∀ p, Pm N p → Up key p N → Q p s) : (kas_sort N).kasWp cmp Q s := by
  unfold kas_sort
  rw [KasT.kasWp_bind]
  refine cnt hf (Array.Perm.refl _) h2 (Nat.le_refl _) fun m p hp h1 hm hu => ?_
  show (if m < N then kas_bin (N - max m 1) p (max m 1) else KasT.ret p).kasWp cmp Q s
  have e : max m 1 = m := by omega
  rw [e]
  by_cases hlt : m < N
  · rw [if_pos hlt]
    exact bin hf _ _ _ hp (by omega) hu fun p' a b => q p' a (by rw [show m + (N - m) = N by omega] at b; exact b)
  · rw [if_neg hlt]
    have : m = N := by omega
    subst this
    exact q p hp hu
end
end SrtT
set_option Elab.async false
set_option linter.all false
set_option maxRecDepth 100000
set_option maxHeartbeats 4000000
namespace SrtT
open PySem PyProof.Rows
section
open PySem.SeqAt
open PySem.AutoSeq1 (wpAny_loadPart')
open PySem.MeetsSeq PySem.MeetsSeq2 PySem.MeetsSeq3
theorem ints_get : ∀ {vs : List Value} {ns : List Int} {i : Nat}, IntsAre vs ns → i < ns.length → ∃ t, vs[i]? = some (.int (ns.getD i 0) t)
  | _, _, i, .nil, h => by simp at h
  | _, _, 0, .cons n t r, h => ⟨t, by simp⟩
  | _, _, i + 1, .cons n t r, h => by
    obtain ⟨u, e⟩ := ints_get (i := i) r (by simpa using h)
    exact ⟨u, by simpa using e⟩
end
section
variable {prog : Program} {w : World} {A : Around} {E : Value → Shared → Prop} {s : Shared}
end
end SrtT
set_option Elab.async false
set_option linter.all false
set_option maxRecDepth 100000
set_option maxHeartbeats 4000000
namespace SrtT
open PySem PySem.W PyProof.Rows
def outOf (vs : List Value) (p : Array Nat) : List Value := p.toList.map fun i => vs.getD i Value.none
section
variable {prog : Program} {w : World} {A : Around} {E : Value → Shared → Prop} {s : Shared} {O : KeyOrd} {key : Nat → O.α} {vs : List Value}
def Look (prog : Program) (w : World) (A : Around) (O : KeyOrd) (key : Nat → O.α) (vs : List Value) (s : Shared) : Prop :=
  ∀ h' : Heap, (∀ b o, s.heap.get? b = some o → h'.get? b = some o) → ∃ κ, (2 ≤ vs.length → ∀ (Q : SortKind → Shared → Prop) (E : Value → Shared → Prop), Q κ { s with heap := h' } → wpAny (model prog w) A (keyKind' vs.toArray) Q E { s with heap := h' }) ∧
    Fair key vs.length (kas_ask prog w A κ vs) { s with heap := h' }
theorem upd_hole {h : Heap} {a : Addr} {n : Nat} (qa : h.get? a = some (seqObj "list" vs.toArray n)) : ∃ m, (h.update a (Obj.mapSeq fun _ => (#[] : Array Value))).get? a = some (seqObj "list" #[] m) := ⟨_, get?_update_seq qa fun _ => #[]⟩
theorem sortIn {a : Addr} {n : Nat} {P : PySem.Fin → Shared → Prop} (qa : s.heap.get? a = some (seqObj "list" vs.toArray n)) (hk : ∀ h' : Heap, (∀ b o, b ≠ a → s.heap.get? b = some o → h'.get? b = some o) →
      ∃ κ, (2 ≤ vs.length → ∀ (Q : SortKind → Shared → Prop) (E : Value → Shared → Prop), Q κ { s with heap := h' } → wpAny (model prog w) A (keyKind' vs.toArray) Q E { s with heap := h' }) ∧ Fair key vs.length (kas_ask prog w A κ vs) { s with heap := h' }) (h64 : vs.length < 64)
    (q : ∀ p, Pm vs.length p → Up key p vs.length → P (.done (.ret .none)) { s with heap := sortedHeap s.heap a vs (outOf vs p).toArray }) : wpAny (model prog w) A (Builtin.«list.sort» ⟨[.ref a], []⟩) P E s := by
  have la : a < s.heap.objs.size := Heap.lt_size qa
  obtain ⟨m, q1⟩ := upd_hole qa
  have q6 : (((s.heap.update a (Obj.mapSeq fun _ => (#[] : Array Value))).push (seqObj "tuple" vs.toArray 0)).push (seqObj "list" #[] 0)).get? a = some (seqObj "list" #[] m) := Heap.get?_push_of_some _ (Heap.get?_push_of_some _ q1)
  have keep : ∀ b o, b ≠ a → s.heap.get? b = some o → (((s.heap.update a (Obj.mapSeq fun _ => (#[] : Array Value))).push (seqObj "tuple" vs.toArray 0)).push (seqObj "list" #[] 0)).get? b = some o := fun b o hb e =>
    Heap.get?_push_of_some _ (Heap.get?_push_of_some _ ((Heap.get?_update_ne _ _ _ _ hb).trans e))
  obtain ⟨κ, k1, k2⟩ := hk _ keep
  rw [list_sort_plain]
  refine wpAny_bind (listItems_at qa rfl ?_)
  refine wpAny_bind (listUpdate_at qa rfl ?_ (by rw [List.size_toArray, sizeLine_eq]; omega) (Nat.zero_le _))
  refine wpAny_bind (seqEpoch_at q1 rfl (wpAny_bind (wpAny_newTuple ?_ (by show vs.length ≤ _; rw [sizeLine_eq]; omega))))
  refine wpAny_bind (wpAny_newList (wpAny_holding ?_) (Nat.zero_le _))
  show wpAny (model prog w) A _ P E { s with heap := (((s.heap.update a (Obj.mapSeq fun _ => (#[] : Array Value))).push (seqObj "tuple" vs.toArray 0)).push (seqObj "list" #[] 0)) }
  dsimp only
  have hout : ∀ p, Pm vs.length p → ((p.map (kas_item (pairsOf vs))).map (·.2)) = (outOf vs p).toArray := fun p hp => by
    apply Array.toList_inj.mp
    rw [Array.map_map, Array.toList_map]
    exact List.map_congr_left fun i _ => by show (kas_item (pairsOf vs) i).2 = _; rw [kas_item_eq]
  have hlen : ∀ p, Pm vs.length p → (outOf vs p).toArray.size ≤ sizeLine + 1 := fun p hp => by
    have z := hp.size
    rw [List.size_toArray, outOf, List.length_map, Array.length_toList, z, sizeLine_eq]
    omega
  by_cases h2 : vs.toArray.size < 2
  · rw [if_pos h2, if_pos h2]
    rw [List.size_toArray] at h2
    refine wpAny_bind (wpAny_pure ?_)
    rw [StateT.run_pure]
    refine wpAny_bind (wpAny_pure ?_)
    dsimp only
    have hp : Pm vs.length (List.toArray (List.range vs.length)) := Array.Perm.refl _
    have e0 : (arrOf (SortSt.mk' general' (vs.toArray.zip vs.toArray) #[] 7 none)).map (·.2) = (outOf vs (List.toArray (List.range vs.length))).toArray := by
      rw [← hout _ hp]
      have e := kas_range (pairsOf vs)
      rw [pairsOf_size] at e
      rw [e]
      rfl
    rw [e0]
    refine wpAny_bind (seqEpoch_at q6 rfl (wpAny_bind (listUpdate_at q6 rfl ?_ (Nat.zero_le _) (hlen _ hp))))
    simp only [bne_self_eq_false, Bool.false_eq_true, if_false]
    refine wpAny_pure (q _ hp fun i j a b => ?_)
    have : i = j := by omega
    subst this
    exact KeyOrd.kle_refl _
  · rw [if_neg h2, if_neg h2]
    rw [List.size_toArray] at h2
    refine wpAny_bind (k1 (by omega) _ _ ?_)
    refine wpAny_bind (wpAny_mono (kat_run (κ := κ) (Q := fun st s' => s' = { s with heap := ((s.heap.update a (Obj.mapSeq fun _ => (#[] : Array Value))).push (seqObj "tuple" vs.toArray 0)).push (seqObj "list" #[] 0) } ∧
        ∃ p, Pm vs.length p ∧ Up key p vs.length ∧ arrOf st = p.map (kas_item (pairsOf vs)) ∧ failedOf st = none) (G := fun p s' => s' = { s with heap := ((s.heap.update a (Obj.mapSeq fun _ => (#[] : Array Value))).push (seqObj "tuple" vs.toArray 0)).push (seqObj "list" #[] 0) } ∧ Pm vs.length p ∧ Up key p vs.length)
      rfl (by omega) h64 (fun p st s' _ a1 a2 a3 => ⟨a3.1, p, a3.2.1, a3.2.2, a1, a2⟩) (srt k2 (by omega) fun p a b => ⟨rfl, a, b⟩)) ?_ fun _ _ e => e)
    rintro ⟨⟨⟩, st⟩ s' ⟨rfl, p, hp, hu, har, hfa⟩
    dsimp only
    rw [har, hout p hp]
    refine wpAny_bind (seqEpoch_at q6 rfl (wpAny_bind (listUpdate_at q6 rfl ?_ (Nat.zero_le _) (hlen _ hp))))
    rw [hfa]
    simp only [bne_self_eq_false, Bool.false_eq_true, if_false]
    exact wpAny_pure (q p hp hu)
theorem sortedBy {l : Addr} {Q : Value → Shared → Prop} (hl : s.heap.IsList l vs.toArray) (hk : Look prog w A.in1.in1 O key vs s) (h64 : vs.length < 64)
    (q : ∀ p, Pm vs.length p → Up key p vs.length → Q (.ref (s.heap.objs.size + 1)) { s with heap := sortedAll s.heap vs (outOf vs p).toArray }) : wpAny (model prog w) A (call (.builtin "sorted") [.ref l]) Q E s := by
  refine Calls.call_function_entry kind_sorted plain_sorted entry_sorted (args_sorted1 _) ?_
  unfold Builtin.«sorted»
  refine wpAny_bind (m := checkCount "sorted" 1 1 _) (wpAny_pure (wpAny_bind (collect_list hl (wpAny_bind (wpAny_newList ?_ (by rw [sizeLine_eq]; omega))) (by rw [sizeLine_eq]; omega))))
  have z1 : ((s.heap.push (seqObj "list" #[] 0)).update s.heap.objs.size (Obj.mapSeq (· ++ vs.toArray))).objs.size = s.heap.objs.size + 1 := by rw [Heap.size_update, size_push']
  have q1 : (((s.heap.push (seqObj "list" #[] 0)).update s.heap.objs.size (Obj.mapSeq (· ++ vs.toArray))).push (seqObj "list" vs.toArray 0)).get? (s.heap.objs.size + 1) = some (seqObj "list" vs.toArray 0) := by
    rw [← z1]; exact Heap.get?_push_size _ rfl
  have keep : ∀ b o, s.heap.get? b = some o → (((s.heap.push (seqObj "list" #[] 0)).update s.heap.objs.size (Obj.mapSeq (· ++ vs.toArray))).push (seqObj "list" vs.toArray 0)).get? b = some o := fun b o e => by
    have hlt : b < s.heap.objs.size := Heap.lt_size e
    have n0 : b ≠ s.heap.objs.size := Nat.ne_of_lt hlt
    rw [Heap.get?_push_ne _ _ _ (by rw [z1]; exact Nat.ne_of_lt (Nat.lt_succ_of_lt hlt)), Heap.get?_update_ne _ _ _ _ n0, Heap.get?_push_ne _ _ _ n0]
    exact e
  show wpAny _ _ _ _ _ { s with heap := (((s.heap.push (seqObj "list" #[] 0)).update s.heap.objs.size (Obj.mapSeq (· ++ vs.toArray))).push (seqObj "list" vs.toArray 0)) }
  rw [z1]
  refine wpAny_bind (wpAny_holding (wpAny_call_entry slot_list_sort ⟨_, q1, rfl⟩ entry_list_sort (sortIn (key := key) q1 (fun h' k => hk h' fun b o e => k b o (Nat.ne_of_lt (Nat.lt_succ_of_lt (Heap.lt_size e))) (keep b o e)) h64 fun p a b => ⟨_, rfl, wpAny_pure ⟨_, rfl, q p a b⟩⟩) (args_list_sort _)))
end
theorem lex_irr : ∀ a : List Int, HT.lexLt a a = false
  | [] => rfl
  | x :: xs => by rw [HT.lexLt_cons, if_pos rfl, lex_irr xs]
theorem lex_tr : ∀ a b c : List Int, HT.lexLt a b = true → HT.lexLt b c = true → HT.lexLt a c = true
  | [], [], _, h, _ => by simp [HT.lexLt_nil_nil] at h
  | [], _ :: _, [], _, h => by simp [HT.lexLt_cons_nil] at h
  | [], _ :: _, _ :: _, _, _ => rfl
  | _ :: _, [], _, h, _ => by simp [HT.lexLt_cons_nil] at h
  | _ :: _, _ :: _, [], _, h => by simp [HT.lexLt_cons_nil] at h
  | x :: xs, y :: ys, z :: zs, h1, h2 => by
    rw [HT.lexLt_cons] at h1 h2 ⊢
    by_cases e1 : x = y
    · subst e1
      rw [if_pos rfl] at h1
      by_cases e2 : x = z
      · rw [if_pos e2] at h2 ⊢
        exact lex_tr xs ys zs h1 h2
      · rw [if_neg e2] at h2 ⊢
        exact h2
    · rw [if_neg e1] at h1
      by_cases e2 : y = z
      · subst e2
        rw [if_neg e1]
        exact h1
      · rw [if_neg e2] at h2
        have a1 := of_decide_eq_true h1
        have a2 := of_decide_eq_true h2
        rw [if_neg (by omega)]
        exact decide_eq_true (by omega)
theorem lex_nt : ∀ a b c : List Int, HT.lexLt a c = true → HT.lexLt a b = true ∨ HT.lexLt b c = true
  | [], [], [], h => by simp [HT.lexLt_nil_nil] at h
  | [], [], _ :: _, _ => .inr rfl
  | [], _ :: _, _, _ => .inl rfl
  | _ :: _, _, [], h => by simp [HT.lexLt_cons_nil] at h
  | _ :: _, [], _ :: _, _ => .inr rfl
  | x :: xs, y :: ys, z :: zs, h => by
    rw [HT.lexLt_cons] at h
    rw [HT.lexLt_cons, HT.lexLt_cons]
    by_cases e : x = z
    · subst e
      rw [if_pos rfl] at h
      by_cases e1 : x = y
      · subst e1
        rw [if_pos rfl, if_pos rfl]
        exact lex_nt xs ys zs h
      · rw [if_neg e1, if_neg (Ne.symm e1)]
        simp only [decide_eq_true_eq]
        omega
    · rw [if_neg e] at h
      have h := of_decide_eq_true h
      by_cases e1 : x = y
      · subst e1
        rw [if_neg e]
        exact .inr (decide_eq_true h)
      · rw [if_neg e1]
        by_cases h2 : x < y
        · exact .inl (decide_eq_true h2)
        · right
          rw [if_neg (by omega)]
          exact decide_eq_true (by omega)
theorem lex_tot : ∀ a b : List Int, HT.lexLt a b = false → HT.lexLt b a = false → a = b
  | [], [], _, _ => rfl
  | [], _ :: _, h, _ => by simp [HT.lexLt_nil_cons] at h
  | _ :: _, [], _, h => by simp [HT.lexLt_nil_cons] at h
  | x :: xs, y :: ys, h1, h2 => by
    rw [HT.lexLt_cons] at h1 h2
    by_cases e : x = y
    · subst e
      rw [if_pos rfl] at h1 h2
      rw [lex_tot xs ys h1 h2]
    · rw [if_neg e] at h1
      rw [if_neg (Ne.symm e)] at h2
      have a1 := of_decide_eq_false h1
      have a2 := of_decide_eq_false h2
      omega
def lexO : KeyOrd := ⟨List Int, HT.lexLt, lex_irr, lex_tr, lex_nt, lex_tot⟩
end SrtT
namespace L2
open PySem PySem.Spec PyProof.Rows
section
variable {X : Cx}
def mvd {α : Type} (xs : List α) (d : α) (p : Array Nat) : List α := p.toList.map fun i => xs.getD i d
theorem getD_lt' {α : Type} {xs : List α} {i : Nat} {d : α} (h : i < xs.length) : xs.getD i d = xs[i] := by simp [h]
theorem vals_mvd {xs : List V} {us : List Value} (r : Vals xs us) : ∀ is : List Nat, (∀ i ∈ is, i < xs.length) → Vals (is.map fun i => xs.getD i .non) (is.map fun i => us.getD i Value.none)
  | [], _ => .nil
  | i :: is, h => by
    refine .cons ?_ (vals_mvd r is fun j hj => h j (by simp [hj]))
    have hi := h i (by simp)
    obtain ⟨u, e, ru⟩ := r.get (i := i) (x := xs[i]) (by simp [hi])
    have e2 : us.getD i Value.none = u := by rw [List.getD_eq_getElem?_getD, e]; rfl
    show RelV (xs.getD i .non) (us.getD i Value.none)
    rw [getD_lt' hi, e2]
    exact ru
end
end L2
namespace SrtT
open PySem PySem.W PyProof.Rows
section
variable {prog : Program} {w : World} {A : Around} {E : Value → Shared → Prop} {s : Shared}
theorem lexK {b : Bool} {Q : Bool → Shared → Prop} : ∀ {xs ys : List Value} {ns ms : List Int} (fin : Bool) (i : Nat), IntsAre xs ns → IntsAre ys ms → (fin = true ↔ ns.length < ms.length) → Q (HT.lexLt ns ms) s → KatLex prog w A b fin Q (xs.zip ys) i s
  | _, _, _, _, fin, i, .nil, .nil, hf, q => by
    have : fin = false := by
      cases fin with
      | false => rfl
      | true => simp at hf
    subst this
    exact kat_nil q
  | _, _, _, _, fin, i, .nil, .cons m t r, hf, q => by
    have : fin = true := hf.mpr (by simp)
    subst this
    exact kat_nil q
  | _, _, _, _, fin, i, .cons m t r, .nil, hf, q => by
    have : fin = false := by
      cases fin with
      | false => rfl
      | true => simp at hf
    subst this
    exact kat_nil q
  | _, _, _, _, fin, i, .cons n t r, .cons m u r', hf, q => by
    rw [HT.lexLt_cons] at q
    refine kat_cons (wpAny_eqBool_int ?_)
    by_cases e : n = m
    · subst e
      rw [if_pos rfl] at q
      rw [show (n == n) = true by simp]
      exact kat_yes (lexK fin (i + 1) r r' (by simpa using hf) q)
    · rw [if_neg e] at q
      rw [show (n == m) = false by simp [e]]
      refine kat_no ?_
      cases b && i == 0 with
      | true => exact oneLt_int q
      | false => exact kat_one _ _ (lt_int q)
end
end SrtT
namespace L2
open PySem PySem.Spec PyProof.Rows
section
variable {X : Cx}
theorem tups_of {h : Heap} : ∀ {vs fs : List Value}, vs.length = fs.length → (∀ i, i < vs.length → ∃ a o xs n, vs.getD i Value.none = .ref a ∧ h.get? a = some o ∧ o.cls = .type "tuple" ∧ o.data = .seq xs n ∧ xs[0]? = some (fs.getD i Value.none)) → PySem.W.KatTups h vs fs
  | [], [], _, _ => .nil
  | v :: vs, f :: fs, hl, hg => by
    obtain ⟨a, o, xs, n, e1, e2, e3, e4, e5⟩ := hg 0 (by simp)
    have e1 : v = .ref a := by simpa using e1
    subst e1
    refine .cons e2 e3 e4 (by simpa using e5) (tups_of (by simpa using hl) fun i hi => ?_)
    simpa using hg (i + 1) (by simpa using hi)
theorem call_sortedT (hu : X.A.units + 64 < cLine) : CallR X (.builtin "sorted") (fun xs H Q => ∃ (a : Addr) (rs : List (Addr × List Int)), xs = [.ref a] ∧ SqL X.K H a (rs.map fun r => V.ref r.1) ∧ rs.length < 64 ∧ (∀ r ∈ rs, SqT X.K H r.1 (r.2.map V.int) ∧ 0 < r.2.length) ∧
    ∀ (D : Addr) (rs' : List (Addr × List Int)), H D = none → rs'.Perm rs → rs'.Pairwise (fun r q => HT.lexLt q.2 r.2 = false) → Q (.ref D) (upd H D (.lst (rs'.map fun r => V.ref r.1)))) := by
  intro pins s σ H xs us Q I rv h
  obtain ⟨a, rs, rfl, hq, h64, hrs, q⟩ := h
  obtain ⟨u, rfl, ru⟩ := rv.one
  cases ru
  obtain ⟨its, r, pl, hz⟩ := I.list hq
  have hlen : its.length = rs.length := by rw [← r.length, List.length_map]
  have hat : ∀ i, i < rs.length → its.getD i Value.none = .ref (rs.getD i (0, [])).1 := fun i hi => by
    obtain ⟨v, e, rv⟩ := r.get (i := i) (x := .ref rs[i].1) (by simp [hi])
    cases rv
    rw [List.getD_eq_getElem?_getD, e, getD_lt' hi]
    rfl
  have hrow : ∀ i, i < rs.length → ∃ vs, IsTup s.heap (rs.getD i (0, [])).1 vs.toArray ∧ IntsAre vs (rs.getD i (0, [])).2 ∧ 0 < vs.length := fun i hi => by
    rw [getD_lt' hi]
    obtain ⟨h1, h2⟩ := hrs rs[i] (List.getElem_mem hi)
    obtain ⟨vs, r1, p1, _⟩ := I.tuple h1
    exact ⟨vs, p1, ints_of r1, by rw [← r1.length, List.length_map]; exact h2⟩
  refine SrtT.sortedBy (O := SrtT.lexO) (key := fun i => (rs.getD i (0, [])).2) pl.isList (fun h' k => ⟨tuples' (Value.type "int" != Value.type "tuple"), fun h2 Q' E' q' => ?_, fun i j C hi hj c => ?_⟩) (by omega) fun p hp hup => ?_
  · have hf : ∀ i, ∃ f : Value, i < rs.length → ∃ t, f = .int ((rs.getD i (0, [])).2.getD 0 0) t ∧ ∃ a o xs n, its.getD i Value.none = .ref a ∧ h'.get? a = some o ∧ o.cls = .type "tuple" ∧ o.data = .seq xs n ∧ xs[0]? = some f := fun i => by
      by_cases hi : i < rs.length
      · obtain ⟨vs, ⟨o, e1, e2, n, e3⟩, i2, l2⟩ := hrow i hi
        obtain ⟨t, e4⟩ := SrtT.ints_get (i := 0) i2 (by rw [← i2.length]; exact l2)
        exact ⟨_, fun _ => ⟨t, rfl, _, o, _, n, hat i hi, k _ _ e1, e2, e3, by simpa using e4⟩⟩
      · exact ⟨.none, fun z => absurd z hi⟩
    let fs := (List.range rs.length).map fun i => Classical.choose (hf i)
    have hfs : ∀ i, i < rs.length → fs.getD i Value.none = Classical.choose (hf i) := fun i hi => by simp [fs, hi]
    refine PySem.W.kat_kind (vs := its) (fs := fs) (T := .type "int") (tups_of (by simp [fs, hlen]) fun i hi => ?_) (by simp [fs]; omega) (fun v hv => ?_) (by rfl) q'
    · rw [hfs i (by omega)]
      obtain ⟨t, _, z⟩ := Classical.choose_spec (hf i) (by omega)
      exact z
    · obtain ⟨i, hi, rfl⟩ := List.mem_map.mp hv
      obtain ⟨t, e, _⟩ := Classical.choose_spec (hf i) (List.mem_range.mp hi)
      rw [e]
      exact .of_pure rfl
  · unfold PySem.W.kas_ask
    rw [hat i (by omega), hat j (by omega)]
    obtain ⟨vi, ⟨o1, a1, b1, n1, c1⟩, ii, _⟩ := hrow i (by omega)
    obtain ⟨vj, ⟨o2, a2, b2, n2, c2⟩, ij, _⟩ := hrow j (by omega)
    refine PySem.W.kat_lt (k _ _ a1) c1 (k _ _ a2) c2 (SrtT.lexK _ 0 (by simpa using ii) (by simpa using ij) ?_ c)
    rw [decide_eq_true_eq, List.size_toArray, List.size_toArray, ii.length, ij.length]
  · rw [hlen] at hp hup
    have hin : ∀ i ∈ p.toList, i < rs.length := fun i hi => by
      obtain ⟨k, hk, rfl⟩ := List.getElem_of_mem hi
      rw [Array.length_toList, hp.size] at hk
      have e := hp.lt hk
      simpa [Array.getD, hp.size, hk] using e
    obtain ⟨e, he⟩ := sortedAll_at s.heap its (SrtT.outOf its p).toArray
    refine ⟨.ref _, _, I.laid (t' := s.toks) (o := .lst ((mvd rs (0, []) p).map fun r => V.ref r.1)) (fun b o => sortedAll_old) (Nat.le_succ _) ⟨?_, SrtT.outOf its p, e, ?_, he⟩, rfl, q _ (mvd rs (0, []) p) (I.hok.fresh (Nat.le_succ _)) ?_ ?_⟩
    · rw [List.length_map, mvd, List.length_map, Array.length_toList, hp.size, sizeLine_eq]
      omega
    · have hv := vals_mvd r p.toList (fun i hi => by rw [List.length_map]; exact hin i hi)
      unfold SrtT.outOf mvd
      rw [List.map_map]
      refine cast (congrArg (fun z => Vals z _) (List.map_congr_left fun i hi => ?_)) hv
      have := hin i hi
      simp [this]
    · have h1 := (Array.perm_iff_toList_perm.mp hp).map fun i => rs.getD i (0, [])
      have h2 : (List.range rs.length).map (fun i => rs.getD i (0, [])) = rs := by
        apply List.ext_getElem (by simp)
        intro i a b
        simp [b]
      unfold mvd
      rw [show (List.toArray (List.range rs.length)).toList = List.range rs.length from rfl, h2] at h1
      exact h1
    · rw [List.pairwise_iff_getElem]
      intro i j hi hj hij
      unfold mvd at hi hj ⊢
      rw [List.length_map, Array.length_toList, hp.size] at hi hj
      have := hup i j (by omega) hj
      unfold SrtT.kk at this
      simp [Array.getD, hp.size, hi, hj] at this ⊢
      exact this
end
end L2
set_option Elab.async false
set_option linter.all false
set_option maxRecDepth 100000
set_option maxHeartbeats 4000000
namespace L2
open PySem PySem.Spec PyProof.Rows
theorem comp_objs {α : Type} {J : It} {ms : List α} {σ0 : St} {H1 : Hp} {te : TE} {Q : VK} (u : α → V) (o : α → HO) (hn : ms.length ≤ 1000)
    (hgo : ∀ i H', i < ms.length → Same H1 H' → J.go i H') (hst : ∀ H', Same H1 H' → J.stop ms.length H') (hy : ∀ i H' x H2 (h : i < ms.length), Same H1 H' → J.yld i H' x H2 → H2 = H' ∧ x = u ms[i])
    (he : ∀ x ∈ ms, ∀ (H' : Hp) (Q' : VK), Same H1 H' → (∀ l H'', H' l = none → Same H' H'' → H'' l = some (o x) → Q' (.ref l) H'') → te (σ0.set 0 (some (u x))) H' Q')
    (fin : ∀ (D : Addr) (qs : List (Addr × α)) (H' : Hp), H1 D = none → qs.map (·.2) = ms → (qs.map (·.1)).Nodup → (∀ q ∈ qs, H' q.1 = some (o q.2) ∧ H1 q.1 = none ∧ q.1 ≠ D) → Same H1 H' → H' D = some (.lst (qs.map fun q => V.ref q.1)) → Q (.ref D) H') :
    CompRun J (gName 0) tTrue te σ0 H1 Q := by
  intro D hD
  refine comp_by (n := ms.length) (fun i ys H' => ∃ qs : List (Addr × α), Same H1 H' ∧ H' D = some (.lst ys) ∧ ys = (qs.map fun q => V.ref q.1) ∧ qs.map (·.2) = ms.take i ∧ (qs.map (·.1)).Nodup ∧ ∀ q ∈ qs, H' q.1 = some (o q.2) ∧ H1 q.1 = none ∧ q.1 ≠ D)
    ⟨[], Same.new hD, upd_same, rfl, by simp, List.nodup_nil, fun q hq => nomatch hq⟩ (fun i ys H' _ ⟨_, _, e, _⟩ => e) (fun i ys H' hi ⟨_, sm, _⟩ => hgo i H' hi sm) (fun ys H' ⟨_, sm, _⟩ => hst H' sm) ?_ (fun ys H' h => ?_)
  · rintro i ys H' x H2 hi ⟨qs, sm, hDl, hys, hqm, hnd, hq⟩ y
    obtain ⟨rfl, rfl⟩ := hy i H' x H2 hi sm y
    unfold tTrue
    refine iteT (he ms[i] (List.getElem_mem hi) _ _ sm fun l H5 hl s5 el => ?_)
    have nlD : D ≠ l := ne_of_none hDl hl
    have ql : qs.length = i := by
      have := congrArg List.length hqm
      rw [List.length_map, List.length_take] at this
      omega
    refine ⟨s5 _ _ hDl, ?_, qs ++ [(l, ms[i])], (sm.trans s5).upd hD, upd_same, ?_, ?_, ?_, ?_⟩
    · rw [hys, List.length_map, ql]
      exact small1000 (by omega)
    · rw [hys, List.map_append]
      rfl
    · rw [List.map_append, hqm, List.take_add_one, List.getElem?_eq_getElem hi]
      rfl
    · rw [List.map_append, List.nodup_append]
      refine ⟨hnd, by simp, fun a ha b hb e => ?_⟩
      obtain ⟨q, hq1, rfl⟩ := List.mem_map.mp ha
      have hb : b = l := by simpa using hb
      subst hb
      have := (hq q hq1).1
      rw [e, hl] at this
      cases this
    · intro q hq1
      rcases List.mem_append.mp hq1 with z | z
      · obtain ⟨z1, z2, z3⟩ := hq q z
        exact ⟨by rw [upd_ne z3]; exact s5 _ _ z1, z2, z3⟩
      · have : q = (l, ms[i]) := by simpa using z
        subst this
        exact ⟨by rw [upd_ne (Ne.symm nlD)]; exact el, sm.free hl, Ne.symm nlD⟩
  · obtain ⟨qs, sm, hDl, hys, hqm, hnd, hq⟩ := h
    rw [List.take_length] at hqm
    exact fin D qs H' hD hqm hnd hq sm (by rw [← hys]; exact hDl)
theorem comp_objsL {α : Type} {K : PySem.W.Frag} {a : Addr} {ms : List α} {σ0 : St} {H1 : Hp} {te : TE} {Q : VK} (u : α → V) (o : α → HO) (hq : SqL K H1 a (ms.map u)) (hn : ms.length ≤ 1000)
    (he : ∀ x ∈ ms, ∀ (H' : Hp) (Q' : VK), Same H1 H' → (∀ l H'', H' l = none → Same H' H'' → H'' l = some (o x) → Q' (.ref l) H'') → te (σ0.set 0 (some (u x))) H' Q')
    (fin : ∀ (D : Addr) (qs : List (Addr × α)) (H' : Hp), H1 D = none → qs.map (·.2) = ms → (qs.map (·.1)).Nodup → (∀ q ∈ qs, H' q.1 = some (o q.2) ∧ H1 q.1 = none ∧ q.1 ≠ D) → Same H1 H' → H' D = some (.lst (qs.map fun q => V.ref q.1)) → Q (.ref D) H') :
    CompRun (Itl K a) (gName 0) tTrue te σ0 H1 Q :=
  comp_objs u o hn (fun i H' hi sm => ⟨ms.map u, u ms[i], sm.seq hq, by simp [hi]⟩) (fun H' sm => ⟨ms.map u, sm.seq hq, by simp⟩) (fun i H' x H2 hi sm y => ⟨y.1, by
    have := y.2 _ (sm.seq hq)
    rw [List.getElem?_map, List.getElem?_eq_getElem hi] at this
    exact (Option.some.inj this).symm⟩) he fin
theorem comp_objsR {lo : Int} {n : Nat} {σ0 : St} {H1 : Hp} {te : TE} {Q : VK} (o : Nat → HO) (hn : n ≤ 1000)
    (he : ∀ i, i < n → ∀ (H' : Hp) (Q' : VK), Same H1 H' → (∀ l H'', H' l = none → Same H' H'' → H'' l = some (o i) → Q' (.ref l) H'') → te (σ0.set 0 (some (.int (lo + i)))) H' Q')
    (fin : ∀ (D : Addr) (qs : List (Addr × Nat)) (H' : Hp), H1 D = none → qs.map (·.2) = List.range n → (qs.map (·.1)).Nodup → (∀ q ∈ qs, H' q.1 = some (o q.2) ∧ H1 q.1 = none ∧ q.1 ≠ D) → Same H1 H' → H' D = some (.lst (qs.map fun q => V.ref q.1)) → Q (.ref D) H') :
    CompRun (Itr lo n) (gName 0) tTrue te σ0 H1 Q :=
  comp_objs (ms := List.range n) (fun i => .int (lo + i)) o (by simpa using hn) (fun i H' hi sm => by show i < n; simpa using hi) (fun H' sm => by show n ≤ _; simp) (fun i H' x H2 hi sm y => ⟨y.1, by rw [y.2, List.getElem_range]⟩)
    (fun x hx => he x (List.mem_range.mp hx)) fin
section
variable {X : Cx}
end
end L2
set_option Elab.async false
set_option linter.all false
set_option maxRecDepth 100000
set_option maxHeartbeats 4000000
namespace L2
open PySem PySem.Spec PyProof.Rows
mutual
inductive RdS (S : List Addr) (H : Hp) : V → PyData → Prop
  | non : RdS S H .non .none
  | bl (b : Bool) : RdS S H (.bl b) (.bool b)
  | int (i : Int) : RdS S H (.int i) (.int i)
  | str (x : Str) : RdS S H (.str x) (.str x)
  | lst {a : Addr} {xs : List V} {ds : List PyData} : H a = some (.lst xs) → a ∉ S → RdSs S H xs ds → RdS S H (.ref a) (.list ds)
  | tup {a : Addr} {xs : List V} {ds : List PyData} : H a = some (.tup xs) → a ∉ S → RdSs S H xs ds → RdS S H (.ref a) (.tuple ds)
  | dct {a : Addr} : H a = some (.dK []) → a ∉ S → RdS S H (.ref a) (.dict [])
inductive RdSs (S : List Addr) (H : Hp) : List V → List PyData → Prop
  | nil : RdSs S H [] []
  | cons {x : V} {d : PyData} {xs : List V} {ds : List PyData} : RdS S H x d → RdSs S H xs ds → RdSs S H (x :: xs) (d :: ds)
end
mutual
theorem RdS.move {S S' : List Addr} {H H' : Hp} (k : ∀ b o, b ∉ S → H b = some o → H' b = some o) (ss : ∀ b, b ∉ S → b ∉ S') : ∀ {x : V} {d : PyData}, RdS S H x d → RdS S' H' x d
  | _, _, .non => .non
  | _, _, .bl b => .bl b
  | _, _, .int i => .int i
  | _, _, .str x => .str x
  | _, _, .lst e n r => .lst (k _ _ n e) (ss _ n) (RdSs.move k ss r)
  | _, _, .tup e n r => .tup (k _ _ n e) (ss _ n) (RdSs.move k ss r)
  | _, _, .dct e n => .dct (k _ _ n e) (ss _ n)
theorem RdSs.move {S S' : List Addr} {H H' : Hp} (k : ∀ b o, b ∉ S → H b = some o → H' b = some o) (ss : ∀ b, b ∉ S → b ∉ S') : ∀ {xs : List V} {ds : List PyData}, RdSs S H xs ds → RdSs S' H' xs ds
  | _, _, .nil => .nil
  | _, _, .cons h t => .cons (RdS.move k ss h) (RdSs.move k ss t)
end
theorem RdS.same {S : List Addr} {H H' : Hp} {x : V} {d : PyData} (r : RdS S H x d) (s : Same H H') : RdS S H' x d := r.move (fun b o _ e => s b o e) fun _ n => n
theorem RdSs.same {S : List Addr} {H H' : Hp} {xs : List V} {ds : List PyData} (r : RdSs S H xs ds) (s : Same H H') : RdSs S H' xs ds := r.move (fun b o _ e => s b o e) fun _ n => n
theorem RdSs.length {S : List Addr} {H : Hp} : ∀ {xs : List V} {ds : List PyData}, RdSs S H xs ds → xs.length = ds.length
  | _, _, .nil => rfl
  | _, _, .cons _ t => by simp [t.length]
theorem RdSs.pairs {S : List Addr} {H : Hp} : ∀ {xs : List V} {ds : List PyData}, RdSs S H xs ds → ∃ ms : List (V × PyData), xs = ms.map (·.1) ∧ ds = ms.map (·.2) ∧ ∀ m ∈ ms, RdS S H m.1 m.2
  | _, _, .nil => ⟨[], rfl, rfl, fun m h => nomatch h⟩
  | _, _, .cons (x := x) (d := d) h t => by
    obtain ⟨ms, e1, e2, hm⟩ := t.pairs
    refine ⟨(x, d) :: ms, by rw [e1]; rfl, by rw [e2]; rfl, fun m hmm => ?_⟩
    rcases List.mem_cons.mp hmm with rfl | z
    · exact h
    · exact hm m z
def tyD : PyData → String
  | .none => "NoneType"
  | .bool _ => "bool"
  | .int _ => "int"
  | .str _ => "str"
  | .list _ => "list"
  | .tuple _ => "tuple"
  | .dict _ => "dict"
theorem RdS.ty {S : List Addr} {H : Hp} {K : PySem.W.Frag} : ∀ {x : V} {d : PyData}, RdS S H x d → TyOf K H x (.type (tyD d))
  | _, _, .non => .non
  | _, _, .bl b => .bl b
  | _, _, .int i => .int i
  | _, _, .str x => .str x
  | _, _, .lst e _ _ => .lst e
  | _, _, .tup e _ _ => .tup e
  | _, _, .dct e _ => .dK e
def isIntD : PyData → Bool
  | .int _ => true
  | _ => false
theorem kit_int (K : PySem.W.Frag) (d : PyData) : PySem.W.kitOne K (.type (tyD d)) (.type "int") = some (match d with | .int _ => true | .bool _ => true | _ => false) := by
  cases d <;> (simp only [tyD]; kernel_rfl)
theorem kit_bool (K : PySem.W.Frag) (d : PyData) : PySem.W.kitOne K (.type (tyD d)) (.type "bool") = some (match d with | .bool _ => true | _ => false) := by
  cases d <;> (simp only [tyD]; kernel_rfl)
theorem kit_tuple (K : PySem.W.Frag) (d : PyData) : PySem.W.kitOne K (.type (tyD d)) (.type "tuple") = some (match d with | .tuple _ => true | _ => false) := by
  cases d <;> (simp only [tyD]; kernel_rfl)
section
variable {P : Program} {w : World} {H : Hp} {h : Heap} {S : List Addr}
theorem dict_empty (ok : HOk P w H h) {a : Addr} (e : H a = some (.dK [])) : (a == sysModules) = false ∧ ∃ o n, h.get? a = some o ∧ o.cls = .type "dict" ∧ o.data = .dict #[] n := by
  obtain ⟨_, y, vs, r, o, es, ep, e1, c, d, _, pr, _⟩ := (show ObjOk P w H h a (.dK []) from ok a _ e)
  cases r
  have hl : es.toList.length = 0 := pr.length
  have he : es = #[] := by
    cases es with
    | mk l =>
      have : l = [] := List.length_eq_zero_iff.mp hl
      rw [this]
  rw [he] at d
  exact ⟨y, o, ep, e1, c.1, d⟩
mutual
theorem RdS.shows (ok : HOk P w H h) : ∀ {x : V} {d : PyData} {u : Value}, RdS S H x d → RelV x u → d.showable = true → d.shown.length ≤ sizeLine →
    (∃ as, Reads h u d as) ∧ ∃ bs, ReadAtMost h d.depth bs ∧ ReprK P w bs h d.depth u d.shown
  | _, _, _, .non, r, _, _ => by cases r; exact ⟨⟨_, .none⟩, [], (fun _ h => nomatch h), by simp only [PyData.shown]; exact .of_is ReprIs.none _ _ _⟩
  | _, _, _, .bl b, r, _, _ => by cases r; exact ⟨⟨_, .bool b⟩, [], (fun _ h => nomatch h), by simp only [PyData.shown]; exact .of_is (ReprIs.bool b) _ _ _⟩
  | _, _, _, .int i, r, hs, _ => by obtain ⟨t, rfl⟩ := r; exact ⟨⟨_, .int i t⟩, [], (fun _ h => nomatch h), by simp only [PyData.shown]; exact .of_is (ReprIs.int t (by simpa [PyData.showable] using hs)) _ _ _⟩
  | _, _, _, .str x, r, _, hz => by obtain ⟨t, rfl⟩ := r; exact ⟨⟨_, .str x t⟩, [], (fun _ h => nomatch h), by simp only [PyData.shown]; exact .of_is (ReprIs.str x t (by simpa only [PyData.shown] using hz)) _ _ _⟩
  | _, _, _, .lst (a := a) (ds := ds) e _ ra, r, hs, hz => by
    cases r
    obtain ⟨_, its, n, rv, e1⟩ := (show ObjOk P w H h a (.lst _) from ok a _ e)
    have hz' : (listText (PyData.shownAll ds)).length ≤ sizeLine := by simpa only [PyData.shown] using hz
    obtain ⟨⟨as, rr⟩, bs, hb, hk⟩ := RdSs.shows ok ra rv (by simpa [PyData.showable] using hs) (fun t ht => Nat.le_trans (listText_mem_le ht) hz')
    have rd : Reads h (.ref a) (.list ds) (a :: as) := .list e1 rfl rfl (by simpa using rr)
    have hna : a ∉ bs := not_mem_of_deeper rd (by simp only [PyData.depth]; omega) hb
    refine ⟨⟨_, rd⟩, a :: bs, ReadAtMost.cons rd (by simp only [PyData.depth]; omega) hb, ?_⟩
    simp only [PyData.depth, PyData.shown]
    cases its with
    | nil =>
      cases rr
      simp only [PyData.shownAll, listText_nil]
      exact ReprK.listEmpty e1 rfl rfl
    | cons x l => exact ReprK.list e1 rfl rfl hna (by simpa using hk.length_eq) (fun i y e => hk.item i y (by simpa using e))
  | _, _, _, .tup (a := a) (ds := ds) e _ ra, r, hs, hz => by
    cases r
    obtain ⟨_, its, rv, o, e1, c, n, dt⟩ := (show ObjOk P w H h a (.tup _) from ok a _ e)
    have hz' : (tupleText (PyData.shownAll ds)).length ≤ sizeLine := by simpa only [PyData.shown] using hz
    obtain ⟨⟨as, rr⟩, bs, hb, hk⟩ := RdSs.shows ok ra rv (by simpa [PyData.showable] using hs) (fun t ht => Nat.le_trans (tupleText_mem_le ht) hz')
    have rd : Reads h (.ref a) (.tuple ds) as := .tuple e1 c dt (by simpa using rr)
    have hna : a ∉ bs := not_mem_of_deeper rd (by simp only [PyData.depth]; omega) hb
    refine ⟨⟨_, rd⟩, a :: bs, ReadAtMost.cons rd (by simp only [PyData.depth]; omega) hb, ?_⟩
    simp only [PyData.depth, PyData.shown]
    exact ReprK.tuple e1 c dt hna (by simpa using hk)
  | _, _, _, .dct (a := a) e _, r, hs, hz => by
    cases r
    obtain ⟨hsys, o, n, e1, c, dt⟩ := dict_empty ok e
    have rd : Reads h (.ref a) (.dict []) (a :: [] ++ []) := .dict (kvs := []) e1 c dt .nil .nil
    refine ⟨⟨_, rd⟩, a :: [], ReadAtMost.cons (n := 0) rd (Nat.zero_le _) (fun _ h => nomatch h), ?_⟩
    simp only [PyData.depth, PyData.depthKv, PyData.shown, PyData.shownKv]
    exact ReprK.dict e1 c dt hsys (by simp) .nil
theorem RdSs.shows (ok : HOk P w H h) : ∀ {xs : List V} {ds : List PyData} {us : List Value}, RdSs S H xs ds → Vals xs us → PyData.showableAll ds = true → (∀ t ∈ PyData.shownAll ds, t.length ≤ sizeLine) →
    (∃ as, ReadsAll h us ds as) ∧ ∃ bs, ReadAtMost h (PyData.depthAll ds) bs ∧ ReprAllK P w bs h (PyData.depthAll ds) us (PyData.shownAll ds)
  | _, _, _, .nil, .nil, _, _ => ⟨⟨_, .nil⟩, [], (fun _ h => nomatch h), by simp only [PyData.shownAll]; exact .nil⟩
  | _, _, _, .cons (d := d) (ds := ds) r rs, .cons v vs, hs, hz => by
    have hs' : d.showable = true ∧ PyData.showableAll ds = true := by simpa [PyData.showableAll] using hs
    obtain ⟨⟨a1, r1⟩, b1, hb1, k1⟩ := RdS.shows ok r v hs'.1 (hz _ (by simp only [PyData.shownAll]; exact List.mem_cons_self ..))
    obtain ⟨⟨a2, r2⟩, b2, hb2, k2⟩ := RdSs.shows ok rs vs hs'.2 (fun t ht => hz t (by simp only [PyData.shownAll]; exact List.mem_cons_of_mem _ ht))
    refine ⟨⟨_, .cons r1 r2⟩, b1 ++ b2, ?_, ?_⟩
    · simp only [PyData.depthAll]
      exact (hb1.mono (Nat.le_max_left _ _)).append (hb2.mono (Nat.le_max_right _ _))
    · simp only [PyData.depthAll, PyData.shownAll]
      exact .cons ((k1.more fun b hb => List.mem_append_left _ hb).level_le (Nat.le_max_left _ _)) (k2.more_le (fun b hb => List.mem_append_right _ hb) (Nat.le_max_right _ _))
end
end
section
variable {X : Cx}
theorem Inv.big {pins : List (Addr × Obj)} {σ : St} {H : Hp} {s : Shared} (I : Inv X pins σ H s) : sysModules < s.heap.objs.size := by
  have h : mainGlobals < s.heap.objs.size := (I.mod.glob.keeps I.bk).lt
  exact Nat.lt_trans (by decide) h
def rRepr : List V → Hp → VK → Prop := fun xs H Q => ∃ x d, xs = [x] ∧ RdS [] H x d ∧ d.showable = true ∧ d.shown.length ≤ sizeLine ∧ d.depth ≤ 60 ∧ Q (.str d.shown) H
theorem call_reprS (hg : X.A.guards = some []) (hu : X.A.units + 64 < cLine) : CallR X (.builtin "repr") rRepr := by
  intro pins s σ H xs us Q I rv h
  obtain ⟨x, d, rfl, rd, hs, hz, hdp, q⟩ := h
  obtain ⟨u, rfl, ru⟩ := rv.one
  have fin : ∀ (h' : Heap) (t : Tok) (tk : Nat), (∀ b o, s.heap.get? b = some o → h'.get? b = some o) → EP X pins σ Q (.str d.shown t) { s with heap := h', toks := tk } := fun h' t tk k => ⟨.str d.shown, H, I.kept k, ⟨t, rfl⟩, q⟩
  have hsh := RdS.shows I.hok rd ru hs hz
  cases rd with
  | non => cases ru; simp only [PyData.shown] at fin; exact P.repr_of_none (fin s.heap _ _ fun _ _ e => e)
  | bl b => cases ru; simp only [PyData.shown] at fin; exact P.repr_of_bool (fin s.heap _ _ fun _ _ e => e)
  | int i => obtain ⟨t, rfl⟩ := ru; simp only [PyData.shown] at fin; exact P.repr_of_int (by simpa [PyData.showable] using hs) (fin s.heap _ _ fun _ _ e => e)
  | str y => obtain ⟨t, rfl⟩ := ru; simp only [PyData.shown] at fin; exact P.repr_of_str (fin s.heap _ _ fun _ _ e => e) (by simpa only [PyData.shown] using hz)
  | @lst a xs ds e _ ra =>
    cases ru
    obtain ⟨_, its, n, rv, e1⟩ := (show ObjOk X.prog X.w H s.heap a (.lst _) from I.hok a _ e)
    have hz' : (listText (PyData.shownAll ds)).length ≤ sizeLine := by simpa only [PyData.shown] using hz
    obtain ⟨⟨as, rr⟩, bs, hb, hk⟩ := RdSs.shows I.hok ra rv (by simpa [PyData.showable] using hs) (fun t ht => Nat.le_trans (listText_mem_le ht) hz')
    have rd : Reads s.heap (.ref a) (.list ds) (a :: as) := .list e1 rfl rfl (by simpa using rr)
    have hna : a ∉ bs := not_mem_of_deeper rd (by simp only [PyData.depth]; omega) hb
    simp only [PyData.depth] at hdp
    simp only [PyData.shown] at fin
    refine call_repr_slot (by omega) ⟨_, e1, rfl⟩ F.slot_list_repr.toG ?_
    cases its with
    | nil =>
      cases rr
      simp only [PyData.shownAll, listText_nil] at fin
      exact call_list_repr_empty ⟨_, e1, rfl⟩ e1 rfl ⟨_, _, rfl, fin s.heap _ _ fun _ _ e => e⟩
    | cons x l => exact call_list_reprK e1 rfl rfl hna (by simpa using hk.length_eq) (fun i y e => hk.item i y (by simpa using e)) (A := X.A.in1) hg (fun b _ => Clear.nil b) (by show X.A.units + 1 + (PyData.depthAll ds + 1) < cLine; omega) (fun _ _ e => e) (fun h' t tk k => ⟨_, _, rfl, fin h' t tk k⟩) hz'
  | @tup a xs ds e _ ra =>
    cases ru
    obtain ⟨_, its, rv, o, e1, c, n, dt⟩ := (show ObjOk X.prog X.w H s.heap a (.tup _) from I.hok a _ e)
    have hz' : (tupleText (PyData.shownAll ds)).length ≤ sizeLine := by simpa only [PyData.shown] using hz
    obtain ⟨⟨as, rr⟩, bs, hb, hk⟩ := RdSs.shows I.hok ra rv (by simpa [PyData.showable] using hs) (fun t ht => Nat.le_trans (tupleText_mem_le ht) hz')
    have rd : Reads s.heap (.ref a) (.tuple ds) as := .tuple e1 c dt (by simpa using rr)
    have hna : a ∉ bs := not_mem_of_deeper rd (by simp only [PyData.depth]; omega) hb
    simp only [PyData.depth] at hdp
    simp only [PyData.shown] at fin
    refine call_repr_slot (by omega) ⟨_, e1, c⟩ F.slot_tuple_repr ?_
    exact call_tuple_reprK e1 c dt hna (by simpa using hk) (A := X.A.in1) hg (fun b _ => Clear.nil b) (by show X.A.units + 1 + (PyData.depthAll ds + 1) < cLine; omega) (fun _ _ e => e) (fun h' t tk k => ⟨_, _, rfl, fin h' t tk k⟩) hz'
  | @dct a e _ =>
    cases ru
    obtain ⟨hsys, o, n, e1, c, dt⟩ := dict_empty I.hok e
    simp only [PyData.shown, PyData.shownKv] at fin hz
    refine call_repr_slot (by omega) ⟨_, e1, c⟩ F.slot_dict_repr ?_
    exact call_dict_reprK (as := []) (d := 0) e1 c dt hsys (by simp) .nil (A := X.A.in1) hg (fun b _ => Clear.nil b) (by show X.A.units + 1 + (0 + 1) < cLine; omega) (fun _ _ e => e) (fun h' t tk k => ⟨_, _, rfl, fin h' t tk k⟩) hz
def tDict0 : TE := fun _ H Q => ∀ p, H p = none → Q (.ref p) (upd H p (.dK []))
theorem pe_dict0 {pos : Pos} : PE X (.Dict [] [] pos) tDict0 := fun pins s σ H Q I h =>
  wpAny_Dict_empty ⟨.ref s.heap.objs.size, _, I.laid (a := s.heap.objs.size) (o := .dK []) (t' := s.toks) (fun _ _ q => Heap.get?_push_of_some _ q) (Nat.le_refl _)
    ⟨Nat.zero_le _, beq_eq_false_iff_ne.mpr (Ne.symm (Nat.ne_of_lt I.big)), [], .nil, Heap.DictOf.new s.heap⟩, rfl, h _ (I.hok.fresh (Nat.le_refl _))⟩
def tRev (te : TE) (ts : TO) : TE := fun σ H Q => te σ H fun x H1 => ts σ H1 fun st H2 => ∃ a xs, st = some (-1) ∧ x = .ref a ∧ H2 a = some (.lst xs) ∧ ∀ p, H2 p = none → Q (.ref p) (upd H2 p (.lst xs.reverse))
theorem vals_rev {xs : List V} {us : List Value} (r : Vals xs us) : Vals xs.reverse us.reverse := by
  induction r with
  | nil => exact .nil
  | cons h t ih =>
    rw [List.reverse_cons, List.reverse_cons]
    exact ih.append (.cons h .nil)
theorem pe_rev {e se : Expr} {te : TE} {ts : TO} {p2 pos : Pos} (he : PE X e te) (hs : PO X (some se) ts) : PE X (.Subscript e (.Slice none none (some se) p2) pos) (tRev te ts) := by
  intro pins s σ H Q I h
  refine Subscript_ (thn (he pins s σ H _ I h) fun v s1 ⟨x, H1, I1, r1, q1⟩ => ?_)
  refine wpAny_Slice ?_
  rw [evalPart_none]
  refine wpAny_pure ?_
  refine wpAny_pure ?_
  refine thn (hs pins s1 σ H1 _ I1 q1) fun vs s2 ⟨st, H2, I2, pst, q2⟩ => ?_
  obtain ⟨a, xs, rfl, rfl, hx, q⟩ := q2
  cases r1
  have I4 : Inv X pins σ H2 { s2 with heap := s2.heap.push { cls := .type "slice", data := .fields #[.none, .none, vs] } } := I2.kept (t' := s2.toks) fun b ob q => Heap.get?_push_of_some _ q
  obtain ⟨its, r, ht, hz⟩ := I4.list (SqL.of hx)
  have hlen := r.length
  show wpAny (model X.prog X.w) X.A (subscriptTail e (.Slice none none (some se) p2) (.ref a) (.ref s2.heap.objs.size)) (EP X pins σ Q) X.xe { s2 with heap := s2.heap.push { cls := .type "slice", data := .fields #[.none, .none, vs] } }
  refine tail_any (ops := [.ref a, .ref s2.heap.objs.size]) ht.isList.typeIs slot_list_getitem.lookup ?_ rfl
  refine wpAny_getItem_list_slice ht.isList (Heap.IsSliceOf.new ..) .none .none pst (by simp) ?_ (by rw [List.size_toArray] <;> omega)
  rw [PySem.W.krv_pick]
  refine ⟨.ref _, _, I4.laid (t' := s2.toks) (o := .lst xs.reverse) (fun b ob q => Heap.get?_push_of_some _ q) (Nat.le_refl _) ?_, rfl, q _ (I4.hok.fresh (Nat.le_refl _))⟩
  have e : its.toArray.toList.reverse.toArray = its.reverse.toArray := by simp
  rw [e]
  exact ⟨by rw [List.length_reverse]; exact hz, its.reverse, 0, vals_rev r, Heap.get?_push_size _ rfl⟩
end
structure Sz (c k : Nat) (d : PyData) : Prop where
  sh : d.showable = true
  le : d.shown.length ≤ c
  dp : d.depth ≤ k
theorem Sz.mono {c k c' k' : Nat} {d : PyData} (s : Sz c k d) (h1 : c ≤ c') (h2 : k ≤ k') : Sz c' k' d := ⟨s.sh, Nat.le_trans s.le h1, Nat.le_trans s.dp h2⟩
theorem sz_all {c k : Nat} : ∀ {ds : List PyData}, (∀ d ∈ ds, Sz c k d) → PyData.showableAll ds = true ∧ ((PyData.shownAll ds).map (·.length)).sum ≤ ds.length * c ∧ PyData.depthAll ds ≤ k ∧ (PyData.shownAll ds).length = ds.length
  | [], _ => by simp [PyData.showableAll, PyData.shownAll, PyData.depthAll]
  | d :: ds, h => by
    obtain ⟨h1, h2, h3, h4⟩ := sz_all (fun e he => h e (List.mem_cons_of_mem _ he))
    have hd := h d (by simp)
    have a1 := hd.le
    have a2 := hd.dp
    simp only [PyData.showableAll, PyData.shownAll, PyData.depthAll, List.map_cons, List.sum_cons, List.length_cons, hd.sh, h1, Bool.and_self, h4, true_and, and_true, Nat.succ_mul]
    omega
theorem sz_list {c k n : Nat} {ds : List PyData} (h : ∀ d ∈ ds, Sz c k d) (hn : ds.length ≤ n) : Sz (n * c + 2 * n + 3) (k + 1) (.list ds) := by
  obtain ⟨h1, h2, h3, h4⟩ := sz_all h
  have e := listText_len_le (PyData.shownAll ds)
  rw [h4] at e
  have m : ds.length * c ≤ n * c := Nat.mul_le_mul_right _ hn
  exact ⟨by simpa [PyData.showable] using h1, by simp only [PyData.shown]; omega, by simp only [PyData.depth]; omega⟩
theorem sz_tuple {c k n : Nat} {ds : List PyData} (h : ∀ d ∈ ds, Sz c k d) (hn : ds.length ≤ n) : Sz (n * c + 2 * n + 3) (k + 1) (.tuple ds) := by
  obtain ⟨h1, h2, h3, h4⟩ := sz_all h
  have e := tupleText_len_le (PyData.shownAll ds)
  rw [h4] at e
  have m : ds.length * c ≤ n * c := Nat.mul_le_mul_right _ hn
  exact ⟨by simpa [PyData.showable] using h1, by simp only [PyData.shown]; omega, by simp only [PyData.depth]; omega⟩
theorem log_lt {i : Int} (h : i.natAbs < 10 ^ 40) : i.natAbs.log2 < 1920 := by
  by_cases h0 : i.natAbs = 0
  · rw [h0]; decide
  · exact (Nat.log2_lt h0).mpr (Nat.lt_of_lt_of_le (Nat.lt_trans h (show 10 ^ 40 < 2 ^ 200 by decide)) (Nat.pow_le_pow_right (by decide) (by decide)))
theorem sz_int {i : Int} (h : i.natAbs < 10 ^ 40) : Sz 41 0 (.int i) := by
  have e := int_text_length_le10 (k := 40) (by decide) h
  refine ⟨?_, ?_, Nat.le_refl _⟩
  · show decide (i.natAbs.log2 < 1920) = true
    exact decide_eq_true (log_lt h)
  · show (Str.ofString (toString i)).length ≤ 41
    rw [PySem.ofString_length]; exact e
theorem sz_none : Sz 4 0 .none := ⟨rfl, by decide, Nat.le_refl _⟩
end L2
set_option Elab.async false
set_option linter.all false
set_option maxRecDepth 100000
set_option maxHeartbeats 4000000
namespace L2
open PySem PySem.Spec PyProof.Rows
theorem call_minL {X : Cx} (hc : X.calm = true) : CallR X (.builtin "min") (fun xs H Q => ∃ (p : Addr) (ns : List Int), xs = [.ref p] ∧ SqL X.K H p (ns.map V.int) ∧ 0 < ns.length ∧ ∀ M, M ∈ ns → (∀ a ∈ ns, M ≤ a) → Q (.int M) H) := by
  intro pins s σ H xs us Q I rv h
  obtain ⟨p, ns, rfl, hq, hne, q⟩ := h
  obtain ⟨u, rfl, ru⟩ := rv.one
  cases ru
  obtain ⟨its, r, pl, _⟩ := I.list hq
  have hi := ints_of r
  obtain ⟨ys, e⟩ := hi.allInts.items
  have hl := pl.isList
  have en : ns = ys.toList.map (·.1) := by
    have e1 := hi.numsOf
    have e2 := nums_intItems ys
    rw [← e] at e2
    exact e1.symm.trans e2
  have lz : ys.size = ns.length := by rw [en]; simp
  rw [e] at hl
  refine min_intList (I.ok.hd hc) hl (by omega) fun v h' tk hv hk => ?_
  obtain ⟨t, rfl⟩ := intItems_at hv
  obtain ⟨b1, b2⟩ := argBest_lt (numAt ys) (ys.size - 1)
  refine ⟨.int _, H, I.kept hk, ⟨_, rfl⟩, q _ ?_ fun a ha => ?_⟩
  · rw [en, numAt_eq]
    exact getD_mem (by rw [List.length_map, Array.length_toList]; omega)
  · rw [en] at ha
    obtain ⟨j, hj, rfl⟩ := mem_getD ha
    rw [List.length_map, Array.length_toList] at hj
    have := b2 j (by omega)
    rw [numAt_eq ys j] at this
    exact this
end L2
set_option Elab.async false
set_option linter.all false
set_option maxRecDepth 100000
set_option maxHeartbeats 4000000
namespace L2
open PySem PySem.Spec PyProof.Rows PySem.Calls
section
variable {prog : Program} {w : World} {A : Around} {E : Value → Shared → Prop} {s : Shared}
end
theorem call_sortedI {X : Cx} : CallR X (.builtin "sorted") (fun xs H Q => ∃ (a : Addr) (ns : List Int), xs = [.ref a] ∧ SqL X.K H a (ns.map V.int) ∧ ns.length < 64 ∧ ∀ (D : Addr) (ms : List Int), H D = none → ms.Perm ns → ms.Pairwise (· ≤ ·) → Q (.ref D) (upd H D (.lst (ms.map V.int)))) := by
  intro pins s σ H xs us Q I rv h
  obtain ⟨a, ns, rfl, hq, h64, q⟩ := h
  obtain ⟨u, rfl, ru⟩ := rv.one
  cases ru
  obtain ⟨its, r, pl, hz⟩ := I.list hq
  have hlen := r.length
  rw [List.length_map] at hlen
  refine sorted_ints pl.isList (ints_of r) (by omega) fun out ms hi hp hs => ?_
  obtain ⟨e, he⟩ := sortedAll_at s.heap its out
  refine ⟨.ref _, _, I.laid (t' := s.toks) (o := .lst (ms.map V.int)) (fun b o => sortedAll_old) (Nat.le_succ _) ⟨?_, out.toList, e, vals_ints hi, ?_⟩, rfl, q _ ms (I.hok.fresh (Nat.le_succ _)) hp hs⟩
  · rw [List.length_map, hp.length_eq]
    exact Nat.le_of_lt (small1000 (by omega))
  · rw [Array.toArray_toList]
    exact he
theorem pg_cz {X : Cx} {N' : List Str} {scope : Scope} {cl : List (Str × Addr)} {C : Addr} {s2 : Shared} {H2 : Hp} {ex : List Addr} {y z : Str} {p1 p2 pos : Pos} {k : Nat} (K : PySem.W.Frag) (hc : X.calm = true) (nd : N'.Nodup) (h0 : N'[0]? = some y := by rfl) (h1 : N'[1]? = some z := by rfl)
    (hy : (relabel scope X.env).names.lookup y = some .local := by rfl) (hz : (relabel scope X.env).names.lookup z = some .local := by rfl) (hK : X.K = K := by rfl) :
    PG (X.comp N' scope cl C s2 H2 ex) (.Tuple [.Name y p1, .Name z p2] k pos) (gTup K 2 (gCons (gName 0) (gCons (gName 1) gNil))) := pg_c2 K hc nd h0 h1 hy hz hK
end L2
set_option Elab.async false
set_option linter.all false
set_option maxRecDepth 100000
set_option maxHeartbeats 4000000
namespace L2
open PySem PySem.Spec PyProof.Rows
end L2
set_option Elab.async false
set_option linter.all false
set_option maxRecDepth 100000
set_option maxHeartbeats 4000000
namespace L2
open PySem PySem.Spec PyProof.Rows
section
variable {X : Cx} {N' : List Str} {scope osc : Scope} {cl : List (Str × Addr)} {C : Addr} {ex : List Addr} {ix : List (Option Nat)} {pins : List (Addr × Obj)} {σ : St} {H2 : Hp} {s2 : Shared}
end
end L2
set_option maxRecDepth 100000
namespace L2
open PySem PySem.Spec PyProof.Rows
theorem ObjOk.get {P : Program} {w : World} {H : Hp} {h : Heap} {a : Addr} {o : HO} (x : ObjOk P w H h a o) : ∃ u, h.get? a = some u := by
  cases o with
  | lst xs => obtain ⟨_, _, _, _, e⟩ := x; exact ⟨_, e⟩
  | tup xs => obtain ⟨_, _, _, _, e, _⟩ := x; exact ⟨_, e⟩
  | dK kvs => obtain ⟨_, _, _, _, o, _, _, e, _⟩ := x; exact ⟨_, e⟩
  | dT kvs => obtain ⟨_, _, _, _, o, _, _, e, _⟩ := x; exact ⟨_, e⟩
  | set S n => obtain ⟨o, _, _, _, e, _⟩ := x; exact ⟨_, e⟩
  | ins C dx fs => obtain ⟨_, _, _, e, _⟩ := x; exact ⟨_, e⟩
  | own y => exact x
  | xd fs => obtain ⟨_, ⟨_, _, _, e, _⟩, _⟩ := x; exact ⟨_, e⟩
  | rng lo hi => obtain ⟨_, _, _, e⟩ := x; exact ⟨_, e⟩
  | frz ob u => exact ⟨_, x.1⟩
  | tbl ps => exact ⟨_, x⟩
  | met f y => exact ⟨_, x⟩
  | ext φ => exact x.2.1
def Trc (h : Heap) (H' : Hp) (g : Heap) (e : Addr) (cls fl : Value) : Prop :=
  ∃ a0 oe vs T oT ts, h.get? e = some oe ∧ (oe.cls = cls ∧ vs[0]? = some a0) ∧ oe.data = .fields vs ∧ vs[1]? = some (.ref T) ∧ T ≠ e ∧ h.get? T = some oT ∧ oT.data = .fields ts ∧ ts[3]? = some fl ∧ (H' e = none ∧ H' T = none) ∧ g.get? e = none ∧ g.get? T = none
structure Fli (P : Program) (w : World) (l : List Env) (H : Hp) (s : Shared) (e : Addr) (cls fl : Value) (H' : Hp) (s' : Shared) : Prop where
  os : s'.os = s.os
  bare : AllBare s'.gens
  un : Un (frs l) [] H H' s.heap s'.heap
  hok : HOk P w H' s'.heap
  tr : Trc s'.heap H' s.heap e cls fl
section
variable {P : Program} {w : World} {l : List Env} {H H' : Hp} {s s1 : Shared} {e : Addr} {cls fl : Value}
theorem fli_of {base : Heap} (F : Fli P w l H s e cls fl H' s1) (hfr : s1.heap.FunFrames base l) (hff : ∀ b ∈ frs l, H' b = none) :
    ∃ (B : Heap) (a0 : Value), (B.StaysIn s1.heap ∧ B.get? e = none ∧ s1.heap.FunFrames B l ∧ s1.heap.TracedAtW B e cls a0 fl) ∧
      ∀ h' fl', B.StaysIn h' → h'.TracedAtW B e cls a0 fl' → s1.heap.UpToSlots h' → Fli P w l H s e cls fl' H' { s1 with heap := h' } := by
  obtain ⟨a0, oe, vs, T, oT, ts, h1, h2, h3, h4, h5, h6, h7, h8, ⟨h9, h10⟩, h11, h12⟩ := F.tr
  have none_of : ∀ b, b ∈ e :: T :: frs l → (PySem.W.hideAll s1.heap (e :: T :: frs l)).get? b = none := fun b hb => PySem.W.hideAll_none _ hb
  have at_of : ∀ b o, s1.heap.get? b = some o → b ∉ e :: T :: frs l → (PySem.W.hideAll s1.heap (e :: T :: frs l)).get? b = some o := fun b o q hb => PySem.W.hideAll_get _ q hb
  have nofld : ∀ b ∈ frs l, ∀ o, s1.heap.get? b = some o → ∀ vs, o.data ≠ .fields vs := fun b hb o q => by
    obtain ⟨_, o', ho', hn⟩ := hfr.mem hb
    rw [q] at ho'; cases ho'; exact hn
  have hidT : ∀ b, H' b ≠ none → b ∉ e :: T :: frs l := fun b q z => by
    rcases List.mem_cons.mp z with r | z
    · rw [r] at q; exact q h9
    · rcases List.mem_cons.mp z with r | z
      · rw [r] at q; exact q h10
      · exact q (hff b z)
  refine ⟨PySem.W.hideAll s1.heap (e :: T :: frs l), a0, ⟨fun b o q => PySem.W.of_hideAll _ q, none_of e List.mem_cons_self, PySem.W.funFrames_hide hfr fun env he a ha => ?_, oe, vs, T, oT, ts, h1, h2, h3, h4, none_of T (by simp), h5, h6, h7, h8⟩, fun h' fl' hB ht hu => ?_⟩
  · exact List.mem_cons_of_mem _ (List.mem_cons_of_mem _ (List.mem_filterMap.mpr ⟨env, he, ha⟩))
  · obtain ⟨oe', vs', T', oT', ts', k1, k2, k3, k4, k5, k6, k7, k8, k9⟩ := ht
    have hT' : H' T' = none := by
      cases q : H' T' with
      | none => rfl
      | some u =>
        obtain ⟨ob, hob⟩ := (F.hok _ _ q).get
        have := at_of T' ob hob (hidT T' (by rw [q]; simp))
        rw [k5] at this; cases this
    have gT' : s.heap.get? T' = none := by
      cases q : s.heap.get? T' with
      | none => rfl
      | some u =>
        obtain ⟨ob, hob⟩ := F.un.there T' u q (by simp)
        by_cases z : T' ∈ e :: T :: frs l
        · rcases List.mem_cons.mp z with r | z
          · exact absurd r k6
          · rcases List.mem_cons.mp z with r | z
            · rw [r, h12] at q; cases q
            · obtain ⟨sl, hsl⟩ := hu T' ob hob (nofld T' z ob hob)
              rw [k7] at hsl; cases hsl
              exact absurd k8 (nofld T' z ob hob _)
        · have := at_of T' ob hob z
          rw [k5] at this; cases this
    have new : ∀ b o, s.heap.get? b = some o → b ∉ frs l → b ∉ e :: T :: frs l := fun b o q hb z => by
      rcases List.mem_cons.mp z with r | z
      · rw [r, h11] at q; cases q
      · rcases List.mem_cons.mp z with r | z
        · rw [r, h12] at q; cases q
        · exact hb z
    refine ⟨F.os, F.bare, ⟨fun b o q n hb _ => ?_, fun b o q n hb _ => ?_, F.un.free, fun b o q _ => ?_, F.un.tups, F.un.frzs, F.un.tbls⟩, fun b o q => ?_, a0, oe', vs', T', oT', ts', k1, k2, k3, k4, k6, k7, k8, k9, ⟨h9, hT'⟩, h11, gT'⟩
    · exact hB b o (at_of b o (F.un.keep b o q n hb (by simp)) (new b o q hb))
    · obtain ⟨sl, q1⟩ := F.un.slot b o q n hb (by simp)
      obtain ⟨sl', q2⟩ := hu b _ q1 (nofld b hb _ q1)
      exact ⟨sl', q2⟩
    · obtain ⟨o', q1⟩ := F.un.there b o q (by simp)
      by_cases hb : b ∈ frs l
      · obtain ⟨sl', q2⟩ := hu b _ q1 (nofld b hb _ q1)
        exact ⟨_, q2⟩
      · exact ⟨o', hB b o' (at_of b o' q1 (new b o q hb))⟩
    · refine (F.hok b o q).stay (fun c v hc r => hB c v (at_of c v r (hidT c ?_))) (fun _ z => z) fun _ _ z => z
      rcases hc with z | z
      · rw [z, q]; simp
      · rw [z]; simp
end
def CXW (P : Program) (w : World) : CXT := fun l H s E ev s' => ∃ e cls H', ev = .ref e ∧ Fli P w l H s e cls .none H' s' ∧ E cls none H'
def Flies (X : Cx) (R : St → Value → Hp → Prop) : Prop := ∀ (pins : List (Addr × Obj)) (σ : St) (H : Hp) (s : Shared) (e : Addr) (cls : Value) (H' : Hp) (s' : Shared), Inv X pins σ H s → Fli X.prog X.w X.stack H s e cls .none H' s' → R σ cls H' → X.xe (.ref e) s'
def Throws (X : Cx) (R : St → Value → Hp → Prop) : Prop := ∀ (pins : List (Addr × Obj)) (σ : St) (H : Hp) (s : Shared) (e : Addr) (cls : Value) (vs : List Value) (h' : Heap), Inv X pins σ H s → Heap.MadeExcOf s.heap h' e cls vs → R σ cls H → X.xe (.ref e) { s with heap := h' }
section
variable {X : Cx} {pins : List (Addr × Obj)} {σ : St} {H H' : Hp} {s s' : Shared} {e : Addr} {cls fl : Value}
theorem Inv.fly (I : Inv X pins σ H s) (F : Fli X.prog X.w X.stack H s e cls fl H' s') : Inv X pins σ H' s' := I.call' (ch := []) F.os F.un F.hok F.bare fun b z => absurd z (by simp)
theorem Inv.old (I : Inv X pins σ H s) (hex : X.ex = []) {b : Addr} (h : s.heap.get? b = none) : X.s₀.heap.get? b = none := by
  cases q : X.s₀.heap.get? b with
  | none => rfl
  | some o =>
    obtain ⟨o', q'⟩ := I.base.there b o q (by rw [hex]; simp)
    rw [h] at q'; cases q'
theorem Fli.out (I : Inv X pins σ H s) (F : Fli X.prog X.w X.stack H s e cls fl H' s') (hex : X.ex = []) : Fli X.prog X.w X.outer X.H₀ X.s₀ e cls fl H' s' := by
  have J := I.fly F
  obtain ⟨a0, oe, vs, T, oT, ts, h1, h2, h3, h4, h5, h6, h7, h8, h9, h11, h12⟩ := F.tr
  refine ⟨J.os, J.bare, ?_, J.hok, a0, oe, vs, T, oT, ts, h1, h2, h3, h4, h5, h6, h7, h8, h9, I.old hex h11, I.old hex h12⟩
  have := J.base
  rw [hex] at this
  exact this
theorem fli_made {B h' h'' : Heap} {a0 : Value} {vs : List Value} (I : Inv X pins σ H s) (hB : B = PySem.W.hideAll s.heap (frs X.stack)) (hx : Heap.MadeExcOf s.heap h' e cls vs) (ht : h''.TracedW B e cls a0) (hs : B.StaysIn h'') (hu : h'.UpToSlots h'') :
    Fli X.prog X.w X.stack H s e cls .none H { s with heap := h'' } := by
  subst hB
  obtain ⟨oe, ws, T, oT, ts, k1, k2, k3, k4, k5, k6, k7, k8, k9⟩ := ht
  have nofld : ∀ b ∈ frs X.stack, ∃ o, s.heap.get? b = some o ∧ ∀ vs, o.data ≠ .fields vs := fun b hb => (I.stack.mem hb).2
  have at_of : ∀ b o, s.heap.get? b = some o → b ∉ frs X.stack → h''.get? b = some o := fun b o q hb => hs b o (PySem.W.hideAll_get _ q hb)
  have gT : s.heap.get? T = none := by
    cases q : s.heap.get? T with
    | none => rfl
    | some u =>
      by_cases z : T ∈ frs X.stack
      · obtain ⟨o, ho, hn⟩ := nofld T z
        obtain ⟨sl, hsl⟩ := hu T o (hx.keeps T o ho) hn
        rw [k7] at hsl; cases hsl
        exact absurd k8 (hn _)
      · have := PySem.W.hideAll_get _ q z
        rw [k5] at this; cases this
  have fr : ∀ b, s.heap.get? b = none → H b = none := fun b q => by
    cases r : H b with
    | none => rfl
    | some u =>
      obtain ⟨o, ho⟩ := (I.hok b u r).get
      rw [q] at ho; cases ho
  have sl : ∀ b o, s.heap.get? b = some o → b ∈ frs X.stack → ∃ sl, h''.get? b = some { o with slots := sl } := fun b o q hb => by
    obtain ⟨o', ho', hn⟩ := nofld b hb
    rw [q] at ho'; cases ho'
    exact hu b o (hx.keeps b o q) hn
  refine ⟨rfl, I.bare, ⟨fun b o q _ hb _ => at_of b o q hb, fun b o q _ hb _ => sl b o q hb, fun _ _ _ n _ => n, fun b o q _ => ?_, fun _ _ q => q, fun _ _ _ q => q, fun b ps q => ⟨#[], by rw [q]; simp⟩⟩, fun b o q => ?_, a0, oe, ws, T, oT, ts, k1, k2, k3, k4, k6, k7, k8, k9, ⟨fr e hx.new, fr T gT⟩, hx.new, gT⟩
  · by_cases hb : b ∈ frs X.stack
    · obtain ⟨_, z⟩ := sl b o q hb
      exact ⟨_, z⟩
    · exact ⟨o, at_of b o q hb⟩
  · refine (I.hok b o q).stay (fun c v hc r => at_of c v r fun hb => ?_) (fun _ z => z) fun _ _ z => z
    have n := I.stkFree c hb
    rcases hc with z | z
    · rw [z, q] at n; cases n
    · rw [z] at n; cases n
end
section
variable {P : Program} {w : World} {K : PySem.W.Frag} {mg : Str → Option Value} {base : Heap} {N : List Str} {qual : Str} {scope : Scope} {f : Addr} {cd : Value} {A : Around} {outer : List Env} {s : Shared} {H : Hp} {E : XK}
theorem flies_def : Flies (cxOf (CXW P w) P w K mg base N qual scope f cd A outer s H E) fun _ cls H' => E cls none H' := by
  intro pins σ H1 s1 e cls H' s' I F r
  have J := I.fly F
  obtain ⟨B, a0, ⟨b1, b2, b3, b4⟩, st⟩ := fli_of F J.stack J.stkFree
  refine wpAny_leaves_onW I.ok.frames rfl ⟨b1, b2, b3, b4⟩ fun h' hf hu => ?_
  exact ⟨e, cls, H', rfl, Fli.out I (st h' .none hf.1 hf.2.2.2 hu) rfl, r⟩
theorem throws_def : Throws (cxOf (CXW P w) P w K mg base N qual scope f cd A outer s H E) fun _ cls H' => E cls none H' := by
  intro pins σ H1 s1 e cls vs h' I hx r
  refine wpAny_leaves_madeW (base := PySem.W.hideAll s1.heap (frs (envOfC qual scope s.heap.objs.size f cd :: outer))) I.ok.frames rfl (fun b o q => PySem.W.of_hideAll _ q)
    (PySem.W.funFrames_hide I.stack fun env he a ha => List.mem_filterMap.mpr ⟨env, he, ha⟩) hx fun h'' t hf _ _ hu => ?_
  exact ⟨e, cls, H1, rfl, Fli.out I (fli_made I rfl hx hf.2.2.2 hf.1 hu) rfl, r⟩
end
def FnAtX (P : Program) (w : World) (K : PySem.W.Frag) (mg : Str → Option Value) (base : Heap) (k : Nat) (x : Str) (ps : List Str) (sp : Sp) : Prop :=
  ∃ f, mg x = some (.ref f) ∧ PySem.W.keepIn K (.ref f) = true ∧ (∀ vs H Q E, sp vs H Q E → vs.length = ps.length) ∧
    ∀ (A : Around) (outer : List Env) (s : Shared) (H : Hp) (us : List Value) (vs : List V) (Q : VK) (E : XK), Room k A → Env0 P w K mg base A outer s H → Vals vs us → sp vs H Q E → codeAny (model P w) A (.call (.ref f) ⟨us, []⟩) (CR (CXW P w) outer P w H s Q E) s
section
variable {P : Program} {w : World} {K : PySem.W.Frag} {mg : Str → Option Value} {base : Heap} {j k : Nat} {x : Str} {ps : List Str} {sp sp' : Sp}
theorem FnAtX.at {CX : CXT} {f : Addr} {fd : FuncData} (F : FnOk P w K mg base CX k f fd ps sp) (hm : mg x = some (.ref f)) (hk : PySem.W.keepIn K (.ref f) = true) (hb : Binds K fd ps []) (hc : ∀ l H s E e s', CX l H s E e s' → CXW P w l H s E e s') : FnAtX P w K mg base k x ps sp := by
  refine ⟨f, hm, hk, F.len, fun A outer s H us vs Q E hr e0 r q => ?_⟩
  have hl : us.length = ps.length := by rw [← r.length]; exact F.len _ _ _ _ q
  refine codeAny_mono (F.run A outer s H ⟨us, []⟩ us vs Q E hr e0 (by simpa using hb s us (e0.mod.kin.keeps fun b o z => (e0.bs b o z).1) (by simpa using hl)) r q) fun res s' hq => ?_
  cases res with
  | error ev => exact hc _ _ _ _ _ _ hq
  | ok fl => cases fl <;> exact hq
theorem FnAtX.of {st : Stmt} {N : List Str} (D : DefAt K mg x st ps) (S : FnScope N ps (defScope st)) (len : ∀ vs H Q E, sp vs H Q E → vs.length = ps.length)
    (hbody : ∀ (f : Addr) (cdv : Value) (A : Around) (outer : List Env) (s : Shared) (H : Hp) (vs : List V) (Q : VK) (E : XK), Room k (A.deeper (envOfC x (defScope st) s.heap.objs.size f cdv)) → sp vs H Q E →
      ∃ t, PSs (cxOf (CXW P w) P w K mg base N x (defScope st) f cdv A outer s H E) (defBody st) t ∧ t { nx := fun _ H' => Q .non H', rt := Q } (start N vs) H) : FnAtX P w K mg base (k + 1) x ps sp := by
  obtain ⟨f, fd, F, hm, hb⟩ := D
  obtain ⟨oc, od, kV, doc, pm, an, cdv, ct, osl, rfl, lk, hcd⟩ := F.ex
  exact .at (CX := CXW P w) (fn_of lk hcd S len fun A outer s H vs Q E hr hsp => hbody f cdv A outer s H vs Q E hr hsp) hm F.kp hb fun _ _ _ _ _ _ z => z
end
def tFx (sp : Sp) (R : St → Value → Hp → Prop) (t : TA) : TE := fun σ H Q => t σ H fun vs H1 => sp vs H1 Q fun cls _ H' => R σ cls H'
section
variable {X : Cx} {k : Nat} {x : Str} {ps : List Str} {sp : Sp} {e : Expr} {es : List Expr} {t : TA} {p pos : Pos} {R : St → Value → Hp → Prop}
theorem pe_fx (F : FnAtX X.prog X.w X.K X.mg X.base k x ps sp) (hr : Room k X.A) (hR : Flies X R) (ha : PA X (e :: es) t) (hg : Gl X x := by rfl) (hdb : (x == ("__debug__" : Str)) = false := by decide)
    (he : starEach (e :: es) X.env = (false, eval e X.env) :: starEach es X.env := by rfl) (hpl : (backTo pos (starEach es X.env)).any (·.1) = false := by rfl) : PE X (.Call (.Name x p) (e :: es) [] pos) (tFx sp R t) := by
  obtain ⟨f, hm, hk, hl, run⟩ := F
  intro pins s σ H Q I h
  refine wpAny_Call_Name_kw (ld_glob I hg hm ?_ hdb)
  refine PySem.W.callWith_K (h₀ := X.base) I.ok.mod.kin hk (thn (ha pos pins s σ H _ I h) fun us s1 ⟨vs, H1, I1, r, q⟩ => ⟨I1.kIn, ?_⟩) he hpl
  refine wpAny_call (codeAny_mono (run X.A X.stack s1 H1 us vs Q _ hr I1.env0 r q) fun res s' hq => ?_)
  cases res with
  | error ev =>
    obtain ⟨e', cls, H', rfl, Fl, rr⟩ := hq
    exact hR pins σ H1 s1 e' cls H' s' I1 Fl rr
  | ok fl =>
    cases fl with
    | ret u => exact I1.after hq
    | next => exact False.elim hq
    | brk => exact False.elim hq
    | cont => exact False.elim hq
end
end L2
set_option maxRecDepth 100000
namespace L2
open PySem PySem.Spec PySem.Calls PyProof.Rows
open Builtin Builtin.ObjectAttr Builtin.Getset_descriptor
structure ExcK (K : PySem.W.Frag) (C : Addr) : Prop where
  exc : PySem.W.excIn K C [.type "ValueError", .type "Exception", .type "BaseException", .type "object"] "ValueError.__new__" = true
  ga : PySem.W.findIn K (.ref C) "__getattribute__" = some (some (.builtin "BaseException.__getattribute__"))
  gt : PySem.W.findIn K (.ref C) "__getattr__" = some none
  cl : PySem.W.findIn K (.ref C) "__class__" = some (some (.builtin "object.__class__"))
  ob : PySem.W.mroIn K C (.type "object") = some true
  bx : PySem.W.mroIn K C (.type "BaseException") = some true
theorem exc_obj {K : PySem.W.Frag} {h : Heap} {C : Addr} {nid : String} {bmB : List Value} (Y : K.In h) (q : PySem.W.excIn K C bmB nid = true) :
    ∃ bm N nm qn bs hd sn sub ab col dd k0 k1 k2 k3 k5 mN, h.get? C = some (excClassObj nm qn C N bs bm hd sn sub ab col dd k0 k1 k2 k3 k5 nid) ∧ h.Ns N mN ∧ mN "__init__" = none ∧ OwnTail h bmB bm := by
  unfold PySem.W.excIn at q
  split at q
  · next dd cdt slt hlk =>
    split at q
    · next C1 bm1 j0 j1 j2 j3 n1 j5 hmro hslots =>
      simp only [Bool.and_eq_true, beq_iff_eq, Bool.not_eq_true'] at q
      obtain ⟨⟨⟨⟨⟨e1, e2⟩, hdl⟩, htl⟩, hns⟩, hin⟩ := q
      subst e1 e2
      obtain ⟨nm, bs, mro, ns, qn, hd, sn, sub, ab, col, del⟩ := cdt
      dsimp only at hmro hdl hns hin
      subst hmro hdl
      obtain ⟨sll⟩ := slt
      have hz : sll = [j0, j1, j2, j3, some (.builtin n1), j5] := hslots
      subst hz
      exact ⟨bm1, ns, nm, qn, bs, hd, sn, sub, ab, col, dd, j0, j1, j2, j3, j5, _, Y _ _ hlk, .of_isNs (PySem.W.isNs_of_in Y hns), PySem.W.nsMap_none_of_in Y hns hin, PySem.W.tail_of_in Y htl⟩
    · cases q
  · cases q
def tRaise (R : St → Value → Hp → Prop) (C : Addr) : TS := fun _ σ H => R σ (.ref C) H
theorem ps_raise {X : Cx} {R : St → Value → Hp → Prop} {x : Str} {C : Addr} {e₀ : Expr} {msg : Str} {np cpos pos : Pos} (hx : Throws X R) (hk : ExcK X.K C) (ha : PE X e₀ (tC (.str msg))) (hm : X.mg x = some (.ref C)) (hg : Gl X x := by rfl) (hc : X.calm = true := by rfl)
    (hdb : (x == ("__debug__" : Str)) = false := by decide) (he : starEach [e₀] X.env = (false, eval e₀ X.env) :: starEach [] X.env := by rfl) (hpl : (backTo cpos (starEach ([] : List Expr) X.env)).any (·.1) = false := by rfl) :
    PS X (.Raise (some (.Call (.Name x np) [e₀] [] cpos)) none pos) (tRaise R C) := by
  intro pins s σ H D I h
  obtain ⟨bm, N, nm, qn, bs, hd, sn, sub, ab, col, dd, k0, k1, k2, k3, k5, mN, hC, hN, hni, T⟩ := exc_obj I.ok.mod.kin hk.exc
  have hpa : PA X [e₀] (tCons (tC (.str msg)) tNil) := pa_cons ha pa_nil he
  refine wpAny_Raise_call_subU (nm := nm) (q := qn) (N := N) (bs := bs) (hdct := hd) (sn := sn) (sub := sub) (ab := ab) (col := col) (dd := dd) (k0 := k0) (k1 := k1) (k2 := k2) (k3 := k3) (k5 := k5) PySem.F.excBase_ValueError (by decide) PySem.F.excBase_ValueError (T.hasType (b := true) (by decide)) (I.ok.hd hc) (by rw [he]; show (false || (backTo cpos (starEach ([] : List Expr) X.env)).any (·.1)) = false; rw [hpl]; rfl) hni (ld_glob I hg hm ⟨rfl, ?_⟩ hdb)
  have z := hpa cpos pins s σ H (fun vs H1 => vs = [.str msg] ∧ H1 = H) I ⟨rfl, rfl⟩
  rw [he] at z ⊢
  refine Calls.evalArgs_plain (wpAny_mono z (fun us s2 ⟨vs, H1, I2, r, hv, hH⟩ => ?_) fun _ _ y => y)
  subst hv hH
  have hl : us.length = 1 := by rw [← r.length]; rfl
  refine ⟨rfl, by show us.length ≤ _; rw [hl]; decide, I2.bk _ _ hC, hN.keeps I2.bk, T.keeps I2.bk, fun h' e hx' => ?_⟩
  exact hx pins σ _ s2 e _ _ h' I2 hx' h
theorem exc_match {M : Model} {A : Around} {E : Value → Shared → Prop} {Q : Bool → Shared → Prop} {K : PySem.W.Frag} {e C D : Addr} {oe : Obj} {s : Shared} (Y : K.In s.heap) (hD : ExcK K D) (hm : PySem.W.mroIn K C (.ref D) = some true)
    (he : s.heap.get? e = some oe) (hcls : oe.cls = .ref C) (hq : Q true s) : wpAny M A (excMatches (.ref e) (.ref D)) Q E s := by
  obtain ⟨h, g, d, t, os⟩ := s
  obtain ⟨bm, N, nm, qn, bs, hd, sn, sub, ab, col, dd, k0, k1, k2, k3, k5, mN, hO, hN, hni, T⟩ := exc_obj Y hD.exc
  have hcB : (Value.ref D :: bm).contains (.type "BaseException") = true := by rw [List.contains_cons, T.hasType (b := true) (by decide), Bool.or_true]
  have L := PySem.W.looks_mroIn (M := M) Y hm
  have f := tc_notTuple
  unfold excMatches
  repeat (first | (with_reducible refine wpAny_loadPart_at he ?_; rw [hcls]) | with_reducible refine wpAny_loadPart_at hO ?_ | (with_reducible refine wpAny_isSubtype_exc hO ?_; rw [hcB]) | with_reducible refine L.at ?_ | wp_step)
  exact hq
def ExcAt (e C : Addr) (h : Heap) : Prop := ∃ oe vs, h.get? e = some oe ∧ oe.cls = .ref C ∧ oe.data = .fields vs
section
variable {K : PySem.W.Frag} {C e : Addr}
theorem excAt_ty {h : Heap} (M : Model) (p : ExcAt e C h) : PySem.W.Looks M h (typeOf (.ref e)) (.ref C) := by
  obtain ⟨oe, vs, h1, h2, _⟩ := p
  exact h2 ▸ (PySem.W.Looks.ld h1).andThen .now
theorem exc_cls (k : ExcK K C) : ∃ c' d' cd sl, K.lookup C = some ⟨c', d', .cls cd, sl⟩ := by
  obtain ⟨cd, a, _⟩ := Option.bind_eq_some_iff.mp k.ob
  unfold PySem.W.clsIn at a
  split at a
  · next z => exact ⟨_, _, _, _, z⟩
  · cases a
theorem exc_check {M : Model} {A : Around} {E : Value → Shared → Prop} {h : Heap} {g : Array GenState} {d : Drawn} {t : Nat} {os : OsState} {nv : Value} {Q : Unit → Shared → Prop} (k : ExcK K C) (Y : K.In h) (p : ExcAt e C h) (hq : Q () ⟨h, g, d, t, os⟩) :
    wpAny M A (checkBuiltinCall "BaseException.__getattribute__" ⟨[.ref e, nv], []⟩) Q E ⟨h, g, d, t, os⟩ := by
  have hkd : builtinKind "BaseException.__getattribute__" = some .slot := by decide +kernel
  have hsp : splitId "BaseException.__getattribute__" = some ("BaseException", "__getattribute__") := by decide +kernel
  have L0 := excAt_ty M p
  have L1 := PySem.W.looks_mroIn (M := M) Y k.bx
  have ha := F.args_bexc_ga (.ref e) nv
  simp only [checkBuiltinCall, hkd, hsp]
  refine wpAny_bind ?_
  unfold isInstance
  repeat (first | with_reducible refine L0.at ?_ | with_reducible refine L1.at ?_ | wp_step)
  exact hq
theorem exc_clsget {prog : Program} {w : World} {A : Around} {h : Heap} {g : Array GenState} {d : Drawn} {t : Nat} {os : OsState} {tp : Value} {R : Result → Shared → Prop} (k : ExcK K C) (Y : K.In h) (p : ExcAt e C h) (hq : R (.ok (.ret (.ref C))) ⟨h, g, d, t, os⟩) :
    codeAny (model prog w) A (.call (.builtin "getset_descriptor.__get__") ⟨[.builtin "object.__class__", .ref e, tp], []⟩) R ⟨h, g, d, t, os⟩ := by
  have L0 := excAt_ty (model prog w) p
  have L1 := PySem.W.looks_mroIn (M := model prog w) Y k.ob
  refine codeAny_call_builtin PySem.W.KF.slot_gs.plain PySem.W.KF.entry_gs (PySem.W.KF.slot_gs.check _ _ _ _ _ _ _ _ PySem.W.KF.type_class (PySem.W.KF.args_gs _ _ _) ?_)
  unfold Builtin.«getset_descriptor.__get__» descrGet
  rw [PySem.W.dga_obj]
  refine wpAny_bind (wpAny_pure ?_)
  unfold descrGetter descrCheckInstance descrNameAndClass isInstance
  simp only [PySem.W.KF.owner_class]
  repeat lk
  refine ⟨Code.quiet_builtin _ (by decide +kernel), codeAny_builtin PySem.W.KF.entry_class ?_⟩
  unfold Builtin.«object.__class__» shownTypeOf
  repeat lk
  exact hq
theorem exc_clsent {prog : Program} {w : World} {A : Around} {E : Value → Shared → Prop} {h : Heap} {g : Array GenState} {d : Drawn} {t : Nat} {os : OsState} {tk : Tok} {Q : Fin → Shared → Prop} (k : ExcK K C) (Y : K.In h) (p : ExcAt e C h) (hq : Q (.done (.ret (.ref C))) ⟨h, g, d, t, os⟩) :
    wpAny (model prog w) A (Builtin.«object.__getattribute__» ⟨[.ref e, .str "__class__" tk], []⟩) Q E ⟨h, g, d, t, os⟩ := by
  have L0 := excAt_ty (model prog w) p
  have L1 := PySem.W.looks_findIn (M := model prog w) Y k.cl
  have hT5 : (⟨h, g, d, t, os⟩ : Shared).TypeIs (.builtin "object.__class__") "getset_descriptor" := F.typeOf_object_class
  have f5 := F.typeOf_object_class
  have f6 := F.slot_gs_get.lookup
  have f7 := F.slot_gs_set.lookup
  repeat (any_goals (first | assumption | with_reducible refine L0.at ?_ | with_reducible refine L1.at ?_ | wp_step))
  refine exc_clsget k Y p ?_
  repeat (any_goals (first | assumption | wp_step))
theorem exc_clsattr {prog : Program} {w : World} {A : Around} {E : Value → Shared → Prop} {Q : Option Value → Shared → Prop} {s : Shared} (k : ExcK K C) (Y : K.In s.heap) (p : ExcAt e C s.heap) (hq : Q (some (.ref C)) { s with toks := s.toks + 1 }) :
    wpAny (model prog w) A (getAttr? (.ref e) "__class__") Q E s := by
  obtain ⟨h, g, d, t, os⟩ := s
  have L0 := excAt_ty (model prog w) p
  have L1 := PySem.W.looks_findIn (M := model prog w) Y k.ga
  have L2 := PySem.W.looks_findIn (M := model prog w) Y k.gt
  have f3 := F.attr_ValueError.ga.bind (.ref e)
  unfold getAttr? getAttrBy? getAttrBy
  refine wpAny_bind (wpAny_mkText (wpAny_bind (wpAny_attempt (wpAny_holding (wpAny_bind (L0.at (wpAny_bind (L1.at ?_))))))))
  show wpAny _ _ (getAttrByItsOwn (.ref e) _ (.ref C) (.builtin "BaseException.__getattribute__") false false) _ _ _
  unfold getAttrByItsOwn
  refine wpAny_bind (m := hookBefore (.ref C)) (L2.at ?_)
  refine wpAny_bind (wpAny_attempt (wpAny_holding ?_))
  show wpAny _ _ (boundAndCalled (.builtin "BaseException.__getattribute__") (.ref e) _) _ _ _
  unfold boundAndCalled
  refine wpAny_bind (wpAny_of_eq f3 ?_)
  refine wpAny_call (codeAny_call_builtin F.attr_ValueError.ga.plain F.entry_bexc_ga (exc_check k Y p (exc_clsent k Y p ?_)))
  show wpAny _ _ (handedOut (.ref C)) _ _ _
  exact wpAny_pure (wpAny_pure hq)
theorem kitx_exc (k : ExcK K C) : PySem.W.KitX K (.ref e) (.ref C) (ExcAt e C) where
  ty := fun M _ _ p => excAt_ty M p
  it := fun _ _ Y _ => by
    obtain ⟨_, _, _, _, z⟩ := exc_cls k
    intro A' Q' E' s' kk q
    unfold isType loadHead
    exact wpAny_bind (wpAny_loadPart (kk _ _ (Y _ _ z)) (wpAny_pure q))
  ne := fun h tp dd its n sl Y htp => by
    obtain ⟨_, _, _, _, z⟩ := exc_cls k
    refine Bool.eq_false_iff.mpr fun q => ?_
    have e' : C = tp := Value.ref.inj (beq_iff_eq.mp q)
    subst e'
    cases (Y _ _ z).symm.trans htp
  ca := fun Y p kk => exc_clsattr k Y p kk
end
end L2
set_option maxRecDepth 100000
namespace L2
open PySem PySem.Spec PySem.Calls PyProof.Rows
def excO (e C : Addr) : HO := .ext (ExcAt e C)
theorem excO_ok {P : Program} {w : World} {H : Hp} {h : Heap} {e C : Addr} (p : ExcAt e C h) : ObjOk P w H h e (excO e C) :=
  ⟨p, let ⟨oe, _, h1, _⟩ := p; ⟨oe, h1⟩, fun _ _ ⟨oe, vs, h1, h2, h3⟩ kk => ⟨oe, vs, kk _ h1, h2, h3⟩⟩
theorem excO_at {X : Cx} {pins : List (Addr × Obj)} {σ : St} {H : Hp} {s : Shared} {e C : Addr} (I : Inv X pins σ H s) (q : H e = some (excO e C)) : ExcAt e C s.heap := (I.hok e _ q).1
abbrev Cx.tryC (X : Cx) (pn : List (Addr × Obj)) (W : Value → Shared → Prop) : Cx := { X with pn := X.pn ++ pn, xe := W }
abbrev Cx.hand (X : Cx) (v : Value) : Cx := { X with A := X.A.mark (some v), calm := false, xe := fun _ _ => False }
section
variable {X : Cx} {pins pn : List (Addr × Obj)} {W : Value → Shared → Prop} {σ : St} {H : Hp} {s : Shared} {v : Value}
theorem Cx.Ok.tryC (ok : X.Ok) (pn : List (Addr × Obj)) (W : Value → Shared → Prop) : (X.tryC pn W).Ok :=
  ⟨ok.mod, ok.kind, ok.glob, ok.blt, ok.above, ok.inj, ok.has, ok.cab, ok.hd, ok.frames, ok.stk, ok.exf, ok.bs, ok.bsz, ok.noex, ok.exfs, ok.funs, ok.frf⟩
theorem Cx.Ok.unTry (ok : (X.tryC pn W).Ok) : X.Ok :=
  ⟨ok.mod, ok.kind, ok.glob, ok.blt, ok.above, ok.inj, ok.has, ok.cab, ok.hd, ok.frames, ok.stk, ok.exf, ok.bs, ok.bsz, ok.noex, ok.exfs, ok.funs, ok.frf⟩
theorem Cx.Ok.hand (ok : X.Ok) (v : Value) : (X.hand v).Ok :=
  ⟨ok.mod, ok.kind, ok.glob, ok.blt, ok.above, ok.inj, ok.has, ok.cab, (fun z => nomatch z), ok.frames, ok.stk, ok.exf, ok.bs, ok.bsz, ok.noex, ok.exfs, ok.funs, ok.frf⟩
theorem Inv.tryIn (I : Inv X pins σ H s) (W : Value → Shared → Prop) : Inv (X.tryC pins W) [] σ H s :=
  ⟨I.ok.tryC pins W, I.os, I.bare, I.base, I.loc, I.cell, I.free, I.freeC, fun p hp => I.pin p (by simpa using hp), I.hok, I.len⟩
theorem Inv.tryOut (I : Inv (X.tryC pn W) pins σ H s) : Inv X pn σ H s :=
  ⟨I.ok.unTry, I.os, I.bare, I.base, I.loc, I.cell, I.free, I.freeC, fun p hp => I.pin p (List.mem_append_left _ hp), I.hok, I.len⟩
theorem Inv.hand (I : Inv X pins σ H s) (v : Value) : Inv (X.hand v) pins σ H s :=
  ⟨I.ok.hand v, I.os, I.bare, I.base, I.loc, I.cell, I.free, I.freeC, I.pin, I.hok, I.len⟩
theorem Inv.unhand (I : Inv (X.hand v) pins σ H s) (ok : X.Ok) : Inv X pins σ H s :=
  ⟨ok, I.os, I.bare, I.base, I.loc, I.cell, I.free, I.freeC, I.pin, I.hok, I.len⟩
theorem SP.tryOut {D : Ends} {f : Flow} {s' : Shared} (h : SP (X.tryC pn W) pins D f s') : SP X pn D f s' := by
  cases f with
  | next => obtain ⟨σ', H', I, q⟩ := h; exact ⟨σ', H', I.tryOut, q⟩
  | brk => obtain ⟨σ', H', I, q⟩ := h; exact ⟨σ', H', I.tryOut, q⟩
  | cont => obtain ⟨σ', H', I, q⟩ := h; exact ⟨σ', H', I.tryOut, q⟩
  | ret u => obtain ⟨v, σ', H', I, r, q⟩ := h; exact ⟨v, σ', H', I.tryOut, r, q⟩
theorem Inv.gone {i : Nat} {n : Str} {h' : Heap} {t' : Nat} {v' : Option Value} {m : Str → Option Value} (I : Inv X pins σ H s) (hN : X.N.Nodup) (hi : X.N[i]? = some n)
    (hm : ∀ (j : Nat) (x : Str) (v : V), X.N[j]? = some x → σ[j]? = some (some v) → Vis X.env.scope x → ∃ u, RelV v u ∧ Look X.env s.heap m x u)
    (hn' : h'.Ns X.env.locals (fun x => if x = n then v' else m x)) (hs : Heap.SameBut X.env.locals s.heap h') : Inv X pins (σ.set i none) H { s with heap := h', toks := t' } := by
  obtain ⟨mm, ⟨oL, _, _, hoL, _⟩, _⟩ := id I.loc
  have cne := I.cne
  refine ⟨I.ok, I.os, I.bare, ⟨fun b o e n hb hx => ?_, fun b o e n hb hx => ?_, I.base.free, fun b o e hx => ?_, I.base.tups, I.base.frzs, I.base.tbls⟩, ⟨_, hn', fun j y w e1 e2 e3 => ?_⟩, fun y c e => ?_, I.free, I.freeC, fun p hp => ?_, fun b ob e => ?_, by simpa using I.len⟩
  · exact (hs.2 b (Nat.ne_of_lt (Nat.lt_of_lt_of_le (Heap.lt_size e) I.ok.above))).trans (I.base.keep b o e n hb hx)
  · obtain ⟨sl, e1⟩ := I.base.slot b o e n hb hx
    exact ⟨sl, (hs.2 b (Nat.ne_of_lt (Nat.lt_of_lt_of_le (Heap.lt_size e) I.ok.above))).trans e1⟩
  · obtain ⟨o', e1⟩ := I.base.there b o e hx
    exact ⟨o', (hs.2 b (Nat.ne_of_lt (Nat.lt_of_lt_of_le (Heap.lt_size e) I.ok.above))).trans e1⟩
  · have hji : j ≠ i := by
      rintro rfl
      rw [List.getElem?_set] at e2
      split at e2
      · split at e2 <;> cases e2
      · next z => exact z rfl
    rw [List.getElem?_set_ne (Ne.symm hji)] at e2
    obtain ⟨u, r, q⟩ := hm j y w e1 e2 e3
    refine ⟨u, r, ?_⟩
    rcases q with ⟨kk, q⟩ | ⟨kk, c, q, z⟩
    · refine .inl ⟨kk, ?_⟩
      have : y ≠ n := fun z => hji (nodup_ix hN e1 (z ▸ hi))
      simp [this, q]
    · exact .inr ⟨kk, c, q, z.sameBut hs (cne y c q)⟩
  · obtain ⟨w, z⟩ := I.cell y c e
    exact ⟨w, z.sameBut hs (cne y c e)⟩
  · obtain ⟨e, n, ne, nf, d⟩ := I.pin p hp
    exact ⟨(hs.2 p.1 ne).trans e, n, ne, nf, d⟩
  · refine (I.hok b ob e).stay (fun c w' hc q => (hs.2 c ?_).trans q) (fun _ q => q) fun _ _ q => q
    rintro rfl
    rcases hc with z | hc
    · rw [← z, I.free] at e; cases e
    · rw [I.free] at hc; cases hc
theorem Inv.catch {H' : Hp} {s' : Shared} {e C : Addr} (I : Inv X pins σ H s) (F : Fli X.prog X.w X.stack H s e (.ref C) .none H' s') : Inv X pins σ (upd H' e (excO e C)) s' := by
  obtain ⟨a0, oe, vs, T, oT, ts, h1, h2, h3, h4, h5, h6, h7, h8, ⟨h9, h10⟩, h11, h12⟩ := F.tr
  refine I.call' (ch := []) F.os ⟨F.un.keep, F.un.slot, fun b o q n hx => ?_, F.un.there, fun b xs q => ?_, fun b o u q => ?_, fun b ps q => ?_⟩ (fun b o q => ?_) F.bare fun b z => absurd z (by simp)
  · rw [upd_ne (fun z => by rw [z, h11] at q; cases q)]
    exact F.un.free b o q n hx
  · have z := F.un.tups b xs q
    rw [upd_ne (ne_of_none z h9)]; exact z
  · have z := F.un.frzs b o u q
    rw [upd_ne (ne_of_none z h9)]; exact z
  · obtain ⟨m, z⟩ := F.un.tbls b ps q
    exact ⟨m, by rw [upd_ne (ne_of_none z h9)]; exact z⟩
  · by_cases hb : b = e
    · subst hb
      rw [upd_same] at q; cases q
      exact excO_ok ⟨oe, vs, h1, h2.1, h3⟩
    · rw [upd_ne hb] at q
      exact (F.hok b o q).stay (fun _ _ _ r => r) (fun c r => by rw [upd_ne (ne_of_none r h9)]; exact r) fun c xs r => by rw [upd_ne (ne_of_none r h9)]; exact r
end
def Ends.gone (D : Ends) (i : Nat) : Ends := { nx := fun σ H => D.nx (σ.set i none) H, rt := D.rt, bk := fun σ H => D.bk (σ.set i none) H, ct := fun σ H => D.ct (σ.set i none) H }
def RTry (K : PySem.W.Frag) (Dc : Addr) (i : Nat) (th : TS) (D : Ends) : St → Value → Hp → Prop := fun σ cls H' => ∃ C, cls = .ref C ∧ ExcK K C ∧ PySem.W.mroIn K C (.ref Dc) = some true ∧
  ∀ e, H' e = none → th (D.gone i) (σ.set i (some (.ref e))) (upd H' e (excO e C))
def tTry (K : PySem.W.Frag) (Dc : Addr) (i : Nat) (tb : (St → Value → Hp → Prop) → TS) (th : TS) : TS := fun D σ H => tb (RTry K Dc i th D) D σ H
section
variable {X : Cx}
theorem ps_try {body hs : List Stmt} {b₀ : Stmt} {cn n : Str} {np hpos pos : Pos} {Dc : Addr} {i : Nat} {tb : (St → Value → Hp → Prop) → TS} {th : TS} (hst : X.stack = X.env :: X.outer) (hfr : X.env.frame = some X.env.locals) (hN : X.N.Nodup) (hD : ExcK X.K Dc) (hm : X.mg cn = some (.ref Dc))
    (hb : ∀ (pn : List (Addr × Obj)) (W : Value → Shared → Prop) (R : St → Value → Hp → Prop), Flies (X.tryC pn W) R → PSs (X.tryC pn W) body (tb R)) (hh : ∀ v, PSs (X.hand v) (b₀ :: hs) th)
    (hi : X.N[i]? = some n := by rfl) (hl : X.env.kindOf n = some .local := by rfl) (hg : Gl X cn := by rfl) (hdb : (cn == ("__debug__" : Str)) = false := by decide) :
    PS X (.Try body [.ExceptHandler (some (.Name cn np)) (some n) (b₀ :: hs) hpos] [] [] pos) (tTry X.K Dc i tb th) := by
  intro pins s σ H D I h
  refine wpAny_Try_except ?_
  have key : Flies (X.tryC pins fun e s₁ => wpAny (model X.prog X.w) X.A (noteFrame e X.env) (fun _ s₂ => wpAny (model X.prog X.w) X.A (setFlight e none) (fun _ s₃ => wpAny (model X.prog X.w) X.A (handleBy e X.env [.ExceptHandler (some (.Name cn np)) (some n) (b₀ :: hs) hpos]) (SP X pins D) X.xe s₃) X.xe s₂) X.xe s₁)
      (RTry X.K Dc i th D) := by
    rintro pins' σ' H1 s1 e cls H' s' I0 F ⟨C, rfl, kC, hmC, hth⟩
    have I1 : Inv X pins σ' H1 s1 := I0.tryOut
    have F : Fli X.prog X.w X.stack H1 s1 e (.ref C) .none H' s' := F
    have J := I1.fly F
    obtain ⟨B, a0, fl, st⟩ := fli_of F J.stack J.stkFree
    have frm : X.A.frames = some (X.env :: X.outer) := by rw [← hst]; exact I1.ok.frames
    rw [hst] at fl
    refine wpAny_looks_onW frm hfr fl fun h4 g4 u4 => ?_
    refine wpAny_landsW g4 fun h5 g5 u5 => ?_
    have F5 := st h5 .none g5.1 g5.2.2.2 (u4.trans u5)
    have J5 := I1.fly F5
    obtain ⟨_, oe, _, _, _, _, he, ⟨hc, _⟩, _⟩ := F5.tr
    refine wpAny_handleBy_cons (codeAny_handlers_test (ld_glob (X := X.hand (.ref e)) (J5.hand (.ref e)) hg hm ?_ hdb)) (by intro q; cases q)
    refine exc_match J5.kIn hD hmC he hc ?_
    refine codeAny_handlers_suite_as ?_
    refine lands_againW g5 fun h6 g6 u6 => ?_
    have F6 := st h6 .none g6.1 g6.2.2.2 ((u4.trans u5).trans u6)
    obtain ⟨_, _, _, _, _, _, _, _, _, _, _, _, _, _, ⟨he0, _⟩, _, _⟩ := F6.tr
    have J6 := (I1.catch F6).hand (.ref e)
    refine store_ok (X := X.hand (.ref e)) (v := .ref e) J6 hN hi (.inl hl) rfl (fun s7 J7 => ?_) (.inr hl)
    refine wpAny_mono (hh (.ref e) pins s7 _ _ (D.gone i) J7 (hth e he0)) (fun f s8 q8 => ?_) fun _ _ z => False.elim z
    have hp : (X.env.scope.kind == .class || (X.env.scope.kind == .module && X.env.locals != X.env.globals)) = false := by rw [I.ok.kind]; rfl
    show wpAny (model X.prog X.w) X.A (do bindName X.env n .none; unbindBehindTheSuite X.env n hpos) (fun _ s₃ => SP X pins D f s₃) X.xe s8
    cases f with
    | next =>
      obtain ⟨σ8, H8, I8, q⟩ := q8
      have I9 := I8.unhand I.ok
      obtain ⟨m, hn, hml⟩ := id I9.loc
      exact wpAny_nameGoes_keeps hl hn hp fun h' v' hn' hs' => ⟨_, H8, I9.gone hN hi hml hn' hs', q⟩
    | brk =>
      obtain ⟨σ8, H8, I8, q⟩ := q8
      have I9 := I8.unhand I.ok
      obtain ⟨m, hn, hml⟩ := id I9.loc
      exact wpAny_nameGoes_keeps hl hn hp fun h' v' hn' hs' => ⟨_, H8, I9.gone hN hi hml hn' hs', q⟩
    | cont =>
      obtain ⟨σ8, H8, I8, q⟩ := q8
      have I9 := I8.unhand I.ok
      obtain ⟨m, hn, hml⟩ := id I9.loc
      exact wpAny_nameGoes_keeps hl hn hp fun h' v' hn' hs' => ⟨_, H8, I9.gone hN hi hml hn' hs', q⟩
    | ret u =>
      obtain ⟨v, σ8, H8, I8, r, q⟩ := q8
      have I9 := I8.unhand I.ok
      obtain ⟨m, hn, hml⟩ := id I9.loc
      exact wpAny_nameGoes_keeps hl hn hp fun h' v' hn' hs' => ⟨v, _, H8, I9.gone hN hi hml hn' hs', r, q⟩
  refine wpAny_mono (hb pins _ _ key [] s σ H D (I.tryIn _) h) (fun f s1 q => ?_) fun _ _ z => z
  have q := SP.tryOut q
  cases f with
  | next => exact wpAny_execs_nil q
  | brk => exact q
  | cont => exact q
  | ret u => exact q
end
end L2
set_option Elab.async false
set_option linter.all false
set_option maxRecDepth 100000
set_option maxHeartbeats 4000000
namespace L2
open PySem PySem.Spec PyProof.Rows
def MethDef (K : PySem.W.Frag) (C : Addr) (m qual : Str) (st : Stmt) (ps : List Str) : Prop := ∃ f fd, Fun K m qual st f fd ∧ Meth K C m f ∧ Binds K fd ps []
def MtAt (P : Program) (w : World) (K : PySem.W.Frag) (mg : Str → Option Value) (base : Heap) (k : Nat) (C : Addr) (m : Str) (ps : List Str) (sp : Sp) : Prop :=
  ∃ f fd, FnOk P w K mg base CX0 k f fd ps sp ∧ Meth K C m f ∧ Binds K fd ps []
def MtAtX (P : Program) (w : World) (K : PySem.W.Frag) (mg : Str → Option Value) (base : Heap) (k : Nat) (C : Addr) (m : Str) (ps : List Str) (sp : Sp) : Prop :=
  ∃ f, Meth K C m f ∧ (∀ vs H Q E, sp vs H Q E → vs.length = ps.length) ∧
    ∀ (A : Around) (outer : List Env) (s : Shared) (H : Hp) (us : List Value) (vs : List V) (Q : VK) (E : XK), Room k A → Env0 P w K mg base A outer s H → Vals vs us → sp vs H Q E → codeAny (model P w) A (.call (.ref f) ⟨us, []⟩) (CR (CXW P w) outer P w H s Q E) s
section
variable {P : Program} {w : World} {K : PySem.W.Frag} {mg : Str → Option Value} {base : Heap} {j k : Nat} {C : Addr} {m qual : Str} {ps : List Str} {sp sp' : Sp}
theorem MtAt.of {st : Stmt} {N : List Str} (D : MethDef K C m qual st ps) (S : FnScope N ps (defScope st)) (len : ∀ vs H Q E, sp vs H Q E → vs.length = ps.length)
    (hbody : ∀ (f : Addr) (cdv : Value) (A : Around) (outer : List Env) (s : Shared) (H : Hp) (vs : List V) (Q : VK) (E : XK), Room k (A.deeper (envOfC qual (defScope st) s.heap.objs.size f cdv)) → sp vs H Q E →
      ∃ t, PSs (cxOf CX0 P w K mg base N qual (defScope st) f cdv A outer s H E).nox (defBody st) t ∧ t { nx := fun _ H' => Q .non H', rt := Q } (start N vs) H) : MtAt P w K mg base (k + 1) C m ps sp := by
  obtain ⟨f, fd, F, hm, hb⟩ := D
  exact ⟨f, fd, F.ok S len fun cdv A outer s H vs Q E hr h => hbody f cdv A outer s H vs Q E hr h, hm, hb⟩
theorem MtAtX.or (F : MtAtX P w K mg base k C m ps sp) (G : MtAtX P w K mg base k C m ps sp') : MtAtX P w K mg base k C m ps (fun vs H Q E => sp vs H Q E ∨ sp' vs H Q E) := by
  obtain ⟨f, a, c, d⟩ := F
  obtain ⟨f', a', c', d'⟩ := G
  have e := a.at_.symm.trans a'.at_
  injection e with e
  injection e with e
  injection e with e
  subst e
  exact ⟨f, a, fun vs H Q E q => q.elim (c vs H Q E) (c' vs H Q E), fun A outer s H us vs Q E hr e0 r q => q.elim (d A outer s H us vs Q E hr e0 r) (d' A outer s H us vs Q E hr e0 r)⟩
theorem MtAtX.at {CX : CXT} {f : Addr} {fd : FuncData} (F : FnOk P w K mg base CX k f fd ps sp) (hm : Meth K C m f) (hb : Binds K fd ps []) (hc : ∀ l H s E e s', CX l H s E e s' → CXW P w l H s E e s') : MtAtX P w K mg base k C m ps sp := by
  refine ⟨f, hm, F.len, fun A outer s H us vs Q E hr e0 r q => ?_⟩
  have hl : us.length = ps.length := by rw [← r.length]; exact F.len _ _ _ _ q
  refine codeAny_mono (F.run A outer s H ⟨us, []⟩ us vs Q E hr e0 (by simpa using hb s us (e0.mod.kin.keeps fun b o z => (e0.bs b o z).1) (by simpa using hl)) r q) fun res s' hq => ?_
  cases res with
  | error ev => exact hc _ _ _ _ _ _ hq
  | ok fl => cases fl <;> exact hq
theorem MtAt.toX (F : MtAt P w K mg base k C m ps sp) : MtAtX P w K mg base k C m ps sp :=
  let ⟨_, _, a, b, d⟩ := F
  .at a b d fun _ _ _ _ _ _ z => z.elim
theorem MtAtX.of {st : Stmt} {N : List Str} (D : MethDef K C m qual st ps) (S : FnScope N ps (defScope st)) (len : ∀ vs H Q E, sp vs H Q E → vs.length = ps.length)
    (hbody : ∀ (f : Addr) (cdv : Value) (A : Around) (outer : List Env) (s : Shared) (H : Hp) (vs : List V) (Q : VK) (E : XK), Room k (A.deeper (envOfC qual (defScope st) s.heap.objs.size f cdv)) → sp vs H Q E →
      ∃ t, PSs (cxOf (CXW P w) P w K mg base N qual (defScope st) f cdv A outer s H E) (defBody st) t ∧ t { nx := fun _ H' => Q .non H', rt := Q } (start N vs) H) : MtAtX P w K mg base (k + 1) C m ps sp := by
  obtain ⟨f, fd, F, hm, hb⟩ := D
  obtain ⟨oc, od, kV, doc, pm, an, cdv, ct, osl, rfl, lk, hcd⟩ := F.ex
  exact .at (CX := CXW P w) (fn_of lk hcd S len fun A outer s H vs Q E hr hsp => hbody f cdv A outer s H vs Q E hr hsp) hm hb fun _ _ _ _ _ _ z => z
end
def tM (C : Addr) (m : Str) (sp : Sp) (ta : TE) (t : TA) : TE := fun σ H Q => ta σ H fun x H1 => ∃ (a dx : Addr) (fs : List (Str × V)), x = .ref a ∧ H1 a = some (.ins C dx fs) ∧ fs.lookup m = none ∧ t σ H1 fun vs H2 => sp (x :: vs) H2 Q E0
def tMx (C : Addr) (m : Str) (sp : Sp) (R : St → Value → Hp → Prop) (ta : TE) (t : TA) : TE := fun σ H Q => ta σ H fun x H1 => ∃ (a dx : Addr) (fs : List (Str × V)), x = .ref a ∧ H1 a = some (.ins C dx fs) ∧ fs.lookup m = none ∧ t σ H1 fun vs H2 => sp (x :: vs) H2 Q fun cls _ H' => R σ cls H'
section
variable {X : Cx} {k : Nat} {C : Addr} {m : Str} {ps : List Str} {sp : Sp} {e o : Expr} {es : List Expr} {ta : TE} {t : TA} {apos pos : Pos} {R : St → Value → Hp → Prop}
theorem pe_m {pl : Sem Bool} (F : MtAt X.prog X.w X.K X.mg X.base k C m ps sp) (c : Cls X.K C) (hr : Room k X.A) (he : PE X o ta) (ha : PA X (e :: es) t)
    (hst : starEach (e :: es) X.env = (false, eval e X.env) :: starEach es X.env := by rfl) (hpl : (backTo pos (starEach es X.env)).any (·.1) = false := by rfl)
    (ht : eval (.Call (.Attribute o m apos) (e :: es) [] pos) X.env = (do
      let ov ← eval o X.env
      standAt apos.atName
      let (f, first) ← holding [ov] (getMethod ov m pl)
      callWith pos f first (backTo pos (starEach (e :: es) X.env)) (backToKw pos (keywordEach [] X.env))) := by rfl) :
    PE X (.Call (.Attribute o m apos) (e :: es) [] pos) (tM C m sp ta t) := by
  obtain ⟨f, fd, F, hm, hb⟩ := F
  have q := pe_meth (pl := pl) (apos := apos) (pos := pos) he c hm F hr hb .nil (pass0 (X := X)) ha hst hpl ht
  intro pins s σ H Q I h
  refine q pins s σ H Q I ?_
  unfold tMeth
  simp only [List.append_nil]
  exact h
theorem pe_m0 {pl : Sem Bool} (F : MtAt X.prog X.w X.K X.mg X.base k C m ps sp) (c : Cls X.K C) (hr : Room k X.A) (he : PE X o ta)
    (ht : eval (.Call (.Attribute o m apos) [] [] pos) X.env = (do
      let ov ← eval o X.env
      standAt apos.atName
      let (f, first) ← holding [ov] (getMethod ov m pl)
      callWith pos f first (backTo pos (starEach [] X.env)) (backToKw pos (keywordEach [] X.env))) := by rfl) :
    PE X (.Call (.Attribute o m apos) [] [] pos) (tM C m sp ta tNil) := by
  obtain ⟨f, fd, F, hm, hb⟩ := F
  have q := pe_meth0 (pl := pl) (apos := apos) (pos := pos) he c hm F hr hb .nil (pass0 (X := X)) ht
  intro pins s σ H Q I h
  refine q pins s σ H Q I ?_
  unfold tMeth
  simp only [List.append_nil]
  exact h
theorem pe_mx {pl : Sem Bool} (F : MtAtX X.prog X.w X.K X.mg X.base k C m ps sp) (c : Cls X.K C) (hr : Room k X.A) (hR : Flies X R) (he : PE X o ta) (ha : PA X (e :: es) t)
    (hst : starEach (e :: es) X.env = (false, eval e X.env) :: starEach es X.env := by rfl) (hpl : (backTo pos (starEach es X.env)).any (·.1) = false := by rfl)
    (ht : eval (.Call (.Attribute o m apos) (e :: es) [] pos) X.env = (do
      let ov ← eval o X.env
      standAt apos.atName
      let (f, first) ← holding [ov] (getMethod ov m pl)
      callWith pos f first (backTo pos (starEach (e :: es) X.env)) (backToKw pos (keywordEach [] X.env))) := by rfl) :
    PE X (.Call (.Attribute o m apos) (e :: es) [] pos) (tMx C m sp R ta t) := by
  obtain ⟨f, hm, hl, run⟩ := F
  intro pins s σ H Q I h
  refine PySem.W.methodCall_KW (pl := pl) (thn (he pins s σ H _ I h) fun u s1 ⟨x, H1, I1, rx, a, dx, fs, ex, ea, l, q⟩ => ?_) ht
  subst ex
  obtain rfl : u = Value.ref a := rx
  refine getmeth_ok I1 ea c hm l ?_
  refine PySem.W.callWith_K (first := [.ref a]) (h₀ := X.base) I.ok.mod.kin hm.kp (thn (ha pos pins s1 σ H1 _ I1 q) fun us s2 ⟨vs, H2, I2, r, q2⟩ => ⟨I2.kIn, ?_⟩) hst hpl
  refine wpAny_call (codeAny_mono (run X.A X.stack s2 H2 (.ref a :: us) (.ref a :: vs) Q _ hr I2.env0 (.cons rfl r) q2) fun res s' hq => ?_)
  cases res with
  | error ev =>
    obtain ⟨e', cls, H', rfl, Fl, rr⟩ := hq
    exact hR pins σ H2 s2 e' cls H' s' I2 Fl rr
  | ok fl =>
    cases fl with
    | ret u => exact I2.after hq
    | next => exact False.elim hq
    | brk => exact False.elim hq
    | cont => exact False.elim hq
theorem pe_mx0 {pl : Sem Bool} (F : MtAtX X.prog X.w X.K X.mg X.base k C m ps sp) (c : Cls X.K C) (hr : Room k X.A) (hR : Flies X R) (he : PE X o ta)
    (ht : eval (.Call (.Attribute o m apos) [] [] pos) X.env = (do
      let ov ← eval o X.env
      standAt apos.atName
      let (f, first) ← holding [ov] (getMethod ov m pl)
      callWith pos f first (backTo pos (starEach [] X.env)) (backToKw pos (keywordEach [] X.env))) := by rfl) :
    PE X (.Call (.Attribute o m apos) [] [] pos) (tMx C m sp R ta tNil) := by
  obtain ⟨f, hm, hl, run⟩ := F
  intro pins s σ H Q I h
  refine PySem.W.methodCall_KW (pl := pl) (thn (he pins s σ H _ I h) fun u s1 ⟨x, H1, I1, rx, a, dx, fs, ex, ea, l, q⟩ => ?_) ht
  subst ex
  obtain rfl : u = Value.ref a := rx
  refine getmeth_ok I1 ea c hm l ?_
  refine PySem.W.callWith_K0 (first := [.ref a]) I1.kIn hm.kp ?_
  refine wpAny_call (codeAny_mono (run X.A X.stack s1 H1 [.ref a] [.ref a] Q _ hr I1.env0 (.cons rfl .nil) q) fun res s' hq => ?_)
  cases res with
  | error ev =>
    obtain ⟨e', cls, H', rfl, Fl, rr⟩ := hq
    exact hR pins σ H1 s1 e' cls H' s' I1 Fl rr
  | ok fl =>
    cases fl with
    | ret u => exact I1.after hq
    | next => exact False.elim hq
    | brk => exact False.elim hq
    | cont => exact False.elim hq
end
end L2
set_option Elab.async false
set_option linter.all false
set_option maxRecDepth 100000
set_option maxHeartbeats 4000000
namespace L2
open PySem PySem.Spec PyProof.Rows
theorem fn_tree {prog : Program} {w : World} {A : Around} {E : Value → Shared → Prop} {s : Shared} {id : String} {b : Builtin} {args : List Value} {kw : List (Str × Value)} {Q : Value → Shared → Prop} (hk : builtinKind id = none) (hp : plainId id = true)
    (hb : entryFor table id = some b) (ha : argsOk id ⟨args, kw⟩)
    (hc : wpAny (model prog w) A.in1 (b ⟨args, kw⟩) (fun fin s' => match fin with
      | .done f => (match (Except.ok f : Result) with | .ok (.ret v) => Q v s' | .ok _ => False | .error e => E e s')
      | .again c' => c'.quiet = true ∧ codeAny (model prog w) A c' (fun r s' => match r with | .ok (.ret v) => Q v s' | .ok _ => False | .error e => E e s') s') E s) :
    wpAny (model prog w) A (call (.builtin id) args kw) Q E s := by
  refine wpAny_call (codeAny_call_builtin hp hb ?_)
  simp only [checkBuiltinCall, hk]
  cases hsig : Manifest.signature? id with
  | none => exact wpAny_pure hc
  | some sig =>
    have ha' : Bind.checkArgs id sig ⟨args, kw⟩ = pure () := by simpa only [argsOk, hsig] using ha
    simp only [ha']
    exact wpAny_pure hc
theorem args_maxd (a v : Value) : argsOk "max" ⟨[a], [("default", v)]⟩ := by unfold argsOk; kernel_rfl
def oldS (o : Option Value) : Array Value := match o with | none => #[] | some v => #[v, v]
section
variable {prog : Program} {w : World} {A : Around} {R : Result → Shared → Prop} {I : Addr} {fp wr : List Addr} {n : Nat} {P : Nat → Value → Prop} {St : Nat → Heap → Prop}
theorem max_loopD (W : Walks prog w A.in1 I fp wr n P St) (bt : Nat → Nat → Bool) (hcmp : CmpOf prog w A.in1 .Gt P bt) (S : Addr) (hSf : S ∉ fp) (d : Value) :
    ∀ (k j : Nat) (s : Shared) (o : Option Value) (c : Nat), n - j = k → j ≤ n → St j s.heap → (o = none → j = 0) → (∀ v, o = some v → 0 < j ∧ P (argBest bt (j - 1)) v) →
    s.heap.get? S = some { cls := .type "list", dict := none, data := .seq (oldS o) c, slots := #[] } →
    (∀ v h' tk, (n = 0 → v = d) → (0 < n → P (argBest bt (n - 1)) v) → (∀ b o, b ∉ wr → b ≠ S → s.heap.get? b = some o → h'.get? b = some o) → R (.ok (.ret v)) { s with heap := h', toks := tk }) →
    codeAny (model prog w) A (.builtin "max.loop" ⟨[.ref I, .none, .ref S], [("default", d)]⟩) R s := by
  have hSw : S ∉ wr := fun h => hSf (W.sub _ h)
  have hname : (toString "max" ++ toString ".loop" : String) = "max.loop" := by decide
  intro k
  induction k with
  | zero =>
    intro j s o c hk hj hst h0 h1 hS hR
    have hin : j = n := by omega
    refine codeAny_builtin F.entry_max_loop ?_
    rw [Around.under_plainId F.plain_max_loop _]
    show wpAny _ A.in1 (seqItems? (.ref S) >>= _) _ _ s
    refine wpAny_bind (wpAny_seqItems hS rfl ?_)
    show wpAny _ A.in1 (tryCatch (pyNext (.ref I)) _ >>= _) _ _ s
    refine wpAny_bind (wpAny_tryCatch (W.done s _ _ (hin ▸ hst) fun h' tk hk' => ?_))
    have hS' := hk' S _ hSw hS
    cases o with
    | none =>
      refine wpAny_bind (wpAny_rule (wpAny_pure ?_))
      exact hR d _ tk (fun _ => rfl) (fun z => absurd (h0 rfl) (by omega)) fun b o hbw hbS e => hk' b o hbw e
    | some vb =>
      obtain ⟨p1, p2⟩ := h1 vb rfl
      show wpAny _ A.in1 (updateSeq S (fun _ => #[]) >>= _) _ _ _
      refine wpAny_bind ?_
      refine wpAny_updateSeq hS' rfl (hz := (by show 2 ≤ sizeLine; decide)) (wpAny_bind (wpAny_letGo (wpAny_pure ?_)))
      exact hR vb _ tk (fun z => absurd z (by omega)) (fun _ => by rw [← hin]; exact p2) fun b o hbw hbS e => (Heap.get?_update_other _ _ (Ne.symm hbS)).trans (hk' b o hbw e)
  | succ k ih =>
    intro j s o c hk hj hst h0 h1 hS hR
    have hlt : j < n := by omega
    refine codeAny_builtin F.entry_max_loop ?_
    rw [Around.under_plainId F.plain_max_loop _]
    show wpAny _ A.in1 (seqItems? (.ref S) >>= _) _ _ s
    refine wpAny_bind (wpAny_seqItems hS rfl ?_)
    show wpAny _ A.in1 (tryCatch (pyNext (.ref I)) _ >>= _) _ _ s
    refine wpAny_bind (wpAny_tryCatch (W.item j s _ _ hlt hst fun v h' tk hP hst' hk' => ?_))
    have hS' := hk' S _ hSw hS
    cases o with
    | none =>
      have hj0 := h0 rfl
      subst hj0
      show wpAny _ A.in1 (updateSeq S (fun _ => #[v, v]) >>= _) _ _ _
      refine wpAny_bind ?_
      refine wpAny_updateSeq hS' rfl ?_
      rw [hname]
      refine wpAny_pure ⟨plainId_quiet F.plain_max_loop _, ih 1 _ (some v) _ (by omega) hlt (W.frame _ _ _ hst' fun b hbf o e => ?_) (fun z => nomatch z) (fun v' z => by cases z; exact ⟨by decide, hP⟩) (Heap.get?_update_self _ hS' rfl) fun v' h'' tk'' z1 hP' hk'' => ?_⟩
      · exact (Heap.get?_update_other _ _ (fun h : S = b => hSf (by rw [h]; exact hbf))).trans e
      · exact hR v' h'' tk'' z1 hP' fun b o hbw hbS e => hk'' b o hbw hbS ((Heap.get?_update_other _ _ (Ne.symm hbS)).trans (hk' b o hbw e))
    | some vb =>
      obtain ⟨p1, hPb⟩ := h1 vb rfl
      obtain ⟨j, rfl⟩ : ∃ i, j = i + 1 := ⟨j - 1, by omega⟩
      simp only [Nat.add_sub_cancel] at hPb
      show wpAny _ A.in1 (tryCatch (holding [v, v] (richCompare .Gt v vb >>= _)) _ >>= _) _ _ _
      refine wpAny_bind (wpAny_tryCatch (wpAny_holding (wpAny_bind (hcmp (j + 1) (argBest bt j) v vb _ _ _ hP hPb ?_))))
      refine wpAny_bind (wpAny_holding (wpAny_truthy_bool ?_))
      refine wpAny_bind (wpAny_letGo (wpAny_pure ?_))
      cases hb : bt (j + 1) (argBest bt j) with
      | true =>
        simp only [if_true]
        refine wpAny_bind ?_
        refine wpAny_updateSeq hS' rfl (hz := (by show 2 ≤ sizeLine; decide)) (wpAny_bind (wpAny_letGo ?_))
        rw [hname]
        refine wpAny_pure ⟨plainId_quiet F.plain_max_loop _, ih (j + 2) _ (some v) _ (by omega) hlt (W.frame _ _ _ hst' fun b hbf o e => ?_) (fun z => nomatch z) (fun v' z => by cases z; exact ⟨by omega, by show P (argBest bt (j + 1)) v; simp only [argBest, hb, if_true]; exact hP⟩) (Heap.get?_update_self _ hS' rfl)
          fun v' h'' tk'' z1 hP' hk'' => ?_⟩
        · exact (Heap.get?_update_other _ _ (fun h : S = b => hSf (by rw [h]; exact hbf))).trans e
        · exact hR v' h'' tk'' z1 hP' fun b o hbw hbS e => hk'' b o hbw hbS ((Heap.get?_update_other _ _ (Ne.symm hbS)).trans (hk' b o hbw e))
      | false =>
        simp only [Bool.false_eq_true, if_false]
        refine wpAny_bind (wpAny_letGo ?_)
        rw [hname]
        refine wpAny_pure ⟨plainId_quiet F.plain_max_loop _, ih (j + 2) _ (some vb) c (by omega) hlt hst' (fun z => nomatch z) (fun v' z => by cases z; exact ⟨by omega, by show P (argBest bt (j + 1)) vb; simp only [argBest, hb, Bool.false_eq_true, if_false]; exact hPb⟩) hS' fun v' h'' tk'' z1 hP' hk'' => ?_⟩
        exact hR v' h'' tk'' z1 hP' fun b o hbw hbS e => hk'' b o hbw hbS (hk' b o hbw e)
end
theorem call_maxD {X : Cx} (hc : X.calm = true) {pins : List (Addr × Obj)} {s : Shared} {σ : St} {H : Hp} {p : Addr} {ns : List Int} {dv : V} {d : Value} {Q : VK} (I : Inv X pins σ H s) (rd : RelV dv d) (hq : SqL X.K H p (ns.map V.int))
    (q0 : ns = [] → Q dv H) (q : ns ≠ [] → ∀ M, M ∈ ns → (∀ a ∈ ns, a ≤ M) → Q (.int M) H) : wpAny (model X.prog X.w) X.A (call (.builtin "max") [.ref p] [("default", d)]) (EP X pins σ Q) X.xe s := by
  have hname : (toString "max" ++ toString ".loop" : String) = "max.loop" := by decide
  obtain ⟨its, r, pl, _⟩ := I.list hq
  have hi := ints_of r
  obtain ⟨ys, e⟩ := hi.allInts.items
  have hl := pl.isList
  have en : ns = ys.toList.map (·.1) := by
    have e1 := hi.numsOf
    have e2 := nums_intItems ys
    rw [← e] at e2
    exact e1.symm.trans e2
  have lz : ys.size = ns.length := by rw [en]; simp
  rw [e] at hl
  refine fn_tree F.kind_max F.plain_max F.entry_max (args_maxd _ _) ?_
  show wpAny _ _ (Builtin.Builtins.bindParams "max" ["key", "default"] 0 ⟨[], [("default", d)]⟩ >>= _) _ _ s
  refine wpAny_bind (wpAny_of_eq (show Builtin.Builtins.bindParams "max" ["key", "default"] 0 ⟨[], [("default", d)]⟩ = pure [none, some d] from rfl) ?_)
  refine wpAny_bind (wpAny_pure ?_)
  refine wpAny_bind (iter_intList hl fun s₂ e st hfp hlI => ?_)
  subst e
  refine wpAny_bind (wpAny_newObj_type ?_)
  rw [hname]
  have W := Walks.list (prog := X.prog) (w := X.w) (A := X.A.in1) (I.ok.hd hc) _ p hlI (intItems ys)
  refine wpAny_pure ⟨plainId_quiet F.plain_max_loop _, max_loopD W (fun i j => decide (numAt ys i > numAt ys j)) (CmpOf.ints_gt (numAt ys) (fun _ _ => intItems_at)) _ (fun hm => Nat.lt_irrefl _ (hfp _ hm)) d _ 0 _ none _ rfl (Nat.zero_le _) (W.frame _ _ _ st fun b _ o e => Heap.get?_push_of_some _ e) (fun _ => rfl) (fun _ z => nomatch z) (Heap.get?_push_size _ rfl) fun v h' tk z1 z2 hk => ?_⟩
  have hk0 := old_kept (s := s) (l := p) (h' := h') fun b o hbw e => hk b o hbw (Nat.ne_of_lt (Heap.lt_size e)) (Heap.get?_push_of_some _ e)
  have hsz : (intItems ys).size = ys.size := by simp [intItems]
  by_cases hn : ns = []
  · have : v = d := z1 (by rw [hsz, lz, hn]; rfl)
    subst this
    exact ⟨dv, H, I.kept hk0, rd, q0 hn⟩
  · have hpos : 0 < ns.length := by
      cases ns with
      | nil => exact absurd rfl hn
      | cons => exact Nat.succ_pos _
    have hv := z2 (by rw [hsz]; omega)
    rw [hsz] at hv
    obtain ⟨t, rfl⟩ := intItems_at hv
    obtain ⟨b1, b2⟩ := argBest_gt (numAt ys) (ys.size - 1)
    refine ⟨.int _, H, I.kept hk0, ⟨_, rfl⟩, q hn _ ?_ fun a ha => ?_⟩
    · rw [en, numAt_eq]
      exact getD_mem (by rw [List.length_map, Array.length_toList]; omega)
    · rw [en] at ha
      obtain ⟨j, hj, rfl⟩ := mem_getD ha
      rw [List.length_map, Array.length_toList] at hj
      have := b2 j (by omega)
      rw [numAt_eq ys j] at this
      exact this
theorem args_mind (a v : Value) : argsOk "min" ⟨[a], [("default", v)]⟩ := by unfold argsOk; kernel_rfl
section
variable {prog : Program} {w : World} {A : Around} {R : Result → Shared → Prop} {I : Addr} {fp wr : List Addr} {n : Nat} {P : Nat → Value → Prop} {St : Nat → Heap → Prop}
theorem min_loopD (W : Walks prog w A.in1 I fp wr n P St) (bt : Nat → Nat → Bool) (hcmp : CmpOf prog w A.in1 .Lt P bt) (S : Addr) (hSf : S ∉ fp) (d : Value) :
    ∀ (k j : Nat) (s : Shared) (o : Option Value) (c : Nat), n - j = k → j ≤ n → St j s.heap → (o = none → j = 0) → (∀ v, o = some v → 0 < j ∧ P (argBest bt (j - 1)) v) →
    s.heap.get? S = some { cls := .type "list", dict := none, data := .seq (oldS o) c, slots := #[] } →
    (∀ v h' tk, (n = 0 → v = d) → (0 < n → P (argBest bt (n - 1)) v) → (∀ b o, b ∉ wr → b ≠ S → s.heap.get? b = some o → h'.get? b = some o) → R (.ok (.ret v)) { s with heap := h', toks := tk }) →
    codeAny (model prog w) A (.builtin "min.loop" ⟨[.ref I, .none, .ref S], [("default", d)]⟩) R s := by
  have hSw : S ∉ wr := fun h => hSf (W.sub _ h)
  have hname : (toString "min" ++ toString ".loop" : String) = "min.loop" := by decide
  intro k
  induction k with
  | zero =>
    intro j s o c hk hj hst h0 h1 hS hR
    have hin : j = n := by omega
    refine codeAny_builtin F.entry_min_loop ?_
    rw [Around.under_plainId F.plain_min_loop _]
    show wpAny _ A.in1 (seqItems? (.ref S) >>= _) _ _ s
    refine wpAny_bind (wpAny_seqItems hS rfl ?_)
    show wpAny _ A.in1 (tryCatch (pyNext (.ref I)) _ >>= _) _ _ s
    refine wpAny_bind (wpAny_tryCatch (W.done s _ _ (hin ▸ hst) fun h' tk hk' => ?_))
    have hS' := hk' S _ hSw hS
    cases o with
    | none =>
      refine wpAny_bind (wpAny_rule (wpAny_pure ?_))
      exact hR d _ tk (fun _ => rfl) (fun z => absurd (h0 rfl) (by omega)) fun b o hbw hbS e => hk' b o hbw e
    | some vb =>
      obtain ⟨p1, p2⟩ := h1 vb rfl
      show wpAny _ A.in1 (updateSeq S (fun _ => #[]) >>= _) _ _ _
      refine wpAny_bind ?_
      refine wpAny_updateSeq hS' rfl (hz := (by show 2 ≤ sizeLine; decide)) (wpAny_bind (wpAny_letGo (wpAny_pure ?_)))
      exact hR vb _ tk (fun z => absurd z (by omega)) (fun _ => by rw [← hin]; exact p2) fun b o hbw hbS e => (Heap.get?_update_other _ _ (Ne.symm hbS)).trans (hk' b o hbw e)
  | succ k ih =>
    intro j s o c hk hj hst h0 h1 hS hR
    have hlt : j < n := by omega
    refine codeAny_builtin F.entry_min_loop ?_
    rw [Around.under_plainId F.plain_min_loop _]
    show wpAny _ A.in1 (seqItems? (.ref S) >>= _) _ _ s
    refine wpAny_bind (wpAny_seqItems hS rfl ?_)
    show wpAny _ A.in1 (tryCatch (pyNext (.ref I)) _ >>= _) _ _ s
    refine wpAny_bind (wpAny_tryCatch (W.item j s _ _ hlt hst fun v h' tk hP hst' hk' => ?_))
    have hS' := hk' S _ hSw hS
    cases o with
    | none =>
      have hj0 := h0 rfl
      subst hj0
      show wpAny _ A.in1 (updateSeq S (fun _ => #[v, v]) >>= _) _ _ _
      refine wpAny_bind ?_
      refine wpAny_updateSeq hS' rfl ?_
      rw [hname]
      refine wpAny_pure ⟨plainId_quiet F.plain_min_loop _, ih 1 _ (some v) _ (by omega) hlt (W.frame _ _ _ hst' fun b hbf o e => ?_) (fun z => nomatch z) (fun v' z => by cases z; exact ⟨by decide, hP⟩) (Heap.get?_update_self _ hS' rfl) fun v' h'' tk'' z1 hP' hk'' => ?_⟩
      · exact (Heap.get?_update_other _ _ (fun h : S = b => hSf (by rw [h]; exact hbf))).trans e
      · exact hR v' h'' tk'' z1 hP' fun b o hbw hbS e => hk'' b o hbw hbS ((Heap.get?_update_other _ _ (Ne.symm hbS)).trans (hk' b o hbw e))
    | some vb =>
      obtain ⟨p1, hPb⟩ := h1 vb rfl
      obtain ⟨j, rfl⟩ : ∃ i, j = i + 1 := ⟨j - 1, by omega⟩
      simp only [Nat.add_sub_cancel] at hPb
      show wpAny _ A.in1 (tryCatch (holding [v, v] (richCompare .Lt v vb >>= _)) _ >>= _) _ _ _
      refine wpAny_bind (wpAny_tryCatch (wpAny_holding (wpAny_bind (hcmp (j + 1) (argBest bt j) v vb _ _ _ hP hPb ?_))))
      refine wpAny_bind (wpAny_holding (wpAny_truthy_bool ?_))
      refine wpAny_bind (wpAny_letGo (wpAny_pure ?_))
      cases hb : bt (j + 1) (argBest bt j) with
      | true =>
        simp only [if_true]
        refine wpAny_bind ?_
        refine wpAny_updateSeq hS' rfl (hz := (by show 2 ≤ sizeLine; decide)) (wpAny_bind (wpAny_letGo ?_))
        rw [hname]
        refine wpAny_pure ⟨plainId_quiet F.plain_min_loop _, ih (j + 2) _ (some v) _ (by omega) hlt (W.frame _ _ _ hst' fun b hbf o e => ?_) (fun z => nomatch z) (fun v' z => by cases z; exact ⟨by omega, by show P (argBest bt (j + 1)) v; simp only [argBest, hb, if_true]; exact hP⟩) (Heap.get?_update_self _ hS' rfl)
          fun v' h'' tk'' z1 hP' hk'' => ?_⟩
        · exact (Heap.get?_update_other _ _ (fun h : S = b => hSf (by rw [h]; exact hbf))).trans e
        · exact hR v' h'' tk'' z1 hP' fun b o hbw hbS e => hk'' b o hbw hbS ((Heap.get?_update_other _ _ (Ne.symm hbS)).trans (hk' b o hbw e))
      | false =>
        simp only [Bool.false_eq_true, if_false]
        refine wpAny_bind (wpAny_letGo ?_)
        rw [hname]
        refine wpAny_pure ⟨plainId_quiet F.plain_min_loop _, ih (j + 2) _ (some vb) c (by omega) hlt hst' (fun z => nomatch z) (fun v' z => by cases z; exact ⟨by omega, by show P (argBest bt (j + 1)) vb; simp only [argBest, hb, Bool.false_eq_true, if_false]; exact hPb⟩) hS' fun v' h'' tk'' z1 hP' hk'' => ?_⟩
        exact hR v' h'' tk'' z1 hP' fun b o hbw hbS e => hk'' b o hbw hbS (hk' b o hbw e)
end
theorem call_minD {X : Cx} (hc : X.calm = true) {pins : List (Addr × Obj)} {s : Shared} {σ : St} {H : Hp} {p : Addr} {ns : List Int} {dv : V} {d : Value} {Q : VK} (I : Inv X pins σ H s) (rd : RelV dv d) (hq : SqL X.K H p (ns.map V.int))
    (q0 : ns = [] → Q dv H) (q : ns ≠ [] → ∀ M, M ∈ ns → (∀ a ∈ ns, M ≤ a) → Q (.int M) H) : wpAny (model X.prog X.w) X.A (call (.builtin "min") [.ref p] [("default", d)]) (EP X pins σ Q) X.xe s := by
  have hname : (toString "min" ++ toString ".loop" : String) = "min.loop" := by decide
  obtain ⟨its, r, pl, _⟩ := I.list hq
  have hi := ints_of r
  obtain ⟨ys, e⟩ := hi.allInts.items
  have hl := pl.isList
  have en : ns = ys.toList.map (·.1) := by
    have e1 := hi.numsOf
    have e2 := nums_intItems ys
    rw [← e] at e2
    exact e1.symm.trans e2
  have lz : ys.size = ns.length := by rw [en]; simp
  rw [e] at hl
  refine fn_tree F.kind_min F.plain_min F.entry_min (args_mind _ _) ?_
  show wpAny _ _ (Builtin.Builtins.bindParams "min" ["key", "default"] 0 ⟨[], [("default", d)]⟩ >>= _) _ _ s
  refine wpAny_bind (wpAny_of_eq (show Builtin.Builtins.bindParams "min" ["key", "default"] 0 ⟨[], [("default", d)]⟩ = pure [none, some d] from rfl) ?_)
  refine wpAny_bind (wpAny_pure ?_)
  refine wpAny_bind (iter_intList hl fun s₂ e st hfp hlI => ?_)
  subst e
  refine wpAny_bind (wpAny_newObj_type ?_)
  rw [hname]
  have W := Walks.list (prog := X.prog) (w := X.w) (A := X.A.in1) (I.ok.hd hc) _ p hlI (intItems ys)
  refine wpAny_pure ⟨plainId_quiet F.plain_min_loop _, min_loopD W (fun i j => decide (numAt ys i < numAt ys j)) (CmpOf.ints_lt (numAt ys) (fun _ _ => intItems_at)) _ (fun hm => Nat.lt_irrefl _ (hfp _ hm)) d _ 0 _ none _ rfl (Nat.zero_le _) (W.frame _ _ _ st fun b _ o e => Heap.get?_push_of_some _ e) (fun _ => rfl) (fun _ z => nomatch z) (Heap.get?_push_size _ rfl) fun v h' tk z1 z2 hk => ?_⟩
  have hk0 := old_kept (s := s) (l := p) (h' := h') fun b o hbw e => hk b o hbw (Nat.ne_of_lt (Heap.lt_size e)) (Heap.get?_push_of_some _ e)
  have hsz : (intItems ys).size = ys.size := by simp [intItems]
  by_cases hn : ns = []
  · have : v = d := z1 (by rw [hsz, lz, hn]; rfl)
    subst this
    exact ⟨dv, H, I.kept hk0, rd, q0 hn⟩
  · have hpos : 0 < ns.length := by
      cases ns with
      | nil => exact absurd rfl hn
      | cons => exact Nat.succ_pos _
    have hv := z2 (by rw [hsz]; omega)
    rw [hsz] at hv
    obtain ⟨t, rfl⟩ := intItems_at hv
    obtain ⟨b1, b2⟩ := argBest_lt (numAt ys) (ys.size - 1)
    refine ⟨.int _, H, I.kept hk0, ⟨_, rfl⟩, q hn _ ?_ fun a ha => ?_⟩
    · rw [en, numAt_eq]
      exact getD_mem (by rw [List.length_map, Array.length_toList]; omega)
    · rw [en] at ha
      obtain ⟨j, hj, rfl⟩ := mem_getD ha
      rw [List.length_map, Array.length_toList] at hj
      have := b2 j (by omega)
      rw [numAt_eq ys j] at this
      exact this
def rDef (K : PySem.W.Frag) (R : Int → Int → Prop) (xs zs : List V) (H : Hp) (Q : VK) : Prop := ∃ (p : Addr) (ns : List Int) (dv : V), xs = [.ref p] ∧ zs = [dv] ∧ SqL K H p (ns.map V.int) ∧ (ns = [] → Q dv H) ∧ (ns ≠ [] → ∀ M, M ∈ ns → (∀ a ∈ ns, R a M) → Q (.int M) H)
def tDef (K : PySem.W.Frag) (R : Int → Int → Prop) (t tk : TA) : TE := fun σ H Q => t σ H fun xs H1 => tk σ H1 fun zs H2 => rDef K R xs zs H2 Q
theorem pe_maxD {X : Cx} {p pos kpos : Pos} {e dE : Expr} {te td : TE} (hc : X.calm = true) (hg : Gl X "max") (hm : X.mg "max" = none) (he : PE X e te) (hd : PE X dE td)
    (hst : starEach [e] X.env = (false, eval e X.env) :: starEach [] X.env := by rfl)
    (hall : (backToKw pos (keywordEach [⟨some "default", dE, kpos⟩] X.env)).all (·.1.isSome) = true := by rfl) (hks : (backToKw pos (keywordEach [⟨some "default", dE, kpos⟩] X.env)).filterMap (·.1) = [("default" : Str)] := by rfl)
    (hpl : (backTo pos (starEach [e] X.env)).any (·.1) = false := by rfl) (hno : (backToKw pos (keywordEach [⟨some "default", dE, kpos⟩] X.env)).any (·.1.isNone) = false := by rfl)
    (hst2 : backTo pos (starEach [e] X.env) = (false, eval e X.env) :: backTo pos (starEach [] X.env) := by rfl) :
    PE X (.Call (.Name "max" p) [e] [⟨some "default", dE, kpos⟩] pos) (tDef X.K (fun a M => a ≤ M) (tCons te tNil) (tCons td tNil)) := by
  intro pins s σ H Q I h
  refine wpAny_Call_Name_kw (ld_blt (u := .builtin "max") I hg hm (by kernel_rfl) ?_)
  refine PyProof.Rows.callWith_kw (thn (pa_cons he pa_nil hst pos pins s σ H _ I h) fun us s1 ⟨vs, H1, I1, r, q⟩ => ?_) hst2 hpl hall hno
  refine thn (pk_cons (kpos := kpos) (nm := some "default") hd pk_nil pos pins s1 σ H1 _ I1 q) fun ws s2 ⟨zs, H2, I2, rz, q2⟩ => ?_
  obtain ⟨p, ns, dv, rfl, rfl, hq, q0, q1⟩ := q2
  obtain ⟨d, rfl, rd⟩ := rz.one
  obtain ⟨u, rfl, ru⟩ := r.one
  cases ru
  rw [hks]
  exact call_maxD hc I2 rd hq q0 q1
theorem pe_minD {X : Cx} {p pos kpos : Pos} {e dE : Expr} {te td : TE} (hc : X.calm = true) (hg : Gl X "min") (hm : X.mg "min" = none) (he : PE X e te) (hd : PE X dE td)
    (hst : starEach [e] X.env = (false, eval e X.env) :: starEach [] X.env := by rfl)
    (hall : (backToKw pos (keywordEach [⟨some "default", dE, kpos⟩] X.env)).all (·.1.isSome) = true := by rfl) (hks : (backToKw pos (keywordEach [⟨some "default", dE, kpos⟩] X.env)).filterMap (·.1) = [("default" : Str)] := by rfl)
    (hpl : (backTo pos (starEach [e] X.env)).any (·.1) = false := by rfl) (hno : (backToKw pos (keywordEach [⟨some "default", dE, kpos⟩] X.env)).any (·.1.isNone) = false := by rfl)
    (hst2 : backTo pos (starEach [e] X.env) = (false, eval e X.env) :: backTo pos (starEach [] X.env) := by rfl) :
    PE X (.Call (.Name "min" p) [e] [⟨some "default", dE, kpos⟩] pos) (tDef X.K (fun a M => M ≤ a) (tCons te tNil) (tCons td tNil)) := by
  intro pins s σ H Q I h
  refine wpAny_Call_Name_kw (ld_blt (u := .builtin "min") I hg hm (by kernel_rfl) ?_)
  refine PyProof.Rows.callWith_kw (thn (pa_cons he pa_nil hst pos pins s σ H _ I h) fun us s1 ⟨vs, H1, I1, r, q⟩ => ?_) hst2 hpl hall hno
  refine thn (pk_cons (kpos := kpos) (nm := some "default") hd pk_nil pos pins s1 σ H1 _ I1 q) fun ws s2 ⟨zs, H2, I2, rz, q2⟩ => ?_
  obtain ⟨p, ns, dv, rfl, rfl, hq, q0, q1⟩ := q2
  obtain ⟨d, rfl, rd⟩ := rz.one
  obtain ⟨u, rfl, ru⟩ := r.one
  cases ru
  rw [hks]
  exact call_minD hc I2 rd hq q0 q1
end L2
set_option Elab.async false
set_option linter.all false
set_option maxRecDepth 100000
set_option maxHeartbeats 4000000
namespace L2
open PySem PySem.Spec PyProof.Rows
section
variable {prog : Program} {w : World} {A : Around} {E : Value → Shared → Prop} {s : Shared}
end
end L2
set_option Elab.async false
set_option linter.all false
set_option maxRecDepth 100000
set_option maxHeartbeats 4000000
namespace L2
open PySem PySem.Spec PyProof.Rows
section
variable {X : Cx} {tg : Expr}
end
end L2
set_option Elab.async false
set_option linter.all false
set_option maxRecDepth 100000
set_option maxHeartbeats 4000000
namespace Seek
open PySem L2 PyProof.Rows
def top (i : Nat) : Stmt := PySem.Challenge.pw_stairseek_k28_a_keeper_by_drawn_deeds.main.body.getD i (.Pass ⟨0, 0, 0, 0⟩)
abbrev dIsWhole : Stmt := top 17
abbrev dAllWhole : Stmt := top 18
abbrev dNeverFalls : Stmt := top 19
abbrev dIsRow : Stmt := top 20
abbrev dShape : Stmt := top 21
abbrev dAtPlace : Stmt := top 22
abbrev dSorted : Stmt := top 23
abbrev dIsTable : Stmt := top 24
abbrev dNeedTable : Stmt := top 27
abbrev dNeedNumber : Stmt := top 29
abbrev dTake : Stmt := top 47
abbrev dTable : Stmt := top 49
abbrev dCopy : Stmt := top 50
abbrev dX : Stmt := top 51
abbrev dLaw : Stmt := top 64
abbrev dCells : Stmt := top 31
abbrev dIsCell : Stmt := top 26
abbrev dNeedCell : Stmt := top 28
abbrev dNumberAt : Stmt := top 30
abbrev dCellSz : Stmt := top 25
abbrev dMany : Stmt := top 33
abbrev dMerged : Stmt := top 34
abbrev dNeedPlace : Stmt := top 35
abbrev dNumberBy : Stmt := top 36
abbrev dDue : Stmt := top 58
abbrev dLCell : Stmt := top 45
abbrev dStore : Stmt := top 46
abbrev dFar : Stmt := top 48
abbrev dLIsCell : Stmt := top 57
abbrev dKind : Stmt := top 52
abbrev dCopyOf : Stmt := top 38
abbrev dWith : Stmt := top 39
abbrev dChanged : Stmt := top 40
abbrev dBeside : Stmt := top 41
abbrev dSpan : Stmt := top 42
abbrev dLSpan : Stmt := top 53
abbrev dNear : Stmt := top 54
abbrev dDeed : Stmt := top 55
abbrev dLIsWhole : Stmt := top 56
abbrev dAsked : Stmt := top 59
abbrev dTabR : Stmt := top 60
abbrev dToldR : Stmt := top 61
abbrev dDeedR : Stmt := top 62
abbrev dRunR : Stmt := top 63
abbrev dKeeper : Stmt := top 43
def methOf (c : Stmt) (j : Nat) : Stmt := match c with | .ClassDef _ _ _ b _ _ _ _ _ _ _ => b.getD j (.Pass ⟨0, 0, 0, 0⟩) | _ => .Pass ⟨0, 0, 0, 0⟩
def Row (H : Hp) (a : Addr) (ns : List Int) : Prop := H a = some (.lst (ns.map V.int))
def nfB (ns : List Int) : Bool := ((List.range (ns.length - 1)).map fun i => decide (ns.getD i 0 ≤ ns.getD (i + 1) 0)).all id
theorem Row.same {H H' : Hp} {a : Addr} {ns : List Int} (e : Same H H') (h : Row H a ns) : Row H' a ns := e _ _ h
theorem Row.sq {K : PySem.W.Frag} {H : Hp} {a : Addr} {ns : List Int} (h : Row H a ns) : SqL K H a (ns.map V.int) := SqL.of h
structure Blt (mg : Str → Option Value) : Prop where
  len : mg "len" = none
  all : mg "all" = none
  isinst : mg "isinstance" = none
  rng : mg "range" = none
  int : mg "int" = none
  bool : mg "bool" = none
  list : mg "list" = none
  enum : mg "enumerate" = none
  abs : mg "abs" = none
  max : mg "max" = none
  mr : ∃ t, mg "MOST_ROWS" = some (.int 6 t)
  mp : ∃ t, mg "MOST_PLACES" = some (.int 6 t)
theorem sl6 {n : Nat} (h : n ≤ 1000) : n ≤ sizeLine := Nat.le_of_lt (small1000 h)
section
variable {P : Program} {w : World} {K : PySem.W.Frag} {mg : Str → Option Value} {base : Heap}
def spIsWhole : Sp := fun vs H Q _ => ∃ i : Int, vs = [.int i] ∧ Q (.bl true) H
theorem sc_isWhole : FnScope ["thing"] ["thing"] (defScope dIsWhole) := ⟨rfl, rfl, rfl, by decide +kernel, rfl, by decide +kernel, by decide +kernel⟩
theorem ok_isWhole (T : Blt mg) (D : DefAt K mg "is_whole" dIsWhole ["thing"]) : FnAt P w K mg base 1 "is_whole" ["thing"] spIsWhole := by
  refine FnAt.of D sc_isWhole (fun vs H Q E h => ?_) (fun f cdv A outer s H vs Q E hr h => ?_)
  · obtain ⟨i, rfl, _⟩ := h
    rfl
  · obtain ⟨i, rfl, q⟩ := h
    refine ⟨_, pss_one (ps_ret (pe_and (pe_b call_isinst T.isinst boot_isinstance (pa_cons (pv 0) (pa_cons (pe_ty T.int boot_int) pa_nil)))
      (pe_one (pe_not (pe_b call_isinst T.isinst boot_isinstance (pa_cons (pv 0) (pa_cons (pe_ty T.bool boot_bool) pa_nil))))))), ?_⟩
    exact ⟨_, rfl, _, _, _, _, rfl, .int i, kit_ii _, _, rfl, iteT ⟨_, rfl, _, _, _, _, rfl, .int i, kit_ib _, _, rfl, q⟩⟩
def spAllWhole (K : PySem.W.Frag) : Sp := fun vs H Q _ => ∃ (a : Addr) (ns : List Int), vs = [.ref a] ∧ Row H a ns ∧ ns.length ≤ 1000 ∧ ∀ H', Same H H' → Q (.bl true) H'
theorem sc_allWhole : FnScope ["things"] ["things"] (defScope dAllWhole) := ⟨rfl, rfl, rfl, by decide +kernel, rfl, by decide +kernel, by decide +kernel⟩
theorem all_true {α : Type} (xs : List α) : (xs.map fun _ => true).all id = true := by simp
theorem ok_allWhole (T : Blt mg) (D : DefAt K mg "all_whole" dAllWhole ["things"]) (G1 : FnAt P w K mg base 1 "is_whole" ["thing"] spIsWhole) : FnAt P w K mg base 2 "all_whole" ["things"] (spAllWhole K) := by
  refine FnAt.of D sc_allWhole (fun vs H Q E h => ?_) (fun f cdv A outer s H vs Q E hr h => ?_)
  · obtain ⟨a, ns, rfl, _⟩ := h
    rfl
  · obtain ⟨a, ns, rfl, hR, hn, q⟩ := h
    have nd1 : (["thing"] : List Str).Nodup := by decide +kernel
    refine ⟨_, pss_one (ps_ret (pe_b (call_all rfl) T.all boot_all (pa_cons (pe_comp ["thing"] [none] (defScope dAllWhole) ["things"] rfl (pi_list (pv 0)) (by decide +kernel)
      (fun cl C s2 H2 ex => pg_c 0 nd1) (fun cl C s2 H2 ex => pifs_nil) (fun cl C s2 H2 ex => pe_f G1 hr (pa_cons (pv 0) pa_nil))) pa_nil))), ?_⟩
    refine ⟨_, rfl, a, rfl, ⟨_, hR.sq⟩, comp_map V.int (fun _ => .bl true) hR.sq (sl6 hn) (fun i hx H' Q' sm q' => ?_) fun D H' hD sm hDl => ?_⟩
    · exact ⟨_, rfl, i, rfl, q' _ (Same.refl _)⟩
    · refine ⟨D, ns.map fun _ => true, rfl, SqL.of ?_, ?_⟩
      · rw [hDl]
        simp [Function.comp]
      · rw [all_true]
        exact q H' sm
def spNF : Sp := fun vs H Q _ => ∃ (a : Addr) (ns : List Int), vs = [.ref a] ∧ Row H a ns ∧ ns.length ≤ 1000 ∧ ∀ H', Same H H' → Q (.bl (nfB ns)) H'
theorem sc_nf : FnScope ["numbers"] ["numbers"] (defScope dNeverFalls) := ⟨rfl, rfl, rfl, by decide +kernel, rfl, by decide +kernel, by decide +kernel⟩
theorem at_row {ns : List Int} {i : Nat} (h : i < ns.length) : atI (ns.map V.int) (i : Int) = some (.int (ns.getD i 0)) := atI_nat (by simp [h])
theorem ok_nf (T : Blt mg) (D : DefAt K mg "never_falls" dNeverFalls ["numbers"]) : FnAt P w K mg base 1 "never_falls" ["numbers"] spNF := by
  refine FnAt.of D sc_nf (fun vs H Q E h => ?_) (fun f cdv A outer s H vs Q E hr h => ?_)
  · obtain ⟨a, ns, rfl, _⟩ := h
    rfl
  · obtain ⟨a, ns, rfl, hR, hn, q⟩ := h
    have nd1 : (["k", "numbers"] : List Str).Nodup := by decide +kernel
    refine ⟨_, pss_one (ps_ret (pe_b (call_all rfl) T.all boot_all (pa_cons (pe_comp ["k", "numbers"] [none, some 0] (defScope dNeverFalls) ["numbers"] rfl
      (pi_range2 rfl T.rng (pa_cons pe_int (pa_cons (pe_b call_len_seq T.len boot_len (pa_cons (pv 0) pa_nil)) pa_nil))) (by decide +kernel)
      (fun cl C s2 H2 ex => pg_c 0 nd1) (fun cl C s2 H2 ex => pifs_nil)
      (fun cl C s2 H2 ex => pe_cmpR op_le (pe_ix (ixL K) (pv 1) (pe_op op_sub (pv 0) pe_int) (fun _ _ => rfl)) (pe_ix (ixL K) (pv 1) (pv 0) (fun _ _ => rfl)) (nomark _))) pa_nil))), ?_⟩
    refine ⟨_, rfl, a, _, rfl, .inl hR.sq, 1, _, rfl, ⟨by omega, by omega, ?_, ?_⟩, ?_⟩
    · omega
    · rw [List.length_map]
      omega
    · rw [List.length_map, show ((ns.length : Int) - 1).toNat = ns.length - 1 by omega]
      refine comp_range (fun i => .bl (decide (ns.getD i 0 ≤ ns.getD (i + 1) 0))) (sl6 (by omega)) (fun i hi H' Q' sm q' => ?_) fun D H' hD sm hDl => ?_
      · have h1 : (1 : Int) + (i : Int) - 1 = ((i : Nat) : Int) := by omega
        have h2 : (1 : Int) + (i : Int) = ((i + 1 : Nat) : Int) := by omega
        refine ⟨_, rfl, _, rfl, _, _, rfl, rfl, a, _, _, _, rfl, rfl, (hR.same sm).sq, (by rw [h1]; exact at_row (by omega)), _, rfl, _, rfl, a, _, _, _, rfl, rfl, (hR.same sm).sq, (by rw [h2]; exact at_row (by omega)), _, _, rfl, rfl, ?_⟩
        exact q' _ (Same.refl _)
      · refine ⟨D, (List.range (ns.length - 1)).map fun i => decide (ns.getD i 0 ≤ ns.getD (i + 1) 0), rfl, SqL.of ?_, q H' sm⟩
        rw [hDl]
        simp [Function.comp]
end
abbrev Prs := List (Addr × List Int)
structure Tab (H : Hp) (t : Addr) (prs : Prs) : Prop where
  l : H t = some (.lst (prs.map fun p => V.ref p.1))
  r : ∀ p ∈ prs, Row H p.1 p.2
theorem Tab.same {H H' : Hp} {t : Addr} {prs : Prs} (e : Same H H') (h : Tab H t prs) : Tab H' t prs := ⟨e _ _ h.l, fun p hp => (h.r p hp).same e⟩
theorem Tab.sq {K : PySem.W.Frag} {H : Hp} {t : Addr} {prs : Prs} (h : Tab H t prs) : SqL K H t (prs.map fun p => V.ref p.1) := SqL.of h.l
def Sm (prs : Prs) : Prop := prs.length ≤ 1000 ∧ ∀ p ∈ prs, p.2.length ≤ 1000
def rowB (ns : List Int) : Bool := decide (1 ≤ ns.length) && decide (ns.length ≤ 6)
def w0 (prs : Prs) : Nat := (prs.head?.map (·.2.length)).getD 0
def shB (prs : Prs) : Bool := (decide (1 ≤ prs.length) && decide (prs.length ≤ 6)) && ((prs.map fun p => rowB p.2).all id && (prs.map fun p => decide (p.2.length = w0 prs)).all id)
def col (prs : Prs) (j : Nat) : List Int := prs.map fun p => p.2.getD j 0
def srB (prs : Prs) : Bool := (prs.map fun p => nfB p.2).all id && ((List.range (w0 prs)).map fun j => nfB (col prs j)).all id
def tabB (prs : Prs) : Bool := shB prs && srB prs
theorem map_bl {α : Type} (xs : List α) (f : α → Bool) : xs.map (fun x => V.bl (f x)) = (xs.map f).map V.bl := by simp [Function.comp]
theorem dec_nat {i j : Nat} : decide (V.int (i : Int) = V.int (j : Int)) = decide (i = j) := by
  rw [decide_eq_decide]
  constructor
  · intro h
    injection h with h
    omega
  · rintro rfl
    rfl
theorem head_at {prs : Prs} (h : 1 ≤ prs.length) : ∃ p, prs.head? = some p ∧ p ∈ prs ∧ prs[0]? = some p := by
  cases prs with
  | nil => simp at h
  | cons p r => exact ⟨p, rfl, by simp, rfl⟩
section
variable {P : Program} {w : World} {K : PySem.W.Frag} {mg : Str → Option Value} {base : Heap}
def spIsRow : Sp := fun vs H Q _ => ∃ (a : Addr) (ns : List Int), vs = [.ref a] ∧ Row H a ns ∧ ns.length ≤ 1000 ∧ ∀ H', Same H H' → Q (.bl (rowB ns)) H'
theorem sc_isRow : FnScope ["thing"] ["thing"] (defScope dIsRow) := ⟨rfl, rfl, rfl, by decide +kernel, rfl, by decide +kernel, by decide +kernel⟩
theorem ok_isRow (T : Blt mg) (D : DefAt K mg "is_row" dIsRow ["thing"]) (G : FnAt P w K mg base 2 "all_whole" ["things"] (spAllWhole K)) : FnAt P w K mg base 3 "is_row" ["thing"] spIsRow := by
  refine FnAt.of D sc_isRow (fun vs H Q E h => ?_) (fun f cdv A outer s H vs Q E hr h => ?_)
  · obtain ⟨a, ns, rfl, _⟩ := h
    rfl
  · obtain ⟨a, ns, rfl, hR, hn, q⟩ := h
    obtain ⟨tk, mp⟩ := T.mp
    refine ⟨_, pss_one (ps_ret (pe_and (pe_b call_isinst T.isinst boot_isinstance (pa_cons (pv 0) (pa_cons (pe_ty T.list boot_list) pa_nil)))
      (pe_and (pe_chain op_le op_le pe_int (pe_b call_len_seq T.len boot_len (pa_cons (pv 0) pa_nil)) (pe_glob (v := .int 6) rfl mp ⟨_, rfl⟩))
      (pe_one (pe_f G hr (pa_cons (pv 0) pa_nil)))))), ?_⟩
    refine ⟨_, rfl, _, _, _, _, rfl, .lst hR, kit_ll _, _, rfl, iteT ⟨_, rfl, a, _, rfl, .inl hR.sq, 1, _, rfl, rfl, _, rfl, ?_⟩⟩
    rw [List.length_map]
    refine ite2 (fun h1 => ?_) (fun h1 => ?_)
    · have h1 := of_decide_eq_true h1
      refine ⟨_, _, rfl, rfl, _, rfl, ite2 (fun h2 => ?_) (fun h2 => ?_)⟩
      · have h2 := of_decide_eq_true h2
        refine ⟨_, rfl, a, ns, rfl, hR, hn, fun H' sm => ?_⟩
        have e : rowB ns = true := by
          unfold rowB
          rw [decide_eq_true (by omega), decide_eq_true (by omega)]
          rfl
        rw [← e]
        exact q H' sm
      · have e : rowB ns = false := by
          unfold rowB
          rw [decide_eq_false (p := ns.length ≤ 6) (by intro z; exact h2 (decide_eq_true (by omega)))]
          simp
        rw [← e]
        exact q H (Same.refl _)
    · refine ⟨_, rfl, iteF ?_⟩
      have e : rowB ns = false := by
        unfold rowB
        rw [decide_eq_false (p := 1 ≤ ns.length) (by intro z; exact h1 (decide_eq_true (by omega)))]
        simp
      rw [← e]
      exact q H (Same.refl _)
def spShape : Sp := fun vs H Q _ => ∃ (t : Addr) (prs : Prs), vs = [.ref t] ∧ Tab H t prs ∧ Sm prs ∧ ∀ H', Same H H' → Q (.bl (shB prs)) H'
theorem sc_shape : FnScope ["thing", "row"] ["thing"] (defScope dShape) := ⟨rfl, rfl, rfl, by decide +kernel, rfl, by decide +kernel, by decide +kernel⟩
theorem ok_shape (T : Blt mg) (D : DefAt K mg "has_table_shape" dShape ["thing"]) (G : FnAt P w K mg base 3 "is_row" ["thing"] spIsRow) : FnAt P w K mg base 4 "has_table_shape" ["thing"] spShape := by
  refine FnAt.of D sc_shape (fun vs H Q E h => ?_) (fun f cdv A outer s H vs Q E hr h => ?_)
  · obtain ⟨t, prs, rfl, _⟩ := h
    rfl
  · obtain ⟨t, prs, rfl, hT, ⟨hn, hw⟩, q⟩ := h
    obtain ⟨tk, mr⟩ := T.mr
    have nd1 : (["row"] : List Str).Nodup := by decide +kernel
    have nd2 : (["row", "thing"] : List Str).Nodup := by decide +kernel
    refine ⟨_, pss_cons (ps_if (PW.pt (pw_or (pt_not (pt_val (pe_b call_isinst T.isinst boot_isinstance (pa_cons (pv 0) (pa_cons (pe_ty T.list boot_list) pa_nil)))))
        (pw_or1 (pt_not (pt_chain op_le op_le pe_int (pe_b call_len_seq T.len boot_len (pa_cons (pv 0) pa_nil)) (pe_glob (v := .int 6) rfl mr ⟨_, rfl⟩)))))) (pss_one (ps_ret pe_bl)) pss_nil)
      (pss_cons (ps_if (pt_not (pt_val (pe_b (call_all rfl) T.all boot_all (pa_cons (pe_comp ["row"] [none] (defScope dShape) ["thing", "row"] rfl (pi_list (pv 0)) (by decide +kernel)
        (fun cl C s2 H2 ex => pg_c 0 nd1) (fun cl C s2 H2 ex => pifs_nil) (fun cl C s2 H2 ex => pe_f G hr (pa_cons (pv 0) pa_nil))) pa_nil)))) (pss_one (ps_ret pe_bl)) pss_nil)
      (pss_one (ps_ret (pe_b (call_all rfl) T.all boot_all (pa_cons (pe_comp ["row", "thing"] [none, some 0] (defScope dShape) ["thing", "row"] rfl (pi_list (pv 0)) (by decide +kernel)
        (fun cl C s2 H2 ex => pg_c 0 nd2) (fun cl C s2 H2 ex => pifs_nil)
        (fun cl C s2 H2 ex => pe_cmpR op_eq (pe_b (lenK K) T.len boot_len (pa_cons (pv 0) pa_nil)) (pe_b (lenK K) T.len boot_len (pa_cons (pe_ix (ixL K) (pv 1) pe_int (fun _ _ => rfl)) pa_nil)) (nomark _))) pa_nil))))), ?_⟩
    refine ⟨_, rfl, _, _, _, _, rfl, .lst hT.l, kit_ll _, _, rfl, iteF ⟨_, rfl, t, _, rfl, .inl hT.sq, 1, _, rfl, rfl, _, rfl, ?_⟩⟩
    rw [List.length_map]
    have bad : ¬ (1 ≤ prs.length ∧ prs.length ≤ 6) → shB prs = false := fun z => by
      unfold shB
      rw [← Bool.decide_and, decide_eq_false z]
      rfl
    refine ite2 (fun h1 => ?_) (fun h1 => ?_)
    · have h1 := of_decide_eq_true h1
      refine ⟨_, _, rfl, rfl, _, rfl, ?_⟩
      by_cases h2 : prs.length ≤ 6
      · rw [decide_eq_true (show (prs.length : Int) ≤ 6 by omega)]
        refine iteF ?_
        refine ⟨_, rfl, t, rfl, ⟨_, hT.sq⟩, comp_map (fun p => V.ref p.1) (fun p => .bl (rowB p.2)) hT.sq (sl6 hn) (fun p hp H' Q' sm q' => ?_) fun D H' hD sm hDl => ?_⟩
        · exact ⟨_, rfl, p.1, p.2, rfl, (hT.r p hp).same sm, hw p hp, q'⟩
        · refine ⟨D, prs.map fun p => rowB p.2, rfl, SqL.of (by rw [hDl, map_bl]), _, rfl, ?_⟩
          cases e1 : (prs.map fun p => rowB p.2).all id with
          | false =>
            refine iteT ?_
            have e : shB prs = false := by
              unfold shB
              rw [e1]
              simp
            have q1 := q H' sm
            rw [e] at q1
            exact q1
          | true =>
            refine iteF ?_
            have hT1 := hT.same sm
            obtain ⟨p0, hp0, hm0, hx0⟩ := head_at (prs := prs) (by omega)
            have hw0 : w0 prs = p0.2.length := by
              unfold w0
              rw [hp0]
              rfl
            refine ⟨_, rfl, t, rfl, ⟨_, hT1.sq⟩, comp_map (fun p => V.ref p.1) (fun p => .bl (decide (p.2.length = w0 prs))) hT1.sq (sl6 hn) (fun p hp H2 Q' sm2 q' => ?_) fun D2 H2 hD2 sm2 hDl2 => ?_⟩
            · have hT2 := hT1.same sm2
              refine ⟨_, rfl, p.1, _, rfl, .inl (hT2.r p hp).sq, _, rfl, t, _, 0, .ref p0.1, rfl, rfl, hT2.sq, atI_nat (j := 0) (by rw [List.getElem?_map, hx0]; rfl), p0.1, _, rfl, .inl (hT2.r p0 hm0).sq, rfl, ?_⟩
              rw [List.length_map, List.length_map, dec_nat, ← hw0]
              exact q' _ (Same.refl _)
            · refine ⟨D2, prs.map fun p => decide (p.2.length = w0 prs), rfl, SqL.of (by rw [hDl2, map_bl]), ?_⟩
              have q1 := q H2 (sm.trans sm2)
              unfold shB at q1
              rw [e1, decide_eq_true (show 1 ≤ prs.length by omega), decide_eq_true h2] at q1
              exact q1
      · rw [decide_eq_false (show ¬ (prs.length : Int) ≤ 6 by omega)]
        refine iteT ?_
        have q1 := q H (Same.refl _)
        rw [bad (by omega)] at q1
        exact q1
    · refine ⟨_, rfl, iteT ?_⟩
      have q1 := q H (Same.refl _)
      rw [bad (by
        intro z
        exact h1 (decide_eq_true (by omega)))] at q1
      exact q1
def spAtPlace : Sp := fun vs H Q _ => ∃ (t : Addr) (prs : Prs) (j : Nat), vs = [.ref t, .int j] ∧ Tab H t prs ∧ prs.length ≤ 1000 ∧ (∀ p ∈ prs, j < p.2.length) ∧ ∀ D H', H D = none → Same H H' → Row H' D (col prs j) → Q (.ref D) H'
theorem sc_atPlace : FnScope ["table", "place"] ["table", "place"] (defScope dAtPlace) := ⟨rfl, rfl, rfl, by decide +kernel, rfl, by decide +kernel, by decide +kernel⟩
theorem ok_atPlace (D : DefAt K mg "numbers_at_place" dAtPlace ["table", "place"]) : FnAt P w K mg base 1 "numbers_at_place" ["table", "place"] spAtPlace := by
  refine FnAt.of D sc_atPlace (fun vs H Q E h => ?_) (fun f cdv A outer s H vs Q E hr h => ?_)
  · obtain ⟨t, prs, j, rfl, _⟩ := h
    rfl
  · obtain ⟨t, prs, j, rfl, hT, hn, hj, q⟩ := h
    have nd1 : (["row", "place"] : List Str).Nodup := by decide +kernel
    refine ⟨_, pss_one (ps_ret (pe_comp ["row", "place"] [none, some 1] (defScope dAtPlace) ["table", "place"] rfl (pi_list (pv 0)) (by decide +kernel)
        (fun cl C s2 H2 ex => pg_c 0 nd1) (fun cl C s2 H2 ex => pifs_nil) (fun cl C s2 H2 ex => pe_ix (ixL K) (pv 0) (pv 1) (fun _ _ => rfl)))), ?_⟩
    refine ⟨_, rfl, t, rfl, ⟨_, hT.sq⟩, comp_map (fun p => V.ref p.1) (fun p => .int (p.2.getD j 0)) hT.sq (sl6 hn) (fun p hp H' Q' sm q' => ?_) fun D H' hD sm hDl => ?_⟩
    · exact ⟨_, rfl, _, rfl, p.1, _, _, _, rfl, rfl, ((hT.r p hp).same sm).sq, at_row (hj p hp), q' _ (Same.refl _)⟩
    · refine q D H' hD sm ?_
      unfold Row col
      rw [hDl, List.map_map]
      rfl
def spSorted : Sp := fun vs H Q _ => ∃ (t : Addr) (prs : Prs), vs = [.ref t] ∧ Tab H t prs ∧ Sm prs ∧ 1 ≤ prs.length ∧ (∀ p ∈ prs, p.2.length = w0 prs) ∧ ∀ H', Same H H' → Q (.bl (srB prs)) H'
theorem sc_sorted : FnScope ["table", "row", "place"] ["table"] (defScope dSorted) := ⟨rfl, rfl, rfl, by decide +kernel, rfl, by decide +kernel, by decide +kernel⟩
theorem ok_sorted (T : Blt mg) (D : DefAt K mg "is_sorted_both_ways" dSorted ["table"]) (G : FnAt P w K mg base 1 "never_falls" ["numbers"] spNF) (G2 : FnAt P w K mg base 1 "numbers_at_place" ["table", "place"] spAtPlace) : FnAt P w K mg base 2 "is_sorted_both_ways" ["table"] spSorted := by
  refine FnAt.of D sc_sorted (fun vs H Q E h => ?_) (fun f cdv A outer s H vs Q E hr h => ?_)
  · obtain ⟨t, prs, rfl, _⟩ := h
    rfl
  · obtain ⟨t, prs, rfl, hT, ⟨hn, hw⟩, h1, hv, q⟩ := h
    have nd1 : (["row"] : List Str).Nodup := by decide +kernel
    have nd2 : (["place", "table"] : List Str).Nodup := by decide +kernel
    obtain ⟨p0, hp0, hm0, hx0⟩ := head_at (prs := prs) h1
    have hw0 : w0 prs = p0.2.length := (hv p0 hm0).symm
    refine ⟨_, pss_cons (ps_if (pt_not (pt_val (pe_b (call_all rfl) T.all boot_all (pa_cons (pe_comp ["row"] [none] (defScope dSorted) ["table", "row", "place"] rfl (pi_list (pv 0)) (by decide +kernel)
        (fun cl C s2 H2 ex => pg_c 0 nd1) (fun cl C s2 H2 ex => pifs_nil) (fun cl C s2 H2 ex => pe_f G hr (pa_cons (pv 0) pa_nil))) pa_nil)))) (pss_one (ps_ret pe_bl)) pss_nil)
      (pss_one (ps_ret (pe_b (call_all rfl) T.all boot_all (pa_cons (pe_comp ["place", "table"] [none, some 0] (defScope dSorted) ["table", "row", "place"] rfl
        (pi_range1 rfl T.rng (pa_cons (pe_b call_len_seq T.len boot_len (pa_cons (pe_ix ix_list (pv 0) pe_int (fun _ _ => rfl)) pa_nil)) pa_nil)) (by decide +kernel)
        (fun cl C s2 H2 ex => pg_c 0 nd2) (fun cl C s2 H2 ex => pifs_nil)
        (fun cl C s2 H2 ex => pe_f G hr (pa_cons (pe_f G2 hr (pa_cons (pv 1) (pa_cons (pv 0) pa_nil))) pa_nil))) pa_nil)))), ?_⟩
    refine ⟨_, rfl, t, rfl, ⟨_, hT.sq⟩, comp_map (fun p => V.ref p.1) (fun p => .bl (nfB p.2)) hT.sq (sl6 hn) (fun p hp H' Q' sm q' => ?_) fun D H' hD sm hDl => ?_⟩
    · exact ⟨_, rfl, p.1, p.2, rfl, (hT.r p hp).same sm, hw p hp, q'⟩
    · refine ⟨D, prs.map fun p => nfB p.2, rfl, SqL.of (by rw [hDl, map_bl]), _, rfl, ?_⟩
      cases e1 : (prs.map fun p => nfB p.2).all id with
      | false =>
        refine iteT ?_
        have q1 := q H' sm
        unfold srB at q1
        rw [e1] at q1
        exact q1
      | true =>
        refine iteF ?_
        have hT1 := hT.same sm
        refine ⟨_, rfl, t, _, 0, .ref p0.1, rfl, rfl, hT1.sq, atI_nat (j := 0) (by rw [List.getElem?_map, hx0]; rfl), p0.1, _, rfl, .inl (hT1.r p0 hm0).sq, _, rfl, ?_, ?_, ?_⟩
        · omega
        · have := hw p0 hm0
          rw [List.length_map]
          omega
        · rw [List.length_map, ← hw0, Int.toNat_natCast]
          have hb : w0 prs ≤ 1000 := by rw [hw0]; exact hw p0 hm0
          refine comp_range (fun j => .bl (nfB (col prs j))) (sl6 hb) (fun j hj H2 Q' sm2 q' => ?_) fun D2 H2 hD2 sm2 hDl2 => ?_
          · have hT2 := hT1.same sm2
            refine ⟨_, rfl, _, rfl, t, prs, j, by rw [Int.zero_add], hT2, hn, fun p hp => by rw [hv p hp]; exact hj, fun D3 H3 hD3 sm3 r3 => ⟨D3, col prs j, rfl, r3, ?_, fun H4 sm4 => q' H4 (sm3.trans sm4)⟩⟩
            unfold col
            rw [List.length_map]
            exact hn
          · refine ⟨D2, (List.range (w0 prs)).map fun j => nfB (col prs j), rfl, SqL.of (by rw [hDl2, map_bl]), ?_⟩
            have q1 := q H2 (sm.trans sm2)
            unfold srB at q1
            rw [e1] at q1
            exact q1
def spIsTable : Sp := fun vs H Q _ => ∃ (t : Addr) (prs : Prs), vs = [.ref t] ∧ Tab H t prs ∧ Sm prs ∧ ∀ H', Same H H' → Q (.bl (tabB prs)) H'
theorem sc_isTable : FnScope ["thing"] ["thing"] (defScope dIsTable) := ⟨rfl, rfl, rfl, by decide +kernel, rfl, by decide +kernel, by decide +kernel⟩
theorem shB_of {prs : Prs} (h : shB prs = true) : 1 ≤ prs.length ∧ prs.length ≤ 6 ∧ (∀ p ∈ prs, 1 ≤ p.2.length ∧ p.2.length ≤ 6) ∧ ∀ p ∈ prs, p.2.length = w0 prs := by
  unfold shB rowB at h
  simp only [Bool.and_eq_true, decide_eq_true_eq, List.all_eq_true, List.mem_map, id] at h
  obtain ⟨⟨h1, h2⟩, h3, h4⟩ := h
  exact ⟨h1, h2, fun p hp => by simpa using h3 _ ⟨p, hp, rfl⟩, fun p hp => by simpa using h4 _ ⟨p, hp, rfl⟩⟩
theorem ok_isTable (D : DefAt K mg "is_table" dIsTable ["thing"]) (G : FnAt P w K mg base 4 "has_table_shape" ["thing"] spShape) (G2 : FnAt P w K mg base 2 "is_sorted_both_ways" ["table"] spSorted) : FnAt P w K mg base 5 "is_table" ["thing"] spIsTable := by
  refine FnAt.of D sc_isTable (fun vs H Q E h => ?_) (fun f cdv A outer s H vs Q E hr h => ?_)
  · obtain ⟨t, prs, rfl, _⟩ := h
    rfl
  · obtain ⟨t, prs, rfl, hT, hs, q⟩ := h
    refine ⟨_, pss_one (ps_ret (pe_and (pe_f G hr (pa_cons (pv 0) pa_nil)) (pe_one (pe_f G2 (hr.mono (by decide)) (pa_cons (pv 0) pa_nil))))), ?_⟩
    refine ⟨_, rfl, t, prs, rfl, hT, hs, fun H' sm => ⟨_, rfl, ?_⟩⟩
    cases e : shB prs with
    | false =>
      refine iteF ?_
      have q1 := q H' sm
      unfold tabB at q1
      rw [e] at q1
      exact q1
    | true =>
      obtain ⟨a1, a2, a3, a4⟩ := shB_of e
      refine iteT ⟨_, rfl, t, prs, rfl, hT.same sm, hs, a1, a4, fun H2 sm2 => ?_⟩
      have q1 := q H2 (sm.trans sm2)
      unfold tabB at q1
      rw [e] at q1
      exact q1
def spNeedTable : Sp := fun vs H Q _ => ∃ (t : Addr) (prs : Prs), vs = [.ref t] ∧ Tab H t prs ∧ Sm prs ∧ tabB prs = true ∧ ∀ H', Same H H' → Q .non H'
theorem sc_needTable : FnScope ["thing"] ["thing"] (defScope dNeedTable) := ⟨rfl, rfl, rfl, by decide +kernel, rfl, by decide +kernel, by decide +kernel⟩
theorem ok_needTable (D : DefAt K mg "need_table" dNeedTable ["thing"]) (G : FnAt P w K mg base 5 "is_table" ["thing"] spIsTable) : FnAt P w K mg base 6 "need_table" ["thing"] spNeedTable := by
  refine FnAt.of D sc_needTable (fun vs H Q E h => ?_) (fun f cdv A outer s H vs Q E hr h => ?_)
  · obtain ⟨t, prs, rfl, _⟩ := h
    rfl
  · obtain ⟨t, prs, rfl, hT, hs, hg, q⟩ := h
    refine ⟨_, pss_one (ps_if (pt_not (pt_val (pe_f G hr (pa_cons (pv 0) pa_nil)))) pss_never pss_nil), ?_⟩
    refine ⟨_, rfl, t, prs, rfl, hT, hs, fun H' sm => ⟨_, rfl, ?_⟩⟩
    rw [hg]
    exact iteF (q H' sm)
def spNeedNumber : Sp := fun vs H Q _ => ∃ i : Int, vs = [.int i] ∧ Q .non H
theorem sc_needNumber : FnScope ["thing"] ["thing"] (defScope dNeedNumber) := ⟨rfl, rfl, rfl, by decide +kernel, rfl, by decide +kernel, by decide +kernel⟩
theorem ok_needNumber (D : DefAt K mg "need_number" dNeedNumber ["thing"]) (G : FnAt P w K mg base 1 "is_whole" ["thing"] spIsWhole) : FnAt P w K mg base 2 "need_number" ["thing"] spNeedNumber := by
  refine FnAt.of D sc_needNumber (fun vs H Q E h => ?_) (fun f cdv A outer s H vs Q E hr h => ?_)
  · obtain ⟨i, rfl, _⟩ := h
    rfl
  · obtain ⟨i, rfl, q⟩ := h
    refine ⟨_, pss_one (ps_if (pt_not (pt_val (pe_f G hr (pa_cons (pv 0) pa_nil)))) pss_never pss_nil), ?_⟩
    exact ⟨_, rfl, i, rfl, _, rfl, iteF q⟩
end
def nfP (ns : List Int) : Prop := ∀ i, i + 1 < ns.length → ns.getD i 0 ≤ ns.getD (i + 1) 0
theorem nfB_iff {ns : List Int} : nfB ns = true ↔ nfP ns := by
  unfold nfB nfP
  simp only [List.all_map, List.all_eq_true, List.mem_range, Function.comp, id, decide_eq_true_eq]
  constructor
  · intro h i hi
    exact h i (by omega)
  · intro h i hi
    exact h i (by omega)
def rowAt (prs : Prs) (i : Nat) : List Int := ((prs[i]?).map (·.2)).getD []
theorem rowAt_mem {prs : Prs} {i : Nat} (h : i < prs.length) : ∃ p ∈ prs, prs[i]? = some p ∧ rowAt prs i = p.2 := by
  refine ⟨prs[i], List.getElem_mem h, by simp [h], ?_⟩
  unfold rowAt
  rw [List.getElem?_eq_getElem h]
  rfl
theorem col_len (prs : Prs) (j : Nat) : (col prs j).length = prs.length := by
  unfold col
  rw [List.length_map]
theorem col_at {prs : Prs} {i j : Nat} (h : i < prs.length) : (col prs j).getD i 0 = (rowAt prs i).getD j 0 := by
  unfold col rowAt
  rw [List.getD_eq_getElem?_getD, List.getElem?_map, List.getElem?_eq_getElem h]
  rfl
structure GoodP (wide : Nat) (prs : Prs) : Prop where
  len : ∀ p ∈ prs, p.2.length = wide
  row : ∀ p ∈ prs, nfP p.2
  down : ∀ i, i + 1 < prs.length → ∀ j, j < wide → (rowAt prs i).getD j 0 ≤ (rowAt prs (i + 1)).getD j 0
theorem w0_of {wide : Nat} {prs : Prs} (h : 1 ≤ prs.length) (hl : ∀ p ∈ prs, p.2.length = wide) : w0 prs = wide := by
  obtain ⟨p, h1, h2, _⟩ := head_at h
  unfold w0
  rw [h1]
  exact hl p h2
theorem tabB_of {wide : Nat} {prs : Prs} (g : GoodP wide prs) (h1 : 1 ≤ prs.length) (h2 : prs.length ≤ 6) (h3 : 1 ≤ wide) (h4 : wide ≤ 6) : tabB prs = true := by
  have hw := w0_of h1 g.len
  unfold tabB shB srB rowB
  simp only [Bool.and_eq_true, decide_eq_true_eq, List.all_eq_true, List.mem_map, id]
  refine ⟨⟨⟨h1, h2⟩, ?_, ?_⟩, ?_, ?_⟩
  · rintro b ⟨p, hp, rfl⟩
    have := g.len p hp
    simp only [Bool.and_eq_true, decide_eq_true_eq]
    omega
  · rintro b ⟨p, hp, rfl⟩
    rw [decide_eq_true_eq, hw]
    exact g.len p hp
  · rintro b ⟨p, hp, rfl⟩
    exact nfB_iff.mpr (g.row p hp)
  · rintro b ⟨j, hj, rfl⟩
    rw [List.mem_range, hw] at hj
    refine nfB_iff.mpr fun i hi => ?_
    rw [col_len] at hi
    rw [col_at (by omega), col_at hi]
    exact g.down i hi j hj
theorem good_of {prs : Prs} (h : tabB prs = true) : GoodP (w0 prs) prs ∧ 1 ≤ prs.length ∧ prs.length ≤ 6 ∧ 1 ≤ w0 prs ∧ w0 prs ≤ 6 := by
  unfold tabB at h
  rw [Bool.and_eq_true] at h
  obtain ⟨h1, h2, h3, h4⟩ := shB_of h.1
  obtain ⟨p, e1, e2, _⟩ := head_at h1
  have h5 := h3 p e2
  have h6 := h4 p e2
  have hs := h.2
  unfold srB at hs
  simp only [Bool.and_eq_true, List.all_eq_true, List.mem_map, id] at hs
  refine ⟨⟨h4, fun p hp => nfB_iff.mp (hs.1 _ ⟨p, hp, rfl⟩), fun i hi j hj => ?_⟩, h1, h2, by omega, by omega⟩
  have := nfB_iff.mp (hs.2 _ ⟨j, List.mem_range.mpr hj, rfl⟩) i (by rw [col_len]; exact hi)
  rw [col_at (by omega), col_at hi] at this
  exact this
theorem getD_push {ns : List Int} {v : Int} {i : Nat} : (ns ++ [v]).getD i 0 = if i < ns.length then ns.getD i 0 else if i = ns.length then v else 0 := by
  rw [List.getD_eq_getElem?_getD, List.getD_eq_getElem?_getD]
  by_cases h : i < ns.length
  · rw [if_pos h, List.getElem?_append_left h]
  · rw [if_neg h, List.getElem?_append_right (by omega)]
    by_cases h2 : i = ns.length
    · subst h2
      simp
    · rw [if_neg h2, List.getElem?_eq_none (by simp; omega)]
      rfl
theorem nfP_push {ns : List Int} {v : Int} (h : nfP ns) (hl : ∀ k, k + 1 = ns.length → ns.getD k 0 ≤ v) : nfP (ns ++ [v]) := fun i hi => by
  rw [List.length_append, List.length_singleton] at hi
  rw [getD_push, getD_push, if_pos (by omega)]
  by_cases h2 : i + 1 < ns.length
  · rw [if_pos h2]
    exact h i h2
  · rw [if_neg h2, if_pos (by omega)]
    exact hl i (by omega)
theorem rowAt_push {prs : Prs} {p : Addr × List Int} {i : Nat} (h : i ≤ prs.length) : rowAt (prs ++ [p]) i = if i < prs.length then rowAt prs i else p.2 := by
  unfold rowAt
  by_cases h2 : i < prs.length
  · rw [if_pos h2, List.getElem?_append_left h2]
  · have : i = prs.length := by omega
    subst this
    rw [if_neg h2]
    simp
theorem good_push {wide : Nat} {prs : Prs} {a : Addr} {cur : List Int} (g : GoodP wide prs) (hl : cur.length = wide) (hn : nfP cur) (hd : prs.length = 0 ∨ ∀ j, j < wide → (rowAt prs (prs.length - 1)).getD j 0 ≤ cur.getD j 0) : GoodP wide (prs ++ [(a, cur)]) where
  len := fun p hp => by
    rcases List.mem_append.mp hp with z | z
    · exact g.len p z
    · have : p = (a, cur) := by simpa using z
      subst this
      exact hl
  row := fun p hp => by
    rcases List.mem_append.mp hp with z | z
    · exact g.row p z
    · have : p = (a, cur) := by simpa using z
      subst this
      exact hn
  down := fun i hi j hj => by
    rw [List.length_append, List.length_singleton] at hi
    rw [rowAt_push (by omega), rowAt_push (by omega), if_pos (by omega)]
    by_cases h2 : i + 1 < prs.length
    · rw [if_pos h2]
      exact g.down i h2 j hj
    · rw [if_neg h2]
      rcases hd with z | z
      · omega
      · have := z j hj
        rw [show prs.length - 1 = i by omega] at this
        exact this
theorem at_mem {ns : List Int} {d : Int} (h0 : 0 ≤ d) (h1 : d < ns.length) : ∃ r ∈ ns, atI (ns.map V.int) d = some (.int r) := by
  obtain ⟨k, rfl⟩ : ∃ k : Nat, d = k := ⟨d.toNat, by omega⟩
  have hk : k < ns.length := by omega
  exact ⟨ns[k], List.getElem_mem hk, atI_nat (by simp [hk])⟩
theorem atI_last {α : Type} {xs : List α} {v : α} (h : xs[xs.length - 1]? = some v) : atI xs (-1) = some v := by
  have hl : 0 < xs.length := by
    have := (List.getElem?_eq_some_iff.mp h).1
    omega
  unfold atI ixN
  rw [if_neg (by decide), if_pos (by omega)]
  show xs[((-1 : Int) + (xs.length : Int)).toNat]? = some v
  rw [show ((-1 : Int) + (xs.length : Int)).toNat = xs.length - 1 by omega]
  exact h
def dRow (ns : List Int) : PyData := .list (ns.map PyData.int)
def dTab (rows : List (List Int)) : PyData := .list (rows.map dRow)
theorem rdAll_ints {K : PySem.W.Frag} {H : Hp} : ∀ ns : List Int, RdAll K H (ns.map V.int) (ns.map PyData.int)
  | [] => .nil
  | n :: r => .cons (.int n) (rdAll_ints r)
theorem Row.rd {K : PySem.W.Frag} {H : Hp} {a : Addr} {ns : List Int} (h : Row H a ns) : RdD K H (.ref a) (dRow ns) := .lst h.sq (rdAll_ints ns)
theorem rdAll_rows {K : PySem.W.Frag} {H : Hp} : ∀ prs : Prs, (∀ p ∈ prs, Row H p.1 p.2) → RdAll K H (prs.map fun p => V.ref p.1) ((prs.map (·.2)).map dRow)
  | [], _ => .nil
  | p :: r, h => .cons (h p (by simp)).rd (rdAll_rows r fun q hq => h q (by simp [hq]))
theorem Tab.rd {K : PySem.W.Frag} {H : Hp} {t : Addr} {prs : Prs} (h : Tab H t prs) : RdD K H (.ref t) (dTab (prs.map (·.2))) := .lst h.sq (rdAll_rows prs h.r)
theorem lay_ints : ∀ ns : List Int, PyData.canLayAll0 (ns.map PyData.int) = true ∧ PyData.depthAll (ns.map PyData.int) ≤ 0
  | [] => by simp [PyData.canLayAll0, PyData.depthAll]
  | n :: r => by
    have h := lay_ints r
    simp only [List.map_cons, PyData.canLayAll0, PyData.canLay0, PyData.depthAll, PyData.depth, h.1, Bool.and_self, true_and]
    have := h.2
    omega
theorem lay_rows : ∀ rows : List (List Int), PyData.canLayAll0 (rows.map dRow) = true ∧ PyData.depthAll (rows.map dRow) ≤ 1
  | [] => by simp [PyData.canLayAll0, PyData.depthAll]
  | ns :: r => by
    have h := lay_rows r
    have h2 := lay_ints ns
    simp only [List.map_cons, dRow, PyData.canLayAll0, PyData.canLay0, PyData.depthAll, PyData.depth, h2.1]
    have a1 := h.2
    have a2 := h2.2
    refine ⟨by rw [Bool.true_and]; exact h.1, ?_⟩
    show max (PyData.depthAll (ns.map PyData.int) + 1) (PyData.depthAll (r.map dRow)) ≤ 1
    omega
theorem shaped_row (ns : List Int) : SeqAt.shaped (dRow ns) = true := by
  have h := lay_ints ns
  have h2 := h.2
  show (PyData.canLay0 (.list (ns.map PyData.int)) && decide (PyData.depth (.list (ns.map PyData.int)) ≤ 64)) = true
  rw [Bool.and_eq_true]
  exact ⟨by simp only [PyData.canLay0]; exact h.1, decide_eq_true (by simp only [PyData.depth]; omega)⟩
theorem shaped_tab (rows : List (List Int)) : SeqAt.shaped (dTab rows) = true := by
  have h := lay_rows rows
  have h2 := h.2
  show (PyData.canLay0 (.list (rows.map dRow)) && decide (PyData.depth (.list (rows.map dRow)) ≤ 64)) = true
  rw [Bool.and_eq_true]
  exact ⟨by simp only [PyData.canLay0]; exact h.1, decide_eq_true (by simp only [PyData.depth]; omega)⟩
theorem eqv_ints : ∀ ns : List Int, PyData.eqvAll (ns.map PyData.int) (ns.map PyData.int) = true
  | [] => by simp [PyData.eqvAll]
  | n :: r => by simp [PyData.eqvAll, PyData.eqv, eqv_ints r]
theorem eqv_row (ns : List Int) : PyData.eqv (dRow ns) (dRow ns) = true := by
  unfold dRow
  simp only [PyData.eqv]
  exact eqv_ints ns
theorem eqv_rows : ∀ rows : List (List Int), PyData.eqvAll (rows.map dRow) (rows.map dRow) = true
  | [] => by simp [PyData.eqvAll]
  | n :: r => by simp [PyData.eqvAll, eqv_row n, eqv_rows r]
theorem eqv_tab (rows : List (List Int)) : PyData.eqv (dTab rows) (dTab rows) = true := by
  unfold dTab
  simp only [PyData.eqv]
  exact eqv_rows rows
theorem at_pr_last {prs : Prs} (h : 1 ≤ prs.length) : ∃ p ∈ prs, atI (prs.map fun p => V.ref p.1) (-1) = some (.ref p.1) := by
  have hk : prs.length - 1 < prs.length := by omega
  refine ⟨prs[prs.length - 1], List.getElem_mem hk, atI_last ?_⟩
  rw [List.length_map, List.getElem?_map, List.getElem?_eq_getElem hk]
  rfl
theorem inV_no {α : Type} (xs : List α) : inV (.bl true) (xs.map fun _ => V.bl false) = false := by
  unfold inV
  simp [eqV]
theorem flat_no {α : Type} (xs : List α) : (xs.map fun _ => V.bl false).all flatV = true := by
  simp [flatV]
theorem good_bounds {prs : Prs} (h : tabB prs = true) : Sm prs := by
  obtain ⟨g, h1, h2, h3, h4⟩ := good_of h
  exact ⟨by omega, fun p hp => by rw [g.len p hp]; omega⟩
theorem tabB_rows {prs prs' : Prs} (h : prs'.map (·.2) = prs.map (·.2)) : tabB prs' = tabB prs := by
  have hl : prs'.length = prs.length := by
    have := congrArg List.length h
    simpa using this
  have hm : ∀ (f : List Int → Bool), (prs'.map fun p => f p.2) = (prs.map fun p => f p.2) := fun f => by
    have := congrArg (List.map f) h
    rw [List.map_map, List.map_map] at this
    exact this
  have hm2 : ∀ (f : List Int → Int), (prs'.map fun p => f p.2) = (prs.map fun p => f p.2) := fun f => by
    have := congrArg (List.map f) h
    rw [List.map_map, List.map_map] at this
    exact this
  have hw : w0 prs' = w0 prs := by
    have := congrArg (fun l : List (List Int) => (l.head?.map List.length).getD 0) h
    simp only [List.head?_map, Option.map_map] at this
    exact this
  have hc : ∀ j, col prs' j = col prs j := fun j => hm2 fun ns => ns.getD j 0
  unfold tabB shB srB
  rw [hl, hw, hm rowB, hm fun ns => decide (ns.length = w0 prs), hm nfB]
  simp only [hc]
section
variable {P : Program} {w : World} {K : PySem.W.Frag} {mg : Str → Option Value} {base : Heap}
end
def StK (H : Hp) (s : Addr) : Prop := ∃ g b c : Int, H s = some (.lst [.int g, .int b, .int c])
def But (s : Addr) (H H' : Hp) : Prop := ∀ b o, b ≠ s → H b = some o → H' b = some o
theorem But.refl (s : Addr) (H : Hp) : But s H H := fun _ _ _ e => e
theorem But.trans {s : Addr} {H H1 H2 : Hp} (a : But s H H1) (b : But s H1 H2) : But s H H2 := fun c o n e => b c o n (a c o n e)
theorem Same.but {s : Addr} {H H' : Hp} (a : Same H H') : But s H H' := fun c o _ e => a c o e
theorem StK.same {H H' : Hp} {s : Addr} (e : Same H H') (h : StK H s) : StK H' s := let ⟨g, b, c, h⟩ := h; ⟨g, b, c, e _ _ h⟩
theorem StK.ne {H : Hp} {s a : Addr} (h : StK H s) (n : H a = none) : s ≠ a := let ⟨_, _, _, h⟩ := h; ne_of_none h n
theorem But.free {s a : Addr} {H H' : Hp} (b : But s H H') (S : StK H' s) (h : H' a = none) : H a = none := by
  cases e : H a with
  | none => rfl
  | some o =>
    by_cases hz : a = s
    · obtain ⟨_, _, _, z⟩ := S
      rw [hz, z] at h
      cases h
    · rw [b a o hz e] at h
      cases h
theorem Row.but {H H' : Hp} {s a : Addr} {ns : List Int} (r : Row H a ns) (n : a ≠ s) (e : But s H H') : Row H' a ns := e _ _ n r
theorem Tab.but {H H' : Hp} {s t : Addr} {prs : Prs} (r : Tab H t prs) (n : t ≠ s) (ns : ∀ p ∈ prs, p.1 ≠ s) (e : But s H H') : Tab H' t prs := ⟨e _ _ n r.l, fun p hp => (r.r p hp).but (ns p hp) e⟩
theorem len0 : 0 ≤ sizeLine := Nat.zero_le _
theorem len1 : 1 ≤ sizeLine := by decide
theorem len2 : 2 ≤ sizeLine := by decide
theorem len3 : 3 ≤ sizeLine := by decide
theorem len4 : 4 ≤ sizeLine := by decide
theorem len5 : 5 ≤ sizeLine := by decide
theorem len6 : 6 ≤ sizeLine := by decide
theorem Row.new {H : Hp} {D : Addr} : Row (upd H D (.lst [])) D [] := upd_same
theorem Row.push {H : Hp} {D : Addr} {ds : List Int} {v : Int} : Row (upd H D (.lst (ds.map V.int ++ [.int v]))) D (ds ++ [v]) := by
  unfold Row
  rw [upd_same, List.map_append]
  rfl
section
variable {P : Program} {w : World} {K : PySem.W.Frag} {mg : Str → Option Value} {base : Heap}
def spLCell (K : PySem.W.Frag) : Sp := fun vs H Q _ => ∃ (a : Addr) (ns : List Int) (k : Nat), vs = [.ref a, .int (k : Nat)] ∧ SqL K H a (ns.map V.int) ∧ k ≤ 100 ∧ ∀ c, Q (.int c) H
theorem sc_lcell : FnScope ["script", "k"] ["script", "k"] (defScope dLCell) := ⟨rfl, rfl, rfl, by decide +kernel, rfl, by decide +kernel, by decide +kernel⟩
theorem ok_lcell (T : Blt mg) (D : DefAt K mg "_law_cell" dLCell ["script", "k"]) : FnAt P w K mg base 1 "_law_cell" ["script", "k"] (spLCell K) := by
  refine FnAt.of D sc_lcell (fun vs H Q E h => ?_) (fun f cdv A outer s H vs Q E hr h => ?_)
  · obtain ⟨a, ns, k, rfl, _⟩ := h
    rfl
  · obtain ⟨a, ns, k, rfl, hS, hk, q⟩ := h
    refine ⟨_, pss_cons (ps_if (pt_cmpR o_lt (pv 1) (pe_b call_len_seq T.len boot_len (pa_cons (pv 0) pa_nil)) (nomark _)) (pss_one (ps_ret (pe_ix ix_list (pv 0) (pv 1) (fun _ _ => rfl)))) pss_nil)
      (pss_one (ps_ret (pe_op o_add (pe_op o_add (pe_op o_mul (pe_op o_mul pe_int (pv 1)) (pv 1)) (pe_op o_mul pe_int (pv 1))) pe_int))), ?_⟩
    refine ⟨_, rfl, _, rfl, a, _, rfl, .inl hS, _, _, rfl, rfl, _, rfl, ?_⟩
    rw [List.length_map]
    refine ite2 (fun h1 => ?_) (fun h1 => ?_)
    · have h1 := of_decide_eq_true h1
      exact ⟨_, rfl, _, rfl, a, _, _, _, rfl, rfl, hS, at_row (by omega), q _⟩
    · exact ⟨_, rfl, _, _, rfl, rfl, .inl ⟨by decide, by decide⟩, _, rfl, _, _, rfl, rfl, .inr ⟨by omega, by omega⟩, _, rfl, _, _, rfl, rfl, .inl ⟨by decide, by decide⟩, _, _, rfl, rfl, _, _, rfl, rfl, q _⟩
def spStore : Sp := fun vs H Q _ => ∃ c : Int, vs = [.int c] ∧ ∀ s H', H s = none → Same H H' → StK H' s → Q (.ref s) H'
theorem sc_store : FnScope ["cell", "great"] ["cell"] (defScope dStore) := ⟨rfl, rfl, rfl, by decide +kernel, rfl, by decide +kernel, by decide +kernel⟩
theorem ok_store (D : DefAt K mg "_law_store" dStore ["cell"]) : FnAt P w K mg base 1 "_law_store" ["cell"] spStore := by
  refine FnAt.of D sc_store (fun vs H Q E h => ?_) (fun f cdv A outer s H vs Q E hr h => ?_)
  · obtain ⟨c, rfl, _⟩ := h
    rfl
  · obtain ⟨c, rfl, q⟩ := h
    have nd := sc_store.nd
    refine ⟨_, pss_cons (ps_set (i := 1) nd rfl (Or.inl rfl) pe_int) (pss_cons (ps_if (pt_cmpR o_ge (pv 0) (pe_op o_pow pe_int pe_int) (nomark _)) (pss_one (ps_set (i := 1) nd rfl (Or.inl rfl) (pv 0))) pss_nil)
      (pss_one (ps_ret (pe_lst (pa_cons (pv 1) (pa_cons (pe_op o_mod (pv 0) pe_int) (pa_cons pe_int pa_nil))))))), ?_⟩
    refine ⟨_, rfl, _, _, rfl, rfl, ⟨by decide, by decide, by decide⟩, _, _, rfl, rfl, _, rfl, ite2 (fun _ => ?_) (fun _ => ?_)⟩
    · exact ⟨_, rfl, _, rfl, _, rfl, _, _, rfl, rfl, by decide, len3, fun p hp => q p _ hp (Same.new hp) ⟨_, _, _, upd_same⟩⟩
    · exact ⟨_, rfl, _, rfl, _, _, rfl, rfl, by decide, len3, fun p hp => q p _ hp (Same.new hp) ⟨_, _, _, upd_same⟩⟩
def spTakeK : Sp := fun vs H Q _ => ∃ (s : Addr) (m : Int), vs = [.ref s, .int m] ∧ 0 < m ∧ m < 100000 ∧ StK H s ∧ ∀ d H', 0 ≤ d → d < m → But s H H' → StK H' s → Q (.int d) H'
theorem sc_takeK : FnScope ["store", "many", "told", "one"] ["store", "many"] (defScope dTake) := ⟨rfl, rfl, rfl, by decide +kernel, rfl, by decide +kernel, by decide +kernel⟩
set_option maxHeartbeats 16000000 in
theorem ok_takeK (D : DefAt K mg "_law_take" dTake ["store", "many"]) : FnAt P w K mg base 1 "_law_take" ["store", "many"] spTakeK := by
  refine FnAt.of D sc_takeK (fun vs H Q E h => ?_) (fun f cdv A outer s H vs Q E hr h => ?_)
  · obtain ⟨st, m, rfl, _⟩ := h
    rfl
  · obtain ⟨st, m, rfl, hm, hm2, ⟨g, b, c, h1⟩, q⟩ := h
    have nd := sc_takeK.nd
    refine ⟨_, pss_cons (ps_if (pt_cmpR o_gt (pe_ix ix_list (pv 0) pe_int (fun _ _ => rfl)) pe_int (nomark _))
        (pss_cons (ps_set (i := 2) nd rfl (Or.inl rfl) (pe_op o_mod (pe_ix ix_list (pv 0) pe_int (fun _ _ => rfl)) (pv 1)))
        (pss_cons (ps_asg (pe_op o_div (pe_ix ix_list (pv 0) pe_int (fun _ _ => rfl)) (pv 1)) (pg_sub (pv 0) pe_int set_list))
        (pss_one (ps_ret (pv 2))))) pss_nil)
      (pss_cons (ps_asg (pe_op o_add (pe_ix ix_list (pv 0) pe_int (fun _ _ => rfl)) pe_int) (pg_sub (pv 0) pe_int set_list))
      (pss_cons (ps_set (i := 3) nd rfl (Or.inl rfl) (pe_op o_mod (pe_op o_mul (pe_op o_add (pe_ix ix_list (pv 0) pe_int (fun _ _ => rfl)) (pe_op o_mul pe_int (pe_ix ix_list (pv 0) pe_int (fun _ _ => rfl)))) pe_int) pe_int))
      (pss_cons (ps_set (i := 3) nd rfl (Or.inl rfl) (pe_op o_mod (pe_op o_mul (pv 3) (pv 3)) pe_int))
      (pss_cons (ps_set (i := 3) nd rfl (Or.inl rfl) (pe_op o_mod (pe_op o_mul (pe_op o_add (pv 3) (pe_op o_mul pe_int (pe_ix ix_list (pv 0) pe_int (fun _ _ => rfl)))) pe_int) pe_int))
      (pss_one (ps_ret (pe_op o_mod (pe_op o_div (pv 3) pe_int) (pv 1)))))))), ?_⟩
    refine ⟨_, rfl, st, _, 0, .int g, rfl, rfl, SqL.of h1, rfl, _, _, rfl, rfl, _, rfl, ite2 (fun _ => ?_) (fun _ => ?_)⟩
    · refine ⟨_, rfl, st, _, 0, .int g, rfl, rfl, SqL.of h1, rfl, _, rfl, _, _, rfl, rfl, hm, ?_⟩
      refine ⟨_, rfl, st, _, 0, .int g, rfl, rfl, SqL.of h1, rfl, _, rfl, _, _, rfl, rfl, ⟨hm, by omega⟩, _, rfl, st, _, 0, 0, rfl, rfl, h1, rfl, ?_⟩
      refine ⟨_, rfl, q _ _ (Int.emod_nonneg _ (by omega)) (Int.emod_lt_of_pos _ hm) (fun b o n e => by rw [upd_ne n]; exact e) ⟨_, _, _, upd_same⟩⟩
    · refine ⟨_, rfl, st, _, 2, .int c, rfl, rfl, SqL.of h1, rfl, _, _, rfl, rfl, _, rfl, st, _, 2, 2, rfl, rfl, h1, rfl, ?_⟩
      have e1 : (upd H st (.lst ([V.int g, .int b, .int c].set 2 (.int (c + 1))))) st = some (.lst [.int g, .int b, .int (c + 1)]) := upd_same
      have hb : But st H (upd H st (.lst ([V.int g, .int b, .int c].set 2 (.int (c + 1))))) := fun b o n e => by rw [upd_ne n]; exact e
      generalize upd H st (.lst ([V.int g, .int b, .int c].set 2 (.int (c + 1)))) = H1 at e1 hb ⊢
      refine ⟨_, rfl, st, _, 1, .int b, rfl, rfl, SqL.of e1, rfl, _, rfl, st, _, 2, .int (c + 1), rfl, rfl, SqL.of e1, rfl, _, _, rfl, rfl, .inl ⟨by decide, by decide⟩, _, _, rfl, rfl, _, _, rfl, rfl, .inr ⟨by decide, by decide⟩, _, _, rfl, rfl, (by decide), ?_⟩
      generalize (b + 7919 * (c + 1)) * 48271 = z1
      have b1 : 0 ≤ z1 % 2147483647 ∧ z1 % 2147483647 < 2147483647 := ⟨Int.emod_nonneg _ (by decide), Int.emod_lt_of_pos _ (by decide)⟩
      generalize z1 % 2147483647 = o1 at b1 ⊢
      refine ⟨_, rfl, _, rfl, _, _, rfl, rfl, .inl ⟨by omega, by omega⟩, _, _, rfl, rfl, (by decide), ?_⟩
      generalize (o1 * o1) % 2147483629 = o2
      refine ⟨_, rfl, _, rfl, st, _, 2, .int (c + 1), rfl, rfl, SqL.of e1, rfl, _, _, rfl, rfl, .inl ⟨by decide, by decide⟩, _, _, rfl, rfl, _, _, rfl, rfl, .inr ⟨by decide, by decide⟩, _, _, rfl, rfl, (by decide), ?_⟩
      generalize (o2 + 40692 * (c + 1)) * 69621 % 2147483587 = o3
      refine ⟨_, rfl, _, _, rfl, rfl, ⟨by decide, by decide⟩, _, rfl, _, _, rfl, rfl, hm, ?_⟩
      exact q _ _ (Int.emod_nonneg _ (by omega)) (Int.emod_lt_of_pos _ hm) hb ⟨_, _, _, e1⟩
def spFar : Sp := fun vs H Q _ => ∃ (s : Addr) (m : Int), vs = [.ref s, .int m] ∧ 0 < m ∧ m < 1000 ∧ StK H s ∧ ∀ d H', 0 ≤ d → d < 10 ^ m.toNat → But s H H' → StK H' s → Q (.int d) H'
theorem sc_far : FnScope ["store", "figures", "found", "k"] ["store", "figures"] (defScope dFar) := ⟨rfl, rfl, rfl, by decide +kernel, rfl, by decide +kernel, by decide +kernel⟩
theorem ok_far (T : Blt mg) (D : DefAt K mg "_law_far" dFar ["store", "figures"]) (G : FnAt P w K mg base 1 "_law_take" ["store", "many"] spTakeK) : FnAt P w K mg base 2 "_law_far" ["store", "figures"] spFar := by
  refine FnAt.of D sc_far (fun vs H Q E h => ?_) (fun f cdv A outer s H vs Q E hr h => ?_)
  · obtain ⟨st, m, rfl, _⟩ := h
    rfl
  · obtain ⟨st, m, rfl, hm, hm2, S, q⟩ := h
    have nd := sc_far.nd
    refine ⟨_, pss_cons (ps_set (i := 2) nd rfl (Or.inl rfl) pe_int)
      (pss_cons (ps_for PassesOwn.never rfl (pi_range1 rfl T.rng (pa_cons (pe_op o_add pe_int (pe_f G hr (pa_cons (pv 0) (pa_cons (pv 1) pa_nil)))) pa_nil)) (pg_name (i := 3) nd rfl (Or.inl rfl))
        (pss_one (ps_set (i := 2) nd rfl (Or.inl rfl) (pe_op o_add (pe_op o_mul (pv 2) pe_int) (pe_f G hr (pa_cons (pv 0) (pa_cons pe_int pa_nil)))))))
      (pss_one (ps_ret (pv 2)))), ?_⟩
    refine ⟨_, rfl, _, rfl, st, m, rfl, hm, by omega, S, fun d H1 d0 d1 B1 S1 => ⟨_, _, rfl, rfl, _, rfl, by omega, by omega, for_range (fun i σ H2 => ∃ (n : Int) (o3 : Option V), σ = [some (.ref st), some (.int m), some (.int n), o3] ∧ 0 ≤ n ∧ n < 10 ^ i ∧ But st H H2 ∧ StK H2 st) ⟨0, none, rfl, by decide, by decide, B1, S1⟩ ?_ ?_⟩⟩
    · rintro i σ H2 hi ⟨n, o3, rfl, hn, hnb, B2, S2⟩
      refine ⟨_, rfl, _, _, rfl, rfl, .inr ⟨by decide, by decide⟩, _, rfl, st, _, rfl, by decide, by decide, S2, fun d H3 d0 d1 B3 S3 => ⟨_, _, rfl, rfl, _, _, rfl, by omega, by rw [Int.pow_succ]; generalize (10 : Int) ^ i = M at *; omega, B2.trans B3, S3⟩⟩
    · rintro σ H2 ⟨n, o3, rfl, hn, hnb, B2, S2⟩
      refine ⟨_, rfl, q n H2 hn (Int.lt_of_lt_of_le hnb ?_) B2 S2⟩
      have h1 : (10 : Nat) ^ (1 + d).toNat ≤ 10 ^ m.toNat := Nat.pow_le_pow_right (by decide) (by omega)
      have h2 : ((10 : Nat) ^ (1 + d).toNat : Int) ≤ ((10 : Nat) ^ m.toNat : Int) := by exact_mod_cast h1
      exact h2
end
theorem cut_last {xs : List V} : cutV xs (some (-1)) none = xs.drop (xs.length - 1) := by
  have e : HT.sIx xs.length 0 (some (-1)) = xs.length - 1 := by
    show (if (-1 : Int) < 0 then ((-1 : Int) + (xs.length : Int)).toNat else min (-1 : Int).toNat xs.length) = xs.length - 1
    rw [if_pos (by decide)]
    omega
  unfold cutV
  rw [e, HT.sIx_none]
  refine List.take_of_length_le ?_
  rw [List.length_drop]
  omega
def lastL (ns : List Int) : List Int := ns.drop (ns.length - 1)
theorem lastL_mem {ns : List Int} {k : Nat} (h : k + 1 = ns.length) : ns.getD k 0 ∈ lastL ns := by
  unfold lastL
  rw [show ns.length - 1 = k by omega, List.getD_eq_getElem?_getD, List.getElem?_eq_getElem (by omega)]
  exact List.mem_iff_getElem?.mpr ⟨0, by rw [List.getElem?_drop, Nat.add_zero]; exact List.getElem?_eq_getElem (by omega)⟩
theorem lastL_len (ns : List Int) : (lastL ns).length ≤ 1 := by
  unfold lastL
  rw [List.length_drop]
  omega
theorem eqv_nil (A : List Int) : PyData.eqv (dRow A) (dRow []) = A.isEmpty := by
  cases A with
  | nil => exact eqv_row []
  | cons a A => simp [dRow, PyData.eqv, PyData.eqvAll]
theorem if_tail {tc : TT} {t u : TS} {D : Ends} {σ0 : L2.St} {H0 : Hp} (C : (L2.St → Hp → Prop) → Prop) (h : C (u D)) (hA : C (u D) → tc σ0 H0 (fun b H1 => if b = true then t { D with nx := u D } σ0 H1 else u D σ0 H1)) : tSeq (tIfS tc t tNext) u D σ0 H0 := hA h
def Bnd (prs : Prs) : Prop := ∀ p ∈ prs, ∀ n ∈ p.2, n.natAbs < 10 ^ 38
def Stp (m : Int) (n : Int) : Prop := -10000000000000000000000000 ≤ n ∧ n ≤ 10000000000000000000000000 + m * 1000000000000000000000000
theorem e25 : (10 : Int) ^ (25 : Int).toNat = 10000000000000000000000000 := by decide
theorem e24 : (10 : Int) ^ (24 : Int).toNat = 1000000000000000000000000 := by decide
section
variable {P : Program} {w : World} {K : PySem.W.Frag} {mg : Str → Option Value} {base : Heap}
def spTableK : Sp := fun vs H Q _ => ∃ (s : Addr), vs = [.ref s] ∧ StK H s ∧ ∀ t prs H', H t = none → (∀ p ∈ prs, H p.1 = none) → (prs.map (·.1)).Nodup → But s H H' → StK H' s → Tab H' t prs → tabB prs = true → Bnd prs → Q (.ref t) H'
theorem sc_tableK : FnScope ["store", "wide", "begin", "way", "found", "row", "line", "place", "ahead", "more"] ["store"] (defScope dTable) := ⟨rfl, rfl, rfl, by decide +kernel, rfl, by decide +kernel, by decide +kernel⟩
set_option maxHeartbeats 32000000 in
theorem ok_tableK (T : Blt mg) (D : DefAt K mg "_law_table" dTable ["store"]) (G : FnAt P w K mg base 1 "_law_take" ["store", "many"] spTakeK) (G2 : FnAt P w K mg base 2 "_law_far" ["store", "figures"] spFar) : FnAt P w K mg base 3 "_law_table" ["store"] spTableK := by
  refine FnAt.of D sc_tableK (fun vs H Q E h => ?_) (fun f cdv A outer s H vs Q E hr h => ?_)
  · obtain ⟨st, rfl, _⟩ := h
    rfl
  · obtain ⟨st, rfl, S, q⟩ := h
    have nd := sc_tableK.nd
    have nd1 : (["one", "place"] : List Str).Nodup := by decide +kernel
    have hr1 : Room 1 _ := hr.mono (by decide)
    refine ⟨_, pss_cons (ps_set (i := 1) nd rfl (Or.inl rfl) (pe_op o_add pe_int (pe_f G hr1 (pa_cons (pv 0) (pa_cons pe_int pa_nil)))))
      (pss_cons (ps_set (i := 2) nd rfl (Or.inl rfl) (pe_ix ix_list (pe_lst (pa_cons pe_int (pa_cons (pe_op o_sub (pe_f G hr1 (pa_cons (pv 0) (pa_cons pe_int pa_nil))) pe_int) (pa_cons (pe_f G2 hr (pa_cons (pv 0) (pa_cons pe_int pa_nil))) (pa_cons (pe_op o_sub pe_int (pe_f G2 hr (pa_cons (pv 0) (pa_cons pe_int pa_nil)))) pa_nil)))))
        (pe_f G hr1 (pa_cons (pv 0) (pa_cons pe_int pa_nil))) (fun _ _ => rfl)))
      (pss_cons (ps_set (i := 3) nd rfl (Or.inl rfl) (pe_f G hr1 (pa_cons (pv 0) (pa_cons pe_int pa_nil))))
      (pss_cons (ps_set (i := 4) nd rfl (Or.inl rfl) (pe_lst pa_nil))
      (pss_cons (ps_for PassesOwn.never rfl (pi_range1 rfl T.rng (pa_cons (pe_op o_add pe_int (pe_f G hr1 (pa_cons (pv 0) (pa_cons pe_int pa_nil)))) pa_nil)) (pg_name (i := 5) nd rfl (Or.inl rfl))
        (pss_cons (ps_set (i := 6) nd rfl (Or.inl rfl) (pe_lst pa_nil))
        (pss_cons (ps_for PassesOwn.never rfl (pi_range1 rfl T.rng (pa_cons (pv 1) pa_nil)) (pg_name (i := 7) nd rfl (Or.inr rfl))
          (pss_cons (ps_set (i := 8) nd rfl (Or.inl rfl) (pe_op op_cat (pe_slice sl_list (pv 6) (po_some (pe_un o_neg pe_int)) po_none) (pe_comp ["one", "place"] [none, some 7] (defScope dTable) ["store", "wide", "begin", "way", "found", "row", "line", "place", "ahead", "more"] rfl (pi_list (pe_slice sl_list (pv 4) (po_some (pe_un o_neg pe_int)) po_none)) (by decide +kernel)
            (fun cl C s2 H2 ex => pg_c 0 nd1) (fun cl C s2 H2 ex => pifs_nil) (fun cl C s2 H2 ex => pe_ix (ixL K) (pv 0) (pv 1) (fun _ _ => rfl)))))
          (pss_cons (ps_set (i := 9) nd rfl (Or.inl rfl) (pe_f G hr1 (pa_cons (pv 0) (pa_cons (pe_ix ix_list (pe_lst (pa_cons pe_int (pa_cons pe_int (pa_cons pe_int (pa_cons pe_int (pa_cons pe_int pa_nil)))))) (pv 3) (fun _ _ => rfl)) pa_nil))))
          (pss_cons (ps_if (PW.pt (pw_and (pt_cmpR op_eq (pv 3) pe_int (nomark _)) (pw_and1 (pt_cmpR op_eq (pv 9) pe_int (nomark _))))) (pss_one (ps_set (i := 9) nd rfl (Or.inl rfl) (pe_f G2 hr (pa_cons (pv 0) (pa_cons pe_int pa_nil))))) pss_nil)
          (pss_one (ps_expr (pe_bm PySem.F.plainAttrs_list PySem.F.slot_list_append PySem.F.type_list_append mt_append (pv 6) (pa_cons (pe_op o_add (pe_b (call_maxL rfl) T.max boot_max (pa_cons (pe_op op_cat (pv 8) (pe_op op_rep (pe_lst (pa_cons (pv 2) pa_nil)) (pe_t call_int1 T.int boot_int (pa_cons (pe_cmpR (op_eqD hr.units) (pv 8) (pe_lst pa_nil) (nomark _)) pa_nil)))) pa_nil)) (pv 9)) pa_nil))))))))
        (pss_one (ps_expr (pe_bm PySem.F.plainAttrs_list PySem.F.slot_list_append PySem.F.type_list_append mt_append (pv 4) (pa_cons (pv 6) pa_nil)))))))
      (pss_one (ps_ret (pv 4))))))), ?_⟩
    refine ⟨_, rfl, st, _, rfl, by decide, by decide, S, fun w1 H1 w10 w11 B1 S1 => ⟨_, _, rfl, rfl, ?_⟩⟩
    refine ⟨_, rfl, st, _, rfl, by decide, by decide, S1, fun d1 H2 d10 d11 B2 S2 => ⟨_, _, rfl, rfl, _, rfl, st, _, rfl, by decide, by decide, S2, fun d2 H3 d20 d2b B3 S3 => ⟨_, rfl, st, _, rfl, by decide, by decide, S3, fun d3 H4 d30 d3b B4 S4 => ⟨_, _, rfl, rfl, len4, fun l hl => ?_⟩⟩⟩⟩
    have S4' := S4.same (Same.new (o := .lst [.int 0, .int (d1 - 4), .int d2, .int (0 - d3)]) hl)
    refine ⟨_, rfl, st, _, rfl, by decide, by decide, S4', fun d4 H5 d40 d41 B5 S5 => ?_⟩
    obtain ⟨bg, hbg0, ebg⟩ := at_mem (ns := [0, d1 - 4, d2, 0 - d3]) d40 d41
    rw [e25] at d2b d3b
    have hbg : Stp 0 bg := by
      simp only [List.mem_cons, List.not_mem_nil, or_false] at hbg0
      unfold Stp
      omega
    refine ⟨l, _, _, .int bg, rfl, rfl, SqL.of (B5 _ _ (Ne.symm (S4.ne hl)) upd_same), ebg, ?_⟩
    have C5 : But st H H5 := B1.trans (B2.trans (B3.trans (B4.trans ((Same.but (Same.new hl)).trans B5))))
    clear B1 B2 B3 B4 B5 S1 S2 S3 S4 S4' ebg
    refine ⟨_, rfl, st, _, rfl, by decide, by decide, S5, fun way H6 way0 way1 B6 S6 => ?_⟩
    have C6 := C5.trans B6
    clear B6 C5 S5
    refine ⟨len0, fun tb htb => ?_⟩
    have tb0 : H tb = none := C6.free S6 htb
    have C7 := C6.trans (Same.but (Same.new (o := .lst []) htb))
    have S7 := S6.same (Same.new (o := .lst []) htb)
    refine ⟨_, rfl, st, _, rfl, by decide, by decide, S7, fun rw1 H8 rw10 rw11 B8 S8 => ?_⟩
    have hbt : tb ≠ st := Ne.symm (S6.ne htb)
    have t8 : H8 tb = some (.lst []) := B8 _ _ hbt upd_same
    have C8 := C7.trans B8
    refine ⟨_, _, rfl, rfl, _, rfl, by omega, by omega, for_range (fun i σ H2 => ∃ (prs : Prs) (o5 o6 o7 o8 o9 : Option V), σ = [some (.ref st), some (.int (1 + w1)), some (.int bg), some (.int way), some (.ref tb), o5, o6, o7, o8, o9] ∧
      But st H H2 ∧ StK H2 st ∧ Tab H2 tb prs ∧ prs.length = i ∧ GoodP (1 + w1).toNat prs ∧ (prs.map (·.1)).Nodup ∧ (∀ p ∈ prs, H p.1 = none ∧ p.1 ≠ st) ∧ ∀ p ∈ prs, ∀ n ∈ p.2, Stp (6 * (i : Nat)) n)
      ⟨[], none, none, none, none, none, rfl, C8, S8, ⟨t8, fun p hp => nomatch hp⟩, rfl, ⟨fun p hp => (nomatch hp), fun p hp => (nomatch hp), fun i hi => absurd hi (by simp)⟩, by simp, (fun p hp => nomatch hp), (fun p hp => nomatch hp)⟩ ?_ ?_⟩
    · rintro i σ H2 hi ⟨prs, o5, o6, o7, o8, o9, rfl, B, S, hT, hlen, hg, hnd, hfr, hbd⟩
      refine ⟨len0, fun nn hnn => ?_⟩
      have nn0 : H nn = none := B.free S hnn
      have nnt : tb ≠ nn := ne_of_none hT.l hnn
      have nnp : ∀ p ∈ prs, p.1 ≠ nn := fun p hp => ne_of_none (hT.r p hp) hnn
      have nns : nn ≠ st := Ne.symm (S.ne hnn)
      have hps : ∀ p ∈ prs, p.1 ≠ st := fun p hp => (hfr p hp).2
      refine ⟨_, rfl, 1 + w1, rfl, by omega, by omega, for_range (fun j σ H3 => ∃ (cur : List Int) (o7 o8 o9 : Option V), σ = [some (.ref st), some (.int (1 + w1)), some (.int bg), some (.int way), some (.ref tb), some (.int (0 + (i : Nat))), some (.ref nn), o7, o8, o9] ∧
        But st H H3 ∧ StK H3 st ∧ Tab H3 tb prs ∧ Row H3 nn cur ∧ cur.length = j ∧ nfP cur ∧ (i = 0 ∨ ∀ k, k < j → (rowAt prs (i - 1)).getD k 0 ≤ cur.getD k 0) ∧ ∀ n ∈ cur, Stp (6 * (i : Nat) + (j : Nat)) n)
        ⟨[], o7, o8, o9, rfl, B.trans (Same.but (Same.new hnn)), S.same (Same.new hnn), hT.same (Same.new hnn), Row.new, rfl, fun k hk => absurd hk (by simp), .inr fun k hk => absurd hk (by simp), fun n hn => nomatch hn⟩ ?_ ?_⟩
      · rintro j σ H3 hj ⟨cur, o7, o8, o9, rfl, B3, S3, hT3, hR3, hcl, hnf, hab, hcb⟩
        refine ⟨_, rfl, _, rfl, _, rfl, nn, _, rfl, hR3.sq, fun p1 hp1 => ?_⟩
        rw [cut_last]
        have e1 : (upd H3 p1 (.lst ((cur.map V.int).drop ((cur.map V.int).length - 1)))) p1 = some (.lst ((lastL cur).map V.int)) := by
          rw [upd_same]
          unfold lastL
          rw [List.map_drop, List.length_map]
        have s1 : Same H3 (upd H3 p1 (.lst ((cur.map V.int).drop ((cur.map V.int).length - 1)))) := Same.new hp1
        generalize upd H3 p1 (.lst ((cur.map V.int).drop ((cur.map V.int).length - 1))) = H4 at e1 s1 ⊢
        have hT4 := hT3.same s1
        refine ⟨_, rfl, _, rfl, _, rfl, tb, _, rfl, hT4.sq, fun p2 hp2 => ?_⟩
        rw [cut_last]
        have e2 : (upd H4 p2 (.lst ((prs.map fun p => V.ref p.1).drop ((prs.map fun p => V.ref p.1).length - 1)))) p2 = some (.lst ((prs.drop (prs.length - 1)).map fun p => V.ref p.1)) := by
          rw [upd_same, List.map_drop, List.length_map]
        have s2 : Same H4 (upd H4 p2 (.lst ((prs.map fun p => V.ref p.1).drop ((prs.map fun p => V.ref p.1).length - 1)))) := Same.new hp2
        generalize upd H4 p2 (.lst ((prs.map fun p => V.ref p.1).drop ((prs.map fun p => V.ref p.1).length - 1))) = H5 at e2 s2 ⊢
        have hT5 := hT4.same s2
        refine ⟨p2, rfl, ⟨_, SqL.of e2⟩, comp_map (ms := prs.drop (prs.length - 1)) (fun p : Addr × List Int => V.ref p.1) (fun p => .int (p.2.getD j 0)) (SqL.of e2) (sl6 (by rw [List.length_drop]; omega)) (fun p hp H' Q' sm q' => ?_) fun D1 H6 hD1 s6 hDl => ?_⟩
        · have hpm := List.mem_of_mem_drop hp
          have hpl := hg.len p hpm
          exact ⟨_, rfl, _, rfl, p.1, _, _, _, rfl, rfl, ((hT5.r p hpm).same sm).sq, by rw [Int.zero_add]; exact at_row (by omega), q' _ (Same.refl _)⟩
        have e6 := s6 _ _ (s2 _ _ e1)
        have hDl2 : H6 D1 = some (.lst (((prs.drop (prs.length - 1)).map fun p => p.2.getD j 0).map V.int)) := by
          rw [hDl, List.map_map]
          rfl
        refine ⟨p1, D1, _, _, rfl, rfl, e6, hDl2, ?_, fun ah hah => ?_⟩
        · rw [List.length_map, List.length_map, List.length_map, List.length_drop]
          have := lastL_len cur
          exact sl6 (by omega)
        have eah : Row (upd H6 ah (.lst ((lastL cur).map V.int ++ ((prs.drop (prs.length - 1)).map fun p => p.2.getD j 0).map V.int))) ah (lastL cur ++ (prs.drop (prs.length - 1)).map fun p => p.2.getD j 0) := by
          unfold Row
          rw [upd_same, List.map_append]
        have s7 : Same H6 (upd H6 ah (.lst ((lastL cur).map V.int ++ ((prs.drop (prs.length - 1)).map fun p => p.2.getD j 0).map V.int))) := Same.new hah
        generalize upd H6 ah (.lst ((lastL cur).map V.int ++ ((prs.drop (prs.length - 1)).map fun p => p.2.getD j 0).map V.int)) = H7 at eah s7 ⊢
        have ha0 : ∀ k, k + 1 = cur.length → cur.getD k 0 ∈ lastL cur ++ (prs.drop (prs.length - 1)).map fun p => p.2.getD j 0 := fun k hk => List.mem_append_left _ (lastL_mem hk)
        have ha1 : i = 0 ∨ (rowAt prs (i - 1)).getD j 0 ∈ lastL cur ++ (prs.drop (prs.length - 1)).map fun p => p.2.getD j 0 := by
          by_cases z : i = 0
          · exact .inl z
          · obtain ⟨p, hp1, hp2, hp3⟩ := rowAt_mem (prs := prs) (i := i - 1) (by omega)
            refine .inr (List.mem_append_right _ (List.mem_map.mpr ⟨p, ?_, by rw [hp3]⟩))
            exact List.mem_iff_getElem?.mpr ⟨0, by rw [List.getElem?_drop, Nat.add_zero, hlen]; exact hp2⟩
        have hal : (lastL cur ++ (prs.drop (prs.length - 1)).map fun p => p.2.getD j 0).length ≤ 2 := by
          rw [List.length_append, List.length_map, List.length_drop]
          have := lastL_len cur
          omega
        have haB : ∀ a ∈ lastL cur ++ (prs.drop (prs.length - 1)).map fun p => p.2.getD j 0, Stp (6 * (i : Nat) + (j : Nat)) a := fun a ha => by
          rcases List.mem_append.mp ha with z | z
          · exact hcb a (List.mem_of_mem_drop z)
          · obtain ⟨p, hp, rfl⟩ := List.mem_map.mp z
            have hpm := List.mem_of_mem_drop hp
            have hpl := hg.len p hpm
            have := hbd p hpm (p.2.getD j 0) (by rw [List.getD_eq_getElem?_getD, List.getElem?_eq_getElem (by omega)]; exact List.getElem_mem _)
            unfold Stp at this ⊢
            omega
        generalize (lastL cur ++ (prs.drop (prs.length - 1)).map fun p => p.2.getD j 0) = aa at eah ha0 ha1 hal haB
        have s37 : Same H3 H7 := s1.trans (s2.trans (s6.trans s7))
        have nah : ah ≠ st := fun z => (S3.same (s1.trans (s2.trans s6))).ne hah z.symm
        have nan : ah ≠ nn := fun z => by
          have := (s1.trans (s2.trans s6)) _ _ hR3
          rw [z, this] at hah
          cases hah
        have S4 := S3.same s37
        have hT8 := hT3.same s37
        have hR8 := hR3.same s37
        have B7 := B3.trans (Same.but s37)
        clear S3 hT3 hR3 B3 s37 s7 s6 s2 s1 e6 hDl hDl2 e1 e2 hT4 hT5 hah hD1 hp1 hp2
        refine ⟨_, rfl, len5, fun lm hlm => ?_⟩
        have slm : Same H7 (upd H7 lm (.lst [.int 1, .int 2, .int 3, .int 9, .int 3])) := Same.new hlm
        have elm : (upd H7 lm (.lst [.int 1, .int 2, .int 3, .int 9, .int 3])) lm = some (.lst ([1, 2, 3, 9, 3].map V.int)) := upd_same
        generalize upd H7 lm (.lst [.int 1, .int 2, .int 3, .int 9, .int 3]) = H8' at slm elm ⊢
        obtain ⟨r, hr1', hr2'⟩ := at_mem (ns := [1, 2, 3, 9, 3]) way0 way1
        have hrb : 0 < r ∧ r < 100 := by
          simp only [List.mem_cons, List.not_mem_nil, or_false] at hr1'
          omega
        refine ⟨_, rfl, lm, _, _, .int r, rfl, rfl, SqL.of elm, hr2', st, r, rfl, hrb.1, by omega, S4.same slm, fun mo H9 mo0 mo1 B9 S9 => ?_⟩
        have moC : mo ≤ 1000000000000000000000000 := by omega
        have hT9 := (hT8.same slm).but hbt hps B9
        have hR9 := (hR8.same slm).but nns B9
        have ea9 := (eah.same slm).but nah B9
        have C9 := B7.trans ((Same.but slm).trans B9)
        clear S4 hT8 hR8 eah B7 B9 slm elm hlm hr1' hr2' hrb mo1
        dsimp only [gName]
        refine if_tail (fun N => ∀ (more : Int) (H10 : Hp), 0 ≤ more → more ≤ 1000000000000000000000000 → But st H9 H10 → StK H10 st → N [some (.ref st), some (.int (1 + w1)), some (.int bg), some (.int way), some (.ref tb), some (.int (0 + (i : Nat))), some (.ref nn), some (.int (0 + (j : Nat))), some (.ref ah), some (.int more)] H10) (fun mo1 H10 mo0' moB B10 S10 => ?_) (fun tail => ?_)
        · have hT10 := hT9.but hbt hps B10
          have hR10 := hR9.but nns B10
          have ea10 := ea9.but nah B10
          have C10 := C9.trans B10
          refine ⟨_, rfl, .inl ⟨rfl, _, hR10.sq⟩, _, rfl, _, rfl, len1, fun l1 hl1 => ?_⟩
          have s1 : Same H10 (upd H10 l1 (.lst [.int bg])) := Same.new hl1
          have e1 : (upd H10 l1 (.lst [.int bg])) l1 = some (.lst [.int bg]) := upd_same
          generalize upd H10 l1 (.lst [.int bg]) = H11 at s1 e1 ⊢
          refine ⟨_, rfl, len0, fun l2 hl2 => ?_⟩
          have s2 : Same H11 (upd H11 l2 (.lst [])) := Same.new hl2
          have e2 : Row (upd H11 l2 (.lst [])) l2 [] := Row.new
          generalize upd H11 l2 (.lst []) = H12 at s2 e2 ⊢
          have s12 := s1.trans s2
          refine ⟨_, _, (ea10.same s12).rd, e2.rd, shaped_row _, shaped_row _, ?_⟩
          rw [show (if false = true then !PyData.eqv (dRow aa) (dRow []) else PyData.eqv (dRow aa) (dRow [])) = aa.isEmpty from eqv_nil aa]
          refine .inr ⟨_, rfl, l1, _, _, rfl, rfl, s2 _ _ e1, ?_, ?_, ?_, fun l3 hl3 => ?_⟩
          · split <;> omega
          · split <;> omega
          · cases aa.isEmpty with
            | true => exact (show 1 * 1 ≤ sizeLine by decide)
            | false => exact (show 1 * 0 ≤ sizeLine by decide)
          have e3 : (upd H12 l3 (.lst (List.replicate (if aa.isEmpty = true then (1 : Int) else 0).toNat [V.int bg]).flatten)) l3 = some (.lst ((if aa.isEmpty = true then [bg] else []).map V.int)) := by
            rw [upd_same]
            cases aa.isEmpty <;> rfl
          have s3 : Same H12 (upd H12 l3 (.lst (List.replicate (if aa.isEmpty = true then (1 : Int) else 0).toNat [V.int bg]).flatten)) := Same.new hl3
          generalize upd H12 l3 (.lst (List.replicate (if aa.isEmpty = true then (1 : Int) else 0).toNat [V.int bg]).flatten) = H13 at e3 s3 ⊢
          have s13 := s12.trans s3
          refine ⟨ah, l3, _, _, rfl, rfl, ea10.same s13, e3, ?_, fun l4 hl4 => ?_⟩
          · rw [List.length_map, List.length_map]
            refine sl6 ?_
            split
            · rw [List.length_singleton]
              omega
            · rw [List.length_nil]
              omega
          have e4 : Row (upd H13 l4 (.lst (aa.map V.int ++ (if aa.isEmpty = true then [bg] else []).map V.int))) l4 (aa ++ (if aa.isEmpty = true then [bg] else [])) := by
            unfold Row
            rw [upd_same, List.map_append]
          have s4 : Same H13 (upd H13 l4 (.lst (aa.map V.int ++ (if aa.isEmpty = true then [bg] else []).map V.int))) := Same.new hl4
          generalize upd H13 l4 (.lst (aa.map V.int ++ (if aa.isEmpty = true then [bg] else []).map V.int)) = H14 at e4 s4 ⊢
          have s14 := s13.trans s4
          refine ⟨l4, _, rfl, e4.sq, ?_, fun M hMm hM => ⟨_, rfl, _, _, rfl, rfl, nn, _, _, rfl, rfl, hR10.same s14, ?_, ?_⟩⟩
          · rw [List.length_append]
            cases aa with
            | nil => exact Nat.succ_pos _
            | cons a r => exact Nat.lt_of_lt_of_le (Nat.succ_pos _) (Nat.le_add_right _ _)
          · rw [List.length_map]
            exact small1000 (by omega)
          · have hM2 : ∀ a ∈ aa, a ≤ M := fun a ha => hM a (List.mem_append_left _ ha)
            have hT14 := hT10.same s14
            have S14 := S10.same s14
            have C14 := C10.trans (Same.but s14)
            refine ⟨cur ++ [M + mo1], _, _, _, rfl, ?_, ?_, ?_, Row.push, ?_, ?_, ?_, ?_⟩
            · intro b o hb e
              rw [upd_ne (ne_of_none e nn0)]
              exact C14 b o hb e
            · obtain ⟨g', b', c', z⟩ := S14
              exact ⟨g', b', c', by rw [upd_ne (Ne.symm nns)]; exact z⟩
            · refine ⟨by rw [upd_ne nnt]; exact hT14.l, fun p hp => ?_⟩
              unfold Row
              rw [upd_ne (nnp p hp)]
              exact hT14.r p hp
            · rw [List.length_append, List.length_singleton, hcl]
            · refine nfP_push hnf fun k hk => ?_
              have := hM2 _ (ha0 k hk)
              omega
            · rcases hab with z | z
              · exact .inl z
              · rcases ha1 with z2 | z2
                · exact .inl z2
                · have z2 := hM2 _ z2
                  refine .inr fun k hk => ?_
                  rw [getD_push]
                  by_cases hkj : k < cur.length
                  · rw [if_pos hkj]
                    exact z k (by omega)
                  · rw [if_neg hkj, if_pos (by omega), show k = j by omega]
                    omega
            · have hMb : Stp (6 * (i : Nat) + (j : Nat)) M := by
                rcases List.mem_append.mp hMm with z | z
                · exact haB M z
                · split at z
                  · rw [List.mem_singleton.mp z]
                    unfold Stp at hbg ⊢
                    omega
                  · nomatch z
              intro n hn
              rcases List.mem_append.mp hn with z | z
              · have := hcb n z
                unfold Stp at this ⊢
                omega
              · rw [List.mem_singleton.mp z]
                unfold Stp at hMb ⊢
                omega
        · exact ⟨_, rfl, rfl, _, rfl, ite2 (fun _ => ⟨_, rfl, rfl, _, rfl, ite2 (fun _ => ⟨_, rfl, st, _, rfl, by decide, by decide, S9, fun mo' H10 mo0' mob B10 S10 => tail mo' H10 mo0' (by rw [e24] at mob; omega) B10 S10⟩) (fun _ => tail mo H9 mo0 moC (But.refl _ _) S9)⟩) (fun _ => iteF (tail mo H9 mo0 moC (But.refl _ _) S9))⟩
      ·
        rintro σ H3 ⟨cur, o7, o8, o9, rfl, B3, S3, hT3, hR3, hcl, hnf, hab, hcb⟩
        refine ⟨_, rfl, .inl ⟨rfl, _, hT3.sq⟩, _, rfl, tb, _, _, rfl, rfl, hT3.l, ?_, ?_⟩
        · rw [List.length_map]
          exact small1000 (by omega)
        · have key : ∀ b o, b ≠ tb → H3 b = some o → (upd H3 tb (.lst ((prs.map fun p => V.ref p.1) ++ [.ref nn]))) b = some o := fun b o hb e => by
            rw [upd_ne hb]
            exact e
          have ntb : ∀ p ∈ prs, p.1 ≠ tb := fun p hp z => by
            have h1 := hT3.r p hp
            rw [z] at h1
            have h2 := hT3.l
            unfold Row at h1
            rw [h1] at h2
            have h3 := hg.len p hp
            cases hq : p.2 with
            | nil => rw [hq] at h3; simp at h3; omega
            | cons n ns =>
              rw [hq] at h2
              cases prs with
              | nil => simp at h2
              | cons p' r' => simp at h2
          have ntn : nn ≠ tb := Ne.symm nnt
          have etb : (upd H3 tb (.lst ((prs.map fun p => V.ref p.1) ++ [.ref nn]))) tb = some (.lst ((prs ++ [(nn, cur)]).map fun p => V.ref p.1)) := by
            rw [upd_same, List.map_append]
            rfl
          refine ⟨prs ++ [(nn, cur)], _, _, _, _, _, rfl, ?_, ?_, ⟨etb, fun p hp => ?_⟩, ?_, ?_, ?_, fun p hp => ?_, fun p hp => ?_⟩
          · intro b o hb e
            rw [upd_ne (ne_of_none e tb0)]
            exact B3 b o hb e
          · obtain ⟨g', b', c', z⟩ := S3
            exact ⟨g', b', c', key _ _ (Ne.symm hbt) z⟩
          · rcases List.mem_append.mp hp with z | z
            · exact key _ _ (ntb p z) (hT3.r p z)
            · have : p = (nn, cur) := by simpa using z
              subst this
              exact key _ _ ntn hR3
          · rw [List.length_append, List.length_singleton, hlen]
          · refine good_push hg hcl hnf ?_
            rcases hab with z | z
            · exact .inl (by omega)
            · rw [hlen]
              exact .inr z
          · rw [List.map_append, List.nodup_append]
            refine ⟨hnd, by simp, fun a ha b hb z => ?_⟩
            obtain ⟨p, hp, rfl⟩ := List.mem_map.mp ha
            have hb : b = nn := by simpa using hb
            exact nnp p hp (z.trans hb)
          · rcases List.mem_append.mp hp with z | z
            · exact hfr p z
            · have : p = (nn, cur) := by simpa using z
              subst this
              exact ⟨nn0, nns⟩
          · rcases List.mem_append.mp hp with z | z
            · intro n hn
              have := hbd p z n hn
              unfold Stp at this ⊢
              omega
            · have : p = (nn, cur) := by simpa using z
              subst this
              intro n hn
              have := hcb n hn
              unfold Stp at this ⊢
              omega
    · rintro σ H2 ⟨prs, o5, o6, o7, o8, o9, rfl, B, S, hT, hlen, hg, hnd, hfr, hbd⟩
      refine ⟨_, rfl, q tb prs H2 tb0 (fun p hp => (hfr p hp).1) hnd B S hT (tabB_of hg (by omega) (by omega) (by omega) (by omega)) fun p hp n hn => ?_⟩
      have := hbd p hp n hn
      unfold Stp at this
      omega
end
def setR (rows : List (List Int)) (i j : Nat) (x : Int) : List (List Int) := rows.set i ((rows.getD i []).set j x)
section
variable {P : Program} {w : World} {K : PySem.W.Frag} {mg : Str → Option Value} {base : Heap}
def NewTab (H : Hp) (Q : VK) (rows : List (List Int)) : Prop := ∀ t' prs' H', H t' = none → (∀ p ∈ prs', H p.1 = none ∧ p.1 ≠ t') → (prs'.map (·.1)).Nodup → Same H H' → Tab H' t' prs' → prs'.map (·.2) = rows → Q (.ref t') H'
def spCopyN : Sp := fun vs H Q _ => ∃ (t : Addr) (prs : Prs), vs = [.ref t] ∧ Tab H t prs ∧ Sm prs ∧ NewTab H Q (prs.map (·.2))
theorem sc_copyOf : FnScope ["table"] ["table"] (defScope dCopyOf) := ⟨rfl, rfl, rfl, by decide +kernel, rfl, by decide +kernel, by decide +kernel⟩
theorem ok_copyOf (T : Blt mg) (D : DefAt K mg "copy_of" dCopyOf ["table"]) : FnAt P w K mg base 1 "copy_of" ["table"] spCopyN := by
  refine FnAt.of D sc_copyOf (fun vs H Q E h => ?_) (fun f cdv A outer s H vs Q E hr h => ?_)
  · obtain ⟨t, prs, rfl, _⟩ := h
    rfl
  · obtain ⟨t, prs, rfl, hT, hs, q⟩ := h
    have nd1 : (["row"] : List Str).Nodup := by decide +kernel
    refine ⟨_, pss_one (ps_ret (pe_comp ["row"] [none] (defScope dCopyOf) ["table"] rfl (pi_list (pv 0)) (by decide +kernel)
      (fun cl C s2 H2 ex => pg_c 0 nd1) (fun cl C s2 H2 ex => pifs_nil) (fun cl C s2 H2 ex => pe_t (listK K) T.list boot_list (pa_cons (pv 0) pa_nil)))), ?_⟩
    refine ⟨_, rfl, t, rfl, ⟨_, hT.sq⟩, comp_objsL (fun p : Addr × List Int => V.ref p.1) (fun p => .lst (p.2.map V.int)) hT.sq hs.1 (fun p hp H' Q' sm q' => ⟨_, rfl, p.1, _, rfl, .inl ((hT.same sm).r p hp).sq, fun l hl => q' l _ hl (Same.new hl) upd_same⟩) fun M qs H2 hM hqm hnd hq s2 eM => ?_⟩
    refine q M (qs.map fun x => (x.1, x.2.2)) H2 hM (fun p hp => ?_) ?_ s2 ⟨?_, fun p hp => ?_⟩ ?_
    · obtain ⟨x, hx, rfl⟩ := List.mem_map.mp hp
      exact (hq x hx).2
    · rw [List.map_map]
      exact hnd
    · rw [eM, List.map_map]
      rfl
    · obtain ⟨x, hx, rfl⟩ := List.mem_map.mp hp
      exact (hq x hx).1
    · rw [List.map_map, ← hqm, List.map_map]
      rfl
def spWith : Sp := fun vs H Q _ => ∃ (t c : Addr) (prs : Prs) (i j : Nat) (x : Int), vs = [.ref t, .ref c, .int x] ∧ Tab H t prs ∧ Sm prs ∧ H c = some (.tup [.int (i : Nat), .int (j : Nat)]) ∧ i < prs.length ∧ j < (rowAt prs i).length ∧ NewTab H Q (setR (prs.map (·.2)) i j x)
theorem sc_with : FnScope ["table", "cell", "x", "changed"] ["table", "cell", "x"] (defScope dWith) := ⟨rfl, rfl, rfl, by decide +kernel, rfl, by decide +kernel, by decide +kernel⟩
set_option maxHeartbeats 16000000 in
theorem ok_with (D : DefAt K mg "table_with" dWith ["table", "cell", "x"]) (G : FnAt P w K mg base 1 "copy_of" ["table"] spCopyN) : FnAt P w K mg base 2 "table_with" ["table", "cell", "x"] spWith := by
  refine FnAt.of D sc_with (fun vs H Q E h => ?_) (fun f cdv A outer s H vs Q E hr h => ?_)
  · obtain ⟨t, c, prs, i, j, x, rfl, _⟩ := h
    rfl
  · obtain ⟨t, c, prs, i, j, x, rfl, hT, hs, hc, hi, hj, q⟩ := h
    have nd := sc_with.nd
    refine ⟨_, pss_cons (ps_set (i := 3) nd rfl (Or.inl rfl) (pe_f G hr (pa_cons (pv 0) pa_nil)))
      (pss_cons (ps_asg (pv 2) (pg_sub (pe_ix ix_list (pv 3) (pe_ix ix_tup (pv 1) pe_int (fun _ _ => rfl)) (fun _ _ => rfl)) (pe_ix ix_tup (pv 1) pe_int (fun _ _ => rfl)) set_list))
      (pss_one (ps_ret (pv 3)))), ?_⟩
    refine ⟨_, rfl, t, prs, rfl, hT, hs, fun t' qs H1 ht' hqn hnd s1 hT1 hrows => ?_⟩
    have hc1 := s1 _ _ hc
    have hql : qs.length = prs.length := by
      have := congrArg List.length hrows
      simpa using this
    have hiq : i < qs.length := by omega
    have hqi : qs[i]? = some qs[i] := List.getElem?_eq_getElem hiq
    have mqi : qs[i] ∈ qs := List.getElem_mem hiq
    have hri : qs[i].2 = rowAt prs i := by
      have h1 : (qs.map (·.2))[i]? = (prs.map (·.2))[i]? := by rw [hrows]
      rw [List.getElem?_map, hqi, List.getElem?_map, List.getElem?_eq_getElem hi] at h1
      have h2 : qs[i].2 = prs[i].2 := by simpa using h1
      rw [h2]
      unfold rowAt
      rw [List.getElem?_eq_getElem hi]
      rfl
    have hR := hT1.r qs[i] mqi
    refine ⟨_, rfl, _, rfl, _, rfl, c, _, 0, .int (i : Nat), rfl, rfl, SqT.of hc1, rfl, t', _, _, .ref qs[i].1, rfl, rfl, hT1.sq, atI_nat (by rw [List.getElem?_map, hqi]; rfl), _, rfl, c, _, 1, .int (j : Nat), rfl, rfl, SqT.of hc1, rfl, qs[i].1, _, _, j, rfl, rfl, hR, ?_, _, rfl, ?_⟩
    · rw [List.length_map, hri]
      unfold ixN
      rw [if_pos (by omega), if_pos (by omega), Int.toNat_natCast]
    rw [← List.map_set]
    have hn : ∀ p ∈ qs, p.1 = qs[i].1 → p = qs[i] := fun p hp e => by
      obtain ⟨k, hk⟩ := List.mem_iff_getElem?.mp hp
      have hkl := (List.getElem?_eq_some_iff.mp hk).1
      have : k = i := (List.getElem?_inj (l := qs.map (·.1)) (by rw [List.length_map]; exact hkl) hnd).mp (by rw [List.getElem?_map, List.getElem?_map, hk, hqi]; simp [e])
      subst this
      exact Option.some.inj (hk.symm.trans hqi)
    have key : ∀ b o, b ≠ qs[i].1 → H1 b = some o → (upd H1 qs[i].1 (.lst ((qs[i].2.set j x).map V.int))) b = some o := fun b o n e => by rw [upd_ne n]; exact e
    refine q t' (qs.set i (qs[i].1, qs[i].2.set j x)) _ ht' (fun p hp => ?_) ?_ (fun b o e => key b o (fun z => ?_) (s1 _ _ e)) ⟨?_, fun p hp => ?_⟩ ?_
    · rcases List.mem_or_eq_of_mem_set hp with z | z
      · exact hqn p z
      · rw [z]
        exact hqn qs[i] mqi
    · have : (qs.set i (qs[i].1, qs[i].2.set j x)).map (·.1) = qs.map (·.1) := by
        rw [List.map_set]
        refine List.ext_getElem? fun k => ?_
        rw [List.getElem?_set]
        split
        · next h =>
          subst h
          rw [List.length_map, if_pos hiq, List.getElem?_map, hqi]
          rfl
        · rfl
      rw [this]
      exact hnd
    · rw [z, (hqn _ mqi).1] at e
      cases e
    · have : (qs.set i (qs[i].1, qs[i].2.set j x)).map (fun p => V.ref p.1) = qs.map fun p => V.ref p.1 := by
        rw [List.map_set]
        refine List.ext_getElem? fun k => ?_
        rw [List.getElem?_set]
        split
        · next h =>
          subst h
          rw [List.length_map, if_pos hiq, List.getElem?_map, hqi]
          rfl
        · rfl
      rw [this]
      exact key _ _ (fun z => (hqn _ mqi).2 z.symm) hT1.l
    · obtain ⟨k, hk⟩ := List.mem_iff_getElem?.mp hp
      rw [List.getElem?_set] at hk
      by_cases h : i = k
      · rw [if_pos h, if_pos hiq] at hk
        rw [← Option.some.inj hk]
        exact upd_same
      · rw [if_neg h] at hk
        have hkl := (List.getElem?_eq_some_iff.mp hk).1
        refine key _ _ (fun e => h ?_) (hT1.r p (List.mem_of_getElem? hk))
        exact ((List.getElem?_inj (l := qs.map (·.1)) (by rw [List.length_map]; exact hkl) hnd).mp (by rw [List.getElem?_map, List.getElem?_map, hk, hqi]; simp [e])).symm
    · rw [List.map_set, hrows]
      unfold setR
      rw [show (prs.map (·.2)).getD i [] = qs[i].2 by
        rw [hri]
        unfold rowAt
        rw [List.getD_eq_getElem?_getD, List.getElem?_map]]
end
def Cell (H : Hp) (c : Addr) (i j : Nat) : Prop := H c = some (.tup [.int (i : Nat), .int (j : Nat)])
section
variable {P : Program} {w : World} {K : PySem.W.Frag} {mg : Str → Option Value} {base : Heap}
def spAllWholeT : Sp := fun vs H Q _ => ∃ (c : Addr) (i j : Nat), vs = [.ref c] ∧ Cell H c i j ∧ ∀ H', Same H H' → Q (.bl true) H'
theorem ok_allWholeT (T : Blt mg) (D : DefAt K mg "all_whole" dAllWhole ["things"]) (G1 : FnAt P w K mg base 1 "is_whole" ["thing"] spIsWhole) : FnAt P w K mg base 2 "all_whole" ["things"] spAllWholeT := by
  refine FnAt.of D sc_allWhole (fun vs H Q E h => ?_) (fun f cdv A outer s H vs Q E hr h => ?_)
  · obtain ⟨c, i, j, rfl, _⟩ := h
    rfl
  · obtain ⟨c, i, j, rfl, hC, q⟩ := h
    have nd1 : (["thing"] : List Str).Nodup := by decide +kernel
    refine ⟨_, pss_one (ps_ret (pe_b (call_all rfl) T.all boot_all (pa_cons (pe_comp ["thing"] [none] (defScope dAllWhole) ["things"] rfl (pi_tup (pv 0)) (by decide +kernel)
      (fun cl C s2 H2 ex => pg_c 0 nd1) (fun cl C s2 H2 ex => pifs_nil) (fun cl C s2 H2 ex => pe_f G1 hr (pa_cons (pv 0) pa_nil))) pa_nil))), ?_⟩
    refine ⟨_, rfl, c, rfl, ⟨_, SqT.of hC⟩, comp_tup V.int (ms := [(i : Int), (j : Int)]) (fun _ => .bl true) (SqT.of hC) (by show 2 ≤ sizeLine; decide) (fun n _ H' Q' sm q' => ?_) fun L H' hL sm hLl => ?_⟩
    · exact ⟨_, rfl, n, rfl, q' _ (Same.refl _)⟩
    · exact ⟨L, [true, true], rfl, SqL.of hLl, q H' sm⟩
def spCellSz : Sp := fun vs H Q _ => ∃ (c : Addr) (r p i j : Nat), vs = [.int (r : Nat), .int (p : Nat), .ref c] ∧ Cell H c i j ∧ i < r ∧ j < p ∧ ∀ H', Same H H' → Q (.bl true) H'
theorem sc_cellSz : FnScope ["rows", "places", "thing"] ["rows", "places", "thing"] (defScope dCellSz) := ⟨rfl, rfl, rfl, by decide +kernel, rfl, by decide +kernel, by decide +kernel⟩
theorem ok_cellSz (T : Blt mg) (htup : mg "tuple" = none) (D : DefAt K mg "is_cell_of_size" dCellSz ["rows", "places", "thing"]) (G : FnAt P w K mg base 2 "all_whole" ["things"] spAllWholeT) : FnAt P w K mg base 3 "is_cell_of_size" ["rows", "places", "thing"] spCellSz := by
  refine FnAt.of D sc_cellSz (fun vs H Q E h => ?_) (fun f cdv A outer s H vs Q E hr h => ?_)
  · obtain ⟨c, r, p, i, j, rfl, _⟩ := h
    rfl
  · obtain ⟨c, r, p, i, j, rfl, hC, hi, hj, q⟩ := h
    refine ⟨_, pss_cons (ps_if (PW.pt (pw_or (pt_not (pt_val (pe_b call_isinst T.isinst boot_isinstance (pa_cons (pv 2) (pa_cons (pe_ty htup boot_tuple) pa_nil))))) (pw_or (pt_cmpR op_ne (pe_b call_len_seq T.len boot_len (pa_cons (pv 2) pa_nil)) pe_int (nomark _)) (pw_or1 (pt_not (pt_val (pe_f G hr (pa_cons (pv 2) pa_nil)))))))) (pss_one (ps_ret pe_bl)) pss_nil)
      (pss_one (ps_ret (pe_and (pe_chain o_le o_lt pe_int (pe_ix ix_tup (pv 2) pe_int (fun _ _ => rfl)) (pv 0))
        (pe_one (pe_chain o_le o_lt pe_int (pe_ix ix_tup (pv 2) pe_int (fun _ _ => rfl)) (pv 1)))))), ?_⟩
    refine ⟨_, rfl, _, _, _, _, rfl, .tup hC, kit_tt _, _, rfl, iteF ⟨_, rfl, c, _, rfl, .inr (SqT.of hC), rfl, _, rfl, ?_⟩⟩
    refine iteF ⟨_, rfl, c, i, j, rfl, hC, fun H1 s1 => ⟨_, rfl, iteF ?_⟩⟩
    have hC1 : Cell H1 c i j := s1 _ _ hC
    refine ⟨_, rfl, c, _, 0, .int (i : Nat), rfl, rfl, SqT.of hC1, rfl, _, _, rfl, rfl, _, rfl, ?_⟩
    rw [decide_eq_true (show (0 : Int) ≤ (i : Nat) by omega)]
    refine iteT ⟨_, rfl, _, _, rfl, rfl, _, rfl, ?_⟩
    rw [decide_eq_true (show ((i : Nat) : Int) < (r : Nat) by omega)]
    refine iteT ⟨_, rfl, c, _, 1, .int (j : Nat), rfl, rfl, SqT.of hC1, rfl, _, _, rfl, rfl, _, rfl, ?_⟩
    rw [decide_eq_true (show (0 : Int) ≤ (j : Nat) by omega)]
    refine iteT ⟨_, rfl, _, _, rfl, rfl, ?_⟩
    rw [decide_eq_true (show ((j : Nat) : Int) < (p : Nat) by omega)]
    exact q H1 s1
def spIsCell : Sp := fun vs H Q _ => ∃ (t c : Addr) (prs : Prs) (i j : Nat), vs = [.ref t, .ref c] ∧ Tab H t prs ∧ tabB prs = true ∧ Cell H c i j ∧ i < prs.length ∧ j < w0 prs ∧ ∀ H', Same H H' → Q (.bl true) H'
theorem sc_isCell : FnScope ["table", "thing"] ["table", "thing"] (defScope dIsCell) := ⟨rfl, rfl, rfl, by decide +kernel, rfl, by decide +kernel, by decide +kernel⟩
theorem ok_isCell (T : Blt mg) (D : DefAt K mg "is_cell" dIsCell ["table", "thing"]) (G : FnAt P w K mg base 3 "is_cell_of_size" ["rows", "places", "thing"] spCellSz) : FnAt P w K mg base 4 "is_cell" ["table", "thing"] spIsCell := by
  refine FnAt.of D sc_isCell (fun vs H Q E h => ?_) (fun f cdv A outer s H vs Q E hr h => ?_)
  · obtain ⟨t, c, prs, i, j, rfl, _⟩ := h
    rfl
  · obtain ⟨t, c, prs, i, j, rfl, hT, hg, hC, hi, hj, q⟩ := h
    obtain ⟨g, g1, g2, g3, g4⟩ := good_of hg
    obtain ⟨p0, hp0, hm0, hx0⟩ := head_at (prs := prs) g1
    refine ⟨_, pss_one (ps_ret (pe_f G hr (pa_cons (pe_b call_len_seq T.len boot_len (pa_cons (pv 0) pa_nil)) (pa_cons (pe_b call_len_seq T.len boot_len (pa_cons (pe_ix ix_list (pv 0) pe_int (fun _ _ => rfl)) pa_nil)) (pa_cons (pv 1) pa_nil))))), ?_⟩
    exact ⟨_, rfl, t, _, rfl, .inl hT.sq, _, rfl, t, _, 0, .ref p0.1, rfl, rfl, hT.sq, atI_nat (j := 0) (by rw [List.getElem?_map, hx0]; rfl), p0.1, _, rfl, .inl (hT.r p0 hm0).sq, _, rfl, c, prs.length, w0 prs, i, j, by rw [List.length_map, List.length_map, g.len p0 hm0], hC, hi, hj, q⟩
def spNeedCell : Sp := fun vs H Q _ => ∃ (t c : Addr) (prs : Prs) (i j : Nat), vs = [.ref t, .ref c] ∧ Tab H t prs ∧ tabB prs = true ∧ Cell H c i j ∧ i < prs.length ∧ j < w0 prs ∧ ∀ H', Same H H' → Q .non H'
theorem sc_needCell : FnScope ["table", "thing"] ["table", "thing"] (defScope dNeedCell) := ⟨rfl, rfl, rfl, by decide +kernel, rfl, by decide +kernel, by decide +kernel⟩
theorem ok_needCell (D : DefAt K mg "need_cell" dNeedCell ["table", "thing"]) (G : FnAt P w K mg base 4 "is_cell" ["table", "thing"] spIsCell) : FnAt P w K mg base 5 "need_cell" ["table", "thing"] spNeedCell := by
  refine FnAt.of D sc_needCell (fun vs H Q E h => ?_) (fun f cdv A outer s H vs Q E hr h => ?_)
  · obtain ⟨t, c, prs, i, j, rfl, _⟩ := h
    rfl
  · obtain ⟨t, c, prs, i, j, rfl, hT, hg, hC, hi, hj, q⟩ := h
    refine ⟨_, pss_one (ps_if (pt_not (pt_val (pe_f G hr (pa_cons (pv 0) (pa_cons (pv 1) pa_nil))))) pss_never pss_nil), ?_⟩
    exact ⟨_, rfl, _, rfl, t, c, prs, i, j, rfl, hT, hg, hC, hi, hj, fun H' sm => ⟨_, rfl, iteF (q H' sm)⟩⟩
def spNumberAt : Sp := fun vs H Q _ => ∃ (t c : Addr) (prs : Prs) (i j : Nat), vs = [.ref t, .ref c] ∧ Tab H t prs ∧ tabB prs = true ∧ Cell H c i j ∧ i < prs.length ∧ j < w0 prs ∧ ∀ H', Same H H' → Q (.int ((rowAt prs i).getD j 0)) H'
theorem sc_numberAt : FnScope ["table", "cell"] ["table", "cell"] (defScope dNumberAt) := ⟨rfl, rfl, rfl, by decide +kernel, rfl, by decide +kernel, by decide +kernel⟩
theorem ok_numberAt (D : DefAt K mg "number_at" dNumberAt ["table", "cell"]) (G1 : FnAt P w K mg base 6 "need_table" ["thing"] spNeedTable) (G2 : FnAt P w K mg base 5 "need_cell" ["table", "thing"] spNeedCell) : FnAt P w K mg base 7 "number_at" ["table", "cell"] spNumberAt := by
  refine FnAt.of D sc_numberAt (fun vs H Q E h => ?_) (fun f cdv A outer s H vs Q E hr h => ?_)
  · obtain ⟨t, c, prs, i, j, rfl, _⟩ := h
    rfl
  · obtain ⟨t, c, prs, i, j, rfl, hT, hg, hC, hi, hj, q⟩ := h
    obtain ⟨g, g1, g2, g3, g4⟩ := good_of hg
    have hsm : Sm prs := ⟨by omega, fun p hp => by rw [g.len p hp]; omega⟩
    refine ⟨_, pss_cons (ps_expr (pe_f G1 hr (pa_cons (pv 0) pa_nil))) (pss_cons (ps_expr (pe_f G2 (hr.mono (by decide)) (pa_cons (pv 0) (pa_cons (pv 1) pa_nil))))
      (pss_one (ps_ret (pe_ix ix_list (pe_ix ix_list (pv 0) (pe_ix ix_tup (pv 1) pe_int (fun _ _ => rfl)) (fun _ _ => rfl)) (pe_ix ix_tup (pv 1) pe_int (fun _ _ => rfl)) (fun _ _ => rfl))))), ?_⟩
    refine ⟨_, rfl, t, prs, rfl, hT, hsm, hg, fun H1 s1 => ⟨_, rfl, _, rfl, t, c, prs, i, j, rfl, hT.same s1, hg, s1 _ _ hC, hi, hj, fun H2 s2 => ?_⟩⟩
    have s12 := s1.trans s2
    have hT2 := hT.same s12
    have hC2 : Cell H2 c i j := s12 _ _ hC
    obtain ⟨p, hp1, hp2, hp3⟩ := rowAt_mem hi
    have hpl := g.len p hp1
    refine ⟨_, rfl, _, rfl, c, _, 0, .int (i : Nat), rfl, rfl, SqT.of hC2, rfl, t, _, _, .ref p.1, rfl, rfl, hT2.sq, atI_nat (by rw [List.getElem?_map, hp2]; rfl), _, rfl, c, _, 1, .int (j : Nat), rfl, rfl, SqT.of hC2, rfl, p.1, _, _, .int (p.2.getD j 0), rfl, rfl, (hT2.r p hp1).sq, at_row (by omega), ?_⟩
    rw [← hp3]
    exact q H2 s12
end
def rowsOk (rows : List (List Int)) : Bool := tabB (rows.map fun r => ((0 : Addr), r))
theorem rowsOk_of {prs : Prs} {rows : List (List Int)} (h : prs.map (·.2) = rows) : tabB prs = rowsOk rows := by
  unfold rowsOk
  refine tabB_rows ?_
  rw [h, List.map_map]
  exact (List.map_id _).symm
theorem sm_rows {prs : Prs} {rows : List (List Int)} {i j : Nat} {x : Int} (hs : Sm prs) {prs' : Prs} (h : prs'.map (·.2) = setR (prs.map (·.2)) i j x) : Sm prs' := by
  have hl : prs'.length = prs.length := by
    have := congrArg List.length h
    unfold setR at this
    rw [List.length_set] at this
    simpa using this
  refine ⟨by rw [hl]; exact hs.1, fun p hp => ?_⟩
  have hm : p.2 ∈ setR (prs.map (·.2)) i j x := by rw [← h]; exact List.mem_map.mpr ⟨p, hp, rfl⟩
  unfold setR at hm
  rcases List.mem_or_eq_of_mem_set hm with z | z
  · obtain ⟨q, hq, e⟩ := List.mem_map.mp z
    rw [← e]
    exact hs.2 q hq
  · rw [z, List.length_set, List.getD_eq_getElem?_getD, List.getElem?_map]
    cases hg : prs[i]? with
    | none => simp
    | some q => exact hs.2 q (List.mem_of_getElem? hg)
section
variable {P : Program} {w : World} {K : PySem.W.Frag} {mg : Str → Option Value} {base : Heap} {C : Addr}
def spChanged : Sp := fun vs H Q _ => ∃ (t c : Addr) (prs : Prs) (i j : Nat) (x : Int), vs = [.ref t, .ref c, .int x] ∧ Tab H t prs ∧ tabB prs = true ∧ Cell H c i j ∧ i < prs.length ∧ j < w0 prs ∧ rowsOk (setR (prs.map (·.2)) i j x) = true ∧ NewTab H Q (setR (prs.map (·.2)) i j x)
theorem sc_changed : FnScope ["table", "cell", "x", "changed"] ["table", "cell", "x"] (defScope dChanged) := ⟨rfl, rfl, rfl, by decide +kernel, rfl, by decide +kernel, by decide +kernel⟩
theorem ok_changed (D : DefAt K mg "changed_table" dChanged ["table", "cell", "x"]) (G1 : FnAt P w K mg base 5 "need_cell" ["table", "thing"] spNeedCell) (G2 : FnAt P w K mg base 2 "need_number" ["thing"] spNeedNumber) (G3 : FnAt P w K mg base 2 "table_with" ["table", "cell", "x"] spWith) (G4 : FnAt P w K mg base 5 "is_table" ["thing"] spIsTable) :
    FnAt P w K mg base 6 "changed_table" ["table", "cell", "x"] spChanged := by
  refine FnAt.of D sc_changed (fun vs H Q E h => ?_) (fun f cdv A outer s H vs Q E hr h => ?_)
  · obtain ⟨t, c, prs, i, j, x, rfl, _⟩ := h
    rfl
  · obtain ⟨t, c, prs, i, j, x, rfl, hT, hg, hc, hi, hj, ok, q⟩ := h
    have nd := sc_changed.nd
    obtain ⟨g, g1, g2, g3, g4⟩ := good_of hg
    have hli : (rowAt prs i).length = w0 prs := by
      obtain ⟨p, hp, _, e⟩ := rowAt_mem hi
      rw [e]
      exact g.len p hp
    refine ⟨_, pss_cons (ps_expr (pe_f G1 hr (pa_cons (pv 0) (pa_cons (pv 1) pa_nil)))) (pss_cons (ps_expr (pe_f G2 (hr.mono (by decide)) (pa_cons (pv 2) pa_nil)))
      (pss_cons (ps_set (i := 3) nd rfl (Or.inl rfl) (pe_f G3 (hr.mono (by decide)) (pa_cons (pv 0) (pa_cons (pv 1) (pa_cons (pv 2) pa_nil)))))
      (pss_cons (ps_if (pt_not (pt_val (pe_f G4 hr (pa_cons (pv 3) pa_nil)))) pss_never pss_nil) (pss_one (ps_ret (pv 3)))))), ?_⟩
    refine ⟨_, rfl, _, rfl, t, c, prs, i, j, rfl, hT, hg, hc, hi, hj, fun H1 s1 => ⟨_, rfl, x, rfl, ?_⟩⟩
    refine ⟨_, rfl, _, rfl, _, rfl, t, c, prs, i, j, x, rfl, hT.same s1, good_bounds hg, s1 _ _ hc, hi, by omega, fun t' prs' H2 ht' hq hnd s2 hT2 hrows => ?_⟩
    refine ⟨_, rfl, t', prs', rfl, hT2, sm_rows (rows := []) (good_bounds hg) hrows, fun H3 s3 => ⟨_, rfl, ?_⟩⟩
    rw [rowsOk_of hrows, ok]
    exact iteF ⟨_, rfl, q t' prs' H3 (s1.free ht') (fun p hp => ⟨s1.free (hq p hp).1, (hq p hp).2⟩) hnd (s1.trans (s2.trans s3)) (hT2.same s3) hrows⟩
end
structure KpC (K : PySem.W.Frag) (C : Addr) : Prop where
  cls : Cls K C
  nr : NoAttr K C "rows"
  nc : NoAttr K C "changes"
abbrev Ch := List (Addr × Addr × Nat × Nat × Int)
structure Keep (H : Hp) (C a dx t l : Addr) (prs : Prs) (cs : Ch) : Prop where
  ob : H a = some (.ins C dx [("rows", .ref t), ("changes", .ref l)])
  T : Tab H t prs
  ok : tabB prs = true
  L : H l = some (.lst (cs.map fun c => V.ref c.1))
  ch : ∀ c ∈ cs, H c.1 = some (.tup [.ref c.2.1, .int c.2.2.2.2]) ∧ Cell H c.2.1 c.2.2.1 c.2.2.2.1 ∧ c.2.2.1 < prs.length ∧ c.2.2.2.1 < w0 prs
theorem Keep.same {H H' : Hp} {C a dx t l : Addr} {prs : Prs} {cs : Ch} (h : Keep H C a dx t l prs cs) (s : Same H H') : Keep H' C a dx t l prs cs :=
  ⟨s _ _ h.ob, h.T.same s, h.ok, s _ _ h.L, fun c hc => let ⟨h1, h2, h3⟩ := h.ch c hc; ⟨s _ _ h1, s _ _ h2, h3⟩⟩
section
variable {P : Program} {w : World} {K : PySem.W.Frag} {mg : Str → Option Value} {base : Heap} {C : Addr}
theorem sc_kInit : FnScope ["self", "table"] ["self", "table"] (defScope (methOf dKeeper 0)) := ⟨rfl, rfl, rfl, by decide +kernel, rfl, by decide +kernel, by decide +kernel⟩
def spInit (C : Addr) : Sp := fun vs H Q _ => ∃ (a dx t0 : Addr) (prs : Prs), vs = [.ref a, .ref t0] ∧ H a = some (.ins C dx []) ∧ Tab H t0 prs ∧ tabB prs = true ∧
  ∀ t l prs' H', But a H H' → H t = none → H l = none → (∀ p ∈ prs', H p.1 = none) → (prs'.map (·.1)).Nodup → prs'.map (·.2) = prs.map (·.2) → Keep H' C a dx t l prs' [] → Q .non H'
set_option maxHeartbeats 16000000 in
theorem ok_kInit (kc : KpC K C) (D : MethDef K C "__init__" "Keeper.__init__" (methOf dKeeper 0) ["self", "table"]) (G1 : FnAt P w K mg base 6 "need_table" ["thing"] spNeedTable) (G2 : FnAt P w K mg base 1 "copy_of" ["table"] spCopyN) : MtAt P w K mg base 7 C "__init__" ["self", "table"] (spInit C) := by
  refine MtAt.of D sc_kInit (fun vs H Q E h => ?_) (fun f cdv A outer s H vs Q E hr h => ?_)
  · obtain ⟨a, dx, t0, prs, rfl, _⟩ := h
    rfl
  · obtain ⟨a, dx, t0, prs, rfl, ea, hT, hg, q⟩ := h
    have nd := sc_kInit.nd
    refine ⟨_, pss_cons (ps_expr (pe_f G1 hr (pa_cons (pv 1) pa_nil))) (pss_cons (ps_fld (pv 0) (pe_f G2 (hr.mono (by decide)) (pa_cons (pv 1) pa_nil)) rfl) (pss_one (ps_fld (pv 0) (pe_lst pa_nil) rfl))), ?_⟩
    refine ⟨_, rfl, t0, prs, rfl, hT, good_bounds hg, hg, fun H1 s1 => ?_⟩
    have hT1 := hT.same s1
    refine ⟨_, rfl, t0, prs, rfl, hT1, good_bounds hg, fun t prs' H2 ht hq hnd s2 hT2 hrows => ?_⟩
    have ea2 := s2 _ _ (s1 _ _ ea)
    refine ⟨_, rfl, a, C, dx, [], rfl, ea2, kc.cls, kc.nr, by decide, ?_⟩
    have na : ∀ {x : Addr}, H1 x = none → x ≠ a := fun hx z => by
      rw [z] at hx
      have := s1 _ _ ea
      rw [hx] at this
      cases this
    have nat := na ht
    have nq : ∀ p ∈ prs', p.1 ≠ a := fun p hp => na (hq p hp).1
    have k3 : ∀ b o, b ≠ a → H2 b = some o → (upd H2 a (.ins C dx (putF "rows" (.ref t) []))) b = some o := fun b o n e => by rw [upd_ne n]; exact e
    have e3 : (upd H2 a (.ins C dx (putF "rows" (.ref t) []))) a = some (.ins C dx [("rows", .ref t)]) := upd_same
    have T3 : Tab (upd H2 a (.ins C dx (putF "rows" (.ref t) []))) t prs' := ⟨k3 _ _ nat hT2.l, fun p hp => k3 _ _ (nq p hp) (hT2.r p hp)⟩
    generalize upd H2 a (.ins C dx (putF "rows" (.ref t) [])) = H3 at k3 e3 T3 ⊢
    refine ⟨len0, fun l hl => ⟨_, rfl, a, C, dx, _, rfl, (Same.new hl) _ _ e3, kc.cls, kc.nc, (by show 1 < 1000; decide), ?_⟩⟩
    have nla : l ≠ a := fun z => by rw [z, e3] at hl; cases hl
    have k4 : ∀ b o, b ≠ a → H3 b = some o → (upd (upd H3 l (.lst [])) a (.ins C dx (putF "changes" (.ref l) [("rows", .ref t)]))) b = some o := fun b o n e => by
      rw [upd_ne n]
      exact (Same.new hl) _ _ e
    refine q t l prs' _ (fun b o n e => k4 b o n (k3 b o n (s2 _ _ (s1 _ _ e)))) (s1.free ht) ?_ (fun p hp => s1.free (hq p hp).1) hnd hrows ⟨upd_same, ⟨k4 _ _ nat T3.l, fun p hp => k4 _ _ (nq p hp) (T3.r p hp)⟩, ?_, ?_, fun c hc => nomatch hc⟩
    · cases e : H l with
      | none => rfl
      | some o =>
        have := k3 l o nla (s2 _ _ (s1 _ _ e))
        rw [hl] at this
        cases this
    · rw [tabB_rows hrows]
      exact hg
    · rw [upd_ne nla]
      exact upd_same
theorem sc_kTable : FnScope ["self"] ["self"] (defScope (methOf dKeeper 3)) := ⟨rfl, rfl, rfl, by decide +kernel, rfl, by decide +kernel, by decide +kernel⟩
def spKTable (C : Addr) : Sp := fun vs H Q _ => ∃ (a dx t l : Addr) (prs : Prs) (cs : Ch), vs = [.ref a] ∧ Keep H C a dx t l prs cs ∧ NewTab H Q (prs.map (·.2))
theorem ok_kTable (kc : KpC K C) (D : MethDef K C "table" "Keeper.table" (methOf dKeeper 3) ["self"]) (G2 : FnAt P w K mg base 1 "copy_of" ["table"] spCopyN) : MtAt P w K mg base 2 C "table" ["self"] (spKTable C) := by
  refine MtAt.of D sc_kTable (fun vs H Q E h => ?_) (fun f cdv A outer s H vs Q E hr h => ?_)
  · obtain ⟨a, dx, t, l, prs, cs, rfl, _⟩ := h
    rfl
  · obtain ⟨a, dx, t, l, prs, cs, rfl, hk, q⟩ := h
    refine ⟨_, pss_one (ps_ret (pe_f G2 hr (pa_cons (pe_fld (pv 0) rfl) pa_nil))), ?_⟩
    exact ⟨_, rfl, a, C, dx, _, _, rfl, hk.ob, kc.cls, kc.nr, rfl, t, prs, rfl, hk.T, good_bounds hk.ok, q⟩
theorem sc_kChange : FnScope ["self", "cell", "x", "rows", "before"] ["self", "cell", "x"] (defScope (methOf dKeeper 1)) := ⟨rfl, rfl, rfl, by decide +kernel, rfl, by decide +kernel, by decide +kernel⟩
def spKChange (C : Addr) : Sp := fun vs H Q _ => ∃ (a dx t l c : Addr) (prs : Prs) (cs : Ch) (i j : Nat) (x : Int), vs = [.ref a, .ref c, .int x] ∧ Keep H C a dx t l prs cs ∧ Cell H c i j ∧ i < prs.length ∧ j < w0 prs ∧ cs.length < 1000 ∧ rowsOk (setR (prs.map (·.2)) i j x) = true ∧
  ∀ t' prs' u r H', H t' = none → (∀ p ∈ prs', H p.1 = none ∧ p.1 ≠ t') → (prs'.map (·.1)).Nodup → H u = none → H r = none → (∀ b o, b ≠ a → b ≠ l → H b = some o → H' b = some o) → prs'.map (·.2) = setR (prs.map (·.2)) i j x → H' r = some (.tup [.int ((rowAt prs i).getD j 0), .int x]) → r ≠ a → r ≠ l →
    Keep H' C a dx t' l prs' (cs ++ [(u, c, i, j, (rowAt prs i).getD j 0)]) → Q (.ref r) H'
theorem w0_set {prs prs' : Prs} {i j : Nat} {x : Int} (h : prs'.map (·.2) = setR (prs.map (·.2)) i j x) : prs'.length = prs.length ∧ w0 prs' = w0 prs := by
  have hl : prs'.length = prs.length := by
    have := congrArg List.length h
    unfold setR at this
    rw [List.length_set] at this
    simpa using this
  refine ⟨hl, ?_⟩
  have := congrArg (fun l : List (List Int) => (l.head?.map List.length).getD 0) h
  simp only [List.head?_map, Option.map_map] at this
  have e : w0 prs' = ((setR (prs.map (·.2)) i j x).head?.map List.length).getD 0 := this
  rw [e]
  unfold setR
  cases prs with
  | nil => rfl
  | cons p r =>
    cases i with
    | zero => simp [w0]
    | succ i => simp [w0]
set_option maxHeartbeats 16000000 in
theorem ok_kChange (kc : KpC K C) (D : MethDef K C "change" "Keeper.change" (methOf dKeeper 1) ["self", "cell", "x"]) (G1 : FnAt P w K mg base 6 "changed_table" ["table", "cell", "x"] spChanged) (G2 : FnAt P w K mg base 7 "number_at" ["table", "cell"] spNumberAt) : MtAt P w K mg base 8 C "change" ["self", "cell", "x"] (spKChange C) := by
  refine MtAt.of D sc_kChange (fun vs H Q E h => ?_) (fun f cdv A outer s H vs Q E hr h => ?_)
  · obtain ⟨a, dx, t, l, c, prs, cs, i, j, x, rfl, _⟩ := h
    rfl
  · obtain ⟨a, dx, t, l, c, prs, cs, i, j, x, rfl, hk, hc, hi, hj, hcl, ok, q⟩ := h
    have nd := sc_kChange.nd
    refine ⟨_, pss_cons (ps_set (i := 3) nd rfl (Or.inl rfl) (pe_f G1 (hr.mono (by decide)) (pa_cons (pe_fld (pv 0) rfl) (pa_cons (pv 1) (pa_cons (pv 2) pa_nil)))))
      (pss_cons (ps_set (i := 4) nd rfl (Or.inl rfl) (pe_f G2 hr (pa_cons (pe_fld (pv 0) rfl) (pa_cons (pv 1) pa_nil))))
      (pss_cons (ps_fld (pv 0) (pv 3) rfl)
      (pss_cons (ps_expr (pe_bm PySem.F.plainAttrs_list PySem.F.slot_list_append PySem.F.type_list_append mt_append (pe_fld (pv 0) rfl) (pa_cons (pe_tup (pa_cons (pv 1) (pa_cons (pv 4) pa_nil))) pa_nil)))
      (pss_one (ps_ret (pe_tup (pa_cons (pv 4) (pa_cons (pv 2) pa_nil)))))))), ?_⟩
    refine ⟨_, rfl, a, C, dx, _, _, rfl, hk.ob, kc.cls, kc.nr, rfl, _, rfl, _, rfl, t, c, prs, i, j, x, rfl, hk.T, hk.ok, hc, hi, hj, ok, fun t' prs' H1 ht' hq hnd s1 hT1 hrows => ?_⟩
    have hk1 := hk.same s1
    have hc1 : Cell H1 c i j := s1 _ _ hc
    refine ⟨_, rfl, a, C, dx, _, _, rfl, hk1.ob, kc.cls, kc.nr, rfl, _, rfl, t, c, prs, i, j, rfl, hk1.T, hk1.ok, hc1, hi, hj, fun H2 s2 => ?_⟩
    have hk2 := hk1.same s2
    have hc2 : Cell H2 c i j := s2 _ _ hc1
    have hT2 := hT1.same s2
    have nla : l ≠ a := fun z => by
      have h1 := hk.L
      have h2 := hk.ob
      rw [z, h2] at h1
      cases h1
    have nn : ∀ {y : Addr}, H y = none → y ≠ a ∧ y ≠ l := fun hy => ⟨(fun z => by rw [z, hk.ob] at hy; cases hy), (fun z => by rw [z, hk.L] at hy; cases hy)⟩
    refine ⟨_, rfl, _, rfl, a, C, dx, _, rfl, hk2.ob, kc.cls, kc.nr, (by show 2 < 1000; decide), ?_⟩
    have e3 : (upd H2 a (.ins C dx (putF "rows" (.ref t') [("rows", .ref t), ("changes", .ref l)]))) a = some (.ins C dx [("rows", .ref t'), ("changes", .ref l)]) := upd_same
    have k3 : ∀ b o, b ≠ a → H2 b = some o → (upd H2 a (.ins C dx (putF "rows" (.ref t') [("rows", .ref t), ("changes", .ref l)]))) b = some o := fun b o n e => by rw [upd_ne n]; exact e
    generalize upd H2 a (.ins C dx (putF "rows" (.ref t') [("rows", .ref t), ("changes", .ref l)])) = H3 at e3 k3 ⊢
    have L3 := k3 _ _ nla hk2.L
    refine ⟨_, rfl, a, C, dx, _, _, rfl, e3, kc.cls, kc.nc, rfl, .inl ⟨rfl, _, SqL.of L3⟩, _, rfl, _, rfl, len2, fun u hu => ?_⟩
    have nu : u ≠ a ∧ u ≠ l := ⟨(fun z => by rw [z, e3] at hu; cases hu), (fun z => by rw [z, L3] at hu; cases hu)⟩
    refine ⟨l, _, _, rfl, rfl, (Same.new hu) _ _ L3, (by rw [List.length_map]; exact small1000 (by omega)), ?_⟩
    have k5 : ∀ b o, b ≠ l → H3 b = some o → (upd (upd H3 u (.tup [.ref c, .int ((rowAt prs i).getD j 0)])) l (.lst ((cs.map fun c => V.ref c.1) ++ [.ref u]))) b = some o := fun b o n e => by
      rw [upd_ne n]
      exact (Same.new hu) _ _ e
    have eu : (upd (upd H3 u (.tup [.ref c, .int ((rowAt prs i).getD j 0)])) l (.lst ((cs.map fun c => V.ref c.1) ++ [.ref u]))) u = some (.tup [.ref c, .int ((rowAt prs i).getD j 0)]) := by
      rw [upd_ne nu.2]
      exact upd_same
    have el : (upd (upd H3 u (.tup [.ref c, .int ((rowAt prs i).getD j 0)])) l (.lst ((cs.map fun c => V.ref c.1) ++ [.ref u]))) l = some (.lst ((cs ++ [(u, c, i, j, (rowAt prs i).getD j 0)]).map fun c => V.ref c.1)) := by
      rw [upd_same, List.map_append]
      rfl
    generalize upd (upd H3 u (.tup [.ref c, .int ((rowAt prs i).getD j 0)])) l (.lst ((cs.map fun c => V.ref c.1) ++ [.ref u])) = H5 at k5 eu el ⊢
    have up : ∀ b o, b ≠ a → b ≠ l → H2 b = some o → H5 b = some o := fun b o n1 n2 e => k5 b o n2 (k3 b o n1 e)
    have hu0 : H u = none := by
      cases e : H u with
      | none => rfl
      | some o =>
        have := k3 u o nu.1 (s2 _ _ (s1 _ _ e))
        rw [hu] at this
        cases this
    refine ⟨_, rfl, _, rfl, len2, fun r hr' => ?_⟩
    have nr : r ≠ a ∧ r ≠ l := ⟨(fun z => by rw [z, k5 _ _ (Ne.symm nla) e3] at hr'; cases hr'), (fun z => by rw [z, el] at hr'; cases hr')⟩
    have hr0 : H r = none := by
      cases e : H r with
      | none => rfl
      | some o =>
        have := up r o nr.1 nr.2 (s2 _ _ (s1 _ _ e))
        rw [hr'] at this
        cases this
    have s6 := Same.new (o := .tup [.int ((rowAt prs i).getD j 0), .int x]) hr'
    obtain ⟨wl, ww⟩ := w0_set hrows
    refine q t' prs' u r _ ht' hq hnd hu0 hr0 (fun b o n1 n2 e => s6 _ _ (up b o n1 n2 (s2 _ _ (s1 _ _ e)))) hrows upd_same nr.1 nr.2 ⟨s6 _ _ (k5 _ _ (Ne.symm nla) e3), ⟨s6 _ _ (up _ _ (nn ht').1 (nn ht').2 hT2.l), fun p hp => s6 _ _ (up _ _ (nn (hq p hp).1).1 (nn (hq p hp).1).2 (hT2.r p hp))⟩, ?_, s6 _ _ el, fun y hy => ?_⟩
    · rw [rowsOk_of hrows]
      exact ok
    · have cel : ∀ {y : Addr} {i' j' : Nat}, Cell H2 y i' j' → Cell H5 y i' j' := fun {y i' j'} hy => up _ _ (fun z => by
          have h1 := hk2.ob
          rw [← z] at h1
          have h2 : H2 y = _ := hy
          rw [h2] at h1
          cases h1) (fun z => by
          have h1 := hk2.L
          rw [← z] at h1
          have h2 : H2 y = _ := hy
          rw [h2] at h1
          cases h1) hy
      rcases List.mem_append.mp hy with z | z
      · obtain ⟨z1, z2, z3, z4⟩ := hk2.ch y z
        refine ⟨s6 _ _ (up _ _ (fun e => ?_) (fun e => ?_) z1), s6 _ _ (cel z2), by omega, by omega⟩
        · have h1 := hk2.ob
          rw [← e, z1] at h1
          cases h1
        · have h1 := hk2.L
          rw [← e, z1] at h1
          cases h1
      · have : y = (u, c, i, j, (rowAt prs i).getD j 0) := by simpa using z
        subst this
        exact ⟨s6 _ _ eu, s6 _ _ (cel hc2), by show i < _; omega, by show j < _; omega⟩
end
def CellI (H : Hp) (c : Addr) (a b : Int) : Prop := H c = some (.tup [.int a, .int b])
def inT (r p : Nat) (a b : Int) : Bool := decide (0 ≤ a ∧ a < (r : Int)) && decide (0 ≤ b ∧ b < (p : Int))
section
variable {P : Program} {w : World} {K : PySem.W.Frag} {mg : Str → Option Value} {base : Heap}
def spAllWholeI : Sp := fun vs H Q _ => ∃ (c : Addr) (a b : Int), vs = [.ref c] ∧ CellI H c a b ∧ ∀ H', Same H H' → Q (.bl true) H'
theorem ok_allWholeI (T : Blt mg) (D : DefAt K mg "all_whole" dAllWhole ["things"]) (G1 : FnAt P w K mg base 1 "is_whole" ["thing"] spIsWhole) : FnAt P w K mg base 2 "all_whole" ["things"] spAllWholeI := by
  refine FnAt.of D sc_allWhole (fun vs H Q E h => ?_) (fun f cdv A outer s H vs Q E hr h => ?_)
  · obtain ⟨c, i, j, rfl, _⟩ := h
    rfl
  · obtain ⟨c, i, j, rfl, hC, q⟩ := h
    have nd1 : (["thing"] : List Str).Nodup := by decide +kernel
    refine ⟨_, pss_one (ps_ret (pe_b (call_all rfl) T.all boot_all (pa_cons (pe_comp ["thing"] [none] (defScope dAllWhole) ["things"] rfl (pi_tup (pv 0)) (by decide +kernel)
      (fun cl C s2 H2 ex => pg_c 0 nd1) (fun cl C s2 H2 ex => pifs_nil) (fun cl C s2 H2 ex => pe_f G1 hr (pa_cons (pv 0) pa_nil))) pa_nil))), ?_⟩
    refine ⟨_, rfl, c, rfl, ⟨_, SqT.of hC⟩, comp_tup V.int (ms := [i, j]) (fun _ => .bl true) (SqT.of hC) (by show 2 ≤ sizeLine; decide) (fun n _ H' Q' sm q' => ?_) fun L H' hL sm hLl => ?_⟩
    · exact ⟨_, rfl, n, rfl, q' _ (Same.refl _)⟩
    · exact ⟨L, [true, true], rfl, SqL.of hLl, q H' sm⟩
def spCellSzI : Sp := fun vs H Q _ => ∃ (c : Addr) (r p : Nat) (a b : Int), vs = [.int (r : Nat), .int (p : Nat), .ref c] ∧ CellI H c a b ∧ ∀ H', Same H H' → Q (.bl (inT r p a b)) H'
theorem ok_cellSzI (T : Blt mg) (htup : mg "tuple" = none) (D : DefAt K mg "is_cell_of_size" dCellSz ["rows", "places", "thing"]) (G : FnAt P w K mg base 2 "all_whole" ["things"] spAllWholeI) : FnAt P w K mg base 3 "is_cell_of_size" ["rows", "places", "thing"] spCellSzI := by
  refine FnAt.of D sc_cellSz (fun vs H Q E h => ?_) (fun f cdv A outer s H vs Q E hr h => ?_)
  · obtain ⟨c, r, p, i, j, rfl, _⟩ := h
    rfl
  · obtain ⟨c, r, p, a, b, rfl, hC, q⟩ := h
    refine ⟨_, pss_cons (ps_if (PW.pt (pw_or (pt_not (pt_val (pe_b call_isinst T.isinst boot_isinstance (pa_cons (pv 2) (pa_cons (pe_ty htup boot_tuple) pa_nil))))) (pw_or (pt_cmpR op_ne (pe_b call_len_seq T.len boot_len (pa_cons (pv 2) pa_nil)) pe_int (nomark _)) (pw_or1 (pt_not (pt_val (pe_f G hr (pa_cons (pv 2) pa_nil)))))))) (pss_one (ps_ret pe_bl)) pss_nil)
      (pss_one (ps_ret (pe_and (pe_chain o_le o_lt pe_int (pe_ix ix_tup (pv 2) pe_int (fun _ _ => rfl)) (pv 0))
        (pe_one (pe_chain o_le o_lt pe_int (pe_ix ix_tup (pv 2) pe_int (fun _ _ => rfl)) (pv 1)))))), ?_⟩
    refine ⟨_, rfl, _, _, _, _, rfl, .tup hC, kit_tt _, _, rfl, iteF ⟨_, rfl, c, _, rfl, .inr (SqT.of hC), rfl, _, rfl, ?_⟩⟩
    refine iteF ⟨_, rfl, c, a, b, rfl, hC, fun H1 s1 => ⟨_, rfl, iteF ?_⟩⟩
    have hC1 : CellI H1 c a b := s1 _ _ hC
    have q1 := q H1 s1
    unfold inT at q1
    refine ⟨_, rfl, c, _, 0, .int a, rfl, rfl, SqT.of hC1, rfl, _, _, rfl, rfl, _, rfl, ?_⟩
    by_cases h1 : (0 : Int) ≤ a
    · rw [decide_eq_true h1]
      refine iteT ⟨_, rfl, _, _, rfl, rfl, _, rfl, ?_⟩
      by_cases h2 : a < (r : Int)
      · rw [decide_eq_true h2]
        refine iteT ⟨_, rfl, c, _, 1, .int b, rfl, rfl, SqT.of hC1, rfl, _, _, rfl, rfl, _, rfl, ?_⟩
        rw [decide_eq_true (show 0 ≤ a ∧ a < (r : Int) from ⟨h1, h2⟩), Bool.true_and] at q1
        by_cases h3 : (0 : Int) ≤ b
        · rw [decide_eq_true h3]
          refine iteT ⟨_, rfl, _, _, rfl, rfl, ?_⟩
          have : decide (0 ≤ b ∧ b < (p : Int)) = decide (b < (p : Int)) := decide_eq_decide.mpr ⟨fun z => z.2, fun z => ⟨h3, z⟩⟩
          rw [this] at q1
          exact q1
        · rw [decide_eq_false h3]
          refine iteF ?_
          rw [decide_eq_false (show ¬(0 ≤ b ∧ b < (p : Int)) from fun z => h3 z.1)] at q1
          exact q1
      · rw [decide_eq_false h2]
        refine iteF ?_
        rw [decide_eq_false (show ¬(0 ≤ a ∧ a < (r : Int)) from fun z => h2 z.2), Bool.false_and] at q1
        exact q1
    · rw [decide_eq_false h1]
      refine iteF ⟨_, rfl, iteF ?_⟩
      rw [decide_eq_false (show ¬(0 ≤ a ∧ a < (r : Int)) from fun z => h1 z.1), Bool.false_and] at q1
      exact q1
def spIsCellI : Sp := fun vs H Q _ => ∃ (t c : Addr) (prs : Prs) (a b : Int), vs = [.ref t, .ref c] ∧ Tab H t prs ∧ tabB prs = true ∧ CellI H c a b ∧ ∀ H', Same H H' → Q (.bl (inT prs.length (w0 prs) a b)) H'
theorem ok_isCellI (T : Blt mg) (D : DefAt K mg "is_cell" dIsCell ["table", "thing"]) (G : FnAt P w K mg base 3 "is_cell_of_size" ["rows", "places", "thing"] spCellSzI) : FnAt P w K mg base 4 "is_cell" ["table", "thing"] spIsCellI := by
  refine FnAt.of D sc_isCell (fun vs H Q E h => ?_) (fun f cdv A outer s H vs Q E hr h => ?_)
  · obtain ⟨t, c, prs, i, j, rfl, _⟩ := h
    rfl
  · obtain ⟨t, c, prs, i, j, rfl, hT, hg, hC, q⟩ := h
    obtain ⟨g, g1, g2, g3, g4⟩ := good_of hg
    obtain ⟨p0, hp0, hm0, hx0⟩ := head_at (prs := prs) g1
    refine ⟨_, pss_one (ps_ret (pe_f G hr (pa_cons (pe_b call_len_seq T.len boot_len (pa_cons (pv 0) pa_nil)) (pa_cons (pe_b call_len_seq T.len boot_len (pa_cons (pe_ix ix_list (pv 0) pe_int (fun _ _ => rfl)) pa_nil)) (pa_cons (pv 1) pa_nil))))), ?_⟩
    exact ⟨_, rfl, t, _, rfl, .inl hT.sq, _, rfl, t, _, 0, .ref p0.1, rfl, rfl, hT.sq, atI_nat (j := 0) (by rw [List.getElem?_map, hx0]; rfl), p0.1, _, rfl, .inl (hT.r p0 hm0).sq, _, rfl, c, prs.length, w0 prs, i, j, by rw [List.length_map, List.length_map, g.len p0 hm0], hC, q⟩
abbrev CsI := List (Addr × Int × Int)
def numI (prs : Prs) (c : Addr × Int × Int) : Int := (rowAt prs c.2.1.toNat).getD c.2.2.toNat 0
def spBeside : Sp := fun vs H Q _ => ∃ (t b : Addr) (prs : Prs) (cs : CsI), vs = [.ref t, .ref b] ∧ Tab H t prs ∧ tabB prs = true ∧ H b = some (.lst (cs.map fun c => V.ref c.1)) ∧ cs.length ≤ 1000 ∧ (∀ c ∈ cs, CellI H c.1 c.2.1 c.2.2) ∧
  ∀ L H', H L = none → Same H H' → H' L = some (.lst (((cs.filter fun c => inT prs.length (w0 prs) c.2.1 c.2.2).map (numI prs)).map V.int)) → Q (.ref L) H'
theorem sc_beside : FnScope ["table", "beside"] ["table", "beside"] (defScope dBeside) := ⟨rfl, rfl, rfl, by decide +kernel, rfl, by decide +kernel, by decide +kernel⟩
theorem ok_beside (D : DefAt K mg "numbers_beside" dBeside ["table", "beside"]) (G1 : FnAt P w K mg base 4 "is_cell" ["table", "thing"] spIsCellI) (G2 : FnAt P w K mg base 7 "number_at" ["table", "cell"] spNumberAt) : FnAt P w K mg base 8 "numbers_beside" ["table", "beside"] spBeside := by
  refine FnAt.of D sc_beside (fun vs H Q E h => ?_) (fun f cdv A outer s H vs Q E hr h => ?_)
  · obtain ⟨t, b, prs, cs, rfl, _⟩ := h
    rfl
  · obtain ⟨t, b, prs, cs, rfl, hT, hg, hb, hl, hc, q⟩ := h
    have nd1 : (["cell", "table"] : List Str).Nodup := by decide +kernel
    refine ⟨_, pss_one (ps_ret (pe_comp ["cell", "table"] [none, some 0] (defScope dBeside) ["table", "beside"] rfl (pi_list (pv 1)) (by decide +kernel)
      (fun cl C s2 H2 ex => pg_c 0 nd1) (fun cl C s2 H2 ex => pifs_one (pt_val (pe_f G1 (hr.mono (by decide)) (pa_cons (pv 1) (pa_cons (pv 0) pa_nil))))) (fun cl C s2 H2 ex => pe_f G2 hr (pa_cons (pv 1) (pa_cons (pv 0) pa_nil))))), ?_⟩
    refine ⟨_, rfl, b, rfl, ⟨_, SqL.of hb⟩, comp_of (fun c : Addr × Int × Int => V.ref c.1) (fun c => inT prs.length (w0 prs) c.2.1 c.2.2) (fun c => .int (numI prs c)) (SqL.of hb) (Nat.le_of_lt (small1000 hl)) (fun c hcm H' Q' sm q' => ?_) (fun c hcm hin H' Q' sm q' => ?_) fun L H' hL sm hLl => q L H' hL sm (by rw [List.map_map]; exact hLl)⟩
    · exact ⟨_, rfl, _, rfl, t, c.1, prs, c.2.1, c.2.2, rfl, hT.same sm, hg, sm _ _ (hc c hcm), fun H2 s2 => ⟨_, rfl, q' H2 s2⟩⟩
    · unfold inT at hin
      rw [Bool.and_eq_true, decide_eq_true_eq, decide_eq_true_eq] at hin
      obtain ⟨⟨h1, h2⟩, h3, h4⟩ := hin
      have e1 : ((c.2.1.toNat : Nat) : Int) = c.2.1 := Int.toNat_of_nonneg h1
      have e2 : ((c.2.2.toNat : Nat) : Int) = c.2.2 := Int.toNat_of_nonneg h3
      refine ⟨_, rfl, _, rfl, t, c.1, prs, c.2.1.toNat, c.2.2.toNat, rfl, hT.same sm, hg, ?_, by omega, by omega, q'⟩
      unfold Cell
      rw [e1, e2]
      exact sm _ _ (hc c hcm)
end
def cellR (rows : List (List Int)) (i j : Nat) : Int := (rows.getD i []).getD j 0
def wR (rows : List (List Int)) : Nat := (rows.getD 0 []).length
def aheadL (rows : List (List Int)) (i j : Nat) : List Int := (if 0 < i then [cellR rows (i - 1) j] else []) ++ (if 0 < j then [cellR rows i (j - 1)] else [])
def behindL (rows : List (List Int)) (i j : Nat) : List Int := (if i + 1 < rows.length then [cellR rows (i + 1) j] else []) ++ (if j + 1 < wR rows then [cellR rows i (j + 1)] else [])
def oV : Option Int → V
  | none => .non
  | some n => .int n
theorem max_is {ns : List Int} {M : Int} (h1 : M ∈ ns) (h2 : ∀ a ∈ ns, a ≤ M) : ns.max? = some M := by
  rw [List.max?_eq_some_iff]
  exact ⟨h1, h2⟩
theorem min_is {ns : List Int} {M : Int} (h1 : M ∈ ns) (h2 : ∀ a ∈ ns, M ≤ a) : ns.min? = some M := by
  rw [List.min?_eq_some_iff]
  exact ⟨h1, h2⟩
theorem rowAt_rows (prs : Prs) (i : Nat) : rowAt prs i = (prs.map (·.2)).getD i [] := by
  unfold rowAt
  rw [List.getD_eq_getElem?_getD, List.getElem?_map]
theorem cellR_at (prs : Prs) (i j : Nat) : cellR (prs.map (·.2)) i j = (rowAt prs i).getD j 0 := by
  unfold cellR
  rw [rowAt_rows]
theorem wR_w0 (prs : Prs) : wR (prs.map (·.2)) = w0 prs := by
  cases prs <;> rfl
theorem filt2 {prs : Prs} (a b : Addr) (x1 y1 x2 y2 : Int) : (([(a, x1, y1), (b, x2, y2)] : CsI).filter fun c => inT prs.length (w0 prs) c.2.1 c.2.2).map (numI prs) =
    (if inT prs.length (w0 prs) x1 y1 = true then [(rowAt prs x1.toNat).getD y1.toNat 0] else []) ++ (if inT prs.length (w0 prs) x2 y2 = true then [(rowAt prs x2.toNat).getD y2.toNat 0] else []) := by
  rw [List.filter_cons, List.filter_cons, List.filter_nil]
  cases inT prs.length (w0 prs) x1 y1 <;> cases inT prs.length (w0 prs) x2 y2 <;> rfl
theorem ahead_is {prs : Prs} (a b : Addr) {i j : Nat} (hi : i < prs.length) (hj : j < w0 prs) :
    (([(a, (i : Int) - 1, (j : Int)), (b, (i : Int), (j : Int) - 1)] : CsI).filter fun c => inT prs.length (w0 prs) c.2.1 c.2.2).map (numI prs) = aheadL (prs.map (·.2)) i j := by
  rw [filt2]
  unfold aheadL
  rw [cellR_at, cellR_at]
  have e1 : inT prs.length (w0 prs) ((i : Int) - 1) (j : Int) = decide (0 < i) := by
    unfold inT
    rw [← Bool.decide_and]
    exact decide_eq_decide.mpr (by omega)
  have e2 : inT prs.length (w0 prs) (i : Int) ((j : Int) - 1) = decide (0 < j) := by
    unfold inT
    rw [← Bool.decide_and]
    exact decide_eq_decide.mpr (by omega)
  rw [e1, e2]
  simp only [decide_eq_true_eq]
  rw [show ((i : Int) - 1).toNat = i - 1 by omega, show ((j : Int) - 1).toNat = j - 1 by omega, Int.toNat_natCast, Int.toNat_natCast]
theorem behind_is {prs : Prs} (a b : Addr) {i j : Nat} (hi : i < prs.length) (hj : j < w0 prs) :
    (([(a, (i : Int) + 1, (j : Int)), (b, (i : Int), (j : Int) + 1)] : CsI).filter fun c => inT prs.length (w0 prs) c.2.1 c.2.2).map (numI prs) = behindL (prs.map (·.2)) i j := by
  rw [filt2]
  unfold behindL
  rw [cellR_at, cellR_at, wR_w0, List.length_map]
  have e1 : inT prs.length (w0 prs) ((i : Int) + 1) (j : Int) = decide (i + 1 < prs.length) := by
    unfold inT
    rw [← Bool.decide_and]
    exact decide_eq_decide.mpr (by omega)
  have e2 : inT prs.length (w0 prs) (i : Int) ((j : Int) + 1) = decide (j + 1 < w0 prs) := by
    unfold inT
    rw [← Bool.decide_and]
    exact decide_eq_decide.mpr (by omega)
  rw [e1, e2]
  simp only [decide_eq_true_eq]
  rw [show ((i : Int) + 1).toNat = i + 1 by omega, show ((j : Int) + 1).toNat = j + 1 by omega, Int.toNat_natCast, Int.toNat_natCast]
section
variable {P : Program} {w : World} {K : PySem.W.Frag} {mg : Str → Option Value} {base : Heap} {C : Addr}
def SpanTo (H : Hp) (Q : VK) (rows : List (List Int)) (i j : Nat) : Prop := ∀ r H', H r = none → Same H H' → H' r = some (.tup [oV (aheadL rows i j).max?, oV (behindL rows i j).min?]) → Q (.ref r) H'
def spSpan : Sp := fun vs H Q _ => ∃ (t c : Addr) (prs : Prs) (i j : Nat), vs = [.ref t, .ref c] ∧ Tab H t prs ∧ tabB prs = true ∧ Cell H c i j ∧ i < prs.length ∧ j < w0 prs ∧ SpanTo H Q (prs.map (·.2)) i j
theorem sc_span : FnScope ["table", "cell", "row", "place", "ahead", "behind"] ["table", "cell"] (defScope dSpan) := ⟨rfl, rfl, rfl, by decide +kernel, rfl, by decide +kernel, by decide +kernel⟩
set_option maxHeartbeats 16000000 in
theorem ok_span (T : Blt mg) (hmin : mg "min" = none) (D : DefAt K mg "span_of" dSpan ["table", "cell"]) (G1 : FnAt P w K mg base 5 "need_cell" ["table", "thing"] spNeedCell) (G2 : FnAt P w K mg base 8 "numbers_beside" ["table", "beside"] spBeside) : FnAt P w K mg base 9 "span_of" ["table", "cell"] spSpan := by
  refine FnAt.of D sc_span (fun vs H Q E h => ?_) (fun f cdv A outer s H vs Q E hr h => ?_)
  · obtain ⟨t, c, prs, i, j, rfl, _⟩ := h
    rfl
  · obtain ⟨t, c, prs, i, j, rfl, hT, hg, hC, hi, hj, q⟩ := h
    have nd := sc_span.nd
    refine ⟨_, pss_cons (ps_expr (pe_f G1 (hr.mono (by decide)) (pa_cons (pv 0) (pa_cons (pv 1) pa_nil))))
      (pss_cons (ps_set (i := 2) nd rfl (Or.inl rfl) (pe_ix ix_tup (pv 1) pe_int (fun _ _ => rfl)))
      (pss_cons (ps_set (i := 3) nd rfl (Or.inl rfl) (pe_ix ix_tup (pv 1) pe_int (fun _ _ => rfl)))
      (pss_cons (ps_set (i := 4) nd rfl (Or.inl rfl) (pe_f G2 hr (pa_cons (pv 0) (pa_cons (pe_lst (pa_cons (pe_tup (pa_cons (pe_op o_sub (pv 2) pe_int) (pa_cons (pv 3) pa_nil))) (pa_cons (pe_tup (pa_cons (pv 2) (pa_cons (pe_op o_sub (pv 3) pe_int) pa_nil))) pa_nil))) pa_nil))))
      (pss_cons (ps_set (i := 5) nd rfl (Or.inl rfl) (pe_f G2 hr (pa_cons (pv 0) (pa_cons (pe_lst (pa_cons (pe_tup (pa_cons (pe_op o_add (pv 2) pe_int) (pa_cons (pv 3) pa_nil))) (pa_cons (pe_tup (pa_cons (pv 2) (pa_cons (pe_op o_add (pv 3) pe_int) pa_nil))) pa_nil))) pa_nil))))
      (pss_one (ps_ret (pe_tup (pa_cons (pe_maxD rfl rfl T.max (pv 4) pe_non) (pa_cons (pe_minD rfl rfl hmin (pv 5) pe_non) pa_nil))))))))), ?_⟩
    refine ⟨_, rfl, _, rfl, t, c, prs, i, j, rfl, hT, hg, hC, hi, hj, fun H1 s1 => ?_⟩
    have hC1 : Cell H1 c i j := s1 _ _ hC
    have hT1 := hT.same s1
    refine ⟨_, rfl, c, _, 0, .int (i : Nat), rfl, rfl, SqT.of hC1, rfl, _, rfl, c, _, 1, .int (j : Nat), rfl, rfl, SqT.of hC1, rfl, ?_⟩
    refine ⟨_, rfl, _, rfl, _, _, rfl, rfl, _, rfl, len2, fun u1 hu1 => ⟨_, rfl, _, rfl, _, _, rfl, rfl, len2, fun u2 hu2 => ⟨len2, fun l hl => ?_⟩⟩⟩
    have m1 := Same.new (o := .tup [.int ((i : Int) - 1), .int (j : Nat)]) hu1
    have m2 := Same.new (o := .tup [.int (i : Nat), .int ((j : Int) - 1)]) hu2
    have m3 := Same.new (o := .lst [.ref u1, .ref u2]) hl
    refine ⟨t, l, prs, [(u1, (i : Int) - 1, (j : Int)), (u2, (i : Int), (j : Int) - 1)], rfl, ((hT1.same m1).same m2).same m3, hg, upd_same, (by show 2 ≤ 1000; decide), fun c hc => ?_, fun L H2 hL s2 eL => ?_⟩
    · rcases List.mem_cons.mp hc with z | hc
      · rw [z]
        exact m3 _ _ (m2 _ _ upd_same)
      · rcases List.mem_cons.mp hc with z | hc
        · rw [z]
          exact m3 _ _ upd_same
        · cases hc
    rw [ahead_is u1 u2 hi hj] at eL
    have s12 : Same H1 H2 := ((m1.trans m2).trans m3).trans s2
    generalize hH : upd (upd (upd H1 u1 _) u2 _) l _ = Hx at s2 hL
    clear hH m3 m2 m1
    have hT2 := hT1.same s12
    refine ⟨_, rfl, _, rfl, _, _, rfl, rfl, _, rfl, len2, fun u3 hu3 => ⟨_, rfl, _, rfl, _, _, rfl, rfl, len2, fun u4 hu4 => ⟨len2, fun l2 hl2 => ?_⟩⟩⟩
    have m1 := Same.new (o := .tup [.int ((i : Int) + 1), .int (j : Nat)]) hu3
    have m2 := Same.new (o := .tup [.int (i : Nat), .int ((j : Int) + 1)]) hu4
    have m3 := Same.new (o := .lst [.ref u3, .ref u4]) hl2
    refine ⟨t, l2, prs, [(u3, (i : Int) + 1, (j : Int)), (u4, (i : Int), (j : Int) + 1)], rfl, ((hT2.same m1).same m2).same m3, hg, upd_same, (by show 2 ≤ 1000; decide), fun c hc => ?_, fun L2 H3 hL2 s3 eL2 => ?_⟩
    · rcases List.mem_cons.mp hc with z | hc
      · rw [z]
        exact m3 _ _ (m2 _ _ upd_same)
      · rcases List.mem_cons.mp hc with z | hc
        · rw [z]
          exact m3 _ _ upd_same
        · cases hc
    rw [behind_is u3 u4 hi hj] at eL2
    have s23 : Same H2 H3 := ((m1.trans m2).trans m3).trans s3
    have s13 := s12.trans s23
    have eL3 := s23 _ _ eL
    have fin : ∀ r, H3 r = none → Q (.ref r) (upd H3 r (.tup [oV (aheadL (prs.map (·.2)) i j).max?, oV (behindL (prs.map (·.2)) i j).min?])) := fun r hr => q r _ ((s1.trans s13).free hr) ((s1.trans s13).trans (Same.new hr)) upd_same
    have key : ∀ v1, v1 = oV (aheadL (prs.map (·.2)) i j).max? → rDef K (fun a M => M ≤ a) [.ref L2] [.non] H3 (fun v2 H4 => [v1, v2].length ≤ sizeLine ∧ ∀ r, H4 r = none → Q (.ref r) (upd H4 r (.tup [v1, v2]))) := by
      intro v1 e1
      subst e1
      refine ⟨L2, _, .non, rfl, rfl, SqL.of eL2, fun z => ⟨len2, fun r hr => ?_⟩, fun _ M h1 h2 => ⟨len2, fun r hr => ?_⟩⟩
      · have := fin r hr
        rw [z] at this
        exact this
      · have := fin r hr
        rw [min_is h1 h2] at this
        exact this
    refine ⟨_, rfl, L, _, .non, rfl, rfl, SqL.of eL3, fun z => ⟨_, rfl, ?_⟩, fun _ M h1 h2 => ⟨_, rfl, ?_⟩⟩
    · exact key .non (by rw [z]; rfl)
    · exact key (.int M) (by rw [max_is h1 h2]; rfl)
theorem sc_kSpan : FnScope ["self", "cell"] ["self", "cell"] (defScope (methOf dKeeper 6)) := ⟨rfl, rfl, rfl, by decide +kernel, rfl, by decide +kernel, by decide +kernel⟩
def spKSpan (C : Addr) : Sp := fun vs H Q _ => ∃ (a dx t l c : Addr) (prs : Prs) (cs : Ch) (i j : Nat), vs = [.ref a, .ref c] ∧ Keep H C a dx t l prs cs ∧ Cell H c i j ∧ i < prs.length ∧ j < w0 prs ∧ SpanTo H Q (prs.map (·.2)) i j
theorem ok_kSpan (kc : KpC K C) (D : MethDef K C "span" "Keeper.span" (methOf dKeeper 6) ["self", "cell"]) (G : FnAt P w K mg base 9 "span_of" ["table", "cell"] spSpan) : MtAt P w K mg base 10 C "span" ["self", "cell"] (spKSpan C) := by
  refine MtAt.of D sc_kSpan (fun vs H Q E h => ?_) (fun f cdv A outer s H vs Q E hr h => ?_)
  · obtain ⟨a, dx, t, l, c, prs, cs, i, j, rfl, _⟩ := h
    rfl
  · obtain ⟨a, dx, t, l, c, prs, cs, i, j, rfl, hk, hc, hi, hj, q⟩ := h
    refine ⟨_, pss_one (ps_ret (pe_f G hr (pa_cons (pe_fld (pv 0) rfl) (pa_cons (pv 1) pa_nil)))), ?_⟩
    exact ⟨_, rfl, a, C, dx, _, _, rfl, hk.ob, kc.cls, kc.nr, rfl, _, rfl, t, c, prs, i, j, rfl, hk.T, hk.ok, hc, hi, hj, q⟩
end
def flatP (prs : Prs) : List Int := (prs.map (·.2)).flatten
theorem flatP_cons (p : Addr × List Int) (r : Prs) : flatP (p :: r) = p.2 ++ flatP r := rfl
def entR (i : Nat) (ns : List Int) (k : Nat) : List (List Int) := (List.range k).map fun j => [ns.getD j 0, (i : Int), (j : Int)]
def entsUp (prs : Prs) : Nat → List (List Int)
  | 0 => []
  | i + 1 => entsUp prs i ++ entR i (rowAt prs i) (rowAt prs i).length
theorem entR_succ (i : Nat) (ns : List Int) (k : Nat) : entR i ns (k + 1) = entR i ns k ++ [[ns.getD k 0, (i : Int), (k : Int)]] := by
  unfold entR
  rw [List.range_succ, List.map_append]
  rfl
theorem entR_len (i : Nat) (ns : List Int) (k : Nat) : (entR i ns k).length = k := by
  unfold entR
  rw [List.length_map, List.length_range]
theorem entsUp_mem {prs : Prs} {e : List Int} : ∀ {i : Nat}, e ∈ entsUp prs i → ∃ n r p : Int, e = [n, r, p]
  | 0, h => nomatch h
  | i + 1, h => by
    rcases List.mem_append.mp h with z | z
    · exact entsUp_mem z
    · obtain ⟨j, _, rfl⟩ := List.mem_map.mp z
      exact ⟨_, _, _, rfl⟩
def hdI (e : List Int) : Int := e.getD 0 0
theorem range_getD : ∀ ns : List Int, (List.range ns.length).map (fun j => ns.getD j 0) = ns := fun ns => by
  apply List.ext_getElem (by simp)
  intro i h1 h2
  simp [h2]
theorem entR_heads (i : Nat) (ns : List Int) : (entR i ns ns.length).map hdI = ns := by
  unfold entR
  rw [List.map_map]
  exact range_getD ns
theorem entsUp_heads (prs : Prs) : ∀ i, i ≤ prs.length → (entsUp prs i).map hdI = flatP (prs.take i)
  | 0, _ => by simp [entsUp, flatP]
  | i + 1, h => by
    have ih := entsUp_heads prs i (by omega)
    show (entsUp prs i ++ _).map hdI = _
    rw [List.map_append, ih, entR_heads]
    unfold flatP rowAt
    rw [List.take_add_one, List.getElem?_eq_getElem (by omega), List.map_append, List.flatten_append]
    simp
theorem entsUp_flat (prs : Prs) : (entsUp prs prs.length).map hdI = flatP prs := by
  rw [entsUp_heads prs _ (Nat.le_refl _), List.take_length]
theorem lex_heads {e f : List Int} (he : ∃ n r p : Int, e = [n, r, p]) (hf : ∃ n r p : Int, f = [n, r, p]) (h : HT.lexLt f e = false) : hdI e ≤ hdI f := by
  obtain ⟨n, r, p, rfl⟩ := he
  obtain ⟨m, r', p', rfl⟩ := hf
  rw [HT.lexLt_cons] at h
  show n ≤ m
  by_cases z : m = n
  · omega
  · rw [if_neg z] at h
    have := of_decide_eq_false h
    omega
structure Sorted (prs : Prs) (fs : List (List Int)) : Prop where
  pm : fs.Perm (entsUp prs prs.length)
  up : fs.Pairwise (fun r q => HT.lexLt q r = false)
theorem Sorted.heads {prs : Prs} {fs : List (List Int)} (h : Sorted prs fs) : (fs.map hdI).Perm (flatP prs) ∧ (fs.map hdI).Pairwise (· ≤ ·) := by
  refine ⟨?_, ?_⟩
  · rw [← entsUp_flat]
    exact h.pm.map hdI
  · rw [List.pairwise_map]
    refine List.Pairwise.imp_of_mem (fun {a b} ha hb z => ?_) h.up
    exact lex_heads (entsUp_mem (h.pm.subset ha)) (entsUp_mem (h.pm.subset hb)) z
theorem entsUp_rows {prs qs : Prs} (h : qs.map (·.2) = prs.map (·.2)) : ∀ i, entsUp qs i = entsUp prs i
  | 0 => rfl
  | i + 1 => by
    have e : rowAt qs i = rowAt prs i := by
      unfold rowAt
      rw [← List.getElem?_map, ← List.getElem?_map, h]
    show entsUp qs i ++ _ = entsUp prs i ++ _
    rw [entsUp_rows h i, e]
theorem Sorted.rows {prs qs : Prs} {fs : List (List Int)} (h : qs.map (·.2) = prs.map (·.2)) (s : Sorted qs fs) : Sorted prs fs := by
  have hl : qs.length = prs.length := by
    have := congrArg List.length h
    simpa using this
  refine ⟨?_, s.up⟩
  have := s.pm
  rw [entsUp_rows h, hl] at this
  exact this
theorem flatP_len {prs : Prs} {wide : Nat} (h : ∀ p ∈ prs, p.2.length = wide) : (flatP prs).length = prs.length * wide := by
  induction prs with
  | nil => simp [flatP]
  | cons p r ih =>
    rw [flatP_cons, List.length_append, h p (by simp), ih fun q hq => h q (by simp [hq]), List.length_cons, Nat.add_mul, Nat.one_mul, Nat.add_comm]
theorem Sorted.len {prs : Prs} {fs : List (List Int)} (s : Sorted prs fs) : fs.length = (flatP prs).length := by
  have := s.heads.1.length_eq
  rw [List.length_map] at this
  exact this
abbrev Es := List (Addr × List Int)
def EntAt (H : Hp) (e : Addr × List Int) : Prop := H e.1 = some (.tup (e.2.map V.int))
section
variable {P : Program} {w : World} {K : PySem.W.Frag} {mg : Str → Option Value} {base : Heap}
def spMany : Sp := fun vs H Q _ => ∃ (t : Addr) (prs : Prs), vs = [.ref t] ∧ Tab H t prs ∧ tabB prs = true ∧ Q (.int ((prs.length : Int) * (w0 prs : Int))) H
theorem sc_many : FnScope ["table"] ["table"] (defScope dMany) := ⟨rfl, rfl, rfl, by decide +kernel, rfl, by decide +kernel, by decide +kernel⟩
theorem ok_many (T : Blt mg) (D : DefAt K mg "how_many_cells" dMany ["table"]) : FnAt P w K mg base 1 "how_many_cells" ["table"] spMany := by
  refine FnAt.of D sc_many (fun vs H Q E h => ?_) (fun f cdv A outer s H vs Q E hr h => ?_)
  · obtain ⟨t, prs, rfl, _⟩ := h
    rfl
  · obtain ⟨t, prs, rfl, hT, hg, q⟩ := h
    obtain ⟨g, g1, g2, g3, g4⟩ := good_of hg
    obtain ⟨p0, hp0, hm0, hx0⟩ := head_at (prs := prs) g1
    refine ⟨_, pss_one (ps_ret (pe_op o_mul (pe_b call_len_seq T.len boot_len (pa_cons (pv 0) pa_nil)) (pe_b call_len_seq T.len boot_len (pa_cons (pe_ix ix_list (pv 0) pe_int (fun _ _ => rfl)) pa_nil)))), ?_⟩
    refine ⟨_, rfl, t, _, rfl, .inl hT.sq, _, rfl, t, _, 0, .ref p0.1, rfl, rfl, hT.sq, atI_nat (j := 0) (by rw [List.getElem?_map, hx0]; rfl), p0.1, _, rfl, .inl (hT.r p0 hm0).sq, _, _, rfl, rfl, .inl ⟨by omega, by rw [List.length_map]; omega⟩, ?_⟩
    rw [List.length_map, List.length_map, g.len p0 hm0]
    exact q
def spMerged : Sp := fun vs H Q _ => ∃ (t : Addr) (prs : Prs), vs = [.ref t] ∧ Tab H t prs ∧ tabB prs = true ∧
  ∀ L (es : Es) H', H L = none → Same H H' → H' L = some (.lst (es.map fun e => V.ref e.1)) → (∀ e ∈ es, EntAt H' e ∧ H e.1 = none) → Sorted prs (es.map (·.2)) → Q (.ref L) H'
theorem sc_merged : FnScope ["table", "entries", "row", "numbers"] ["table"] (defScope dMerged) := ⟨rfl, rfl, rfl, by decide +kernel, rfl, by decide +kernel, by decide +kernel⟩
set_option maxHeartbeats 16000000 in
theorem ok_merged (T : Blt mg) (hso : mg "sorted" = none) (D : DefAt K mg "merged" dMerged ["table"]) (G1 : FnAt P w K mg base 6 "need_table" ["thing"] spNeedTable) : FnAt P w K mg base 7 "merged" ["table"] spMerged := by
  refine FnAt.of D sc_merged (fun vs H Q E h => ?_) (fun f cdv A outer s H vs Q E hr h => ?_)
  · obtain ⟨t, prs, rfl, _⟩ := h
    rfl
  · obtain ⟨t, prs, rfl, hT, hg, q⟩ := h
    obtain ⟨g, g1, g2, g3, g4⟩ := good_of hg
    have hs := good_bounds hg
    have nd := sc_merged.nd
    have nd1 : (["place", "number", "row"] : List Str).Nodup := by decide +kernel
    refine ⟨_, pss_cons (ps_expr (pe_f G1 hr (pa_cons (pv 0) pa_nil)))
      (pss_cons (ps_set (i := 1) nd rfl (Or.inl rfl) (pe_lst pa_nil))
      (pss_cons (ps_for PassesOwn.never rfl (pi_enum rfl T.enum (pa_cons (pv 0) pa_nil)) (pg_tup rfl (pgs_cons (pg_name (i := 2) nd rfl (Or.inr rfl)) (pgs_cons (pg_name (i := 3) nd rfl (Or.inl rfl)) pgs_nil)))
        (pss_one (ps_expr (pe_bm PySem.F.plainAttrs_list PySem.F.slot_list_extend PySem.F.type_list_extend mt_extend (pv 1) (pa_cons
          (pe_comp ["place", "number", "row"] [none, none, some 2] (defScope dMerged) ["table", "entries", "row", "numbers"] rfl (pi_enum rfl T.enum (pa_cons (pv 3) pa_nil)) (by decide +kernel)
            (fun cl C s2 H2 ex => pg_c2 K rfl nd1) (fun cl C s2 H2 ex => pifs_nil) (fun cl C s2 H2 ex => pe_tup (pa_cons (pv 1) (pa_cons (pv 2) (pa_cons (pv 0) pa_nil))))) pa_nil)))))
      (pss_one (ps_ret (pe_b (call_sortedT hr.units) hso boot_sorted (pa_cons (pv 1) pa_nil)))))), ?_⟩
    refine ⟨_, rfl, t, prs, rfl, hT, hs, hg, fun H1 s1 => ⟨len0, fun L hL => ?_⟩⟩
    have L0 : H L = none := s1.free hL
    have s2 : Same H (upd H1 L (.lst [])) := s1.trans (Same.new hL)
    refine ⟨_, rfl, t, rfl, ⟨_, (hT.same s2).sq⟩, for_enum (K := K) (a := t) (xs := prs.map fun p => V.ref p.1) (fun i σ H2 => ∃ (cs : Es) (o2 o3 : Option V), σ = [some (.ref t), some (.ref L), o2, o3] ∧ Same H H2 ∧ H2 L = some (.lst (cs.map fun e => V.ref e.1)) ∧
      (∀ c ∈ cs, EntAt H2 c ∧ H c.1 = none) ∧ cs.map (·.2) = entsUp prs i ∧ cs.length ≤ 6 * i)
      ⟨[], none, none, rfl, s2, upd_same, fun c hc => (nomatch hc), rfl, by simp⟩ (fun i σ H2 _ ⟨_, _, _, _, sm, _⟩ => (hT.same sm).sq) ?_ ?_⟩
    · rintro i y σ H2 T1 hi ⟨cs, o2, o3, rfl, sm, hLl, hcs, hcm, hcl⟩ hT1
      have hil : i < prs.length := by
        have := (List.getElem?_eq_some_iff.mp hi).1
        rw [List.length_map] at this
        exact this
      obtain ⟨p, hp1, hp2, hp3⟩ := rowAt_mem hil
      rw [List.getElem?_map, hp2] at hi
      have hy : V.ref p.1 = y := Option.some.inj hi
      subst hy
      have hpl := g.len p hp1
      have smT : Same H2 (upd H2 T1 (.tup [.int (i : Nat), .ref p.1])) := Same.new hT1
      have eT : (upd H2 T1 (.tup [.int (i : Nat), .ref p.1])) T1 = some (.tup [.int (i : Nat), .ref p.1]) := upd_same
      generalize upd H2 T1 (.tup [.int (i : Nat), .ref p.1]) = H3 at smT eT ⊢
      refine ⟨T1, _, rfl, SqT.of eT, rfl, _, _, rfl, _, _, rfl, rfl, ?_⟩
      have sm3 := sm.trans smT
      have hR3 := (hT.same sm3).r p hp1
      have hL3 := smT _ _ hLl
      refine ⟨_, rfl, .inl ⟨rfl, _, SqL.of hL3⟩, _, rfl, p.1, rfl, ⟨_, hR3.sq⟩, ?_⟩
      refine compE_run (xs := p.2.map V.int) (fun D2 k ys H' => ∃ qs : Es, Same H3 H' ∧ H' D2 = some (.lst ys) ∧ ys = (qs.map fun e => V.ref e.1) ∧ (∀ c ∈ qs, EntAt H' c ∧ H3 c.1 = none ∧ c.1 ≠ D2) ∧ qs.map (·.2) = entR i p.2 k)
        (fun D2 hD2 => ⟨[], Same.new hD2, upd_same, rfl, fun c hc => (nomatch hc), rfl⟩) (fun D2 k ys H' _ _ ⟨_, sm', e, _⟩ => ⟨e, (hR3.same sm').sq⟩) ?_ ?_
      · rintro D2 k z ys H' T2 hD2 hz ⟨qs, sm', eD, hys, hqs, hqm⟩ hT2
        have hkl : k < p.2.length := by
          have := (List.getElem?_eq_some_iff.mp hz).1
          rw [List.length_map] at this
          exact this
        have ez : z = .int (p.2.getD k 0) := by
          rw [List.getElem?_map, List.getElem?_eq_getElem hkl] at hz
          rw [List.getD_eq_getElem?_getD, List.getElem?_eq_getElem hkl]
          exact (Option.some.inj hz).symm
        subst ez
        have smT2 : Same H' (upd H' T2 (.tup [.int (k : Nat), .int (p.2.getD k 0)])) := Same.new hT2
        generalize upd H' T2 (.tup [.int (k : Nat), .int (p.2.getD k 0)]) = H4 at smT2 ⊢
        have ql : qs.length = k := by
          have := congrArg List.length hqm
          rw [List.length_map, entR_len] at this
          exact this
        unfold tTrue
        refine iteT ⟨_, rfl, _, rfl, _, rfl, len3, fun T3 hT3 => ?_⟩
        have nT3 : D2 ≠ T3 := ne_of_none (smT2 _ _ eD) hT3
        have s3T : Same H4 (upd H4 T3 (.tup [.int (p.2.getD k 0), .int (i : Nat), .int (k : Nat)])) := Same.new hT3
        refine ⟨s3T _ _ (smT2 _ _ eD), ?_, qs ++ [(T3, [p.2.getD k 0, (i : Int), (k : Int)])], ((sm'.trans smT2).trans s3T).upd hD2, upd_same, ?_, fun c hc => ?_, ?_⟩
        · rw [hys, List.length_map]
          exact small1000 (by omega)
        · rw [hys, List.map_append]
          rfl
        · rcases List.mem_append.mp hc with z | z
          · obtain ⟨z1, z2, z3⟩ := hqs c z
            refine ⟨?_, z2, z3⟩
            unfold EntAt
            rw [upd_ne z3]
            exact s3T _ _ (smT2 _ _ z1)
          · have : c = (T3, [p.2.getD k 0, (i : Int), (k : Int)]) := by simpa using z
            subst this
            refine ⟨?_, (sm'.trans smT2).free hT3, Ne.symm nT3⟩
            unfold EntAt
            rw [upd_ne (Ne.symm nT3)]
            exact upd_same
        · rw [List.map_append, hqm, entR_succ]
          rfl
      · rintro D2 ys H' hD2 ⟨qs, sm', eD, hys, hqs, hqm⟩
        rw [List.length_map] at hqm
        have ql : qs.length = p.2.length := by
          have := congrArg List.length hqm
          rw [List.length_map, entR_len] at this
          exact this
        have hL4 := sm' _ _ hL3
        refine ⟨L, D2, _, _, rfl, rfl, hL4, eD, ?_, ?_⟩
        · rw [List.length_map, hys, List.length_map]
          exact sl6 (by omega)
        · refine ⟨cs ++ qs, _, _, rfl, (sm3.trans sm').upd L0, ?_, fun c hc => ?_, ?_, ?_⟩
          · rw [upd_same, hys, List.map_append]
          · have nL : ∀ c : Addr × List Int, EntAt H' c → c.1 ≠ L := fun c h => ne_of h hL4 (by intro z; cases z)
            rcases List.mem_append.mp hc with z | z
            · obtain ⟨z1, z2⟩ := hcs c z
              have z3 : EntAt H' c := sm' _ _ (smT _ _ z1)
              refine ⟨?_, z2⟩
              unfold EntAt
              rw [upd_ne (nL c z3)]
              exact z3
            · obtain ⟨z1, z2, z3⟩ := hqs c z
              refine ⟨?_, sm3.free z2⟩
              unfold EntAt
              rw [upd_ne (nL c z1)]
              exact z1
          · rw [List.map_append, hcm, hqm]
            show _ = entsUp prs i ++ _
            rw [hp3]
          · rw [List.length_append]
            omega
    · rintro σ H2 ⟨cs, o2, o3, rfl, sm, hLl, hcs, hcm, hcl⟩
      rw [List.length_map] at hcm hcl
      refine ⟨_, rfl, L, cs, rfl, SqL.of hLl, by omega, fun c hc => ⟨SqT.of (hcs c hc).1, ?_⟩, fun D rs' hD hpm hup => ?_⟩
      · have : c.2 ∈ entsUp prs prs.length := by
          rw [← hcm]
          exact List.mem_map.mpr ⟨c, hc, rfl⟩
        obtain ⟨n, r, p, e⟩ := entsUp_mem this
        rw [e]
        exact Nat.succ_pos _
      · refine q D rs' _ (sm.free hD) (sm.trans (Same.new hD)) upd_same (fun e he => ?_) ⟨?_, ?_⟩
        · obtain ⟨z1, z2⟩ := hcs e (hpm.subset he)
          exact ⟨(Same.new hD) _ _ z1, z2⟩
        · rw [← hcm]
          exact hpm.map _
        · rw [List.pairwise_map]
          exact hup
def spNeedPlace : Sp := fun vs H Q _ => ∃ (t : Addr) (prs : Prs) (k : Nat), vs = [.ref t, .int (k : Nat)] ∧ Tab H t prs ∧ tabB prs = true ∧ k < prs.length * w0 prs ∧ Q .non H
theorem sc_needPlace : FnScope ["table", "thing"] ["table", "thing"] (defScope dNeedPlace) := ⟨rfl, rfl, rfl, by decide +kernel, rfl, by decide +kernel, by decide +kernel⟩
theorem ok_needPlace (D : DefAt K mg "need_place" dNeedPlace ["table", "thing"]) (G1 : FnAt P w K mg base 1 "is_whole" ["thing"] spIsWhole) (G2 : FnAt P w K mg base 1 "how_many_cells" ["table"] spMany) : FnAt P w K mg base 2 "need_place" ["table", "thing"] spNeedPlace := by
  refine FnAt.of D sc_needPlace (fun vs H Q E h => ?_) (fun f cdv A outer s H vs Q E hr h => ?_)
  · obtain ⟨t, prs, k, rfl, _⟩ := h
    rfl
  · obtain ⟨t, prs, k, rfl, hT, hg, hk, q⟩ := h
    refine ⟨_, pss_one (ps_if (PW.pt (pw_or (pt_not (pt_val (pe_f G1 hr (pa_cons (pv 1) pa_nil)))) (pw_or1 (pt_not (pt_chain o_le o_lt pe_int (pv 1) (pe_f G2 hr (pa_cons (pv 0) pa_nil))))))) pss_never pss_nil), ?_⟩
    refine ⟨_, rfl, _, rfl, _, rfl, iteF ⟨_, rfl, _, _, rfl, rfl, _, rfl, ?_⟩⟩
    rw [decide_eq_true (show (0 : Int) ≤ (k : Nat) by omega)]
    refine iteT ⟨_, rfl, t, prs, rfl, hT, hg, _, _, rfl, rfl, _, rfl, ?_⟩
    rw [decide_eq_true (show ((k : Nat) : Int) < (prs.length : Int) * (w0 prs : Int) by rw [← Int.natCast_mul]; omega)]
    exact iteF q
def spNumberBy : Sp := fun vs H Q _ => ∃ (t : Addr) (prs : Prs) (k : Nat), vs = [.ref t, .int (k : Nat)] ∧ Tab H t prs ∧ tabB prs = true ∧ k < prs.length * w0 prs ∧ ∀ fs H', Same H H' → Sorted prs fs → Q (.int (hdI (fs.getD k []))) H'
theorem sc_numberBy : FnScope ["table", "k"] ["table", "k"] (defScope dNumberBy) := ⟨rfl, rfl, rfl, by decide +kernel, rfl, by decide +kernel, by decide +kernel⟩
theorem ok_numberBy (D : DefAt K mg "number_by" dNumberBy ["table", "k"]) (G1 : FnAt P w K mg base 6 "need_table" ["thing"] spNeedTable) (G2 : FnAt P w K mg base 2 "need_place" ["table", "thing"] spNeedPlace) (G3 : FnAt P w K mg base 7 "merged" ["table"] spMerged) : FnAt P w K mg base 8 "number_by" ["table", "k"] spNumberBy := by
  refine FnAt.of D sc_numberBy (fun vs H Q E h => ?_) (fun f cdv A outer s H vs Q E hr h => ?_)
  · obtain ⟨t, prs, k, rfl, _⟩ := h
    rfl
  · obtain ⟨t, prs, k, rfl, hT, hg, hk, q⟩ := h
    obtain ⟨g, g1, g2, g3, g4⟩ := good_of hg
    refine ⟨_, pss_cons (ps_expr (pe_f G1 (hr.mono (by decide)) (pa_cons (pv 0) pa_nil))) (pss_cons (ps_expr (pe_f G2 (hr.mono (by decide)) (pa_cons (pv 0) (pa_cons (pv 1) pa_nil))))
      (pss_one (ps_ret (pe_ix ix_tup (pe_ix ix_list (pe_f G3 hr (pa_cons (pv 0) pa_nil)) (pv 1) (fun _ _ => rfl)) pe_int (fun _ _ => rfl))))), ?_⟩
    refine ⟨_, rfl, t, prs, rfl, hT, good_bounds hg, hg, fun H1 s1 => ⟨_, rfl, _, rfl, t, prs, k, rfl, hT.same s1, hg, hk, ?_⟩⟩
    refine ⟨_, rfl, t, prs, rfl, hT.same s1, hg, fun L es H2 hL s2 hLl hes hso => ?_⟩
    have hl : es.length = prs.length * w0 prs := by
      have := hso.len
      rw [List.length_map, flatP_len g.len] at this
      exact this
    have hk2 : k < es.length := by omega
    have he := (hes es[k] (List.getElem_mem hk2)).1
    obtain ⟨n, r, p, e3⟩ : ∃ n r p : Int, es[k].2 = [n, r, p] := entsUp_mem (hso.pm.subset (List.mem_map.mpr ⟨es[k], List.getElem_mem hk2, rfl⟩))
    unfold EntAt at he
    rw [e3] at he
    refine ⟨_, rfl, L, _, _, .ref es[k].1, rfl, rfl, SqL.of hLl, atI_nat (by simp [hk2]), es[k].1, _, 0, .int n, rfl, rfl, SqT.of he, rfl, ?_⟩
    have := q (es.map (·.2)) H2 (s1.trans s2) hso
    have e4 : hdI ((es.map (·.2)).getD k []) = n := by
      rw [List.getD_eq_getElem?_getD, List.getElem?_map, List.getElem?_eq_getElem hk2]
      show hdI es[k].2 = n
      rw [e3]
      rfl
    rw [e4] at this
    exact this
end
def prs0 (rows : List (List Int)) : Prs := rows.map fun r => ((0 : Addr), r)
theorem prs0_rows (rows : List (List Int)) : (prs0 rows).map (·.2) = rows := by
  unfold prs0
  rw [List.map_map]
  exact List.map_id _
def NumIs (rows : List (List Int)) (k : Nat) (n : Int) : Prop := ∃ fs, Sorted (prs0 rows) fs ∧ n = hdI (fs.getD k [])
theorem NumIs.of {prs : Prs} {k : Nat} {fs : List (List Int)} (h : Sorted prs fs) : NumIs (prs.map (·.2)) k (hdI (fs.getD k [])) := ⟨fs, h.rows (by rw [prs0_rows]), rfl⟩
theorem iteDf {c A B : Prop} [Decidable c] (hc : ¬ c) (h : B) : if decide c = true then A else B := by
  rw [decide_eq_false hc]
  exact iteF h
theorem iteDt {c A B : Prop} [Decidable c] (hc : c) (h : A) : if decide c = true then A else B := by
  rw [decide_eq_true hc]
  exact iteT h
section
variable {P : Program} {w : World} {K : PySem.W.Frag} {mg : Str → Option Value} {base : Heap} {C : Addr}
theorem sc_kNumber : FnScope ["self", "k"] ["self", "k"] (defScope (methOf dKeeper 5)) := ⟨rfl, rfl, rfl, by decide +kernel, rfl, by decide +kernel, by decide +kernel⟩
def spKNumber (C : Addr) : Sp := fun vs H Q _ => ∃ (a dx t l : Addr) (prs : Prs) (cs : Ch) (k : Nat), vs = [.ref a, .int (k : Nat)] ∧ Keep H C a dx t l prs cs ∧ k < prs.length * w0 prs ∧ ∀ n H', Same H H' → NumIs (prs.map (·.2)) k n → Q (.int n) H'
theorem ok_kNumber (kc : KpC K C) (D : MethDef K C "number" "Keeper.number" (methOf dKeeper 5) ["self", "k"]) (G : FnAt P w K mg base 8 "number_by" ["table", "k"] spNumberBy) : MtAt P w K mg base 9 C "number" ["self", "k"] (spKNumber C) := by
  refine MtAt.of D sc_kNumber (fun vs H Q E h => ?_) (fun f cdv A outer s H vs Q E hr h => ?_)
  · obtain ⟨a, dx, t, l, prs, cs, k, rfl, _⟩ := h
    rfl
  · obtain ⟨a, dx, t, l, prs, cs, k, rfl, hk, hl, q⟩ := h
    refine ⟨_, pss_one (ps_ret (pe_f G hr (pa_cons (pe_fld (pv 0) rfl) (pa_cons (pv 1) pa_nil)))), ?_⟩
    exact ⟨_, rfl, a, C, dx, _, _, rfl, hk.ob, kc.cls, kc.nr, rfl, _, rfl, t, prs, k, rfl, hk.T, hk.ok, hl, fun fs H' sm so => q _ H' sm (.of so)⟩
theorem sc_kUndo : FnScope ["self", "last", "before"] ["self"] (defScope (methOf dKeeper 2)) := ⟨rfl, rfl, rfl, by decide +kernel, rfl, by decide +kernel, by decide +kernel⟩
def spKUndo (C : Addr) : Sp := fun vs H Q _ => ∃ (a dx t l u c : Addr) (prs : Prs) (cs : Ch) (i j : Nat) (x : Int), vs = [.ref a] ∧ Keep H C a dx t l prs (cs ++ [(u, c, i, j, x)]) ∧ cs.length < 1000 ∧ rowsOk (setR (prs.map (·.2)) i j x) = true ∧
  ∀ t' prs' r H', H t' = none → (∀ p ∈ prs', H p.1 = none ∧ p.1 ≠ t') → (prs'.map (·.1)).Nodup → H r = none → (∀ b o, b ≠ a → b ≠ l → H b = some o → H' b = some o) → prs'.map (·.2) = setR (prs.map (·.2)) i j x → H' r = some (.tup [.int ((rowAt prs i).getD j 0), .int x]) → r ≠ a → r ≠ l →
    Keep H' C a dx t' l prs' cs → Q (.ref r) H'
set_option maxHeartbeats 16000000 in
theorem ok_kUndo (T : Blt mg) (kc : KpC K C) (D : MethDef K C "undo" "Keeper.undo" (methOf dKeeper 2) ["self"]) (G1 : FnAt P w K mg base 2 "table_with" ["table", "cell", "x"] spWith) (G2 : FnAt P w K mg base 7 "number_at" ["table", "cell"] spNumberAt) : MtAt P w K mg base 8 C "undo" ["self"] (spKUndo C) := by
  refine MtAt.of D sc_kUndo (fun vs H Q E h => ?_) (fun f cdv A outer s H vs Q E hr h => ?_)
  · obtain ⟨a, dx, t, l, u, c, prs, cs, i, j, x, rfl, _⟩ := h
    rfl
  · obtain ⟨a, dx, t, l, u, c, prs, cs, i, j, x, rfl, hk, hcl, ok, q⟩ := h
    have nd := sc_kUndo.nd
    obtain ⟨hu, hc, hi, hj⟩ := hk.ch (u, c, i, j, x) (List.mem_append_right _ (.head _))
    have hi : i < prs.length := hi
    have hj : j < w0 prs := hj
    have hu : H u = some (.tup [.ref c, .int x]) := hu
    have hc : Cell H c i j := hc
    obtain ⟨g, g1, g2, g3, g4⟩ := good_of hk.ok
    have hli : (rowAt prs i).length = w0 prs := by
      obtain ⟨p, hp, _, e⟩ := rowAt_mem hi
      rw [e]
      exact g.len p hp
    refine ⟨_, pss_cons (ps_if (pt_cmpR op_eq (pe_b call_len_seq T.len boot_len (pa_cons (pe_fld (pv 0) rfl) pa_nil)) pe_int (nomark _)) pss_never pss_nil)
      (pss_cons (ps_set (i := 1) nd rfl (Or.inl rfl) (pe_bm0 PySem.F.plainAttrs_list PySem.F.slot_list_pop PySem.F.type_list_pop mt_pop (pe_fld (pv 0) rfl)))
      (pss_cons (ps_set (i := 2) nd rfl (Or.inl rfl) (pe_f G2 hr (pa_cons (pe_fld (pv 0) rfl) (pa_cons (pe_ix ix_tup (pv 1) pe_int (fun _ _ => rfl)) pa_nil))))
      (pss_cons (ps_fld (pv 0) (pe_f G1 (hr.mono (by decide)) (pa_cons (pe_fld (pv 0) rfl) (pa_cons (pe_ix ix_tup (pv 1) pe_int (fun _ _ => rfl)) (pa_cons (pe_ix ix_tup (pv 1) pe_int (fun _ _ => rfl)) pa_nil)))) rfl)
      (pss_one (ps_ret (pe_tup (pa_cons (pv 2) (pa_cons (pe_ix ix_tup (pv 1) pe_int (fun _ _ => rfl)) pa_nil)))))))), ?_⟩
    refine ⟨_, rfl, a, C, dx, _, _, rfl, hk.ob, kc.cls, kc.nc, rfl, l, _, rfl, .inl (SqL.of hk.L), rfl, _, rfl, ?_⟩
    have hz : ¬ (V.int (((cs ++ [(u, c, i, j, x)]).map fun c => V.ref c.1).length : Nat) = V.int 0) := by
      intro z
      injection z with z
      simp at z
      omega
    refine iteDf hz ?_
    refine ⟨_, rfl, a, C, dx, _, _, rfl, hk.ob, kc.cls, kc.nc, rfl, .inl ⟨rfl, _, SqL.of hk.L⟩, l, _, .ref u, rfl, rfl, hk.L, by simp, ?_⟩
    have hmu : V.ref u ∈ (cs ++ [(u, c, i, j, x)]).map fun c => V.ref c.1 := List.mem_map.mpr ⟨_, List.mem_append_right _ (.head _), rfl⟩
    have nla : a ≠ l := fun z => by
      have h1 := hk.L
      rw [← z, hk.ob] at h1
      cases h1
    have nul : u ≠ l := fun z => by
      have h1 := hk.L
      rw [← z, hu] at h1
      cases h1
    have ntl : t ≠ l := fun z => by
      have h1 := hk.T.l
      rw [z, hk.L] at h1
      injection h1 with h1
      injection h1 with h1
      rw [h1] at hmu
      obtain ⟨p, hp, e⟩ := List.mem_map.mp hmu
      injection e with e
      have h2 : H p.1 = _ := hk.T.r p hp
      rw [e, hu] at h2
      cases h2
    have npl : ∀ p ∈ prs, p.1 ≠ l := fun p hp z => by
      have h1 : H p.1 = _ := hk.T.r p hp
      rw [z, hk.L] at h1
      injection h1 with h1
      injection h1 with h1
      rw [h1] at hmu
      obtain ⟨n, _, e⟩ := List.mem_map.mp hmu
      cases e
    have ncl : ∀ {y : Addr} {i' j' : Nat}, Cell H y i' j' → y ≠ l := fun {y i' j'} h z => by
      have h1 : H y = _ := h
      rw [z, hk.L] at h1
      cases h1
    have nca : ∀ {y : Addr} {i' j' : Nat}, Cell H y i' j' → y ≠ a := fun {y i' j'} h z => by
      have h1 : H y = _ := h
      rw [z, hk.ob] at h1
      cases h1
    have eL : (upd H l (.lst ((cs ++ [(u, c, i, j, x)]).map fun c => V.ref c.1).dropLast)) l = some (.lst (cs.map fun c => V.ref c.1)) := by
      rw [upd_same, List.map_append]
      simp
    have k1 : ∀ b o, b ≠ l → H b = some o → (upd H l (.lst ((cs ++ [(u, c, i, j, x)]).map fun c => V.ref c.1).dropLast)) b = some o := fun b o n e => by rw [upd_ne n]; exact e
    generalize upd H l (.lst ((cs ++ [(u, c, i, j, x)]).map fun c => V.ref c.1).dropLast) = H1 at eL k1 ⊢
    have hT1 : Tab H1 t prs := ⟨k1 _ _ ntl hk.T.l, fun p hp => k1 _ _ (npl p hp) (hk.T.r p hp)⟩
    have ob1 := k1 _ _ nla hk.ob
    have hu1 := k1 _ _ nul hu
    have hc1 : Cell H1 c i j := k1 _ _ (ncl hc) hc
    refine ⟨_, rfl, a, C, dx, _, _, rfl, ob1, kc.cls, kc.nr, rfl, _, rfl, u, _, 0, .ref c, rfl, rfl, SqT.of hu1, rfl, t, c, prs, i, j, rfl, hT1, hk.ok, hc1, hi, hj, fun H2 s2 => ?_⟩
    refine ⟨_, rfl, a, C, dx, _, _, rfl, s2 _ _ ob1, kc.cls, kc.nr, rfl, _, rfl, u, _, 0, .ref c, rfl, rfl, SqT.of (s2 _ _ hu1), rfl, _, rfl, u, _, 1, .int x, rfl, rfl, SqT.of (s2 _ _ hu1), rfl, t, c, prs, i, j, x, rfl, hT1.same s2, good_bounds hk.ok, s2 _ _ hc1, hi, by omega, fun t' prs' H3 ht' hq hnd s3 hT3 hrows => ?_⟩
    have s13 := s2.trans s3
    refine ⟨_, rfl, a, C, dx, _, rfl, s13 _ _ ob1, kc.cls, kc.nr, (by show 2 < 1000; decide), ?_⟩
    have k4 : ∀ b o, b ≠ a → H3 b = some o → (upd H3 a (.ins C dx (putF "rows" (.ref t') [("rows", .ref t), ("changes", .ref l)]))) b = some o := fun b o n e => by rw [upd_ne n]; exact e
    have e4 : (upd H3 a (.ins C dx (putF "rows" (.ref t') [("rows", .ref t), ("changes", .ref l)]))) a = some (.ins C dx [("rows", .ref t'), ("changes", .ref l)]) := upd_same
    generalize upd H3 a (.ins C dx (putF "rows" (.ref t') [("rows", .ref t), ("changes", .ref l)])) = H4 at k4 e4 ⊢
    have nua : u ≠ a := fun z => by
      rw [z, hk.ob] at hu
      cases hu
    have hu4 := k4 _ _ nua (s13 _ _ hu1)
    have up : ∀ b o, b ≠ a → b ≠ l → H b = some o → H4 b = some o := fun b o n1 n2 e => k4 b o n1 (s13 _ _ (k1 b o n2 e))
    have fr : ∀ {y : Addr}, H1 y = none → H y = none ∧ y ≠ a ∧ y ≠ l := fun {y} hy => by
      have n1 : y ≠ l := fun z => by rw [z, eL] at hy; cases hy
      refine ⟨?_, (fun z => by rw [z, ob1] at hy; cases hy), n1⟩
      cases e : H y with
      | none => rfl
      | some o =>
        rw [k1 y o n1 e] at hy
        cases hy
    refine ⟨_, rfl, _, rfl, u, _, 1, .int x, rfl, rfl, SqT.of hu4, rfl, len2, fun r hr' => ?_⟩
    have nra : r ≠ a := fun z => by rw [z, e4] at hr'; cases hr'
    have L4 := k4 _ _ nla.symm (s13 _ _ eL)
    have nrl : r ≠ l := fun z => by rw [z, L4] at hr'; cases hr'
    have hr0 : H r = none := by
      cases e : H r with
      | none => rfl
      | some o =>
        rw [up r o nra nrl e] at hr'
        cases hr'
    have s5 := Same.new (o := .tup [.int ((rowAt prs i).getD j 0), .int x]) hr'
    obtain ⟨wl, ww⟩ := w0_set hrows
    have ft := fr (s2.free ht')
    refine q t' prs' r _ ft.1 (fun p hp => ⟨(fr (s2.free (hq p hp).1)).1, (hq p hp).2⟩) hnd hr0 (fun b o n1 n2 e => s5 _ _ (up b o n1 n2 e)) hrows upd_same nra nrl ⟨s5 _ _ e4, ⟨s5 _ _ (k4 _ _ ft.2.1 hT3.l), fun p hp => s5 _ _ (k4 _ _ (fr (s2.free (hq p hp).1)).2.1 (hT3.r p hp))⟩, ?_, s5 _ _ L4, fun y hy => ?_⟩
    · rw [rowsOk_of hrows]
      exact ok
    · obtain ⟨z1, z2, z3, z4⟩ := hk.ch y (List.mem_append_left _ hy)
      refine ⟨s5 _ _ (up _ _ (fun e => ?_) (fun e => ?_) z1), s5 _ _ (up _ _ (nca z2) (ncl z2) z2), by omega, by omega⟩
      · have h1 := hk.ob
        rw [← e, z1] at h1
        cases h1
      · have h1 := hk.L
        rw [← e, z1] at h1
        cases h1
end
end Seek
namespace L2
open PySem PySem.Spec PyProof.Rows
def tNew (C : Addr) (sp : Sp) (t : TA) : TE := fun σ H Q => t σ H fun vs H1 => ∀ x dx, H1 x = none → H1 dx = none → dx ≠ x → sp (.ref x :: vs) (upd (upd H1 dx (.own x)) x (.ins C dx [])) (fun v H2 => v = .non ∧ Q (.ref x) H2) E0
theorem pe_new {X : Cx} {k : Nat} {C : Addr} {ps : List Str} {sp : Sp} {e : Expr} {es : List Expr} {x : Str} {p pos : Pos} {t : TA} (F : MtAt X.prog X.w X.K X.mg X.base k C "__init__" ps sp) (hmk : PySem.W.makesIn X.K C = true) (hkp : PySem.W.keepIn X.K (.ref C) = true) (hr : Room (k + 1) X.A) (hg : Gl X x) (hm : X.mg x = some (.ref C))
    (ha : PA X (e :: es) t) (hdb : (x == ("__debug__" : Str)) = false := by decide) (he : starEach (e :: es) X.env = (false, eval e X.env) :: starEach es X.env := by rfl) (hpl : (backTo pos (starEach es X.env)).any (·.1) = false := by rfl) :
    PE X (.Call (.Name x p) (e :: es) [] pos) (tNew C sp t) := by
  obtain ⟨f, fd, F, hmt, hb⟩ := F
  have q := pe_make (p := p) (pos := pos) ⟨hmk, hmt.at_, hmt.fn, hkp⟩ F hr hg hm hb .nil (pass0 (X := X)) ha hdb he hpl
  intro pins s σ H Q I h
  refine q pins s σ H Q I ?_
  unfold tMake
  simp only [List.append_nil]
  exact h
theorem methDef_mk {K : PySem.W.Frag} {C f : Addr} {m qual : Str} {st : Stmt} {ps : List Str} {od an : Option Addr} {sl : Array (Option Value)} {oc kV dc pm cd ct : Value}
    (a : PySem.W.findIn K (.ref C) m = some (some (.ref f))) (i : PySem.W.isFn K (.ref f) = true) (l : K.lookup f = some ⟨oc, od, .func (PySem.W.fnOf m qual (defArgs st) (defBody st) (defScope st) .none kV dc pm an cd ct), sl⟩) (c : PySem.W.codeIn K cd qual = true) (k : PySem.W.keepIn K (.ref f) = true)
    (b : ∀ (kV doc pm : Value) (an : Option Addr) (cdv ct : Value) (us : List Value), us.length = ps.length → bindArgs (PySem.W.fnOf m qual (defArgs st) (defBody st) (defScope st) .none kV doc pm an cdv ct) ⟨us, []⟩ = pure (ps.zip us)) : MethDef K C m qual st ps := by
  have F := fun_mk (st := st) l c k
  exact ⟨f, _, F, ⟨a, i, k⟩, F.binds b⟩
end L2
namespace Seek
open PySem L2 PyProof.Rows
structure KpM (K : PySem.W.Frag) (mg : Str → Option Value) (C : Addr) : Prop where
  c : KpC K C
  gl : mg "Keeper" = some (.ref C)
  mks : PySem.W.makesIn K C = true
  kp : PySem.W.keepIn K (.ref C) = true
theorem kpm_mk {K : PySem.W.Frag} {h : Heap} {mg : Str → Option Value} {C : Addr} (X : K.In h) (G : h.Ns mainGlobals mg) (aC : PySem.W.nsIn K mainGlobals "Keeper" = some (some (.ref C)))
    (pg : PySem.W.plainGet K C Str.empty = true) (hd : PySem.W.hasDictIn K C = true) (po : PySem.W.plainOver K C = true) (sa : PySem.W.findIn K (.ref C) "__setattr__" = some (some (.builtin "object.__setattr__"))) (mk : PySem.W.makesIn K C = true) (kc : PySem.W.keepIn K (.ref C) = true)
    (nr : PySem.W.findIn K (.ref C) "rows" = some none) (nc : PySem.W.findIn K (.ref C) "changes" = some none) : KpM K mg C := ⟨⟨⟨pg, hd, po, sa⟩, nr, nc⟩, PySem.W.mg_of X G aC, mk, kc⟩
structure Rok (rows : List (List Int)) : Prop where
  n1 : 1 ≤ rows.length
  n6 : rows.length ≤ 6
  w1 : 1 ≤ wR rows
  w6 : wR rows ≤ 6
  len : ∀ i, i < rows.length → (rows.getD i []).length = wR rows
  row : ∀ i j, i < rows.length → j + 1 < wR rows → cellR rows i j ≤ cellR rows i (j + 1)
  down : ∀ i j, i + 1 < rows.length → j < wR rows → cellR rows i j ≤ cellR rows (i + 1) j
theorem prs_at (rows : List (List Int)) (i : Nat) : rowAt (prs0 rows) i = rows.getD i [] := by rw [rowAt_rows, prs0_rows]
theorem w0_prs0 (rows : List (List Int)) : w0 (prs0 rows) = wR rows := by rw [← wR_w0, prs0_rows]
theorem rok_of {rows : List (List Int)} (h : rowsOk rows = true) : Rok rows := by
  obtain ⟨g, g1, g2, g3, g4⟩ := good_of (prs := prs0 rows) h
  have hl : (prs0 rows).length = rows.length := List.length_map ..
  rw [w0_prs0] at g g3 g4
  rw [hl] at g1 g2
  have hlen : ∀ i, i < rows.length → (rows.getD i []).length = wR rows := fun i hi => by
    obtain ⟨p, hp, _, e⟩ := rowAt_mem (prs := prs0 rows) (i := i) (by omega)
    rw [← prs_at, e]
    exact g.len p hp
  refine ⟨g1, g2, g3, g4, hlen, fun i j hi hj => ?_, fun i j hi hj => ?_⟩
  · obtain ⟨p, hp, _, e⟩ := rowAt_mem (prs := prs0 rows) (i := i) (by omega)
    have := g.row p hp j (by rw [g.len p hp]; omega)
    unfold cellR
    rw [← prs_at, e]
    exact this
  · have := g.down i (by omega) j hj
    unfold cellR
    rw [← prs_at, ← prs_at]
    exact this
theorem rok_ok {rows : List (List Int)} (h : Rok rows) : rowsOk rows = true := by
  have hl : (prs0 rows).length = rows.length := List.length_map ..
  have hm : ∀ p ∈ prs0 rows, ∃ i, i < rows.length ∧ p.2 = rows.getD i [] := fun p hp => by
    obtain ⟨r, hr, rfl⟩ := List.mem_map.mp hp
    obtain ⟨i, hi, e⟩ := List.getElem_of_mem hr
    exact ⟨i, hi, by rw [List.getD_eq_getElem?_getD, List.getElem?_eq_getElem hi, e]; rfl⟩
  refine tabB_of (wide := wR rows) (prs := prs0 rows) ⟨fun p hp => ?_, fun p hp j hj => ?_, fun i hi j hj => ?_⟩ (by rw [hl]; exact h.n1) (by rw [hl]; exact h.n6) h.w1 h.w6
  · obtain ⟨i, hi, e⟩ := hm p hp
    rw [e]
    exact h.len i hi
  · obtain ⟨i, hi, e⟩ := hm p hp
    rw [e] at hj ⊢
    rw [h.len i hi] at hj
    exact h.row i j hi (by omega)
  · rw [prs_at, prs_at]
    exact h.down i j (by omega) hj
theorem setR_len (rows : List (List Int)) (i j : Nat) (x : Int) : (setR rows i j x).length = rows.length := by
  unfold setR
  rw [List.length_set]
theorem setR_row {rows : List (List Int)} {i : Nat} (j : Nat) (x : Int) (hi : i < rows.length) (k : Nat) : (setR rows i j x).getD k [] = if k = i then (rows.getD i []).set j x else rows.getD k [] := by
  unfold setR
  rw [List.getD_eq_getElem?_getD, List.getElem?_set]
  by_cases h : k = i
  · rw [if_pos h, if_pos h.symm, if_pos hi]
    rfl
  · rw [if_neg h, if_neg (Ne.symm h), List.getD_eq_getElem?_getD]
theorem setR_rlen {rows : List (List Int)} {i : Nat} (j : Nat) (x : Int) (hi : i < rows.length) (k : Nat) : ((setR rows i j x).getD k []).length = (rows.getD k []).length := by
  rw [setR_row j x hi]
  split
  · next h => rw [List.length_set, h]
  · rfl
theorem setR_wR {rows : List (List Int)} {i : Nat} (j : Nat) (x : Int) (hi : i < rows.length) : wR (setR rows i j x) = wR rows := setR_rlen j x hi 0
theorem cellR_set {rows : List (List Int)} {i j : Nat} (x : Int) (hi : i < rows.length) (hj : j < (rows.getD i []).length) (k m : Nat) : cellR (setR rows i j x) k m = if k = i ∧ m = j then x else cellR rows k m := by
  unfold cellR
  rw [setR_row j x hi]
  by_cases h : k = i
  · rw [if_pos h, List.getD_eq_getElem?_getD, List.getElem?_set]
    by_cases h2 : m = j
    · rw [if_pos h2.symm, if_pos hj, if_pos ⟨h, h2⟩]
      rfl
    · rw [if_neg (Ne.symm h2), if_neg (fun z => h2 z.2), h, ← List.getD_eq_getElem?_getD]
  · rw [if_neg h, if_neg (fun z => h z.1)]
theorem fits {rows : List (List Int)} {i j : Nat} {x : Int} (h : Rok rows) (hi : i < rows.length) (hj : j < wR rows) (lo : ∀ a ∈ aheadL rows i j, a ≤ x) (hi' : ∀ b ∈ behindL rows i j, x ≤ b) : Rok (setR rows i j x) := by
  have hjl : j < (rows.getD i []).length := by rw [h.len i hi]; exact hj
  have ew := setR_wR j x hi
  have el := setR_len rows i j x
  refine ⟨by rw [el]; exact h.n1, by rw [el]; exact h.n6, by rw [ew]; exact h.w1, by rw [ew]; exact h.w6, fun k hk => ?_, fun k m hk hm => ?_, fun k m hk hm => ?_⟩
  · rw [setR_rlen j x hi, ew]
    exact h.len k (by omega)
  · rw [cellR_set x hi hjl, cellR_set x hi hjl]
    rw [el] at hk
    rw [ew] at hm
    split
    · next z =>
      rw [if_neg (fun y => by omega)]
      obtain ⟨rfl, rfl⟩ := z
      refine hi' _ ?_
      unfold behindL
      rw [if_pos (show m + 1 < wR rows from hm)]
      exact List.mem_append_right _ (.head _)
    · split
      · next z =>
        obtain ⟨rfl, rfl⟩ := z
        refine lo _ ?_
        unfold aheadL
        rw [if_pos (show 0 < m + 1 from Nat.succ_pos _)]
        exact List.mem_append_right _ (.head _)
      · exact h.row k m hk hm
  · rw [cellR_set x hi hjl, cellR_set x hi hjl]
    rw [el] at hk
    rw [ew] at hm
    split
    · next z =>
      rw [if_neg (fun y => by omega)]
      obtain ⟨rfl, rfl⟩ := z
      refine hi' _ ?_
      unfold behindL
      rw [if_pos (show k + 1 < rows.length from hk)]
      exact List.mem_append_left _ (.head _)
    · split
      · next z =>
        obtain ⟨rfl, rfl⟩ := z
        refine lo _ ?_
        unfold aheadL
        rw [if_pos (show 0 < k + 1 from Nat.succ_pos _)]
        exact List.mem_append_left _ (.head _)
      · exact h.down k m hk hm
theorem set_back (r : List Int) (j : Nat) (x : Int) : (r.set j x).set j (r.getD j 0) = r := by
  rw [List.set_set]
  refine List.ext_getElem? fun k => ?_
  rw [List.getElem?_set]
  split
  · next h =>
    subst h
    split
    · next h2 => rw [List.getD_eq_getElem?_getD, List.getElem?_eq_getElem h2]; rfl
    · next h2 => rw [List.getElem?_eq_none (by omega)]
  · rfl
theorem setR_back {rows : List (List Int)} {i : Nat} (j : Nat) (x : Int) (hi : i < rows.length) : setR (setR rows i j x) i j (cellR rows i j) = rows := by
  show (setR rows i j x).set i (((setR rows i j x).getD i []).set j (cellR rows i j)) = rows
  rw [setR_row j x hi, if_pos rfl]
  unfold setR
  rw [List.set_set]
  have : ((rows.getD i []).set j x).set j (cellR rows i j) = rows.getD i [] := set_back _ j x
  rw [this]
  refine List.ext_getElem? fun k => ?_
  rw [List.getElem?_set]
  split
  · next h =>
    subst h
    simp [hi]
  · rfl
theorem ahead_le {rows : List (List Int)} {i j : Nat} (h : Rok rows) (hi : i < rows.length) (hj : j < wR rows) {a : Int} (ha : a ∈ aheadL rows i j) : a ≤ cellR rows i j := by
  unfold aheadL at ha
  rcases List.mem_append.mp ha with z | z
  · split at z
    · next h0 =>
      have : a = cellR rows (i - 1) j := by simpa using z
      rw [this]
      have := h.down (i - 1) j (by omega) hj
      rw [show i - 1 + 1 = i by omega] at this
      exact this
    · cases z
  · split at z
    · next h0 =>
      have : a = cellR rows i (j - 1) := by simpa using z
      rw [this]
      have := h.row i (j - 1) hi (by omega)
      rw [show j - 1 + 1 = j by omega] at this
      exact this
    · cases z
theorem behind_ge {rows : List (List Int)} {i j : Nat} (h : Rok rows) (hi : i < rows.length) (hj : j < wR rows) {b : Int} (hb : b ∈ behindL rows i j) : cellR rows i j ≤ b := by
  unfold behindL at hb
  rcases List.mem_append.mp hb with z | z
  · split at z
    · next h0 =>
      have : b = cellR rows (i + 1) j := by simpa using z
      rw [this]
      exact h.down i j h0 hj
    · cases z
  · split at z
    · next h0 =>
      have : b = cellR rows i (j + 1) := by simpa using z
      rw [this]
      exact h.row i j hi h0
    · cases z
def Betw (lo hi : Option Int) (x : Int) : Prop := (∀ m, lo = some m → m ≤ x) ∧ ∀ m, hi = some m → x ≤ m
theorem betw_fits {rows : List (List Int)} {i j : Nat} {x : Int} (h : Rok rows) (hi : i < rows.length) (hj : j < wR rows) (b : Betw (aheadL rows i j).max? (behindL rows i j).min? x) : Rok (setR rows i j x) := by
  refine fits h hi hj (fun a ha => ?_) fun c hc => ?_
  · cases e : (aheadL rows i j).max? with
    | none => rw [List.max?_eq_none_iff] at e; rw [e] at ha; cases ha
    | some m => exact Int.le_trans ((List.max?_eq_some_iff.mp e).2 a ha) (b.1 m e)
  · cases e : (behindL rows i j).min? with
    | none => rw [List.min?_eq_none_iff] at e; rw [e] at hc; cases hc
    | some m => exact Int.le_trans (b.2 m e) ((List.min?_eq_some_iff.mp e).2 c hc)
theorem ends_le {rows : List (List Int)} {i j : Nat} {m n : Int} (h : Rok rows) (hi : i < rows.length) (hj : j < wR rows) (e1 : (aheadL rows i j).max? = some m) (e2 : (behindL rows i j).min? = some n) : m ≤ n :=
  Int.le_trans (ahead_le h hi hj (List.max?_eq_some_iff.mp e1).1) (behind_ge h hi hj (List.min?_eq_some_iff.mp e2).1)
theorem rev_max {ms ns : List Int} (h : ms.Perm ns) (s : ms.Pairwise (· ≤ ·)) : atI ((ms.map V.int).reverse ++ [.non]) 0 = some (oV ns.max?) := by
  cases hr : ms.reverse with
  | nil =>
    have e : ms = [] := List.reverse_eq_nil_iff.mp hr
    subst e
    rw [List.nil_perm.mp h]
    rfl
  | cons m r =>
    have e : ms = r.reverse ++ [m] := by
      have := congrArg List.reverse hr
      rw [List.reverse_reverse, List.reverse_cons] at this
      exact this
    have hm : ns.max? = some m := by
      refine max_is (h.mem_iff.mp (by rw [e]; simp)) fun a ha => ?_
      have ha := h.mem_iff.mpr ha
      rw [e] at ha s
      rcases List.mem_append.mp ha with z | z
      · exact (List.pairwise_append.mp s).2.2 a z m (.head _)
      · rw [List.mem_singleton.mp z]
        exact Int.le_refl _
    rw [← List.map_reverse, hr, hm]
    exact atI_nat (j := 0) rfl
theorem fst_min {ms ns : List Int} (h : ms.Perm ns) (s : ms.Pairwise (· ≤ ·)) : atI (ms.map V.int ++ [.non]) 0 = some (oV ns.min?) := by
  cases ms with
  | nil =>
    rw [List.nil_perm.mp h]
    rfl
  | cons m r =>
    have hm : ns.min? = some m := by
      refine min_is (h.mem_iff.mp (.head _)) fun a ha => ?_
      rcases List.mem_cons.mp (h.mem_iff.mpr ha) with z | z
      · rw [z]
        exact Int.le_refl _
      · exact (List.pairwise_cons.mp s).1 a z
    rw [hm]
    exact atI_nat (j := 0) rfl
theorem max_swap (xs ys : List Int) : (xs ++ ys).max? = (ys ++ xs).max? := by
  cases e : (xs ++ ys).max? with
  | none =>
    rw [List.max?_eq_none_iff] at e
    obtain ⟨rfl, rfl⟩ := List.append_eq_nil_iff.mp e
    rfl
  | some m =>
    obtain ⟨h1, h2⟩ := List.max?_eq_some_iff.mp e
    exact (max_is (by rw [List.mem_append] at h1 ⊢; exact h1.symm) fun a ha => h2 a (by rw [List.mem_append] at ha ⊢; exact ha.symm)).symm
theorem min_swap (xs ys : List Int) : (xs ++ ys).min? = (ys ++ xs).min? := by
  cases e : (xs ++ ys).min? with
  | none =>
    rw [List.min?_eq_none_iff] at e
    obtain ⟨rfl, rfl⟩ := List.append_eq_nil_iff.mp e
    rfl
  | some m =>
    obtain ⟨h1, h2⟩ := List.min?_eq_some_iff.mp e
    exact (min_is (by rw [List.mem_append] at h1 ⊢; exact h1.symm) fun a ha => h2 a (by rw [List.mem_append] at ha ⊢; exact ha.symm)).symm
theorem if_both {c : Bool} {t : TS} {D : Ends} {σ0 : L2.St} {H0 : Hp} (C : (L2.St → Hp → Prop) → Prop) (h : C D.nx) (hA : C D.nx → c = true → t D σ0 H0) (hB : C D.nx → ¬ c = true → D.nx σ0 H0) : if c = true then t D σ0 H0 else tNext D σ0 H0 := by
  by_cases hc : c = true
  · rw [if_pos hc]
    exact hA h hc
  · rw [if_neg hc]
    exact hB h hc
section
variable {P : Program} {w : World} {K : PySem.W.Frag} {mg : Str → Option Value} {base : Heap} {C : Addr}
theorem sc_copyN : FnScope ["table"] ["table"] (defScope dCopy) := ⟨rfl, rfl, rfl, by decide +kernel, rfl, by decide +kernel, by decide +kernel⟩
theorem ok_copyN (T : Blt mg) (D : DefAt K mg "_law_copy" dCopy ["table"]) : FnAt P w K mg base 1 "_law_copy" ["table"] spCopyN := by
  refine FnAt.of D sc_copyN (fun vs H Q E h => ?_) (fun f cdv A outer s H vs Q E hr h => ?_)
  · obtain ⟨t, prs, rfl, _⟩ := h
    rfl
  · obtain ⟨t, prs, rfl, hT, hs, q⟩ := h
    have nd1 : (["row"] : List Str).Nodup := by decide +kernel
    refine ⟨_, pss_one (ps_ret (pe_comp ["row"] [none] (defScope dCopy) ["table"] rfl (pi_list (pv 0)) (by decide +kernel)
      (fun cl C s2 H2 ex => pg_c 0 nd1) (fun cl C s2 H2 ex => pifs_nil) (fun cl C s2 H2 ex => pe_t (listK K) T.list boot_list (pa_cons (pv 0) pa_nil)))), ?_⟩
    refine ⟨_, rfl, t, rfl, ⟨_, hT.sq⟩, comp_objsL (fun p : Addr × List Int => V.ref p.1) (fun p => .lst (p.2.map V.int)) hT.sq hs.1 (fun p hp H' Q' sm q' => ⟨_, rfl, p.1, _, rfl, .inl ((hT.same sm).r p hp).sq, fun l hl => q' l _ hl (Same.new hl) upd_same⟩) fun M qs H2 hM hqm hnd hq s2 eM => ?_⟩
    refine q M (qs.map fun x => (x.1, x.2.2)) H2 hM (fun p hp => ?_) ?_ s2 ⟨?_, fun p hp => ?_⟩ ?_
    · obtain ⟨x, hx, rfl⟩ := List.mem_map.mp hp
      exact (hq x hx).2
    · rw [List.map_map]
      exact hnd
    · rw [eM, List.map_map]
      rfl
    · obtain ⟨x, hx, rfl⟩ := List.mem_map.mp hp
      exact (hq x hx).1
    · rw [List.map_map, ← hqm, List.map_map]
      rfl
theorem sc_lSpan : FnScope ["table", "cell", "row", "place", "low", "high"] ["table", "cell"] (defScope dLSpan) := ⟨rfl, rfl, rfl, by decide +kernel, rfl, by decide +kernel, by decide +kernel⟩
set_option maxHeartbeats 16000000 in
theorem ok_lSpan (T : Blt mg) (hso : mg "sorted" = none) (D : DefAt K mg "_law_span" dLSpan ["table", "cell"]) : FnAt P w K mg base 1 "_law_span" ["table", "cell"] spSpan := by
  refine FnAt.of D sc_lSpan (fun vs H Q E h => ?_) (fun f cdv A outer s H vs Q E hr h => ?_)
  · obtain ⟨t, c, prs, i, j, rfl, _⟩ := h
    rfl
  · obtain ⟨t, c, prs, i, j, rfl, hT, hg, hC, hi, hj, q⟩ := h
    have nd := sc_lSpan.nd
    obtain ⟨g, g1, g2, g3, g4⟩ := good_of hg
    have hrow : ∀ k, k < prs.length → ∃ p ∈ prs, prs[k]? = some p ∧ rowAt prs k = p.2 ∧ p.2.length = w0 prs := fun k hk => by
      obtain ⟨p, hp, h2, e⟩ := rowAt_mem hk
      exact ⟨p, hp, h2, e, g.len p hp⟩
    refine ⟨_, pss_cons (ps_asg (pv 1) (pg_tup rfl (pgs_cons (pg_name (i := 2) nd rfl (Or.inl rfl)) (pgs_cons (pg_name (i := 3) nd rfl (Or.inl rfl)) pgs_nil))))
      (pss_cons (ps_set (i := 4) nd rfl (Or.inl rfl) (pe_lst pa_nil))
      (pss_cons (ps_set (i := 5) nd rfl (Or.inl rfl) (pe_lst pa_nil))
      (pss_cons (ps_if (pt_cmpR o_gt (pv 3) pe_int (nomark _)) (pss_one (ps_expr (pe_bm PySem.F.plainAttrs_list PySem.F.slot_list_append PySem.F.type_list_append mt_append (pv 4) (pa_cons (pe_ix ix_list (pe_ix ix_list (pv 0) (pv 2) (fun _ _ => rfl)) (pe_op o_sub (pv 3) pe_int) (fun _ _ => rfl)) pa_nil)))) pss_nil)
      (pss_cons (ps_if (pt_cmpR o_gt (pv 2) pe_int (nomark _)) (pss_one (ps_expr (pe_bm PySem.F.plainAttrs_list PySem.F.slot_list_append PySem.F.type_list_append mt_append (pv 4) (pa_cons (pe_ix ix_list (pe_ix ix_list (pv 0) (pe_op o_sub (pv 2) pe_int) (fun _ _ => rfl)) (pv 3) (fun _ _ => rfl)) pa_nil)))) pss_nil)
      (pss_cons (ps_if (pt_cmpR o_lt (pe_op o_add (pv 3) pe_int) (pe_b call_len_seq T.len boot_len (pa_cons (pe_ix ix_list (pv 0) pe_int (fun _ _ => rfl)) pa_nil)) (nomark _)) (pss_one (ps_expr (pe_bm PySem.F.plainAttrs_list PySem.F.slot_list_append PySem.F.type_list_append mt_append (pv 5) (pa_cons (pe_ix ix_list (pe_ix ix_list (pv 0) (pv 2) (fun _ _ => rfl)) (pe_op o_add (pv 3) pe_int) (fun _ _ => rfl)) pa_nil)))) pss_nil)
      (pss_cons (ps_if (pt_cmpR o_lt (pe_op o_add (pv 2) pe_int) (pe_b call_len_seq T.len boot_len (pa_cons (pv 0) pa_nil)) (nomark _)) (pss_one (ps_expr (pe_bm PySem.F.plainAttrs_list PySem.F.slot_list_append PySem.F.type_list_append mt_append (pv 5) (pa_cons (pe_ix ix_list (pe_ix ix_list (pv 0) (pe_op o_add (pv 2) pe_int) (fun _ _ => rfl)) (pv 3) (fun _ _ => rfl)) pa_nil)))) pss_nil)
      (pss_one (ps_ret (pe_tup (pa_cons (pe_ix ix_list (pe_op op_cat (pe_rev (pe_b call_sortedI hso boot_sorted (pa_cons (pv 4) pa_nil)) (po_some (pe_un o_neg pe_int))) (pe_lst (pa_cons pe_non pa_nil))) pe_int (fun _ _ => rfl)) (pa_cons (pe_ix ix_list (pe_op op_cat (pe_b call_sortedI hso boot_sorted (pa_cons (pv 5) pa_nil)) (pe_lst (pa_cons pe_non pa_nil))) pe_int (fun _ _ => rfl)) pa_nil))))))))))), ?_⟩
    refine ⟨_, rfl, c, _, rfl, SqT.of hC, rfl, _, _, rfl, _, _, rfl, rfl, ?_⟩
    refine ⟨len0, fun L1 hL1 => ?_⟩
    have s1 : Same H (upd H L1 (.lst [])) := Same.new hL1
    have r1 : Row (upd H L1 (.lst [])) L1 [] := Row.new
    generalize upd H L1 (.lst []) = H1 at s1 r1 ⊢
    refine ⟨len0, fun L2 hL2 => ?_⟩
    have n12 : L1 ≠ L2 := ne_of_none r1 hL2
    have s2 : Same H1 (upd H1 L2 (.lst [])) := Same.new hL2
    have r2 : Row (upd H1 L2 (.lst [])) L2 [] := Row.new
    generalize upd H1 L2 (.lst []) = H2 at s2 r2 ⊢
    have r1 : Row H2 L1 [] := s2 _ _ r1
    have hL2' : H L2 = none := s1.free hL2
    have s02 := s1.trans s2
    clear s1 s2 hL2
    have hcell : ∀ {H' : Hp} {k m : Nat} {vi vj : Int}, Same H H' → vi = (k : Nat) → vj = (m : Nat) → k < prs.length → m < w0 prs → ∃ p ∈ prs, atI (prs.map fun p => V.ref p.1) vi = some (.ref p.1) ∧ SqL K H' p.1 (p.2.map V.int) ∧ atI (p.2.map V.int) vj = some (.int (cellR (prs.map (·.2)) k m)) := fun {H' k m vi vj} sm ei ej hk hm => by
      obtain ⟨p, hp, h2, e, hl⟩ := hrow k hk
      subst ei ej
      refine ⟨p, hp, atI_nat (by rw [List.getElem?_map, h2]; rfl), ((hT.same sm).r p hp).sq, ?_⟩
      rw [cellR_at, e]
      exact at_row (by omega)
    have pushed : ∀ {H' : Hp} {L L' : Addr} {ns ms : List Int} {x : Int}, L ≠ L' → H L = none → Same H H' → Row H' L ns → Row H' L' ms → Same H (upd H' L (.lst (ns.map V.int ++ [.int x]))) ∧ Row (upd H' L (.lst (ns.map V.int ++ [.int x]))) L (ns ++ [x]) ∧ Row (upd H' L (.lst (ns.map V.int ++ [.int x]))) L' ms := fun {H' L L' ns ms x} n hL sm r r' => ⟨sm.upd hL, Row.push, by
      unfold Row
      rw [upd_ne n.symm]
      exact r'⟩
    refine ⟨_, rfl, _, _, rfl, rfl, _, rfl, ?_⟩
    refine if_both (fun N => ∀ H3, Same H H3 → Row H3 L1 (if 0 < j then [cellR (prs.map (·.2)) i (j - 1)] else []) → Row H3 L2 [] → N [some (.ref t), some (.ref c), some (.int (i : Nat)), some (.int (j : Nat)), some (.ref L1), some (.ref L2)] H3) (fun H3 s3 ra3 rb3 => ?_) (fun key hc => ?_) (fun key hc => ?_)
    · clear r1 r2 s02
      have la3 : (if 0 < j then [cellR (prs.map (·.2)) i (j - 1)] else []).length ≤ 1 := by split <;> simp
      generalize hA1 : (if 0 < j then [cellR (prs.map (·.2)) i (j - 1)] else []) = A1 at ra3 la3
      refine ⟨_, rfl, _, _, rfl, rfl, _, rfl, ?_⟩
      refine if_both (fun N => ∀ H4, Same H H4 → Row H4 L1 (A1 ++ if 0 < i then [cellR (prs.map (·.2)) (i - 1) j] else []) → Row H4 L2 [] → N [some (.ref t), some (.ref c), some (.int (i : Nat)), some (.int (j : Nat)), some (.ref L1), some (.ref L2)] H4) (fun H4 s4 ra4 rb4 => ?_) (fun key hc => ?_) (fun key hc => ?_)
      · clear ra3 rb3 s3
        have la4 : (A1 ++ if 0 < i then [cellR (prs.map (·.2)) (i - 1) j] else []).length ≤ 2 := by
          rw [List.length_append]
          split <;> simp <;> omega
        have ea : (A1 ++ if 0 < i then [cellR (prs.map (·.2)) (i - 1) j] else []).max? = (aheadL (prs.map (·.2)) i j).max? := by
          rw [max_swap, ← hA1]
          rfl
        generalize (A1 ++ if 0 < i then [cellR (prs.map (·.2)) (i - 1) j] else []) = A2 at ra4 la4 ea
        clear hA1 la3
        obtain ⟨p0, hp0, hm0, hx0⟩ := head_at (prs := prs) (by omega)
        refine ⟨_, rfl, _, _, rfl, rfl, _, rfl, t, _, 0, .ref p0.1, rfl, rfl, (hT.same s4).sq, atI_nat (j := 0) (by rw [List.getElem?_map, hx0]; rfl), p0.1, _, rfl, .inl ((hT.same s4).r p0 hm0).sq, _, _, rfl, rfl, _, rfl, ?_⟩
        rw [List.length_map, g.len p0 hm0]
        refine if_both (fun N => ∀ H5, Same H H5 → Row H5 L1 A2 → Row H5 L2 (if j + 1 < w0 prs then [cellR (prs.map (·.2)) i (j + 1)] else []) → N [some (.ref t), some (.ref c), some (.int (i : Nat)), some (.int (j : Nat)), some (.ref L1), some (.ref L2)] H5) (fun H5 s5 ra5 rb5 => ?_) (fun key hc => ?_) (fun key hc => ?_)
        · clear ra4 rb4 s4
          have lb5 : (if j + 1 < w0 prs then [cellR (prs.map (·.2)) i (j + 1)] else []).length ≤ 1 := by split <;> simp
          generalize hB1 : (if j + 1 < w0 prs then [cellR (prs.map (·.2)) i (j + 1)] else []) = B1 at rb5 lb5
          refine ⟨_, rfl, _, _, rfl, rfl, _, rfl, t, _, rfl, .inl (hT.same s5).sq, _, _, rfl, rfl, _, rfl, ?_⟩
          rw [List.length_map]
          refine if_both (fun N => ∀ H6, Same H H6 → Row H6 L1 A2 → Row H6 L2 (B1 ++ if i + 1 < prs.length then [cellR (prs.map (·.2)) (i + 1) j] else []) → N [some (.ref t), some (.ref c), some (.int (i : Nat)), some (.int (j : Nat)), some (.ref L1), some (.ref L2)] H6) (fun H6 s6 ra6 rb6 => ?_) (fun key hc => ?_) (fun key hc => ?_)
          · clear ra5 rb5 s5
            have lb6 : (B1 ++ if i + 1 < prs.length then [cellR (prs.map (·.2)) (i + 1) j] else []).length ≤ 2 := by
              rw [List.length_append]
              split <;> simp <;> omega
            have eb : (B1 ++ if i + 1 < prs.length then [cellR (prs.map (·.2)) (i + 1) j] else []).min? = (behindL (prs.map (·.2)) i j).min? := by
              rw [min_swap, ← hB1]
              unfold behindL
              rw [wR_w0, List.length_map]
            generalize (B1 ++ if i + 1 < prs.length then [cellR (prs.map (·.2)) (i + 1) j] else []) = B2 at rb6 lb6 eb
            refine ⟨_, rfl, L1, A2, rfl, ra6.sq, by omega, fun D1 ms1 hD1 pm1 sd1 => ?_⟩
            have m1 : Same H6 (upd H6 D1 (.lst (ms1.map V.int))) := Same.new hD1
            refine ⟨_, rfl, _, rfl, D1, _, rfl, rfl, upd_same, fun D2 hD2 => ?_⟩
            have m2 : Same H6 (upd (upd H6 D1 (.lst (ms1.map V.int))) D2 (.lst (ms1.map V.int).reverse)) := m1.trans (Same.new hD2)
            have e2 : (upd (upd H6 D1 (.lst (ms1.map V.int))) D2 (.lst (ms1.map V.int).reverse)) D2 = some (.lst (ms1.map V.int).reverse) := upd_same
            generalize upd (upd H6 D1 (.lst (ms1.map V.int))) D2 (.lst (ms1.map V.int).reverse) = H7 at m2 e2 ⊢
            refine ⟨len1, fun D3 hD3 => ⟨D2, D3, _, _, rfl, rfl, (Same.new hD3) _ _ e2, upd_same, ?_, fun D4 hD4 => ?_⟩⟩
            · rw [List.length_reverse, List.length_map, pm1.length_eq, sizeLine_eq]
              simp
              omega
            have m4 : Same H6 (upd (upd H7 D3 (.lst [.non])) D4 (.lst ((ms1.map V.int).reverse ++ [.non]))) := (m2.trans (Same.new hD3)).trans (Same.new hD4)
            have e4 : (upd (upd H7 D3 (.lst [.non])) D4 (.lst ((ms1.map V.int).reverse ++ [.non]))) D4 = some (.lst ((ms1.map V.int).reverse ++ [.non])) := upd_same
            generalize upd (upd H7 D3 (.lst [.non])) D4 (.lst ((ms1.map V.int).reverse ++ [.non])) = H8 at m4 e4 ⊢
            refine ⟨D4, _, 0, _, rfl, rfl, SqL.of e4, rev_max pm1 sd1, ?_⟩
            have rb8 : Row H8 L2 B2 := m4 _ _ rb6
            refine ⟨_, rfl, L2, B2, rfl, rb8.sq, by omega, fun D5 ms2 hD5 pm2 sd2 => ?_⟩
            have m5 : Same H8 (upd H8 D5 (.lst (ms2.map V.int))) := Same.new hD5
            have e5 : (upd H8 D5 (.lst (ms2.map V.int))) D5 = some (.lst (ms2.map V.int)) := upd_same
            generalize upd H8 D5 (.lst (ms2.map V.int)) = H9 at m5 e5 ⊢
            refine ⟨len1, fun D6 hD6 => ⟨D5, D6, _, _, rfl, rfl, (Same.new hD6) _ _ e5, upd_same, ?_, fun D7 hD7 => ?_⟩⟩
            · rw [List.length_map, pm2.length_eq, sizeLine_eq]
              simp
              omega
            have m7 : Same H8 (upd (upd H9 D6 (.lst [.non])) D7 (.lst (ms2.map V.int ++ [.non]))) := (m5.trans (Same.new hD6)).trans (Same.new hD7)
            have e7 : (upd (upd H9 D6 (.lst [.non])) D7 (.lst (ms2.map V.int ++ [.non]))) D7 = some (.lst (ms2.map V.int ++ [.non])) := upd_same
            generalize upd (upd H9 D6 (.lst [.non])) D7 (.lst (ms2.map V.int ++ [.non])) = H10 at m7 e7 ⊢
            refine ⟨D7, _, 0, _, rfl, rfl, SqL.of e7, fst_min pm2 sd2, len2, fun r hr' => ?_⟩
            have s10 := s6.trans (m4.trans m7)
            rw [ea, eb]
            exact q r _ (s10.free hr') (s10.trans (Same.new hr')) upd_same
          · have hc : i + 1 < prs.length := by have := of_decide_eq_true hc; omega
            obtain ⟨p, hp, a1, a2, a3⟩ := hcell (k := i + 1) (m := j) (vi := (i : Int) + 1) (vj := (j : Int)) s5 (by omega) rfl hc hj
            obtain ⟨b1, b2, b3⟩ := pushed (x := cellR (prs.map (·.2)) (i + 1) j) n12.symm hL2' s5 rb5 ra5
            refine ⟨_, rfl, .inl ⟨rfl, _, rb5.sq⟩, _, rfl, _, rfl, _, _, rfl, rfl, t, _, _, _, rfl, rfl, (hT.same s5).sq, a1, _, rfl, p.1, _, _, _, rfl, rfl, a2, a3, L2, _, _, rfl, rfl, rb5, ?_, ?_⟩
            · rw [List.length_map]
              exact small1000 (by omega)
            · refine key _ b1 b3 ?_
              rw [if_pos hc]
              exact b2
          · refine key H5 s5 ra5 ?_
            rw [if_neg (fun z => hc (decide_eq_true (by omega))), List.append_nil]
            exact rb5
        · have hc : j + 1 < w0 prs := by have := of_decide_eq_true hc; omega
          obtain ⟨p, hp, a1, a2, a3⟩ := hcell (k := i) (m := j + 1) (vi := (i : Int)) (vj := (j : Int) + 1) s4 rfl (by omega) hi hc
          obtain ⟨b1, b2, b3⟩ := pushed (x := cellR (prs.map (·.2)) i (j + 1)) n12.symm hL2' s4 rb4 ra4
          refine ⟨_, rfl, .inl ⟨rfl, _, rb4.sq⟩, _, rfl, _, rfl, t, _, _, _, rfl, rfl, (hT.same s4).sq, a1, _, rfl, _, _, rfl, rfl, p.1, _, _, _, rfl, rfl, a2, a3, L2, _, _, rfl, rfl, rb4, (by decide), ?_⟩
          refine key _ b1 b3 ?_
          rw [if_pos hc]
          exact b2
        · refine key H4 s4 ra4 ?_
          rw [if_neg (fun z => hc (decide_eq_true (by omega)))]
          exact rb4
      · have hc : 0 < i := by have := of_decide_eq_true hc; omega
        obtain ⟨p, hp, a1, a2, a3⟩ := hcell (k := i - 1) (m := j) (vi := (i : Int) - 1) (vj := (j : Int)) s3 (by omega) rfl (by omega) hj
        obtain ⟨b1, b2, b3⟩ := pushed (x := cellR (prs.map (·.2)) (i - 1) j) n12 hL1 s3 ra3 rb3
        refine ⟨_, rfl, .inl ⟨rfl, _, ra3.sq⟩, _, rfl, _, rfl, _, _, rfl, rfl, t, _, _, _, rfl, rfl, (hT.same s3).sq, a1, _, rfl, p.1, _, _, _, rfl, rfl, a2, a3, L1, _, _, rfl, rfl, ra3, ?_, ?_⟩
        · rw [List.length_map]
          exact small1000 (by omega)
        · refine key _ b1 ?_ b3
          rw [if_pos hc]
          exact b2
      · refine key H3 s3 ?_ rb3
        rw [if_neg (fun z => hc (decide_eq_true (by omega))), List.append_nil]
        exact ra3
    · have hc : 0 < j := by have := of_decide_eq_true hc; omega
      obtain ⟨p, hp, a1, a2, a3⟩ := hcell (k := i) (m := j - 1) (vi := (i : Int)) (vj := (j : Int) - 1) s02 rfl (by omega) hi (by omega)
      obtain ⟨b1, b2, b3⟩ := pushed (x := cellR (prs.map (·.2)) i (j - 1)) n12 hL1 s02 r1 r2
      refine ⟨_, rfl, .inl ⟨rfl, _, r1.sq⟩, _, rfl, _, rfl, t, _, _, _, rfl, rfl, (hT.same s02).sq, a1, _, rfl, _, _, rfl, rfl, p.1, _, _, _, rfl, rfl, a2, a3, L1, _, _, rfl, rfl, r1, (by decide), ?_⟩
      refine key _ b1 ?_ b3
      rw [if_pos hc]
      exact b2
    · refine key H2 s02 ?_ r2
      rw [if_neg (fun z => hc (decide_eq_true (by omega)))]
      exact r1
end
theorem Keep.rok {H : Hp} {C a dx t l : Addr} {prs : Prs} {cs : Ch} (h : Keep H C a dx t l prs cs) : Rok (prs.map (·.2)) := rok_of (by rw [← rowsOk_of rfl]; exact h.ok)
section
variable {P : Program} {w : World} {K : PySem.W.Frag} {mg : Str → Option Value} {base : Heap} {C : Addr}
theorem new_keep {H1 : Hp} {t0 a dx : Addr} {prs : Prs} {W : VK} (ha : H1 a = none) (hdx : H1 dx = none) (nd : dx ≠ a) (hT : Tab H1 t0 prs) (hg : tabB prs = true)
    (q : ∀ t l prs' H2, Same H1 H2 → H1 t = none → H1 l = none → a ≠ l → a ≠ t → (∀ p ∈ prs', H1 p.1 = none) → (prs'.map (·.1)).Nodup → prs'.map (·.2) = prs.map (·.2) → Keep H2 C a dx t l prs' [] → W .non H2) :
    spInit C [.ref a, .ref t0] (upd (upd H1 dx (.own a)) a (.ins C dx [])) W E0 := by
  have s1 : Same H1 (upd (upd H1 dx (.own a)) a (.ins C dx [])) := (Same.new hdx).trans (Same.new (by rw [upd_ne (Ne.symm nd)]; exact ha))
  have ex : (upd (upd H1 dx (.own a)) a (.ins C dx [])) a = some (.ins C dx []) := upd_same
  generalize upd (upd H1 dx (.own a)) a (.ins C dx []) = H2 at s1 ex
  refine ⟨a, dx, t0, prs, rfl, ex, hT.same s1, hg, fun t l prs' H' b ht hl hp hnd hrows hk => q t l prs' H' (fun c o e => b c o (fun z => by rw [z, ha] at e; cases e) (s1 _ _ e)) (s1.free ht) (s1.free hl) (ne_of_none ex hl) (ne_of_none ex ht) (fun p h => s1.free (hp p h)) hnd hrows hk⟩
end
section
variable {P : Program} {w : World} {K : PySem.W.Frag} {mg : Str → Option Value} {base : Heap}
def spIsWholeA : Sp := fun vs H Q _ => ∃ (x : V) (d : PyData), vs = [x] ∧ RdS [] H x d ∧ Q (.bl (isIntD d)) H
theorem ok_isWholeA (T : Blt mg) (D : DefAt K mg "is_whole" dIsWhole ["thing"]) : FnAt P w K mg base 1 "is_whole" ["thing"] spIsWholeA := by
  refine FnAt.of D sc_isWhole (fun vs H Q E h => ?_) (fun f cdv A outer s H vs Q E hr h => ?_)
  · obtain ⟨x, d, rfl, _⟩ := h
    rfl
  · obtain ⟨x, d, rfl, rd, q⟩ := h
    refine ⟨_, pss_one (ps_ret (pe_and (pe_b call_isinst T.isinst boot_isinstance (pa_cons (pv 0) (pa_cons (pe_ty T.int boot_int) pa_nil)))
      (pe_one (pe_not (pe_b call_isinst T.isinst boot_isinstance (pa_cons (pv 0) (pa_cons (pe_ty T.bool boot_bool) pa_nil))))))), ?_⟩
    refine ⟨_, rfl, _, _, _, _, rfl, rd.ty, kit_int _ d, _, rfl, ?_⟩
    cases d with
    | int i => exact iteT ⟨_, rfl, _, _, _, _, rfl, rd.ty, kit_bool _ _, _, rfl, q⟩
    | bool b => exact iteT ⟨_, rfl, _, _, _, _, rfl, rd.ty, kit_bool _ _, _, rfl, q⟩
    | _ => exact iteF q
end
section
variable {W : Nat} {rows : List (List Int)} {r p : Nat}
end
def ButS (S : List Addr) (H H' : Hp) : Prop := ∀ b o, b ∉ S → H b = some o → H' b = some o
theorem ButS.refl (S : List Addr) (H : Hp) : ButS S H H := fun _ _ _ e => e
theorem ButS.trans {S : List Addr} {H H1 H2 : Hp} (a : ButS S H H1) (b : ButS S H1 H2) : ButS S H H2 := fun c o n e => b c o n (a c o n e)
theorem Same.butS {S : List Addr} {H H' : Hp} (a : Same H H') : ButS S H H' := fun c o _ e => a c o e
structure Ab where
  S : List Addr
  J : Hp → Prop
  same : ∀ {H H' : Hp}, J H → Same H H' → J H'
  fresh : ∀ {H : Hp} {a : Addr}, J H → H a = none → a ∉ S
abbrev Ty := V → Hp → Prop
abbrev TyB := Ab → Ty
abbrev EnB := Ab → L2.St → Hp → Prop
def Stb (A : TyB) : Prop := ∀ B v H H', A B v H → ButS B.S H H' → A B v H'
def StbE (Γ : EnB) : Prop := ∀ B σ H H', Γ B σ H → ButS B.S H H' → Γ B σ H'
def tA (Γ : EnB) (A : TyB) : TE := fun σ H Q => ∃ B : Ab, Γ B σ H ∧ B.J H ∧ ∀ v H', ButS B.S H H' → B.J H' → A B v H' → Q v H'
structure AE (X : Cx) (Γ : EnB) (e : Expr) (A : TyB) : Prop where
  pe : PE X e (tA Γ A)
section
variable {X : Cx} {Γ : EnB} {e e1 e2 : Expr} {es : List Expr} {A A' : TyB} {pos : Pos} {n : Nat}
theorem pe_imp {t t' : TE} (h : PE X e t) (i : ∀ σ H Q, t' σ H Q → t σ H Q) : PE X e t' := fun pins s σ H Q I q => h pins s σ H Q I (i σ H Q q)
theorem pa_imp {t t' : TA} (h : PA X es t) (i : ∀ σ H Q, t' σ H Q → t σ H Q) : PA X es t' := fun p pins s σ H Q I q => h p pins s σ H Q I (i σ H Q q)
theorem ae_sub (h : AE X Γ e A) (s : ∀ B v H, A B v H → A' B v H) : AE X Γ e A' := ⟨pe_imp h.pe fun _ _ _ ⟨B, g, j, q⟩ => ⟨B, g, j, fun v H' b j' a => q v H' b j' (s _ v H' a)⟩⟩
theorem ae_var {i : Nat} (h : PE X e (tVar i)) (g : ∀ B σ H, Γ B σ H → ∃ v, σ[i]? = some (some v) ∧ A B v H) : AE X Γ e A := ⟨pe_imp h fun σ H Q ⟨B, hg, j, q⟩ => by
  obtain ⟨v, ev, a⟩ := g _ σ H hg
  exact ⟨v, ev, q v H (ButS.refl _ _) j a⟩⟩
theorem ae_c {v : V} (h : PE X e (tC v)) (a : ∀ B H, A B v H) : AE X Γ e A := ⟨pe_imp h fun σ H Q ⟨B, hg, j, q⟩ => q v H (ButS.refl _ _) j (a _ H)⟩
end
section
variable {X : Cx} {Γ : EnB} {es : List Expr} {A : TyB} {n : Nat} {e1 e2 e3 e4 : Expr}
mutual
def litOf : Nat → Expr → Option PyData
  | 0, _ => none
  | n + 1, e => match e with
    | .Constant .none _ _ => some .none
    | .Constant (.bool b) _ _ => some (.bool b)
    | .Constant (.int i) _ _ => some (.int i)
    | .Constant (.str x) _ _ => some (.str x)
    | .List es _ => (litAll n es).map .list
    | .Tuple es _ _ => (litAll n es).map .tuple
    | .Dict [] [] _ => some (.dict [])
    | _ => none
def litAll : Nat → List Expr → Option (List PyData)
  | 0, _ => none
  | _ + 1, [] => some []
  | n + 1, e :: es => match litOf n e, litAll n es with
    | some d, some ds => some (d :: ds)
    | _, _ => none
end
abbrev tRd (d : PyData) : TyB := fun B v H => RdS B.S H v d
theorem st_rd {d : PyData} : Stb (tRd d) := fun B v H H' r b => r.move (fun c o n e => b c o n e) fun _ n => n
theorem lit_star {n : Nat} {e : Expr} {d : PyData} {env : Env} (h : litOf n e = some d) : starEach (e :: es) env = (false, eval e env) :: starEach es env := by
  cases n with
  | zero => simp [litOf] at h
  | succ n => cases e <;> first | rfl | (simp [litOf] at h)
theorem litAll_len : ∀ (n : Nat) {es : List Expr} {ds : List PyData}, litAll n es = some ds → ds.length ≤ n
  | 0, es, ds, h => by simp [litAll] at h
  | n + 1, [], ds, h => by
    simp only [litAll, Option.some.injEq] at h
    subst h
    exact Nat.zero_le _
  | n + 1, e :: es, ds, h => by
    unfold litAll at h
    split at h
    · rename_i d0 ds0 he hes
      cases h
      have := litAll_len n hes
      simp only [List.length_cons]
      omega
    · cases h
mutual
theorem lit_ok (sg : StbE Γ) : ∀ (n : Nat) {e : Expr} {d : PyData}, n ≤ 1000 → litOf n e = some d → AE X Γ e (tRd d)
  | 0, e, d, _, h => by simp [litOf] at h
  | n + 1, e, d, hn, h => by
    unfold litOf at h
    split at h
    · cases h; exact ae_c pe_non fun _ _ => .non
    · cases h; exact ae_c pe_bl fun _ _ => .bl _
    · cases h; exact ae_c pe_int fun _ _ => .int _
    · cases h; exact ae_c pe_str fun _ _ => .str _
    · rename_i es p
      cases hl : litAll n es with
      | none => rw [hl] at h; cases h
      | some ds =>
        rw [hl] at h
        simp only [Option.map_some, Option.some.injEq] at h
        subst h
        exact ⟨pe_imp (pe_lst (lit_all sg n (by omega) hl)) fun σ H Q ⟨B, hg, j, q⟩ => ⟨B, hg, j, fun vs H1 b1 j1 r1 => ⟨sl6 (by have := litAll_len n hl; have := r1.length; omega), fun p hp => q _ _ (b1.trans (Same.butS (Same.new hp))) (B.same j1 (Same.new hp)) (.lst upd_same (B.fresh j1 hp) (r1.same (Same.new hp)))⟩⟩⟩
    · rename_i es x p
      cases hl : litAll n es with
      | none => rw [hl] at h; cases h
      | some ds =>
        rw [hl] at h
        simp only [Option.map_some, Option.some.injEq] at h
        subst h
        exact ⟨pe_imp (pe_tup (lit_all sg n (by omega) hl)) fun σ H Q ⟨B, hg, j, q⟩ => ⟨B, hg, j, fun vs H1 b1 j1 r1 => ⟨sl6 (by have := litAll_len n hl; have := r1.length; omega), fun p hp => q _ _ (b1.trans (Same.butS (Same.new hp))) (B.same j1 (Same.new hp)) (.tup upd_same (B.fresh j1 hp) (r1.same (Same.new hp)))⟩⟩⟩
    · cases h
      exact ⟨pe_imp pe_dict0 fun σ H Q ⟨B, hg, j, q⟩ p hp => q _ _ (Same.butS (Same.new hp)) (B.same j (Same.new hp)) (.dct upd_same (B.fresh j hp))⟩
    · cases h
theorem lit_all (sg : StbE Γ) : ∀ (n : Nat) {es : List Expr} {ds : List PyData}, n ≤ 1000 → litAll n es = some ds → PA X es (fun σ H Q => ∃ B : Ab, Γ B σ H ∧ B.J H ∧ ∀ vs H', ButS B.S H H' → B.J H' → RdSs B.S H' vs ds → Q vs H')
  | 0, es, ds, _, h => by simp [litAll] at h
  | n + 1, [], ds, _, h => by
    simp only [litAll, Option.some.injEq] at h
    subst h
    exact pa_imp pa_nil fun σ H Q ⟨B, hg, j, q⟩ => q [] H (ButS.refl _ _) j .nil
  | n + 1, e :: es, ds, hn, h => by
    unfold litAll at h
    split at h
    · rename_i d0 ds0 he hes
      cases h
      exact pa_imp (pa_cons (lit_ok sg n (by omega) he).pe (lit_all sg n (by omega) hes) (lit_star he)) fun σ H Q ⟨B, hg, j, q⟩ => ⟨B, hg, j, fun v H1 b1 j1 a1 => ⟨B, sg _ _ _ _ hg b1, j1, fun vs H2 b2 j2 r2 => q (v :: vs) H2 (b1.trans b2) j2 (.cons (st_rd _ _ _ _ a1 b2) r2)⟩⟩
    · cases h
end
theorem sz_of {c k : Nat} {d : PyData} (h : (d.showable && decide (d.shown.length ≤ c) && decide (d.depth ≤ k)) = true) : Sz c k d := by
  simp only [Bool.and_eq_true, decide_eq_true_eq] at h
  exact ⟨h.1.1, h.1.2, h.2⟩
end
theorem at_memV {xs : List V} {v : Int} (h0 : 0 ≤ v) (h1 : v < xs.length) : ∃ x ∈ xs, atI xs v = some x := by
  obtain ⟨k, rfl⟩ : ∃ k : Nat, v = k := ⟨v.toNat, by omega⟩
  have hk : k < xs.length := by omega
  exact ⟨xs[k], List.getElem_mem hk, atI_nat (by simp [hk])⟩
mutual
theorem rds_avoid {S : List Addr} {H : Hp} {a : Addr} (ha : H a = none) : ∀ {x : V} {d : PyData}, RdS S H x d → RdS (a :: S) H x d
  | _, _, .non => .non
  | _, _, .bl b => .bl b
  | _, _, .int i => .int i
  | _, _, .str x => .str x
  | _, _, .lst e n r => .lst e (by simp only [List.mem_cons, not_or]; exact ⟨ne_of_none e ha, n⟩) (rdss_avoid ha r)
  | _, _, .tup e n r => .tup e (by simp only [List.mem_cons, not_or]; exact ⟨ne_of_none e ha, n⟩) (rdss_avoid ha r)
  | _, _, .dct e n => .dct e (by simp only [List.mem_cons, not_or]; exact ⟨ne_of_none e ha, n⟩)
theorem rdss_avoid {S : List Addr} {H : Hp} {a : Addr} (ha : H a = none) : ∀ {xs : List V} {ds : List PyData}, RdSs S H xs ds → RdSs (a :: S) H xs ds
  | _, _, .nil => .nil
  | _, _, .cons h t => .cons (rds_avoid ha h) (rdss_avoid ha t)
end
abbrev tD (φ : PyData → Prop) : TyB := fun B v H => ∃ d, RdS B.S H v d ∧ φ d
theorem st_d {φ : PyData → Prop} : Stb (tD φ) := fun B v H H' ⟨d, r, s⟩ b => ⟨d, r.move (fun c o n e => b c o n e) fun _ n => n, s⟩
def IP (p : Int → Prop) : PyData → Prop := fun d => ∃ n : Int, d = .int n ∧ p n
def LP (φ : PyData → Prop) (lo hi : Nat) : PyData → Prop := fun d => ∃ ds, d = .list ds ∧ lo ≤ ds.length ∧ ds.length ≤ hi ∧ ∀ e ∈ ds, φ e
structure AX (X : Cx) (Γ : EnB) (es : List Expr) (ψ : List PyData → Prop) : Prop where
  pa : PA X es fun σ H Q => ∃ B : Ab, Γ B σ H ∧ B.J H ∧ ∀ vs ds H', ButS B.S H H' → B.J H' → RdSs B.S H' vs ds → ψ ds → Q vs H'
abbrev AU (X : Cx) (Γ : EnB) (es : List Expr) (n : Nat) (φ : PyData → Prop) : Prop := AX X Γ es fun ds => ds.length = n ∧ ∀ e ∈ ds, φ e
section
variable {X : Cx} {Γ : EnB} {e e1 e2 : Expr} {es : List Expr} {φ φ' : PyData → Prop} {ψ : List PyData → Prop} {pos : Pos} {n : Nat}
theorem ad_imp (h : AE X Γ e (tD φ)) (i : ∀ d, φ d → φ' d) : AE X Γ e (tD φ') := ae_sub h fun _ _ _ ⟨d, r, q⟩ => ⟨d, r, i d q⟩
theorem ax_imp {ψ' : List PyData → Prop} (h : AX X Γ es ψ) (i : ∀ d, ψ d → ψ' d) : AX X Γ es ψ' := ⟨pa_imp h.pa fun _ _ _ ⟨B, g, j, q⟩ => ⟨B, g, j, fun vs ds H' b j' r z => q vs ds H' b j' r (i ds z)⟩⟩
theorem ax_nil : AX X Γ [] (· = []) := ⟨pa_imp pa_nil fun σ H Q ⟨B, hg, j, q⟩ => q [] [] H (ButS.refl _ _) j .nil rfl⟩
theorem ax_cons (sg : StbE Γ) (h : AE X Γ e (tD φ)) (hr : AX X Γ es ψ) (hs : starEach (e :: es) X.env = (false, eval e X.env) :: starEach es X.env := by rfl) : AX X Γ (e :: es) (fun ds => ∃ d r, ds = d :: r ∧ φ d ∧ ψ r) :=
  ⟨pa_imp (pa_cons h.pe hr.pa hs) fun σ H Q ⟨B, hg, j, q⟩ => ⟨B, hg, j, fun v H1 b1 j1 a1 => ⟨B, sg _ _ _ _ hg b1, j1, fun vs ds H2 b2 j2 r2 z2 => by
    obtain ⟨d, r, p⟩ := st_d _ _ _ _ a1 b2
    exact q (v :: vs) (d :: ds) H2 (b1.trans b2) j2 (.cons r r2) ⟨d, ds, rfl, p, z2⟩⟩⟩⟩
theorem au_nil : AU X Γ [] 0 φ := ax_imp ax_nil fun d e => by subst e; exact ⟨rfl, fun x h => nomatch h⟩
theorem au_cons (sg : StbE Γ) (h : AE X Γ e (tD φ)) (hr : AU X Γ es n φ) (hs : starEach (e :: es) X.env = (false, eval e X.env) :: starEach es X.env := by rfl) : AU X Γ (e :: es) (n + 1) φ :=
  ax_imp (ax_cons sg h hr hs) fun ds ⟨d, r, e, p, l, f⟩ => by
    subst e
    refine ⟨by rw [List.length_cons, l], fun x hx => ?_⟩
    rcases List.mem_cons.mp hx with z | z
    · rw [z]; exact p
    · exact f x z
theorem ad_tup {x1} (h : AX X Γ es ψ) (hn : ∀ ds, ψ ds → ds.length ≤ 1000) (hφ : ∀ ds, ψ ds → φ (.tuple ds)) : AE X Γ (.Tuple es x1 pos) (tD φ) :=
  ⟨pe_imp (pe_tup h.pa) fun σ H Q ⟨B, hg, j, q⟩ => ⟨B, hg, j, fun vs ds H1 b1 j1 r1 z1 => ⟨by rw [r1.length]; exact sl6 (hn ds z1), fun p hp =>
    q _ _ (b1.trans (Same.butS (Same.new hp))) (B.same j1 (Same.new hp)) ⟨.tuple ds, .tup upd_same (B.fresh j1 hp) (r1.same (Same.new hp)), hφ ds z1⟩⟩⟩⟩
theorem ad_lst (h : AX X Γ es ψ) (hn : ∀ ds, ψ ds → ds.length ≤ 1000) (hφ : ∀ ds, ψ ds → φ (.list ds)) : AE X Γ (.List es pos) (tD φ) :=
  ⟨pe_imp (pe_lst h.pa) fun σ H Q ⟨B, hg, j, q⟩ => ⟨B, hg, j, fun vs ds H1 b1 j1 r1 z1 => ⟨by rw [r1.length]; exact sl6 (hn ds z1), fun p hp =>
    q _ _ (b1.trans (Same.butS (Same.new hp))) (B.same j1 (Same.new hp)) ⟨.list ds, .lst upd_same (B.fresh j1 hp) (r1.same (Same.new hp)), hφ ds z1⟩⟩⟩⟩
theorem ad_disp (h : AU X Γ es n φ) (hn : n ≤ 1000 := by decide) : AE X Γ (.List es pos) (tD (LP φ n n)) := ad_lst h (fun ds z => by rw [z.1]; exact hn) fun ds z => ⟨ds, rfl, by rw [z.1]; exact Nat.le_refl _, by rw [z.1]; exact Nat.le_refl _, z.2⟩
theorem rdss_app {S : List Addr} {H : Hp} : ∀ {xs ys : List V} {ds es : List PyData}, RdSs S H xs ds → RdSs S H ys es → RdSs S H (xs ++ ys) (ds ++ es)
  | _, _, _, _, .nil, h => h
  | _, _, _, _, .cons r t, h => .cons r (rdss_app t h)
theorem ad_cat {φ1 φ2 : PyData → Prop} (sg : StbE Γ) (h1 : AE X Γ e1 (tD φ1)) (h2 : AE X Γ e2 (tD φ2)) (i1 : ∀ d, φ1 d → ∃ ds, d = .list ds ∧ ds.length ≤ 500) (i2 : ∀ d, φ2 d → ∃ ds, d = .list ds ∧ ds.length ≤ 500) (i : ∀ a b, φ1 (.list a) → φ2 (.list b) → φ (.list (a ++ b))) : AE X Γ (.BinOp e1 .Add e2 pos) (tD φ) :=
  ⟨pe_imp (pe_op op_cat h1.pe h2.pe) fun σ H Q ⟨B, hg, j, q⟩ => ⟨B, hg, j, fun v H1 b1 j1 a1 => ⟨B, sg _ _ _ _ hg b1, j1, fun u H2 b2 j2 a2 => by
    obtain ⟨d, r, p⟩ := st_d _ _ _ _ a1 b2
    obtain ⟨d2, r2, p2⟩ := a2
    obtain ⟨ds, rfl, n1⟩ := i1 d p
    obtain ⟨ds2, rfl, n2⟩ := i2 d2 p2
    cases r with
    | @lst a xs _ ea na ra =>
      cases r2 with
      | @lst b ys _ eb nb rb =>
        refine ⟨a, b, xs, ys, rfl, rfl, ea, eb, sl6 (by rw [ra.length, rb.length]; omega), fun p hp => ?_⟩
        exact q _ _ ((b1.trans b2).trans (Same.butS (Same.new hp))) (B.same j2 (Same.new hp)) ⟨.list (ds ++ ds2), .lst upd_same (B.fresh j2 hp) ((rdss_app ra rb).same (Same.new hp)), i _ _ ‹_› ‹_›⟩⟩⟩⟩
theorem ad_more {lo1 hi1 lo2 hi2 : Nat} (sg : StbE Γ) (h1 : AE X Γ e1 (tD (LP φ lo1 hi1))) (h2 : AE X Γ e2 (tD (LP φ lo2 hi2))) (k1 : hi1 ≤ 500 := by decide) (k2 : hi2 ≤ 500 := by decide) : AE X Γ (.BinOp e1 .Add e2 pos) (tD (LP φ (lo1 + lo2) (hi1 + hi2))) :=
  ad_cat sg h1 h2 (fun d ⟨ds, e, _, l, _⟩ => ⟨ds, e, by omega⟩) (fun d ⟨ds, e, _, l, _⟩ => ⟨ds, e, by omega⟩) fun a b ⟨ds, e, l1, l2, f⟩ ⟨ds2, e2, m1, m2, g⟩ => by
    injection e with e
    injection e2 with e2
    subst e e2
    refine ⟨_, rfl, by rw [List.length_append]; omega, by rw [List.length_append]; omega, fun x hx => ?_⟩
    rcases List.mem_append.mp hx with z | z
    · exact f x z
    · exact g x z
theorem ad_var {i : Nat} (h : PE X e (tVar i)) (g : ∀ B σ H, Γ B σ H → ∃ v, σ[i]? = some (some v) ∧ tD φ B v H) : AE X Γ e (tD φ) := ae_var h g
theorem ad_lit (d : PyData) (sg : StbE Γ) (h : litOf 40 e = some d) (hz : φ d) : AE X Γ e (tD φ) := ae_sub (lit_ok sg 40 (by decide) h) fun B v H r => ⟨d, r, hz⟩
theorem ad_int {i : Int} (h : PE X e (tC (.int i))) : AE X Γ e (tD (IP (· = i))) := ae_c h fun _ _ => ⟨_, .int i, i, rfl, rfl⟩
theorem ad_item {lo hi : Nat} (h1 : AE X Γ e1 (tD (LP φ lo hi))) {t2 : TE} (h2 : PE X e2 t2) (pl : PlainIx e2) (g : ∀ B σ H Q, Γ B σ H → B.J H → (∀ (i : Int) H', 0 ≤ i → i < lo → ButS B.S H H' → B.J H' → Q (.int i) H') → t2 σ H Q) (sg : StbE Γ) : AE X Γ (.Subscript e1 e2 pos) (tD φ) :=
  ⟨pe_imp (pe_ix ix_list h1.pe h2 pl) fun σ H Q ⟨B, hg, j, q⟩ => ⟨B, hg, j, fun v H1 b1 j1 a1 => g B σ H1 _ (sg _ _ _ _ hg b1) j1 fun i H2 i0 i1 b2 j2 => by
    obtain ⟨_, r, ds, rfl, l1, l2, f⟩ := st_d _ _ _ _ a1 b2
    cases r with
    | @lst a xs _ ea na ra =>
      obtain ⟨x, hx, hat⟩ := at_memV (xs := xs) i0 (by rw [ra.length]; omega)
      obtain ⟨ms, e1, e2, hm⟩ := ra.pairs
      subst e1 e2
      obtain ⟨m, hm1, hm2⟩ := List.mem_map.mp hx
      subst hm2
      exact ⟨a, _, i, m.1, rfl, rfl, SqL.of ea, hat, q _ _ (b1.trans b2) j2 ⟨m.2, hm m hm1, f m.2 (List.mem_map.mpr ⟨m, hm1, rfl⟩)⟩⟩⟩⟩
end
abbrev tE (d : PyData) : TyB := tD (· = d)
section
variable {X : Cx} {Γ : EnB} {e e1 e2 : Expr} {es : List Expr} {φ φ' : PyData → Prop} {pos : Pos} {n : Nat} {d d1 d2 : PyData} {ds es' : List PyData}
theorem ad_intE {i : Int} (h : PE X e (tC (.int i))) : AE X Γ e (tE (.int i)) := ae_c h fun _ _ => ⟨_, .int i, rfl⟩
theorem ad_negE {i : Int} (h : AE X Γ e (tE (.int i))) : AE X Γ (.UnaryOp .USub e pos) (tE (.int (-i))) := ⟨pe_imp (pe_un o_neg h.pe) fun σ H Q ⟨B, hg, j, q⟩ => ⟨B, hg, j, fun v H1 b1 j1 a1 => by
  obtain ⟨_, r1, rfl⟩ := a1
  cases r1
  exact ⟨i, rfl, q _ _ b1 j1 ⟨_, .int _, rfl⟩⟩⟩⟩
end
section
variable {X : Cx} {Γ : EnB} {st D : Addr} {l : List (Nat × PyData)} {e : Expr} {es : List Expr} {pos : Pos} {d : PyData} {ds : List PyData} {i : Nat}
end
theorem rds_but {S : List Addr} {H H' : Hp} {x : V} {d : PyData} (r : RdS S H x d) (b : ButS S H H') : RdS S H' x d := r.move (fun c o n e => b c o n e) fun _ n => n
theorem ps_w1 {X : Cx} {s : Stmt} {α : Type} {C : α → Prop} {t : α → TS} (h : ∀ a, C a → PS X s (t a)) : PS X s (fun E σ H => ∃ a, C a ∧ t a E σ H) := fun pins s' σ H D I ⟨a, c, q⟩ => h a c pins s' σ H D I q
def VP (B : Ab) (σ : L2.St) (H : Hp) (i : Nat) (φ : PyData → Prop) : Prop := ∃ v, σ[i]? = some (some v) ∧ tD φ B v H
section
variable {B : Ab} {σ : L2.St} {H H' : Hp} {i k : Nat} {φ φ' : PyData → Prop} {d : PyData} {v : V} {x : Option V}
theorem VP.but (h : VP B σ H i φ) (b : ButS B.S H H') : VP B σ H' i φ := let ⟨v, e, r⟩ := h; ⟨v, e, st_d _ _ _ _ r b⟩
end
def rc (i : Nat) (ns : List Int) (x : Int) (k : Nat) : List (Nat × Nat) := ((List.range k).filter fun j => decide (ns.getD j 0 = x)).map fun j => (i, j)
def cellsUp (prs : Prs) (x : Int) (n : Nat) : List (Nat × Nat) := (List.range n).flatMap fun i => rc i (rowAt prs i) x (rowAt prs i).length
theorem rc_succ (i : Nat) (ns : List Int) (x : Int) (k : Nat) : rc i ns x (k + 1) = rc i ns x k ++ (if ns.getD k 0 = x then [(i, k)] else []) := by
  unfold rc
  rw [List.range_succ, List.filter_append, List.map_append]
  by_cases h : ns.getD k 0 = x
  · rw [if_pos h, List.filter_cons, decide_eq_true h]
    rfl
  · rw [if_neg h, List.filter_cons, decide_eq_false h]
    rfl
theorem rc_len (i : Nat) (ns : List Int) (x : Int) (k : Nat) : (rc i ns x k).length ≤ k := by
  unfold rc
  rw [List.length_map]
  exact Nat.le_trans (List.length_filter_le _ _) (by rw [List.length_range]; omega)
theorem cellsUp_succ (prs : Prs) (x : Int) (n : Nat) : cellsUp prs x (n + 1) = cellsUp prs x n ++ rc n (rowAt prs n) x (rowAt prs n).length := by
  unfold cellsUp
  rw [List.range_succ, List.flatMap_append]
  simp
theorem dec_v {i j : Int} : decide (V.int i = V.int j) = decide (i = j) := by
  rw [decide_eq_decide]
  constructor
  · intro h
    injection h
  · rintro rfl
    rfl
abbrev Cs := List (Addr × Nat × Nat)
def cellV (c : Addr × Nat × Nat) : V := .ref c.1
def CellAt (H : Hp) (c : Addr × Nat × Nat) : Prop := H c.1 = some (.tup [.int (c.2.1 : Nat), .int (c.2.2 : Nat)])
section
variable {P : Program} {w : World} {K : PySem.W.Frag} {mg : Str → Option Value} {base : Heap}
def spCells : Sp := fun vs H Q _ => ∃ (t : Addr) (prs : Prs) (x : Int), vs = [.ref t, .int x] ∧ Tab H t prs ∧ tabB prs = true ∧
  ∀ L (cs : Cs) H', H L = none → Same H H' → H' L = some (.lst (cs.map cellV)) → (∀ c ∈ cs, CellAt H' c ∧ H c.1 = none) → cs.map (·.2) = cellsUp prs x prs.length → cs.length ≤ 36 → Q (.ref L) H'
theorem sc_cells : FnScope ["table", "x", "cells", "row", "numbers"] ["table", "x"] (defScope dCells) := ⟨rfl, rfl, rfl, by decide +kernel, rfl, by decide +kernel, by decide +kernel⟩
set_option maxHeartbeats 16000000 in
theorem ok_cells (T : Blt mg) (D : DefAt K mg "cells_of" dCells ["table", "x"]) (G1 : FnAt P w K mg base 6 "need_table" ["thing"] spNeedTable) (G2 : FnAt P w K mg base 2 "need_number" ["thing"] spNeedNumber) : FnAt P w K mg base 7 "cells_of" ["table", "x"] spCells := by
  refine FnAt.of D sc_cells (fun vs H Q E h => ?_) (fun f cdv A outer s H vs Q E hr h => ?_)
  · obtain ⟨t, prs, x, rfl, _⟩ := h
    rfl
  · obtain ⟨t, prs, x, rfl, hT, hg, q⟩ := h
    obtain ⟨g, g1, g2, g3, g4⟩ := good_of hg
    have hs := good_bounds hg
    have nd := sc_cells.nd
    have nd1 : (["place", "number", "row", "x"] : List Str).Nodup := by decide +kernel
    refine ⟨_, pss_cons (ps_expr (pe_f G1 hr (pa_cons (pv 0) pa_nil))) (pss_cons (ps_expr (pe_f G2 (hr.mono (by decide)) (pa_cons (pv 1) pa_nil)))
      (pss_cons (ps_set (i := 2) nd rfl (Or.inl rfl) (pe_lst pa_nil))
      (pss_cons (ps_for PassesOwn.never rfl (pi_enum rfl T.enum (pa_cons (pv 0) pa_nil)) (pg_tup rfl (pgs_cons (pg_name (i := 3) nd rfl (Or.inr rfl)) (pgs_cons (pg_name (i := 4) nd rfl (Or.inl rfl)) pgs_nil)))
        (pss_one (ps_expr (pe_bm PySem.F.plainAttrs_list PySem.F.slot_list_extend PySem.F.type_list_extend mt_extend (pv 2) (pa_cons
          (pe_comp ["place", "number", "row", "x"] [none, none, some 3, some 1] (defScope dCells) ["table", "x", "cells", "row", "numbers"] rfl (pi_enum rfl T.enum (pa_cons (pv 4) pa_nil)) (by decide +kernel)
            (fun cl C s2 H2 ex => pg_c2 K rfl nd1) (fun cl C s2 H2 ex => pifs_one (pt_cmpR op_eq (pv 1) (pv 3) (nomark _))) (fun cl C s2 H2 ex => pe_tup (pa_cons (pv 2) (pa_cons (pv 0) pa_nil)))) pa_nil)))))
      (pss_one (ps_ret (pv 2)))))), ?_⟩
    refine ⟨_, rfl, t, prs, rfl, hT, hs, hg, fun H1 s1 => ⟨_, rfl, x, rfl, len0, fun L hL => ?_⟩⟩
    have L0 : H L = none := s1.free hL
    have s2 : Same H (upd H1 L (.lst [])) := s1.trans (Same.new hL)
    refine ⟨_, rfl, t, rfl, ⟨_, (hT.same s2).sq⟩, for_enum (K := K) (a := t) (xs := prs.map fun p => V.ref p.1) (fun i σ H2 => ∃ (cs : Cs) (o3 o4 : Option V), σ = [some (.ref t), some (.int x), some (.ref L), o3, o4] ∧ Same H H2 ∧ H2 L = some (.lst (cs.map cellV)) ∧
      (∀ c ∈ cs, CellAt H2 c ∧ H c.1 = none) ∧ cs.map (·.2) = cellsUp prs x i ∧ cs.length ≤ 6 * i)
      ⟨[], none, none, rfl, s2, upd_same, fun c hc => (nomatch hc), rfl, by simp⟩ (fun i σ H2 _ ⟨_, _, _, _, sm, _⟩ => (hT.same sm).sq) ?_ ?_⟩
    · rintro i y σ H2 T1 hi ⟨cs, o3, o4, rfl, sm, hLl, hcs, hcm, hcl⟩ hT1
      have hil : i < prs.length := by
        have := (List.getElem?_eq_some_iff.mp hi).1
        rw [List.length_map] at this
        exact this
      obtain ⟨p, hp1, hp2, hp3⟩ := rowAt_mem hil
      rw [List.getElem?_map, hp2] at hi
      have hy : V.ref p.1 = y := Option.some.inj hi
      subst hy
      have hpl := g.len p hp1
      have smT : Same H2 (upd H2 T1 (.tup [.int (i : Nat), .ref p.1])) := Same.new hT1
      have eT : (upd H2 T1 (.tup [.int (i : Nat), .ref p.1])) T1 = some (.tup [.int (i : Nat), .ref p.1]) := upd_same
      generalize upd H2 T1 (.tup [.int (i : Nat), .ref p.1]) = H3 at smT eT ⊢
      refine ⟨T1, _, rfl, SqT.of eT, rfl, _, _, rfl, _, _, rfl, rfl, ?_⟩
      have sm3 := sm.trans smT
      have hR3 := (hT.same sm3).r p hp1
      have hL3 := smT _ _ hLl
      refine ⟨_, rfl, .inl ⟨rfl, _, SqL.of hL3⟩, _, rfl, p.1, rfl, ⟨_, hR3.sq⟩, ?_⟩
      refine compE_run (xs := p.2.map V.int) (fun D2 k ys H' => ∃ qs : Cs, Same H3 H' ∧ H' D2 = some (.lst ys) ∧ ys = qs.map cellV ∧ (∀ c ∈ qs, CellAt H' c ∧ H3 c.1 = none ∧ c.1 ≠ D2) ∧ qs.map (·.2) = rc i p.2 x k)
        (fun D2 hD2 => ⟨[], Same.new hD2, upd_same, rfl, fun c hc => (nomatch hc), rfl⟩) (fun D2 k ys H' _ _ ⟨_, sm', e, _⟩ => ⟨e, (hR3.same sm').sq⟩) ?_ ?_
      · rintro D2 k z ys H' T2 hD2 hz ⟨qs, sm', eD, hys, hqs, hqm⟩ hT2
        have hkl : k < p.2.length := by
          have := (List.getElem?_eq_some_iff.mp hz).1
          rw [List.length_map] at this
          exact this
        have ez : z = .int (p.2.getD k 0) := by
          rw [List.getElem?_map, List.getElem?_eq_getElem hkl] at hz
          rw [List.getD_eq_getElem?_getD, List.getElem?_eq_getElem hkl]
          exact (Option.some.inj hz).symm
        subst ez
        have smT2 : Same H' (upd H' T2 (.tup [.int (k : Nat), .int (p.2.getD k 0)])) := Same.new hT2
        generalize upd H' T2 (.tup [.int (k : Nat), .int (p.2.getD k 0)]) = H4 at smT2 ⊢
        have ql : qs.length ≤ k := by
          have := congrArg List.length hqm
          rw [List.length_map] at this
          rw [this]
          exact rc_len _ _ _ _
        refine ⟨_, rfl, _, rfl, rfl, _, rfl, ?_⟩
        rw [dec_v]
        by_cases hx : p.2.getD k 0 = x
        · rw [decide_eq_true hx]
          refine iteT ⟨_, rfl, _, rfl, len2, fun T3 hT3 => ?_⟩
          have nT3 : D2 ≠ T3 := ne_of_none (smT2 _ _ eD) hT3
          have s3T : Same H4 (upd H4 T3 (.tup [.int (i : Nat), .int (k : Nat)])) := Same.new hT3
          refine ⟨s3T _ _ (smT2 _ _ eD), ?_, qs ++ [(T3, i, k)], ((sm'.trans smT2).trans s3T).upd hD2, upd_same, ?_, fun c hc => ?_, ?_⟩
          · rw [hys, List.length_map]
            exact small1000 (by omega)
          · rw [hys, List.map_append]
            rfl
          · rcases List.mem_append.mp hc with z | z
            · obtain ⟨z1, z2, z3⟩ := hqs c z
              refine ⟨?_, z2, z3⟩
              unfold CellAt
              rw [upd_ne z3]
              exact s3T _ _ (smT2 _ _ z1)
            · have : c = (T3, i, k) := by simpa using z
              subst this
              refine ⟨?_, (sm'.trans smT2).free hT3, Ne.symm nT3⟩
              unfold CellAt
              rw [upd_ne (Ne.symm nT3)]
              exact upd_same
          · rw [List.map_append, hqm, rc_succ, if_pos hx]
            rfl
        · rw [decide_eq_false hx]
          refine iteF ⟨qs, sm'.trans smT2, smT2 _ _ eD, hys, fun c hc => ?_, ?_⟩
          · obtain ⟨z1, z2, z3⟩ := hqs c hc
            exact ⟨smT2 _ _ z1, z2, z3⟩
          · rw [hqm, rc_succ, if_neg hx, List.append_nil]
      · rintro D2 ys H' hD2 ⟨qs, sm', eD, hys, hqs, hqm⟩
        rw [List.length_map] at hqm
        have ql : qs.length ≤ p.2.length := by
          have := congrArg List.length hqm
          rw [List.length_map] at this
          rw [this]
          exact rc_len _ _ _ _
        have hL4 := sm' _ _ hL3
        refine ⟨L, D2, _, _, rfl, rfl, hL4, eD, ?_, ?_⟩
        · rw [List.length_map, hys, List.length_map]
          exact sl6 (by omega)
        · refine ⟨cs ++ qs, _, _, rfl, (sm3.trans sm').upd L0, ?_, fun c hc => ?_, ?_, ?_⟩
          · rw [upd_same, hys, List.map_append]
          · have nL : ∀ c : Addr × Nat × Nat, CellAt H' c → c.1 ≠ L := fun c h => ne_of h hL4 (by intro z; cases z)
            rcases List.mem_append.mp hc with z | z
            · obtain ⟨z1, z2⟩ := hcs c z
              have z3 : CellAt H' c := sm' _ _ (smT _ _ z1)
              refine ⟨?_, z2⟩
              unfold CellAt
              rw [upd_ne (nL c z3)]
              exact z3
            · obtain ⟨z1, z2, z3⟩ := hqs c z
              refine ⟨?_, sm3.free z2⟩
              unfold CellAt
              rw [upd_ne (nL c z1)]
              exact z1
          · rw [List.map_append, hcm, hqm, cellsUp_succ, hp3]
          · rw [List.length_append]
            omega
    · rintro σ H2 ⟨cs, o3, o4, rfl, sm, hLl, hcs, hcm, hcl⟩
      rw [List.length_map] at hcm hcl
      exact ⟨_, rfl, q L cs H2 L0 sm hLl hcs hcm (by omega)⟩
end
structure Err (K : PySem.W.Frag) (S : Addr) (cs : List Addr) (i : Nat) (C : Addr) : Prop where
  k : ExcK K C
  sk : PySem.W.mroIn K C (.ref S) = some true
  kv : PySem.W.kitOne K (.ref C) (.type "ValueError") = some true
  ks : ∀ j D, cs[j]? = some D → PySem.W.kitOne K (.ref C) (.ref D) = some (decide (j = i))
section
variable {P : Program} {w : World} {K : PySem.W.Frag} {mg : Str → Option Value} {base : Heap} {c c0 c1 c2 : Addr}
def spNeedNX (c : Addr) : Sp := fun vs H Q E => ∃ (x : V) (d : PyData), vs = [x] ∧ RdS [] H x d ∧ (isIntD d = true → Q .non H) ∧ (isIntD d = false → E (.ref c) none H)
theorem ok_needNX (hk : ExcK K c) (hm : mg "NoNumber" = some (.ref c)) (D : DefAt K mg "need_number" dNeedNumber ["thing"]) (G : FnAt P w K mg base 1 "is_whole" ["thing"] spIsWholeA) : FnAtX P w K mg base 2 "need_number" ["thing"] (spNeedNX c) := by
  refine FnAtX.of D sc_needNumber (fun vs H Q E h => ?_) (fun f cdv A outer s H vs Q E hr h => ?_)
  · obtain ⟨x, d, rfl, _⟩ := h
    rfl
  · obtain ⟨x, d, rfl, rd, hq, he⟩ := h
    refine ⟨_, pss_one (ps_if (pt_not (pt_val (pe_f G hr (pa_cons (pv 0) pa_nil)))) (pss_one (ps_raise throws_def hk pe_str hm)) pss_nil), ?_⟩
    refine ⟨_, rfl, x, d, rfl, rd, _, rfl, ?_⟩
    cases e : isIntD d with
    | false => exact iteT (he e)
    | true => exact iteF (hq e)
end
def cellD (r p : Nat) : PyData → Bool
  | .tuple [.int a, .int b] => (decide (0 ≤ a) && decide (a < (r : Int))) && (decide (0 ≤ b) && decide (b < (p : Int)))
  | _ => false
theorem cellD_yes {r p : Nat} {i j : Int} (h : (0 ≤ i ∧ i < r) ∧ 0 ≤ j ∧ j < p) : cellD r p (.tuple [.int i, .int j]) = true := by
  obtain ⟨⟨h1, h2⟩, h3, h4⟩ := h
  simp [cellD, h1, h2, h3, h4]
theorem cellD_no {r p : Nat} {i j : Int} (h : ¬ ((0 ≤ i ∧ i < r) ∧ 0 ≤ j ∧ j < p)) : cellD r p (.tuple [.int i, .int j]) = false := by
  cases e : cellD r p (.tuple [.int i, .int j]) with
  | false => rfl
  | true =>
    simp only [cellD, Bool.and_eq_true, decide_eq_true_eq] at e
    exact absurd e h
section
variable {P : Program} {w : World} {K : PySem.W.Frag} {mg : Str → Option Value} {base : Heap} {c c0 c1 c2 : Addr}
def spAllWholeTA : Sp := fun vs H Q _ => ∃ (a : Addr) (xs : List V) (ds : List PyData), vs = [.ref a] ∧ H a = some (.tup xs) ∧ RdSs [] H xs ds ∧ ds.length ≤ 1000 ∧ ∀ H', Same H H' → Q (.bl (ds.all isIntD)) H'
theorem ok_allWholeTA (T : Blt mg) (D : DefAt K mg "all_whole" dAllWhole ["things"]) (G1 : FnAt P w K mg base 1 "is_whole" ["thing"] spIsWholeA) : FnAt P w K mg base 2 "all_whole" ["things"] spAllWholeTA := by
  refine FnAt.of D sc_allWhole (fun vs H Q E h => ?_) (fun f cdv A outer s H vs Q E hr h => ?_)
  · obtain ⟨a, xs, ds, rfl, _⟩ := h
    rfl
  · obtain ⟨a, xs, ds, rfl, hl, rs, hn, q⟩ := h
    obtain ⟨ms, e1, e2, hm⟩ := rs.pairs
    subst e1 e2
    rw [List.length_map] at hn
    have nd1 : (["thing"] : List Str).Nodup := by decide +kernel
    refine ⟨_, pss_one (ps_ret (pe_b (call_all rfl) T.all boot_all (pa_cons (pe_comp ["thing"] [none] (defScope dAllWhole) ["things"] rfl (pi_tup (pv 0)) (by decide +kernel)
      (fun cl C s2 H2 ex => pg_c 0 nd1) (fun cl C s2 H2 ex => pifs_nil) (fun cl C s2 H2 ex => pe_f G1 hr (pa_cons (pv 0) pa_nil))) pa_nil))), ?_⟩
    refine ⟨_, rfl, a, rfl, ⟨_, SqT.of hl⟩, comp_tup (fun m : V × PyData => m.1) (fun m => .bl (isIntD m.2)) (SqT.of hl) (sl6 hn) (fun m hx H' Q' sm q' => ?_) fun D H' hD sm hDl => ?_⟩
    · exact ⟨_, rfl, m.1, m.2, rfl, (hm m hx).same sm, q' _ (Same.refl _)⟩
    · refine ⟨D, ms.map fun m => isIntD m.2, rfl, SqL.of (by rw [hDl, map_bl]), ?_⟩
      have q1 := q H' sm
      rw [List.all_map] at q1 ⊢
      exact q1
def spCellSzA : Sp := fun vs H Q _ => ∃ (x : V) (d : PyData) (r p : Nat), vs = [.int (r : Nat), .int (p : Nat), x] ∧ RdS [] H x d ∧ Sz 1000000 60 d ∧ ∀ H', Same H H' → Q (.bl (cellD r p d)) H'
theorem ok_cellSzA (T : Blt mg) (htup : mg "tuple" = none) (D : DefAt K mg "is_cell_of_size" dCellSz ["rows", "places", "thing"]) (G : FnAt P w K mg base 2 "all_whole" ["things"] spAllWholeTA) : FnAt P w K mg base 3 "is_cell_of_size" ["rows", "places", "thing"] spCellSzA := by
  refine FnAt.of D sc_cellSz (fun vs H Q E h => ?_) (fun f cdv A outer s H vs Q E hr h => ?_)
  · obtain ⟨x, d, r, p, rfl, _⟩ := h
    rfl
  · obtain ⟨x, d, r, p, rfl, rd, sz, q⟩ := h
    refine ⟨_, pss_cons (ps_if (PW.pt (pw_or (pt_not (pt_val (pe_b call_isinst T.isinst boot_isinstance (pa_cons (pv 2) (pa_cons (pe_ty htup boot_tuple) pa_nil))))) (pw_or (pt_cmpR op_ne (pe_b call_len_seq T.len boot_len (pa_cons (pv 2) pa_nil)) pe_int (nomark _)) (pw_or1 (pt_not (pt_val (pe_f G hr (pa_cons (pv 2) pa_nil)))))))) (pss_one (ps_ret pe_bl)) pss_nil)
      (pss_one (ps_ret (pe_and (pe_chain o_le o_lt pe_int (pe_ix ix_tup (pv 2) pe_int (fun _ _ => rfl)) (pv 0))
        (pe_one (pe_chain o_le o_lt pe_int (pe_ix ix_tup (pv 2) pe_int (fun _ _ => rfl)) (pv 1)))))), ?_⟩
    refine ⟨_, rfl, _, _, _, _, rfl, rd.ty, kit_tuple _ d, _, rfl, ?_⟩
    cases rd with
    | @tup a xs ds e n ra =>
      have hlen := ra.length
      refine iteF ⟨_, rfl, a, _, rfl, .inr (SqT.of e), rfl, _, rfl, ?_⟩
      by_cases h2 : ds.length = 2
      · rw [hlen, h2]
        refine iteF ⟨_, rfl, a, xs, ds, rfl, e, ra, by omega, fun H1 s1 => ⟨_, rfl, ?_⟩⟩
        match ds, h2, ra, q with
        | [d1, d2], _, .cons (x := x1) r1 (.cons (x := x2) r2 .nil), q =>
          cases e1 : ([d1, d2].all isIntD) with
          | false =>
            have ec : cellD r p (.tuple [d1, d2]) = false := by
              cases d1 <;> cases d2 <;> first | rfl | (simp [isIntD] at e1)
            have q1 := q H1 s1
            rw [ec] at q1
            exact iteT q1
          | true =>
            have e1' : isIntD d1 = true ∧ isIntD d2 = true := by simpa using e1
            cases r1 with
            | int i =>
              cases r2 with
              | int j =>
                refine iteF ?_
                have hC1 : H1 a = some (.tup [.int i, .int j]) := s1 _ _ e
                refine ⟨_, rfl, a, _, 0, .int i, rfl, rfl, SqT.of hC1, rfl, _, _, rfl, rfl, _, rfl, ?_⟩
                refine ite2 (fun k1 => ?_) (fun k1 => ⟨_, rfl, iteF ?_⟩)
                · refine ⟨_, rfl, _, _, rfl, rfl, _, rfl, ?_⟩
                  refine ite2 (fun k2 => ?_) (fun k2 => ?_)
                  · refine ⟨_, rfl, a, _, 1, .int j, rfl, rfl, SqT.of hC1, rfl, _, _, rfl, rfl, _, rfl, ?_⟩
                    refine ite2 (fun k3 => ?_) (fun k3 => ?_)
                    · refine ⟨_, rfl, _, _, rfl, rfl, ?_⟩
                      have k1 := of_decide_eq_true k1
                      have k2 := of_decide_eq_true k2
                      have k3 := of_decide_eq_true k3
                      have q1 := q H1 s1
                      by_cases k4 : j < (p : Nat)
                      · rw [decide_eq_true k4]
                        rw [cellD_yes ⟨⟨k1, k2⟩, k3, k4⟩] at q1
                        exact q1
                      · rw [decide_eq_false k4]
                        rw [cellD_no fun z => k4 z.2.2] at q1
                        exact q1
                    · have q1 := q H1 s1
                      rw [cellD_no fun z => k3 (decide_eq_true z.2.1)] at q1
                      exact q1
                  · have q1 := q H1 s1
                    rw [cellD_no fun z => k2 (decide_eq_true z.1.2)] at q1
                    exact q1
                · have q1 := q H1 s1
                  rw [cellD_no fun z => k1 (decide_eq_true z.1.1)] at q1
                  exact q1
              | _ => exact absurd e1'.2 (by simp [isIntD])
            | _ => exact absurd e1'.1 (by simp [isIntD])
      · have ed : (!decide (V.int (xs.length : Nat) = V.int 2)) = true := by
          rw [decide_eq_false (by intro z; injection z with z; omega)]
          rfl
        rw [ed]
        have ec : cellD r p (.tuple ds) = false := by
          unfold cellD
          split
          · next z =>
            injection z with z
            subst z
            exact absurd rfl h2
          · rfl
        have q1 := q H (Same.refl _)
        rw [ec] at q1
        exact iteT q1
    | _ => exact iteT (q H (Same.refl _))
def spIsCellA : Sp := fun vs H Q _ => ∃ (t : Addr) (prs : Prs) (x : V) (d : PyData), vs = [.ref t, x] ∧ Tab H t prs ∧ tabB prs = true ∧ RdS [] H x d ∧ Sz 1000000 60 d ∧ ∀ H', Same H H' → Q (.bl (cellD prs.length (w0 prs) d)) H'
theorem ok_isCellA (T : Blt mg) (D : DefAt K mg "is_cell" dIsCell ["table", "thing"]) (G : FnAt P w K mg base 3 "is_cell_of_size" ["rows", "places", "thing"] spCellSzA) : FnAt P w K mg base 4 "is_cell" ["table", "thing"] spIsCellA := by
  refine FnAt.of D sc_isCell (fun vs H Q E h => ?_) (fun f cdv A outer s H vs Q E hr h => ?_)
  · obtain ⟨t, prs, x, d, rfl, _⟩ := h
    rfl
  · obtain ⟨t, prs, x, d, rfl, hT, hg, rd, sz, q⟩ := h
    obtain ⟨g, g1, g2, g3, g4⟩ := good_of hg
    obtain ⟨p0, hp0, hm0, hx0⟩ := head_at (prs := prs) g1
    refine ⟨_, pss_one (ps_ret (pe_f G hr (pa_cons (pe_b call_len_seq T.len boot_len (pa_cons (pv 0) pa_nil)) (pa_cons (pe_b call_len_seq T.len boot_len (pa_cons (pe_ix ix_list (pv 0) pe_int (fun _ _ => rfl)) pa_nil)) (pa_cons (pv 1) pa_nil))))), ?_⟩
    exact ⟨_, rfl, t, _, rfl, .inl hT.sq, _, rfl, t, _, 0, .ref p0.1, rfl, rfl, hT.sq, atI_nat (j := 0) (by rw [List.getElem?_map, hx0]; rfl), p0.1, _, rfl, .inl (hT.r p0 hm0).sq, _, rfl, x, d, prs.length, w0 prs, by rw [List.length_map, List.length_map, g.len p0 hm0], rd, sz, q⟩
def spNeedCX (c : Addr) : Sp := fun vs H Q E => ∃ (t : Addr) (prs : Prs) (x : V) (d : PyData), vs = [.ref t, x] ∧ Tab H t prs ∧ tabB prs = true ∧ RdS [] H x d ∧ Sz 1000000 60 d ∧ cellD prs.length (w0 prs) d = false ∧ ∀ H', Same H H' → E (.ref c) none H'
theorem ok_needCX (hk : ExcK K c) (hm : mg "NoCell" = some (.ref c)) (D : DefAt K mg "need_cell" dNeedCell ["table", "thing"]) (G : FnAt P w K mg base 4 "is_cell" ["table", "thing"] spIsCellA) : FnAtX P w K mg base 5 "need_cell" ["table", "thing"] (spNeedCX c) := by
  refine FnAtX.of D sc_needCell (fun vs H Q E h => ?_) (fun f cdv A outer s H vs Q E hr h => ?_)
  · obtain ⟨t, prs, x, d, rfl, _⟩ := h
    rfl
  · obtain ⟨t, prs, x, d, rfl, hT, hg, rd, sz, hc, q⟩ := h
    refine ⟨_, pss_one (ps_if (pt_not (pt_val (pe_f G hr (pa_cons (pv 0) (pa_cons (pv 1) pa_nil))))) (pss_one (ps_raise throws_def hk pe_str hm)) pss_nil), ?_⟩
    refine ⟨_, rfl, _, rfl, t, prs, x, d, rfl, hT, hg, rd, sz, fun H1 s1 => ⟨_, rfl, ?_⟩⟩
    rw [hc]
    exact iteT (q H1 s1)
end
end Seek
namespace L2
open PySem PySem.Spec PyProof.Rows
theorem boot_ValueError : bootBuiltins "ValueError" = some (.type "ValueError") := by kernel_rfl
section
variable {X : Cx}
theorem call_isinstE (K : PySem.W.Frag) (hK : X.K = K := by rfl) : CallR X (.builtin "isinstance") (fun xs H Q => ∃ e C D b, xs = [.ref e, .ref D] ∧ H e = some (excO e C) ∧ ExcK K C ∧ PySem.W.kitOne K (.ref C) (.ref D) = some b ∧ Q (.bl b) H) := by
  subst hK
  intro pins s σ H xs us Q I rv h
  obtain ⟨e, C, D, b, rfl, he, kC, hk, q⟩ := h
  obtain ⟨u, v, rfl, r1, r2⟩ := rv.two
  obtain rfl : u = .ref e := r1
  obtain rfl : v = .ref D := r2
  exact PySem.W.kia_one (kitx_exc kC) I.kIn (excO_at I he) hk (fun z => nomatch z) fun tk => ⟨.bl b, H, I.tok tk, rfl, q⟩
theorem call_isinstET (K : PySem.W.Frag) (hK : X.K = K := by rfl) : CallR X (.builtin "isinstance") (fun xs H Q => ∃ e C T b, xs = [.ref e, .ty T] ∧ H e = some (excO e C) ∧ ExcK K C ∧ PySem.W.kitOne K (.ref C) (.type T) = some b ∧ Q (.bl b) H) := by
  subst hK
  intro pins s σ H xs us Q I rv h
  obtain ⟨e, C, T, b, rfl, he, kC, hk, q⟩ := h
  obtain ⟨u, v, rfl, r1, r2⟩ := rv.two
  obtain rfl : u = .ref e := r1
  obtain rfl : v = .type T := r2
  exact PySem.W.kia_one (kitx_exc kC) I.kIn (excO_at I he) hk (fun z => nomatch z) fun tk => ⟨.bl b, H, I.tok tk, rfl, q⟩
end
theorem compZ_if {K : PySem.W.Frag} {a c : Addr} {xs zs : List V} {σ0 : St} {H1 : Hp} {tc : TT} {te : TE} {Q : VK} (p : Nat → Bool) (f : Nat → V) (hq : SqL K H1 a xs) (hq2 : SqL K H1 c zs) (hlen : xs.length = zs.length) (hn : xs.length ≤ 1000)
    (hc : ∀ i x z, xs[i]? = some x → zs[i]? = some z → ∀ H' (Q' : Bool → Hp → Prop), Same H1 H' → Q' (p i) H' → tc ((σ0.set 0 (some x)).set 1 (some z)) H' Q')
    (he : ∀ i x z, xs[i]? = some x → zs[i]? = some z → ∀ H' (Q' : VK), Same H1 H' → Q' (f i) H' → te ((σ0.set 0 (some x)).set 1 (some z)) H' Q')
    (fin : ∀ D H', H1 D = none → Same H1 H' → H' D = some (.lst (((List.range xs.length).filter p).map f)) → Q (.ref D) H') :
    CompRun (Itz K a c) (gTup K 2 (gCons (gName 0) (gCons (gName 1) gNil))) tc te σ0 H1 Q := by
  intro D hD
  refine ⟨fun i m ys σ' H' => m = xs.length - i ∧ i ≤ xs.length ∧ (∀ u v, (σ'.set 0 u).set 1 v = (σ0.set 0 u).set 1 v) ∧ Same H1 H' ∧ H' D = some (.lst ys) ∧ ys = ((List.range i).filter p).map f, ⟨xs.length, by simp, Nat.zero_le _, fun _ _ => rfl, Same.new hD, upd_same, by simp⟩, ?_⟩
  rintro i m ys σ' H' ⟨rfl, hi, es, sm, hDl, hys⟩
  refine ⟨hDl, ?_⟩
  have q := sm.seq hq
  have q2 := sm.seq hq2
  by_cases hlt : i < xs.length
  · refine .inr ⟨⟨_, _, xs[i], zs[i]'(by omega), q, q2, by simp [hlt], by simp⟩, fun x H2 y => ?_⟩
    obtain ⟨T, z, z2, rfl, hT, rfl, y, y2⟩ := y
    have y := y _ q
    have y2 := y2 _ q2
    have smT : Same H' (upd H' T (.tup [z, z2])) := Same.new hT
    refine ⟨T, _, rfl, SqT.of upd_same, rfl, _, _, rfl, _, _, rfl, rfl, ?_⟩
    rw [es]
    refine hc i _ _ y y2 _ _ (sm.trans smT) ?_
    cases hp : p i with
    | true =>
      refine iteT (he i _ _ y y2 _ _ (sm.trans smT) ⟨smT _ _ hDl, ?_, xs.length - (i + 1), by omega, rfl, hlt, fun _ _ => set2, (sm.trans smT).upd hD, upd_same, ?_⟩)
      · rw [hys, List.length_map]
        have := List.length_filter_le p (List.range i)
        rw [List.length_range] at this
        exact small1000 (by omega)
      · rw [List.range_succ, List.filter_append, List.map_append, ← hys]
        simp [hp]
    | false =>
      refine iteF ⟨xs.length - (i + 1), by omega, rfl, hlt, fun _ _ => set2, sm.trans smT, smT _ _ hDl, ?_⟩
      rw [List.range_succ, List.filter_append, List.map_append, ← hys]
      simp [hp]
  · have e : i = xs.length := by omega
    subst e
    exact .inl ⟨⟨_, _, q, q2, .inl (Nat.le_refl _)⟩, fin D H' hD sm (by rw [hDl, hys])⟩
end L2
namespace Seek
open PySem L2 PyProof.Rows
structure Nms (mg : Str → Option Value) (S : Addr) (cs : List Addr) : Prop where
  len : cs.length = 12
  seek : mg "SeekError" = some (.ref S)
  n0 : mg "NoTable" = some (.ref (cs.getD 0 0))
  n1 : mg "NoCell" = some (.ref (cs.getD 1 0))
  n2 : mg "NoNumber" = some (.ref (cs.getD 2 0))
  n3 : mg "NoSize" = some (.ref (cs.getD 3 0))
  n4 : mg "NoStair" = some (.ref (cs.getD 4 0))
  n5 : mg "NoLook" = some (.ref (cs.getD 5 0))
  n6 : mg "NoPlace" = some (.ref (cs.getD 6 0))
  n7 : mg "NoFit" = some (.ref (cs.getD 7 0))
  n8 : mg "NoChange" = some (.ref (cs.getD 8 0))
  n9 : mg "NoText" = some (.ref (cs.getD 9 0))
  n10 : mg "NoName" = some (.ref (cs.getD 10 0))
  n11 : mg "NoRow" = some (.ref (cs.getD 11 0))
theorem Err.kit {K : PySem.W.Frag} {S : Addr} {cs : List Addr} {i : Nat} {C : Addr} (h : Err K S cs i C) (hl : cs.length = 12) (j : Nat) (hj : j < 12) : PySem.W.kitOne K (.ref C) (.ref (cs.getD j 0)) = some (decide (j = i)) :=
  h.ks j _ (by rw [List.getD_eq_getElem?_getD, List.getElem?_eq_getElem (by omega)]; rfl)
def abT : Ab := ⟨[], fun _ => True, fun _ _ => trivial, fun _ _ => by simp⟩
def wdL : List Str := ["table", "cell", "number", "size", "stair", "look", "place", "fit", "change", "text", "name", "row"]
theorem rdss_strs {S : List Addr} {H : Hp} : ∀ {xs : List V} {ws : List Str}, RdSs S H xs (ws.map PyData.str) → xs = ws.map V.str
  | _, [], .nil => rfl
  | _, _ :: _, .cons r t => by
    cases r
    rw [List.map_cons, rdss_strs t]
theorem eqv_str1 (a b : Str) : PyData.eqv (.list [.str a]) (.list [.str b]) = decide (a = b) := by
  by_cases h : a = b <;> simp [PyData.eqv, PyData.eqvAll, h]
section
variable {P : Program} {w : World} {K : PySem.W.Frag} {mg : Str → Option Value} {base : Heap} {S : Addr} {cs : List Addr}
def spKind (K : PySem.W.Frag) (S : Addr) (cs : List Addr) : Sp := fun vs H Q _ => ∃ (e C : Addr) (i : Nat) (wd : Str), vs = [.ref e, .str wd] ∧ H e = some (excO e C) ∧ Err K S cs i C ∧ i < 12 ∧ SeqAt.shaped (.list [.str wd]) = true ∧ ∀ H', Same H H' → Q (.bl (decide (wdL.getD i "" = wd))) H'
abbrev kdN : List Str := ["e", "due", "kinds", "words", "found"]
theorem sc_kind : FnScope kdN ["e", "due"] (defScope dKind) := ⟨rfl, rfl, rfl, by decide +kernel, rfl, by decide +kernel, by decide +kernel⟩
def kb (i m : Nat) : List Bool := (List.range m).map fun c => decide (c = i)
theorem kb_at {i m j : Nat} (h : j < m) : ((kb i m).map V.bl)[j]? = some (.bl (decide (j = i))) := by
  unfold kb
  rw [List.map_map, List.getElem?_map, List.getElem?_range h]
  rfl
theorem wd_one {i : Nat} (h : i < 12) : ((List.range 12).filter fun j => decide (j = i)).map (fun j => V.str (wdL.getD j "")) = [V.str (wdL.getD i "")] := by
  have : (List.range 12).filter (fun j => decide (j = i)) = [i] := by
    have : ∀ i : Fin 12, (List.range 12).filter (fun j => decide (j = i.1)) = [i.1] := by decide
    exact this ⟨i, h⟩
  rw [this]
  rfl
theorem sh_wd {i : Nat} (h : i < 12) : SeqAt.shaped (.list [.str (wdL.getD i "")]) = true := by
  have : ∀ i : Fin 12, SeqAt.shaped (.list [.str (wdL.getD i.1 "")]) = true := by decide +kernel
  exact this ⟨i, h⟩
set_option maxHeartbeats 16000000 in
theorem ok_kind (T : Blt mg) (hzip : mg "zip" = none) (hve : mg "ValueError" = none) (N : Nms mg S cs) (Df : DefAt K mg "_law_kind" dKind ["e", "due"]) : FnAt P w K mg base 1 "_law_kind" ["e", "due"] (spKind K S cs) := by
  refine FnAt.of Df sc_kind (fun vs H Q E h => ?_) (fun f cdv A outer s H vs Q E hr h => ?_)
  · obtain ⟨e, C, i, wd, rfl, _⟩ := h
    rfl
  · obtain ⟨e, C, i, wd, rfl, he, er, hi, hw, q⟩ := h
    have nd := sc_kind.nd
    have nd1 : (["word", "kind"] : List Str).Nodup := by decide +kernel
    let X : Cx := (cxOf CX0 P w K mg base kdN "_law_kind" (defScope dKind) f cdv A outer s H E).nox
    have A0 : PS X ((defBody dKind).getD 0 (.Pass ⟨0, 0, 0, 0⟩)) _ := ps_set (i := 2) nd rfl (Or.inl rfl) (pe_lst (pa_cons (pe_b (call_isinstE K) T.isinst boot_isinstance (pa_cons (pv 0) (pa_cons (pe_glob (v := .ref _) rfl N.n0 rfl) pa_nil))) (pa_cons (pe_b (call_isinstE K) T.isinst boot_isinstance (pa_cons (pv 0) (pa_cons (pe_glob (v := .ref _) rfl N.n1 rfl) pa_nil))) (pa_cons (pe_b (call_isinstE K) T.isinst boot_isinstance (pa_cons (pv 0) (pa_cons (pe_glob (v := .ref _) rfl N.n2 rfl) pa_nil))) (pa_cons (pe_b (call_isinstE K) T.isinst boot_isinstance (pa_cons (pv 0) (pa_cons (pe_glob (v := .ref _) rfl N.n3 rfl) pa_nil))) pa_nil)))))
    have A1 : PS X ((defBody dKind).getD 1 (.Pass ⟨0, 0, 0, 0⟩)) _ := ps_set (i := 2) nd rfl (Or.inl rfl) (pe_op op_cat (pv 2) (pe_lst (pa_cons (pe_b (call_isinstE K) T.isinst boot_isinstance (pa_cons (pv 0) (pa_cons (pe_glob (v := .ref _) rfl N.n4 rfl) pa_nil))) (pa_cons (pe_b (call_isinstE K) T.isinst boot_isinstance (pa_cons (pv 0) (pa_cons (pe_glob (v := .ref _) rfl N.n5 rfl) pa_nil))) (pa_cons (pe_b (call_isinstE K) T.isinst boot_isinstance (pa_cons (pv 0) (pa_cons (pe_glob (v := .ref _) rfl N.n6 rfl) pa_nil))) (pa_cons (pe_b (call_isinstE K) T.isinst boot_isinstance (pa_cons (pv 0) (pa_cons (pe_glob (v := .ref _) rfl N.n7 rfl) pa_nil))) pa_nil))))))
    have A2 : PS X ((defBody dKind).getD 2 (.Pass ⟨0, 0, 0, 0⟩)) _ := ps_set (i := 2) nd rfl (Or.inl rfl) (pe_op op_cat (pv 2) (pe_lst (pa_cons (pe_b (call_isinstE K) T.isinst boot_isinstance (pa_cons (pv 0) (pa_cons (pe_glob (v := .ref _) rfl N.n8 rfl) pa_nil))) (pa_cons (pe_b (call_isinstE K) T.isinst boot_isinstance (pa_cons (pv 0) (pa_cons (pe_glob (v := .ref _) rfl N.n9 rfl) pa_nil))) (pa_cons (pe_b (call_isinstE K) T.isinst boot_isinstance (pa_cons (pv 0) (pa_cons (pe_glob (v := .ref _) rfl N.n10 rfl) pa_nil))) (pa_cons (pe_b (call_isinstE K) T.isinst boot_isinstance (pa_cons (pv 0) (pa_cons (pe_glob (v := .ref _) rfl N.n11 rfl) pa_nil))) pa_nil))))))
    have L3 := fun (es : List Expr) (p1 p2 p3 : Pos) => ps_w1 (X := X) (C := fun d => litOf 40 (.List es p1) = some d) fun d h => ps_set (X := X) (pos := p2) (pos' := p3) (i := 3) nd rfl (Or.inl rfl) (ad_lit (φ := (· = d)) (Γ := fun B _ _ => B = abT) d (fun _ _ _ _ h _ => h) h rfl).pe
    have A3 : PS X ((defBody dKind).getD 3 (.Pass ⟨0, 0, 0, 0⟩)) _ := L3 _ _ _ _
    have A4 : PS X ((defBody dKind).getD 4 (.Pass ⟨0, 0, 0, 0⟩)) _ := ps_setC ["word", "kind"] [none, none] (defScope dKind) kdN (i := 4) nd rfl (Or.inl rfl) rfl (pi_zip rfl hzip (pa_cons (pv 3) (pa_cons (pv 2) pa_nil))) (by decide +kernel) (fun cl C s2 H2 ex => pg_cz K rfl nd1) (fun cl C s2 H2 ex => pifs_one (pt_val (pv 1))) (fun cl C s2 H2 ex => pv 0)
    have A5 : PS X ((defBody dKind).getD 5 (.Pass ⟨0, 0, 0, 0⟩)) _ := ps_ret (pe_and (pe_b (call_isinstET K) T.isinst boot_isinstance (pa_cons (pv 0) (pa_cons (pe_ty hve boot_ValueError) pa_nil))) (pe_one (pe_cmpR (op_eqD hr.units) (pv 4) (pe_lst (pa_cons (pv 1) pa_nil)) (nomark _))))
    obtain ⟨B0, e0⟩ : ∃ S, S = (defBody dKind).getD 0 (.Pass ⟨0, 0, 0, 0⟩) := ⟨_, rfl⟩
    rw [← e0] at A0
    obtain ⟨B1, e1⟩ : ∃ S, S = (defBody dKind).getD 1 (.Pass ⟨0, 0, 0, 0⟩) := ⟨_, rfl⟩
    rw [← e1] at A1
    obtain ⟨B2, e2⟩ : ∃ S, S = (defBody dKind).getD 2 (.Pass ⟨0, 0, 0, 0⟩) := ⟨_, rfl⟩
    rw [← e2] at A2
    obtain ⟨B3, e3⟩ : ∃ S, S = (defBody dKind).getD 3 (.Pass ⟨0, 0, 0, 0⟩) := ⟨_, rfl⟩
    rw [← e3] at A3
    obtain ⟨B4, e4⟩ : ∃ S, S = (defBody dKind).getD 4 (.Pass ⟨0, 0, 0, 0⟩) := ⟨_, rfl⟩
    rw [← e4] at A4
    obtain ⟨B5, e5⟩ : ∃ S, S = (defBody dKind).getD 5 (.Pass ⟨0, 0, 0, 0⟩) := ⟨_, rfl⟩
    rw [← e5] at A5
    have hbd : defBody dKind = [B0, B1, B2, B3, B4, B5] := by
      rw [e0, e1, e2, e3, e4, e5]
      kernel_rfl
    rw [hbd]
    clear hbd e0 e1 e2 e3 e4 e5 L3
    have kk := er.kit N.len
    refine ⟨_, pss_cons A0 (pss_cons A1 (pss_cons A2 (pss_cons A3 (pss_cons A4 (pss_one A5))))), ?_⟩
    refine ⟨_, rfl, e, C, _, _, rfl, he, er.k, kk 0 (by decide), _, rfl, e, C, _, _, rfl, he, er.k, kk 1 (by decide), _, rfl, e, C, _, _, rfl, he, er.k, kk 2 (by decide), _, rfl, e, C, _, _, rfl, he, er.k, kk 3 (by decide), len4, fun l1 h1 => ?_⟩
    have s1 := Same.new (o := .lst [.bl (decide (0 = i)), .bl (decide (1 = i)), .bl (decide (2 = i)), .bl (decide (3 = i))]) h1
    have e1 : (upd H l1 (.lst [.bl (decide (0 = i)), .bl (decide (1 = i)), .bl (decide (2 = i)), .bl (decide (3 = i))])) l1 = some (.lst ((kb i 4).map V.bl)) := upd_same
    generalize upd H l1 (.lst [.bl (decide (0 = i)), .bl (decide (1 = i)), .bl (decide (2 = i)), .bl (decide (3 = i))]) = H1 at s1 e1 ⊢
    have he1 := s1 _ _ he
    refine ⟨_, rfl, _, rfl, e, C, _, _, rfl, he1, er.k, kk 4 (by decide), _, rfl, e, C, _, _, rfl, he1, er.k, kk 5 (by decide), _, rfl, e, C, _, _, rfl, he1, er.k, kk 6 (by decide), _, rfl, e, C, _, _, rfl, he1, er.k, kk 7 (by decide), len4, fun l2 h2 => ⟨l1, l2, _, _, rfl, rfl, Same.new h2 _ _ e1, upd_same, (show 8 ≤ sizeLine by decide), fun l3 h3 => ?_⟩⟩
    have s3 := s1.trans ((Same.new (o := .lst [.bl (decide (4 = i)), .bl (decide (5 = i)), .bl (decide (6 = i)), .bl (decide (7 = i))]) h2).trans (Same.new (o := .lst ((kb i 4).map V.bl ++ [.bl (decide (4 = i)), .bl (decide (5 = i)), .bl (decide (6 = i)), .bl (decide (7 = i))])) h3))
    have e3 : (upd (upd H1 l2 (.lst [.bl (decide (4 = i)), .bl (decide (5 = i)), .bl (decide (6 = i)), .bl (decide (7 = i))])) l3 (.lst ((kb i 4).map V.bl ++ [.bl (decide (4 = i)), .bl (decide (5 = i)), .bl (decide (6 = i)), .bl (decide (7 = i))]))) l3 = some (.lst ((kb i 8).map V.bl)) := upd_same
    generalize upd (upd H1 l2 (.lst [.bl (decide (4 = i)), .bl (decide (5 = i)), .bl (decide (6 = i)), .bl (decide (7 = i))])) l3 (.lst ((kb i 4).map V.bl ++ [.bl (decide (4 = i)), .bl (decide (5 = i)), .bl (decide (6 = i)), .bl (decide (7 = i))])) = H3 at s3 e3 ⊢
    have he3 := s3 _ _ he
    refine ⟨_, rfl, _, rfl, e, C, _, _, rfl, he3, er.k, kk 8 (by decide), _, rfl, e, C, _, _, rfl, he3, er.k, kk 9 (by decide), _, rfl, e, C, _, _, rfl, he3, er.k, kk 10 (by decide), _, rfl, e, C, _, _, rfl, he3, er.k, kk 11 (by decide), len4, fun l4 h4 => ⟨l3, l4, _, _, rfl, rfl, Same.new h4 _ _ e3, upd_same, (show 12 ≤ sizeLine by decide), fun l5 h5 => ?_⟩⟩
    have s5 := s3.trans ((Same.new (o := .lst [.bl (decide (8 = i)), .bl (decide (9 = i)), .bl (decide (10 = i)), .bl (decide (11 = i))]) h4).trans (Same.new (o := .lst ((kb i 8).map V.bl ++ [.bl (decide (8 = i)), .bl (decide (9 = i)), .bl (decide (10 = i)), .bl (decide (11 = i))])) h5))
    have e5 : (upd (upd H3 l4 (.lst [.bl (decide (8 = i)), .bl (decide (9 = i)), .bl (decide (10 = i)), .bl (decide (11 = i))])) l5 (.lst ((kb i 8).map V.bl ++ [.bl (decide (8 = i)), .bl (decide (9 = i)), .bl (decide (10 = i)), .bl (decide (11 = i))]))) l5 = some (.lst ((kb i 12).map V.bl)) := upd_same
    generalize upd (upd H3 l4 (.lst [.bl (decide (8 = i)), .bl (decide (9 = i)), .bl (decide (10 = i)), .bl (decide (11 = i))])) l5 (.lst ((kb i 8).map V.bl ++ [.bl (decide (8 = i)), .bl (decide (9 = i)), .bl (decide (10 = i)), .bl (decide (11 = i))])) = H5 at s5 e5 ⊢
    refine ⟨.list (wdL.map PyData.str), by kernel_rfl, abT, rfl, trivial, fun v6 H6 b6 _ ⟨d6, r6, e6⟩ => ?_⟩
    subst e6
    have s6 : Same H H6 := fun b o e => b6 b o (by simp [abT]) (s5 _ _ e)
    have e56 : H6 l5 = some (.lst ((kb i 12).map V.bl)) := b6 _ _ (by simp [abT]) e5
    cases r6 with
    | @lst a6 xs6 _ ea6 na6 ra6 =>
      have hx6 := rdss_strs ra6
      subst hx6
      refine ⟨_, rfl, _, rfl, a6, l5, rfl, ⟨_, SqL.of ea6⟩, ⟨_, SqL.of e56⟩, compZ_if (fun j => decide (j = i)) (fun j => V.str (wdL.getD j "")) (SqL.of ea6) (SqL.of e56) rfl (show 12 ≤ 1000 by decide) (fun j x z hx hz H' Q' sm q' => ?_) (fun j x z hx hz H' Q' sm q' => ?_) fun D7 H7 hD7 s7 eD7 => ?_⟩
      · have hj : j < 12 := by
          have := (List.getElem?_eq_some_iff.mp hx).1
          rw [List.length_map] at this
          exact this
        rw [kb_at hj] at hz
        rw [← Option.some.inj hz]
        exact ⟨_, rfl, _, rfl, q'⟩
      · have hj : j < 12 := by
          have := (List.getElem?_eq_some_iff.mp hx).1
          rw [List.length_map] at this
          exact this
        refine ⟨x, rfl, ?_⟩
        rw [List.getElem?_map] at hx
        obtain ⟨w', h1', h2'⟩ := Option.map_eq_some_iff.mp hx
        have : wdL.getD j "" = w' := by rw [List.getD_eq_getElem?_getD, h1']; rfl
        rw [← h2', ← this]
        exact q'
      · rw [show (wdL.map V.str).length = 12 from rfl, wd_one hi] at eD7
        have he7 := s7 _ _ (s6 _ _ he)
        refine ⟨_, rfl, e, C, _, _, rfl, he7, er.k, er.kv, _, rfl, iteT ⟨_, rfl, _, rfl, len1, fun l8 h8 => ?_⟩⟩
        have s8 := Same.new (o := .lst [.str wd]) h8
        refine ⟨_, _, .lst (SqL.of (s8 _ _ eD7)) (.cons (.str _) .nil), .lst (SqL.of upd_same) (.cons (.str wd) .nil), sh_wd hi, hw, ?_⟩
        rw [show (if false = true then !PyData.eqv (.list [.str (wdL.getD i "")]) (.list [.str wd]) else PyData.eqv (.list [.str (wdL.getD i "")]) (.list [.str wd])) = _ from eqv_str1 _ _]
        exact q _ ((s6.trans s7).trans s8)
end
section
variable {P : Program} {w : World} {K : PySem.W.Frag} {mg : Str → Option Value} {base : Heap} {C c1 c2 c7 c8 : Addr}
def ChX (c1 c2 c7 : Addr) (H : Hp) (E : Addr → Hp → Prop) (prs : Prs) (y z : V) : Prop :=
  (∃ d, RdS [] H y d ∧ Sz 1000000 60 d ∧ cellD prs.length (w0 prs) d = false ∧ ∀ H', Same H H' → E c1 H') ∨
  (∃ c i j d, y = .ref c ∧ Cell H c i j ∧ i < prs.length ∧ j < w0 prs ∧ RdS [] H z d ∧ isIntD d = false ∧ ∀ H', Same H H' → E c2 H') ∨
  (∃ c i j x, y = .ref c ∧ Cell H c i j ∧ i < prs.length ∧ j < w0 prs ∧ z = .int x ∧ rowsOk (setR (prs.map (·.2)) i j x) = false ∧ ∀ H', Same H H' → E c7 H')
def spChangedX (c1 c2 c7 : Addr) : Sp := fun vs H _ E => ∃ (t : Addr) (prs : Prs) (y z : V), vs = [.ref t, y, z] ∧ Tab H t prs ∧ tabB prs = true ∧ ChX c1 c2 c7 H (fun c H' => E (.ref c) none H') prs y z
set_option maxHeartbeats 16000000 in
theorem ok_changedX (hk : ExcK K c7) (hm : mg "NoFit" = some (.ref c7)) (D : DefAt K mg "changed_table" dChanged ["table", "cell", "x"]) (G1 : FnAt P w K mg base 5 "need_cell" ["table", "thing"] spNeedCell) (G1X : FnAtX P w K mg base 5 "need_cell" ["table", "thing"] (spNeedCX c1))
    (G2 : FnAt P w K mg base 2 "need_number" ["thing"] spNeedNumber) (G2X : FnAtX P w K mg base 2 "need_number" ["thing"] (spNeedNX c2)) (G3 : FnAt P w K mg base 2 "table_with" ["table", "cell", "x"] spWith) (G4 : FnAt P w K mg base 5 "is_table" ["thing"] spIsTable) :
    FnAtX P w K mg base 6 "changed_table" ["table", "cell", "x"] (spChangedX c1 c2 c7) := by
  refine FnAtX.of D sc_changed (fun vs H Q E h => ?_) (fun f cdv A outer s H vs Q E hr h => ?_)
  · obtain ⟨t, prs, y, z, rfl, _⟩ := h
    rfl
  · obtain ⟨t, prs, y, z, rfl, hT, hg, h⟩ := h
    have nd := sc_changed.nd
    rcases h with ⟨d, rd, sz, hc, he⟩ | ⟨c, i, j, d, rfl, hc, hi, hj, rd, hn, he⟩ | ⟨c, i, j, x, rfl, hc, hi, hj, rfl, ok, he⟩
    · refine ⟨_, pss_cons (ps_expr (pe_fx G1X hr flies_def (pa_cons (pv 0) (pa_cons (pv 1) pa_nil)))) pss_never, ?_⟩
      exact ⟨_, rfl, _, rfl, t, prs, y, d, rfl, hT, hg, rd, sz, hc, he⟩
    · refine ⟨_, pss_cons (ps_expr (pe_f G1 hr (pa_cons (pv 0) (pa_cons (pv 1) pa_nil)))) (pss_cons (ps_expr (pe_fx G2X (hr.mono (by decide)) flies_def (pa_cons (pv 2) pa_nil))) pss_never), ?_⟩
      exact ⟨_, rfl, _, rfl, t, c, prs, i, j, rfl, hT, hg, hc, hi, hj, fun H1 s1 => ⟨_, rfl, z, d, rfl, rd.same s1, (fun e => by rw [hn] at e; cases e), fun _ => he H1 s1⟩⟩
    · obtain ⟨g, g1, g2, g3, g4⟩ := good_of hg
      have hli : (rowAt prs i).length = w0 prs := by
        obtain ⟨p, hp, _, e⟩ := rowAt_mem hi
        rw [e]
        exact g.len p hp
      refine ⟨_, pss_cons (ps_expr (pe_f G1 hr (pa_cons (pv 0) (pa_cons (pv 1) pa_nil)))) (pss_cons (ps_expr (pe_f G2 (hr.mono (by decide)) (pa_cons (pv 2) pa_nil)))
        (pss_cons (ps_set (i := 3) nd rfl (Or.inl rfl) (pe_f G3 (hr.mono (by decide)) (pa_cons (pv 0) (pa_cons (pv 1) (pa_cons (pv 2) pa_nil)))))
        (pss_cons (ps_if (pt_not (pt_val (pe_f G4 hr (pa_cons (pv 3) pa_nil)))) (pss_one (ps_raise throws_def hk pe_str hm)) pss_nil) pss_never))), ?_⟩
      refine ⟨_, rfl, _, rfl, t, c, prs, i, j, rfl, hT, hg, hc, hi, hj, fun H1 s1 => ⟨_, rfl, x, rfl, ?_⟩⟩
      refine ⟨_, rfl, _, rfl, _, rfl, t, c, prs, i, j, x, rfl, hT.same s1, good_bounds hg, s1 _ _ hc, hi, by omega, fun t' prs' H2 ht' hq hnd s2 hT2 hrows => ?_⟩
      refine ⟨_, rfl, t', prs', rfl, hT2, sm_rows (rows := []) (good_bounds hg) hrows, fun H3 s3 => ⟨_, rfl, ?_⟩⟩
      rw [rowsOk_of hrows, ok]
      exact iteT (he H3 (s1.trans (s2.trans s3)))
def spKChX (C c1 c2 c7 : Addr) : Sp := fun vs H _ E => ∃ (a dx t l : Addr) (prs : Prs) (cs : Ch) (y z : V), vs = [.ref a, y, z] ∧ Keep H C a dx t l prs cs ∧ ChX c1 c2 c7 H (fun c H' => E (.ref c) none H') prs y z
theorem ok_kChX (kc : KpC K C) (D : MethDef K C "change" "Keeper.change" (methOf dKeeper 1) ["self", "cell", "x"]) (G1 : FnAtX P w K mg base 6 "changed_table" ["table", "cell", "x"] (spChangedX c1 c2 c7)) : MtAtX P w K mg base 8 C "change" ["self", "cell", "x"] (spKChX C c1 c2 c7) := by
  refine MtAtX.of D sc_kChange (fun vs H Q E h => ?_) (fun f cdv A outer s H vs Q E hr h => ?_)
  · obtain ⟨a, dx, t, l, prs, cs, y, z, rfl, _⟩ := h
    rfl
  · obtain ⟨a, dx, t, l, prs, cs, y, z, rfl, hk, h⟩ := h
    have nd := sc_kChange.nd
    refine ⟨_, pss_cons (ps_set (i := 3) nd rfl (Or.inl rfl) (pe_fx G1 (hr.mono (by decide)) flies_def (pa_cons (pe_fld (pv 0) rfl) (pa_cons (pv 1) (pa_cons (pv 2) pa_nil))))) pss_never, ?_⟩
    exact ⟨_, rfl, a, C, dx, _, _, rfl, hk.ob, kc.cls, kc.nr, rfl, _, rfl, _, rfl, t, prs, y, z, rfl, hk.T, hk.ok, h⟩
def spKUnX (C c8 : Addr) : Sp := fun vs H _ E => ∃ (a dx t l : Addr) (prs : Prs), vs = [.ref a] ∧ Keep H C a dx t l prs [] ∧ ∀ H', Same H H' → E (.ref c8) none H'
theorem ok_kUnX (T : Blt mg) (kc : KpC K C) (hk8 : ExcK K c8) (hm : mg "NoChange" = some (.ref c8)) (D : MethDef K C "undo" "Keeper.undo" (methOf dKeeper 2) ["self"]) : MtAtX P w K mg base 8 C "undo" ["self"] (spKUnX C c8) := by
  refine MtAtX.of D sc_kUndo (fun vs H Q E h => ?_) (fun f cdv A outer s H vs Q E hr h => ?_)
  · obtain ⟨a, dx, t, l, prs, rfl, _⟩ := h
    rfl
  · obtain ⟨a, dx, t, l, prs, rfl, hk, he⟩ := h
    refine ⟨_, pss_cons (ps_if (pt_cmpR op_eq (pe_b call_len_seq T.len boot_len (pa_cons (pe_fld (pv 0) rfl) pa_nil)) pe_int (nomark _)) (pss_one (ps_raise throws_def hk8 pe_str hm)) pss_nil) pss_never, ?_⟩
    exact ⟨_, rfl, a, C, dx, _, _, rfl, hk.ob, kc.cls, kc.nc, rfl, l, _, rfl, .inl (SqL.of hk.L), rfl, _, rfl, iteT (he H (Same.refl _))⟩
theorem sc_kCells : FnScope ["self", "x"] ["self", "x"] (defScope (methOf dKeeper 4)) := ⟨rfl, rfl, rfl, by decide +kernel, rfl, by decide +kernel, by decide +kernel⟩
def spKCells (C : Addr) : Sp := fun vs H Q _ => ∃ (a dx t l : Addr) (prs : Prs) (cs : Ch) (x : Int), vs = [.ref a, .int x] ∧ Keep H C a dx t l prs cs ∧
  ∀ L (es : Cs) H', H L = none → Same H H' → H' L = some (.lst (es.map cellV)) → (∀ c ∈ es, CellAt H' c ∧ H c.1 = none) → es.map (·.2) = cellsUp prs x prs.length → es.length ≤ 36 → Q (.ref L) H'
theorem ok_kCells (kc : KpC K C) (D : MethDef K C "cells" "Keeper.cells" (methOf dKeeper 4) ["self", "x"]) (G : FnAt P w K mg base 7 "cells_of" ["table", "x"] spCells) : MtAt P w K mg base 8 C "cells" ["self", "x"] (spKCells C) := by
  refine MtAt.of D sc_kCells (fun vs H Q E h => ?_) (fun f cdv A outer s H vs Q E hr h => ?_)
  · obtain ⟨a, dx, t, l, prs, cs, x, rfl, _⟩ := h
    rfl
  · obtain ⟨a, dx, t, l, prs, cs, x, rfl, hk, q⟩ := h
    refine ⟨_, pss_one (ps_ret (pe_f G hr (pa_cons (pe_fld (pv 0) rfl) (pa_cons (pv 1) pa_nil)))), ?_⟩
    exact ⟨_, rfl, a, C, dx, _, _, rfl, hk.ob, kc.cls, kc.nr, rfl, _, rfl, t, prs, x, rfl, hk.T, hk.ok, q⟩
end
theorem if_both' {tc : TT} {t u : TS} {D : Ends} {σ0 : L2.St} {H0 : Hp} (C : (L2.St → Hp → Prop) → Prop) (h : C (u D)) (hA : C (u D) → tc σ0 H0 (fun b H1 => if b = true then t { D with nx := u D } σ0 H1 else u D σ0 H1)) : tSeq (tIfS tc t tNext) u D σ0 H0 := hA h
structure IntL (H : Hp) (L st : Addr) (lo hi : Nat) (B : Nat) : Prop where
  ex : ∃ ns : List Int, Row H L ns ∧ lo ≤ ns.length ∧ ns.length ≤ hi ∧ ∀ n ∈ ns, n.natAbs ≤ B
  ne : L ≠ st
section
variable {P : Program} {w : World} {K : PySem.W.Frag} {mg : Str → Option Value} {base : Heap} {C : Addr}
theorem sc_lIsWhole : FnScope ["thing"] ["thing"] (defScope dLIsWhole) := ⟨rfl, rfl, rfl, by decide +kernel, rfl, by decide +kernel, by decide +kernel⟩
theorem ok_lIsWhole (T : Blt mg) (D : DefAt K mg "_law_is_whole" dLIsWhole ["thing"]) : FnAt P w K mg base 1 "_law_is_whole" ["thing"] spIsWholeA := by
  refine FnAt.of D sc_lIsWhole (fun vs H Q E h => ?_) (fun f cdv A outer s H vs Q E hr h => ?_)
  · obtain ⟨x, d, rfl, _⟩ := h
    rfl
  · obtain ⟨x, d, rfl, rd, q⟩ := h
    refine ⟨_, pss_one (ps_ret (pe_and (pe_b call_isinst T.isinst boot_isinstance (pa_cons (pv 0) (pa_cons (pe_ty T.int boot_int) pa_nil)))
      (pe_one (pe_not (pe_b call_isinst T.isinst boot_isinstance (pa_cons (pv 0) (pa_cons (pe_ty T.bool boot_bool) pa_nil))))))), ?_⟩
    refine ⟨_, rfl, _, _, _, _, rfl, rd.ty, kit_int _ d, _, rfl, ?_⟩
    cases d with
    | int i => exact iteT ⟨_, rfl, _, _, _, _, rfl, rd.ty, kit_bool _ _, _, rfl, q⟩
    | bool b => exact iteT ⟨_, rfl, _, _, _, _, rfl, rd.ty, kit_bool _ _, _, rfl, q⟩
    | _ => exact iteF q
theorem sc_lIsCell : FnScope ["table", "thing"] ["table", "thing"] (defScope dLIsCell) := ⟨rfl, rfl, rfl, by decide +kernel, rfl, by decide +kernel, by decide +kernel⟩
set_option maxHeartbeats 16000000 in
theorem ok_lIsCell (T : Blt mg) (htup : mg "tuple" = none) (D : DefAt K mg "_law_is_cell" dLIsCell ["table", "thing"]) (G : FnAt P w K mg base 1 "_law_is_whole" ["thing"] spIsWholeA) : FnAt P w K mg base 2 "_law_is_cell" ["table", "thing"] spIsCellA := by
  refine FnAt.of D sc_lIsCell (fun vs H Q E h => ?_) (fun f cdv A outer s H vs Q E hr h => ?_)
  · obtain ⟨t, prs, x, d, rfl, _⟩ := h
    rfl
  · obtain ⟨t, prs, x, d, rfl, hT, hg, rd, sz, q⟩ := h
    obtain ⟨g, g1, g2, g3, g4⟩ := good_of hg
    obtain ⟨p0, hp0, hm0, hx0⟩ := head_at (prs := prs) g1
    refine ⟨_, pss_cons (ps_if (PW.pt (pw_or (pt_not (pt_val (pe_b call_isinst T.isinst boot_isinstance (pa_cons (pv 1) (pa_cons (pe_ty htup boot_tuple) pa_nil))))) (pw_or (pt_cmpR op_ne (pe_b call_len_seq T.len boot_len (pa_cons (pv 1) pa_nil)) pe_int (nomark _)) (pw_or (pt_not (pt_val (pe_f G hr (pa_cons (pe_ix ix_tup (pv 1) pe_int (fun _ _ => rfl)) pa_nil))))
        (pw_or1 (pt_not (pt_val (pe_f G hr (pa_cons (pe_ix ix_tup (pv 1) pe_int (fun _ _ => rfl)) pa_nil))))))))) (pss_one (ps_ret pe_bl)) pss_nil)
      (pss_one (ps_ret (pe_and (pe_chain o_le o_lt pe_int (pe_ix ix_tup (pv 1) pe_int (fun _ _ => rfl)) (pe_b call_len_seq T.len boot_len (pa_cons (pv 0) pa_nil)))
        (pe_one (pe_chain o_le o_lt pe_int (pe_ix ix_tup (pv 1) pe_int (fun _ _ => rfl)) (pe_b call_len_seq T.len boot_len (pa_cons (pe_ix ix_list (pv 0) pe_int (fun _ _ => rfl)) pa_nil))))))), ?_⟩
    have q := q H (Same.refl _)
    refine ⟨_, rfl, _, _, _, _, rfl, rd.ty, kit_tuple _ d, _, rfl, ?_⟩
    cases rd with
    | @tup a xs ds e n ra =>
      have hlen := ra.length
      refine iteF ⟨_, rfl, a, _, rfl, .inr (SqT.of e), rfl, _, rfl, ?_⟩
      by_cases h2 : ds.length = 2
      · rw [hlen, h2]
        match ds, h2, ra, q with
        | [d1, d2], _, .cons (x := x1) r1 (.cons (x := x2) r2 .nil), q =>
          refine iteF ⟨_, rfl, a, _, 0, x1, rfl, rfl, SqT.of e, rfl, x1, d1, rfl, r1, _, rfl, ?_⟩
          cases i1 : isIntD d1 with
          | false =>
            have ec : cellD prs.length (w0 prs) (.tuple [d1, d2]) = false := by
              cases d1 <;> first | rfl | (cases d2 <;> rfl) | (simp [isIntD] at i1)
            rw [ec] at q
            exact iteT q
          | true =>
            refine iteF ⟨_, rfl, a, _, 1, x2, rfl, rfl, SqT.of e, rfl, x2, d2, rfl, r2, _, rfl, ?_⟩
            cases i2 : isIntD d2 with
            | false =>
              have ec : cellD prs.length (w0 prs) (.tuple [d1, d2]) = false := by
                cases d1 <;> cases d2 <;> first | rfl | (simp [isIntD] at i2)
              rw [ec] at q
              exact iteT q
            | true =>
              cases r1 with
              | int i =>
                cases r2 with
                | int j =>
                  refine iteF ?_
                  refine ⟨_, rfl, a, _, 0, .int i, rfl, rfl, SqT.of e, rfl, _, _, rfl, rfl, _, rfl, ?_⟩
                  refine ite2 (fun k1 => ?_) (fun k1 => ⟨_, rfl, iteF ?_⟩)
                  · refine ⟨_, rfl, t, _, rfl, .inl hT.sq, _, _, rfl, rfl, _, rfl, ?_⟩
                    rw [List.length_map]
                    refine ite2 (fun k2 => ?_) (fun k2 => ?_)
                    · refine ⟨_, rfl, a, _, 1, .int j, rfl, rfl, SqT.of e, rfl, _, _, rfl, rfl, _, rfl, ?_⟩
                      refine ite2 (fun k3 => ?_) (fun k3 => ?_)
                      · refine ⟨_, rfl, t, _, 0, .ref p0.1, rfl, rfl, hT.sq, atI_nat (j := 0) (by rw [List.getElem?_map, hx0]; rfl), p0.1, _, rfl, .inl (hT.r p0 hm0).sq, _, _, rfl, rfl, ?_⟩
                        rw [List.length_map, g.len p0 hm0]
                        have k1 := of_decide_eq_true k1
                        have k2 := of_decide_eq_true k2
                        have k3 := of_decide_eq_true k3
                        by_cases k4 : j < (w0 prs : Nat)
                        · rw [decide_eq_true k4]
                          rw [cellD_yes ⟨⟨k1, k2⟩, k3, k4⟩] at q
                          exact q
                        · rw [decide_eq_false k4]
                          rw [cellD_no fun z => k4 z.2.2] at q
                          exact q
                      · rw [cellD_no fun z => k3 (decide_eq_true z.2.1)] at q
                        exact q
                    · rw [cellD_no fun z => k2 (decide_eq_true z.1.2)] at q
                      exact q
                  · rw [cellD_no fun z => k1 (decide_eq_true z.1.1)] at q
                    exact q
                | _ => exact absurd i2 (by simp [isIntD])
              | _ => exact absurd i1 (by simp [isIntD])
      · have ed : (!decide (V.int (xs.length : Nat) = V.int 2)) = true := by
          rw [decide_eq_false (by intro z; injection z with z; omega)]
          rfl
        rw [ed]
        have ec : cellD prs.length (w0 prs) (.tuple ds) = false := by
          unfold cellD
          split
          · next z =>
            injection z with z
            subst z
            exact absurd rfl h2
          · rfl
        rw [ec] at q
        exact iteT q
    | _ => exact iteT q
def spNear : Sp := fun vs H Q _ => ∃ (st sp : Addr) (lo hi : Option Int) (here : Int) (B : Nat), vs = [.ref st, .ref sp, .int here] ∧ StK H st ∧ H sp = some (.tup [oV lo, oV hi]) ∧ (∀ m n, lo = some m → hi = some n → m ≤ n) ∧ here.natAbs ≤ B ∧ 10 ^ 25 ≤ B ∧ (∀ m, lo = some m → m.natAbs ≤ B) ∧ (∀ m, hi = some m → m.natAbs ≤ B) ∧
  ∀ x H', But st H H' → StK H' st → x.natAbs ≤ B + 1 → Q (.int x) H'
abbrev nearN : List Str := ["store", "span", "here", "low", "high", "some", "end"]
theorem sc_near : FnScope nearN ["store", "span", "here"] (defScope dNear) := ⟨rfl, rfl, rfl, by decide +kernel, rfl, by decide +kernel, by decide +kernel⟩
set_option maxHeartbeats 16000000 in
theorem ok_near (T : Blt mg) (D : DefAt K mg "_law_near" dNear ["store", "span", "here"]) (G3 : FnAt P w K mg base 1 "_law_take" ["store", "many"] spTakeK) (G4 : FnAt P w K mg base 2 "_law_far" ["store", "figures"] spFar) : FnAt P w K mg base 3 "_law_near" ["store", "span", "here"] spNear := by
  refine FnAt.of D sc_near (fun vs H Q E h => ?_) (fun f cdv A outer s H vs Q E hr h => ?_)
  · obtain ⟨st, sp, lo, hi, here, B, rfl, _⟩ := h
    rfl
  · obtain ⟨st, sp, lo, hi, here, B, rfl, hst, hsp, hlh, hB1, hB2, hB3, hB4, q⟩ := h
    have nd := sc_near.nd
    have hr1 := hr.mono (show 1 ≤ 2 by decide)
    refine ⟨_, pss_cons (ps_asg (pv 1) (pg_tup rfl (pgs_cons (pg_name (i := 3) nd rfl (Or.inl rfl)) (pgs_cons (pg_name (i := 4) nd rfl (Or.inl rfl)) pgs_nil))))
      (pss_cons (ps_set (i := 5) nd rfl (Or.inl rfl) (pe_lst (pa_cons (pv 2) (pa_cons (pe_op o_sub (pe_op o_add (pv 2) (pe_f G3 hr1 (pa_cons (pv 0) (pa_cons pe_int pa_nil)))) pe_int) (pa_cons (pe_f G4 hr (pa_cons (pv 0) (pa_cons pe_int pa_nil))) (pa_cons (pe_op o_sub pe_int (pe_f G4 hr (pa_cons (pv 0) (pa_cons pe_int pa_nil)))) pa_nil))))))
      (pss_cons (ps_for PassesOwn.never rfl (pi_tup (pv 1)) (pg_name (i := 6) nd rfl (Or.inl rfl))
        (pss_one (ps_if (pt_cmpR op_notN (pv 6) pe_non (nomark _)) (pss_one (ps_set (i := 5) nd rfl (Or.inl rfl) (pe_op op_cat (pv 5) (pe_lst (pa_cons (pv 6) (pa_cons (pe_op o_sub (pv 6) pe_int) (pa_cons (pe_op o_add (pv 6) pe_int) pa_nil))))))) pss_nil)))
      (pss_cons (ps_if (PW.pt (pw_and (pt_cmpR op_notN (pv 3) pe_non (nomark _)) (pw_and1 (pt_cmpR op_notN (pv 4) pe_non (nomark _))))) (pss_one (ps_set (i := 5) nd rfl (Or.inl rfl) (pe_op op_cat (pv 5) (pe_op op_rep (pe_lst (pa_cons (pe_op o_add (pv 3) (pe_op o_mod (pe_f G4 hr (pa_cons (pv 0) (pa_cons pe_int pa_nil))) (pe_op o_add (pe_op o_sub (pv 4) (pv 3)) pe_int))) pa_nil)) pe_int)))) pss_nil)
      (pss_one (ps_ret (pe_ix ix_list (pv 5) (pe_f G3 hr1 (pa_cons (pv 0) (pa_cons (pe_b call_len_seq T.len boot_len (pa_cons (pv 5) pa_nil)) pa_nil))) (fun _ _ => rfl))))))), ?_⟩
    have nsp : sp ≠ st := fun z => by
      obtain ⟨_, _, _, e⟩ := hst
      rw [z, e] at hsp
      cases hsp
    refine ⟨_, rfl, sp, _, rfl, SqT.of hsp, rfl, _, _, rfl, _, _, rfl, rfl, ?_⟩
    refine ⟨_, rfl, _, rfl, _, rfl, st, 3, rfl, by decide, by decide, hst, fun d1 H1 d10 d11 b1 st1 => ⟨_, _, rfl, rfl, _, _, rfl, rfl, _, rfl, st, 25, rfl, by decide, by decide, st1, fun d2 H2 d20 d21 b2 st2 => ⟨_, rfl, st, 25, rfl, by decide, by decide, st2, fun d3 H3 d30 d31 b3 st3 => ⟨_, _, rfl, rfl, len4, fun L hL => ?_⟩⟩⟩⟩
    have p25 : (10 : Int) ^ (25 : Int).toNat = 10000000000000000000000000 := by decide
    have p25n : (10 : Nat) ^ 25 = 10000000000000000000000000 := by decide
    rw [p25] at d21 d31
    rw [p25n] at hB2
    have b13 : But st H H3 := b1.trans (b2.trans b3)
    have hI : IntL (upd H3 L (.lst [.int here, .int (here + d1 - 1), .int d2, .int (0 - d3)])) L st 4 4 (B + 1) := by
      refine ⟨⟨[here, here + d1 - 1, d2, 0 - d3], upd_same, Nat.le_refl _, Nat.le_refl _, fun n hn => ?_⟩, (st3.ne hL).symm⟩
      simp only [List.mem_cons, List.not_mem_nil, or_false] at hn
      rcases hn with rfl | rfl | rfl | rfl <;> omega
    have s4 := Same.new (o := .lst [.int here, .int (here + d1 - 1), .int d2, .int (0 - d3)]) hL
    generalize upd H3 L (.lst [.int here, .int (here + d1 - 1), .int d2, .int (0 - d3)]) = H4 at hI s4 ⊢
    have b4 := b13.trans (Same.but s4)
    have st4 := st3.same s4
    refine ⟨_, rfl, sp, rfl, ⟨_, SqT.of (b4 _ _ nsp hsp)⟩, for_tup (xs := [oV lo, oV hi]) (fun k σ H5 => ∃ (o6 : Option V) (L : Addr), σ = [some (.ref st), some (.ref sp), some (.int here), some (oV lo), some (oV hi), some (.ref L), o6] ∧ But st H H5 ∧ StK H5 st ∧ IntL H5 L st 4 (4 + 3 * k) (B + 1))
      ⟨_, L, rfl, b4, st4, hI⟩ (fun k σ H5 _ ⟨_, _, _, b5, _⟩ => SqT.of (b5 _ _ nsp hsp)) ?_ ?_⟩
    · rintro k v σ H5 hk ⟨o6, L, rfl, b5, st5, ⟨ns, r5, l1, l2, hn⟩, nL⟩
      have hk2 : k < 2 := (List.getElem?_eq_some_iff.mp hk).1
      have hv : ∃ o, v = oV o ∧ ∀ m, o = some m → m.natAbs ≤ B := by
        match k, hk2, hk with
        | 0, _, hk => exact ⟨lo, (Option.some.inj hk).symm, hB3⟩
        | 1, _, hk => exact ⟨hi, (Option.some.inj hk).symm, hB4⟩
      obtain ⟨o, rfl, ho⟩ := hv
      refine ⟨_, rfl, rfl, _, rfl, ?_⟩
      cases o with
      | none => exact iteF ⟨_, L, rfl, b5, st5, ⟨ns, r5, l1, by omega, hn⟩, nL⟩
      | some e =>
        have he := ho e rfl
        refine iteT ⟨_, rfl, _, rfl, _, rfl, _, _, rfl, rfl, _, rfl, _, _, rfl, rfl, len3, fun M hM => ⟨L, M, _, _, rfl, rfl, (Same.new hM) _ _ r5, upd_same, ?_, fun N hN => ?_⟩⟩
        · rw [List.length_map, sizeLine_eq]
          show ns.length + 3 ≤ _
          omega
        have s6 : Same H5 (upd (upd H5 M (.lst [.int e, .int (e - 1), .int (e + 1)])) N (.lst (ns.map V.int ++ [.int e, .int (e - 1), .int (e + 1)]))) := (Same.new hM).trans (Same.new hN)
        refine ⟨_, N, rfl, b5.trans (Same.but s6), st5.same s6, ⟨ns ++ [e, e - 1, e + 1], ?_, ?_, ?_, fun n hn' => ?_⟩, ?_⟩
        · unfold Row
          rw [upd_same, List.map_append]
          rfl
        · rw [List.length_append]; omega
        · rw [List.length_append]
          show ns.length + 3 ≤ _
          omega
        · rcases List.mem_append.mp hn' with z | z
          · exact hn n z
          · simp only [List.mem_cons, List.not_mem_nil, or_false] at z
            rcases z with rfl | rfl | rfl <;> omega
        · exact ((st5.same (Same.new hM)).ne hN).symm
    · rintro σ H5 ⟨o6, L, rfl, b5, st5, hI5⟩
      dsimp only
      refine if_both' (fun N => ∀ H6 L hm, But st H H6 → StK H6 st → IntL H6 L st 4 hm (B + 1) → hm ≤ 14 → N [some (.ref st), some (.ref sp), some (.int here), some (oV lo), some (oV hi), some (.ref L), o6] H6) (fun H6 L hm b6 st6 ⟨⟨ns, r6, l1, l2, hn⟩, nL⟩ hm14 => ?_) (fun key => ?_)
      · refine ⟨_, rfl, _, rfl, _, rfl, L, _, rfl, .inl r6.sq, st, _, rfl, ?_, ?_, st6, fun d H7 d0 d1 b7 st7 => ?_⟩
        · rw [List.length_map]; omega
        · rw [List.length_map]; omega
        rw [List.length_map] at d1
        obtain ⟨k, rfl⟩ : ∃ k : Nat, d = (k : Int) := ⟨d.toNat, by omega⟩
        have r7 : Row H7 L ns := b7 _ _ nL r6
        refine ⟨L, _, _, _, rfl, rfl, r7.sq, at_row (by omega), q _ H7 (b6.trans b7) st7 (hn _ ?_)⟩
        rw [List.getD_eq_getElem?_getD, List.getElem?_eq_getElem (by omega)]
        exact List.getElem_mem _
      · refine ⟨_, rfl, rfl, _, rfl, ?_⟩
        cases lo with
        | none => exact iteF (iteF (key H5 L _ b5 st5 hI5 (by show 4 + 3 * 2 ≤ 14; decide)))
        | some m =>
          refine iteT ⟨_, rfl, rfl, _, rfl, ?_⟩
          cases hi with
          | none => exact iteF (key H5 L _ b5 st5 hI5 (by show 4 + 3 * 2 ≤ 14; decide))
          | some n =>
            have hmn := hlh m n rfl rfl
            have hm := hB3 m rfl
            have hn' := hB4 n rfl
            obtain ⟨⟨ns, r5, l1, l2, hn⟩, nL⟩ := hI5
            refine iteT ⟨_, rfl, _, rfl, _, rfl, st, 25, rfl, by decide, by decide, st5, fun d H6 d0 d1 b6 st6 => ⟨_, rfl, _, rfl, _, _, rfl, rfl, _, _, rfl, rfl, _, _, rfl, rfl, (by show 0 < n - m + 1; omega), _, _, rfl, rfl, len1, fun M hM => ?_⟩⟩
            have h1 : 0 ≤ d % (n - m + 1) := Int.emod_nonneg _ (by omega)
            have h2 : d % (n - m + 1) < n - m + 1 := Int.emod_lt_of_pos _ (by omega)
            generalize d % (n - m + 1) = z at h1 h2 ⊢
            refine ⟨M, 4, _, rfl, rfl, upd_same, by decide, by decide, (by rw [sizeLine_eq]; show 1 * 4 ≤ _; decide), fun M2 hM2 => ?_⟩
            have s7 : Same H6 (upd (upd H6 M (.lst [.int (m + z)])) M2 (.lst (List.replicate (4 : Int).toNat [V.int (m + z)]).flatten)) := (Same.new hM).trans (Same.new hM2)
            have e7 : (upd (upd H6 M (.lst [.int (m + z)])) M2 (.lst (List.replicate (4 : Int).toNat [V.int (m + z)]).flatten)) M2 = some (.lst [.int (m + z), .int (m + z), .int (m + z), .int (m + z)]) := upd_same
            generalize upd (upd H6 M (.lst [.int (m + z)])) M2 (.lst (List.replicate (4 : Int).toNat [V.int (m + z)]).flatten) = H7 at s7 e7 ⊢
            have r7 : Row H7 L ns := s7 _ _ (b6 _ _ nL r5)
            refine ⟨L, M2, _, _, rfl, rfl, r7, e7, ?_, fun N hN => ?_⟩
            · rw [List.length_map, sizeLine_eq]
              show ns.length + 4 ≤ _
              have : ns.length ≤ 10 := l2
              omega
            have st7 := st6.same s7
            refine key _ N 14 (b5.trans (b6.trans ((Same.but s7).trans (Same.but (Same.new hN))))) (st7.same (Same.new hN)) ⟨⟨ns ++ [m + z, m + z, m + z, m + z], ?_, ?_, ?_, fun n2 hn2 => ?_⟩, (st7.ne hN).symm⟩ (Nat.le_refl _)
            · unfold Row
              rw [upd_same, List.map_append]
              rfl
            · rw [List.length_append]; omega
            · rw [List.length_append]
              show ns.length + 4 ≤ _
              have : ns.length ≤ 10 := l2
              omega
            · rcases List.mem_append.mp hn2 with y | y
              · exact hn n2 y
              · simp only [List.mem_cons, List.not_mem_nil, or_false, or_self] at y
                subst y
                omega
end
def abQ (st : Addr) (S0 : List Addr) (H0 : Hp) : Ab := ⟨S0, fun H => StK H st ∧ But st H0 H ∧ ∀ b ∈ S0, H b ≠ none, fun h sm => ⟨h.1.same sm, h.2.1.trans (Same.but sm), fun b hb z => h.2.2 b hb (sm.free z)⟩, fun h n z => h.2.2 _ z n⟩
theorem abQ.step {st : Addr} {S0 : List Addr} {H0 H H' : Hp} (h : (abQ st S0 H0).J H) (b : But st H H') (s : StK H' st) : (abQ st S0 H0).J H' := ⟨s, h.2.1.trans b, fun c hc z => by
  by_cases e : c = st
  · obtain ⟨_, _, _, es⟩ := s
    rw [e, es] at z
    cases z
  · cases ec : H c with
    | none => exact h.2.2 c hc ec
    | some o =>
      rw [b c o e ec] at z
      cases z⟩
theorem take_q {st : Addr} {S0 : List Addr} {H0 : Hp} {σ : L2.St} {H : Hp} {Q : VK} {m : Int} (hst : σ[0]? = some (some (.ref st))) (hJ : (abQ st S0 H0).J H) (hS : st ∈ S0) (h0 : 0 < m) (h1 : m < 100000)
    (k : ∀ i H', 0 ≤ i → i < m → ButS S0 H H' → (abQ st S0 H0).J H' → Q (.int i) H') : tF spTakeK (tCons (tVar 0) (tCons (tC (.int m)) tNil)) σ H Q :=
  ⟨_, hst, st, m, rfl, h0, h1, hJ.1, fun d H' d0 d1 b s => k d H' d0 d1 (fun c o n e => b c o (fun z => n (by rw [z]; exact hS)) e) (abQ.step hJ b s)⟩
def BadC (n w : Nat) (d : PyData) : Prop := cellD n w d = false ∧ Sz 3000 6 d
def BadX (d : PyData) : Prop := isIntD d = false ∧ Sz 1000 3 d
def OddX (d : PyData) : Prop := (isIntD d = false ∨ d = .int (10 ^ 25)) ∧ Sz 400 3 d
def DeedOk (S : List Addr) (n w B : Nat) (H : Hp) (v : V) : Prop := v = .non ∨ ∃ (D : Addr) (cv xv : V), v = .ref D ∧ H D = some (.tup [cv, xv]) ∧ D ∉ S ∧
  ((∃ x : Int, xv = .int x ∧ x.natAbs ≤ B) ∨ ∃ d, RdS S H xv d ∧ BadX d) ∧
  ((∃ d, RdS S H cv d ∧ BadC n w d) ∨ ∃ (c : Addr) (i j : Nat), cv = .ref c ∧ Cell H c i j ∧ c ∉ S ∧ i < n ∧ j < w)
theorem cellD_l {n w : Nat} {a b : PyData} (h : ∀ i, a = .int i → ¬ (0 ≤ i ∧ i < n)) : cellD n w (.tuple [a, b]) = false := by
  cases a <;> first | rfl | skip
  cases b <;> first | rfl | skip
  exact cellD_no fun z => h _ rfl z.1
theorem cellD_r {n w : Nat} {a b : PyData} (h : ∀ i, b = .int i → ¬ (0 ≤ i ∧ i < w)) : cellD n w (.tuple [a, b]) = false := by
  cases a <;> first | rfl | skip
  cases b <;> first | rfl | skip
  exact cellD_no fun z => h _ rfl z.2
theorem odd_no {d : PyData} (h : OddX d) {n : Nat} (hn : n ≤ 6) : ∀ i, d = .int i → ¬ (0 ≤ i ∧ i < n) := fun i e z => by
  subst e
  rcases h.1 with h | h
  · cases h
  · injection h with h
    omega
section
variable {P : Program} {w : World} {K : PySem.W.Frag} {mg : Str → Option Value} {base : Heap} {C : Addr}
def spDeed : Sp := fun vs H Q _ => ∃ (st D T Ea : Addr) (qs : Prs) (B : Nat) (S0 : List Addr), vs = [.ref st, .ref D] ∧ StK H st ∧ H D = some (.tup [.ref T, .ref Ea]) ∧ Tab H T qs ∧ tabB qs = true ∧ T ∉ S0 ∧ (∀ p ∈ qs, p.1 ∉ S0) ∧ st ∈ S0 ∧ (∀ b ∈ S0, H b ≠ none) ∧
  (∀ p ∈ qs, ∀ n ∈ p.2, n.natAbs ≤ B) ∧ 10 ^ 25 ≤ B ∧ B + 1 < 10 ^ 40 ∧ ∀ v H', But st H H' → StK H' st → DeedOk S0 qs.length (w0 qs) (B + 1) H' v → Q v H'
abbrev deedN : List Str := ["store", "state", "table", "early", "way", "cell", "x", "odd", "row", "place", "cells"]
theorem sc_deed : FnScope deedN ["store", "state"] (defScope dDeed) := ⟨rfl, rfl, rfl, by decide +kernel, rfl, by decide +kernel, by decide +kernel⟩
end
theorem gname_in {i : Nat} {v : V} {σ : L2.St} {H : Hp} {F : L2.St → Hp → Prop} (h : F (σ.set i (some v)) H) : gName i v σ H F := h
def asgE : Stmt → Expr
  | .Assign _ e _ => e
  | _ => .Constant .none 0 ⟨0, 0, 0, 0⟩
theorem ps_setE {X : Cx} {Γ : EnB} {A : TyB} {i : Nat} {x : Str} (s s' : Stmt) {p1 p2 : Pos} (h0 : s = s') (h : s = .Assign [.Name x p1] (asgE s) p2) (hN : X.N.Nodup) (hi : X.N[i]? = some x) (hx : Loc X.env.scope x) (hs : swapsWith (asgE s) (some (.Name x p1)) p2.line X.env = pure false) (he : AE X Γ (asgE s) A)
    (hf : X.fn x = true ∨ X.env.scope.names.lookup x = some .local := by first | exact .inl rfl | exact .inr rfl | assumption) : PS X s' (tAsg (tA Γ A) (gName i)) := by
  subst h0
  rw [h]
  exact ps_set hN hi hx he.pe hs hf
theorem swaps_sub {a b : Expr} {p : Pos} {t : Option Expr} {l : Nat} {env : Env} : swapsWith (.Subscript a b p) t l env = pure false := rfl
theorem sz_two {d e : PyData} {c k : Nat} (h1 : Sz c k d) (h2 : Sz c k e) : Sz (2 * c + 7) (k + 1) (.tuple [d, e]) := (sz_tuple (n := 2) (fun x hx => by
  rcases List.mem_cons.mp hx with z | z
  · rw [z]; exact h1
  · rw [List.mem_singleton.mp z]; exact h2) (show [d, e].length ≤ 2 from Nat.le_refl 2)).mono (by omega) (by omega)
theorem cell3 {n w : Nat} {a b c : PyData} : cellD n w (.tuple [a, b, c]) = false := by
  cases a <;> first | rfl | (cases b <;> rfl)
theorem cell1 {n w : Nat} {a : PyData} : cellD n w (.tuple [a]) = false := by
  cases a <;> rfl
theorem sz_small {z : Int} {n : Nat} (h : 0 ≤ z ∧ z < n) (hn : n ≤ 6) : Sz 41 0 (.int z) := sz_int (Nat.lt_of_lt_of_le (show z.natAbs < 10 by omega) (by decide))
theorem ad_tup2 {X : Cx} {Γ : EnB} {e1 e2 : Expr} {φ1 φ2 φ : PyData → Prop} {pos : Pos} {x1} (sg : StbE Γ) (h1 : AE X Γ e1 (tD φ1)) (h2 : AE X Γ e2 (tD φ2)) (hφ : ∀ a b, φ1 a → φ2 b → φ (.tuple [a, b])) (hs1 : starEach [e1, e2] X.env = (false, eval e1 X.env) :: starEach [e2] X.env := by rfl) (hs2 : starEach [e2] X.env = (false, eval e2 X.env) :: starEach [] X.env := by rfl) :
    AE X Γ (.Tuple [e1, e2] x1 pos) (tD φ) := ad_tup (ax_cons sg h1 (ax_cons sg h2 ax_nil hs2) hs1) (fun ds ⟨a, r, e, _, b, r2, e2, _, e3⟩ => by rw [e, e2, e3]; exact (by decide : 2 ≤ 1000)) fun ds ⟨a, r, e, pa, b, r2, e2, pb, e3⟩ => by
  subst e e2 e3
  exact hφ a b pa pb
def CvOk (S : List Addr) (n w : Nat) (H : Hp) (cv : V) : Prop := (∃ d, RdS S H cv d ∧ BadC n w d) ∨ ∃ (c : Addr) (i j : Nat), cv = .ref c ∧ Cell H c i j ∧ c ∉ S ∧ i < n ∧ j < w
theorem CvOk.but {S : List Addr} {n w : Nat} {H H' : Hp} {cv : V} (h : CvOk S n w H cv) (b : ButS S H H') : CvOk S n w H' cv := by
  rcases h with ⟨d, r, z⟩ | ⟨c, i, j, e, hc, nc, h1, h2⟩
  · exact .inl ⟨d, rds_but r b, z⟩
  · exact .inr ⟨c, i, j, e, b _ _ nc hc, nc, h1, h2⟩
theorem cell_bnd {qs : Prs} {B : Nat} (hg : tabB qs = true) (h : ∀ p ∈ qs, ∀ n ∈ p.2, n.natAbs ≤ B) {i j : Nat} (hi : i < qs.length) (hj : j < w0 qs) : (cellR (qs.map (·.2)) i j).natAbs ≤ B := by
  obtain ⟨g, _⟩ := good_of hg
  obtain ⟨p, hp, _, e⟩ := rowAt_mem hi
  have hl : j < p.2.length := by rw [g.len p hp]; exact hj
  rw [cellR_at, e, List.getD_eq_getElem?_getD, List.getElem?_eq_getElem hl]
  exact h p hp _ (List.getElem_mem hl)
theorem ahead_bnd {qs : Prs} {B : Nat} (hg : tabB qs = true) (h : ∀ p ∈ qs, ∀ n ∈ p.2, n.natAbs ≤ B) {i j : Nat} (hi : i < qs.length) (hj : j < w0 qs) {m : Int} (hm : (aheadL (qs.map (·.2)) i j).max? = some m) : m.natAbs ≤ B := by
  have hm := (List.max?_eq_some_iff.mp hm).1
  unfold aheadL at hm
  rcases List.mem_append.mp hm with z | z
  · split at z
    · rw [List.mem_singleton.mp z]
      exact cell_bnd hg h (by omega) hj
    · cases z
  · split at z
    · rw [List.mem_singleton.mp z]
      exact cell_bnd hg h hi (by omega)
    · cases z
theorem behind_bnd {qs : Prs} {B : Nat} (hg : tabB qs = true) (h : ∀ p ∈ qs, ∀ n ∈ p.2, n.natAbs ≤ B) {i j : Nat} (hi : i < qs.length) (hj : j < w0 qs) {m : Int} (hm : (behindL (qs.map (·.2)) i j).min? = some m) : m.natAbs ≤ B := by
  have hm := (List.min?_eq_some_iff.mp hm).1
  unfold behindL at hm
  rw [wR_w0, List.length_map] at hm
  rcases List.mem_append.mp hm with z | z
  · split at z
    · rw [List.mem_singleton.mp z]
      exact cell_bnd hg h (by omega) hj
    · cases z
  · split at z
    · rw [List.mem_singleton.mp z]
      exact cell_bnd hg h hi (by omega)
    · cases z
section
variable {P : Program} {w : World} {K : PySem.W.Frag} {mg : Str → Option Value} {base : Heap} {C : Addr}
set_option maxHeartbeats 4000000 in
theorem ok_deed (T : Blt mg) (D : DefAt K mg "_law_deed" dDeed ["store", "state"]) (G3 : FnAt P w K mg base 1 "_law_take" ["store", "many"] spTakeK) (G4 : FnAt P w K mg base 1 "_law_span" ["table", "cell"] spSpan) (G5 : FnAt P w K mg base 3 "_law_near" ["store", "span", "here"] spNear) : FnAt P w K mg base 4 "_law_deed" ["store", "state"] spDeed := by
  refine FnAt.of D sc_deed (fun vs H Q E h => ?_) (fun f cdv A outer s H vs Q E hr h => ?_)
  · obtain ⟨st, D, Ta, Ea, qs, B, S0, rfl, _⟩ := h
    rfl
  · obtain ⟨st, D, Ta, Ea, qs, B, S0, rfl, hst, hD, hT, hg, hTS, hpS, hS, hlive, hB1, hB2, hB3, q⟩ := h
    have nd := sc_deed.nd
    have hr1 : Room 1 _ := hr.mono (show 1 ≤ 3 by decide)
    obtain ⟨g, g1, g2, g3, g4⟩ := good_of hg
    obtain ⟨p0, hp0, hm0, hx0⟩ := head_at (prs := qs) g1
    let X : Cx := (cxOf CX0 P w K mg base deedN "_law_deed" (defScope dDeed) f cdv A outer s H E).nox
    let Γ5 : EnB := fun B1 σ H1 => (B1 = abQ st S0 H ∧ σ[0]? = some (some (.ref st))) ∧ VP B1 σ H1 5 (Sz 200 1)
    let Γ8 : EnB := fun B1 σ H1 => (B1 = abQ st S0 H ∧ σ[0]? = some (some (.ref st))) ∧ (σ[2]? = some (some (.ref Ta)) ∧ Tab H1 Ta qs) ∧ VP B1 σ H1 7 OddX ∧ VP B1 σ H1 8 (IP fun z => 0 ≤ z ∧ z < qs.length) ∧ VP B1 σ H1 9 (IP fun z => 0 ≤ z ∧ z < w0 qs)
    let ΓC : Nat → EnB := fun k B1 σ H1 => Γ8 B1 σ H1 ∧ VP B1 σ H1 10 (LP (BadC qs.length (w0 qs)) k k)
    let ΓX : EnB := fun B1 σ H1 => (B1 = abQ st S0 H ∧ σ[0]? = some (some (.ref st))) ∧ VP B1 σ H1 6 (IP fun z => z.natAbs < 10 ^ 40)
    have s5 : StbE Γ5 := fun _ _ _ _ h b => ⟨h.1, h.2.but b⟩
    have sX : StbE ΓX := fun _ _ _ _ h b => ⟨h.1, h.2.but b⟩
    have s8 : StbE Γ8 := fun B1 σ H1 H2 ⟨⟨e, z0⟩, ⟨z1, z2⟩, z3, z4, z5⟩ b => by
      subst e
      exact ⟨⟨rfl, z0⟩, ⟨z1, b _ _ hTS z2.l, fun p hp => b _ _ (hpS p hp) (z2.r p hp)⟩, z3.but b, z4.but b, z5.but b⟩
    have sC : ∀ k, StbE (ΓC k) := fun k B1 σ H1 H2 ⟨h1, h2⟩ b => ⟨s8 _ _ _ _ h1 b, h2.but b⟩
    obtain ⟨S5, e5⟩ : ∃ S, S = (defBody dDeed).getD 5 (.Pass ⟨0, 0, 0, 0⟩) := ⟨_, rfl⟩
    have E5 : AE X Γ5 (asgE ((defBody dDeed).getD 5 (.Pass ⟨0, 0, 0, 0⟩))) (tD OddX) := ad_item (lo := 10) (hi := 10) (ad_disp (au_cons s5 (ad_lit (.bool true) s5 rfl ⟨.inl rfl, sz_of (by decide +kernel)⟩) (au_cons s5 (ad_lit (.bool false) s5 rfl ⟨.inl rfl, sz_of (by decide +kernel)⟩) (au_cons s5 (ad_lit .none s5 rfl ⟨.inl rfl, sz_of (by decide +kernel)⟩)
      (au_cons s5 (ad_lit (.str "1") s5 rfl ⟨.inl rfl, sz_of (by decide +kernel)⟩) (au_cons s5 (ad_lit (.list [.int 1]) s5 rfl ⟨.inl rfl, sz_of (by decide +kernel)⟩) (au_cons s5 (ad_lit (.tuple [.int 1]) s5 rfl ⟨.inl rfl, sz_of (by decide +kernel)⟩) (au_cons s5 (ad_lit (.dict []) s5 rfl ⟨.inl rfl, sz_of (by decide +kernel)⟩)
      (au_cons s5 ⟨pe_imp (pe_op o_pow pe_int pe_int) fun σ H1 Q1 ⟨B1, hg1, j1, q1⟩ => ⟨_, _, rfl, rfl, ⟨by decide, by decide, by decide⟩, q1 _ H1 (ButS.refl _ _) j1 ⟨.int (10 ^ 25), .int _, .inr rfl, sz_of (by decide +kernel)⟩⟩⟩ (au_cons s5 (ad_lit (.str "") s5 rfl ⟨.inl rfl, sz_of (by decide +kernel)⟩)
      (au_cons s5 (ad_lst (ax_cons (φ := Sz 200 1) s5 (ad_var (pv 5) fun B1 σ H1 h => h.2) ax_nil) (fun ds ⟨d, r, e, _, e2⟩ => by rw [e, e2]; exact (by decide : 1 ≤ 1000)) fun ds ⟨d, r, e, h1, e2⟩ => by
        subst e e2
        exact ⟨.inl rfl, (sz_list (n := 1) (fun x hx => by rw [List.mem_singleton.mp hx]; exact h1) (show [d].length ≤ 1 from Nat.le_refl 1)).mono (by decide) (by decide)⟩) au_nil)))))))))))
      (pe_f G3 hr1 (pa_cons (pv 0) (pa_cons pe_int pa_nil))) (fun _ _ => rfl) (fun B1 σ H1 Q1 h j k => by
        obtain ⟨⟨e, z⟩, _⟩ := h
        subst e
        exact take_q z j hS (by decide) (by decide) fun i H' i0 i1 b j' => k i H' i0 i1 b j') s5
    have A5 : PS X S5 (tAsg (tA Γ5 (tD OddX)) (gName 7)) := ps_setE _ _ e5.symm rfl nd rfl (Or.inl rfl) swaps_sub E5
    clear E5
    let n := qs.length
    have vO : ∀ {e : Expr}, PE X e (tVar 7) → AE X Γ8 e (tD OddX) := fun h => ad_var h fun B1 σ H1 h => h.2.2.1
    have vR : ∀ {e : Expr}, PE X e (tVar 8) → AE X Γ8 e (tD (IP fun z => 0 ≤ z ∧ z < qs.length)) := fun h => ad_var h fun B1 σ H1 h => h.2.2.2.1
    have vP : ∀ {e : Expr}, PE X e (tVar 9) → AE X Γ8 e (tD (IP fun z => 0 ≤ z ∧ z < w0 qs)) := fun h => ad_var h fun B1 σ H1 h => h.2.2.2.2
    have uR : ∀ {e : Expr}, PE X e (tVar 8) → AE X (ΓC 6) e (tD (IP fun z => 0 ≤ z ∧ z < qs.length)) := fun h => ad_var h fun B1 σ H1 h => h.1.2.2.2.1
    have uP : ∀ {e : Expr}, PE X e (tVar 9) → AE X (ΓC 6) e (tD (IP fun z => 0 ≤ z ∧ z < w0 qs)) := fun h => ad_var h fun B1 σ H1 h => h.1.2.2.2.2
    have szR : ∀ {d : PyData} {m : Nat}, m ≤ 6 → IP (fun z => 0 ≤ z ∧ z < (m : Nat)) d → Sz 400 3 d := fun {d m} hm h => by
      obtain ⟨z, rfl, hz⟩ := h
      exact (sz_small hz hm).mono (by decide) (by decide)
    have szI : ∀ {z : Int}, z.natAbs < 10 ^ 40 → Sz 400 3 (.int z) := fun h => (sz_int h).mono (by decide) (by decide)
    have bad2 : ∀ {a b : PyData}, cellD qs.length (w0 qs) (.tuple [a, b]) = false → Sz 400 3 a → Sz 400 3 b → BadC qs.length (w0 qs) (.tuple [a, b]) := fun h h1 h2 => ⟨h, (sz_two h1 h2).mono (by decide) (by decide)⟩
    obtain ⟨S6, e6⟩ : ∃ S, S = (defBody dDeed).getD 6 (.Pass ⟨0, 0, 0, 0⟩) := ⟨_, rfl⟩
    have A6 : PS X ((defBody dDeed).getD 6 (.Pass ⟨0, 0, 0, 0⟩)) _ := ps_if (pt_cmpR op_eq (pv 4) pe_int (nomark _)) (pss_cons (ps_asg (pv 5) (pg_tup rfl (pgs_cons (pg_name (i := 8) nd rfl (Or.inl rfl)) (pgs_cons (pg_name (i := 9) nd rfl (Or.inl rfl)) pgs_nil))))
      (pss_cons (ps_set (i := 10) nd rfl (Or.inl rfl) (AE.pe (A := tD (LP (BadC qs.length (w0 qs)) 6 6)) (Γ := Γ8) (ad_disp
        (au_cons s8 (ad_tup2 s8 (φ1 := (· = .int (qs.length : Nat))) ⟨pe_imp (pe_b call_len_seq T.len boot_len (pa_cons (pv 2) pa_nil)) fun σ H1 Q1 ⟨B1, hg1, j1, q1⟩ => ⟨_, hg1.2.1.1, Ta, _, rfl, .inl hg1.2.1.2.sq, by rw [List.length_map]; exact q1 _ H1 (ButS.refl _ _) j1 ⟨_, .int _, rfl⟩⟩⟩ (vP (pv 9)) fun a b ha hb => by
            subst ha
            exact bad2 (cellD_l fun i e z => by injection e with e; omega) (szI (Nat.lt_of_lt_of_le (show ((qs.length : Nat) : Int).natAbs < 10 by omega) (by decide))) (szR g4 hb))
        (au_cons s8 (ad_tup2 s8 (φ2 := (· = .int (w0 qs : Nat))) (vR (pv 8)) ⟨pe_imp (pe_b call_len_seq T.len boot_len (pa_cons (pe_ix ix_list (pv 2) pe_int (fun _ _ => rfl)) pa_nil)) fun σ H1 Q1 ⟨B1, hg1, j1, q1⟩ => ⟨_, hg1.2.1.1, Ta, _, 0, .ref p0.1, rfl, rfl, hg1.2.1.2.sq, atI_nat (j := 0) (by rw [List.getElem?_map, hx0]; rfl), p0.1, _, rfl, .inl (hg1.2.1.2.r p0 hm0).sq, by rw [List.length_map, g.len p0 hm0]; exact q1 _ H1 (ButS.refl _ _) j1 ⟨_, .int _, rfl⟩⟩⟩ fun a b ha hb => by
            subst hb
            exact bad2 (cellD_r fun i e z => by injection e with e; omega) (szR g2 ha) (szI (Nat.lt_of_lt_of_le (show ((w0 qs : Nat) : Int).natAbs < 10 by omega) (by decide))))
        (au_cons s8 (ad_tup2 s8 (φ1 := (· = .int (-1))) (ad_negE (ad_intE pe_int)) (vP (pv 9)) fun a b ha hb => by
            subst ha
            exact bad2 (cellD_l fun i e z => by injection e with e; omega) (szI (by decide)) (szR g4 hb))
        (au_cons s8 (ad_tup2 s8 (φ2 := (· = .int (-1))) (vR (pv 8)) (ad_negE (ad_intE pe_int)) fun a b ha hb => by
            subst hb
            exact bad2 (cellD_r fun i e z => by injection e with e; omega) (szR g2 ha) (szI (by decide)))
        (au_cons s8 (ad_tup2 s8 (vO (pv 7)) (vP (pv 9)) fun a b ha hb => bad2 (cellD_l (odd_no ha g2)) ha.2 (szR g4 hb))
        (au_cons s8 (ad_tup2 s8 (vR (pv 8)) (vO (pv 7)) fun a b ha hb => bad2 (cellD_r (odd_no hb g4)) (szR g2 ha) hb.2)
          au_nil)))))))))
      (pss_cons (ps_set (i := 10) nd rfl (Or.inl rfl) (AE.pe (A := tD (LP (BadC qs.length (w0 qs)) (6 + 8) (6 + 8))) (Γ := ΓC 6) (ad_more (sC 6) (ad_var (pv 10) fun B1 σ H1 h => h.2) (ad_disp
        (au_cons (sC 6) (ad_tup (ax_cons (sC 6) (uR (pv 8)) ax_nil) (fun ds ⟨d, r, e, _, e2⟩ => by rw [e, e2]; exact (by decide : 1 ≤ 1000)) fun ds ⟨d, r, e, h1, e2⟩ => by
            subst e e2
            exact ⟨cell1, (sz_tuple (n := 1) (fun x hx => by rw [List.mem_singleton.mp hx]; exact szR g2 h1) (show [d].length ≤ 1 from Nat.le_refl 1)).mono (by decide) (by decide)⟩)
        (au_cons (sC 6) (ad_tup (ax_cons (sC 6) (uR (pv 8)) (ax_cons (sC 6) (uP (pv 9)) (ax_cons (sC 6) (ad_int pe_int) ax_nil))) (fun ds ⟨d, r, e, _, d2, r2, e2, _, d3, r3, e3, _, e4⟩ => by rw [e, e2, e3, e4]; exact (by decide : 3 ≤ 1000)) fun ds ⟨d, r, e, h1, d2, r2, e2, h2, d3, r3, e3, ⟨z, ez, hz⟩, e4⟩ => by
            subst e e2 e3 e4 ez hz
            exact ⟨cell3, (sz_tuple (n := 3) (fun x hx => by
              rcases List.mem_cons.mp hx with y | y
              · rw [y]; exact szR g2 h1
              · rcases List.mem_cons.mp y with y | y
                · rw [y]; exact szR g4 h2
                · rw [List.mem_singleton.mp y]; exact szI (by decide)) (show [d, d2, .int 0].length ≤ 3 from Nat.le_refl 3)).mono (by decide) (by decide)⟩)
        (au_cons (sC 6) (ad_lst (ax_cons (sC 6) (uR (pv 8)) (ax_cons (sC 6) (uP (pv 9)) ax_nil)) (fun ds ⟨d, r, e, _, d2, r2, e2, _, e3⟩ => by rw [e, e2, e3]; exact (by decide : 2 ≤ 1000)) fun ds ⟨d, r, e, h1, d2, r2, e2, h2, e3⟩ => by
            subst e e2 e3
            exact ⟨rfl, (sz_list (n := 2) (fun x hx => by
              rcases List.mem_cons.mp hx with y | y
              · rw [y]; exact szR g2 h1
              · rw [List.mem_singleton.mp y]; exact szR g4 h2) (show [d, d2].length ≤ 2 from Nat.le_refl 2)).mono (by decide) (by decide)⟩)
        (au_cons (sC 6) (ad_imp (uR (pv 8)) fun d h => ⟨by obtain ⟨z, rfl, _⟩ := h; rfl, (szR g2 h).mono (by decide) (by decide)⟩)
        (au_cons (sC 6) (ad_lit .none (sC 6) rfl ⟨rfl, sz_of (by decide +kernel)⟩) (au_cons (sC 6) (ad_lit (.str "") (sC 6) rfl ⟨rfl, sz_of (by decide +kernel)⟩) (au_cons (sC 6) (ad_lit (.tuple []) (sC 6) rfl ⟨rfl, sz_of (by decide +kernel)⟩) (au_cons (sC 6) (ad_lit (.dict []) (sC 6) rfl ⟨rfl, sz_of (by decide +kernel)⟩) au_nil))))))))))))
      (pss_one (ps_set (i := 5) nd rfl (Or.inl rfl) (AE.pe (A := tD (BadC qs.length (w0 qs))) (Γ := ΓC 14) (ad_item (lo := 14) (hi := 14) (ad_var (pv 10) fun B1 σ H1 h => h.2) (pe_f G3 hr1 (pa_cons (pv 0) (pa_cons pe_int pa_nil))) (fun _ _ => rfl) (fun B1 σ H1 Q1 h j k => by
        obtain ⟨⟨⟨e, z⟩, _⟩, _⟩ := h
        subst e
        exact take_q z j hS (by decide) (by decide) fun i H' i0 i1 b j' => k i H' i0 i1 b j') (sC 14))))))))
      pss_nil
    rw [← e6] at A6
    have vX : ∀ {e : Expr}, PE X e (tVar 6) → AE X ΓX e (tD (IP fun z => z.natAbs < 10 ^ 40)) := fun h => ad_var h fun B1 σ H1 h => h.2
    obtain ⟨S7, e7⟩ : ∃ S, S = (defBody dDeed).getD 7 (.Pass ⟨0, 0, 0, 0⟩) := ⟨_, rfl⟩
    have A7 : PS X ((defBody dDeed).getD 7 (.Pass ⟨0, 0, 0, 0⟩)) _ := ps_if (PW.pt (pw_or (pt_cmpR op_eq (pv 4) pe_int (nomark _)) (pw_or1 (PW.pt (pw_and (pt_cmpR op_eq (pv 4) pe_int (nomark _)) (pw_and1 (pt_cmpR op_eq (pe_f G3 hr1 (pa_cons (pv 0) (pa_cons pe_int pa_nil))) pe_int (nomark _))))))))
      (pss_one (ps_set (i := 6) nd rfl (Or.inl rfl) (AE.pe (A := tD BadX) (Γ := ΓX) (ad_item (lo := 8) (hi := 8) (ad_disp (au_cons sX (ad_lit (.bool true) sX rfl ⟨rfl, sz_of (by decide +kernel)⟩) (au_cons sX (ad_lit (.bool false) sX rfl ⟨rfl, sz_of (by decide +kernel)⟩) (au_cons sX (ad_lit .none sX rfl ⟨rfl, sz_of (by decide +kernel)⟩)
        (au_cons sX (ad_lit (.str "1") sX rfl ⟨rfl, sz_of (by decide +kernel)⟩) (au_cons sX (ad_lst (ax_cons sX (vX (pv 6)) ax_nil) (fun ds ⟨d, r, e, _, e2⟩ => by rw [e, e2]; exact (by decide : 1 ≤ 1000)) fun ds ⟨d, r, e, ⟨z, ez, hz⟩, e2⟩ => by
            subst e e2 ez
            exact ⟨rfl, (sz_list (n := 1) (fun x hx => by rw [List.mem_singleton.mp hx]; exact sz_int hz) (show [PyData.int z].length ≤ 1 from Nat.le_refl 1)).mono (by decide) (by decide)⟩)
        (au_cons sX (ad_tup (ax_cons sX (vX (pv 6)) ax_nil) (fun ds ⟨d, r, e, _, e2⟩ => by rw [e, e2]; exact (by decide : 1 ≤ 1000)) fun ds ⟨d, r, e, ⟨z, ez, hz⟩, e2⟩ => by
            subst e e2 ez
            exact ⟨rfl, (sz_tuple (n := 1) (fun x hx => by rw [List.mem_singleton.mp hx]; exact sz_int hz) (show [PyData.int z].length ≤ 1 from Nat.le_refl 1)).mono (by decide) (by decide)⟩)
        (au_cons sX (ad_lit (.dict []) sX rfl ⟨rfl, sz_of (by decide +kernel)⟩) (au_cons sX (ad_lit (.str "") sX rfl ⟨rfl, sz_of (by decide +kernel)⟩) au_nil)))))))))
        (pe_f G3 hr1 (pa_cons (pv 0) (pa_cons pe_int pa_nil))) (fun _ _ => rfl) (fun B1 σ H1 Q1 h j k => by
          obtain ⟨⟨e, z⟩, _⟩ := h
          subst e
          exact take_q z j hS (by decide) (by decide) fun i H' i0 i1 b j' => k i H' i0 i1 b j') sX)))) pss_nil
    rw [← e7] at A7
    have hbd : defBody dDeed = [(defBody dDeed).getD 0 (.Pass ⟨0, 0, 0, 0⟩), (defBody dDeed).getD 1 (.Pass ⟨0, 0, 0, 0⟩), (defBody dDeed).getD 2 (.Pass ⟨0, 0, 0, 0⟩), (defBody dDeed).getD 3 (.Pass ⟨0, 0, 0, 0⟩), (defBody dDeed).getD 4 (.Pass ⟨0, 0, 0, 0⟩), S5, S6, S7, (defBody dDeed).getD 8 (.Pass ⟨0, 0, 0, 0⟩)] := by
      rw [e5, e6, e7]
      kernel_rfl
    rw [hbd]
    clear hbd e5 e6 e7
    refine ⟨_, pss_cons (ps_asg (pv 1) (pg_tup rfl (pgs_cons (pg_name (i := 2) nd rfl (Or.inl rfl)) (pgs_cons (pg_name (i := 3) nd rfl (Or.inl rfl)) pgs_nil))))
      (pss_cons (ps_set (i := 4) nd rfl (Or.inl rfl) (pe_f G3 hr1 (pa_cons (pv 0) (pa_cons pe_int pa_nil))))
      (pss_cons (ps_if (pt_cmpR o_lt (pv 4) pe_int (nomark _)) (pss_one (ps_ret pe_non)) pss_nil)
      (pss_cons (ps_set (i := 5) nd rfl (Or.inl rfl) (pe_tup (pa_cons (pe_f G3 hr1 (pa_cons (pv 0) (pa_cons (pe_b call_len_seq T.len boot_len (pa_cons (pv 2) pa_nil)) pa_nil)))
        (pa_cons (pe_f G3 hr1 (pa_cons (pv 0) (pa_cons (pe_b call_len_seq T.len boot_len (pa_cons (pe_ix ix_list (pv 2) pe_int (fun _ _ => rfl)) pa_nil)) pa_nil))) pa_nil))))
      (pss_cons (ps_set (i := 6) nd rfl (Or.inl rfl) (pe_f G5 hr (pa_cons (pv 0) (pa_cons (pe_f G4 hr1 (pa_cons (pv 2) (pa_cons (pv 5) pa_nil))) (pa_cons (pe_ix ix_list (pe_ix ix_list (pv 2) (pe_ix ix_tup (pv 5) pe_int (fun _ _ => rfl)) (fun _ _ => rfl)) (pe_ix ix_tup (pv 5) pe_int (fun _ _ => rfl)) (fun _ _ => rfl)) pa_nil)))))
      (pss_cons A5 (pss_cons A6 (pss_cons A7 (pss_one (ps_ret (pe_tup (pa_cons (pv 5) (pa_cons (pv 6) pa_nil)))))))))))), ?_⟩
    clear A5 A6 A7
    have nTs : Ta ≠ st := fun z => hTS (by rw [z]; exact hS)
    have nps : ∀ p ∈ qs, p.1 ≠ st := fun p hp z => hpS p hp (by rw [z]; exact hS)
    refine ⟨_, rfl, D, _, rfl, SqT.of hD, rfl, _, _, rfl, _, _, rfl, rfl, ?_⟩
    refine ⟨_, rfl, st, 8, rfl, by decide, by decide, hst, fun wy H1 wy0 wy1 b1 st1 => ?_⟩
    refine ⟨_, rfl, _, _, rfl, rfl, _, rfl, ite2 (fun _ => q .non H1 b1 st1 (.inl rfl)) (fun _ => ?_)⟩
    have hT1 := hT.but nTs nps b1
    refine ⟨_, rfl, _, rfl, Ta, _, rfl, .inl hT1.sq, st, _, rfl, ?_, ?_, st1, fun d1 H2 d10 d11 b2 st2 => ?_⟩
    · rw [List.length_map]; omega
    · rw [List.length_map]; omega
    rw [List.length_map] at d11
    have hT2 := hT1.but nTs nps b2
    refine ⟨_, rfl, _, rfl, Ta, _, 0, .ref p0.1, rfl, rfl, hT2.sq, atI_nat (j := 0) (by rw [List.getElem?_map, hx0]; rfl), p0.1, _, rfl, .inl (hT2.r p0 hm0).sq, st, _, rfl, ?_, ?_, st2, fun d2 H3 d20 d21 b3 st3 => ?_⟩
    · rw [List.length_map, g.len p0 hm0]; omega
    · rw [List.length_map, g.len p0 hm0]; omega
    rw [List.length_map, g.len p0 hm0] at d21
    refine ⟨len2, fun c hc => ?_⟩
    obtain ⟨i, rfl⟩ : ∃ i : Nat, d1 = (i : Int) := ⟨d1.toNat, (Int.toNat_of_nonneg d10).symm⟩
    obtain ⟨j, rfl⟩ : ∃ j : Nat, d2 = (j : Int) := ⟨d2.toNat, (Int.toNat_of_nonneg d20).symm⟩
    have hi : i < qs.length := by omega
    have hj : j < w0 qs := by omega
    have j0 : (abQ st S0 H).J H := ⟨hst, But.refl _ _, hlive⟩
    have j3 : (abQ st S0 H).J H3 := abQ.step (abQ.step (abQ.step j0 b1 st1) b2 st2) b3 st3
    have ncS : c ∉ S0 := fun z => j3.2.2 c z hc
    have s4 := Same.new (o := .tup [.int (i : Nat), .int (j : Nat)]) hc
    have hc4 : Cell (upd H3 c (.tup [.int (i : Nat), .int (j : Nat)])) c i j := upd_same
    generalize upd H3 c (.tup [.int (i : Nat), .int (j : Nat)]) = H4 at s4 hc4 ⊢
    have j4 := (abQ st S0 H).same j3 s4
    have hT4 := (hT2.but nTs nps b3).same s4
    clear hT1 hT2 b1 b2 b3 j3 j0
    obtain ⟨p, hp1, hp2, hp3⟩ := rowAt_mem (prs := qs) (i := i) hi
    refine ⟨_, rfl, _, rfl, _, rfl, Ta, c, qs, i, j, rfl, hT4, hg, hc4, hi, hj, fun r H5 hr5 s5' er => ?_⟩
    have hT5 := hT4.same s5'
    have hc5 : Cell H5 c i j := s5' _ _ hc4
    have j5 := (abQ st S0 H).same j4 s5'
    have hrok : Rok (qs.map (·.2)) := rok_of (by rw [← rowsOk_of rfl]; exact hg)
    refine ⟨_, rfl, _, rfl, c, _, 0, .int (i : Nat), rfl, rfl, SqT.of hc5, rfl, Ta, _, _, .ref p.1, rfl, rfl, hT5.sq, atI_nat (by rw [List.getElem?_map, hp2]; rfl), _, rfl, c, _, 1, .int (j : Nat), rfl, rfl, SqT.of hc5, rfl, p.1, _, _, .int (p.2.getD j 0), rfl, rfl, (hT5.r p hp1).sq, at_row (by rw [g.len p hp1]; omega), ?_⟩
    refine ⟨st, r, _, _, p.2.getD j 0, B, rfl, j5.1, er, fun m n' h1 h2 => ends_le hrok (by rw [List.length_map]; exact hi) (by rw [wR_w0]; exact hj) h1 h2, ?_, hB2, fun m hm => ahead_bnd hg hB1 hi hj hm, fun m hm => behind_bnd hg hB1 hi hj hm, fun x H6 b6 st6 xb => ?_⟩
    · have := cell_bnd hg hB1 hi hj
      rw [cellR_at, hp3] at this
      exact this
    have j6 := abQ.step j5 b6 st6
    have ncs : c ≠ st := fun z => ncS (by rw [z]; exact hS)
    have hc6 : Cell H6 c i j := b6 _ _ ncs hc5
    have hT6 := hT5.but nTs nps b6
    clear hT5 hc5 hT4 hc4 j4 j5 er s5' s4 hr5
    refine ⟨abQ st S0 H, ⟨⟨rfl, rfl⟩, .ref c, rfl, .tuple [.int (i : Nat), .int (j : Nat)], .tup hc6 ncS (.cons (.int _) (.cons (.int _) .nil)), ?_⟩, j6, fun ov H7 b7 j7 ho => ?_⟩
    · exact (sz_two (sz_small ⟨by omega, by omega⟩ g2 : Sz 41 0 (.int (i : Nat))) (sz_small ⟨by omega, by omega⟩ g4 : Sz 41 0 (.int (j : Nat)))).mono (by decide) (by decide)
    have hc7 : Cell H7 c i j := b7 _ _ ncS hc6
    have hT7 : Tab H7 Ta qs := ⟨b7 _ _ hTS hT6.l, fun p hp => b7 _ _ (hpS p hp) (hT6.r p hp)⟩
    clear hT6 hc6 b7
    refine gname_in ?_
    dsimp only
    refine if_both' (fun N => ∀ H8 cv o8 o9 o10, (abQ st S0 H).J H8 → CvOk S0 qs.length (w0 qs) H8 cv → N [some (.ref st), some (.ref D), some (.ref Ta), some (.ref Ea), some (.int wy), some cv, some (.int x), some ov, o8, o9, o10] H8) (fun H8 cv o8 o9 o10 j8 hcv => ?_) (fun key => ?_)
    · refine if_both' (fun N => ∀ H9 xv, (abQ st S0 H).J H9 → CvOk S0 qs.length (w0 qs) H9 cv → ((∃ x : Int, xv = .int x ∧ x.natAbs ≤ B + 1) ∨ ∃ d, RdS S0 H9 xv d ∧ BadX d) → N [some (.ref st), some (.ref D), some (.ref Ta), some (.ref Ea), some (.int wy), some cv, some xv, some ov, o8, o9, o10] H9) (fun H9 xv j9 hcv9 hxv => ?_) (fun key => ?_)
      · refine ⟨_, rfl, _, rfl, len2, fun Dd hDd => ?_⟩
        have s10 := Same.new (o := .tup [cv, xv]) hDd
        have j10 := (abQ st S0 H).same j9 s10
        refine q _ _ j10.2.1 j10.1 (.inr ⟨Dd, cv, xv, rfl, upd_same, (fun z => j9.2.2 _ z hDd), ?_, hcv9.but (Same.butS s10)⟩)
        rcases hxv with h | ⟨d, r, z⟩
        · exact .inl h
        · exact .inr ⟨d, r.same s10, z⟩
      · have good : ∀ H9, (abQ st S0 H).J H9 → ButS S0 H8 H9 → _ := fun H9 j9 b9 => key H9 (.int x) j9 (hcv.but b9) (.inl ⟨x, rfl, xb⟩)
        have bad : ∀ (H9 : Hp) (Q9 : VK), (abQ st S0 H).J H9 → ButS S0 H8 H9 → (∀ v H', ButS S0 H9 H' → (abQ st S0 H).J H' → tD BadX (abQ st S0 H) v H' → Q9 v H') → tA ΓX (tD BadX) [some (.ref st), some (.ref D), some (.ref Ta), some (.ref Ea), some (.int wy), some cv, some (.int x), some ov, o8, o9, o10] H9 Q9 := fun H9 Q9 j9 b9 k => ⟨abQ st S0 H, ⟨⟨rfl, rfl⟩, .int x, rfl, .int x, .int x, x, rfl, by omega⟩, j9, k⟩
        refine ⟨_, rfl, rfl, _, rfl, ?_⟩
        by_cases h3 : V.int wy = V.int 3
        · refine iteDt h3 (bad H8 _ j8 (ButS.refl _ _) fun v H9 b9 j9 ⟨d, r, z⟩ => key H9 v j9 (hcv.but b9) (.inr ⟨d, r, z⟩))
        · refine iteDf h3 ⟨_, rfl, rfl, _, rfl, ?_⟩
          by_cases h2 : V.int wy = V.int 2
          · refine iteDt h2 ⟨_, rfl, st, 2, rfl, by decide, by decide, j8.1, fun d9 H9 d90 d91 b9 st9 => ⟨rfl, _, rfl, ?_⟩⟩
            have j9 := abQ.step j8 b9 st9
            have bs9 : ButS S0 H8 H9 := fun y o n e => b9 y o (fun z => n (by rw [z]; exact hS)) e
            by_cases h0 : V.int d9 = V.int 0
            · refine iteDt h0 (bad H9 _ j9 bs9 fun v H10 b10 j10 ⟨d, r, z⟩ => key H10 v j10 (hcv.but (bs9.trans b10)) (.inr ⟨d, r, z⟩))
            · exact iteDf h0 (good H9 j9 bs9)
          · exact iteDf h2 (iteF (good H8 j8 (ButS.refl _ _)))
    · refine ⟨_, rfl, rfl, _, rfl, ?_⟩
      by_cases h2 : V.int wy = V.int 2
      · refine iteDt h2 ?_
        refine ⟨_, rfl, c, _, rfl, SqT.of hc7, rfl, _, _, rfl, _, _, rfl, rfl, ?_⟩
        have vi : ∀ {H' : Hp} {k m : Nat}, k < m → tD (IP fun z => 0 ≤ z ∧ z < (m : Nat)) (abQ st S0 H) (.int (k : Nat)) H' := fun h => ⟨_, .int _, _, rfl, by omega, by omega⟩
        refine ⟨abQ st S0 H, ⟨⟨rfl, rfl⟩, ⟨rfl, hT7⟩, ⟨ov, rfl, ho⟩, ⟨_, rfl, vi hi⟩, ⟨_, rfl, vi hj⟩⟩, j7, fun cv1 H8 b8 j8 hL1 => ?_⟩
        have hT8 : Tab H8 Ta qs := ⟨b8 _ _ hTS hT7.l, fun p hp => b8 _ _ (hpS p hp) (hT7.r p hp)⟩
        have ho8 := st_d _ _ _ _ ho b8
        refine ⟨abQ st S0 H, ⟨⟨⟨rfl, rfl⟩, ⟨rfl, hT8⟩, ⟨ov, rfl, ho8⟩, ⟨_, rfl, vi hi⟩, ⟨_, rfl, vi hj⟩⟩, ⟨cv1, rfl, hL1⟩⟩, j8, fun cv2 H9 b9 j9 hL2 => ?_⟩
        have hT9 : Tab H9 Ta qs := ⟨b9 _ _ hTS hT8.l, fun p hp => b9 _ _ (hpS p hp) (hT8.r p hp)⟩
        have ho9 := st_d _ _ _ _ ho8 b9
        refine ⟨abQ st S0 H, ⟨⟨⟨rfl, rfl⟩, ⟨rfl, hT9⟩, ⟨ov, rfl, ho9⟩, ⟨_, rfl, vi hi⟩, ⟨_, rfl, vi hj⟩⟩, ⟨cv2, rfl, hL2⟩⟩, j9, fun cv3 H10 b10 j10 ⟨d, r, z⟩ => ?_⟩
        exact key H10 cv3 _ _ _ j10 (.inl ⟨d, r, z⟩)
      · exact iteDf h2 (key H7 (.ref c) none none none j7 (.inr ⟨c, i, j, rfl, hc7, ncS, hi, hj⟩))
end
theorem tab_set {H : Hp} {t : Addr} {qs : Prs} {i : Nat} (j : Nat) (x : Int) (hT : Tab H t qs) (hnd : (qs.map (·.1)).Nodup) (hne : ∀ p ∈ qs, p.1 ≠ t) (hi : i < qs.length) :
    Tab (upd H qs[i].1 (.lst ((qs[i].2.map V.int).set j (.int x)))) t (qs.set i (qs[i].1, qs[i].2.set j x)) ∧ (qs.set i (qs[i].1, qs[i].2.set j x)).map (·.2) = setR (qs.map (·.2)) i j x ∧ ∀ p ∈ qs.set i (qs[i].1, qs[i].2.set j x), ∃ q ∈ qs, p.1 = q.1 := by
  have hqi : qs[i]? = some qs[i] := List.getElem?_eq_getElem hi
  have mqi : qs[i] ∈ qs := List.getElem_mem hi
  rw [← List.map_set]
  have key : ∀ b o, b ≠ qs[i].1 → H b = some o → (upd H qs[i].1 (.lst ((qs[i].2.set j x).map V.int))) b = some o := fun b o n e => by rw [upd_ne n]; exact e
  refine ⟨⟨?_, fun p hp => ?_⟩, ?_, fun p hp => ?_⟩
  · have : (qs.set i (qs[i].1, qs[i].2.set j x)).map (fun p => V.ref p.1) = qs.map fun p => V.ref p.1 := by
      rw [List.map_set]
      refine List.ext_getElem? fun k => ?_
      rw [List.getElem?_set]
      split
      · next h =>
        subst h
        rw [List.length_map, if_pos hi, List.getElem?_map, hqi]
        rfl
      · rfl
    rw [this]
    exact key _ _ (fun z => hne _ mqi z.symm) hT.l
  · obtain ⟨k, hk⟩ := List.mem_iff_getElem?.mp hp
    rw [List.getElem?_set] at hk
    by_cases h : i = k
    · rw [if_pos h, if_pos hi] at hk
      rw [← Option.some.inj hk]
      exact upd_same
    · rw [if_neg h] at hk
      have hkl := (List.getElem?_eq_some_iff.mp hk).1
      refine key _ _ (fun e => h ?_) (hT.r p (List.mem_of_getElem? hk))
      exact ((List.getElem?_inj (l := qs.map (·.1)) (by rw [List.length_map]; exact hkl) hnd).mp (by rw [List.getElem?_map, List.getElem?_map, hk, hqi]; simp [e])).symm
  · rw [List.map_set]
    unfold setR
    rw [show (qs.map (·.2)).getD i [] = qs[i].2 by
      rw [List.getD_eq_getElem?_getD, List.getElem?_map, hqi]
      rfl]
  · rcases List.mem_or_eq_of_mem_set hp with z | z
    · exact ⟨p, z, rfl⟩
    · rw [z]
      exact ⟨qs[i], mqi, rfl⟩
theorem atI_end {α : Type} (xs : List α) (v : α) : atI (xs ++ [v]) (-1) = some v := atI_last (by simp)
theorem cut_but (xs : List V) (v : V) : cutV (xs ++ [v]) none (some (-1)) = xs := by
  have e : HT.sIx (xs ++ [v]).length (xs ++ [v]).length (some (-1)) = xs.length := by
    simp [HT.sIx]
    omega
  unfold cutV
  rw [e, HT.sIx_none, List.drop_zero, Nat.sub_zero]
  simp
theorem if_all {tc : TT} {t t' u : TS} {D : Ends} {σ0 : L2.St} {H0 : Hp} (C : (L2.St → Hp → Prop) → Prop) (h : C (u D)) (hA : C (u D) → tc σ0 H0 (fun b H1 => if b = true then t { D with nx := u D } σ0 H1 else t' { D with nx := u D } σ0 H1)) : tSeq (tIfS tc t t') u D σ0 H0 := hA h
theorem ahead_set {rows : List (List Int)} {i j : Nat} (x : Int) (h : Rok rows) (hi : i < rows.length) (hj : j < wR rows) : aheadL (setR rows i j x) i j = aheadL rows i j := by
  have hjl : j < (rows.getD i []).length := by rw [h.len i hi]; exact hj
  unfold aheadL
  rw [cellR_set x hi hjl, cellR_set x hi hjl]
  by_cases h1 : 0 < i <;> by_cases h2 : 0 < j <;> simp [h1, h2] <;> omega
theorem behind_set {rows : List (List Int)} {i j : Nat} (x : Int) (h : Rok rows) (hi : i < rows.length) (hj : j < wR rows) : behindL (setR rows i j x) i j = behindL rows i j := by
  have hjl : j < (rows.getD i []).length := by rw [h.len i hi]; exact hj
  unfold behindL
  rw [cellR_set x hi hjl, cellR_set x hi hjl, setR_len, setR_wR j x hi]
  by_cases h1 : i + 1 < rows.length <;> by_cases h2 : j + 1 < wR rows <;> simp [h1, h2]
theorem fits_betw {rows : List (List Int)} {i j : Nat} {x : Int} (h : Rok rows) (hi : i < rows.length) (hj : j < wR rows) (g : Rok (setR rows i j x)) : Betw (aheadL rows i j).max? (behindL rows i j).min? x := by
  have hjl : j < (rows.getD i []).length := by rw [h.len i hi]; exact hj
  have ex : cellR (setR rows i j x) i j = x := by rw [cellR_set x hi hjl, if_pos ⟨rfl, rfl⟩]
  have hi' : i < (setR rows i j x).length := by rw [setR_len]; exact hi
  have hj' : j < wR (setR rows i j x) := by rw [setR_wR j x hi]; exact hj
  refine ⟨fun m hm => ?_, fun m hm => ?_⟩
  · have := ahead_le g hi' hj' (by rw [ahead_set x h hi hj]; exact (List.max?_eq_some_iff.mp hm).1)
    rw [ex] at this
    exact this
  · have := behind_ge g hi' hj' (by rw [behind_set x h hi hj]; exact (List.min?_eq_some_iff.mp hm).1)
    rw [ex] at this
    exact this
theorem no_fit {rows : List (List Int)} {i j : Nat} {x : Int} (h : Rok rows) (hi : i < rows.length) (hj : j < wR rows) (b : ¬ Betw (aheadL rows i j).max? (behindL rows i j).min? x) : rowsOk (setR rows i j x) = false := by
  cases e : rowsOk (setR rows i j x) with
  | false => rfl
  | true => exact absurd (fits_betw h hi hj (rok_of e)) b
structure Sta (S : List Addr) (H : Hp) (D T Ea : Addr) (qs : Prs) (ech : Ch) : Prop where
  d : H D = some (.tup [.ref T, .ref Ea])
  tb : Tab H T qs
  ok : tabB qs = true
  e : H Ea = some (.lst (ech.map fun c => V.ref c.1))
  ch : ∀ c ∈ ech, H c.1 = some (.tup [.ref c.2.1, .int c.2.2.2.2]) ∧ Cell H c.2.1 c.2.2.1 c.2.2.2.1 ∧ c.2.2.1 < qs.length ∧ c.2.2.2.1 < w0 qs
  len : ech.length ≤ 100
  dS : D ∉ S
  tS : T ∉ S
  eS : Ea ∉ S
  pS : ∀ p ∈ qs, p.1 ∉ S
  cS : ∀ c ∈ ech, c.1 ∉ S ∧ c.2.1 ∉ S
theorem Sta.but {S : List Addr} {H H' : Hp} {D T Ea : Addr} {qs : Prs} {ech : Ch} (h : Sta S H D T Ea qs ech) (b : ButS S H H') : Sta S H' D T Ea qs ech :=
  ⟨b _ _ h.dS h.d, ⟨b _ _ h.tS h.tb.l, fun p hp => b _ _ (h.pS p hp) (h.tb.r p hp)⟩, h.ok, b _ _ h.eS h.e, fun c hc => let ⟨z1, z2, z3⟩ := h.ch c hc; ⟨b _ _ (h.cS c hc).1 z1, b _ _ (h.cS c hc).2 z2, z3⟩, h.len, h.dS, h.tS, h.eS, h.pS, h.cS⟩
def dCh (c : Addr × Addr × Nat × Nat × Int) : PyData := .tuple [.tuple [.int c.2.2.1, .int c.2.2.2.1], .int c.2.2.2.2]
theorem ch_rds {K : PySem.W.Frag} {H : Hp} : ∀ {ech : Ch}, (∀ c ∈ ech, H c.1 = some (.tup [.ref c.2.1, .int c.2.2.2.2]) ∧ Cell H c.2.1 c.2.2.1 c.2.2.2.1) → RdAll K H (ech.map fun c => V.ref c.1) (ech.map dCh)
  | [], _ => .nil
  | c :: r, h => .cons (.tup (SqT.of (h c (.head _)).1) (.cons (.tup (SqT.of (h c (.head _)).2) (.cons (.int _) (.cons (.int _) .nil))) (.cons (.int _) .nil))) (ch_rds fun d hd => h d (.tail _ hd))
theorem Sta.rd {K : PySem.W.Frag} {S : List Addr} {H : Hp} {D T Ea : Addr} {qs : Prs} {ech : Ch} (h : Sta S H D T Ea qs ech) : RdD K H (.ref Ea) (.list (ech.map dCh)) := .lst (SqL.of h.e) (ch_rds fun c hc => ⟨(h.ch c hc).1, (h.ch c hc).2.1⟩)
theorem lay_chs : ∀ ech : Ch, PyData.canLayAll0 (ech.map dCh) = true ∧ PyData.depthAll (ech.map dCh) ≤ 2
  | [] => ⟨rfl, Nat.zero_le _⟩
  | c :: r => by
    have h := lay_chs r
    refine ⟨?_, ?_⟩
    · rw [List.map_cons]
      simp only [dCh, PyData.canLayAll0, PyData.canLay0, h.1, Bool.and_self]
    · have h2 := h.2
      show max 2 (PyData.depthAll (r.map dCh)) ≤ 2
      omega
theorem shaped_chs (ech : Ch) : SeqAt.shaped (.list (ech.map dCh)) = true := by
  have h := lay_chs ech
  have h2 := h.2
  show (PyData.canLay0 (.list (ech.map dCh)) && decide (PyData.depth (.list (ech.map dCh)) ≤ 64)) = true
  rw [Bool.and_eq_true]
  exact ⟨by simp only [PyData.canLay0]; exact h.1, decide_eq_true (by simp only [PyData.depth]; omega)⟩
def NewSt (H : Hp) (Q : VK) (rows : List (List Int)) (W : Ch → Hp → Prop) (x y : Int) : Prop := ∀ r T2 qs2 E2 ech2 tA H', Same H H' → H r = none → H T2 = none → (∀ p ∈ qs2, H p.1 = none) → H E2 = none → H tA = none →
  H' r = some (.tup [.ref T2, .ref E2, .ref tA]) → Tab H' T2 qs2 → qs2.map (·.2) = rows → H' E2 = some (.lst (ech2.map fun c => V.ref c.1)) → H' tA = some (.tup [.int x, .int y]) → W ech2 H' → Q (.ref r) H'
def spDue : Sp := fun vs H Q _ => ∃ (D T Ea : Addr) (qs : Prs) (ech : Ch) (v : V), vs = [.ref D, v] ∧ Sta [] H D T Ea qs ech ∧
  ((v = .non ∧ ((ech = [] ∧ ∀ H', Same H H' → Q (.str "change") H') ∨ ∃ e0 u c i j b, ech = e0 ++ [(u, c, i, j, b)] ∧ NewSt H Q (setR (qs.map (·.2)) i j b) (fun e _ => e = e0) (cellR (qs.map (·.2)) i j) b)) ∨
  ∃ (Dd : Addr) (cv xv : V), v = .ref Dd ∧ H Dd = some (.tup [cv, xv]) ∧
    ((∃ d, RdS [] H cv d ∧ Sz 1000000 60 d ∧ cellD qs.length (w0 qs) d = false ∧ ∀ H', Same H H' → Q (.str "cell") H') ∨
    ∃ (c : Addr) (i j : Nat), cv = .ref c ∧ Cell H c i j ∧ i < qs.length ∧ j < w0 qs ∧
      ((∃ d, RdS [] H xv d ∧ isIntD d = false ∧ ∀ H', Same H H' → Q (.str "number") H') ∨
      ∃ x, xv = .int x ∧ ((¬ Betw (aheadL (qs.map (·.2)) i j).max? (behindL (qs.map (·.2)) i j).min? x ∧ ∀ H', Same H H' → Q (.str "fit") H') ∨
        (Betw (aheadL (qs.map (·.2)) i j).max? (behindL (qs.map (·.2)) i j).min? x ∧ NewSt H Q (setR (qs.map (·.2)) i j x) (fun e H' => ∃ u, H u = none ∧ e = ech ++ [(u, c, i, j, cellR (qs.map (·.2)) i j)] ∧ H' u = some (.tup [.ref c, .int (cellR (qs.map (·.2)) i j)])) (cellR (qs.map (·.2)) i j) x)))))
abbrev dueN : List Str := ["state", "deed", "table", "early", "cell", "x", "rest", "low", "high", "later"]
theorem sc_due : FnScope dueN ["state", "deed"] (defScope dDue) := ⟨rfl, rfl, rfl, by decide +kernel, rfl, by decide +kernel, by decide +kernel⟩
section
variable {P : Program} {w : World} {K : PySem.W.Frag} {mg : Str → Option Value} {base : Heap} {C : Addr}
set_option maxHeartbeats 8000000 in
theorem ok_due (T : Blt mg) (Df : DefAt K mg "_law_due" dDue ["state", "deed"]) (G1 : FnAt P w K mg base 2 "_law_is_cell" ["table", "thing"] spIsCellA) (G2 : FnAt P w K mg base 1 "_law_is_whole" ["thing"] spIsWholeA) (G3 : FnAt P w K mg base 1 "_law_span" ["table", "cell"] spSpan) : FnAt P w K mg base 3 "_law_due" ["state", "deed"] spDue := by
  refine FnAt.of Df sc_due (fun vs H Q E h => ?_) (fun f cdv A outer s H vs Q E hr h => ?_)
  · obtain ⟨D, Ta, Ea, qs, ech, v, rfl, _⟩ := h
    rfl
  · obtain ⟨D, Ta, Ea, qs, ech, v, rfl, hS, h⟩ := h
    have nd := sc_due.nd
    have nd1 : (["row"] : List Str).Nodup := by decide +kernel
    have hr1 : Room 1 _ := hr.mono (show 1 ≤ 2 by decide)
    obtain ⟨g, g1, g2, g3, g4⟩ := good_of hS.ok
    refine ⟨_, pss_cons (ps_asg (pv 0) (pg_tup rfl (pgs_cons (pg_name (i := 2) nd rfl (Or.inl rfl)) (pgs_cons (pg_name (i := 3) nd rfl (Or.inl rfl)) pgs_nil))))
      (pss_cons (ps_if (pt_cmpR op_isN (pv 1) pe_non (nomark _))
        (pss_cons (ps_if (pt_cmpR (op_eqD hr.units) (pv 3) (pe_lst pa_nil) (nomark _)) (pss_one (ps_ret pe_str)) pss_nil)
          (pss_cons (ps_asg (pe_ix ix_list (pv 3) (pe_un o_neg pe_int) (fun _ _ => rfl)) (pg_tup rfl (pgs_cons (pg_name (i := 4) nd rfl (Or.inl rfl)) (pgs_cons (pg_name (i := 5) nd rfl (Or.inl rfl)) pgs_nil))))
          (pss_one (ps_set (i := 6) nd rfl (Or.inl rfl) (pe_slice sl_list (pv 3) po_none (po_some (pe_un o_neg pe_int)))))))
        (pss_cons (ps_asg (pv 1) (pg_tup rfl (pgs_cons (pg_name (i := 4) nd rfl (Or.inl rfl)) (pgs_cons (pg_name (i := 5) nd rfl (Or.inl rfl)) pgs_nil))))
          (pss_cons (ps_if (pt_not (pt_val (pe_f G1 hr (pa_cons (pv 2) (pa_cons (pv 4) pa_nil))))) (pss_one (ps_ret pe_str)) pss_nil)
          (pss_cons (ps_if (pt_not (pt_val (pe_f G2 hr1 (pa_cons (pv 5) pa_nil)))) (pss_one (ps_ret pe_str)) pss_nil)
          (pss_cons (ps_asg (pe_f G3 hr1 (pa_cons (pv 2) (pa_cons (pv 4) pa_nil))) (pg_tup rfl (pgs_cons (pg_name (i := 7) nd rfl (Or.inl rfl)) (pgs_cons (pg_name (i := 8) nd rfl (Or.inl rfl)) pgs_nil))))
          (pss_cons (ps_if (PW.pt (pw_or (PW.pt (pw_and (pt_cmpR op_notN (pv 7) pe_non (nomark _)) (pw_and1 (pt_cmpR o_lt (pv 5) (pv 7) (nomark _))))) (pw_or1 (PW.pt (pw_and (pt_cmpR op_notN (pv 8) pe_non (nomark _)) (pw_and1 (pt_cmpR o_gt (pv 5) (pv 8) (nomark _)))))))) (pss_one (ps_ret pe_str)) pss_nil)
          (pss_one (ps_set (i := 6) nd rfl (Or.inl rfl) (pe_op op_cat (pv 3) (pe_lst (pa_cons (pe_tup (pa_cons (pv 4) (pa_cons (pe_ix ix_list (pe_ix ix_list (pv 2) (pe_ix ix_tup (pv 4) pe_int (fun _ _ => rfl)) (fun _ _ => rfl)) (pe_ix ix_tup (pv 4) pe_int (fun _ _ => rfl)) (fun _ _ => rfl)) pa_nil))) pa_nil)))))))))))
      (pss_cons (ps_setC ["row"] [none] (defScope dDue) dueN (i := 9) nd rfl (Or.inl rfl) rfl (pi_list (pv 2)) (by decide +kernel) (fun cl C s2 H2 ex => pg_c 0 nd1) (fun cl C s2 H2 ex => pifs_nil) (fun cl C s2 H2 ex => pe_t (listK K) T.list boot_list (pa_cons (pv 0) pa_nil)))
      (pss_cons (ps_asg (pv 5) (pg_sub (pe_ix ix_list (pv 9) (pe_ix ix_tup (pv 4) pe_int (fun _ _ => rfl)) (fun _ _ => rfl)) (pe_ix ix_tup (pv 4) pe_int (fun _ _ => rfl)) set_list))
      (pss_one (ps_ret (pe_tup (pa_cons (pv 9) (pa_cons (pv 6) (pa_cons (pe_tup (pa_cons (pe_ix ix_list (pe_ix ix_list (pv 2) (pe_ix ix_tup (pv 4) pe_int (fun _ _ => rfl)) (fun _ _ => rfl)) (pe_ix ix_tup (pv 4) pe_int (fun _ _ => rfl)) (fun _ _ => rfl)) (pa_cons (pv 5) pa_nil))) pa_nil))))))))), ?_⟩
    refine ⟨_, rfl, D, _, rfl, SqT.of hS.d, rfl, _, _, rfl, _, _, rfl, rfl, ?_⟩
    dsimp only
    refine if_all (fun N => ∀ H1 c i j x R ech2 (W : Ch → Hp → Prop) o7 o8, Same H H1 → Cell H1 c i j → i < qs.length → j < w0 qs → H R = none → H1 R = some (.lst (ech2.map fun c => V.ref c.1)) → (∀ H2, Same H1 H2 → W ech2 H2) → NewSt H Q (setR (qs.map (·.2)) i j x) W (cellR (qs.map (·.2)) i j) x → N [some (.ref D), some v, some (.ref Ta), some (.ref Ea), some (.ref c), some (.int x), some (.ref R), o7, o8, none] H1) (fun H1 c i j x R ech2 W o7 o8 s1 hc hi hj hR eR hW qf => ?_) (fun key => ?_)
    · have hT1 := hS.tb.same s1
      obtain ⟨p, hp1, hp2, hp3⟩ := rowAt_mem (prs := qs) (i := i) hi
      refine ⟨_, rfl, Ta, rfl, ⟨_, hT1.sq⟩, comp_objsL (fun p : Addr × List Int => V.ref p.1) (fun p => .lst (p.2.map V.int)) hT1.sq (by omega) (fun p hp H' Q' sm q' => ⟨_, rfl, p.1, _, rfl, .inl ((hT1.same sm).r p hp).sq, fun l hl => q' l _ hl (Same.new hl) upd_same⟩) fun M ms H2 hM hqm hnd hq s2 eM => ?_⟩
      have hTM : Tab H2 M (ms.map fun x => (x.1, x.2.2)) := by
        refine ⟨?_, fun p hp => ?_⟩
        · rw [eM, List.map_map]
          rfl
        · obtain ⟨x, hx, rfl⟩ := List.mem_map.mp hp
          exact (hq x hx).1
      have hrM : (ms.map fun x => (x.1, x.2.2)).map (·.2) = qs.map (·.2) := by
        rw [List.map_map, ← hqm, List.map_map]
        rfl
      have hndM : ((ms.map fun x => (x.1, x.2.2)).map (·.1)).Nodup := by
        rw [List.map_map]
        exact hnd
      have hqM : ∀ p ∈ ms.map (fun x => (x.1, x.2.2)), H1 p.1 = none ∧ p.1 ≠ M := fun p hp => by
        obtain ⟨x, hx, rfl⟩ := List.mem_map.mp hp
        exact ⟨(hq x hx).2.1, (hq x hx).2.2⟩
      generalize (ms.map fun x => (x.1, x.2.2)) = qM at hTM hrM hndM hqM
      clear hqm hnd hq eM
      have lM : qM.length = qs.length := by
        have := congrArg List.length hrM
        simpa using this
      have hiM : i < qM.length := by omega
      have mM : qM[i] ∈ qM := List.getElem_mem hiM
      have hgM : tabB qM = true := by rw [tabB_rows hrM]; exact hS.ok
      have wM : qM[i].2.length = w0 qs := by
        obtain ⟨g', _⟩ := good_of hgM
        rw [g'.len _ mM, ← wR_w0, ← wR_w0, hrM]
      have hc2 : Cell H2 c i j := s2 _ _ hc
      refine ⟨_, rfl, _, rfl, _, rfl, c, _, 0, .int (i : Nat), rfl, rfl, SqT.of hc2, rfl, M, _, _, .ref qM[i].1, rfl, rfl, hTM.sq, atI_nat (by rw [List.getElem?_map, List.getElem?_eq_getElem hiM]; rfl), _, rfl, c, _, 1, .int (j : Nat), rfl, rfl, SqT.of hc2, rfl, qM[i].1, _, _, j, rfl, rfl, hTM.r qM[i] mM, ?_, ?_⟩
      · rw [List.length_map, wM]
        unfold ixN
        rw [if_pos (by omega), if_pos (by omega), Int.toNat_natCast]
      obtain ⟨hT3, hr3, hp3'⟩ := tab_set j x hTM hndM (fun p hp => (hqM p hp).2) hiM
      have s3 : Same H1 (upd H2 qM[i].1 (.lst ((qM[i].2.map V.int).set j (.int x)))) := s2.upd (hqM _ mM).1
      generalize upd H2 qM[i].1 (.lst ((qM[i].2.map V.int).set j (.int x))) = H3 at hT3 s3 ⊢
      rw [hrM] at hr3
      have hq3 : ∀ p ∈ qM.set i (qM[i].1, qM[i].2.set j x), H1 p.1 = none := fun p hp => by
        obtain ⟨y, hy, e⟩ := hp3' p hp
        rw [e]
        exact (hqM y hy).1
      generalize qM.set i (qM[i].1, qM[i].2.set j x) = q3 at hT3 hr3 hq3
      have hc3 : Cell H3 c i j := s3 _ _ hc
      have hTa3 := hT1.same s3
      refine ⟨_, rfl, _, rfl, _, rfl, _, rfl, c, _, 0, .int (i : Nat), rfl, rfl, SqT.of hc3, rfl, Ta, _, _, .ref p.1, rfl, rfl, hTa3.sq, atI_nat (by rw [List.getElem?_map, hp2]; rfl), _, rfl, c, _, 1, .int (j : Nat), rfl, rfl, SqT.of hc3, rfl, p.1, _, _, .int (p.2.getD j 0), rfl, rfl, (hTa3.r p hp1).sq, at_row (by rw [g.len p hp1]; omega), _, rfl, len2, fun tA htA => ⟨len3, fun r hr' => ?_⟩⟩
      have ec : p.2.getD j 0 = cellR (qs.map (·.2)) i j := by rw [cellR_at, hp3]
      have s4 := Same.new (o := .tup [.int (p.2.getD j 0), .int x]) htA
      have e4 : (upd H3 tA (.tup [.int (p.2.getD j 0), .int x])) tA = some (.tup [.int (p.2.getD j 0), .int x]) := upd_same
      generalize upd H3 tA (.tup [.int (p.2.getD j 0), .int x]) = H4 at s4 e4 hr' ⊢
      have s5 := Same.new (o := .tup [.ref M, .ref R, .ref tA]) hr'
      have s15 := s3.trans (s4.trans s5)
      rw [ec] at e4
      exact qf r M q3 R ech2 tA _ (s1.trans s15) ((s1.trans (s3.trans s4)).free hr') (s1.free hM) (fun p hp => s1.free (hq3 p hp)) hR ((s1.trans s3).free htA) upd_same (hT3.same (s4.trans s5)) hr3 (s15 _ _ eR) (s5 _ _ e4) (hW _ s15)
    · refine ⟨_, rfl, rfl, _, rfl, ?_⟩
      rcases h with ⟨rfl, h⟩ | ⟨Dd, cv, xv, rfl, hDd, h⟩
      · refine iteDt rfl ?_
        refine ⟨_, rfl, len0, fun l hl => ⟨_, _, (hS.but (Same.butS (Same.new hl))).rd, .lst (SqL.of upd_same) .nil, shaped_chs _, rfl, _, rfl, ?_⟩⟩
        have s1 := Same.new (o := .lst []) hl
        generalize upd H l (.lst []) = H1 at s1 ⊢
        rcases h with ⟨rfl, q⟩ | ⟨e0, u, c, i, j, b, rfl, q⟩
        · exact iteT (q H1 s1)
        · have ene : PyData.eqv (.list ((e0 ++ [(u, c, i, j, b)]).map dCh)) (.list []) = false := by
            cases e0 <;> simp [PyData.eqv, PyData.eqvAll]
          rw [ene]
          have hS1 := hS.but (Same.butS s1)
          obtain ⟨hu, hc, hi, hj⟩ := hS1.ch (u, c, i, j, b) (List.mem_append_right _ (.head _))
          have eE := hS1.e
          rw [List.map_append] at eE
          refine iteF ⟨_, rfl, _, rfl, Ea, _, -1, .ref u, rfl, rfl, SqL.of eE, atI_end _ _, u, _, rfl, SqT.of hu, rfl, _, _, rfl, _, _, rfl, rfl, ?_⟩
          refine ⟨_, rfl, _, rfl, _, rfl, Ea, _, rfl, SqL.of eE, fun R hR => ?_⟩
          have s2 : Same H1 (upd H1 R (.lst (cutV (e0.map (fun c => V.ref c.1) ++ [.ref u]) none (some (-1))))) := Same.new hR
          refine key _ c i j b R e0 (fun e _ => e = e0) none none (s1.trans s2) (s2 _ _ hc) hi hj (s1.free hR) ?_ (fun _ _ => rfl) q
          rw [upd_same]
          exact congrArg (fun z => some (HO.lst z)) (cut_but _ _)
      · refine iteDf (fun z => nomatch z) ?_
        refine ⟨_, rfl, Dd, _, rfl, SqT.of hDd, rfl, _, _, rfl, _, _, rfl, rfl, ?_⟩
        rcases h with ⟨d, rd, sz, hno, q⟩ | ⟨c, i, j, rfl, hc, hi, hj, h⟩
        · refine ⟨_, rfl, _, rfl, Ta, qs, cv, d, rfl, hS.tb, hS.ok, rd, sz, fun H1 s1 => ⟨_, rfl, ?_⟩⟩
          rw [hno]
          exact iteT (q H1 s1)
        · have hcd : cellD qs.length (w0 qs) (.tuple [.int (i : Nat), .int (j : Nat)]) = true := cellD_yes ⟨⟨by omega, by omega⟩, by omega, by omega⟩
          refine ⟨_, rfl, _, rfl, Ta, qs, .ref c, .tuple [.int (i : Nat), .int (j : Nat)], rfl, hS.tb, hS.ok, .tup hc (by simp) (.cons (.int _) (.cons (.int _) .nil)), ?_, fun H1 s1 => ⟨_, rfl, ?_⟩⟩
          · exact (sz_two (sz_small ⟨by omega, by omega⟩ g2 : Sz 41 0 (.int (i : Nat))) (sz_small ⟨by omega, by omega⟩ g4 : Sz 41 0 (.int (j : Nat)))).mono (by decide) (by decide)
          rw [hcd]
          refine iteF ?_
          rcases h with ⟨d, rd, hno, q⟩ | ⟨x, rfl, h⟩
          · refine ⟨_, rfl, xv, d, rfl, rd.same s1, _, rfl, ?_⟩
            rw [hno]
            exact iteT (q H1 s1)
          · refine ⟨_, rfl, .int x, .int x, rfl, .int x, _, rfl, iteF ?_⟩
            have hc1 : Cell H1 c i j := s1 _ _ hc
            refine ⟨_, rfl, _, rfl, Ta, c, qs, i, j, rfl, hS.tb.same s1, hS.ok, hc1, hi, hj, fun r H2 hr2 s2 er => ?_⟩
            refine ⟨r, _, rfl, SqT.of er, rfl, _, _, rfl, _, _, rfl, rfl, ?_⟩
            clear er
            generalize hlo : (aheadL (qs.map (·.2)) i j).max? = lo at h ⊢
            generalize hhi : (behindL (qs.map (·.2)) i j).min? = hi' at h ⊢
            have s02 := s1.trans s2
            have good : Betw lo hi' x → NewSt H Q (setR (qs.map (·.2)) i j x) (fun e H' => ∃ u, H u = none ∧ e = ech ++ [(u, c, i, j, cellR (qs.map (·.2)) i j)] ∧ H' u = some (.tup [.ref c, .int (cellR (qs.map (·.2)) i j)])) (cellR (qs.map (·.2)) i j) x := fun hb => by
              rcases h with ⟨hno, _⟩ | ⟨_, q⟩
              · exact absurd hb hno
              · exact q
            have bad : ¬ Betw lo hi' x → Q (.str "fit") H2 := fun hb => by
              rcases h with ⟨_, q⟩ | ⟨hy, _⟩
              · exact q H2 s02
              · exact absurd hy hb
            clear h
            have hc2 : Cell H2 c i j := s2 _ _ hc1
            have hT2 := hS.tb.same s02
            have eE2 := s02 _ _ hS.e
            obtain ⟨p, hp1, hp2, hp3⟩ := rowAt_mem (prs := qs) (i := i) hi
            dsimp only
            refine if_both' (fun N => Betw lo hi' x → N [some (.ref D), some (.ref Dd), some (.ref Ta), some (.ref Ea), some (.ref c), some (.int x), none, some (oV lo), some (oV hi'), none] H2) (fun hb => ?_) (fun key2 => ?_)
            · refine ⟨_, rfl, _, rfl, _, rfl, _, rfl, c, _, 0, .int (i : Nat), rfl, rfl, SqT.of hc2, rfl, Ta, _, _, .ref p.1, rfl, rfl, hT2.sq, atI_nat (by rw [List.getElem?_map, hp2]; rfl), _, rfl, c, _, 1, .int (j : Nat), rfl, rfl, SqT.of hc2, rfl, p.1, _, _, .int (p.2.getD j 0), rfl, rfl, (hT2.r p hp1).sq, at_row (by rw [g.len p hp1]; omega), len2, fun u hu => ⟨len1, fun L hL => ?_⟩⟩
              have ec : p.2.getD j 0 = cellR (qs.map (·.2)) i j := by rw [cellR_at, hp3]
              have s3 := Same.new (o := .tup [.ref c, .int (p.2.getD j 0)]) hu
              have e3 : (upd H2 u (.tup [.ref c, .int (p.2.getD j 0)])) u = some (.tup [.ref c, .int (p.2.getD j 0)]) := upd_same
              generalize upd H2 u (.tup [.ref c, .int (p.2.getD j 0)]) = H3 at s3 e3 hL ⊢
              have s4 := Same.new (o := .lst [.ref u]) hL
              refine ⟨Ea, L, _, _, rfl, rfl, s4 _ _ (s3 _ _ eE2), upd_same, ?_, fun R hR => ?_⟩
              · have := hS.len
                rw [List.length_map, sizeLine_eq]
                show ech.length + 1 ≤ _
                omega
              have s5 : Same H2 (upd (upd H3 L (.lst [.ref u])) R (.lst (ech.map (fun c => V.ref c.1) ++ [.ref u]))) := s3.trans (s4.trans (Same.new hR))
              rw [ec] at e3
              refine key _ c i j x R (ech ++ [(u, c, i, j, cellR (qs.map (·.2)) i j)]) _ _ _ (s02.trans s5) (s5 _ _ hc2) hi hj ((s02.trans (s3.trans s4)).free hR) ?_ (fun H6 s6 => ⟨u, s02.free hu, rfl, s6 _ _ ((Same.new hR) _ _ (s4 _ _ e3))⟩) (good hb)
              rw [upd_same, List.map_append]
              rfl
            · refine ⟨_, rfl, rfl, _, rfl, ?_⟩
              cases lo with
              | none =>
                refine iteF (iteF ⟨_, rfl, rfl, _, rfl, ?_⟩)
                cases hi' with
                | none => exact iteF (iteF (key2 ⟨fun _ z => (nomatch z), fun _ z => nomatch z⟩))
                | some n =>
                  refine iteT ⟨_, rfl, _, rfl, _, _, rfl, rfl, _, rfl, ?_⟩
                  by_cases h2 : n < x
                  · exact iteDt h2 (bad fun z => by have := z.2 n rfl; omega)
                  · exact iteDf h2 (key2 ⟨fun _ z => (nomatch z), fun m z => by cases z; omega⟩)
              | some m =>
                refine iteT ⟨_, rfl, _, rfl, _, _, rfl, rfl, _, rfl, ?_⟩
                by_cases h1 : x < m
                · exact iteDt h1 (iteT (bad fun z => by have := z.1 m rfl; omega))
                · refine iteDf h1 ⟨_, rfl, rfl, _, rfl, ?_⟩
                  cases hi' with
                  | none => exact iteF (iteF (key2 ⟨fun _ z => by cases z; omega, fun _ z => nomatch z⟩))
                  | some n =>
                    refine iteT ⟨_, rfl, _, rfl, _, _, rfl, rfl, _, rfl, ?_⟩
                    by_cases h2 : n < x
                    · exact iteDt h2 (bad fun z => by have := z.2 n rfl; omega)
                    · exact iteDf h2 (key2 ⟨fun _ z => by cases z; omega, fun m z => by cases z; omega⟩)
end
end Seek
namespace L2
open PySem PySem.Spec PyProof.Rows
theorem ix_tupK {X : Cx} (K : PySem.W.Frag) (hK : X.K = K := by rfl) : IxR X (rIxT K) := by subst hK; exact ix_tup
end L2
namespace Seek
open PySem L2 PyProof.Rows
section
variable {P : Program} {w : World} {K : PySem.W.Frag} {mg : Str → Option Value} {base : Heap} {C S c1 c2 c7 c8 : Addr} {cs : List Addr}
theorem boot_str' : bootBuiltins "str" = some (.type "str") := by kernel_rfl
def GoesTo (H : Hp) (Q : VK) (C a dx l : Addr) (rows : List (List Int)) (W : Ch → Prop) (x y : Int) : Prop := ∀ t' prs' chs' r H', H t' = none → (∀ p ∈ prs', H p.1 = none) → (∀ b o, b ≠ a → b ≠ l → H b = some o → H' b = some o) → prs'.map (·.2) = rows → H' r = some (.tup [.int x, .int y]) → H r = none → r ≠ a → r ≠ l → W chs' → Keep H' C a dx t' l prs' chs' → Q (.ref r) H'
def spAsked (C : Addr) : Sp := fun vs H Q _ => ∃ (a dx t l : Addr) (prs : Prs) (chs : Ch) (v du : V), vs = [.ref a, v, du] ∧ Keep H C a dx t l prs chs ∧ chs.length < 1000 ∧
  ((v = .non ∧ chs = [] ∧ du = .str "change" ∧ ∀ H', Same H H' → Q (.str "change") H') ∨
  (v = .non ∧ ∃ c0 u c i j x, chs = c0 ++ [(u, c, i, j, x)] ∧ rowsOk (setR (prs.map (·.2)) i j x) = true ∧ GoesTo H Q C a dx l (setR (prs.map (·.2)) i j x) (· = c0) (cellR (prs.map (·.2)) i j) x) ∨
  ∃ (Dd : Addr) (cv xv : V), v = .ref Dd ∧ H Dd = some (.tup [cv, xv]) ∧
    ((∃ d, RdS [] H cv d ∧ Sz 1000000 60 d ∧ cellD prs.length (w0 prs) d = false ∧ du = .str "cell" ∧ ∀ H', Same H H' → Q (.str "cell") H') ∨
    ∃ (c : Addr) (i j : Nat), cv = .ref c ∧ Cell H c i j ∧ i < prs.length ∧ j < w0 prs ∧
      ((∃ d, RdS [] H xv d ∧ isIntD d = false ∧ du = .str "number" ∧ ∀ H', Same H H' → Q (.str "number") H') ∨
      ∃ x, xv = .int x ∧ ((rowsOk (setR (prs.map (·.2)) i j x) = false ∧ du = .str "fit" ∧ ∀ H', Same H H' → Q (.str "fit") H') ∨
        (rowsOk (setR (prs.map (·.2)) i j x) = true ∧ GoesTo H Q C a dx l (setR (prs.map (·.2)) i j x) (fun e => ∃ u, H u = none ∧ e = chs ++ [(u, c, i, j, cellR (prs.map (·.2)) i j)]) (cellR (prs.map (·.2)) i j) x)))))
theorem sc_asked : FnScope ["keeper", "deed", "due", "caught", "found", "e"] ["keeper", "deed", "due"] (defScope dAsked) := ⟨rfl, rfl, rfl, by decide +kernel, rfl, by decide +kernel, by decide +kernel⟩
set_option maxHeartbeats 8000000 in
theorem ok_asked (T : Blt mg) (hstr : mg "str" = none) (N : Nms mg S cs) (kS : ExcK K S) (E1 : Err K S cs 1 c1) (E2 : Err K S cs 2 c2) (E7 : Err K S cs 7 c7) (E8 : Err K S cs 8 c8) (kc : KpC K C) (Df : DefAt K mg "_law_asked" dAsked ["keeper", "deed", "due"])
    (M1 : MtAt P w K mg base 8 C "undo" ["self"] (spKUndo C)) (M1X : MtAtX P w K mg base 8 C "undo" ["self"] (spKUnX C c8)) (M2 : MtAt P w K mg base 8 C "change" ["self", "cell", "x"] (spKChange C)) (M2X : MtAtX P w K mg base 8 C "change" ["self", "cell", "x"] (spKChX C c1 c2 c7))
    (G3 : FnAt P w K mg base 1 "_law_kind" ["e", "due"] (spKind K S cs)) : FnAt P w K mg base 9 "_law_asked" ["keeper", "deed", "due"] (spAsked C) := by
  refine FnAt.of Df sc_asked (fun vs H Q E h => ?_) (fun f cdv A outer s H vs Q E hr h => ?_)
  · obtain ⟨a, dx, t, l, prs, chs, v, du, rfl, _⟩ := h
    rfl
  · obtain ⟨a, dx, t, l, prs, chs, v, du, rfl, hk, hcl, h⟩ := h
    have nd := sc_asked.nd
    have gU := M1.toX.or M1X
    have gC := M2.toX.or M2X
    have hr1 : Room 1 _ := hr.mono (show 1 ≤ 8 by decide)
    refine ⟨_, pss_cons (ps_set (i := 3) nd rfl (Or.inl rfl) pe_non) (pss_cons (ps_set (i := 4) nd rfl (Or.inl rfl) pe_non)
      (pss_cons (ps_try (i := 5) rfl rfl nd kS N.seek (fun pn W R hR => pss_one (ps_if (pt_cmpR op_isN (pv 1) pe_non (nomark _)) (pss_one (ps_set (i := 4) nd rfl (Or.inl rfl) (pe_mx0 gU kc.cls hr hR (pv 0)))) (pss_one (ps_set (i := 4) nd rfl (Or.inl rfl) (pe_mx gC kc.cls hr hR (pv 0) (pa_cons (pe_ix (ix_tupK K) (pv 1) pe_int (fun _ _ => rfl)) (pa_cons (pe_ix (ix_tupK K) (pv 1) pe_int (fun _ _ => rfl)) pa_nil)))))))
        (fun v => pss_one (ps_set (i := 3) nd rfl (Or.inl rfl) (pv 5))))
      (pss_cons (ps_if (pt_cmpR op_isN (pv 3) pe_non (nomark _)) (pss_one (ps_ret (pe_ix ix_list (pe_lst (pa_cons (pv 4) (pa_cons pe_str pa_nil))) (pe_t call_int1 T.int boot_int (pa_cons (pe_b call_isinst T.isinst boot_isinstance (pa_cons (pv 4) (pa_cons (pe_ty hstr boot_str') pa_nil))) pa_nil)) (fun _ _ => rfl)))) pss_nil)
      (pss_one (ps_ret (pe_ix ix_list (pe_lst (pa_cons pe_str (pa_cons (pv 2) pa_nil))) (pe_t call_int1 T.int boot_int (pa_cons (pe_and (pe_b call_isinst T.isinst boot_isinstance (pa_cons (pv 2) (pa_cons (pe_ty hstr boot_str') pa_nil))) (pe_one (pe_f G3 hr1 (pa_cons (pv 3) (pa_cons (pv 2) pa_nil))))) pa_nil)) (fun _ _ => rfl))))))), ?_⟩
    refine ⟨_, rfl, rfl, _, rfl, ?_⟩
    rcases h with ⟨rfl, rfl, rfl, q⟩ | ⟨rfl, c0, u, c, i, j, x, rfl, ok, q⟩ | ⟨Dd, cv, xv, rfl, hDd, h⟩
    · refine iteDt rfl ⟨_, rfl, a, dx, _, rfl, hk.ob, rfl, .inr ⟨a, dx, t, l, prs, rfl, hk, fun H1 s1 => ?_⟩⟩
      refine ⟨c8, rfl, E8.k, E8.sk, fun e he => ?_⟩
      have s2 := s1.trans (Same.new (o := excO e c8) he)
      have e2 : (upd H1 e (excO e c8)) e = some (excO e c8) := upd_same
      generalize upd H1 e (excO e c8) = H2 at s2 e2 ⊢
      refine ⟨_, rfl, _, rfl, rfl, _, rfl, iteF ⟨_, rfl, len2, fun L hL => ⟨_, rfl, .str "change", "str", _, true, rfl, .str _, by kernel_rfl, _, rfl, iteT ⟨_, rfl, _, rfl, e, c8, 8, "change", rfl, (Same.new hL) _ _ e2, E8, by decide, by decide +kernel, fun H3 s3 => .inr ⟨_, rfl, L, _, _, .str "change", rfl, rfl, SqL.of (s3 _ _ upd_same), rfl, q H3 (s2.trans ((Same.new hL).trans s3))⟩⟩⟩⟩⟩
    · refine iteDt rfl ⟨_, rfl, a, dx, _, rfl, hk.ob, rfl, .inl ⟨a, dx, t, l, u, c, prs, c0, i, j, x, rfl, hk, ?_, ok, fun t' prs' r H1 ht' hq hnd hr' fr hrows er nra nrl hk1 => ?_⟩⟩
      · rw [List.length_append] at hcl; omega
      refine ⟨_, rfl, rfl, _, rfl, iteT ⟨_, rfl, len2, fun L hL => ⟨_, rfl, .ref r, "str", _, false, rfl, .tup ((Same.new hL) _ _ er), by kernel_rfl, .inr ⟨_, rfl, L, _, _, .ref r, rfl, rfl, SqL.of upd_same, rfl, ?_⟩⟩⟩⟩
      rw [← cellR_at] at er
      have m := Same.new (o := .lst [.ref r, .str "told"]) hL
      exact q t' prs' c0 r _ ht' (fun p hp => (hq p hp).1) (fun b o n1 n2 e => m _ _ (fr b o n1 n2 e)) hrows (m _ _ er) hr' nra nrl rfl (hk1.same m)
    · refine iteDf (fun z => nomatch z) ⟨_, rfl, a, dx, _, rfl, hk.ob, rfl, _, rfl, Dd, _, 0, cv, rfl, rfl, SqT.of hDd, rfl, _, rfl, Dd, _, 1, xv, rfl, rfl, SqT.of hDd, rfl, ?_⟩
      rcases h with ⟨d, rd, sz, hno, rfl, q⟩ | ⟨c, i, j, rfl, hc, hi, hj, ⟨d, rd, hno, rfl, q⟩ | ⟨x, rfl, ⟨ok, rfl, q⟩ | ⟨ok, q⟩⟩⟩
      · refine .inr ⟨a, dx, t, l, prs, chs, cv, xv, rfl, hk, .inl ⟨d, rd, sz, hno, fun H1 s1 => ?_⟩⟩
        refine ⟨c1, rfl, E1.k, E1.sk, fun e he => ?_⟩
        have s2 := s1.trans (Same.new (o := excO e c1) he)
        have e2 : (upd H1 e (excO e c1)) e = some (excO e c1) := upd_same
        generalize upd H1 e (excO e c1) = H2 at s2 e2 ⊢
        refine ⟨_, rfl, _, rfl, rfl, _, rfl, iteF ⟨_, rfl, len2, fun L hL => ⟨_, rfl, .str "cell", "str", _, true, rfl, .str _, by kernel_rfl, _, rfl, iteT ⟨_, rfl, _, rfl, e, c1, 1, "cell", rfl, (Same.new hL) _ _ e2, E1, by decide, by decide +kernel, fun H3 s3 => .inr ⟨_, rfl, L, _, _, .str "cell", rfl, rfl, SqL.of (s3 _ _ upd_same), rfl, q H3 (s2.trans ((Same.new hL).trans s3))⟩⟩⟩⟩⟩
      · refine .inr ⟨a, dx, t, l, prs, chs, .ref c, xv, rfl, hk, .inr (.inl ⟨c, i, j, d, rfl, hc, hi, hj, rd, hno, fun H1 s1 => ?_⟩)⟩
        refine ⟨c2, rfl, E2.k, E2.sk, fun e he => ?_⟩
        have s2 := s1.trans (Same.new (o := excO e c2) he)
        have e2 : (upd H1 e (excO e c2)) e = some (excO e c2) := upd_same
        generalize upd H1 e (excO e c2) = H2 at s2 e2 ⊢
        refine ⟨_, rfl, _, rfl, rfl, _, rfl, iteF ⟨_, rfl, len2, fun L hL => ⟨_, rfl, .str "number", "str", _, true, rfl, .str _, by kernel_rfl, _, rfl, iteT ⟨_, rfl, _, rfl, e, c2, 2, "number", rfl, (Same.new hL) _ _ e2, E2, by decide, by decide +kernel, fun H3 s3 => .inr ⟨_, rfl, L, _, _, .str "number", rfl, rfl, SqL.of (s3 _ _ upd_same), rfl, q H3 (s2.trans ((Same.new hL).trans s3))⟩⟩⟩⟩⟩
      · refine .inr ⟨a, dx, t, l, prs, chs, .ref c, .int x, rfl, hk, .inr (.inr ⟨c, i, j, x, rfl, hc, hi, hj, rfl, ok, fun H1 s1 => ?_⟩)⟩
        refine ⟨c7, rfl, E7.k, E7.sk, fun e he => ?_⟩
        have s2 := s1.trans (Same.new (o := excO e c7) he)
        have e2 : (upd H1 e (excO e c7)) e = some (excO e c7) := upd_same
        generalize upd H1 e (excO e c7) = H2 at s2 e2 ⊢
        refine ⟨_, rfl, _, rfl, rfl, _, rfl, iteF ⟨_, rfl, len2, fun L hL => ⟨_, rfl, .str "fit", "str", _, true, rfl, .str _, by kernel_rfl, _, rfl, iteT ⟨_, rfl, _, rfl, e, c7, 7, "fit", rfl, (Same.new hL) _ _ e2, E7, by decide, by decide +kernel, fun H3 s3 => .inr ⟨_, rfl, L, _, _, .str "fit", rfl, rfl, SqL.of (s3 _ _ upd_same), rfl, q H3 (s2.trans ((Same.new hL).trans s3))⟩⟩⟩⟩⟩
      · refine .inl ⟨a, dx, t, l, c, prs, chs, i, j, x, rfl, hk, hc, hi, hj, hcl, ok, fun t' prs' u r H1 ht' hq hnd hu hr' fr hrows er nra nrl hk1 => ?_⟩
        refine ⟨_, rfl, rfl, _, rfl, iteT ⟨_, rfl, len2, fun L hL => ⟨_, rfl, .ref r, "str", _, false, rfl, .tup ((Same.new hL) _ _ er), by kernel_rfl, .inr ⟨_, rfl, L, _, _, .ref r, rfl, rfl, SqL.of upd_same, rfl, ?_⟩⟩⟩⟩
        rw [← cellR_at] at er hk1
        have m := Same.new (o := .lst [.ref r, .str "told"]) hL
        exact q t' prs' _ r _ ht' (fun p hp => (hq p hp).1) (fun b o n1 n2 e => m _ _ (fr b o n1 n2 e)) hrows (m _ _ er) hr' nra nrl ⟨u, hu, rfl⟩ (hk1.same m)
end
def oD : Option Int → PyData
  | none => .none
  | some n => .int n
def spanD (rows : List (List Int)) (i j : Nat) : PyData := .tuple [oD (aheadL rows i j).max?, oD (behindL rows i j).min?]
theorem oV_rd {K : PySem.W.Frag} {H : Hp} (o : Option Int) : RdD K H (oV o) (oD o) := by
  cases o with
  | none => exact .non
  | some n => exact .int n
theorem lay_oD (o : Option Int) : (oD o).canLay0 = true ∧ (oD o).depth = 0 := by
  cases o with
  | none => exact ⟨rfl, rfl⟩
  | some n => exact ⟨rfl, rfl⟩
theorem lay_span (rows : List (List Int)) (i j : Nat) : (spanD rows i j).canLay0 = true ∧ (spanD rows i j).depth ≤ 1 := by
  obtain ⟨a1, a2⟩ := lay_oD (aheadL rows i j).max?
  obtain ⟨b1, b2⟩ := lay_oD (behindL rows i j).min?
  unfold spanD
  simp only [PyData.canLayAll0, PyData.canLay0, PyData.depthAll, PyData.depth, a1, b1, a2, b2, Bool.and_self, true_and]
  decide
theorem eqv_oD (o : Option Int) : PyData.eqv (oD o) (oD o) = true := by
  cases o with
  | none => rfl
  | some n => simp [oD, PyData.eqv]
theorem eqv_span (rows : List (List Int)) (i j : Nat) : PyData.eqv (spanD rows i j) (spanD rows i j) = true := by
  unfold spanD
  simp [PyData.eqv, PyData.eqvAll, eqv_oD]
theorem shaped_span (rows : List (List Int)) (i j : Nat) : SeqAt.shaped (spanD rows i j) = true := by
  obtain ⟨h1, h2⟩ := lay_span rows i j
  show (PyData.canLay0 (spanD rows i j) && decide (PyData.depth (spanD rows i j) ≤ 64)) = true
  rw [Bool.and_eq_true]
  exact ⟨h1, decide_eq_true (by omega)⟩
structure KR where
  a : Addr
  dx : Addr
  l : Addr
  t : Addr
  prs : Prs
  chs : Ch
  D : Addr
  T : Addr
  Ea : Addr
  qs : Prs
  ech : Ch
def dCl (k : Nat × Nat) : PyData := .tuple [.int k.1, .int k.2]
theorem cs_rd {K : PySem.W.Frag} {H : Hp} : ∀ {es : Cs}, (∀ c ∈ es, CellAt H c) → RdAll K H (es.map cellV) ((es.map (·.2)).map dCl)
  | [], _ => .nil
  | c :: r, h => .cons (.tup (SqT.of (h c (.head _))) (.cons (.int _) (.cons (.int _) .nil))) (cs_rd fun d hd => h d (.tail _ hd))
theorem lay_cls : ∀ ks : List (Nat × Nat), PyData.canLayAll0 (ks.map dCl) = true ∧ PyData.depthAll (ks.map dCl) ≤ 1
  | [] => ⟨rfl, Nat.zero_le _⟩
  | c :: r => by
    have h := lay_cls r
    refine ⟨?_, ?_⟩
    · rw [List.map_cons]
      simp only [dCl, PyData.canLayAll0, PyData.canLay0, h.1, Bool.and_self]
    · have h2 := h.2
      show max 1 (PyData.depthAll (r.map dCl)) ≤ 1
      omega
theorem shaped_cls (ks : List (Nat × Nat)) : SeqAt.shaped (.list (ks.map dCl)) = true := by
  have h := lay_cls ks
  have h2 := h.2
  show (PyData.canLay0 (.list (ks.map dCl)) && decide (PyData.depth (.list (ks.map dCl)) ≤ 64)) = true
  rw [Bool.and_eq_true]
  exact ⟨by simp only [PyData.canLay0]; exact h.1, decide_eq_true (by simp only [PyData.depth]; omega)⟩
abbrev Tri := Nat × Nat × Int
def tri (c : Addr × Addr × Nat × Nat × Int) : Tri := (c.2.2.1, c.2.2.2.1, c.2.2.2.2)
def Hst : List (List Int) → List Tri → Prop
  | _, [] => True
  | rows, e :: r => rowsOk (setR rows e.1 e.2.1 e.2.2) = true ∧ Hst (setR rows e.1 e.2.1 e.2.2) r
structure KOk (F : List Addr) (H : Hp) (C : Addr) (n m B : Nat) (r : KR) : Prop where
  k : Keep H C r.a r.dx r.t r.l r.prs r.chs
  s : Sta F H r.D r.T r.Ea r.qs r.ech
  eq : r.qs.map (·.2) = r.prs.map (·.2)
  tr : r.ech.map tri = r.chs.map tri
  hst : Hst (r.prs.map (·.2)) (r.chs.map tri).reverse
  hn : r.prs.length = n
  hm : w0 r.prs = m
  tF : r.t ∉ F
  pF : ∀ p ∈ r.prs, p.1 ∉ F
  cF : ∀ c ∈ r.chs, c.1 ∉ F ∧ c.2.1 ∉ F
  aF : r.a ∈ F
  lF : r.l ∈ F
  bq : ∀ p ∈ r.qs, ∀ z ∈ p.2, z.natAbs ≤ B
  bc : ∀ c ∈ r.chs, c.2.2.2.2.natAbs ≤ B
theorem KOk.fr {F X : List Addr} {H H' : Hp} {C : Addr} {n m B : Nat} {r : KR} (h : KOk F H C n m B r) (b : ButS X H H') (hX : ∀ x ∈ X, x ∈ F) (na : r.a ∉ X) (nl : r.l ∉ X) : KOk F H' C n m B r := by
  have off : ∀ {y : Addr}, y ∉ F → y ∉ X := fun hy z => hy (hX _ z)
  exact ⟨⟨b _ _ na h.k.ob, ⟨b _ _ (off h.tF) h.k.T.l, fun p hp => b _ _ (off (h.pF p hp)) (h.k.T.r p hp)⟩, h.k.ok, b _ _ nl h.k.L, fun c hc => let ⟨z1, z2, z3⟩ := h.k.ch c hc; ⟨b _ _ (off (h.cF c hc).1) z1, b _ _ (off (h.cF c hc).2) z2, z3⟩⟩,
    h.s.but fun y o ny e => b y o (off ny) e, h.eq, h.tr, h.hst, h.hn, h.hm, h.tF, h.pF, h.cF, h.aF, h.lF, h.bq, h.bc⟩
theorem KOk.mono {F : List Addr} {H : Hp} {C : Addr} {n m B B' : Nat} {r : KR} (h : KOk F H C n m B r) (hB : B ≤ B') : KOk F H C n m B' r :=
  ⟨h.k, h.s, h.eq, h.tr, h.hst, h.hn, h.hm, h.tF, h.pF, h.cF, h.aF, h.lF, fun p hp z hz => Nat.le_trans (h.bq p hp z hz) hB, fun c hc => Nat.le_trans (h.bc c hc) hB⟩
theorem Sta.nil {F : List Addr} {H : Hp} {D T Ea : Addr} {qs : Prs} {ech : Ch} (h : Sta F H D T Ea qs ech) : Sta [] H D T Ea qs ech := ⟨h.d, h.tb, h.ok, h.e, h.ch, h.len, by simp, by simp, by simp, fun _ _ => by simp, fun _ _ => ⟨by simp, by simp⟩⟩
theorem live_but {F X : List Addr} {H H' : Hp} (h : ∀ b ∈ F, H b ≠ none) (b : ButS X H H') (hX : ∀ x ∈ X, H' x ≠ none) : ∀ b ∈ F, H' b ≠ none := fun y hy z => by
  by_cases hx : y ∈ X
  · exact hX y hx z
  · cases e : H y with
    | none => exact h y hy e
    | some o =>
      rw [b y o hx e] at z
      cases z
theorem bnd_set {qs qs2 : Prs} {i j B B' : Nat} {x : Int} (h : ∀ p ∈ qs, ∀ z ∈ p.2, z.natAbs ≤ B) (e : qs2.map (·.2) = setR (qs.map (·.2)) i j x) (hx : x.natAbs ≤ B') (hB : B ≤ B') : ∀ p ∈ qs2, ∀ z ∈ p.2, z.natAbs ≤ B' := fun p hp z hz => by
  have hm : p.2 ∈ setR (qs.map (·.2)) i j x := by rw [← e]; exact List.mem_map.mpr ⟨p, hp, rfl⟩
  unfold setR at hm
  rcases List.mem_or_eq_of_mem_set hm with y | y
  · obtain ⟨q, hq, eq⟩ := List.mem_map.mp y
    rw [← eq] at hz
    exact Nat.le_trans (h q hq z hz) hB
  · rw [y] at hz
    rcases List.mem_or_eq_of_mem_set hz with u | u
    · rw [List.getD_eq_getElem?_getD, List.getElem?_map] at u
      cases hg : qs[i]? with
      | none => rw [hg] at u; cases u
      | some q =>
        rw [hg] at u
        exact Nat.le_trans (h q (List.mem_of_getElem? hg) z u) hB
    · rw [u]
      exact hx
theorem last_both {ech chs : Ch} (h : ech.map tri = chs.map tri) : (ech = [] ∧ chs = []) ∨ ∃ e0 c0 u c u' c' i j b, ech = e0 ++ [(u, c, i, j, b)] ∧ chs = c0 ++ [(u', c', i, j, b)] ∧ e0.map tri = c0.map tri := by
  have hl : ech.length = chs.length := by
    have := congrArg List.length h
    simpa using this
  rcases List.eq_nil_or_concat ech with rfl | ⟨e0, x, rfl⟩
  · left
    exact ⟨rfl, List.length_eq_zero_iff.mp hl.symm⟩
  · rcases List.eq_nil_or_concat chs with rfl | ⟨c0, y, rfl⟩
    · simp at hl
    · right
      rw [List.concat_eq_append, List.concat_eq_append, List.map_append, List.map_append] at h
      obtain ⟨h1, h2⟩ := List.append_inj' h rfl
      obtain ⟨u, c, i, j, b⟩ := x
      obtain ⟨u', c', i', j', b'⟩ := y
      have h3 : (i, j, b) = (i', j', b') := by simpa [tri] using h2
      injection h3 with h3 h4
      injection h4 with h4 h5
      subst h3 h4 h5
      exact ⟨e0, c0, u, c, u', c', i, j, b, by rw [List.concat_eq_append], by rw [List.concat_eq_append], h1⟩
theorem flatK_take {prs : Prs} {i : Nat} {p : Addr × List Int} (h : prs[i]? = some p) : flatP (prs.take (i + 1)) = flatP (prs.take i) ++ p.2 := by
  unfold flatP
  rw [List.take_add_one, h, List.map_append, List.flatten_append]
  simp
theorem flatK_len {prs : Prs} {wide : Nat} (h : ∀ p ∈ prs, p.2.length = wide) : (flatP prs).length = prs.length * wide := by
  induction prs with
  | nil => simp [flatP]
  | cons p r ih =>
    rw [flatP_cons, List.length_append, h p (by simp), ih fun q hq => h q (by simp [hq]), List.length_cons, Nat.add_mul, Nat.one_mul, Nat.add_comm]
section
variable {P : Program} {w : World} {K : PySem.W.Frag} {mg : Str → Option Value} {base : Heap}
def spXK : Sp := fun vs H Q _ => ∃ (s t : Addr) (prs : Prs), vs = [.ref s, .ref t] ∧ StK H s ∧ Tab H t prs ∧ tabB prs = true ∧ t ≠ s ∧ (∀ p ∈ prs, p.1 ≠ s) ∧ ∀ x H', But s H H' → StK H' s → Q (.int x) H'
theorem sc_xK : FnScope ["store", "table", "some", "row", "one", "other", "menu"] ["store", "table"] (defScope dX) := ⟨rfl, rfl, rfl, by decide +kernel, rfl, by decide +kernel, by decide +kernel⟩
set_option maxHeartbeats 16000000 in
theorem ok_xK (T : Blt mg) (hmin : mg "min" = none) (D : DefAt K mg "_law_x" dX ["store", "table"]) (G : FnAt P w K mg base 1 "_law_take" ["store", "many"] spTakeK) (G2 : FnAt P w K mg base 2 "_law_far" ["store", "figures"] spFar) : FnAt P w K mg base 3 "_law_x" ["store", "table"] spXK := by
  refine FnAt.of D sc_xK (fun vs H Q E h => ?_) (fun f cdv A outer s H vs Q E hr h => ?_)
  · obtain ⟨st, t, prs, rfl, _⟩ := h
    rfl
  · obtain ⟨st, t, prs, rfl, S, hT, hg, nt, np, q⟩ := h
    obtain ⟨g, g1, g2, g3, g4⟩ := good_of hg
    have nd := sc_xK.nd
    have hr1 : Room 1 _ := hr.mono (by decide)
    have hfl : (flatP prs).length = prs.length * w0 prs := flatK_len g.len
    have hf1 : 1 * 1 ≤ prs.length * w0 prs := Nat.mul_le_mul g1 g3
    have hf2 : prs.length * w0 prs ≤ 6 * 6 := Nat.mul_le_mul g2 g4
    refine ⟨_, pss_cons (ps_set (i := 2) nd rfl (Or.inl rfl) (pe_lst pa_nil))
      (pss_cons (ps_for PassesOwn.never rfl (pi_list (pv 1)) (pg_name (i := 3) nd rfl (Or.inl rfl)) (pss_one (ps_set (i := 2) nd rfl (Or.inl rfl) (pe_op op_cat (pv 2) (pv 3)))))
      (pss_cons (ps_set (i := 4) nd rfl (Or.inl rfl) (pe_ix ix_list (pv 2) (pe_f G hr1 (pa_cons (pv 0) (pa_cons (pe_b call_len_seq T.len boot_len (pa_cons (pv 2) pa_nil)) pa_nil))) (fun _ _ => rfl)))
      (pss_cons (ps_set (i := 5) nd rfl (Or.inl rfl) (pe_ix ix_list (pv 2) (pe_f G hr1 (pa_cons (pv 0) (pa_cons (pe_b call_len_seq T.len boot_len (pa_cons (pv 2) pa_nil)) pa_nil))) (fun _ _ => rfl)))
      (pss_cons (ps_set (i := 6) nd rfl (Or.inl rfl) (pe_lst (pa_cons (pv 4) (pa_cons (pv 4) (pa_cons (pe_op o_add (pv 4) pe_int) (pa_cons (pe_op o_sub (pv 4) pe_int) (pa_cons (pe_op o_div (pe_op o_add (pv 4) (pv 5)) pe_int)
        (pa_cons (pe_op o_sub (pe_op o_sub (pe_b (call_minL rfl) hmin boot_min (pa_cons (pv 2) pa_nil)) pe_int) (pe_f G hr1 (pa_cons (pv 0) (pa_cons pe_int pa_nil)))) pa_nil))))))))
      (pss_cons (ps_set (i := 6) nd rfl (Or.inl rfl) (pe_op op_cat (pv 6) (pe_lst (pa_cons (pe_op o_add (pe_op o_add (pe_b (call_maxL rfl) T.max boot_max (pa_cons (pv 2) pa_nil)) pe_int) (pe_f G hr1 (pa_cons (pv 0) (pa_cons pe_int pa_nil)))) (pa_cons pe_int (pa_cons (pe_f G2 hr (pa_cons (pv 0) (pa_cons pe_int pa_nil))) (pa_cons (pe_op o_sub pe_int (pe_f G2 hr (pa_cons (pv 0) (pa_cons pe_int pa_nil)))) pa_nil)))))))
      (pss_one (ps_ret (pe_ix ix_list (pv 6) (pe_f G hr1 (pa_cons (pv 0) (pa_cons pe_int pa_nil))) (fun _ _ => rfl))))))))), ?_⟩
    refine ⟨len0, fun e0 he0 => ?_⟩
    have n0 : e0 ≠ st := Ne.symm (S.ne he0)
    have s0 : Same H (upd H e0 (.lst [])) := Same.new he0
    have r0 : Row (upd H e0 (.lst [])) e0 [] := Row.new
    generalize upd H e0 (.lst []) = H1 at s0 r0 ⊢
    refine ⟨_, rfl, t, rfl, ⟨_, (hT.same s0).sq⟩, for_list (xs := prs.map fun p => V.ref p.1) (fun j σ H2 => ∃ (o3 : Option V) (e : Addr), σ = [some (.ref st), some (.ref t), some (.ref e), o3, none, none, none] ∧ Same H H2 ∧ e ≠ st ∧ Row H2 e (flatP (prs.take j)))
      ⟨none, e0, rfl, s0, n0, by rw [List.take_zero]; exact r0⟩ (fun j σ H2 _ ⟨_, _, _, s2, _⟩ => (hT.same s2).sq) ?_ ?_⟩
    · rintro j x σ H2 hj ⟨o3, e, rfl, s2, ne, r2⟩
      have hjl : j < prs.length := by
        have := (List.getElem?_eq_some_iff.mp hj).1
        rw [List.length_map] at this
        exact this
      have hpj : prs[j]? = some prs[j] := List.getElem?_eq_getElem hjl
      rw [List.getElem?_map, hpj] at hj
      have hx : V.ref prs[j].1 = x := Option.some.inj hj
      subst hx
      have rj := (hT.same s2).r prs[j] (List.getElem_mem hjl)
      refine ⟨_, rfl, _, rfl, e, prs[j].1, _, _, rfl, rfl, r2, rj, ?_, fun e2 he2 => ⟨_, e2, rfl, s2.trans (Same.new he2), Ne.symm ((S.same s2).ne he2), ?_⟩⟩
      · rw [List.length_map, List.length_map, flatK_len (wide := w0 prs) fun p hp => g.len p (List.mem_of_mem_take hp), List.length_take, g.len _ (List.getElem_mem hjl)]
        have : min j prs.length * w0 prs ≤ 6 * 6 := Nat.mul_le_mul (by omega) g4
        exact sl6 (by omega)
      · unfold Row
        rw [upd_same, flatK_take hpj, List.map_append]
    · rintro σ H2 ⟨o3, e, rfl, s2, ne, r2⟩
      rw [List.length_map, List.take_length] at r2
      have S2 := S.same s2
      have C2 : But st H H2 := Same.but s2
      generalize flatP prs = ns at r2 hfl
      refine ⟨_, rfl, _, rfl, _, rfl, e, _, rfl, .inl r2.sq, st, _, rfl, by rw [List.length_map]; omega, by rw [List.length_map]; omega, S2, fun d3 H3 d30 d31 B3 S3 => ?_⟩
      rw [List.length_map] at d31
      have r3 := r2.but ne B3
      obtain ⟨one, _, e1⟩ := at_mem d30 d31
      refine ⟨e, _, _, .int one, rfl, rfl, r3.sq, e1, ?_⟩
      refine ⟨_, rfl, _, rfl, _, rfl, e, _, rfl, .inl r3.sq, st, _, rfl, by rw [List.length_map]; omega, by rw [List.length_map]; omega, S3, fun d4 H4 d40 d41 B4 S4 => ?_⟩
      rw [List.length_map] at d41
      have r4 := r3.but ne B4
      obtain ⟨other, _, e2⟩ := at_mem d40 d41
      refine ⟨e, _, _, .int other, rfl, rfl, r4.sq, e2, ?_⟩
      refine ⟨_, rfl, _, rfl, _, rfl, _, _, rfl, rfl, _, rfl, _, _, rfl, rfl, _, rfl, _, rfl, _, _, rfl, rfl, _, _, rfl, rfl, ⟨by decide, by decide⟩, _, rfl, e, ns, rfl, r4.sq, by omega, fun mn _ _ => ⟨_, _, rfl, rfl, _, rfl, st, _, rfl, by decide, by decide, S4, fun d5 H5 d50 d51 B5 S5 => ⟨_, _, rfl, rfl, len6, fun m1 hm1 => ?_⟩⟩⟩
      have nm1 : m1 ≠ st := Ne.symm (S5.ne hm1)
      have s6 : Same H5 (upd H5 m1 (.lst [.int one, .int one, .int (one + 1), .int (one - 1), .int ((one + other) / 2), .int (mn - 1 - d5)])) := Same.new hm1
      have e6 : (upd H5 m1 (.lst [.int one, .int one, .int (one + 1), .int (one - 1), .int ((one + other) / 2), .int (mn - 1 - d5)])) m1 = some (.lst ([one, one, one + 1, one - 1, (one + other) / 2, mn - 1 - d5].map V.int)) := upd_same
      generalize upd H5 m1 (.lst [.int one, .int one, .int (one + 1), .int (one - 1), .int ((one + other) / 2), .int (mn - 1 - d5)]) = H6 at s6 e6 ⊢
      have r6 := (r4.but ne B5).same s6
      have S6 := S5.same s6
      have C6 := C2.trans (B3.trans (B4.trans (B5.trans (Same.but s6))))
      refine ⟨_, rfl, _, rfl, e, ns, rfl, r6.sq, by omega, fun mx _ _ => ⟨_, _, rfl, rfl, _, rfl, st, _, rfl, by decide, by decide, S6, fun d7 H7 d70 d71 B7 S7 => ⟨_, _, rfl, rfl, _, rfl, st, _, rfl, by decide, by decide, S7, fun d8 H8 d80 _ B8 S8 => ⟨_, rfl, st, _, rfl, by decide, by decide, S8, fun d9 H9 d90 _ B9 S9 => ⟨_, _, rfl, rfl, len4, fun m2 hm2 => ?_⟩⟩⟩⟩⟩
      have e9 := B9 _ _ nm1 (B8 _ _ nm1 (B7 _ _ nm1 e6))
      have s10 : Same H9 (upd H9 m2 (.lst [.int (mx + 1 + d7), .int 0, .int d8, .int (0 - d9)])) := Same.new hm2
      have e10 : (upd H9 m2 (.lst [.int (mx + 1 + d7), .int 0, .int d8, .int (0 - d9)])) m2 = some (.lst ([mx + 1 + d7, 0, d8, 0 - d9].map V.int)) := upd_same
      generalize upd H9 m2 (.lst [.int (mx + 1 + d7), .int 0, .int d8, .int (0 - d9)]) = H10 at s10 e10 ⊢
      refine ⟨m1, m2, _, _, rfl, rfl, s10 _ _ e9, e10, (show 6 + 4 ≤ sizeLine by decide), fun m3 hm3 => ?_⟩
      have S10 := S9.same s10
      have nm3 : m3 ≠ st := Ne.symm (S10.ne hm3)
      have s11 : Same H10 (upd H10 m3 (.lst ([one, one, one + 1, one - 1, (one + other) / 2, mn - 1 - d5].map V.int ++ [mx + 1 + d7, 0, d8, 0 - d9].map V.int))) := Same.new hm3
      have e11 : (upd H10 m3 (.lst ([one, one, one + 1, one - 1, (one + other) / 2, mn - 1 - d5].map V.int ++ [mx + 1 + d7, 0, d8, 0 - d9].map V.int))) m3 = some (.lst ([one, one, one + 1, one - 1, (one + other) / 2, mn - 1 - d5, mx + 1 + d7, 0, d8, 0 - d9].map V.int)) := upd_same
      generalize upd H10 m3 (.lst ([one, one, one + 1, one - 1, (one + other) / 2, mn - 1 - d5].map V.int ++ [mx + 1 + d7, 0, d8, 0 - d9].map V.int)) = H11 at s11 e11 ⊢
      refine ⟨_, rfl, _, rfl, st, _, rfl, by decide, by decide, S10.same s11, fun d12 H12 d120 d121 B12 S12 => ?_⟩
      obtain ⟨r, _, er⟩ := at_mem (ns := [one, one, one + 1, one - 1, (one + other) / 2, mn - 1 - d5, mx + 1 + d7, 0, d8, 0 - d9]) d120 d121
      refine ⟨m3, _, _, .int r, rfl, rfl, SqL.of (B12 _ _ nm3 e11), er, ?_⟩
      exact q r H12 (C6.trans (B7.trans (B8.trans (B9.trans ((Same.but s10).trans ((Same.but s11).trans B12)))))) S12
end
def CRef (n m : Nat) (rows : List (List Int)) (H : Hp) (v : V) (wd : Str) : Prop := ∃ (Dd : Addr) (cv xv : V), v = .ref Dd ∧ H Dd = some (.tup [cv, xv]) ∧
  ((wd = "cell" ∧ ∃ d, RdS [] H cv d ∧ Sz 1000000 60 d ∧ cellD n m d = false) ∨
  ∃ (c : Addr) (i j : Nat), cv = .ref c ∧ Cell H c i j ∧ i < n ∧ j < m ∧ ((wd = "number" ∧ ∃ d, RdS [] H xv d ∧ isIntD d = false) ∨ ∃ x, xv = .int x ∧ wd = "fit" ∧ ¬ Betw (aheadL rows i j).max? (behindL rows i j).min? x))
def CFit (n m : Nat) (rows : List (List Int)) (H : Hp) (Dd c : Addr) (i j : Nat) (x : Int) : Prop := H Dd = some (.tup [.ref c, .int x]) ∧ Cell H c i j ∧ i < n ∧ j < m ∧ Betw (aheadL rows i j).max? (behindL rows i j).min? x
theorem CRef.same {n m : Nat} {rows : List (List Int)} {H H' : Hp} {v : V} {wd : Str} (h : CRef n m rows H v wd) (s : Same H H') : CRef n m rows H' v wd := by
  obtain ⟨Dd, cv, xv, e, hD, h⟩ := h
  refine ⟨Dd, cv, xv, e, s _ _ hD, ?_⟩
  rcases h with ⟨e, d, r, z⟩ | ⟨c, i, j, e, hc, hi, hj, h⟩
  · exact .inl ⟨e, d, r.same s, z⟩
  · refine .inr ⟨c, i, j, e, s _ _ hc, hi, hj, ?_⟩
    rcases h with ⟨e, d, r, z⟩ | h
    · exact .inl ⟨e, d, r.same s, z⟩
    · exact .inr h
theorem deed_cls {F : List Addr} {n m B : Nat} {rows : List (List Int)} {H : Hp} {v : V} (h : DeedOk F n m B H v) : v = .non ∨ (∃ wd, CRef n m rows H v wd) ∨ ∃ Dd c i j x, v = .ref Dd ∧ CFit n m rows H Dd c i j x ∧ Dd ∉ F ∧ c ∉ F ∧ x.natAbs ≤ B := by
  have free : ∀ {y : V} {d : PyData}, RdS F H y d → RdS [] H y d := fun r => r.move (fun _ _ _ e => e) (fun _ _ => by simp)
  rcases h with h | ⟨Dd, cv, xv, rfl, hD, nD, hx, hc⟩
  · exact .inl h
  · rcases hc with ⟨d, r, bd⟩ | ⟨c, i, j, rfl, hc, nc, hi, hj⟩
    · exact .inr (.inl ⟨"cell", Dd, cv, xv, rfl, hD, .inl ⟨rfl, d, free r, bd.2.mono (by decide) (by decide), bd.1⟩⟩)
    · rcases hx with ⟨x, rfl, hx⟩ | ⟨d, r, bd⟩
      · by_cases hb : Betw (aheadL rows i j).max? (behindL rows i j).min? x
        · exact .inr (.inr ⟨Dd, c, i, j, x, rfl, ⟨hD, hc, hi, hj, hb⟩, nD, nc, hx⟩)
        · exact .inr (.inl ⟨"fit", Dd, .ref c, .int x, rfl, hD, .inr ⟨c, i, j, rfl, hc, hi, hj, .inr ⟨x, rfl, rfl, hb⟩⟩⟩)
      · exact .inr (.inl ⟨"number", Dd, .ref c, xv, rfl, hD, .inr ⟨c, i, j, rfl, hc, hi, hj, .inl ⟨rfl, d, free r, bd.1⟩⟩⟩)
section
variable {H : Hp} {C a dx t l D T Ea : Addr} {prs qs : Prs} {chs ech : Ch} {n m : Nat} {rows : List (List Int)} {v : V} {wd : Str} {Q : VK} {E : XK}
theorem asked_ref (h : CRef n m rows H v wd) (hk : Keep H C a dx t l prs chs) (hr : prs.map (·.2) = rows) (hn : prs.length = n) (hm : w0 prs = m) (hc : chs.length < 1000) (q : ∀ H', Same H H' → Q (.str wd) H') : spAsked C [.ref a, v, .str wd] H Q E := by
  obtain ⟨Dd, cv, xv, rfl, hD, h⟩ := h
  refine ⟨_, _, _, _, _, _, _, _, rfl, hk, hc, .inr (.inr ⟨Dd, cv, xv, rfl, hD, ?_⟩)⟩
  rcases h with ⟨rfl, d, r, sz, z⟩ | ⟨c, i, j, rfl, hc, hi, hj, h⟩
  · exact .inl ⟨d, r, sz, by rw [hn, hm]; exact z, rfl, q⟩
  · refine .inr ⟨c, i, j, rfl, hc, by omega, by omega, ?_⟩
    rcases h with ⟨rfl, d, r, z⟩ | ⟨x, rfl, rfl, hb⟩
    · exact .inl ⟨d, r, z, rfl, q⟩
    · refine .inr ⟨x, rfl, .inl ⟨no_fit hk.rok (by rw [List.length_map]; omega) (by rw [wR_w0]; omega) (by rw [hr]; exact hb), rfl, q⟩⟩
theorem asked_fit {Dd c : Addr} {i j : Nat} {x : Int} {du : V} (h : CFit n m rows H Dd c i j x) (hk : Keep H C a dx t l prs chs) (hr : prs.map (·.2) = rows) (hn : prs.length = n) (hm : w0 prs = m) (hc : chs.length < 1000) (q : GoesTo H Q C a dx l (setR rows i j x) (fun e => ∃ u, H u = none ∧ e = chs ++ [(u, c, i, j, cellR rows i j)]) (cellR rows i j) x) :
    spAsked C [.ref a, .ref Dd, du] H Q E := by
  obtain ⟨hD, hc', hi, hj, hb⟩ := h
  subst hr
  exact ⟨_, _, _, _, _, _, _, _, rfl, hk, hc, .inr (.inr ⟨Dd, .ref c, .int x, rfl, hD, .inr ⟨c, i, j, rfl, hc', by omega, by omega, .inr ⟨x, rfl, .inr ⟨rok_ok (betw_fits hk.rok (by rw [List.length_map]; omega) (by rw [wR_w0]; omega) hb), q⟩⟩⟩⟩)⟩
theorem due_ref (h : CRef n m rows H v wd) (hs : Sta [] H D T Ea qs ech) (hr : qs.map (·.2) = rows) (hn : qs.length = n) (hm : w0 qs = m) (q : ∀ H', Same H H' → Q (.str wd) H') : spDue [.ref D, v] H Q E := by
  obtain ⟨Dd, cv, xv, rfl, hD, h⟩ := h
  refine ⟨_, _, _, _, _, _, rfl, hs, .inr ⟨Dd, cv, xv, rfl, hD, ?_⟩⟩
  rcases h with ⟨rfl, d, r, sz, z⟩ | ⟨c, i, j, rfl, hc, hi, hj, h⟩
  · exact .inl ⟨d, r, sz, by rw [hn, hm]; exact z, q⟩
  · refine .inr ⟨c, i, j, rfl, hc, by omega, by omega, ?_⟩
    rcases h with ⟨rfl, d, r, z⟩ | ⟨x, rfl, rfl, hb⟩
    · exact .inl ⟨d, r, z, q⟩
    · exact .inr ⟨x, rfl, .inl ⟨by rw [hr]; exact hb, q⟩⟩
theorem due_fit {Dd c : Addr} {i j : Nat} {x : Int} (h : CFit n m rows H Dd c i j x) (hs : Sta [] H D T Ea qs ech) (hr : qs.map (·.2) = rows) (hn : qs.length = n) (hm : w0 qs = m) (q : NewSt H Q (setR rows i j x) (fun e H' => ∃ u, H u = none ∧ e = ech ++ [(u, c, i, j, cellR rows i j)] ∧ H' u = some (.tup [.ref c, .int (cellR rows i j)])) (cellR rows i j) x) :
    spDue [.ref D, .ref Dd] H Q E := by
  obtain ⟨hD, hc', hi, hj, hb⟩ := h
  subst hr
  exact ⟨_, _, _, _, _, _, rfl, hs, .inr ⟨Dd, .ref c, .int x, rfl, hD, .inr ⟨c, i, j, rfl, hc', by omega, by omega, .inr ⟨x, rfl, .inr ⟨hb, q⟩⟩⟩⟩⟩
end
theorem keep_apart {H : Hp} {C a dx t l : Addr} {prs : Prs} (h : Keep H C a dx t l prs []) : t ≠ a ∧ t ≠ l ∧ (∀ p ∈ prs, p.1 ≠ a ∧ p.1 ≠ l) ∧ a ≠ l := by
  obtain ⟨g, g1, g2, g3, g4⟩ := good_of h.ok
  refine ⟨fun z => ?_, fun z => ?_, fun p hp => ⟨fun z => ?_, fun z => ?_⟩, fun z => ?_⟩
  · have e := h.T.l
    rw [z, h.ob] at e
    cases e
  · have e := h.T.l
    rw [z, h.L] at e
    have e := HO.lst.inj (Option.some.inj e)
    have := congrArg List.length e
    simp at this
    omega
  · have e : H p.1 = _ := h.T.r p hp
    rw [z, h.ob] at e
    cases e
  · have e : H p.1 = _ := h.T.r p hp
    rw [z, h.L] at e
    have e := HO.lst.inj (Option.some.inj e)
    have := congrArg List.length e
    have := g.len p hp
    simp at *
    omega
  · have e := h.L
    rw [← z, h.ob] at e
    cases e
theorem some_ne {H : Hp} {y : Addr} {o : HO} (h : H y = some o) : H y ≠ none := by rw [h]; exact fun z => nomatch z
theorem _root_.L2.Same.live {H H' : Hp} {y : Addr} (s : Same H H') (h : H y ≠ none) : H' y ≠ none := fun z => h (s.free z)
theorem live_ne {H : Hp} {y z : Addr} (h : H y ≠ none) (g : H z = none) : y ≠ z := fun e => h (by rw [e]; exact g)
theorem KOk.movedX {F X : List Addr} {H H2 H3 H5 : Hp} {C : Addr} {n m B B' : Nat} {r : KR} (h : KOk F H C n m B r) {T2 E2 : Addr} {qs2 : Prs} {ech2 : Ch} (nT : T2 ∉ F) (nq : ∀ p ∈ qs2, p.1 ∉ F) (nE : E2 ∉ F) (hT : Tab H2 T2 qs2)
    (hE : H2 E2 = some (.lst (ech2.map fun c => V.ref c.1))) {t' : Addr} {prs' : Prs} {chs' : Ch} (nt : t' ∉ F) (np : ∀ p ∈ prs', p.1 ∉ F) (fr : ∀ b o, b ≠ r.a → b ≠ r.l → H2 b = some o → H3 b = some o) (hk : Keep H3 C r.a r.dx t' r.l prs' chs') (eqr : qs2.map (·.2) = prs'.map (·.2)) (hn : prs'.length = n) (hm : w0 prs' = m)
    (tr : ech2.map tri = chs'.map tri) (hst : Hst (prs'.map (·.2)) (chs'.map tri).reverse) (he : ∀ c ∈ ech2, H2 c.1 = some (.tup [.ref c.2.1, .int c.2.2.2.2]) ∧ Cell H2 c.2.1 c.2.2.1 c.2.2.2.1 ∧ c.2.2.1 < n ∧ c.2.2.2.1 < m ∧ c.1 ∉ F ∧ c.2.1 ∉ F) (hlen : ech2.length ≤ 100)
    (hc : ∀ c ∈ chs', c.1 ∉ F ∧ c.2.1 ∉ F) (bq : ∀ p ∈ qs2, ∀ z ∈ p.2, z.natAbs ≤ B') (bc : ∀ c ∈ chs', c.2.2.2.2.natAbs ≤ B') {D2 : Addr} (nD : D2 ∉ F) (b5 : ButS X H3 H5) (hX : ∀ x ∈ X, x ∈ F) (nSa : r.a ∉ X) (nSl : r.l ∉ X) (eD : H5 D2 = some (.tup [.ref T2, .ref E2])) :
    KOk F H5 C n m B' ⟨r.a, r.dx, r.l, t', prs', chs', D2, T2, E2, qs2, ech2⟩ := by
  have nS : ∀ {y : Addr}, y ∉ F → y ∉ X := fun hy z => hy (hX _ z)
  have up : ∀ {y : Addr} {o : HO}, y ∉ F → H2 y = some o → H5 y = some o := fun {y o} hy e => b5 _ _ (nS hy) (fr _ _ (fun z => hy (by rw [z]; exact h.aF)) (fun z => hy (by rw [z]; exact h.lF)) e)
  have hqn : qs2.length = n := by
    have := congrArg List.length eqr
    simp only [List.length_map] at this
    omega
  have hqm : w0 qs2 = m := by rw [← wR_w0, eqr, wR_w0]; exact hm
  refine ⟨⟨b5 _ _ nSa hk.ob, ⟨b5 _ _ (nS nt) hk.T.l, fun p hp => b5 _ _ (nS (np p hp)) (hk.T.r p hp)⟩, hk.ok, b5 _ _ nSl hk.L, fun c hc' => let ⟨z1, z2, z3⟩ := hk.ch c hc'; ⟨b5 _ _ (nS (hc c hc').1) z1, b5 _ _ (nS (hc c hc').2) z2, z3⟩⟩,
    ⟨eD, ⟨up nT hT.l, fun p hp => up (nq p hp) (hT.r p hp)⟩, by rw [tabB_rows eqr]; exact hk.ok, up nE hE, fun c hc' => ?_, hlen, nD, nT, nE, nq, fun c hc' => ⟨(he c hc').2.2.2.2.1, (he c hc').2.2.2.2.2⟩⟩, eqr, tr, hst, hn, hm, nt, np, hc, h.aF, h.lF, bq, bc⟩
  obtain ⟨z1, z2, z3, z4, z5, z6⟩ := he c hc'
  exact ⟨up z5 z1, up z6 z2, by show _ < qs2.length; omega, by show _ < w0 qs2; omega⟩
theorem KOk.add {F X : List Addr} {H : Hp} {C : Addr} {n m B : Nat} {r : KR} (h : KOk F H C n m B r) (hx : ∀ y ∈ X, H y = none) : KOk (X ++ F) H C n m B r := by
  have o : ∀ {y : Addr}, y ∉ F → H y ≠ none → y ∉ X ++ F := fun h1 h2 z => by
    rcases List.mem_append.mp z with z | z
    · exact h2 (hx _ z)
    · exact h1 z
  exact ⟨h.k, ⟨h.s.d, h.s.tb, h.s.ok, h.s.e, h.s.ch, h.s.len, o h.s.dS (some_ne h.s.d), o h.s.tS (some_ne h.s.tb.l), o h.s.eS (some_ne h.s.e), fun p hp => o (h.s.pS p hp) (some_ne (h.s.tb.r p hp)), fun c hc => ⟨o (h.s.cS c hc).1 (some_ne (h.s.ch c hc).1), o (h.s.cS c hc).2 (some_ne (h.s.ch c hc).2.1)⟩⟩, h.eq, h.tr, h.hst, h.hn, h.hm, o h.tF (some_ne h.k.T.l), fun p hp => o (h.pF p hp) (some_ne (h.k.T.r p hp)),
    fun c hc => ⟨o (h.cF c hc).1 (some_ne (h.k.ch c hc).1), o (h.cF c hc).2 (some_ne (h.k.ch c hc).2.1)⟩, List.mem_append_right _ h.aF, List.mem_append_right _ h.lF, h.bq, h.bc⟩
theorem KOk.less {F X : List Addr} {H : Hp} {C : Addr} {n m B : Nat} {r : KR} (h : KOk (X ++ F) H C n m B r) (ha : r.a ∈ F) (hl : r.l ∈ F) : KOk F H C n m B r := by
  have o : ∀ {y : Addr}, y ∉ X ++ F → y ∉ F := fun h1 z => h1 (List.mem_append_right _ z)
  exact ⟨h.k, ⟨h.s.d, h.s.tb, h.s.ok, h.s.e, h.s.ch, h.s.len, o h.s.dS, o h.s.tS, o h.s.eS, fun p hp => o (h.s.pS p hp), fun c hc => ⟨o (h.s.cS c hc).1, o (h.s.cS c hc).2⟩⟩, h.eq, h.tr, h.hst, h.hn, h.hm, o h.tF, fun p hp => o (h.pF p hp), fun c hc => ⟨o (h.cF c hc).1, o (h.cF c hc).2⟩, ha, hl, h.bq, h.bc⟩
structure K1 (F : List Addr) (H : Hp) (C st a l : Addr) (n m B : Nat) (r : KR) : Prop where
  sto : StK H st
  ok : KOk F H C n m B r
  ra : r.a = a
  rl : r.l = l
  na : a ≠ st
  nl : l ≠ st
  stF : st ∈ F
  live : ∀ b ∈ F, H b ≠ none
section
variable {F : List Addr} {H H' : Hp} {C st a l : Addr} {n m B : Nat} {r : KR}
theorem K1.aF (h : K1 F H C st a l n m B r) : a ∈ F := by have := h.ok.aF; rw [h.ra] at this; exact this
theorem K1.lF (h : K1 F H C st a l n m B r) : l ∈ F := by have := h.ok.lF; rw [h.rl] at this; exact this
theorem K1.x {X : List Addr} (h : K1 F H C st a l n m B r) (b : ButS X H H') (hX : ∀ x ∈ X, x ∈ F) (hl : ∀ x ∈ X, H' x ≠ none) (na : a ∉ X) (nl : l ∉ X) (s : StK H' st) : K1 F H' C st a l n m B r :=
  ⟨s, h.ok.fr b hX (by rw [h.ra]; exact na) (by rw [h.rl]; exact nl), h.ra, h.rl, h.na, h.nl, h.stF, live_but h.live b hl⟩
theorem K1.sts (h : K1 F H C st a l n m B r) (b : But st H H') (s : StK H' st) : K1 F H' C st a l n m B r :=
  h.x (X := [st]) (fun y o ny e => b y o (fun z => ny (by rw [z]; exact .head _)) e) (fun x hx => by rw [List.mem_singleton.mp hx]; exact h.stF) (fun x hx => by
    obtain ⟨_, _, _, e⟩ := s
    rw [List.mem_singleton.mp hx]
    exact some_ne e) (fun z => h.na (List.mem_singleton.mp z)) (fun z => h.nl (List.mem_singleton.mp z)) s
theorem K1.same (h : K1 F H C st a l n m B r) (s : Same H H') : K1 F H' C st a l n m B r := h.sts (Same.but s) (h.sto.same s)
theorem K1.mono {B' : Nat} (h : K1 F H C st a l n m B r) (hB : B ≤ B') : K1 F H C st a l n m B' r := ⟨h.sto, h.ok.mono hB, h.ra, h.rl, h.na, h.nl, h.stF, h.live⟩
theorem K1.kp (h : K1 F H C st a l n m B r) : Keep H C a r.dx r.t l r.prs r.chs := by
  have := h.ok.k
  rw [h.ra, h.rl] at this
  exact this
end
theorem K1.moved {Ha Hb Hd He Hx : Hp} {C st a l : Addr} {n m B : Nat} {r : KR} {F : List Addr} (h : K1 F Ha C st a l n m B r) (sab : Same Ha Hb) (sbd : Same Hb Hd) {T2 E2 : Addr} {qs2 : Prs} {ech2 : Ch} (nT : Ha T2 = none) (nq : ∀ p ∈ qs2, Ha p.1 = none) (nE : Ha E2 = none) (hT : Tab Hb T2 qs2) (hE : Hb E2 = some (.lst (ech2.map fun c => V.ref c.1)))
    {t' : Addr} {prs' : Prs} {chs' : Ch} (nt : Hd t' = none) (np : ∀ p ∈ prs', Hd p.1 = none) (frm : ∀ b o, b ≠ a → b ≠ l → Hd b = some o → He b = some o) (hk : Keep He C a r.dx t' l prs' chs') {i j : Nat} {x : Int} (hq2 : qs2.map (·.2) = setR (r.qs.map (·.2)) i j x) (hrows : prs'.map (·.2) = setR (r.prs.map (·.2)) i j x) (hx : x.natAbs ≤ B + 1)
    (tr : ech2.map tri = chs'.map tri) (hst : Hst (prs'.map (·.2)) (chs'.map tri).reverse) (he : ∀ c ∈ ech2, Hb c.1 = some (.tup [.ref c.2.1, .int c.2.2.2.2]) ∧ Cell Hb c.2.1 c.2.2.1 c.2.2.2.1 ∧ c.2.2.1 < n ∧ c.2.2.2.1 < m ∧ c.1 ∉ F ∧ c.2.1 ∉ F) (hlen : ech2.length ≤ 100)
    {X : List Addr} (hX : ∀ y ∈ X, Hb y = none ∧ Hd y ≠ none) (hc : ∀ c ∈ chs', (c.1 ∉ F ∧ c.1 ∉ X) ∧ (c.2.1 ∉ F ∧ c.2.1 ∉ X)) (bc : ∀ c ∈ chs', c.2.2.2.2.natAbs ≤ B + 1) {D2 : Addr} (nD : D2 ∉ X ++ F) (b5 : ButS X He Hx) (eD : Hx D2 = some (.tup [.ref T2, .ref E2])) :
    K1 F Hx C st a l n m (B + 1) ⟨a, r.dx, l, t', prs', chs', D2, T2, E2, qs2, ech2⟩ := by
  have lv := h.live
  have oX : ∀ {y : Addr}, Hb y ≠ none → y ∉ X := fun hy z => hy (hX _ z).1
  have oX2 : ∀ {y : Addr}, Hd y = none → y ∉ X := fun hy z => (hX _ z).2 hy
  have oF : ∀ {y : Addr}, Ha y = none → y ∉ F := fun hy z => lv _ z hy
  have oF2 : ∀ {y : Addr}, Hd y = none → y ∉ F := fun hy z => (sab.trans sbd).live (lv _ z) hy
  have app : ∀ {y : Addr}, y ∉ X → y ∉ F → y ∉ X ++ F := fun h1 h2 z => (List.mem_append.mp z).elim h1 h2
  have hra := h.ra
  have hrl := h.rl
  obtain ⟨wl, ww⟩ := w0_set hrows
  have ok := (h.ok.add (X := X) fun y hy => sab.free (hX y hy).1).movedX (H2 := Hd) (H3 := He) (H5 := Hx) (X := X) (B' := B + 1) (app (oX (some_ne hT.l)) (oF nT)) (fun p hp => app (oX (some_ne (hT.r p hp))) (oF (nq p hp))) (app (oX (some_ne hE)) (oF nE)) (hT.same sbd) (sbd _ _ hE) (app (oX2 nt) (oF2 nt)) (fun p hp => app (oX2 (np p hp)) (oF2 (np p hp)))
    (fun y o h1 h2 e => frm y o (by rw [← hra]; exact h1) (by rw [← hrl]; exact h2) e) (by rw [hra, hrl]; exact hk) (by rw [hq2, hrows, h.ok.eq]) (wl.trans h.ok.hn) (ww.trans h.ok.hm) tr hst (fun c hc' => let ⟨z1, z2, z3, z4, z5, z6⟩ := he c hc'; ⟨sbd _ _ z1, sbd _ _ z2, z3, z4, app (oX (some_ne z1)) z5, app (oX (some_ne z2)) z6⟩) hlen
    (fun c hc' => ⟨app (hc c hc').1.2 (hc c hc').1.1, app (hc c hc').2.2 (hc c hc').2.1⟩) (bnd_set h.ok.bq hq2 hx (Nat.le_succ _)) bc nD b5 (fun x hx => List.mem_append_left _ hx) (oX (by rw [hra]; exact sab.live (lv _ h.aF))) (oX (by rw [hrl]; exact sab.live (lv _ h.lF))) eD
  have ok2 := ok.less (by show r.a ∈ _; rw [hra]; exact h.aF) (by show r.l ∈ _; rw [hrl]; exact h.lF)
  rw [hra, hrl] at ok2
  refine ⟨?_, ok2, rfl, rfl, h.na, h.nl, h.stF, fun y hy => ?_⟩
  rotate_left
  · have hd := (sab.trans sbd).live (lv y hy)
    have he' : He y ≠ none := by
      by_cases z1 : y = a
      · rw [z1]; exact some_ne hk.ob
      · by_cases z2 : y = l
        · rw [z2]; exact some_ne hk.L
        · cases e : Hd y with
          | none => exact absurd e hd
          | some o => exact some_ne (frm y o z1 z2 e)
    cases e : He y with
    | none => exact absurd e he'
    | some o => exact some_ne (b5 y o (oX (sab.live (lv y hy))) e)
  obtain ⟨y1, y2, y3, e⟩ := h.sto
  exact ⟨y1, y2, y3, b5 _ _ (oX (some_ne (sab _ _ e))) (frm _ _ (Ne.symm h.na) (Ne.symm h.nl) (sbd _ _ (sab _ _ e)))⟩
theorem shaped_two (x y : Int) : SeqAt.shaped (.tuple [.int x, .int y]) = true := rfl
theorem eqv_two (x y : Int) : PyData.eqv (.tuple [.int x, .int y]) (.tuple [.int x, .int y]) = true := by simp [PyData.eqv, PyData.eqvAll]
theorem rd_two {K : PySem.W.Frag} {H : Hp} {p : Addr} {x y : Int} (h : H p = some (.tup [.int x, .int y])) : RdD K H (.ref p) (.tuple [.int x, .int y]) := .tup (SqT.of h) (.cons (.int x) (.cons (.int y) .nil))
theorem boot_repr : bootBuiltins "repr" = some (.builtin "repr") := by kernel_rfl
theorem sizeM {n : Nat} (h : n ≤ 1000000) : n ≤ sizeLine := Nat.le_trans h (by decide)
theorem DeedOk.rd {S : List Addr} {n m B : Nat} {H : Hp} {v : V} (h : DeedOk S n m B H v) (hn : n ≤ 6) (hm : m ≤ 6) (hB : B < 10 ^ 40) : ∃ d, RdS S H v d ∧ Sz 10000 20 d := by
  rcases h with rfl | ⟨D, cv, xv, rfl, hD, nD, hx, hc⟩
  · exact ⟨_, .non, sz_none.mono (by decide) (by decide)⟩
  · have hx' : ∃ d, RdS S H xv d ∧ Sz 3000 6 d := by
      rcases hx with ⟨x, rfl, hx⟩ | ⟨d, r, bd⟩
      · exact ⟨_, .int x, (sz_int (Nat.lt_of_le_of_lt hx hB)).mono (by decide) (by decide)⟩
      · exact ⟨d, r, bd.2.mono (by decide) (by decide)⟩
    have hc' : ∃ d, RdS S H cv d ∧ Sz 3000 6 d := by
      rcases hc with ⟨d, r, bd⟩ | ⟨c, i, j, rfl, hc, nc, hi, hj⟩
      · exact ⟨d, r, bd.2⟩
      · exact ⟨_, .tup hc nc (.cons (.int _) (.cons (.int _) .nil)), (sz_two (sz_small ⟨by omega, by omega⟩ hn : Sz 41 0 (.int (i : Nat))) (sz_small ⟨by omega, by omega⟩ hm : Sz 41 0 (.int (j : Nat)))).mono (by decide) (by decide)⟩
    obtain ⟨d1, r1, z1⟩ := hc'
    obtain ⟨d2, r2, z2⟩ := hx'
    exact ⟨_, .tup hD nD (.cons r1 (.cons r2 .nil)), (sz_two z1 z2).mono (by decide) (by decide)⟩
theorem DeedOk.but {S : List Addr} {n m B : Nat} {H H' : Hp} {v : V} (h : DeedOk S n m B H v) (b : ButS S H H') : DeedOk S n m B H' v := by
  rcases h with h | ⟨D, cv, xv, e, hD, nD, hx, hc⟩
  · exact .inl h
  · refine .inr ⟨D, cv, xv, e, b _ _ nD hD, nD, ?_, CvOk.but hc b⟩
    rcases hx with h | ⟨d, r, z⟩
    · exact .inl h
    · exact .inr ⟨d, rds_but r b, z⟩
section
variable {P : Program} {w : World} {K : PySem.W.Frag} {mg : Str → Option Value} {base : Heap} {C : Addr}
def spDeedR (C : Addr) : Sp := fun vs H Q _ => ∃ (F : List Addr) (st a l : Addr) (n m B Bx : Nat) (r : KR) (v : V), vs = [.ref a, .ref r.D, v] ∧ K1 F H C st a l n m B r ∧ DeedOk F n m Bx H v ∧ Bx ≤ B + 1 ∧ B + 1 < 10 ^ 40 ∧ r.ech.length < 100 ∧
  ∀ H' r', ButS [a, l] H H' → K1 F H' C st a l n m (B + 1) r' → r'.ech.length ≤ r.ech.length + 1 → Q (.ref r'.D) H'
theorem sc_deedR : FnScope ["keeper", "state", "deed", "kept", "due", "found"] ["keeper", "state", "deed"] (defScope dDeedR) := ⟨rfl, rfl, rfl, by decide +kernel, rfl, by decide +kernel, by decide +kernel⟩
set_option maxHeartbeats 8000000 in
theorem ok_deedR (T : Blt mg) (htup : mg "tuple" = none) (hstr : mg "str" = none) (hre : mg "repr" = none) (Df : DefAt K mg "_law_deed_right" dDeedR ["keeper", "state", "deed"]) (G8 : FnAt P w K mg base 3 "_law_due" ["state", "deed"] spDue) (G9 : FnAt P w K mg base 9 "_law_asked" ["keeper", "deed", "due"] (spAsked C)) :
    FnAt P w K mg base 10 "_law_deed_right" ["keeper", "state", "deed"] (spDeedR C) := by
  refine FnAt.of Df sc_deedR (fun vs H Q E h => ?_) (fun f cdv A outer s H vs Q E hr h => ?_)
  · obtain ⟨F, st, a, l, n, m, B, Bx, r, v, rfl, _⟩ := h
    rfl
  · obtain ⟨F, st, a, l, n, m, B, Bx, r, v, rfl, hK, hdeed, hBx, hB40, hlen, q⟩ := h
    have nd := sc_deedR.nd
    have nd1 : (["one"] : List Str).Nodup := by decide +kernel
    have hqn : r.qs.length = n := by
      have := congrArg List.length hK.ok.eq
      simp only [List.length_map] at this
      have := hK.ok.hn
      omega
    have hqm : w0 r.qs = m := by rw [← wR_w0, hK.ok.eq, wR_w0]; exact hK.ok.hm
    have hcl : r.chs.length < 1000 := by
      have := congrArg List.length hK.ok.tr
      simp only [List.length_map] at this
      omega
    obtain ⟨g, g1, g2, g3, g4⟩ := good_of hK.ok.s.ok
    obtain ⟨d, rd, hsz⟩ := hdeed.rd (by omega) (by omega) (by omega)
    have rd' : RdS [] H v d := rd.move (fun _ _ _ e => e) (fun _ _ => by simp)
    refine ⟨_, pss_cons (ps_set (i := 3) nd rfl (Or.inl rfl) (pe_b (call_reprS hr.gd hr.units) hre boot_repr (pa_cons (pv 2) pa_nil)))
      (pss_cons (ps_set (i := 4) nd rfl (Or.inl rfl) (pe_f G8 (hr.mono (by decide)) (pa_cons (pv 1) (pa_cons (pv 2) pa_nil))))
      (pss_cons (ps_set (i := 5) nd rfl (Or.inl rfl) (pe_f G9 hr (pa_cons (pv 0) (pa_cons (pv 2) (pa_cons (pv 4) pa_nil)))))
      (pss_cons (ps_if (pt_cmpR op_ne (pe_b (call_reprS hr.gd hr.units) hre boot_repr (pa_cons (pv 2) pa_nil)) (pv 3) (nomark _)) (pss_one (ps_ret pe_non)) pss_nil)
      (pss_cons (ps_if (pt_val (pe_b call_isinst T.isinst boot_isinstance (pa_cons (pv 4) (pa_cons (pe_ty hstr boot_str') pa_nil)))) (pss_one (ps_ret (pe_ix ix_list (pe_lst (pa_cons pe_non (pa_cons (pv 1) pa_nil))) (pe_t call_int1 T.int boot_int (pa_cons (pe_cmpR op_eq (pv 5) (pv 4) (nomark _)) pa_nil)) (fun _ _ => rfl)))) pss_nil)
      (pss_cons (ps_if (PW.pt (pw_or (pt_not (pt_val (pe_b call_isinst T.isinst boot_isinstance (pa_cons (pv 5) (pa_cons (pe_ty htup boot_tuple) pa_nil))))) (pw_or (pt_cmpR (op_neD hr.units) (pv 5) (pe_ix ix_tup (pv 4) pe_int (fun _ _ => rfl)) (nomark _)) (pw_or1 (pt_cmpR op_in_seq pe_bl (pe_comp ["one"] [none] (defScope dDeedR) ["keeper", "state", "deed", "kept", "due", "found"] rfl (pi_tup (pv 5)) (by decide +kernel)
        (fun cl C s2 H2 ex => pg_c 0 nd1) (fun cl C s2 H2 ex => pifs_nil) (fun cl C s2 H2 ex => pe_b (isiK K) T.isinst boot_isinstance (pa_cons (pv 0) (pa_cons (pe_ty T.bool boot_bool) pa_nil)))) rfl))))) (pss_one (ps_ret pe_non)) pss_nil)
      (pss_one (ps_ret (pe_tup (pa_cons (pe_ix ix_tup (pv 4) pe_int (fun _ _ => rfl)) (pa_cons (pe_ix ix_tup (pv 4) pe_int (fun _ _ => rfl)) pa_nil)))))))))), ?_⟩
    refine ⟨_, rfl, _, d, rfl, rd', hsz.1, sizeM (Nat.le_trans hsz.2 (by decide)), Nat.le_trans hsz.3 (by decide), _, rfl, _, rfl, ?_⟩
    dsimp only [tNil]
    rcases deed_cls (rows := r.qs.map (·.2)) hdeed with rfl | ⟨wd, hcr⟩ | ⟨Dd, c, ci, cj, x, rfl, hcf, nDd, nc, hx⟩
    · rcases last_both hK.ok.tr with ⟨e1, e2⟩ | ⟨e0, c0, u, c, u', c', ci, cj, b, e1, e2, e3⟩
      · refine ⟨_, _, _, _, _, _, rfl, hK.ok.s.nil, .inl ⟨rfl, .inl ⟨e1, fun Hb sb => ?_⟩⟩⟩
        refine ⟨_, rfl, _, rfl, _, rfl, ?_⟩
        dsimp only [tNil]
        refine ⟨_, _, _, _, _, _, _, _, rfl, (hK.same sb).kp, hcl, .inl ⟨rfl, e2, rfl, fun Hx sx => ?_⟩⟩
        have s2 := sb.trans sx
        have bt : ButS F H Hx := Same.butS s2
        refine ⟨_, rfl, _, d, rfl, (rds_but rd bt).move (fun _ _ _ e => e) (fun _ _ => by simp), hsz.1, sizeM (Nat.le_trans hsz.2 (by decide)), Nat.le_trans hsz.3 (by decide), _, rfl, rfl, _, rfl, ?_⟩
        rw [decide_eq_true rfl]
        refine iteF ?_
        refine ⟨_, rfl, .str "change", "str", _, true, rfl, .str _, by kernel_rfl, _, rfl, iteT ⟨_, rfl, len2, fun L hL => ⟨_, rfl, _, rfl, rfl, .inr ⟨_, rfl, L, _, 1, .ref r.D, rfl, ?_, SqL.of upd_same, rfl, ?_⟩⟩⟩⟩
        · rw [decide_eq_true rfl]
          rfl
        · exact q _ r (Same.butS (s2.trans (Same.new hL))) ((hK.same (s2.trans (Same.new hL))).mono (Nat.le_succ _)) (Nat.le_succ _)
      · have hst := hK.ok.hst
        rw [e2, List.map_append, List.reverse_append] at hst
        obtain ⟨hst1, hst2⟩ := hst
        refine ⟨_, _, _, _, _, _, rfl, hK.ok.s.nil, .inl ⟨rfl, .inr ⟨e0, u, c, ci, cj, b, e1, fun rd0 T2 qs2 E2 ech2 tA Hb sb nrd nT nq nE ntA erd hT2 hq2 hE2 etA hW => ?_⟩⟩⟩
        have hW : ech2 = e0 := hW
        subst hW
        have hKb := hK.same sb
        refine ⟨_, rfl, _, rfl, _, rfl, ?_⟩
        dsimp only [tNil]
        refine ⟨_, _, _, _, _, _, _, _, rfl, hKb.kp, hcl, .inr (.inl ⟨rfl, c0, u', c', ci, cj, b, e2, hst1, fun t' prs' chs' fr He nt np frm hrows efr nfr nfa nfl hWc hk3 => ?_⟩)⟩
        have hWc : chs' = c0 := hWc
        subst hWc
        have fra : ∀ {y : Addr}, H y = none → y ≠ a ∧ y ≠ l := fun hy => ⟨(live_ne (hK.live _ hK.aF) hy).symm, (live_ne (hK.live _ hK.lF) hy).symm⟩
        have erdE := frm _ _ (fra nrd).1 (fra nrd).2 erd
        have etAE := frm _ _ (fra ntA).1 (fra ntA).2 etA
        rw [hK.ok.eq] at etAE
        have bt : ButS F H He := fun y o ny e => frm y o (fun z => ny (by rw [z]; exact hK.aF)) (fun z => ny (by rw [z]; exact hK.lF)) (sb _ _ e)
        refine ⟨_, rfl, _, d, rfl, (rds_but rd bt).move (fun _ _ _ e => e) (fun _ _ => by simp), hsz.1, sizeM (Nat.le_trans hsz.2 (by decide)), Nat.le_trans hsz.3 (by decide), _, rfl, rfl, _, rfl, ?_⟩
        rw [decide_eq_true rfl]
        refine iteF ?_
        refine ⟨_, rfl, .ref rd0, "str", _, false, rfl, .tup erdE, by kernel_rfl, _, rfl, iteF ?_⟩
        refine ⟨_, rfl, .ref fr, "tuple", _, true, rfl, .tup efr, by kernel_rfl, _, rfl, iteF ⟨_, rfl, _, rfl, rd0, _, 2, .ref tA, rfl, rfl, SqT.of erdE, rfl, _, _, rd_two efr, rd_two etAE, shaped_two _ _, shaped_two _ _, _, rfl, ?_⟩⟩
        rw [eqv_two]
        refine iteF ⟨_, rfl, fr, rfl, ⟨_, SqT.of efr⟩, comp_tup V.int (fun _ => .bl false) (ms := [_, _]) (SqT.of efr) len2 (fun z hz H' Q' sm q' => ⟨_, rfl, _, _, _, _, rfl, .int z, by kernel_rfl, q' _ (Same.refl _)⟩) fun D1 Hf hD1 sf hDl => ?_⟩
        refine ⟨D1, _, rfl, .inl (SqL.of hDl), rfl, flat_no _, _, rfl, ?_⟩
        rw [inV_no]
        have erdF := sf _ _ erdE
        refine iteF ⟨_, rfl, rd0, _, 0, .ref T2, rfl, rfl, SqT.of erdF, rfl, _, rfl, rd0, _, 1, .ref E2, rfl, rfl, SqT.of erdF, rfl, len2, fun D2 hD2 => ?_⟩
        have mD := Same.new (o := .tup [.ref T2, .ref E2]) hD2
        have eD : (upd Hf D2 (.tup [.ref T2, .ref E2])) D2 = some (.tup [.ref T2, .ref E2]) := upd_same
        generalize upd Hf D2 (.tup [.ref T2, .ref E2]) = Hx at mD eD ⊢
        have sfx := sf.trans mD
        have lve : ∀ y ∈ F, He y ≠ none := fun y hy => by
          have hy' := hKb.live y hy
          by_cases z1 : y = a
          · rw [z1]; exact some_ne hk3.ob
          · by_cases z2 : y = l
            · rw [z2]; exact some_ne hk3.L
            · cases e : Hb y with
              | none => exact absurd e hy'
              | some o => exact some_ne (frm y o z1 z2 e)
        have bx : ButS [a, l] H Hx := fun y o ny e => sfx _ _ (frm y o (fun z => ny (by rw [z]; simp)) (fun z => ny (by rw [z]; simp)) (sb _ _ e))
        have hb' : b.natAbs ≤ B := hK.ok.bc (u', c', ci, cj, b) (by rw [e2]; exact List.mem_append_right _ (.head _))
        have hKx := hK.moved sb (Same.refl _) nT nq nE hT2 hE2 nt np frm hk3 hq2 hrows (by omega) e3 (by rw [hrows]; exact hst2) (fun d hd => ?_) ?_ (X := []) (fun y hy => nomatch hy) (fun d hd => ⟨⟨(hK.ok.cF d (by rw [e2]; exact List.mem_append_left _ hd)).1, by simp⟩, (hK.ok.cF d (by rw [e2]; exact List.mem_append_left _ hd)).2, by simp⟩) (fun d hd => Nat.le_succ_of_le (hK.ok.bc d (by rw [e2]; exact List.mem_append_left _ hd))) (fun z => sf.live (lve D2 z) hD2) (Same.butS sfx) eD
        · exact q Hx _ bx hKx (by show ech2.length ≤ _; rw [e1, List.length_append]; omega)
        · have hd' : d ∈ r.ech := by rw [e1]; exact List.mem_append_left _ hd
          obtain ⟨z1, z2, z3, z4⟩ := hK.ok.s.ch d hd'
          exact ⟨sb _ _ z1, sb _ _ z2, by omega, by omega, (hK.ok.s.cS d hd').1, (hK.ok.s.cS d hd').2⟩
        · rw [e1, List.length_append] at hlen
          omega
    · refine due_ref hcr hK.ok.s.nil rfl hqn hqm fun Hb sb => ?_
      refine ⟨_, rfl, _, rfl, _, rfl, ?_⟩
      dsimp only [tNil]
      refine asked_ref (hcr.same sb) (hK.same sb).kp hK.ok.eq.symm hK.ok.hn hK.ok.hm hcl fun Hx sx => ?_
      have s2 := sb.trans sx
      have bt : ButS F H Hx := Same.butS s2
      refine ⟨_, rfl, _, d, rfl, (rds_but rd bt).move (fun _ _ _ e => e) (fun _ _ => by simp), hsz.1, sizeM (Nat.le_trans hsz.2 (by decide)), Nat.le_trans hsz.3 (by decide), _, rfl, rfl, _, rfl, ?_⟩
      rw [decide_eq_true rfl]
      refine iteF ?_
      refine ⟨_, rfl, .str wd, "str", _, true, rfl, .str _, by kernel_rfl, _, rfl, iteT ⟨_, rfl, len2, fun L hL => ⟨_, rfl, _, rfl, rfl, .inr ⟨_, rfl, L, _, 1, .ref r.D, rfl, ?_, SqL.of upd_same, rfl, ?_⟩⟩⟩⟩
      · rw [decide_eq_true rfl]
        rfl
      · exact q _ r (Same.butS (s2.trans (Same.new hL))) ((hK.same (s2.trans (Same.new hL))).mono (Nat.le_succ _)) (Nat.le_succ _)
    · refine due_fit hcf hK.ok.s.nil rfl hqn hqm fun rd0 T2 qs2 E2 ech2 tA Hb sb nrd nT nq nE ntA erd hT2 hq2 hE2 etA hW => ?_
      obtain ⟨u, nu, hW, eu⟩ := hW
      subst hW
      obtain ⟨hDd, hc, hci, hcj, hbt⟩ := hcf
      have hKb := hK.same sb
      refine ⟨_, rfl, _, rfl, _, rfl, ?_⟩
      dsimp only [tNil]
      refine asked_fit ⟨sb _ _ hDd, sb _ _ hc, hci, hcj, hbt⟩ hKb.kp hK.ok.eq.symm hK.ok.hn hK.ok.hm hcl fun t' prs' chs' fr He nt np frm hrows efr nfr nfa nfl hWc hk3 => ?_
      obtain ⟨u2, nu2, hWc⟩ := hWc
      subst hWc
      have fra : ∀ {y : Addr}, H y = none → y ≠ a ∧ y ≠ l := fun hy => ⟨(live_ne (hK.live _ hK.aF) hy).symm, (live_ne (hK.live _ hK.lF) hy).symm⟩
      have erdE := frm _ _ (fra nrd).1 (fra nrd).2 erd
      have etAE := frm _ _ (fra ntA).1 (fra ntA).2 etA
      have bt : ButS F H He := fun y o ny e => frm y o (fun z => ny (by rw [z]; exact hK.aF)) (fun z => ny (by rw [z]; exact hK.lF)) (sb _ _ e)
      refine ⟨_, rfl, _, d, rfl, (rds_but rd bt).move (fun _ _ _ e => e) (fun _ _ => by simp), hsz.1, sizeM (Nat.le_trans hsz.2 (by decide)), Nat.le_trans hsz.3 (by decide), _, rfl, rfl, _, rfl, ?_⟩
      rw [decide_eq_true rfl]
      refine iteF ?_
      refine ⟨_, rfl, .ref rd0, "str", _, false, rfl, .tup erdE, by kernel_rfl, _, rfl, iteF ?_⟩
      refine ⟨_, rfl, .ref fr, "tuple", _, true, rfl, .tup efr, by kernel_rfl, _, rfl, iteF ⟨_, rfl, _, rfl, rd0, _, 2, .ref tA, rfl, rfl, SqT.of erdE, rfl, _, _, rd_two efr, rd_two etAE, shaped_two _ _, shaped_two _ _, _, rfl, ?_⟩⟩
      rw [eqv_two]
      refine iteF ⟨_, rfl, fr, rfl, ⟨_, SqT.of efr⟩, comp_tup V.int (fun _ => .bl false) (ms := [_, _]) (SqT.of efr) len2 (fun z hz H' Q' sm q' => ⟨_, rfl, _, _, _, _, rfl, .int z, by kernel_rfl, q' _ (Same.refl _)⟩) fun D1 Hf hD1 sf hDl => ?_⟩
      refine ⟨D1, _, rfl, .inl (SqL.of hDl), rfl, flat_no _, _, rfl, ?_⟩
      rw [inV_no]
      have erdF := sf _ _ erdE
      refine iteF ⟨_, rfl, rd0, _, 0, .ref T2, rfl, rfl, SqT.of erdF, rfl, _, rfl, rd0, _, 1, .ref E2, rfl, rfl, SqT.of erdF, rfl, len2, fun D2 hD2 => ?_⟩
      have mD := Same.new (o := .tup [.ref T2, .ref E2]) hD2
      have eD : (upd Hf D2 (.tup [.ref T2, .ref E2])) D2 = some (.tup [.ref T2, .ref E2]) := upd_same
      generalize upd Hf D2 (.tup [.ref T2, .ref E2]) = Hx at mD eD ⊢
      have sfx := sf.trans mD
      have lve : ∀ y ∈ F, He y ≠ none := fun y hy => by
        have hy' := hKb.live y hy
        by_cases z1 : y = a
        · rw [z1]; exact some_ne hk3.ob
        · by_cases z2 : y = l
          · rw [z2]; exact some_ne hk3.L
          · cases e : Hb y with
            | none => exact absurd e hy'
            | some o => exact some_ne (frm y o z1 z2 e)
      have bx : ButS [a, l] H Hx := fun y o ny e => sfx _ _ (frm y o (fun z => ny (by rw [z]; simp)) (fun z => ny (by rw [z]; simp)) (sb _ _ e))
      have hcb : (cellR (r.qs.map (·.2)) ci cj).natAbs ≤ B := cell_bnd hK.ok.s.ok hK.ok.bq (by omega) (by omega)
      have nuF : u ∉ F := fun z => hK.live _ z nu
      have nu2F : u2 ∉ F := fun z => sb.live (hK.live _ z) nu2
      have hKx := hK.moved (X := []) sb (Same.refl _) nT nq nE hT2 hE2 nt np frm hk3 hq2 (by rw [hrows, hK.ok.eq]) (by omega) ?_ ?_ (fun d hd => ?_) ?_ (fun y hy => nomatch hy) (fun d hd => ?_) (fun d hd => ?_) (fun z => sf.live (lve D2 z) hD2) (Same.butS sfx) eD
      · exact q Hx _ bx hKx (by show (r.ech ++ [_]).length ≤ _; rw [List.length_append]; exact Nat.le_refl _)
      · rw [List.map_append, List.map_append, hK.ok.tr]
        rfl
      · rw [hrows, List.map_append, List.reverse_append]
        have e : setR (setR (r.qs.map (·.2)) ci cj x) ci cj (cellR (r.qs.map (·.2)) ci cj) = r.qs.map (·.2) := setR_back cj x (by rw [List.length_map]; omega)
        refine ⟨?_, ?_⟩
        · show rowsOk (setR (setR (r.qs.map (·.2)) ci cj x) ci cj (cellR (r.qs.map (·.2)) ci cj)) = true
          rw [e, ← rowsOk_of rfl]
          exact hK.ok.s.ok
        · show Hst (setR (setR (r.qs.map (·.2)) ci cj x) ci cj (cellR (r.qs.map (·.2)) ci cj)) _
          rw [e, hK.ok.eq]
          exact hK.ok.hst
      · rcases List.mem_append.mp hd with z | z
        · obtain ⟨z1, z2, z3, z4⟩ := hK.ok.s.ch d z
          exact ⟨sb _ _ z1, sb _ _ z2, by omega, by omega, (hK.ok.s.cS d z).1, (hK.ok.s.cS d z).2⟩
        · rw [List.mem_singleton.mp z]
          exact ⟨eu, sb _ _ hc, hci, hcj, nuF, nc⟩
      · rw [List.length_append]
        show r.ech.length + 1 ≤ 100
        omega
      · rcases List.mem_append.mp hd with z | z
        · exact ⟨⟨(hK.ok.cF d z).1, by simp⟩, (hK.ok.cF d z).2, by simp⟩
        · rw [List.mem_singleton.mp z]
          exact ⟨⟨nu2F, by simp⟩, nc, by simp⟩
      · rcases List.mem_append.mp hd with z | z
        · exact Nat.le_succ_of_le (hK.ok.bc d z)
        · rw [List.mem_singleton.mp z]
          exact Nat.le_succ_of_le hcb
end
def appR (rows : List (List Int)) : List (List Int) := (List.range rows.length).map fun k => rows.getD k [] ++ [(k : Int)]
def appP (prs : Prs) : Prs := (List.range prs.length).map fun k => ((prs.getD k (0, [])).1, (prs.getD k (0, [])).2 ++ [(k : Int)])
theorem appP_rows (prs : Prs) : (appP prs).map (·.2) = appR (prs.map (·.2)) := by
  unfold appP appR
  rw [List.map_map, List.length_map]
  apply List.map_congr_left
  intro k hk
  have hk := List.mem_range.mp hk
  show (prs.getD k (0, [])).2 ++ [(k : Int)] = (prs.map (·.2)).getD k [] ++ [(k : Int)]
  rw [List.getD_eq_getElem?_getD, List.getD_eq_getElem?_getD, List.getElem?_map, List.getElem?_eq_getElem hk]
  rfl
theorem appP_refs (prs : Prs) : ((appP prs).map fun p => V.ref p.1) = prs.map fun p => V.ref p.1 := by
  apply List.ext_getElem?
  intro k
  unfold appP
  rw [List.map_map, List.getElem?_map, List.getElem?_map]
  by_cases h : k < prs.length
  · rw [List.getElem?_range h, List.getElem?_eq_getElem h]
    show some (V.ref (prs.getD k (0, [])).1) = some (V.ref prs[k].1)
    rw [List.getD_eq_getElem?_getD, List.getElem?_eq_getElem h]
    rfl
  · rw [List.getElem?_eq_none (by rw [List.length_range]; omega), List.getElem?_eq_none (by omega)]
    rfl
theorem nodup_at {α : Type} {xs : List α} {i j : Nat} {x : α} (h : xs.Nodup) (h1 : xs[i]? = some x) (h2 : xs[j]? = some x) : i = j := by
  obtain ⟨hi, e1⟩ := List.getElem?_eq_some_iff.mp h1
  obtain ⟨hj, e2⟩ := List.getElem?_eq_some_iff.mp h2
  have hp := List.pairwise_iff_getElem.mp h
  rcases Nat.lt_trichotomy i j with z | z | z
  · exact absurd (e1.trans e2.symm) (hp i j hi hj z)
  · exact z
  · exact absurd (e2.trans e1.symm) (hp j i hj hi z)
structure HE (K : PySem.W.Frag) (S : List Addr) (H : Hp) (e : Addr × V × V × PyData) : Prop where
  rd : ∀ H', ButS S H H' → H' e.1 = some (.tup [e.2.1, e.2.2.1]) ∧ RdD K H' e.2.1 e.2.2.2 ∧ RdD K H' e.2.2.1 e.2.2.2
  sh : SeqAt.shaped e.2.2.2 = true
  eq : PyData.eqv e.2.2.2 e.2.2.2 = true
theorem HE.but {K : PySem.W.Frag} {S : List Addr} {H H' : Hp} {e : Addr × V × V × PyData} (h : HE K S H e) (b : ButS S H H') : HE K S H' e := ⟨fun H2 b2 => h.rd H2 (b.trans b2), h.sh, h.eq⟩
structure KH (K : PySem.W.Frag) (F : List Addr) (H : Hp) (C st a l hd : Addr) (n m B : Nat) (r : KR) (hs : List (Addr × V × V × PyData)) : Prop where
  k : K1 F H C st a l n m B r
  h : H hd = some (.lst (hs.map fun e => V.ref e.1))
  e : ∀ e ∈ hs, HE K F H e
  hF : hd ∈ F
  ns : hd ≠ st
  na : hd ≠ a
  nl : hd ≠ l
theorem KH.sts {K : PySem.W.Frag} {F : List Addr} {H H' : Hp} {C s0 a l hd : Addr} {n m B : Nat} {r : KR} {hs : List (Addr × V × V × PyData)} (h : KH K F H C s0 a l hd n m B r hs) (b : But s0 H H') (s : StK H' s0) : KH K F H' C s0 a l hd n m B r hs :=
  ⟨h.k.sts b s, b _ _ h.ns h.h, fun e he => (h.e e he).but fun y o ny z => b y o (fun w => ny (by rw [w]; exact h.k.stF)) z, h.hF, h.ns, h.na, h.nl⟩
theorem KH.same {K : PySem.W.Frag} {F : List Addr} {H H' : Hp} {C st a l hd : Addr} {n m B : Nat} {r : KR} {hs : List (Addr × V × V × PyData)} (h : KH K F H C st a l hd n m B r hs) (s : Same H H') : KH K F H' C st a l hd n m B r hs := h.sts (Same.but s) (h.k.sto.same s)
theorem KH.more {K : PySem.W.Frag} {F : List Addr} {H : Hp} {C st a l hd : Addr} {n m B : Nat} {r : KR} {hs : List (Addr × V × V × PyData)} (h : KH K F H C st a l hd n m B r hs) (e : Addr × V × V × PyData) (he : HE K F H e) : KH K F (upd H hd (.lst (hs.map (fun e => V.ref e.1) ++ [.ref e.1]))) C st a l hd n m B r (hs ++ [e]) := by
  have b : ButS [hd] H (upd H hd (.lst (hs.map (fun e => V.ref e.1) ++ [.ref e.1]))) := fun y o ny z => by rw [upd_ne (fun w => ny (by rw [w]; simp))]; exact z
  have bF : ButS F H (upd H hd (.lst (hs.map (fun e => V.ref e.1) ++ [.ref e.1]))) := fun y o ny z => b y o (fun w => ny (by rw [List.mem_singleton.mp w]; exact h.hF)) z
  have eh : (upd H hd (.lst (hs.map (fun e => V.ref e.1) ++ [.ref e.1]))) hd = some (.lst ((hs ++ [e]).map fun e => V.ref e.1)) := by rw [upd_same, List.map_append]; rfl
  obtain ⟨y1, y2, y3, est⟩ := h.k.sto
  refine ⟨h.k.x b (fun x hx => by rw [List.mem_singleton.mp hx]; exact h.hF) (fun x hx => by rw [List.mem_singleton.mp hx]; exact some_ne eh) (fun z => h.na (List.mem_singleton.mp z).symm) (fun z => h.nl (List.mem_singleton.mp z).symm) ⟨y1, y2, y3, b _ _ (fun z => h.ns (List.mem_singleton.mp z).symm) est⟩, eh, fun d hd' => ?_, h.hF, h.ns, h.na, h.nl⟩
  rcases List.mem_append.mp hd' with z | z
  · exact (h.e d z).but bF
  · rw [List.mem_singleton.mp z]
    exact he.but bF
theorem he_tabs {K : PySem.W.Frag} {F : List Addr} {H : Hp} {p t1 t2 : Addr} {q1 q2 : Prs} (hp : H p = some (.tup [.ref t1, .ref t2])) (h1 : Tab H t1 q1) (h2 : Tab H t2 q2) (e : q1.map (·.2) = q2.map (·.2)) (np : p ∉ F) (n1 : t1 ∉ F) (n1' : ∀ p ∈ q1, p.1 ∉ F) (n2 : t2 ∉ F) (n2' : ∀ p ∈ q2, p.1 ∉ F) :
    HE K F H (p, .ref t1, .ref t2, dTab (q2.map (·.2))) := by
  refine ⟨fun H' b => ⟨b _ _ np hp, ?_, (show Tab H' t2 q2 from ⟨b _ _ n2 h2.l, fun p hp => b _ _ (n2' p hp) (h2.r p hp)⟩).rd⟩, shaped_tab _, eqv_tab _⟩
  have : Tab H' t1 q1 := ⟨b _ _ n1 h1.l, fun p hp => b _ _ (n1' p hp) (h1.r p hp)⟩
  have := this.rd (K := K)
  rw [e] at this
  exact this
section
variable {P : Program} {w : World} {K : PySem.W.Frag} {mg : Str → Option Value} {base : Heap} {C : Addr}
def spTabR (K : PySem.W.Frag) (C : Addr) : Sp := fun vs H Q _ => ∃ (F : List Addr) (st a l hd : Addr) (n m B : Nat) (r : KR) (hs : List (Addr × V × V × PyData)), vs = [.ref st, .ref a, .ref r.T, .ref hd] ∧ KH K F H C st a l hd n m B r hs ∧ hs.length < 500 ∧
  ∀ H' hs', ButS [st, hd] H H' → KH K F H' C st a l hd n m B r hs' → hs'.length ≤ hs.length + 1 → Q (.bl true) H'
abbrev tabRN : List Str := ["store", "keeper", "table", "held", "found", "k", "row", "again"]
theorem sc_tabR : FnScope tabRN ["store", "keeper", "table", "held"] (defScope dTabR) := ⟨rfl, rfl, rfl, by decide +kernel, rfl, by decide +kernel, by decide +kernel⟩
set_option maxHeartbeats 8000000 in
theorem ok_tabR (T : Blt mg) (kc : KpC K C) (Df : DefAt K mg "_law_table_right" dTabR ["store", "keeper", "table", "held"]) (M1 : MtAt P w K mg base 2 C "table" ["self"] (spKTable C)) (G3 : FnAt P w K mg base 1 "_law_take" ["store", "many"] spTakeK) (G6 : FnAt P w K mg base 1 "_law_copy" ["table"] spCopyN) :
    FnAt P w K mg base 3 "_law_table_right" ["store", "keeper", "table", "held"] (spTabR K C) := by
  refine FnAt.of Df sc_tabR (fun vs H Q E h => ?_) (fun f cdv A outer s H vs Q E hr h => ?_)
  · obtain ⟨F, st, a, l, hd, n, m, B, r, hs, rfl, _⟩ := h
    rfl
  · obtain ⟨F, st, a, l, hd, n, m, B, r, hs, rfl, hK, hhs, q⟩ := h
    have nd := sc_tabR.nd
    have nd2 : (["k", "table"] : List Str).Nodup := by decide +kernel
    have hr1 := hr.mono (show 1 ≤ 2 by decide)
    refine ⟨_, pss_cons (ps_set (i := 4) nd rfl (Or.inl rfl) (pe_m0 M1 kc.cls hr (pv 1)))
      (pss_cons (ps_if (PW.pt (pw_or (pt_not (pt_val (pe_b call_isinst T.isinst boot_isinstance (pa_cons (pv 4) (pa_cons (pe_ty T.list boot_list) pa_nil))))) (pw_or1 (pt_cmpR (op_neD hr.units) (pv 4) (pv 2) (nomark _))))) (pss_one (ps_ret pe_bl)) pss_nil)
      (pss_cons (ps_for PassesOwn.never rfl (pi_enum rfl T.enum (pa_cons (pv 4) pa_nil)) (pg_tup rfl (pgs_cons (pg_name (i := 5) nd rfl (Or.inl rfl)) (pgs_cons (pg_name (i := 6) nd rfl (Or.inl rfl)) pgs_nil)))
        (pss_cons (ps_if (pt_not (pt_val (pe_b call_isinst T.isinst boot_isinstance (pa_cons (pv 6) (pa_cons (pe_ty T.list boot_list) pa_nil))))) (pss_one (ps_ret pe_bl)) pss_nil)
        (pss_one (ps_expr (pe_bm PySem.F.plainAttrs_list PySem.F.slot_list_append PySem.F.type_list_append mt_append (pv 6) (pa_cons (pv 5) pa_nil))))))
      (pss_cons (ps_if (pt_cmpR (op_neD hr.units) (pv 4) (pe_comp ["k", "table"] [none, some 2] (defScope dTabR) tabRN rfl (pi_range1 rfl T.rng (pa_cons (pe_b call_len_seq T.len boot_len (pa_cons (pv 2) pa_nil)) pa_nil)) (by decide +kernel)
        (fun cl C s2 H2 ex => pg_c 0 nd2) (fun cl C s2 H2 ex => pifs_nil) (fun cl C s2 H2 ex => pe_op op_cat (pe_ix (ixL K) (pv 1) (pv 0) (fun _ _ => rfl)) (pe_lst (pa_cons (pv 0) pa_nil)))) (nomark _)) (pss_one (ps_ret pe_bl)) pss_nil)
      (pss_cons (ps_expr (pe_bm PySem.F.plainAttrs_list PySem.F.slot_list_append PySem.F.type_list_append mt_append (pv 4) (pa_cons (pe_lst pa_nil) pa_nil)))
      (pss_cons (ps_if (pt_cmpR op_eq (pe_f G3 hr1 (pa_cons (pv 0) (pa_cons pe_int pa_nil))) pe_int (nomark _)) (pss_one (ps_ret pe_bl)) pss_nil)
      (pss_cons (ps_set (i := 7) nd rfl (Or.inl rfl) (pe_m0 M1 kc.cls hr (pv 1)))
      (pss_cons (ps_expr (pe_bm PySem.F.plainAttrs_list PySem.F.slot_list_append PySem.F.type_list_append mt_append (pv 3) (pa_cons (pe_tup (pa_cons (pv 7) (pa_cons (pe_f G6 hr1 (pa_cons (pv 2) pa_nil)) pa_nil))) pa_nil)))
      (pss_one (ps_ret (pe_cmpR (op_eqD hr.units) (pv 7) (pv 2) (nomark _))))))))))), ?_⟩
    have hk := hK.k.kp
    have hTb := hK.k.ok.s.tb
    have heq := hK.k.ok.eq
    obtain ⟨g, g1, g2, g3, g4⟩ := good_of hK.k.ok.s.ok
    refine ⟨_, rfl, a, _, _, rfl, hk.ob, rfl, a, _, _, l, _, _, rfl, hk, fun tt qt H1 htt hqt hndt s1 hTt hrt => ?_⟩
    have hrq : qt.map (·.2) = r.qs.map (·.2) := by rw [hrt, heq]
    have lq : qt.length = r.qs.length := by
      have := congrArg List.length hrq
      simpa using this
    have hgt : tabB qt = true := by rw [tabB_rows hrq]; exact hK.k.ok.s.ok
    obtain ⟨gt, _, _, _, gt4⟩ := good_of hgt
    have hw : ∀ p ∈ qt, p.2.length ≤ 6 := fun p hp => by rw [gt.len p hp]; exact gt4
    have hTb1 := hTb.same s1
    refine ⟨_, rfl, _, _, _, _, rfl, .lst hTt.l, kit_ll _, _, rfl, iteF ⟨_, rfl, _, rfl, _, _, hTt.rd, hTb1.rd, shaped_tab _, shaped_tab _, _, rfl, ?_⟩⟩
    rw [hrq, eqv_tab]
    refine iteF ?_
    refine ⟨_, rfl, tt, rfl, ⟨_, hTt.sq⟩, for_enum (K := K) (a := tt) (xs := qt.map fun p => V.ref p.1) (fun i σ H3 => ∃ (o5 o6 : Option V), σ = [some (.ref st), some (.ref a), some (.ref r.T), some (.ref hd), some (.ref tt), o5, o6, none] ∧ ButS (qt.map (·.1)) H1 H3 ∧
      ∀ j p, qt[j]? = some p → Row H3 p.1 (if j < i then p.2 ++ [(j : Int)] else p.2)) ⟨none, none, rfl, ButS.refl _ _, fun j p hp => by rw [if_neg (by omega)]; exact hTt.r p (List.mem_of_getElem? hp)⟩
      (fun i σ H3 _ ⟨_, _, _, b3, _⟩ => SqL.of (b3 _ _ (fun z => by
        obtain ⟨p, hp, e⟩ := List.mem_map.mp z
        exact (hqt p hp).2 e) hTt.l)) ?_ ?_⟩
    · rintro i y σ H3 T1 hi ⟨o5, o6, rfl, b3, hrow⟩ hT1
      have hil : i < qt.length := by
        have := (List.getElem?_eq_some_iff.mp hi).1
        rw [List.length_map] at this
        exact this
      have hpi : qt[i]? = some qt[i] := List.getElem?_eq_getElem hil
      rw [List.getElem?_map, hpi] at hi
      have hy : V.ref qt[i].1 = y := Option.some.inj hi
      subst hy
      have smT : Same H3 (upd H3 T1 (.tup [.int (i : Nat), .ref qt[i].1])) := Same.new hT1
      have eT : (upd H3 T1 (.tup [.int (i : Nat), .ref qt[i].1])) T1 = some (.tup [.int (i : Nat), .ref qt[i].1]) := upd_same
      generalize upd H3 T1 (.tup [.int (i : Nat), .ref qt[i].1]) = H4 at smT eT ⊢
      have ri := (hrow i qt[i] hpi).same smT
      rw [if_neg (Nat.lt_irrefl i)] at ri
      refine ⟨T1, _, rfl, SqT.of eT, rfl, _, _, rfl, _, _, rfl, rfl, ?_⟩
      refine ⟨_, rfl, _, _, _, _, rfl, .lst ri, kit_ll _, _, rfl, iteF ?_⟩
      refine ⟨_, rfl, .inl ⟨rfl, _, SqL.of ri⟩, _, rfl, qt[i].1, _, _, rfl, rfl, ri, ?_, ?_⟩
      · rw [List.length_map]
        exact small1000 (by have := hw qt[i] (List.getElem_mem hil); omega)
      · refine ⟨_, _, rfl, fun b o hb e => ?_, fun j p hp => ?_⟩
        · rw [upd_ne (fun z => hb (by rw [z]; exact List.mem_map.mpr ⟨qt[i], List.getElem_mem hil, rfl⟩))]
          exact smT _ _ (b3 _ _ hb e)
        · by_cases hj : j = i
          · subst hj
            rw [hpi] at hp
            cases hp
            rw [if_pos (Nat.lt_succ_self _)]
            exact Row.push
          · have ne : p.1 ≠ qt[i].1 := fun z => hj (nodup_at hndt (x := p.1) (by rw [List.getElem?_map, hp]; rfl) (by rw [List.getElem?_map, hpi, z]; rfl))
            have r0 := (hrow j p hp).same smT
            unfold Row at r0 ⊢
            rw [upd_ne ne, r0]
            by_cases hlt : j < i
            · rw [if_pos hlt, if_pos (by omega)]
            · rw [if_neg hlt, if_neg (by omega)]
    · rintro σ H3 ⟨o5, o6, rfl, b3, hrow⟩
      have s3 : Same H H3 := fun y o e => b3 y o (fun z => by
        obtain ⟨p, hp, e'⟩ := List.mem_map.mp z
        rw [← e', (hqt p hp).1] at e
        cases e) (s1 _ _ e)
      have ttl : H3 tt = some (.lst (qt.map fun p => V.ref p.1)) := b3 _ _ (fun z => by
        obtain ⟨p, hp, e⟩ := List.mem_map.mp z
        exact (hqt p hp).2 e) hTt.l
      have hT3 : Tab H3 tt (appP qt) := by
        refine ⟨by rw [appP_refs]; exact ttl, fun p hp => ?_⟩
        unfold appP at hp
        obtain ⟨k, hk', rfl⟩ := List.mem_map.mp hp
        have hk' := List.mem_range.mp hk'
        have hpk : qt[k]? = some qt[k] := List.getElem?_eq_getElem hk'
        have r0 := hrow k qt[k] hpk
        rw [List.length_map, if_pos hk'] at r0
        rw [List.getD_eq_getElem?_getD, hpk]
        exact r0
      have hD3 := hTb.same s3
      refine ⟨_, rfl, _, rfl, r.T, _, rfl, .inl hD3.sq, _, rfl, by omega, by rw [List.length_map]; omega, ?_⟩
      rw [List.length_map, Int.toNat_natCast]
      refine comp_objsR (fun k => HO.lst ((rowAt r.qs k ++ [(k : Int)]).map V.int)) (by omega) (fun k hk' H' Q' sm q' => ?_) fun D2 rs H4 hD2 hrm hrn hrs s4 hDl => ?_
      · obtain ⟨p, hp1, hp2, hp3⟩ := rowAt_mem hk'
        have hD4 := hD3.same sm
        have rp := hD4.r p hp1
        refine ⟨_, rfl, _, rfl, r.T, _, _, .ref p.1, rfl, rfl, hD4.sq, by rw [Int.zero_add]; exact atI_nat (by rw [List.getElem?_map, hp2]; rfl), _, rfl, len1, fun l1 hl1 => ?_⟩
        have s5 : Same H' (upd H' l1 (.lst [.int (0 + (k : Nat))])) := Same.new hl1
        refine ⟨p.1, l1, _, _, rfl, rfl, s5 _ _ rp, upd_same, ?_, fun l2 hl2 => q' l2 _ (s5.free hl2) (s5.trans (Same.new hl2)) ?_⟩
        · rw [List.length_map, g.len p hp1]
          exact sl6 (by simp; omega)
        · rw [upd_same, hp3, List.map_append, Int.zero_add]
          rfl
      have hT4 : Tab H4 D2 (rs.map fun r' => (r'.1, rowAt r.qs r'.2 ++ [(r'.2 : Int)])) := by
        refine ⟨by rw [hDl, List.map_map]; rfl, fun p hp => ?_⟩
        obtain ⟨r', hr', rfl⟩ := List.mem_map.mp hp
        exact (hrs r' hr').1
      have e1 : (rs.map fun r' => (r'.1, rowAt r.qs r'.2 ++ [(r'.2 : Int)])).map (·.2) = (appP qt).map (·.2) := by
        rw [appP_rows, hrq]
        unfold appR
        rw [List.map_map, List.length_map, ← hrm, List.map_map]
        apply List.map_congr_left
        intro r' hr'
        show rowAt r.qs r'.2 ++ [(r'.2 : Int)] = (r.qs.map (·.2)).getD r'.2 [] ++ [(r'.2 : Int)]
        rw [List.getD_eq_getElem?_getD, List.getElem?_map]
        rfl
      refine ⟨_, _, (hT3.same s4).rd, hT4.rd, shaped_tab _, shaped_tab _, _, rfl, ?_⟩
      rw [e1, eqv_tab]
      refine iteF ?_
      have s04 := s3.trans s4
      have ttl4 := s4 _ _ ttl
      refine ⟨_, rfl, .inl ⟨rfl, _, SqL.of ttl4⟩, len0, fun l0 hl0 => ⟨tt, _, _, rfl, rfl, (Same.new hl0) _ _ ttl4, ?_, ?_⟩⟩
      · rw [List.length_map]
        exact small1000 (by omega)
      have s05 : Same H (upd (upd H4 l0 (.lst [])) tt (.lst (qt.map (fun p => V.ref p.1) ++ [.ref l0]))) := (s04.trans (Same.new hl0)).upd htt
      generalize upd (upd H4 l0 (.lst [])) tt (.lst (qt.map (fun p => V.ref p.1) ++ [.ref l0])) = H5 at s05 ⊢
      have hK5 := hK.same s05
      refine ⟨_, rfl, st, 2, rfl, by decide, by decide, hK5.k.sto, fun d H6 d0 d1 b6 st6 => ⟨rfl, _, rfl, ?_⟩⟩
      have hK6 := hK5.sts b6 st6
      have b06 : ButS [st, hd] H H6 := fun y o ny e => b6 y o (fun z => ny (by rw [z]; simp)) (s05 _ _ e)
      by_cases h0 : V.int d = V.int 0
      · exact iteDt h0 (q H6 hs b06 hK6 (Nat.le_succ _))
      · refine iteDf h0 ?_
        have hk6 := hK6.k.kp
        refine ⟨_, rfl, a, _, _, rfl, hk6.ob, rfl, a, _, _, l, _, _, rfl, hk6, fun t5 q5 H7 ht5 hq5 hnd5 s7 hT5 hr5 => ?_⟩
        have hK7 := hK6.same s7
        refine ⟨_, rfl, .inl ⟨rfl, _, SqL.of hK7.h⟩, _, rfl, _, rfl, r.T, r.qs, rfl, hK7.k.ok.s.tb, good_bounds hK7.k.ok.s.ok, fun t6 q6 H8 ht6 hq6 hnd6 s8 hT6 hr6 => ⟨len2, fun p hp => ?_⟩⟩
        have s9 := Same.new (o := .tup [.ref t5, .ref t6]) hp
        have e9 : (upd H8 p (.tup [.ref t5, .ref t6])) p = some (.tup [.ref t5, .ref t6]) := upd_same
        generalize upd H8 p (.tup [.ref t5, .ref t6]) = H9 at s9 e9 ⊢
        have s79 := s8.trans s9
        have hK9 := hK7.same s79
        have o6 : ∀ {y : Addr}, H6 y = none → y ∉ F := fun hy z => hK6.k.live _ z hy
        have o7 : ∀ {y : Addr}, H7 y = none → y ∉ F := fun hy z => hK7.k.live _ z hy
        have o8 : ∀ {y : Addr}, H8 y = none → y ∉ F := fun hy z => (hK7.same s8).k.live _ z hy
        have r56 : q5.map (·.2) = q6.map (·.2) := by rw [hr5, hr6, heq]
        have hmore := hK9.more (p, .ref t5, .ref t6, dTab (q6.map (·.2))) (he_tabs e9 (hT5.same s79) (hT6.same s9) r56 (o8 hp) (o6 ht5) (fun p hp => o6 (hq5 p hp).1) (o7 ht6) fun p hp => o7 (hq6 p hp).1)
        refine ⟨hd, _, _, rfl, rfl, hK9.h, ?_, ?_⟩
        · rw [List.length_map]
          exact small1000 (by omega)
        have n5 : ∀ {y : Addr}, H6 y = none → y ≠ hd := fun hy z => o6 hy (by rw [z]; exact hK6.hF)
        have hT5' : Tab (upd H9 hd (.lst (hs.map (fun e => V.ref e.1) ++ [.ref p]))) t5 q5 := by
          have h9 := hT5.same s79
          refine ⟨by rw [upd_ne (n5 ht5)]; exact h9.l, fun p' hp' => ?_⟩
          unfold Row
          rw [upd_ne (n5 (hq5 p' hp').1)]
          exact h9.r p' hp'
        refine ⟨_, rfl, _, rfl, _, _, hT5'.rd, hmore.k.ok.s.tb.rd, shaped_tab _, shaped_tab _, ?_⟩
        rw [hr5, heq, eqv_tab]
        refine q _ _ (fun y o ny e => ?_) hmore (by rw [List.length_append]; exact Nat.le_refl _)
        rw [upd_ne (fun z => ny (by rw [z]; simp))]
        exact s79 _ _ (s7 _ _ (b06 y o ny e))
end
theorem cellsUp_rows {prs qs : Prs} (h : qs.map (·.2) = prs.map (·.2)) (x : Int) : cellsUp qs x qs.length = cellsUp prs x prs.length := by
  have hl : qs.length = prs.length := by
    have := congrArg List.length h
    simpa using this
  unfold cellsUp
  rw [hl]
  congr 1
  funext i
  rw [rowAt_rows, rowAt_rows, h]
theorem eqv_cls : ∀ ks : List (Nat × Nat), PyData.eqvAll (ks.map dCl) (ks.map dCl) = true
  | [] => by simp [PyData.eqvAll]
  | k :: r => by simp [PyData.eqvAll, dCl, PyData.eqv, eqv_cls r]
theorem eqv_clsL (ks : List (Nat × Nat)) : PyData.eqv (.list (ks.map dCl)) (.list (ks.map dCl)) = true := by
  simp only [PyData.eqv]
  exact eqv_cls ks
theorem NumIs.flat {rows : List (List Int)} {k : Nat} {n : Int} (h : NumIs rows k n) {ms : List Int} (hp : ms.Perm rows.flatten) (hs : ms.Pairwise (· ≤ ·)) (hk : k < ms.length) : n = ms.getD k 0 := by
  obtain ⟨fs, so, rfl⟩ := h
  obtain ⟨h1, h2⟩ := so.heads
  have e0 : flatP (prs0 rows) = rows.flatten := by unfold flatP; rw [prs0_rows]
  rw [e0] at h1
  have e : fs.map hdI = ms := List.Perm.eq_of_pairwise (le := fun a b : Int => a ≤ b) (fun a b _ _ h1 h2 => by omega) h2 hs (h1.trans hp.symm)
  have hk2 : k < fs.length := by rw [← e, List.length_map] at hk; exact hk
  rw [← e, List.getD_eq_getElem?_getD, List.getD_eq_getElem?_getD, List.getElem?_map, List.getElem?_eq_getElem hk2]
  rfl
theorem But.new {s : Addr} {H H' : Hp} {D : Addr} {o : HO} (b : But s H H') (hD : H D = none) : But s H (upd H' D o) := fun y u ny e => by
  rw [upd_ne (fun z => by rw [z, hD] at e; cases e)]
  exact b y u ny e
theorem But.fr {s y : Addr} {H H' : Hp} (b : But s H H') (hs : H' s ≠ none) (h : H' y = none) : H y = none := by
  cases e : H y with
  | none => rfl
  | some o =>
    by_cases z : y = s
    · rw [z] at h; exact absurd h hs
    · rw [b y o z e] at h; cases h
theorem he_cls {K : PySem.W.Frag} {F : List Addr} {H : Hp} {p L1 L2 : Addr} {c1 c2 : Cs} (hp : H p = some (.tup [.ref L1, .ref L2])) (h1 : H L1 = some (.lst (c1.map cellV))) (h2 : H L2 = some (.lst (c2.map cellV))) (e1 : ∀ c ∈ c1, CellAt H c ∧ c.1 ∉ F) (e2 : ∀ c ∈ c2, CellAt H c ∧ c.1 ∉ F) (e : c1.map (·.2) = c2.map (·.2)) (np : p ∉ F) (n1 : L1 ∉ F) (n2 : L2 ∉ F) :
    HE K F H (p, .ref L1, .ref L2, .list ((c2.map (·.2)).map dCl)) := by
  refine ⟨fun H' b => ⟨b _ _ np hp, ?_, .lst (SqL.of (b _ _ n2 h2)) (cs_rd fun c hc => b _ _ (e2 c hc).2 (e2 c hc).1)⟩, shaped_cls _, eqv_clsL _⟩
  rw [← e]
  exact .lst (SqL.of (b _ _ n1 h1)) (cs_rd fun c hc => b _ _ (e1 c hc).2 (e1 c hc).1)
section
variable {P : Program} {w : World} {K : PySem.W.Frag} {mg : Str → Option Value} {base : Heap} {C : Addr}
abbrev toldN : List Str := ["store", "keeper", "table", "held", "way", "every", "due", "row", "numbers", "x", "found", "again", "k", "cell"]
theorem sc_toldR : FnScope toldN ["store", "keeper", "table", "held"] (defScope dToldR) := ⟨rfl, rfl, rfl, by decide +kernel, rfl, by decide +kernel, by decide +kernel⟩
set_option maxHeartbeats 8000000 in
theorem ok_toldR (T : Blt mg) (htup : mg "tuple" = none) (hso : mg "sorted" = none) (kc : KpC K C) (Df : DefAt K mg "_law_told_right" dToldR ["store", "keeper", "table", "held"]) (M2 : MtAt P w K mg base 10 C "span" ["self", "cell"] (spKSpan C)) (M3 : MtAt P w K mg base 8 C "cells" ["self", "x"] (spKCells C)) (M4 : MtAt P w K mg base 9 C "number" ["self", "k"] (spKNumber C))
    (G : FnAt P w K mg base 1 "_law_span" ["table", "cell"] spSpan) (G1 : FnAt P w K mg base 3 "_law_x" ["store", "table"] spXK) (G3 : FnAt P w K mg base 1 "_law_take" ["store", "many"] spTakeK) (G6 : FnAt P w K mg base 3 "_law_table_right" ["store", "keeper", "table", "held"] (spTabR K C)) :
    FnAt P w K mg base 11 "_law_told_right" ["store", "keeper", "table", "held"] (spTabR K C) := by
  refine FnAt.of Df sc_toldR (fun vs H Q E h => ?_) (fun f cdv A outer s H vs Q E hr h => ?_)
  · obtain ⟨F, st, a, l, hd, n, m, B, r, hs, rfl, _⟩ := h
    rfl
  · obtain ⟨F, st, a, l, hd, n, m, B, r, hs, rfl, hK, hhs, q⟩ := h
    have nd := sc_toldR.nd
    have nd1 : (["one"] : List Str).Nodup := by decide +kernel
    have nd4 : (["place", "number", "row", "x"] : List Str).Nodup := by decide +kernel
    have hr1 := hr.mono (show 1 ≤ 10 by decide)
    refine ⟨_, pss_cons (ps_set (i := 4) nd rfl (Or.inl rfl) (pe_f G3 hr1 (pa_cons (pv 0) (pa_cons pe_int pa_nil))))
      (pss_cons (ps_if (pt_cmpR op_eq (pv 4) pe_int (nomark _)) (pss_one (ps_ret (pe_f G6 (hr.mono (by decide)) (pa_cons (pv 0) (pa_cons (pv 1) (pa_cons (pv 2) (pa_cons (pv 3) pa_nil))))))) pss_nil)
      (pss_cons (ps_set (i := 5) nd rfl (Or.inl rfl) (pe_lst pa_nil))
      (pss_cons (ps_set (i := 6) nd rfl (Or.inl rfl) (pe_lst pa_nil))
      (pss_cons (ps_for PassesOwn.never rfl (pi_enum rfl T.enum (pa_cons (pv 2) pa_nil)) (pg_tup rfl (pgs_cons (pg_name (i := 7) nd rfl (Or.inr rfl)) (pgs_cons (pg_name (i := 8) nd rfl (Or.inl rfl)) pgs_nil)))
        (pss_one (ps_set (i := 5) nd rfl (Or.inl rfl) (pe_op op_cat (pv 5) (pv 8)))))
      (pss_cons (ps_if (pt_cmpR op_eq (pv 4) pe_int (nomark _))
        (pss_cons (ps_set (i := 9) nd rfl (Or.inr rfl) (pe_f G1 (hr.mono (by decide)) (pa_cons (pv 0) (pa_cons (pv 2) pa_nil))))
        (pss_cons (ps_for PassesOwn.never rfl (pi_enum rfl T.enum (pa_cons (pv 2) pa_nil)) (pg_tup rfl (pgs_cons (pg_name (i := 7) nd rfl (Or.inr rfl)) (pgs_cons (pg_name (i := 8) nd rfl (Or.inl rfl)) pgs_nil)))
          (pss_one (ps_expr (pe_bm PySem.F.plainAttrs_list PySem.F.slot_list_extend PySem.F.type_list_extend mt_extend (pv 6) (pa_cons
            (pe_comp ["place", "number", "row", "x"] [none, none, some 7, some 9] (defScope dToldR) toldN rfl (pi_enum rfl T.enum (pa_cons (pv 8) pa_nil)) (by decide +kernel)
              (fun cl C s2 H2 ex => pg_c2 K rfl nd4) (fun cl C s2 H2 ex => pifs_one (pt_cmpR op_eq (pv 1) (pv 3) (nomark _))) (fun cl C s2 H2 ex => pe_tup (pa_cons (pv 2) (pa_cons (pv 0) pa_nil)))) pa_nil)))))
        (pss_cons (ps_set (i := 10) nd rfl (Or.inl rfl) (pe_m M3 kc.cls (hr.mono (by decide)) (pv 1) (pa_cons (pv 9) pa_nil)))
        (pss_cons (ps_if (PW.pt (pw_or (pt_not (pt_val (pe_b call_isinst T.isinst boot_isinstance (pa_cons (pv 10) (pa_cons (pe_ty T.list boot_list) pa_nil))))) (pw_or1 (pt_cmpR (op_neD hr.units) (pv 10) (pv 6) (nomark _))))) (pss_one (ps_ret pe_bl)) pss_nil)
        (pss_cons (ps_expr (pe_bm PySem.F.plainAttrs_list PySem.F.slot_list_append PySem.F.type_list_append mt_append (pv 10) (pa_cons pe_non pa_nil)))
        (pss_cons (ps_if (pt_cmpR op_eq (pe_f G3 hr1 (pa_cons (pv 0) (pa_cons pe_int pa_nil))) pe_int (nomark _)) (pss_one (ps_ret pe_bl)) pss_nil)
        (pss_cons (ps_set (i := 11) nd rfl (Or.inl rfl) (pe_m M3 kc.cls (hr.mono (by decide)) (pv 1) (pa_cons (pv 9) pa_nil)))
        (pss_cons (ps_expr (pe_bm PySem.F.plainAttrs_list PySem.F.slot_list_append PySem.F.type_list_append mt_append (pv 3) (pa_cons (pe_tup (pa_cons (pv 11) (pa_cons (pv 6) pa_nil))) pa_nil)))
        (pss_one (ps_ret (pe_cmpR (op_eqD hr.units) (pv 11) (pv 6) (nomark _))))))))))))
        pss_nil)
      (pss_cons (ps_if (pt_cmpR op_eq (pv 4) pe_int (nomark _))
        (pss_cons (ps_set (i := 12) nd rfl (Or.inl rfl) (pe_f G3 hr1 (pa_cons (pv 0) (pa_cons (pe_b call_len_seq T.len boot_len (pa_cons (pv 5) pa_nil)) pa_nil))))
        (pss_cons (ps_set (i := 10) nd rfl (Or.inl rfl) (pe_m M4 kc.cls (hr.mono (by decide)) (pv 1) (pa_cons (pv 12) pa_nil)))
        (pss_one (ps_ret (pe_and (pe_b call_isinst T.isinst boot_isinstance (pa_cons (pv 10) (pa_cons (pe_ty T.int boot_int) pa_nil)))
          (pe_and (pe_not (pe_b call_isinst T.isinst boot_isinstance (pa_cons (pv 10) (pa_cons (pe_ty T.bool boot_bool) pa_nil))))
          (pe_one (pe_cmpR op_eq (pv 10) (pe_ix ix_list (pe_b call_sortedI hso boot_sorted (pa_cons (pv 5) pa_nil)) (pv 12) (fun _ _ => rfl)) (nomark _)))))))))
        pss_nil)
      (pss_cons (ps_set (i := 13) nd rfl (Or.inl rfl) (pe_tup (pa_cons (pe_f G3 hr1 (pa_cons (pv 0) (pa_cons (pe_b call_len_seq T.len boot_len (pa_cons (pv 2) pa_nil)) pa_nil))) (pa_cons (pe_f G3 hr1 (pa_cons (pv 0) (pa_cons (pe_b call_len_seq T.len boot_len (pa_cons (pe_ix ix_list (pv 2) pe_int (fun _ _ => rfl)) pa_nil)) pa_nil))) pa_nil))))
      (pss_cons (ps_set (i := 10) nd rfl (Or.inl rfl) (pe_m M2 kc.cls hr (pv 1) (pa_cons (pv 13) pa_nil)))
      (pss_cons (ps_if (PW.pt (pw_or (pt_not (pt_val (pe_b call_isinst T.isinst boot_isinstance (pa_cons (pv 10) (pa_cons (pe_ty htup boot_tuple) pa_nil))))) (pw_or1 (pt_cmpR (op_neD hr.units) (pv 10) (pe_f G hr1 (pa_cons (pv 2) (pa_cons (pv 13) pa_nil))) (nomark _))))) (pss_one (ps_ret pe_bl)) pss_nil)
      (pss_one (ps_ret (pe_cmpR op_notIn_seq pe_bl (pe_comp ["one"] [none] (defScope dToldR) toldN rfl (pi_tup (pv 10)) (by decide +kernel)
        (fun cl C s2 H2 ex => pg_c 0 nd1) (fun cl C s2 H2 ex => pifs_nil) (fun cl C s2 H2 ex => pe_b (isiK K) T.isinst boot_isinstance (pa_cons (pv 0) (pa_cons (pe_ty T.bool boot_bool) pa_nil)))) rfl)))))))))))), ?_⟩
    obtain ⟨g, g1, g2, g3, g4⟩ := good_of hK.k.ok.s.ok
    have heq := hK.k.ok.eq
    have hqn : r.qs.length = r.prs.length := by
      have := congrArg List.length heq
      simpa using this
    have hqm : w0 r.qs = w0 r.prs := by rw [← wR_w0, ← wR_w0, heq]
    refine ⟨_, rfl, st, 4, rfl, by decide, by decide, hK.k.sto, fun d H1 d0 d1 b1 st1 => ?_⟩
    have hK1 := hK.sts b1 st1
    have b01 : ButS [st, hd] H H1 := fun y o ny e => b1 y o (fun z => ny (by rw [z]; simp)) e
    refine ⟨_, rfl, rfl, _, rfl, ?_⟩
    by_cases hd0 : V.int d = V.int 0
    · exact iteDt hd0 ⟨_, rfl, _, rfl, _, rfl, _, rfl, F, st, a, l, hd, n, m, B, r, hs, rfl, hK1, hhs, fun H' hs' b' k' l' => q H' hs' (b01.trans b') k' l'⟩
    refine iteDf hd0 ⟨len0, fun E0 hE0 => ⟨len0, fun D0 hD0 => ?_⟩⟩
    have s2 : Same H1 (upd (upd H1 E0 (.lst [])) D0 (.lst [])) := (Same.new hE0).trans (Same.new hD0)
    have nD1 : H1 D0 = none := (Same.new hE0).free hD0
    have rE : Row (upd (upd H1 E0 (.lst [])) D0 (.lst [])) E0 [] := (Same.new hD0) _ _ upd_same
    have rD : (upd (upd H1 E0 (.lst [])) D0 (.lst [])) D0 = some (.lst []) := upd_same
    generalize upd (upd H1 E0 (.lst [])) D0 (.lst []) = H2 at s2 rE rD ⊢
    have hT1 := hK1.k.ok.s.tb
    have nst : ∀ {y : Addr}, H1 y = none → y ≠ st := fun hy z => hK1.k.live _ hK1.k.stF (by rw [← z]; exact hy)
    have nT : r.T ≠ st := fun z => hK.k.ok.s.tS (by rw [z]; exact hK.k.stF)
    have nq : ∀ p ∈ r.qs, p.1 ≠ st := fun p hp z => hK.k.ok.s.pS p hp (by rw [z]; exact hK.k.stF)
    have nF : ∀ {y : Addr}, H1 y = none → y ∉ F := fun hy z => hK1.k.live _ z hy
    refine ⟨_, rfl, r.T, rfl, ⟨_, (hT1.same s2).sq⟩, for_enum (K := K) (a := r.T) (xs := r.qs.map fun p => V.ref p.1) (fun i σ H3 => ∃ (o7 o8 : Option V) (e : Addr), σ = [some (.ref st), some (.ref a), some (.ref r.T), some (.ref hd), some (.int d), some (.ref e), some (.ref D0), o7, o8, none, none, none, none, none] ∧ Same H2 H3 ∧ H1 e = none ∧ Row H3 e (flatP (r.qs.take i)))
      ⟨none, none, E0, rfl, Same.refl _, hE0, by rw [List.take_zero]; exact rE⟩ (fun i σ H3 _ ⟨_, _, _, _, s3, _⟩ => (hT1.same (s2.trans s3)).sq) ?_ ?_⟩
    · rintro i y σ H3 T1 hi ⟨o7, o8, e, rfl, s3, ne, r3⟩ hT1'
      have hil : i < r.qs.length := by
        have := (List.getElem?_eq_some_iff.mp hi).1
        rw [List.length_map] at this
        exact this
      have hpi : r.qs[i]? = some r.qs[i] := List.getElem?_eq_getElem hil
      rw [List.getElem?_map, hpi] at hi
      have hy : V.ref r.qs[i].1 = y := Option.some.inj hi
      subst hy
      have smT : Same H3 (upd H3 T1 (.tup [.int (i : Nat), .ref r.qs[i].1])) := Same.new hT1'
      have eT : (upd H3 T1 (.tup [.int (i : Nat), .ref r.qs[i].1])) T1 = some (.tup [.int (i : Nat), .ref r.qs[i].1]) := upd_same
      generalize upd H3 T1 (.tup [.int (i : Nat), .ref r.qs[i].1]) = H4 at smT eT ⊢
      have s24 := s3.trans smT
      have ri := (hT1.same (s2.trans s24)).r r.qs[i] (List.getElem_mem hil)
      refine ⟨T1, _, rfl, SqT.of eT, rfl, _, _, rfl, _, _, rfl, rfl, ?_⟩
      refine ⟨_, rfl, _, rfl, e, r.qs[i].1, _, _, rfl, rfl, r3.same smT, ri, ?_, fun e2 he2 => ⟨_, _, e2, rfl, s24.trans (Same.new he2), (s2.trans s24).free he2, ?_⟩⟩
      · rw [List.length_map, List.length_map, flatK_len (wide := w0 r.qs) fun p hp => g.len p (List.mem_of_mem_take hp), List.length_take, g.len _ (List.getElem_mem hil)]
        have : min i r.qs.length * w0 r.qs ≤ 6 * 6 := Nat.mul_le_mul (by omega) g4
        exact sl6 (by omega)
      · unfold Row
        rw [upd_same, flatK_take hpi, List.map_append]
    · rintro σ H3 ⟨o7, o8, e, rfl, s3, ne, r3⟩
      rw [List.length_map, List.take_length] at r3
      have s13 := s2.trans s3
      have hK3 := hK1.same s13
      have hT3 := hT1.same s13
      have rD3 := s3 _ _ rD
      have b03 : ButS [st, hd] H H3 := b01.trans (Same.butS s13)
      refine ⟨_, rfl, rfl, _, rfl, ?_⟩
      by_cases hd1 : V.int d = V.int 1
      · refine iteDt hd1 ?_
        refine ⟨_, rfl, _, rfl, st, r.T, r.qs, rfl, hK3.k.sto, hT3, hK3.k.ok.s.ok, nT, nq, fun x H4 b4 st4 => ?_⟩
        have b14 : But st H1 H4 := (Same.but s13).trans b4
        have rD4 : H4 D0 = some (.lst []) := b4 _ _ (nst nD1) rD3
        have hb4 : ∀ {H' : Hp}, But st H1 H' → Tab H' r.T r.qs := fun hb => hT1.but nT nq hb
        refine ⟨_, rfl, r.T, rfl, ⟨_, (hb4 b14).sq⟩, for_enum (K := K) (a := r.T) (xs := r.qs.map fun p => V.ref p.1) (fun i σ H5 => ∃ (cs : Cs) (o7 o8 : Option V), σ = [some (.ref st), some (.ref a), some (.ref r.T), some (.ref hd), some (.int d), some (.ref e), some (.ref D0), o7, o8, some (.int x), none, none, none, none] ∧ But st H1 H5 ∧ StK H5 st ∧ H5 D0 = some (.lst (cs.map cellV)) ∧
          (∀ c ∈ cs, CellAt H5 c ∧ H1 c.1 = none) ∧ cs.map (·.2) = cellsUp r.qs x i ∧ cs.length ≤ 6 * i)
          ⟨[], _, _, rfl, b14, st4, rD4, fun c hc => (nomatch hc), rfl, by simp⟩ (fun i σ H5 _ ⟨_, _, _, _, b5, _⟩ => (hb4 b5).sq) ?_ ?_⟩
        · rintro i y σ H5 T1 hi ⟨cs, o7, o8, rfl, b5, st5, hLl, hcs, hcm, hcl⟩ hT1'
          have hil : i < r.qs.length := by
            have := (List.getElem?_eq_some_iff.mp hi).1
            rw [List.length_map] at this
            exact this
          obtain ⟨p, hp1, hp2, hp3⟩ := rowAt_mem hil
          rw [List.getElem?_map, hp2] at hi
          have hy : V.ref p.1 = y := Option.some.inj hi
          subst hy
          have hpl := g.len p hp1
          have smT : Same H5 (upd H5 T1 (.tup [.int (i : Nat), .ref p.1])) := Same.new hT1'
          have eT : (upd H5 T1 (.tup [.int (i : Nat), .ref p.1])) T1 = some (.tup [.int (i : Nat), .ref p.1]) := upd_same
          generalize upd H5 T1 (.tup [.int (i : Nat), .ref p.1]) = H6 at smT eT ⊢
          refine ⟨T1, _, rfl, SqT.of eT, rfl, _, _, rfl, _, _, rfl, rfl, ?_⟩
          have b6 : But st H1 H6 := b5.trans (Same.but smT)
          have st6 := st5.same smT
          have hR6 := (hb4 b6).r p hp1
          have hL6 := smT _ _ hLl
          refine ⟨_, rfl, .inl ⟨rfl, _, SqL.of hL6⟩, _, rfl, p.1, rfl, ⟨_, hR6.sq⟩, ?_⟩
          refine compE_run (xs := p.2.map V.int) (fun D2 k ys H' => ∃ qs : Cs, Same H6 H' ∧ H' D2 = some (.lst ys) ∧ ys = qs.map cellV ∧ (∀ c ∈ qs, CellAt H' c ∧ H6 c.1 = none ∧ c.1 ≠ D2) ∧ qs.map (·.2) = rc i p.2 x k)
            (fun D2 hD2 => ⟨[], Same.new hD2, upd_same, rfl, fun c hc => (nomatch hc), rfl⟩) (fun D2 k ys H' _ _ ⟨_, sm', e, _⟩ => ⟨e, (hR6.same sm').sq⟩) ?_ ?_
          · rintro D2 k z ys H' T2 hD2 hz ⟨qs, sm', eD, hys, hqs, hqm⟩ hT2
            have hkl : k < p.2.length := by
              have := (List.getElem?_eq_some_iff.mp hz).1
              rw [List.length_map] at this
              exact this
            have ez : z = .int (p.2.getD k 0) := by
              rw [List.getElem?_map, List.getElem?_eq_getElem hkl] at hz
              rw [List.getD_eq_getElem?_getD, List.getElem?_eq_getElem hkl]
              exact (Option.some.inj hz).symm
            subst ez
            have smT2 : Same H' (upd H' T2 (.tup [.int (k : Nat), .int (p.2.getD k 0)])) := Same.new hT2
            generalize upd H' T2 (.tup [.int (k : Nat), .int (p.2.getD k 0)]) = H7 at smT2 ⊢
            have ql : qs.length ≤ k := by
              have := congrArg List.length hqm
              rw [List.length_map] at this
              rw [this]
              exact rc_len _ _ _ _
            refine ⟨_, rfl, _, rfl, rfl, _, rfl, ?_⟩
            rw [dec_v]
            by_cases hx : p.2.getD k 0 = x
            · rw [decide_eq_true hx]
              refine iteT ⟨_, rfl, _, rfl, len2, fun T3 hT3 => ?_⟩
              have nT3 : D2 ≠ T3 := ne_of_none (smT2 _ _ eD) hT3
              have s3T : Same H7 (upd H7 T3 (.tup [.int (i : Nat), .int (k : Nat)])) := Same.new hT3
              refine ⟨s3T _ _ (smT2 _ _ eD), ?_, qs ++ [(T3, i, k)], ((sm'.trans smT2).trans s3T).upd hD2, upd_same, ?_, fun c hc => ?_, ?_⟩
              · rw [hys, List.length_map]
                exact small1000 (by omega)
              · rw [hys, List.map_append]
                rfl
              · rcases List.mem_append.mp hc with z | z
                · obtain ⟨z1, z2, z3⟩ := hqs c z
                  refine ⟨?_, z2, z3⟩
                  unfold CellAt
                  rw [upd_ne z3]
                  exact s3T _ _ (smT2 _ _ z1)
                · have : c = (T3, i, k) := by simpa using z
                  subst this
                  refine ⟨?_, (sm'.trans smT2).free hT3, Ne.symm nT3⟩
                  unfold CellAt
                  rw [upd_ne (Ne.symm nT3)]
                  exact upd_same
              · rw [List.map_append, hqm, rc_succ, if_pos hx]
                rfl
            · rw [decide_eq_false hx]
              refine iteF ⟨qs, sm'.trans smT2, smT2 _ _ eD, hys, fun c hc => ?_, ?_⟩
              · obtain ⟨z1, z2, z3⟩ := hqs c hc
                exact ⟨smT2 _ _ z1, z2, z3⟩
              · rw [hqm, rc_succ, if_neg hx, List.append_nil]
          · rintro D2 ys H' hD2 ⟨qs, sm', eD, hys, hqs, hqm⟩
            rw [List.length_map] at hqm
            have ql : qs.length ≤ p.2.length := by
              have := congrArg List.length hqm
              rw [List.length_map] at this
              rw [this]
              exact rc_len _ _ _ _
            have hL7 := sm' _ _ hL6
            have b7 : But st H1 H' := b6.trans (Same.but sm')
            have fr6 : ∀ {y : Addr}, H6 y = none → H1 y = none := fun hy => b6.fr (by obtain ⟨_, _, _, e⟩ := st6; exact some_ne e) hy
            refine ⟨D0, D2, _, _, rfl, rfl, hL7, eD, ?_, ?_⟩
            · rw [List.length_map, hys, List.length_map]
              exact sl6 (by omega)
            · have nL : ∀ c : Addr × Nat × Nat, CellAt H' c → c.1 ≠ D0 := fun c h => ne_of h hL7 (by intro z; cases z)
              refine ⟨cs ++ qs, _, _, rfl, b7.new nD1, ?_, ?_, fun c hc => ?_, ?_, ?_⟩
              · obtain ⟨y1, y2, y3, est⟩ := st6.same sm'
                exact ⟨y1, y2, y3, by rw [upd_ne (Ne.symm (nst nD1))]; exact est⟩
              · rw [upd_same, hys, List.map_append]
              · rcases List.mem_append.mp hc with z | z
                · obtain ⟨z1, z2⟩ := hcs c z
                  have z3 : CellAt H' c := sm' _ _ (smT _ _ z1)
                  refine ⟨?_, z2⟩
                  unfold CellAt
                  rw [upd_ne (nL c z3)]
                  exact z3
                · obtain ⟨z1, z2, _⟩ := hqs c z
                  refine ⟨?_, fr6 z2⟩
                  unfold CellAt
                  rw [upd_ne (nL c z1)]
                  exact z1
              · rw [List.map_append, hcm, hqm, cellsUp_succ, hp3]
              · rw [List.length_append]
                omega
        · rintro σ H5 ⟨cs, o7', o8', rfl, b5, st5, hDl, hcs, hcm, hcl⟩
          rw [List.length_map] at hcm hcl
          have hK5 := hK1.sts b5 st5
          have hk5 := hK5.k.kp
          refine ⟨_, rfl, a, r.dx, _, rfl, hk5.ob, rfl, _, rfl, a, r.dx, r.t, l, r.prs, r.chs, x, rfl, hk5, fun L es H6 hL s6 eL hes hcells hlen => ?_⟩
          have fr5 : ∀ {y : Addr}, H5 y = none → H1 y = none := fun hy => b5.fr (by obtain ⟨_, _, _, e⟩ := st5; exact some_ne e) hy
          have b6 : But st H1 H6 := b5.trans (Same.but s6)
          have ecs : cs.map (·.2) = cellsUp r.prs x r.prs.length := by rw [hcm, cellsUp_rows heq]
          refine ⟨_, rfl, .ref L, "list", _, true, rfl, .lst eL, kit_ll _, _, rfl, iteF ⟨_, rfl, _, rfl, .list ((es.map (·.2)).map dCl), .list ((cs.map (·.2)).map dCl), .lst (SqL.of eL) (cs_rd fun c hc => (hes c hc).1), .lst (SqL.of (s6 _ _ hDl)) (cs_rd fun c hc => s6 _ _ (hcs c hc).1), shaped_cls _, shaped_cls _, _, rfl, ?_⟩⟩
          rw [hcells, ecs, eqv_clsL]
          refine iteF ⟨_, rfl, .inl ⟨rfl, _, SqL.of eL⟩, L, _, _, rfl, rfl, eL, ?_, ?_⟩
          · rw [List.length_map]
            exact small1000 (by omega)
          have nL1 := fr5 hL
          have b7 : But st H1 (upd H6 L (.lst (es.map cellV ++ [.non]))) := b6.new nL1
          have st7 : StK (upd H6 L (.lst (es.map cellV ++ [.non]))) st := by
            obtain ⟨y1, y2, y3, est⟩ := st5.same s6
            exact ⟨y1, y2, y3, by rw [upd_ne (Ne.symm (nst nL1))]; exact est⟩
          have bL : ∀ y o, y ≠ L → H6 y = some o → (upd H6 L (.lst (es.map cellV ++ [.non]))) y = some o := fun y o ny z => by rw [upd_ne ny]; exact z
          generalize upd H6 L (.lst (es.map cellV ++ [.non])) = H7 at b7 st7 bL ⊢
          have hDl7 : H7 D0 = some (.lst (cs.map cellV)) := bL _ _ (ne_of_none hDl hL) (s6 _ _ hDl)
          have hcs7 : ∀ c ∈ cs, CellAt H7 c ∧ H1 c.1 = none := fun c hc => ⟨bL _ _ (ne_of_none (hcs c hc).1 hL) (s6 _ _ (hcs c hc).1), (hcs c hc).2⟩
          refine ⟨_, rfl, st, 2, rfl, by decide, by decide, st7, fun d2 H8 d20 d21 b8 st8 => ⟨rfl, _, rfl, ?_⟩⟩
          have b18 := b7.trans b8
          have hK8 := hK1.sts b18 st8
          have b08 : ButS [st, hd] H H8 := b01.trans fun y o ny z => b18 y o (fun w => ny (by rw [w]; simp)) z
          by_cases h0 : V.int d2 = V.int 0
          · exact iteDt h0 (q H8 hs b08 hK8 (Nat.le_succ _))
          refine iteDf h0 ?_
          have hDl8 := b8 _ _ (nst nD1) hDl7
          have hcs8 : ∀ c ∈ cs, CellAt H8 c ∧ H1 c.1 = none := fun c hc => ⟨b8 _ _ (nst (hcs7 c hc).2) (hcs7 c hc).1, (hcs7 c hc).2⟩
          have hk8 := hK8.k.kp
          refine ⟨_, rfl, a, r.dx, _, rfl, hk8.ob, rfl, _, rfl, a, r.dx, r.t, l, r.prs, r.chs, x, rfl, hk8, fun M fs H9 hM s9 eM hfs hfells hflen => ?_⟩
          have hK9 := hK8.same s9
          refine ⟨_, rfl, .inl ⟨rfl, _, SqL.of hK9.h⟩, _, rfl, _, rfl, len2, fun p hp => ?_⟩
          have s10 := Same.new (o := .tup [.ref M, .ref D0]) hp
          have e10 : (upd H9 p (.tup [.ref M, .ref D0])) p = some (.tup [.ref M, .ref D0]) := upd_same
          generalize upd H9 p (.tup [.ref M, .ref D0]) = H10 at s10 e10 ⊢
          have hK10 := hK9.same s10
          have o8 : ∀ {y : Addr}, H8 y = none → y ∉ F := fun hy z => hK8.k.live _ z hy
          have o9 : ∀ {y : Addr}, H9 y = none → y ∉ F := fun hy z => hK9.k.live _ z hy
          have s810 := s9.trans s10
          have efc : fs.map (·.2) = cs.map (·.2) := by rw [hfells, ecs]
          have eM10 := s10 _ _ eM
          have hfs10 : ∀ c ∈ fs, CellAt H10 c ∧ c.1 ∉ F := fun c hc => ⟨s10 _ _ (hfs c hc).1, o8 (hfs c hc).2⟩
          have hDl10 := s810 _ _ hDl8
          have hcs10 : ∀ c ∈ cs, CellAt H10 c ∧ c.1 ∉ F := fun c hc => ⟨s810 _ _ (hcs8 c hc).1, nF (hcs8 c hc).2⟩
          have hmore := hK10.more (p, .ref M, .ref D0, .list ((cs.map (·.2)).map dCl)) (he_cls e10 eM10 hDl10 hfs10 hcs10 efc (o9 hp) (o8 hM) (nF nD1))
          refine ⟨hd, _, _, rfl, rfl, hK10.h, ?_, ?_⟩
          · rw [List.length_map]
            exact small1000 (by omega)
          have up : ∀ {y : Addr} {o : HO}, y ∉ F → H10 y = some o → (upd H10 hd (.lst (hs.map (fun e => V.ref e.1) ++ [.ref p]))) y = some o := fun {y o} ny z => by rw [upd_ne (fun w => ny (by rw [w]; exact hK10.hF))]; exact z
          refine ⟨_, rfl, _, rfl, .list ((fs.map (·.2)).map dCl), .list ((cs.map (·.2)).map dCl), .lst (SqL.of (up (o8 hM) eM10)) (cs_rd fun c hc => up (hfs10 c hc).2 (hfs10 c hc).1), .lst (SqL.of (up (nF nD1) hDl10)) (cs_rd fun c hc => up (hcs10 c hc).2 (hcs10 c hc).1), shaped_cls _, shaped_cls _, ?_⟩
          rw [efc, eqv_clsL]
          refine q _ _ (fun y o ny z => ?_) hmore (by rw [List.length_append]; exact Nat.le_refl _)
          rw [upd_ne (fun w => ny (by rw [w]; simp))]
          exact s810 _ _ (b08 y o ny z)
      refine iteDf hd1 ⟨_, rfl, rfl, _, rfl, ?_⟩
      by_cases hd2 : V.int d = V.int 2
      · refine iteDt hd2 ?_
        have hfl : (flatP r.qs).length = r.qs.length * w0 r.qs := flatK_len g.len
        have hf1 : 1 * 1 ≤ r.qs.length * w0 r.qs := Nat.mul_le_mul g1 g3
        have hf2 : r.qs.length * w0 r.qs ≤ 6 * 6 := Nat.mul_le_mul g2 g4
        refine ⟨_, rfl, _, rfl, e, _, rfl, .inl r3.sq, st, _, rfl, by rw [List.length_map]; omega, by rw [List.length_map]; omega, hK3.k.sto, fun kv H4 k0 k1 b4 st4 => ?_⟩
        rw [List.length_map] at k1
        obtain ⟨kk, rfl⟩ : ∃ kk : Nat, kv = (kk : Int) := ⟨kv.toNat, by omega⟩
        have hkk : kk < r.prs.length * w0 r.prs := by rw [← hqn, ← hqm]; omega
        have hK4 := hK3.sts b4 st4
        have hk4 := hK4.k.kp
        have r4 := r3.but (nst ne) b4
        refine ⟨_, rfl, a, r.dx, _, rfl, hk4.ob, rfl, _, rfl, a, r.dx, r.t, l, r.prs, r.chs, kk, rfl, hk4, hkk, fun n1 H5 s5 hn1 => ?_⟩
        refine ⟨_, rfl, _, _, _, _, rfl, .int n1, kit_ii _, _, rfl, iteT ⟨_, rfl, _, _, _, _, rfl, .int n1, kit_ib _, _, rfl, _, rfl, iteT ⟨_, rfl, _, rfl, e, flatP r.qs, rfl, (r4.same s5).sq, by omega, fun D2 ms hD2 hp hs2 => ?_⟩⟩⟩
        have hml := hp.length_eq
        refine ⟨_, rfl, D2, _, _, .int (ms.getD kk 0), rfl, rfl, SqL.of upd_same, at_row (by omega), rfl, ?_⟩
        have en : n1 = ms.getD kk 0 := hn1.flat (by rw [← heq]; exact hp) hs2 (by omega)
        rw [en, decide_eq_true rfl]
        have s46 := s5.trans (Same.new (o := .lst (ms.map V.int)) hD2)
        exact q _ hs ((b03.trans fun y o ny z => b4 y o (fun w => ny (by rw [w]; simp)) z).trans (Same.butS s46)) (hK4.same s46) (Nat.le_succ _)
      refine iteDf hd2 ?_
      obtain ⟨pz, hpz, hmz, hxz⟩ := head_at (prs := r.qs) g1
      refine ⟨_, rfl, _, rfl, r.T, _, rfl, .inl hT3.sq, st, _, rfl, by rw [List.length_map]; omega, by rw [List.length_map]; omega, hK3.k.sto, fun iv H4 i0 i1 b4 st4 => ?_⟩
      rw [List.length_map] at i1
      obtain ⟨i, rfl⟩ : ∃ i : Nat, iv = (i : Int) := ⟨iv.toNat, by omega⟩
      have hK4 := hK3.sts b4 st4
      have hT4 := hT3.but nT nq b4
      refine ⟨_, rfl, _, rfl, r.T, _, 0, .ref pz.1, rfl, rfl, hT4.sq, atI_nat (j := 0) (by rw [List.getElem?_map, hxz]; rfl), pz.1, _, rfl, .inl (hT4.r pz hmz).sq, st, _, rfl, by rw [List.length_map, g.len pz hmz]; omega, by rw [List.length_map, g.len pz hmz]; omega, hK4.k.sto, fun jv H5 j0 j1 b5 st5 => ⟨len2, fun c hc => ?_⟩⟩
      rw [List.length_map, g.len pz hmz] at j1
      obtain ⟨j, rfl⟩ : ∃ j : Nat, jv = (j : Int) := ⟨jv.toNat, by omega⟩
      have s6 := Same.new (o := .tup [.int (i : Nat), .int (j : Nat)]) hc
      have ec : Cell (upd H5 c (.tup [.int (i : Nat), .int (j : Nat)])) c i j := upd_same
      generalize upd H5 c (.tup [.int (i : Nat), .int (j : Nat)]) = H6 at s6 ec ⊢
      have hK6 := (hK4.sts b5 st5).same s6
      have hk6 := hK6.k.kp
      refine ⟨_, rfl, a, r.dx, _, rfl, hk6.ob, rfl, _, rfl, a, r.dx, r.t, l, c, r.prs, r.chs, i, j, rfl, hk6, ec, by omega, by omega, fun u H7 hu s7 eu => ?_⟩
      have hK7 := hK6.same s7
      refine ⟨_, rfl, .ref u, "tuple", _, true, rfl, .tup eu, by kernel_rfl, _, rfl, iteF ⟨_, rfl, _, rfl, _, rfl, r.T, c, r.qs, i, j, rfl, hK7.k.ok.s.tb, hK7.k.ok.s.ok, s7 _ _ ec, by omega, by omega, fun v H8 hv s8 ev => ?_⟩⟩
      rw [heq] at ev
      have eu8 := s8 _ _ eu
      refine ⟨spanD (r.prs.map (·.2)) i j, spanD (r.prs.map (·.2)) i j, .tup (SqT.of eu8) (.cons (oV_rd _) (.cons (oV_rd _) .nil)), .tup (SqT.of ev) (.cons (oV_rd _) (.cons (oV_rd _) .nil)), shaped_span _ _ _, shaped_span _ _ _, _, rfl, ?_⟩
      rw [eqv_span]
      refine iteF ⟨_, rfl, u, rfl, ⟨_, SqT.of eu8⟩, comp_tup oV (fun _ => .bl false) (ms := [_, _]) (SqT.of eu8) len2 (fun z hz H' Q' sm q' => ?_) fun D1 Hf hD1 sf hDl => ?_⟩
      · cases z with
        | none => exact ⟨_, rfl, _, _, _, _, rfl, .non, by kernel_rfl, q' _ (Same.refl _)⟩
        | some i => exact ⟨_, rfl, _, _, _, _, rfl, .int i, by kernel_rfl, q' _ (Same.refl _)⟩
      · refine ⟨D1, _, rfl, .inl (SqL.of hDl), rfl, flat_no _, ?_⟩
        rw [inV_no]
        have s6f := (s7.trans s8).trans sf
        exact q _ hs (((b03.trans fun y o ny z => b4 y o (fun w => ny (by rw [w]; simp)) z).trans fun y o ny z => b5 y o (fun w => ny (by rw [w]; simp)) z).trans (Same.butS (s6.trans s6f))) (hK6.same s6f) (Nat.le_succ _)
end
theorem neDK {X : Cx} (K : PySem.W.Frag) (hu : X.A.units + 64 < cLine) (hK : X.K = K := by rfl) : OpR X (compareOp .NotEq) (rEqD K true) := by subst hK; exact op_neD hu
theorem comp_pairsF {α : Type} {K : PySem.W.Frag} {a : Addr} {cs : List α} {σ0 : L2.St} {H1 : Hp} {tc : TT} {te : TE} {Q : VK} (ad : α → Addr) (f1 f2 : α → V) (hq : SqL K H1 a (cs.map fun c => V.ref (ad c))) (hc : ∀ c ∈ cs, H1 (ad c) = some (.tup [f1 c, f2 c]))
    (ht : ∀ c ∈ cs, ∀ (H' : Hp) (Q' : Bool → Hp → Prop), Same H1 H' → Q' false H' → tc ((σ0.set 0 (some (f1 c))).set 1 (some (f2 c))) H' Q')
    (fin : ∀ (D : Addr) (H' : Hp), H1 D = none → Same H1 H' → H' D = some (.lst []) → Q (.ref D) H') :
    CompRun (Itl K a) (gTup K 2 (gCons (gName 0) (gCons (gName 1) gNil))) tc te σ0 H1 Q := by
  intro D hD
  refine ⟨fun i m ys σ' H' => m = cs.length - i ∧ i ≤ cs.length ∧ (∀ u v, (σ'.set 0 u).set 1 v = (σ0.set 0 u).set 1 v) ∧ Same H1 H' ∧ H' D = some (.lst ys) ∧ ys = [], ⟨cs.length, by simp, Nat.zero_le _, fun _ _ => rfl, Same.new hD, upd_same, rfl⟩, ?_⟩
  rintro i m ys σ' H' ⟨rfl, hi, es, sm, hDl, rfl⟩
  refine ⟨hDl, ?_⟩
  have q := sm.seq hq
  by_cases hlt : i < cs.length
  · refine .inr ⟨⟨_, V.ref (ad cs[i]), q, by simp [hlt]⟩, fun x H2 y => ?_⟩
    obtain ⟨rfl, y⟩ := y
    have y := y _ q
    rw [List.getElem?_map, List.getElem?_eq_getElem hlt] at y
    have hx : V.ref (ad cs[i]) = x := Option.some.inj y
    subst hx
    refine ⟨ad cs[i], _, rfl, SqT.of (sm _ _ (hc cs[i] (List.getElem_mem hlt))), rfl, _, _, rfl, _, _, rfl, rfl, ?_⟩
    rw [es]
    refine ht cs[i] (List.getElem_mem hlt) _ _ sm (iteF ⟨cs.length - (i + 1), by omega, rfl, hlt, fun _ _ => set2, sm, hDl, rfl⟩)
  · have e : i = cs.length := by omega
    subst e
    exact .inl ⟨⟨_, q, by simp⟩, fin D H' hD sm hDl⟩
theorem KH.mono {K : PySem.W.Frag} {F : List Addr} {H : Hp} {C st a l hd : Addr} {n m B B' : Nat} {r : KR} {hs : List (Addr × V × V × PyData)} (h : KH K F H C st a l hd n m B r hs) (hB : B ≤ B') : KH K F H C st a l hd n m B' r hs := ⟨h.k.mono hB, h.h, h.e, h.hF, h.ns, h.na, h.nl⟩
theorem KH.deed {K : PySem.W.Frag} {F : List Addr} {H H' : Hp} {C st a l hd : Addr} {n m B B' : Nat} {r r' : KR} {hs : List (Addr × V × V × PyData)} (h : KH K F H C st a l hd n m B r hs) (b : ButS [a, l] H H') (k' : K1 F H' C st a l n m B' r') : KH K F H' C st a l hd n m B' r' hs :=
  ⟨k', b _ _ (fun z => by
    simp only [List.mem_cons, List.not_mem_nil, or_false] at z
    exact z.elim h.na h.nl) h.h, fun e he => (h.e e he).but fun y o ny z => b y o (fun w => ny (by
      simp only [List.mem_cons, List.not_mem_nil, or_false] at w
      rcases w with w | w
      · rw [w]; exact h.k.aF
      · rw [w]; exact h.k.lF)) z, h.hF, h.ns, h.na, h.nl⟩
theorem ix0 {n : Nat} (h : 0 < n) : ixN n 0 = some 0 := by
  unfold ixN
  rw [if_pos (by decide), if_pos (by omega)]
  rfl
theorem one_two {d : Int} (h0 : 0 ≤ d) (h1 : d < 4) : ∃ c : Nat, (c = 1 ∨ c = 2) ∧ atI [V.int 1, V.int 1, V.int 1, V.int 2] d = some (.int (c : Nat)) := by
  have : d = 0 ∨ d = 1 ∨ d = 2 ∨ d = 3 := by omega
  rcases this with rfl | rfl | rfl | rfl
  · exact ⟨1, .inl rfl, rfl⟩
  · exact ⟨1, .inl rfl, rfl⟩
  · exact ⟨1, .inl rfl, rfl⟩
  · exact ⟨2, .inr rfl, rfl⟩
section
variable {P : Program} {w : World} {K : PySem.W.Frag} {mg : Str → Option Value} {base : Heap} {C : Addr}
def spRunR : Sp := fun vs H Q _ => ∃ (st t : Addr) (prs : Prs), vs = [.ref st, .ref t] ∧ StK H st ∧ Tab H t prs ∧ tabB prs = true ∧ t ≠ st ∧ (∀ p ∈ prs, p.1 ≠ st) ∧ (∀ p ∈ prs, ∀ z ∈ p.2, z.natAbs ≤ 10 ^ 38) ∧ ∀ H', But st H H' → Q (.bl true) H'
abbrev runN : List Str := ["store", "table", "handed", "keeper", "state", "held", "turn", "deed", "again", "question"]
theorem sc_runR : FnScope runN ["store", "table"] (defScope dRunR) := ⟨rfl, rfl, rfl, by decide +kernel, rfl, by decide +kernel, by decide +kernel⟩
set_option maxHeartbeats 8000000 in
theorem ok_runR (T : Blt mg) (Df : DefAt K mg "_law_run_right" dRunR ["store", "table"]) (zK : KpM K mg C) (M1 : MtAt P w K mg base 7 C "__init__" ["self", "table"] (spInit C))
    (G3 : FnAt P w K mg base 1 "_law_take" ["store", "many"] spTakeK) (G6 : FnAt P w K mg base 1 "_law_copy" ["table"] spCopyN) (G7 : FnAt P w K mg base 4 "_law_deed" ["store", "state"] spDeed) (G8 : FnAt P w K mg base 10 "_law_deed_right" ["keeper", "state", "deed"] (spDeedR C)) (G9 : FnAt P w K mg base 11 "_law_told_right" ["store", "keeper", "table", "held"] (spTabR K C)) (G10 : FnAt P w K mg base 3 "_law_table_right" ["store", "keeper", "table", "held"] (spTabR K C)) :
    FnAt P w K mg base 12 "_law_run_right" ["store", "table"] spRunR := by
  refine FnAt.of Df sc_runR (fun vs H Q E h => ?_) (fun f cdv A outer s H vs Q E hr h => ?_)
  · obtain ⟨st, t, prs, rfl, _⟩ := h
    rfl
  · obtain ⟨st, t, prs, rfl, hst, hT, hg, nts, nps, hbnd, q⟩ := h
    have nd := sc_runR.nd
    have nd2 : (["told", "due"] : List Str).Nodup := by decide +kernel
    have hr1 := hr.mono (show 1 ≤ 11 by decide)
    refine ⟨_, pss_cons (ps_set (i := 2) nd rfl (Or.inl rfl) (pe_f G6 hr1 (pa_cons (pv 1) pa_nil)))
      (pss_cons (ps_set (i := 3) nd rfl (Or.inl rfl) (pe_new M1 zK.mks zK.kp (hr.mono (by decide)) rfl zK.gl (pa_cons (pv 2) pa_nil)))
      (pss_cons (ps_set (i := 4) nd rfl (Or.inl rfl) (pe_tup (pa_cons (pv 1) (pa_cons (pe_lst pa_nil) pa_nil))))
      (pss_cons (ps_set (i := 5) nd rfl (Or.inl rfl) (pe_lst pa_nil))
      (pss_cons (ps_asg (pe_op o_sub (pe_ix ix_list (pe_ix ix_list (pv 2) pe_int (fun _ _ => rfl)) pe_int (fun _ _ => rfl)) pe_int) (pg_sub (pe_ix ix_list (pv 2) pe_int (fun _ _ => rfl)) pe_int set_list))
      (pss_cons (ps_expr (pe_bm PySem.F.plainAttrs_list PySem.F.slot_list_append PySem.F.type_list_append mt_append (pe_ix ix_list (pv 2) (pe_un o_neg pe_int) (fun _ _ => rfl)) (pa_cons pe_int pa_nil)))
      (pss_cons (ps_expr (pe_bm PySem.F.plainAttrs_list PySem.F.slot_list_append PySem.F.type_list_append mt_append (pv 2) (pa_cons (pe_lst pa_nil) pa_nil)))
      (pss_cons (ps_for PassesOwn.never rfl (pi_range1 rfl T.rng (pa_cons (pe_f G3 hr1 (pa_cons (pv 0) (pa_cons pe_int pa_nil))) pa_nil)) (pg_name (i := 6) nd rfl (Or.inl rfl))
        (pss_cons (ps_set (i := 7) nd rfl (Or.inl rfl) (pe_f G7 (hr.mono (by decide)) (pa_cons (pv 0) (pa_cons (pv 4) pa_nil))))
        (pss_cons (ps_for PassesOwn.never rfl (pi_range1 rfl T.rng (pa_cons (pe_ix ix_list (pe_lst (pa_cons pe_int (pa_cons pe_int (pa_cons pe_int (pa_cons pe_int pa_nil))))) (pe_f G3 hr1 (pa_cons (pv 0) (pa_cons pe_int pa_nil))) (fun _ _ => rfl)) pa_nil)) (pg_name (i := 8) nd rfl (Or.inl rfl))
          (pss_cons (ps_set (i := 4) nd rfl (Or.inl rfl) (pe_f G8 (hr.mono (by decide)) (pa_cons (pv 3) (pa_cons (pv 4) (pa_cons (pv 7) pa_nil)))))
          (pss_one (ps_if (pt_cmpR op_isN (pv 4) pe_non (nomark _)) (pss_one (ps_ret pe_bl)) pss_nil))))
        (pss_one (ps_for PassesOwn.never rfl (pi_range1 rfl T.rng (pa_cons (pe_f G3 hr1 (pa_cons (pv 0) (pa_cons pe_int pa_nil))) pa_nil)) (pg_name (i := 9) nd rfl (Or.inl rfl))
          (pss_one (ps_if (pt_not (pt_val (pe_f G9 hr (pa_cons (pv 0) (pa_cons (pv 3) (pa_cons (pe_ix ix_tup (pv 4) pe_int (fun _ _ => rfl)) (pa_cons (pv 5) pa_nil))))))) (pss_one (ps_ret pe_bl)) pss_nil)))))))
      (pss_cons (ps_for PassesOwn.never rfl (pi_range1 rfl T.rng (pa_cons pe_int pa_nil)) (pg_name (i := 9) nd rfl (Or.inl rfl))
          (pss_one (ps_if (pt_not (pt_val (pe_f G9 hr (pa_cons (pv 0) (pa_cons (pv 3) (pa_cons (pe_ix ix_tup (pv 4) pe_int (fun _ _ => rfl)) (pa_cons (pv 5) pa_nil))))))) (pss_one (ps_ret pe_bl)) pss_nil)))
      (pss_cons (ps_if (pt_not (pt_val (pe_f G10 (hr.mono (by decide)) (pa_cons (pv 0) (pa_cons (pv 3) (pa_cons (pe_ix ix_tup (pv 4) pe_int (fun _ _ => rfl)) (pa_cons (pv 5) pa_nil))))))) (pss_one (ps_ret pe_bl)) pss_nil)
      (pss_one (ps_ret (pe_cmpR (op_eqD hr.units) (pe_comp ["told", "due"] [none, none] (defScope dRunR) runN rfl (pi_list (pv 5)) (by decide +kernel)
        (fun cl C s2 H2 ex => pg_c2 K rfl nd2) (fun cl C s2 H2 ex => pifs_one (pt_cmpR (neDK K hr.units) (pv 0) (pv 1) (nomark _))) (fun cl C s2 H2 ex => pe_int)) (pe_lst pa_nil) (nomark _))))))))))))), ?_⟩
    obtain ⟨g, g1, g2, g3, g4⟩ := good_of hg
    refine ⟨_, rfl, t, prs, rfl, hT, good_bounds hg, fun th qh H1 hth hqh hndh s1 hTh hrh => ?_⟩
    have hgh : tabB qh = true := by rw [tabB_rows hrh]; exact hg
    obtain ⟨gh, gh1, gh2, gh3, gh4⟩ := good_of hgh
    refine ⟨_, rfl, ?_⟩
    intro a dx ha hdx nda
    refine new_keep ha hdx nda hTh hgh fun t1 l p1 H2 s2 ht1 hl nal nat hp1 hnd1 hr1' hk2 => ⟨rfl, ?_⟩
    refine ⟨_, rfl, len0, fun Ea hEa => ⟨len2, fun D hD => ⟨len0, fun hd hhd => ?_⟩⟩⟩
    have m3 := Same.new (o := .lst []) hEa
    have e3 : (upd H2 Ea (.lst [])) Ea = some (.lst []) := upd_same
    generalize upd H2 Ea (.lst []) = H3 at m3 e3 hD hhd ⊢
    have m4 := Same.new (o := .tup [.ref t, .ref Ea]) hD
    have e4 : (upd H3 D (.tup [.ref t, .ref Ea])) D = some (.tup [.ref t, .ref Ea]) := upd_same
    generalize upd H3 D (.tup [.ref t, .ref Ea]) = H4 at m4 e4 hhd ⊢
    have m5 := Same.new (o := .lst []) hhd
    have e5 : (upd H4 hd (.lst [])) hd = some (.lst []) := upd_same
    generalize upd H4 hd (.lst []) = H5 at m5 e5 ⊢
    have s25 := m3.trans (m4.trans m5)
    have s15 := s2.trans s25
    have hTh5 := hTh.same s15
    obtain ⟨pz, hpz, hmz, hxz⟩ := head_at (prs := qh) gh1
    obtain ⟨pl, hml, hxl⟩ := at_pr_last gh1
    have wz := gh.len pz hmz
    refine ⟨_, rfl, th, _, 0, .ref pz.1, rfl, rfl, hTh5.sq, atI_nat (j := 0) (by rw [List.getElem?_map, hxz]; rfl), pz.1, _, 0, .int (pz.2.getD 0 0), rfl, rfl, (hTh5.r pz hmz).sq, at_row (i := 0) (by omega), _, _, rfl, rfl, _, rfl, th, _, 0, .ref pz.1, rfl, rfl, hTh5.sq, atI_nat (j := 0) (by rw [List.getElem?_map, hxz]; rfl), pz.1, _, 0, 0, rfl, rfl, hTh5.r pz hmz, ix0 (by rw [List.length_map]; omega), ?_⟩
    have b6 : ∀ y o, y ≠ pz.1 → H5 y = some o → (upd H5 pz.1 (.lst ((pz.2.map V.int).set 0 (.int (pz.2.getD 0 0 - 1))))) y = some o := fun y o ny e => by rw [upd_ne ny]; exact e
    have l6 : ∃ xs, (upd H5 pz.1 (.lst ((pz.2.map V.int).set 0 (.int (pz.2.getD 0 0 - 1))))) pl.1 = some (.lst xs) ∧ xs.length ≤ 6 := by
      by_cases z : pl.1 = pz.1
      · rw [z]
        exact ⟨_, upd_same, by rw [List.length_set, List.length_map]; omega⟩
      · have := gh.len pl hml
        exact ⟨_, b6 _ _ z (hTh5.r pl hml), by rw [List.length_map]; omega⟩
    generalize upd H5 pz.1 (.lst ((pz.2.map V.int).set 0 (.int (pz.2.getD 0 0 - 1)))) = H6 at b6 l6 ⊢
    obtain ⟨xs, l6, hxs⟩ := l6
    have nth : ∀ p ∈ qh, th ≠ p.1 := fun p hp => (hqh p hp).2.symm
    have t6 := b6 _ _ (nth pz hmz) hTh5.l
    refine ⟨_, rfl, _, rfl, th, _, _, .ref pl.1, rfl, rfl, SqL.of t6, hxl, .inl ⟨rfl, _, SqL.of l6⟩, pl.1, _, _, rfl, rfl, l6, small1000 (by omega), ?_⟩
    have b7 : ∀ y o, y ≠ pl.1 → H6 y = some o → (upd H6 pl.1 (.lst (xs ++ [.int 0]))) y = some o := fun y o ny e => by rw [upd_ne ny]; exact e
    generalize upd H6 pl.1 (.lst (xs ++ [.int 0])) = H7 at b7 ⊢
    have t7 := b7 _ _ (nth pl hml) t6
    refine ⟨_, rfl, .inl ⟨rfl, _, SqL.of t7⟩, len0, fun l0 hl0 => ⟨th, _, _, rfl, rfl, (Same.new hl0) _ _ t7, small1000 (by rw [List.length_map]; omega), ?_⟩⟩
    have b8 : ∀ y o, y ≠ th → (∀ p ∈ qh, y ≠ p.1) → H5 y = some o → (upd (upd H7 l0 (.lst [])) th (.lst (qh.map (fun p => V.ref p.1) ++ [.ref l0]))) y = some o := fun y o n1 n2 e => by
      rw [upd_ne n1]
      exact (Same.new hl0) _ _ (b7 _ _ (n2 pl hml) (b6 _ _ (n2 pz hmz) e))
    generalize upd (upd H7 l0 (.lst [])) th (.lst (qh.map (fun p => V.ref p.1) ++ [.ref l0])) = H8 at b8 ⊢
    have bo : ∀ {y : Addr} {o : HO}, H y ≠ none → H5 y = some o → H8 y = some o := fun {y o} hy e => b8 y o (live_ne hy hth) (fun p hp => live_ne hy (hqh p hp).1) e
    have bn : ∀ {y : Addr} {o : HO}, H1 y = none → H5 y = some o → H8 y = some o := fun {y o} hy e => b8 y o (live_ne (some_ne hTh.l) hy).symm (fun p hp => (live_ne (some_ne (hTh.r p hp)) hy).symm) e
    obtain ⟨u1, u2, u3, u4⟩ := keep_apart hk2
    obtain ⟨y1, y2, y3, est⟩ := id hst
    have s05 := s1.trans s15
    have nst : ∀ {y : Addr}, H1 y = none → y ≠ st := fun hy => (live_ne (some_ne est) (s1.free hy)).symm
    have n23 : H1 Ea = none := s2.free hEa
    have n24 : H1 D = none := (s2.trans m3).free hD
    have n25 : H1 hd = none := (s2.trans (m3.trans m4)).free hhd
    have ma : H4 a ≠ none := (m3.trans m4).live (some_ne hk2.ob)
    have ml : H4 l ≠ none := (m3.trans m4).live (some_ne hk2.L)
    have offA : ∀ {y : Addr}, y ≠ st → y ≠ a → y ≠ l → y ≠ hd → y ∉ [st, a, l, hd] := fun h1 h2 h3 h4 z => by
      simp only [List.mem_cons, List.not_mem_nil, or_false] at z
      rcases z with z | z | z | z
      · exact h1 z
      · exact h2 z
      · exact h3 z
      · exact h4 z
    have offO : ∀ {y : Addr}, H y ≠ none → y ≠ st → y ∉ [st, a, l, hd] := fun h1 h2 => offA h2 (live_ne h1 (s1.free ha)) (live_ne h1 (s1.free hl)) (live_ne h1 (s1.free n25))
    have off2 : ∀ {y : Addr}, H1 y = none → y ≠ a → y ≠ l → H4 y ≠ none → y ∉ [st, a, l, hd] := fun h1 h2 h3 h4 => offA (nst h1) h2 h3 (live_ne h4 hhd)
    have hk8 : Keep H8 C a dx t1 l p1 [] := ⟨bn ha (s25 _ _ hk2.ob), ⟨bn ht1 (s25 _ _ hk2.T.l), fun p hp => bn (hp1 p hp) (s25 _ _ (hk2.T.r p hp))⟩, hk2.ok, bn hl (s25 _ _ hk2.L), fun c hc => nomatch hc⟩
    have hT8 : Tab H8 t prs := ⟨bo (some_ne hT.l) (s05 _ _ hT.l), fun p hp => bo (some_ne (hT.r p hp)) (s05 _ _ (hT.r p hp))⟩
    have est8 := bo (some_ne est) (s05 _ _ est)
    have h8 : H8 hd = some (.lst []) := bn n25 e5
    have hK8 : KH K [st, a, l, hd] H8 C st a l hd prs.length (w0 prs) (10 ^ 38) ⟨a, dx, l, t1, p1, [], D, t, Ea, prs, []⟩ [] := by
      refine ⟨⟨⟨y1, y2, y3, est8⟩, ⟨hk8, ⟨bn n24 (m5 _ _ e4), hT8, hg, bn n23 ((m4.trans m5) _ _ e3), fun c hc => (nomatch hc), Nat.zero_le _, off2 n24 (live_ne (m3.live (some_ne hk2.ob)) hD).symm (live_ne (m3.live (some_ne hk2.L)) hD).symm (some_ne e4), offO (some_ne hT.l) nts, off2 n23 (live_ne (some_ne hk2.ob) hEa).symm (live_ne (some_ne hk2.L) hEa).symm (m4.live (some_ne e3)), fun p hp => offO (some_ne (hT.r p hp)) (nps p hp), fun c hc => nomatch hc⟩, (hr1'.trans hrh).symm, rfl, trivial, ?_, ?_, off2 ht1 u1 u2 ((m3.trans m4).live (some_ne hk2.T.l)), fun p hp => off2 (hp1 p hp) (u3 p hp).1 (u3 p hp).2 ((m3.trans m4).live (some_ne (hk2.T.r p hp))), fun c hc => (nomatch hc), by simp, by simp, hbnd, fun c hc => nomatch hc⟩, rfl, rfl, nst ha, nst hl, by simp, fun y hy => ?_⟩, h8, fun e he => (nomatch he), by simp, nst n25, (live_ne ma hhd).symm, (live_ne ml hhd).symm⟩
      · have := congrArg List.length (hr1'.trans hrh)
        simpa using this
      · show w0 p1 = w0 prs
        rw [← wR_w0, hr1', hrh, wR_w0]
      · simp only [List.mem_cons, List.not_mem_nil, or_false] at hy
        rcases hy with z | z | z | z
        · rw [z]; exact some_ne est8
        · rw [z]; exact some_ne hk8.ob
        · rw [z]; exact some_ne hk8.L
        · rw [z]; exact some_ne h8
    have back : ∀ {H' : Hp}, ButS [st, a, l, hd] H8 H' → But st H H' := fun b y o ny e => b y o (offO (some_ne e) ny) (bo (some_ne e) (s05 _ _ e))
    clear hk8 hT8 est8 h8 off2 offO offA bn bo b8 b7 b6 t6 t7 l6 e3 e4 e5 m3 m4 m5 hk2 hTh5
    generalize hF : [st, a, l, hd] = F at hK8 back
    have stU : ∀ {H1 H' : Hp}, But st H1 H' → ButS F H1 H' := fun b y o n e => b y o (fun z => n (by rw [z, ← hF]; simp)) e
    have shU : ∀ {H1 H' : Hp}, ButS [st, hd] H1 H' → ButS F H1 H' := fun b y o n e => b y o (fun z => n (by
      rw [← hF]
      simp only [List.mem_cons, List.not_mem_nil, or_false] at z ⊢
      rcases z with z | z
      · exact .inl z
      · exact .inr (.inr (.inr z)))) e
    have alU : ∀ {H1 H' : Hp}, ButS [a, l] H1 H' → ButS F H1 H' := fun b y o n e => b y o (fun z => n (by
      rw [← hF]
      simp only [List.mem_cons, List.not_mem_nil, or_false] at z ⊢
      rcases z with z | z
      · exact .inr (.inl z)
      · exact .inr (.inr (.inl z)))) e
    refine ⟨_, rfl, st, 21, rfl, by decide, by decide, hK8.k.sto, fun dn H9 dn0 dn1 b9 st9 => ⟨_, rfl, by omega, by omega, ?_⟩⟩
    refine for_range (fun k σ Hk => ∃ (o6 o7 o8 o9 : Option V) (r : KR) (hs : List (Addr × V × V × PyData)), σ = [some (.ref st), some (.ref t), some (.ref th), some (.ref a), some (.ref r.D), some (.ref hd), o6, o7, o8, o9] ∧ ButS F H8 Hk ∧ KH K F Hk C st a l hd prs.length (w0 prs) (10 ^ 38 + 2 * k) r hs ∧ r.ech.length ≤ 2 * k ∧ hs.length ≤ 2 * k)
      ⟨_, _, _, _, _, _, rfl, stU b9, hK8.sts b9 st9, Nat.zero_le _, Nat.zero_le _⟩ ?_ ?_
    · clear hK8 b9 st9
      rintro tn σ Hk htn ⟨o6, o7, o8, o9, r, hs, rfl, bk, hK, hle, hhs⟩
      have hqn : r.qs.length = prs.length := by
        have := congrArg List.length hK.k.ok.eq
        simp only [List.length_map] at this
        have := hK.k.ok.hn
        omega
      have hqm : w0 r.qs = w0 prs := by rw [← wR_w0, hK.k.ok.eq, wR_w0]; exact hK.k.ok.hm
      have htl : tn < 21 := by omega
      have hB40 : ∀ k, k < 100 → 10 ^ 38 + k < 10 ^ 40 := fun k hk => Nat.lt_of_lt_of_le (show 10 ^ 38 + k < 10 ^ 38 + 200 by omega) (by decide)
      refine ⟨_, rfl, _, rfl, st, r.D, r.T, r.Ea, r.qs, 10 ^ 38 + 2 * tn, F, rfl, hK.k.sto, hK.k.ok.s.d, hK.k.ok.s.tb, hK.k.ok.s.ok, hK.k.ok.s.tS, hK.k.ok.s.pS, hK.k.stF, hK.k.live, hK.k.ok.bq, ?_, ?_, fun v Ha ba sta hdeed => ?_⟩
      · exact Nat.le_trans (by decide) (Nat.le_add_right _ _)
      · exact hB40 (2 * tn + 1) (by omega)
      rw [hqn, hqm] at hdeed
      have hKa := hK.sts ba sta
      have bka := bk.trans (stU ba)
      refine ⟨len4, fun Lx hLx => ⟨_, rfl, st, 4, rfl, by decide, by decide, hKa.k.sto.same (Same.new hLx), fun d Hb d0 d1 bb stb => ?_⟩⟩
      have sLx := Same.new (o := .lst [.int 1, .int 1, .int 1, .int 2]) hLx
      have eLx : (upd Ha Lx (.lst [.int 1, .int 1, .int 1, .int 2])) Lx = some (.lst [.int 1, .int 1, .int 1, .int 2]) := upd_same
      obtain ⟨c, hc, hat⟩ := one_two d0 d1
      have nLx : Lx ≠ st := (live_ne (hKa.k.live _ hKa.k.stF) hLx).symm
      have bab : But st Ha Hb := (Same.but sLx).trans bb
      have hKb := hKa.sts bab stb
      have bkb := bka.trans (stU bab)
      refine ⟨Lx, _, d, .int (c : Nat), rfl, rfl, SqL.of (bb _ _ nLx eLx), hat, _, rfl, by omega, by omega, ?_⟩
      rw [Int.toNat_natCast]
      refine for_range (fun j σ Hj => ∃ (o8 : Option V) (r' : KR), σ = [some (.ref st), some (.ref t), some (.ref th), some (.ref a), some (.ref r'.D), some (.ref hd), some (.int (0 + (tn : Nat))), some v, o8, o9] ∧ ButS F H8 Hj ∧ KH K F Hj C st a l hd prs.length (w0 prs) (10 ^ 38 + 2 * tn + j) r' hs ∧ r'.ech.length ≤ 2 * tn + j ∧ DeedOk F prs.length (w0 prs) (10 ^ 38 + 2 * tn + 1) Hj v)
        ⟨_, r, rfl, bkb, hKb, hle, hdeed.but (stU bab)⟩ ?_ ?_
      · rintro j σ Hj hj ⟨o8', r', rfl, bj, hKj, hlj, hdj⟩
        refine ⟨_, rfl, _, rfl, _, rfl, F, st, a, l, _, _, 10 ^ 38 + 2 * tn + j, 10 ^ 38 + 2 * tn + 1, r', v, rfl, hKj.k, hdj, by omega, by have := hB40 (2 * tn + j + 1) (by omega); omega, by omega, fun H' r2 b' k' l' => ?_⟩
        refine ⟨_, rfl, rfl, _, rfl, iteDf (fun z => nomatch z) ⟨_, r2, rfl, bj.trans (alU b'), hKj.deed b' k', by omega, hdj.but (alU b')⟩⟩
      · rintro σ Hj ⟨o8', r', rfl, bj, hKj, hlj, hdj⟩
        have hcl : c ≤ 2 := by omega
        refine ⟨_, rfl, st, 3, rfl, by decide, by decide, hKj.k.sto, fun dq Hc dq0 dq1 bc stc => ⟨_, rfl, by omega, by omega, ?_⟩⟩
        refine for_range (fun i σ Hi => ∃ (o9 : Option V) (hs' : List (Addr × V × V × PyData)), σ = [some (.ref st), some (.ref t), some (.ref th), some (.ref a), some (.ref r'.D), some (.ref hd), some (.int (0 + (tn : Nat))), some v, o8', o9] ∧ ButS F H8 Hi ∧ KH K F Hi C st a l hd prs.length (w0 prs) (10 ^ 38 + 2 * tn + c) r' hs' ∧ hs'.length ≤ hs.length + i)
          ⟨_, hs, rfl, bj.trans (stU bc), hKj.sts bc stc, Nat.le_refl _⟩ ?_ ?_
        · rintro i σ Hi hi ⟨o9', hs', rfl, bi, hKi, hli⟩
          refine ⟨_, rfl, _, rfl, _, rfl, r'.D, _, 0, .ref r'.T, rfl, rfl, SqT.of hKi.k.ok.s.d, rfl, _, rfl, F, st, a, l, hd, _, _, _, r', hs', rfl, hKi, by omega, fun H' hs2 b' k' l' => ⟨_, rfl, iteF ?_⟩⟩
          exact ⟨_, hs2, rfl, bi.trans (shU b'), k', by omega⟩
        · rintro σ Hi ⟨o9', hs', rfl, bi, hKi, hli⟩
          exact ⟨_, _, _, _, r', hs', rfl, bi, hKi.mono (by omega), by omega, by omega⟩
    · clear hK8 b9 st9
      rintro σ Hk ⟨o6, o7, o8, o9, r, hs, rfl, bk, hK, hle, hhs⟩
      refine ⟨2, rfl, by decide, by decide, for_range (fun i σ Hi => ∃ (o9 : Option V) (hs' : List (Addr × V × V × PyData)), σ = [some (.ref st), some (.ref t), some (.ref th), some (.ref a), some (.ref r.D), some (.ref hd), o6, o7, o8, o9] ∧ ButS F H8 Hi ∧ KH K F Hi C st a l hd prs.length (w0 prs) (10 ^ 38 + 2 * dn.toNat) r hs' ∧ hs'.length ≤ hs.length + i)
          ⟨_, hs, rfl, bk, hK, Nat.le_refl _⟩ ?_ ?_⟩
      · rintro i σ Hi hi ⟨o9', hs', rfl, bi, hKi, hli⟩
        refine ⟨_, rfl, _, rfl, _, rfl, r.D, _, 0, .ref r.T, rfl, rfl, SqT.of hKi.k.ok.s.d, rfl, _, rfl, F, st, a, l, hd, _, _, _, r, hs', rfl, hKi, by omega, fun H' hs2 b' k' l' => ⟨_, rfl, iteF ?_⟩⟩
        exact ⟨_, hs2, rfl, bi.trans (shU b'), k', by omega⟩
      · rintro σ Hi ⟨o9', hs', rfl, bi, hKi, hli⟩
        have hli : hs'.length ≤ hs.length + 2 := hli
        refine ⟨_, rfl, _, rfl, _, rfl, r.D, _, 0, .ref r.T, rfl, rfl, SqT.of hKi.k.ok.s.d, rfl, _, rfl, F, st, a, l, hd, _, _, _, r, hs', rfl, hKi, by omega, fun H' hs2 b' k' l' => ⟨_, rfl, iteF ?_⟩⟩
        refine ⟨_, rfl, hd, rfl, ⟨_, SqL.of k'.h⟩, comp_pairsF (fun e : Addr × V × V × PyData => e.1) (fun e => e.2.1) (fun e => e.2.2.1) (SqL.of k'.h) (fun e he => ((k'.e e he).rd _ (ButS.refl _ _)).1) (fun e he Hq Q' sm q' => ?_) fun Dn Hz hDn sm hDl => ⟨len0, fun En hEn => ?_⟩⟩
        · obtain ⟨z1, z2, z3⟩ := (k'.e e he).rd Hq (Same.butS sm)
          refine ⟨_, rfl, _, rfl, e.2.2.2, e.2.2.2, z2, z3, (k'.e e he).sh, (k'.e e he).sh, _, rfl, ?_⟩
          rw [(k'.e e he).eq]
          exact q'
        · have mE := Same.new (o := .lst []) hEn
          refine ⟨.list [], .list [], .lst (SqL.of (mE _ _ hDl)) .nil, .lst (SqL.of upd_same) .nil, rfl, rfl, ?_⟩
          exact q _ (back ((bi.trans (shU b')).trans (Same.butS (sm.trans mE))))
def spLaw (K : PySem.W.Frag) : Sp := fun vs H Q _ => ∃ (a : Addr) (ns : List Int), vs = [.ref a] ∧ SqL K H a (ns.map V.int) ∧ ns.length ≤ 63 ∧ ∀ H', Q (.bl true) H'
theorem sc_law : FnScope ["script", "at", "store"] ["script"] (defScope dLaw) := ⟨rfl, rfl, rfl, by decide +kernel, rfl, by decide +kernel, by decide +kernel⟩
set_option maxHeartbeats 8000000 in
theorem ok_law (T : Blt mg) (hmin : mg "min" = none) {f : Addr} {fd : FuncData} (F : Fun K "law" "law" dLaw f fd) (G1 : FnAt P w K mg base 1 "_law_cell" ["script", "k"] (spLCell K)) (G2 : FnAt P w K mg base 1 "_law_store" ["cell"] spStore) (G5 : FnAt P w K mg base 3 "_law_table" ["store"] spTableK) (G6 : FnAt P w K mg base 12 "_law_run_right" ["store", "table"] spRunR) : FnOk P w K mg base CX0 13 f fd ["script"] (spLaw K) := by
  refine F.ok sc_law (fun vs H Q E h => ?_) (fun cdv A outer s H vs Q E hr h => ?_)
  · obtain ⟨a, ns, rfl, _⟩ := h
    rfl
  · obtain ⟨sc, ns, rfl, hS, hlen, q⟩ := h
    have nd := sc_law.nd
    have hr1 := hr.mono (show 1 ≤ 12 by decide)
    refine ⟨_, (pss_cons (ps_for PassesOwn.never rfl (pi_range1 rfl T.rng (pa_cons (pe_b (call_min2 rfl) hmin boot_min (pa_cons (pe_b (call_max2 rfl) T.max boot_max (pa_cons (pe_b call_len_seq T.len boot_len (pa_cons (pv 0) pa_nil)) (pa_cons pe_int pa_nil))) (pa_cons pe_int pa_nil))) pa_nil)) (pg_name (i := 1) nd rfl (Or.inl rfl)) (pss_cons (ps_set (i := 2) nd rfl (Or.inl rfl) (pe_f G2 hr1 (pa_cons (pe_f G1 hr1 (pa_cons (pv 0) (pa_cons (pv 1) pa_nil))) pa_nil)))
        (pss_one (ps_if (pt_not (pt_val (pe_f G6 hr (pa_cons (pv 2) (pa_cons (pe_f G5 (hr.mono (by decide)) (pa_cons (pv 2) pa_nil)) pa_nil))))) (pss_one (ps_ret pe_bl)) pss_nil))))
        (pss_one (ps_ret pe_bl))), ?_⟩
    refine ⟨_, rfl, sc, _, rfl, .inl hS, _, _, rfl, _, _, rfl, ?_⟩
    rw [List.length_map]
    have hb : ∀ y : Int, y = (if (8 : Int) < (if (3 : Int) > (ns.length : Int) then 3 else (ns.length : Int)) then 8 else (if (3 : Int) > (ns.length : Int) then 3 else (ns.length : Int))) → 0 ≤ y ∧ y ≤ 12 := fun y hy => by
      subst hy
      split
      · omega
      · split at * <;> omega
    have hb := hb _ rfl
    generalize (if (8 : Int) < (if (3 : Int) > (ns.length : Int) then 3 else (ns.length : Int)) then 8 else (if (3 : Int) > (ns.length : Int) then 3 else (ns.length : Int))) = many at hb ⊢
    refine ⟨many, rfl, by omega, by omega, for_range (fun i σ H2 => ∃ o1 o2 : Option V, σ = [some (.ref sc), o1, o2] ∧ Same H H2) ⟨none, none, rfl, Same.refl _⟩ ?_ ?_⟩
    · rintro i σ H2 hi ⟨o1, o2, rfl, sm⟩
      refine ⟨_, rfl, _, rfl, sc, ns, i, by rw [Int.zero_add], sm.seq hS, by omega, fun cc => ⟨cc, rfl, fun st H3 hst s3 S3 => ?_⟩⟩
      have hst0 : H st = none := sm.free hst
      have sm3 := sm.trans s3
      refine ⟨_, rfl, _, rfl, st, rfl, S3, fun t prs H4 ht hfr hnd B4 S4 hT4 hg hbnd => ?_⟩
      have nts : t ≠ st := (S3.ne ht).symm
      have nps : ∀ p ∈ prs, p.1 ≠ st := fun p hp => (S3.ne (hfr p hp)).symm
      have smB4 : But st H H4 := (Same.but sm3).trans B4
      refine ⟨st, t, prs, rfl, S4, hT4, hg, nts, nps, fun p hp z hz => Nat.le_of_lt (hbnd p hp z hz), fun H' b' => ⟨_, rfl, iteF ?_⟩⟩
      exact ⟨_, _, rfl, fun y o e => (smB4.trans b') y o (fun z => by rw [z, hst0] at e; cases e) e⟩
    · rintro σ H2 ⟨o1, o2, rfl, sm⟩
      exact q H2
end
theorem defAt_mk {K : PySem.W.Frag} {h : Heap} {mg : Str → Option Value} {x : Str} {st : Stmt} {ps : List Str} {f : Addr} (X : K.In h) (G : h.Ns mainGlobals mg) {od an : Option Addr} {sl : Array (Option Value)} {oc kV dc pm cd ct : Value}
    (a : PySem.W.nsIn K mainGlobals x = some (some (.ref f))) (l : K.lookup f = some ⟨oc, od, .func (PySem.W.fnOf x x (defArgs st) (defBody st) (defScope st) .none kV dc pm an cd ct), sl⟩) (c : PySem.W.codeIn K cd x = true) (k : PySem.W.keepIn K (.ref f) = true)
    (b : ∀ (kV doc pm : Value) (an : Option Addr) (cdv ct : Value) (us : List Value), us.length = ps.length → bindArgs (PySem.W.fnOf x x (defArgs st) (defBody st) (defScope st) .none kV doc pm an cdv ct) ⟨us, []⟩ = pure (ps.zip us)) : DefAt K mg x st ps := by
  have F := fun_mk (st := st) l c k
  exact ⟨f, _, F, PySem.W.mg_of X G a, F.binds b⟩
theorem blt_mk {K : PySem.W.Frag} {h : Heap} {mg : Str → Option Value} {t1 t2 : Tok} (X : K.In h) (G : h.Ns mainGlobals mg) (e1 : PySem.W.nsIn K mainGlobals "len" = some none) (e2 : PySem.W.nsIn K mainGlobals "all" = some none) (e3 : PySem.W.nsIn K mainGlobals "isinstance" = some none)
    (e4 : PySem.W.nsIn K mainGlobals "range" = some none) (e5 : PySem.W.nsIn K mainGlobals "int" = some none) (e6 : PySem.W.nsIn K mainGlobals "bool" = some none) (e7 : PySem.W.nsIn K mainGlobals "list" = some none) (e8 : PySem.W.nsIn K mainGlobals "enumerate" = some none)
    (e9 : PySem.W.nsIn K mainGlobals "abs" = some none) (e10 : PySem.W.nsIn K mainGlobals "max" = some none) (e11 : PySem.W.nsIn K mainGlobals "MOST_ROWS" = some (some (.int 6 t1))) (e12 : PySem.W.nsIn K mainGlobals "MOST_PLACES" = some (some (.int 6 t2))) : Blt mg :=
  ⟨PySem.W.mg_none_of X G e1, PySem.W.mg_none_of X G e2, PySem.W.mg_none_of X G e3, PySem.W.mg_none_of X G e4, PySem.W.mg_none_of X G e5, PySem.W.mg_none_of X G e6, PySem.W.mg_none_of X G e7, PySem.W.mg_none_of X G e8, PySem.W.mg_none_of X G e9, PySem.W.mg_none_of X G e10,
    ⟨_, PySem.W.mg_of X G e11⟩, ⟨_, PySem.W.mg_of X G e12⟩⟩
theorem walk {l : PySem.W.OpenLaw} {q : Program} {loose : List Str} {XP : (Str → Option Value) → Heap → Prop} {YP : World → Heap → Prop} {d : DefRec} {K : Params → PySem.W.Frag} (hn : l.most = some 63) (hdf : d.params.defaults = [])
    (hY : ∀ (w : World) (h : Heap), YP w h → (K w.params).In h)
    (F : ∀ (w : World) (mg : Str → Option Value) (fa : Addr) (h : Heap), (K w.params).In h → h.Ns mainGlobals mg → mg d.name = some (.ref fa) →
      ∃ fd : FuncData, (∀ (s : Shared) (u : Value), BindsTo s fd ⟨[u], []⟩ [("script", u)]) ∧ ∀ base : Heap, (K w.params).In base → base.Ns mainGlobals mg → FnOk l.prog w (K w.params) mg base CX0 20 fa fd ["script"] (spLaw (K w.params))) :
    PySem.W.WalkO q loose XP YP l.row.toRowW d [] (fun f vs => PySem.call f vs) :=
  L2.walk_of (n := 63) (k := 20) (x := "script") (CX := fun _ => CX0) (sp := fun w => spLaw (K w.params)) hn (by decide) hdf ⟨rfl, by decide, by decide, rfl⟩ hY F (fun _ _ a ns hl _ hS => ⟨a, ns, rfl, hS, hl, fun _ => rfl⟩) fun _ _ _ _ _ z => z
theorem nms_mk {K : PySem.W.Frag} {h : Heap} {mg : Str → Option Value} {S a0 a1 a2 a3 a4 a5 a6 a7 a8 a9 a10 a11 : Addr} (X : K.In h) (G : h.Ns mainGlobals mg) (e : PySem.W.nsIn K mainGlobals "SeekError" = some (some (.ref S))) (e0 : PySem.W.nsIn K mainGlobals "NoTable" = some (some (.ref a0))) (e1 : PySem.W.nsIn K mainGlobals "NoCell" = some (some (.ref a1)))
    (e2 : PySem.W.nsIn K mainGlobals "NoNumber" = some (some (.ref a2))) (e3 : PySem.W.nsIn K mainGlobals "NoSize" = some (some (.ref a3))) (e4 : PySem.W.nsIn K mainGlobals "NoStair" = some (some (.ref a4))) (e5 : PySem.W.nsIn K mainGlobals "NoLook" = some (some (.ref a5)))
    (e6 : PySem.W.nsIn K mainGlobals "NoPlace" = some (some (.ref a6))) (e7 : PySem.W.nsIn K mainGlobals "NoFit" = some (some (.ref a7))) (e8 : PySem.W.nsIn K mainGlobals "NoChange" = some (some (.ref a8))) (e9 : PySem.W.nsIn K mainGlobals "NoText" = some (some (.ref a9)))
    (e10 : PySem.W.nsIn K mainGlobals "NoName" = some (some (.ref a10))) (e11 : PySem.W.nsIn K mainGlobals "NoRow" = some (some (.ref a11))) : Nms mg S [a0, a1, a2, a3, a4, a5, a6, a7, a8, a9, a10, a11] :=
  ⟨rfl, PySem.W.mg_of X G e, PySem.W.mg_of X G e0, PySem.W.mg_of X G e1, PySem.W.mg_of X G e2, PySem.W.mg_of X G e3, PySem.W.mg_of X G e4, PySem.W.mg_of X G e5, PySem.W.mg_of X G e6, PySem.W.mg_of X G e7, PySem.W.mg_of X G e8, PySem.W.mg_of X G e9, PySem.W.mg_of X G e10, PySem.W.mg_of X G e11⟩
theorem err_mk {K : PySem.W.Frag} {S C a0 a1 a2 a3 a4 a5 a6 a7 a8 a9 a10 a11 : Addr} {i : Nat} (k : ExcK K C) (sk : PySem.W.mroIn K C (.ref S) = some true) (kv : PySem.W.kitOne K (.ref C) (.type "ValueError") = some true)
    (k0 : PySem.W.kitOne K (.ref C) (.ref a0) = some (decide (0 = i))) (k1 : PySem.W.kitOne K (.ref C) (.ref a1) = some (decide (1 = i))) (k2 : PySem.W.kitOne K (.ref C) (.ref a2) = some (decide (2 = i))) (k3 : PySem.W.kitOne K (.ref C) (.ref a3) = some (decide (3 = i)))
    (k4 : PySem.W.kitOne K (.ref C) (.ref a4) = some (decide (4 = i))) (k5 : PySem.W.kitOne K (.ref C) (.ref a5) = some (decide (5 = i))) (k6 : PySem.W.kitOne K (.ref C) (.ref a6) = some (decide (6 = i))) (k7 : PySem.W.kitOne K (.ref C) (.ref a7) = some (decide (7 = i)))
    (k8 : PySem.W.kitOne K (.ref C) (.ref a8) = some (decide (8 = i))) (k9 : PySem.W.kitOne K (.ref C) (.ref a9) = some (decide (9 = i))) (k10 : PySem.W.kitOne K (.ref C) (.ref a10) = some (decide (10 = i))) (k11 : PySem.W.kitOne K (.ref C) (.ref a11) = some (decide (11 = i))) :
    Err K S [a0, a1, a2, a3, a4, a5, a6, a7, a8, a9, a10, a11] i C :=
  ⟨k, sk, kv, fun j D h => match j, h with
    | 0, h => by cases h; exact k0
    | 1, h => by cases h; exact k1
    | 2, h => by cases h; exact k2
    | 3, h => by cases h; exact k3
    | 4, h => by cases h; exact k4
    | 5, h => by cases h; exact k5
    | 6, h => by cases h; exact k6
    | 7, h => by cases h; exact k7
    | 8, h => by cases h; exact k8
    | 9, h => by cases h; exact k9
    | 10, h => by cases h; exact k10
    | 11, h => by cases h; exact k11
    | n + 12, h => by simp at h⟩
theorem all_mk {l : PySem.W.OpenLaw} {w : World} {K : PySem.W.Frag} {mg : Str → Option Value} {fa C S a0 a1 a2 a3 a4 a5 a6 a7 a8 a9 a10 a11 : Addr} (hfa : mg "law" = some (.ref fa)) (T : Blt mg) (h_min : mg "min" = none) (h_tuple : mg "tuple" = none) (h_sorted : mg "sorted" = none) (h_zip : mg "zip" = none) (h_str : mg "str" = none) (h_ValueError : mg "ValueError" = none) (h_repr : mg "repr" = none) (N : Nms mg S [a0, a1, a2, a3, a4, a5, a6, a7, a8, a9, a10, a11]) (kS : ExcK K S) (E1 : Err K S [a0, a1, a2, a3, a4, a5, a6, a7, a8, a9, a10, a11] 1 a1) (E2 : Err K S [a0, a1, a2, a3, a4, a5, a6, a7, a8, a9, a10, a11] 2 a2) (E7 : Err K S [a0, a1, a2, a3, a4, a5, a6, a7, a8, a9, a10, a11] 7 a7) (E8 : Err K S [a0, a1, a2, a3, a4, a5, a6, a7, a8, a9, a10, a11] 8 a8) (zK : KpM K mg C)
    (m_init : MethDef K C "__init__" "Keeper.__init__" (methOf dKeeper 0) ["self", "table"])
    (m_change : MethDef K C "change" "Keeper.change" (methOf dKeeper 1) ["self", "cell", "x"])
    (m_undo : MethDef K C "undo" "Keeper.undo" (methOf dKeeper 2) ["self"])
    (m_table : MethDef K C "table" "Keeper.table" (methOf dKeeper 3) ["self"])
    (m_cells : MethDef K C "cells" "Keeper.cells" (methOf dKeeper 4) ["self", "x"])
    (m_number : MethDef K C "number" "Keeper.number" (methOf dKeeper 5) ["self", "k"])
    (m_span : MethDef K C "span" "Keeper.span" (methOf dKeeper 6) ["self", "cell"])
    (d_is_whole : DefAt K mg "is_whole" dIsWhole ["thing"])
    (d_all_whole : DefAt K mg "all_whole" dAllWhole ["things"])
    (d_never_falls : DefAt K mg "never_falls" dNeverFalls ["numbers"])
    (d_is_row : DefAt K mg "is_row" dIsRow ["thing"])
    (d_has_table_shape : DefAt K mg "has_table_shape" dShape ["thing"])
    (d_numbers_at_place : DefAt K mg "numbers_at_place" dAtPlace ["table", "place"])
    (d_is_sorted_both_ways : DefAt K mg "is_sorted_both_ways" dSorted ["table"])
    (d_is_table : DefAt K mg "is_table" dIsTable ["thing"])
    (d_need_table : DefAt K mg "need_table" dNeedTable ["thing"])
    (d_need_number : DefAt K mg "need_number" dNeedNumber ["thing"])
    (d_is_cell_of_size : DefAt K mg "is_cell_of_size" dCellSz ["rows", "places", "thing"])
    (d_is_cell : DefAt K mg "is_cell" dIsCell ["table", "thing"])
    (d_need_cell : DefAt K mg "need_cell" dNeedCell ["table", "thing"])
    (d_number_at : DefAt K mg "number_at" dNumberAt ["table", "cell"])
    (d_cells_of : DefAt K mg "cells_of" dCells ["table", "x"])
    (d_how_many_cells : DefAt K mg "how_many_cells" dMany ["table"])
    (d_merged : DefAt K mg "merged" dMerged ["table"])
    (d_need_place : DefAt K mg "need_place" dNeedPlace ["table", "thing"])
    (d_number_by : DefAt K mg "number_by" dNumberBy ["table", "k"])
    (d_copy_of : DefAt K mg "copy_of" dCopyOf ["table"])
    (d_table_with : DefAt K mg "table_with" dWith ["table", "cell", "x"])
    (d_changed_table : DefAt K mg "changed_table" dChanged ["table", "cell", "x"])
    (d_numbers_beside : DefAt K mg "numbers_beside" dBeside ["table", "beside"])
    (d_span_of : DefAt K mg "span_of" dSpan ["table", "cell"])
    (d__law_cell : DefAt K mg "_law_cell" dLCell ["script", "k"])
    (d__law_store : DefAt K mg "_law_store" dStore ["cell"])
    (d__law_take : DefAt K mg "_law_take" dTake ["store", "many"])
    (d__law_far : DefAt K mg "_law_far" dFar ["store", "figures"])
    (d__law_table : DefAt K mg "_law_table" dTable ["store"])
    (d__law_copy : DefAt K mg "_law_copy" dCopy ["table"])
    (d__law_kind : DefAt K mg "_law_kind" dKind ["e", "due"])
    (d__law_span : DefAt K mg "_law_span" dLSpan ["table", "cell"])
    (d__law_near : DefAt K mg "_law_near" dNear ["store", "span", "here"])
    (d__law_deed : DefAt K mg "_law_deed" dDeed ["store", "state"])
    (d__law_is_whole : DefAt K mg "_law_is_whole" dLIsWhole ["thing"])
    (d__law_is_cell : DefAt K mg "_law_is_cell" dLIsCell ["table", "thing"])
    (d__law_due : DefAt K mg "_law_due" dDue ["state", "deed"])
    (d__law_asked : DefAt K mg "_law_asked" dAsked ["keeper", "deed", "due"])
    (d__law_x : DefAt K mg "_law_x" dX ["store", "table"])
    (d__law_table_right : DefAt K mg "_law_table_right" dTabR ["store", "keeper", "table", "held"])
    (d__law_told_right : DefAt K mg "_law_told_right" dToldR ["store", "keeper", "table", "held"])
    (d__law_deed_right : DefAt K mg "_law_deed_right" dDeedR ["keeper", "state", "deed"])
    (d__law_run_right : DefAt K mg "_law_run_right" dRunR ["store", "table"])
    (d_law : DefAt K mg "law" dLaw ["script"])
    : ∃ fd : FuncData, (∀ (s : Shared) (v : Value), BindsTo s fd ⟨[v], []⟩ [("script", v)]) ∧ ∀ base : Heap, K.In base → base.Ns mainGlobals mg → FnOk l.prog w K mg base CX0 20 fa fd ["script"] (spLaw K) := by
  obtain ⟨f, fd, F, hm, hb⟩ := d_law
  have e := hfa.symm.trans hm
  cases e
  refine ⟨fd, ?_, fun base _ _ => ?_⟩
  · obtain ⟨oc, od, kV, doc, pm, an, cdv, ct, osl, rfl, lk, hcd⟩ := F.ex
    exact fun s v => .of_eq rfl
  · have g_is_whole := ok_isWholeA (P := l.prog) (w := w) (base := base) T d_is_whole
    have g_is_wholeI := ok_isWhole (P := l.prog) (w := w) (base := base) T d_is_whole
    have g_all_whole := ok_allWholeTA T d_all_whole g_is_whole
    have g_all_wholeI := ok_allWhole T d_all_whole g_is_wholeI
    have g_all_wholeTI := ok_allWholeT T d_all_whole g_is_wholeI
    have g_all_wholeII := ok_allWholeI T d_all_whole g_is_wholeI
    have g_never_falls := ok_nf (P := l.prog) (w := w) (base := base) T d_never_falls
    have g_is_row := ok_isRow T d_is_row g_all_wholeI
    have g_has_table_shape := ok_shape T d_has_table_shape g_is_row
    have g_numbers_at_place := ok_atPlace (P := l.prog) (w := w) (base := base) d_numbers_at_place
    have g_is_sorted_both_ways := ok_sorted T d_is_sorted_both_ways g_never_falls g_numbers_at_place
    have g_is_table := ok_isTable d_is_table g_has_table_shape g_is_sorted_both_ways
    have g_need_table := ok_needTable d_need_table g_is_table
    have g_need_number := ok_needNumber d_need_number g_is_wholeI
    have g_need_numberX := ok_needNX E2.k N.n2 d_need_number g_is_whole
    have g_is_cell_of_size := ok_cellSz T h_tuple d_is_cell_of_size g_all_wholeTI
    have g_cellSzI := ok_cellSzI T h_tuple d_is_cell_of_size g_all_wholeII
    have g_cellSzA := ok_cellSzA T h_tuple d_is_cell_of_size g_all_whole
    have g_is_cell := ok_isCell T d_is_cell g_is_cell_of_size
    have g_is_cellI := ok_isCellI T d_is_cell g_cellSzI
    have g_is_cellA := ok_isCellA T d_is_cell g_cellSzA
    have g_need_cell := ok_needCell d_need_cell g_is_cell
    have g_need_cellX := ok_needCX E1.k N.n1 d_need_cell g_is_cellA
    have g_number_at := ok_numberAt d_number_at g_need_table g_need_cell
    have g_cells_of := ok_cells T d_cells_of g_need_table g_need_number
    have g_how_many_cells := ok_many (P := l.prog) (w := w) (base := base) T d_how_many_cells
    have g_merged := ok_merged T h_sorted d_merged g_need_table
    have g_need_place := ok_needPlace d_need_place g_is_wholeI g_how_many_cells
    have g_number_by := ok_numberBy d_number_by g_need_table g_need_place g_merged
    have g_copy_of := ok_copyOf (P := l.prog) (w := w) (base := base) T d_copy_of
    have g_table_with := ok_with d_table_with g_copy_of
    have g_changed_table := ok_changed d_changed_table g_need_cell g_need_number g_table_with g_is_table
    have g_changedX := ok_changedX E7.k N.n7 d_changed_table g_need_cell g_need_cellX g_need_number g_need_numberX g_table_with g_is_table
    have g_numbers_beside := ok_beside d_numbers_beside g_is_cellI g_number_at
    have g_span_of := ok_span T h_min d_span_of g_need_cell g_numbers_beside
    have g_kInit := ok_kInit zK.c m_init g_need_table g_copy_of
    have g_kTable := ok_kTable zK.c m_table g_copy_of
    have g_kChange := ok_kChange zK.c m_change g_changed_table g_number_at
    have g_kChX := ok_kChX zK.c m_change g_changedX
    have g_kUndo := ok_kUndo T zK.c m_undo g_table_with g_number_at
    have g_kUnX := ok_kUnX (P := l.prog) (w := w) (base := base) T zK.c E8.k N.n8 m_undo
    have g_kCells := ok_kCells zK.c m_cells g_cells_of
    have g_kSpan := ok_kSpan zK.c m_span g_span_of
    have g_kNumber := ok_kNumber zK.c m_number g_number_by
    have g__law_cell := ok_lcell (P := l.prog) (w := w) (base := base) T d__law_cell
    have g__law_store := ok_store (P := l.prog) (w := w) (base := base) d__law_store
    have g__law_take := ok_takeK (P := l.prog) (w := w) (base := base) d__law_take
    have g__law_far := ok_far T d__law_far g__law_take
    have g__law_table := ok_tableK T d__law_table g__law_take g__law_far
    have g__law_copy := ok_copyN (P := l.prog) (w := w) (base := base) T d__law_copy
    have g__law_kind := ok_kind (P := l.prog) (w := w) (base := base) T h_zip h_ValueError N d__law_kind
    have g__law_span := ok_lSpan (P := l.prog) (w := w) (base := base) T h_sorted d__law_span
    have g__law_near := ok_near T d__law_near g__law_take g__law_far
    have g__law_deed := ok_deed T d__law_deed g__law_take g__law_span g__law_near
    have g__law_is_whole := ok_lIsWhole (P := l.prog) (w := w) (base := base) T d__law_is_whole
    have g__law_is_cell := ok_lIsCell T h_tuple d__law_is_cell g__law_is_whole
    have g__law_due := ok_due T d__law_due g__law_is_cell g__law_is_whole g__law_span
    have g__law_asked := ok_asked T h_str N kS E1 E2 E7 E8 zK.c d__law_asked g_kUndo g_kUnX g_kChange g_kChX g__law_kind
    have g__law_x := ok_xK T h_min d__law_x g__law_take g__law_far
    have g__law_table_right := ok_tabR T zK.c d__law_table_right g_kTable g__law_take g__law_copy
    have g__law_told_right := ok_toldR T h_tuple h_sorted zK.c d__law_told_right g_kSpan g_kCells g_kNumber g__law_span g__law_x g__law_take g__law_table_right
    have g__law_deed_right := ok_deedR T h_tuple h_str h_repr d__law_deed_right g__law_due g__law_asked
    have g__law_run_right := ok_runR T d__law_run_right zK g_kInit g__law_take g__law_copy g__law_deed g__law_deed_right g__law_told_right g__law_table_right
    exact FnOk.mono (ok_law T h_min F g__law_cell g__law_store g__law_table g__law_run_right) (by decide)
end Seek
def PySem.W.Fast.tw11966097163934050900 : Unit := ()
def PySem.W.Fast.tw12192657262242740827 : Unit := ()
def PySem.W.Fast.tw1234162757199081409 : Unit := ()
def PySem.W.Fast.tw13073639496405915557 : Unit := ()
def PySem.W.Fast.tw13199489869418572067 : Unit := ()
def PySem.W.Fast.tw13562202231414219342 : Unit := ()
def PySem.W.Fast.tw13721775540236114954 : Unit := ()
def PySem.W.Fast.tw143931061838718971 : Unit := ()
def PySem.W.Fast.tw14426064572185165758 : Unit := ()
def PySem.W.Fast.tw14608940072778412128 : Unit := ()
def PySem.W.Fast.tw15524602846379635805 : Unit := ()
def PySem.W.Fast.tw1561776945947937890 : Unit := ()
def PySem.W.Fast.tw15890156953538221596 : Unit := ()
def PySem.W.Fast.tw16303998056751522105 : Unit := ()
def PySem.W.Fast.tw16354825901900540792 : Unit := ()
def PySem.W.Fast.tw16584699201564417261 : Unit := ()
def PySem.W.Fast.tw16654660446665740165 : Unit := ()
def PySem.W.Fast.tw16986436305775874033 : Unit := ()
def PySem.W.Fast.tw17077975085367819721 : Unit := ()
def PySem.W.Fast.tw17178075552068309978 : Unit := ()
def PySem.W.Fast.tw1901296422653870614 : Unit := ()
def PySem.W.Fast.tw1939103031558554252 : Unit := ()
def PySem.W.Fast.tw2560899665516712032 : Unit := ()
def PySem.W.Fast.tw3186404828420151502 : Unit := ()
def PySem.W.Fast.tw5086180746776462954 : Unit := ()
def PySem.W.Fast.tw5093865136559279728 : Unit := ()
def PySem.W.Fast.tw5460702251607569778 : Unit := ()
def PySem.W.Fast.tw5478712282368886876 : Unit := ()
def PySem.W.Fast.tw5616871560759874493 : Unit := ()
def PySem.W.Fast.tw5630306538201278029 : Unit := ()
def PySem.W.Fast.tw6042609194869217756 : Unit := ()
def PySem.W.Fast.tw6409247904390037247 : Unit := ()
def PySem.W.Fast.tw6483929565838490622 : Unit := ()
def PySem.W.Fast.tw6647802562197181044 : Unit := ()
def PySem.W.Fast.tw7028949395983466748 : Unit := ()
def PySem.W.Fast.tw7097438338330989808 : Unit := ()
def PySem.W.Fast.tw7161877890554104454 : Unit := ()
def PySem.W.Fast.tw7566203476538740589 : Unit := ()
def PySem.W.Fast.tw7815146428500552265 : Unit := ()
def PySem.W.Fast.tw8071529717527076970 : Unit := ()
def PySem.W.Fast.tw8798183591480209880 : Unit := ()
def PySem.W.Fast.tw8835189904188757328 : Unit := ()
def PySem.W.Fast.tw8912353325455194482 : Unit := ()
def PySem.W.Fast.tw9039604153666151889 : Unit := ()
def PySem.W.Fast.tw9056524148881803496 : Unit := ()
def PySem.W.Fast.tw9097847992736749269 : Unit := ()
def PySem.W.Fast.tw9944756972006539603 : Unit := ()
open PySem PySem.W PyProof.Rows
set_option maxRecDepth 100000 in
set_option maxHeartbeats 0 in
theorem PySem.Challenge.cw_stairseek_k28_a_keeper_by_drawn_deeds_holds : PySem.Challenge.rw_stairseek_k28_a_keeper_by_drawn_deeds.Holds := by
  w_on; o_law; k_head; (case hw => w_witness2)
  k_fill
  refine Seek.walk (l := PySem.Challenge.rw_stairseek_k28_a_keeper_by_drawn_deeds) rfl rfl (fun w h Y => PySem.W.kIn_of Y) ?F
  case F =>
    intro w mg fa h KX G hmg
    refine' Seek.all_mk hmg ?T ?x_min ?x_tuple ?x_sorted ?x_zip ?x_str ?x_ValueError ?x_repr ?zN ?zS ?zE1 ?zE2 ?zE7 ?zE8 ?zK ?m_init ?m_change ?m_undo ?m_table ?m_cells ?m_number ?m_span ?d_is_whole ?d_all_whole ?d_never_falls ?d_is_row ?d_has_table_shape ?d_numbers_at_place ?d_is_sorted_both_ways ?d_is_table ?d_need_table ?d_need_number ?d_is_cell_of_size ?d_is_cell ?d_need_cell ?d_number_at ?d_cells_of ?d_how_many_cells ?d_merged ?d_need_place ?d_number_by ?d_copy_of ?d_table_with ?d_changed_table ?d_numbers_beside ?d_span_of ?d__law_cell ?d__law_store ?d__law_take ?d__law_far ?d__law_table ?d__law_copy ?d__law_kind ?d__law_span ?d__law_near ?d__law_deed ?d__law_is_whole ?d__law_is_cell ?d__law_due ?d__law_asked ?d__law_x ?d__law_table_right ?d__law_told_right ?d__law_deed_right ?d__law_run_right ?d_law
    case T =>
      refine' Seek.blt_mk KX G ?e1 ?e2 ?e3 ?e4 ?e5 ?e6 ?e7 ?e8 ?e9 ?e10 ?e11 ?e12
      (case e1 => k_is); (case e2 => k_is); (case e3 => k_is); (case e4 => k_is); (case e5 => k_is); (case e6 => k_is); (case e7 => k_is); (case e8 => k_is); (case e9 => k_is); (case e10 => k_is); (case e11 => k_is); (case e12 => k_is)
    case x_min =>
      refine' PySem.W.mg_none_of KX G ?e
      (case e => k_is)
    case x_tuple =>
      refine' PySem.W.mg_none_of KX G ?e
      (case e => k_is)
    case x_sorted =>
      refine' PySem.W.mg_none_of KX G ?e
      (case e => k_is)
    case x_zip =>
      refine' PySem.W.mg_none_of KX G ?e
      (case e => k_is)
    case x_str =>
      refine' PySem.W.mg_none_of KX G ?e
      (case e => k_is)
    case x_ValueError =>
      refine' PySem.W.mg_none_of KX G ?e
      (case e => k_is)
    case x_repr =>
      refine' PySem.W.mg_none_of KX G ?e
      (case e => k_is)
    case zN =>
      refine' Seek.nms_mk KX G ?e ?e0 ?e1 ?e2 ?e3 ?e4 ?e5 ?e6 ?e7 ?e8 ?e9 ?e10 ?e11
      (case e => k_is); (case e0 => k_is); (case e1 => k_is); (case e2 => k_is); (case e3 => k_is); (case e4 => k_is); (case e5 => k_is); (case e6 => k_is); (case e7 => k_is); (case e8 => k_is); (case e9 => k_is); (case e10 => k_is); (case e11 => k_is)
    case zS =>
      refine' L2.ExcK.mk ?exc ?ga ?gt ?cl ?ob ?bx
      (case exc => k_exc); (case ga => k_is); (case gt => k_is); (case cl => k_is); (case ob => k_is); (case bx => k_is)
    case zE1 =>
      refine' Seek.err_mk (L2.ExcK.mk ?exc ?ga ?gt ?cl ?ob ?bx) ?sk ?kv ?k0 ?k1 ?k2 ?k3 ?k4 ?k5 ?k6 ?k7 ?k8 ?k9 ?k10 ?k11
      (case exc => k_exc); (case ga => k_is); (case gt => k_is); (case cl => k_is); (case ob => k_is); (case bx => k_is)
      (case sk => k_is); (case kv => kit_is); (case k0 => kit_is); (case k1 => kit_is); (case k2 => kit_is); (case k3 => kit_is); (case k4 => kit_is); (case k5 => kit_is); (case k6 => kit_is); (case k7 => kit_is); (case k8 => kit_is); (case k9 => kit_is); (case k10 => kit_is); (case k11 => kit_is)
    case zE2 =>
      refine' Seek.err_mk (L2.ExcK.mk ?exc ?ga ?gt ?cl ?ob ?bx) ?sk ?kv ?k0 ?k1 ?k2 ?k3 ?k4 ?k5 ?k6 ?k7 ?k8 ?k9 ?k10 ?k11
      (case exc => k_exc); (case ga => k_is); (case gt => k_is); (case cl => k_is); (case ob => k_is); (case bx => k_is)
      (case sk => k_is); (case kv => kit_is); (case k0 => kit_is); (case k1 => kit_is); (case k2 => kit_is); (case k3 => kit_is); (case k4 => kit_is); (case k5 => kit_is); (case k6 => kit_is); (case k7 => kit_is); (case k8 => kit_is); (case k9 => kit_is); (case k10 => kit_is); (case k11 => kit_is)
    case zE7 =>
      refine' Seek.err_mk (L2.ExcK.mk ?exc ?ga ?gt ?cl ?ob ?bx) ?sk ?kv ?k0 ?k1 ?k2 ?k3 ?k4 ?k5 ?k6 ?k7 ?k8 ?k9 ?k10 ?k11
      (case exc => k_exc); (case ga => k_is); (case gt => k_is); (case cl => k_is); (case ob => k_is); (case bx => k_is)
      (case sk => k_is); (case kv => kit_is); (case k0 => kit_is); (case k1 => kit_is); (case k2 => kit_is); (case k3 => kit_is); (case k4 => kit_is); (case k5 => kit_is); (case k6 => kit_is); (case k7 => kit_is); (case k8 => kit_is); (case k9 => kit_is); (case k10 => kit_is); (case k11 => kit_is)
    case zE8 =>
      refine' Seek.err_mk (L2.ExcK.mk ?exc ?ga ?gt ?cl ?ob ?bx) ?sk ?kv ?k0 ?k1 ?k2 ?k3 ?k4 ?k5 ?k6 ?k7 ?k8 ?k9 ?k10 ?k11
      (case exc => k_exc); (case ga => k_is); (case gt => k_is); (case cl => k_is); (case ob => k_is); (case bx => k_is)
      (case sk => k_is); (case kv => kit_is); (case k0 => kit_is); (case k1 => kit_is); (case k2 => kit_is); (case k3 => kit_is); (case k4 => kit_is); (case k5 => kit_is); (case k6 => kit_is); (case k7 => kit_is); (case k8 => kit_is); (case k9 => kit_is); (case k10 => kit_is); (case k11 => kit_is)
    case zK =>
      refine' Seek.kpm_mk KX G ?aC ?pg ?hd ?po ?sa ?mk ?kc ?nr ?nc
      (case aC => k_is); (case pg => k_is); (case hd => k_is); (case po => k_is); (case sa => k_is); (case mk => k_is); (case kc => k_is); (case nr => k_is); (case nc => k_is)
    case m_init =>
      refine' L2.methDef_mk ?a ?i ?l ?c ?k ?b
      (case a => k_is); (case i => k_is); (case l => k_is); (case c => k_is); (case k => k_is)
      case b => exact fun _ _ _ _ _ _ us hl => match us, hl with | [_, _], _ => rfl
    case m_change =>
      refine' L2.methDef_mk ?a ?i ?l ?c ?k ?b
      (case a => k_is); (case i => k_is); (case l => k_is); (case c => k_is); (case k => k_is)
      case b => exact fun _ _ _ _ _ _ us hl => match us, hl with | [_, _, _], _ => rfl
    case m_undo =>
      refine' L2.methDef_mk ?a ?i ?l ?c ?k ?b
      (case a => k_is); (case i => k_is); (case l => k_is); (case c => k_is); (case k => k_is)
      case b => exact fun _ _ _ _ _ _ us hl => match us, hl with | [_], _ => rfl
    case m_table =>
      refine' L2.methDef_mk ?a ?i ?l ?c ?k ?b
      (case a => k_is); (case i => k_is); (case l => k_is); (case c => k_is); (case k => k_is)
      case b => exact fun _ _ _ _ _ _ us hl => match us, hl with | [_], _ => rfl
    case m_cells =>
      refine' L2.methDef_mk ?a ?i ?l ?c ?k ?b
      (case a => k_is); (case i => k_is); (case l => k_is); (case c => k_is); (case k => k_is)
      case b => exact fun _ _ _ _ _ _ us hl => match us, hl with | [_, _], _ => rfl
    case m_number =>
      refine' L2.methDef_mk ?a ?i ?l ?c ?k ?b
      (case a => k_is); (case i => k_is); (case l => k_is); (case c => k_is); (case k => k_is)
      case b => exact fun _ _ _ _ _ _ us hl => match us, hl with | [_, _], _ => rfl
    case m_span =>
      refine' L2.methDef_mk ?a ?i ?l ?c ?k ?b
      (case a => k_is); (case i => k_is); (case l => k_is); (case c => k_is); (case k => k_is)
      case b => exact fun _ _ _ _ _ _ us hl => match us, hl with | [_, _], _ => rfl
    case d_is_whole =>
      refine' Seek.defAt_mk KX G ?a ?l ?c ?k ?b
      (case a => k_is); (case l => k_is); (case c => k_is); (case k => k_is)
      case b => exact fun _ _ _ _ _ _ us hl => match us, hl with | [_], _ => rfl
    case d_all_whole =>
      refine' Seek.defAt_mk KX G ?a ?l ?c ?k ?b
      (case a => k_is); (case l => k_is); (case c => k_is); (case k => k_is)
      case b => exact fun _ _ _ _ _ _ us hl => match us, hl with | [_], _ => rfl
    case d_never_falls =>
      refine' Seek.defAt_mk KX G ?a ?l ?c ?k ?b
      (case a => k_is); (case l => k_is); (case c => k_is); (case k => k_is)
      case b => exact fun _ _ _ _ _ _ us hl => match us, hl with | [_], _ => rfl
    case d_is_row =>
      refine' Seek.defAt_mk KX G ?a ?l ?c ?k ?b
      (case a => k_is); (case l => k_is); (case c => k_is); (case k => k_is)
      case b => exact fun _ _ _ _ _ _ us hl => match us, hl with | [_], _ => rfl
    case d_has_table_shape =>
      refine' Seek.defAt_mk KX G ?a ?l ?c ?k ?b
      (case a => k_is); (case l => k_is); (case c => k_is); (case k => k_is)
      case b => exact fun _ _ _ _ _ _ us hl => match us, hl with | [_], _ => rfl
    case d_numbers_at_place =>
      refine' Seek.defAt_mk KX G ?a ?l ?c ?k ?b
      (case a => k_is); (case l => k_is); (case c => k_is); (case k => k_is)
      case b => exact fun _ _ _ _ _ _ us hl => match us, hl with | [_, _], _ => rfl
    case d_is_sorted_both_ways =>
      refine' Seek.defAt_mk KX G ?a ?l ?c ?k ?b
      (case a => k_is); (case l => k_is); (case c => k_is); (case k => k_is)
      case b => exact fun _ _ _ _ _ _ us hl => match us, hl with | [_], _ => rfl
    case d_is_table =>
      refine' Seek.defAt_mk KX G ?a ?l ?c ?k ?b
      (case a => k_is); (case l => k_is); (case c => k_is); (case k => k_is)
      case b => exact fun _ _ _ _ _ _ us hl => match us, hl with | [_], _ => rfl
    case d_need_table =>
      refine' Seek.defAt_mk KX G ?a ?l ?c ?k ?b
      (case a => k_is); (case l => k_is); (case c => k_is); (case k => k_is)
      case b => exact fun _ _ _ _ _ _ us hl => match us, hl with | [_], _ => rfl
    case d_need_number =>
      refine' Seek.defAt_mk KX G ?a ?l ?c ?k ?b
      (case a => k_is); (case l => k_is); (case c => k_is); (case k => k_is)
      case b => exact fun _ _ _ _ _ _ us hl => match us, hl with | [_], _ => rfl
    case d_is_cell_of_size =>
      refine' Seek.defAt_mk KX G ?a ?l ?c ?k ?b
      (case a => k_is); (case l => k_is); (case c => k_is); (case k => k_is)
      case b => exact fun _ _ _ _ _ _ us hl => match us, hl with | [_, _, _], _ => rfl
    case d_is_cell =>
      refine' Seek.defAt_mk KX G ?a ?l ?c ?k ?b
      (case a => k_is); (case l => k_is); (case c => k_is); (case k => k_is)
      case b => exact fun _ _ _ _ _ _ us hl => match us, hl with | [_, _], _ => rfl
    case d_need_cell =>
      refine' Seek.defAt_mk KX G ?a ?l ?c ?k ?b
      (case a => k_is); (case l => k_is); (case c => k_is); (case k => k_is)
      case b => exact fun _ _ _ _ _ _ us hl => match us, hl with | [_, _], _ => rfl
    case d_number_at =>
      refine' Seek.defAt_mk KX G ?a ?l ?c ?k ?b
      (case a => k_is); (case l => k_is); (case c => k_is); (case k => k_is)
      case b => exact fun _ _ _ _ _ _ us hl => match us, hl with | [_, _], _ => rfl
    case d_cells_of =>
      refine' Seek.defAt_mk KX G ?a ?l ?c ?k ?b
      (case a => k_is); (case l => k_is); (case c => k_is); (case k => k_is)
      case b => exact fun _ _ _ _ _ _ us hl => match us, hl with | [_, _], _ => rfl
    case d_how_many_cells =>
      refine' Seek.defAt_mk KX G ?a ?l ?c ?k ?b
      (case a => k_is); (case l => k_is); (case c => k_is); (case k => k_is)
      case b => exact fun _ _ _ _ _ _ us hl => match us, hl with | [_], _ => rfl
    case d_merged =>
      refine' Seek.defAt_mk KX G ?a ?l ?c ?k ?b
      (case a => k_is); (case l => k_is); (case c => k_is); (case k => k_is)
      case b => exact fun _ _ _ _ _ _ us hl => match us, hl with | [_], _ => rfl
    case d_need_place =>
      refine' Seek.defAt_mk KX G ?a ?l ?c ?k ?b
      (case a => k_is); (case l => k_is); (case c => k_is); (case k => k_is)
      case b => exact fun _ _ _ _ _ _ us hl => match us, hl with | [_, _], _ => rfl
    case d_number_by =>
      refine' Seek.defAt_mk KX G ?a ?l ?c ?k ?b
      (case a => k_is); (case l => k_is); (case c => k_is); (case k => k_is)
      case b => exact fun _ _ _ _ _ _ us hl => match us, hl with | [_, _], _ => rfl
    case d_copy_of =>
      refine' Seek.defAt_mk KX G ?a ?l ?c ?k ?b
      (case a => k_is); (case l => k_is); (case c => k_is); (case k => k_is)
      case b => exact fun _ _ _ _ _ _ us hl => match us, hl with | [_], _ => rfl
    case d_table_with =>
      refine' Seek.defAt_mk KX G ?a ?l ?c ?k ?b
      (case a => k_is); (case l => k_is); (case c => k_is); (case k => k_is)
      case b => exact fun _ _ _ _ _ _ us hl => match us, hl with | [_, _, _], _ => rfl
    case d_changed_table =>
      refine' Seek.defAt_mk KX G ?a ?l ?c ?k ?b
      (case a => k_is); (case l => k_is); (case c => k_is); (case k => k_is)
      case b => exact fun _ _ _ _ _ _ us hl => match us, hl with | [_, _, _], _ => rfl
    case d_numbers_beside =>
      refine' Seek.defAt_mk KX G ?a ?l ?c ?k ?b
      (case a => k_is); (case l => k_is); (case c => k_is); (case k => k_is)
      case b => exact fun _ _ _ _ _ _ us hl => match us, hl with | [_, _], _ => rfl
    case d_span_of =>
      refine' Seek.defAt_mk KX G ?a ?l ?c ?k ?b
      (case a => k_is); (case l => k_is); (case c => k_is); (case k => k_is)
      case b => exact fun _ _ _ _ _ _ us hl => match us, hl with | [_, _], _ => rfl
    case d__law_cell =>
      refine' Seek.defAt_mk KX G ?a ?l ?c ?k ?b
      (case a => k_is); (case l => k_is); (case c => k_is); (case k => k_is)
      case b => exact fun _ _ _ _ _ _ us hl => match us, hl with | [_, _], _ => rfl
    case d__law_store =>
      refine' Seek.defAt_mk KX G ?a ?l ?c ?k ?b
      (case a => k_is); (case l => k_is); (case c => k_is); (case k => k_is)
      case b => exact fun _ _ _ _ _ _ us hl => match us, hl with | [_], _ => rfl
    case d__law_take =>
      refine' Seek.defAt_mk KX G ?a ?l ?c ?k ?b
      (case a => k_is); (case l => k_is); (case c => k_is); (case k => k_is)
      case b => exact fun _ _ _ _ _ _ us hl => match us, hl with | [_, _], _ => rfl
    case d__law_far =>
      refine' Seek.defAt_mk KX G ?a ?l ?c ?k ?b
      (case a => k_is); (case l => k_is); (case c => k_is); (case k => k_is)
      case b => exact fun _ _ _ _ _ _ us hl => match us, hl with | [_, _], _ => rfl
    case d__law_table =>
      refine' Seek.defAt_mk KX G ?a ?l ?c ?k ?b
      (case a => k_is); (case l => k_is); (case c => k_is); (case k => k_is)
      case b => exact fun _ _ _ _ _ _ us hl => match us, hl with | [_], _ => rfl
    case d__law_copy =>
      refine' Seek.defAt_mk KX G ?a ?l ?c ?k ?b
      (case a => k_is); (case l => k_is); (case c => k_is); (case k => k_is)
      case b => exact fun _ _ _ _ _ _ us hl => match us, hl with | [_], _ => rfl
    case d__law_kind =>
      refine' Seek.defAt_mk KX G ?a ?l ?c ?k ?b
      (case a => k_is); (case l => k_is); (case c => k_is); (case k => k_is)
      case b => exact fun _ _ _ _ _ _ us hl => match us, hl with | [_, _], _ => rfl
    case d__law_span =>
      refine' Seek.defAt_mk KX G ?a ?l ?c ?k ?b
      (case a => k_is); (case l => k_is); (case c => k_is); (case k => k_is)
      case b => exact fun _ _ _ _ _ _ us hl => match us, hl with | [_, _], _ => rfl
    case d__law_near =>
      refine' Seek.defAt_mk KX G ?a ?l ?c ?k ?b
      (case a => k_is); (case l => k_is); (case c => k_is); (case k => k_is)
      case b => exact fun _ _ _ _ _ _ us hl => match us, hl with | [_, _, _], _ => rfl
    case d__law_deed =>
      refine' Seek.defAt_mk KX G ?a ?l ?c ?k ?b
      (case a => k_is); (case l => k_is); (case c => k_is); (case k => k_is)
      case b => exact fun _ _ _ _ _ _ us hl => match us, hl with | [_, _], _ => rfl
    case d__law_is_whole =>
      refine' Seek.defAt_mk KX G ?a ?l ?c ?k ?b
      (case a => k_is); (case l => k_is); (case c => k_is); (case k => k_is)
      case b => exact fun _ _ _ _ _ _ us hl => match us, hl with | [_], _ => rfl
    case d__law_is_cell =>
      refine' Seek.defAt_mk KX G ?a ?l ?c ?k ?b
      (case a => k_is); (case l => k_is); (case c => k_is); (case k => k_is)
      case b => exact fun _ _ _ _ _ _ us hl => match us, hl with | [_, _], _ => rfl
    case d__law_due =>
      refine' Seek.defAt_mk KX G ?a ?l ?c ?k ?b
      (case a => k_is); (case l => k_is); (case c => k_is); (case k => k_is)
      case b => exact fun _ _ _ _ _ _ us hl => match us, hl with | [_, _], _ => rfl
    case d__law_asked =>
      refine' Seek.defAt_mk KX G ?a ?l ?c ?k ?b
      (case a => k_is); (case l => k_is); (case c => k_is); (case k => k_is)
      case b => exact fun _ _ _ _ _ _ us hl => match us, hl with | [_, _, _], _ => rfl
    case d__law_x =>
      refine' Seek.defAt_mk KX G ?a ?l ?c ?k ?b
      (case a => k_is); (case l => k_is); (case c => k_is); (case k => k_is)
      case b => exact fun _ _ _ _ _ _ us hl => match us, hl with | [_, _], _ => rfl
    case d__law_table_right =>
      refine' Seek.defAt_mk KX G ?a ?l ?c ?k ?b
      (case a => k_is); (case l => k_is); (case c => k_is); (case k => k_is)
      case b => exact fun _ _ _ _ _ _ us hl => match us, hl with | [_, _, _, _], _ => rfl
    case d__law_told_right =>
      refine' Seek.defAt_mk KX G ?a ?l ?c ?k ?b
      (case a => k_is); (case l => k_is); (case c => k_is); (case k => k_is)
      case b => exact fun _ _ _ _ _ _ us hl => match us, hl with | [_, _, _, _], _ => rfl
    case d__law_deed_right =>
      refine' Seek.defAt_mk KX G ?a ?l ?c ?k ?b
      (case a => k_is); (case l => k_is); (case c => k_is); (case k => k_is)
      case b => exact fun _ _ _ _ _ _ us hl => match us, hl with | [_, _, _], _ => rfl
    case d__law_run_right =>
      refine' Seek.defAt_mk KX G ?a ?l ?c ?k ?b
      (case a => k_is); (case l => k_is); (case c => k_is); (case k => k_is)
      case b => exact fun _ _ _ _ _ _ us hl => match us, hl with | [_, _], _ => rfl
    case d_law =>
      refine' Seek.defAt_mk KX G ?a ?l ?c ?k ?b
      (case a => k_is); (case l => k_is); (case c => k_is); (case k => k_is)
      case b => exact fun _ _ _ _ _ _ us hl => match us, hl with | [_], _ => rfl

