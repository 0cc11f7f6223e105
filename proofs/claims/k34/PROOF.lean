import PyProof.Rows.All
import Wide.All
import OpenK.AllK
import Wide.FinOn
import Lean
import PyProof.EqAt
import PyProof.EqKinds
import PyProof.TupleCall
import PySem.Challenge.RW_stairseek_k34_tables_written
set_option Elab.async false
set_option linter.all false
set_option maxRecDepth 100000
namespace L2
open PySem PySem.Spec PyProof.Rows
abbrev Key := Sum Int Str
def keyIs : Key → Value → Bool
  | .inl k, v => Value.isInt k v
  | .inr x, v => Value.isStrOf x v
def keyH (w : World) : Key → Int
  | .inl k => hashInt k
  | .inr x => hashStr w x
theorem keyIs_shape : ∀ {k : Key} {v : Value}, keyIs k v = true → (∃ i t, k = Sum.inl i ∧ v = Value.int i t) ∨ (∃ x t, k = Sum.inr x ∧ v = Value.str x t)
  | .inl i, v, h => by
    obtain ⟨t, e⟩ := Value.isInt_shape (k := i) (v := v) h
    exact .inl ⟨i, t, rfl, e⟩
  | .inr x, v, h => by
    obtain ⟨t, e⟩ := Value.isStrOf_shape (x := x) (v := v) h
    exact .inr ⟨x, t, rfl, e⟩
theorem keyIs_int (i : Int) (t : Tok) : keyIs (.inl i) (.int i t) = true := by simp [keyIs, Value.isInt]
theorem keyIs_str (x : Str) (t : Tok) : keyIs (.inr x) (.str x t) = true := by simp [keyIs, Value.isStrOf]
theorem key_ll (a b : Int) : decide ((Sum.inl a : Key) = Sum.inl b) = (a == b) := by
  by_cases e : a = b
  · subst e; simp
  · have h : ¬ (Sum.inl a : Key) = Sum.inl b := fun q => e (Sum.inl.inj q)
    rw [decide_eq_false h]
    exact (beq_eq_false_iff_ne.mpr e).symm
theorem key_rr (a b : Str) : decide ((Sum.inr a : Key) = Sum.inr b) = decide (a = b) := by
  by_cases e : a = b
  · subst e; simp
  · have h : ¬ (Sum.inr a : Key) = Sum.inr b := fun q => e (Sum.inr.inj q)
    rw [decide_eq_false h, decide_eq_false e]
theorem key_lr (a : Int) (b : Str) : decide ((Sum.inl a : Key) = Sum.inr b) = false := decide_eq_false (fun q => nomatch q)
theorem key_rl (a : Str) (b : Int) : decide ((Sum.inr a : Key) = Sum.inl b) = false := decide_eq_false (fun q => nomatch q)
def mixKind (prog : Program) (w : World) : PySem.KeyKind prog w Key where
  is := keyIs
  hash := keyH w
  inj := fun v a b ha hb => by
    rcases keyIs_shape ha with ⟨i, t, rfl, rfl⟩ | ⟨x, t, rfl, rfl⟩
    · rcases keyIs_shape hb with ⟨j, u, rfl, e⟩ | ⟨y, u, rfl, e⟩
      · injection e with e1 _; rw [e1]
      · exact nomatch e
    · rcases keyIs_shape hb with ⟨j, u, rfl, e⟩ | ⟨y, u, rfl, e⟩
      · exact nomatch e
      · injection e with e1 _; rw [e1]
  byValue := fun k v h => by
    rcases keyIs_shape h with ⟨i, t, rfl, rfl⟩ | ⟨x, t, rfl, rfl⟩ <;> rfl
  pyHash := fun hv h => by
    rcases keyIs_shape hv with ⟨i, t, rfl, rfl⟩ | ⟨x, t, rfl, rfl⟩
    · exact wpAny_pyHash_int h
    · exact wpAny_pyHash_str h
  eqBool := fun hu hv h => by
    rcases keyIs_shape hu with ⟨i, t, rfl, rfl⟩ | ⟨x, t, rfl, rfl⟩
    · rcases keyIs_shape hv with ⟨j, u, rfl, rfl⟩ | ⟨y, u, rfl, rfl⟩
      · rw [key_ll] at h; exact wpAny_eqBool_int h
      · rw [key_lr] at h; exact SeqAt.EqAt.int_str i t y u _ _ _ _ h
    · rcases keyIs_shape hv with ⟨j, u, rfl, rfl⟩ | ⟨y, u, rfl, rfl⟩
      · rw [key_rl] at h; exact SeqAt.EqAt.str_int x t j u _ _ _ _ h
      · rw [key_rr] at h; exact wpAny_eqBool_str h
  «strs» := fun k x t v h => by
    rcases keyIs_shape h with ⟨i, u, rfl, e⟩ | ⟨y, u, rfl, e⟩
    · exact nomatch e
    · injection e with e1 _
      subst e1
      cases v <;> rfl
theorem mixKind_int (prog : Program) (w : World) (i : Int) (t : Tok) : (mixKind prog w).is (.inl i) (.int i t) = true := keyIs_int i t
theorem mixKind_str (prog : Program) (w : World) (x : Str) (t : Tok) : (mixKind prog w).is (.inr x) (.str x t) = true := keyIs_str x t
inductive V where
  | non | bl (b : Bool) | int (i : Int) | str (x : Str) | byt (b : Array UInt8) | flt (b : UInt64) | ref (a : Addr) | ty (n : String)
  deriving DecidableEq
def RelV : V → Value → Prop
  | .non, u => u = Value.none
  | .bl b, u => u = Value.bool b
  | .int i, u => ∃ t, u = Value.int i t
  | .str x, u => ∃ t, u = Value.str x t
  | .byt b, u => ∃ t, u = Value.bytes b t
  | .flt b, u => ∃ t, u = Value.float b t
  | .ref a, u => u = Value.ref a
  | .ty n, u => u = Value.type n
abbrev Vals : List V → List Value → Prop := Paired RelV
theorem Vals.length {xs : List V} {us : List Value} (r : Vals xs us) : xs.length = us.length := Paired.length r
theorem Vals.get : ∀ {xs : List V} {us : List Value} {i : Nat} {x : V}, Vals xs us → xs[i]? = some x → ∃ u, us[i]? = some u ∧ RelV x u
  | _, _, _, _, .nil, e => by simp at e
  | _, _, 0, _, .cons r _, e => by simp at e; subst e; exact ⟨_, rfl, r⟩
  | _, _, i + 1, x, .cons _ t, e => by
    obtain ⟨u, h1, h2⟩ := Vals.get (i := i) (x := x) t (by simpa using e)
    exact ⟨u, by simpa using h1, h2⟩
theorem Vals.append : ∀ {xs ys : List V} {us ws : List Value}, Vals xs us → Vals ys ws → Vals (xs ++ ys) (us ++ ws)
  | _, _, _, _, .nil, s => s
  | _, _, _, _, .cons r t, s => .cons r (Vals.append t s)
def RelO : Option V → Option Value → Prop
  | some v, some u => RelV v u
  | none, none => True
  | _, _ => False
def KV {κ : Type} : List (κ × V) → List (κ × Value) → Prop := Paired fun (p : κ × V) (q : κ × Value) => p.1 = q.1 ∧ RelV p.2 q.2
def kV : Key → V
  | .inl i => .int i
  | .inr x => .str x
inductive HO where
  | lst (xs : List V)
  | tup (xs : List V)
  | dK (kvs : List (Key × V)) | dT (kvs : List (List Key × V))
  | set (S : Int → Bool) (n : Nat)
  | ins (C dx : Addr) (fs : List (Str × V))
  | own (x : Addr)
  | xd (fs : List (Str × V))
  | met (f x : Addr)
  | rng (lo hi : Int)
  | frz (o : Obj) (u : HO)
  | tbl (ps : Array Value)
  | ext (φ : Heap → Prop)
abbrev Hp := Addr → Option HO
def upd (H : Hp) (a : Addr) (o : HO) : Hp := fun b => if b = a then some o else H b
theorem upd_same {H : Hp} {a : Addr} {o : HO} : upd H a o a = some o := by unfold upd; rw [if_pos rfl]
theorem upd_ne {H : Hp} {a b : Addr} {o : HO} (h : b ≠ a) : upd H a o b = H b := by unfold upd; rw [if_neg h]
theorem ne_of {H : Hp} {a b : Addr} {o u : HO} (h : H a = some o) (h' : H b = some u) (d : o ≠ u) : a ≠ b := by
  intro e; subst e; rw [h] at h'; exact d (Option.some.inj h')
theorem ne_of_none {H : Hp} {a b : Addr} {o : HO} (h : H a = some o) (h' : H b = none) : a ≠ b := by
  intro e; subst e; rw [h] at h'; cases h'
section
variable (P : Program) (w : World)
def ObjOk (H : Hp) (h : Heap) (a : Addr) : HO → Prop
  | .lst xs => xs.length ≤ sizeLine ∧ ∃ (its : List Value) (n : Nat), Vals xs its ∧ h.get? a = some { cls := .type "list", data := .seq its.toArray n }
  | .tup xs => xs.length ≤ sizeLine ∧ ∃ its : List Value, Vals xs its ∧ IsTup h a its.toArray
  | .dK kvs => kvs.length ≤ sizeLine ∧ (a == sysModules) = false ∧ ∃ vs, KV kvs vs ∧ h.DictOf (mixKind P w) a vs
  | .dT kvs => kvs.length ≤ sizeLine ∧ (a == sysModules) = false ∧ ∃ xs : List (List Key × Addr × Value),
      Paired (fun (p : List Key × V) (q : List Key × Addr × Value) => p.1 = q.1 ∧ H q.2.1 = some (.tup (p.1.map kV)) ∧ RelV p.2 q.2.2) kvs xs ∧
      ∃ o es ep, h.get? a = some o ∧ o.ExactDict ∧ o.data = .dict es ep ∧ es.toList = xs.map (entryOfKey (tupleKind (mixKind P w))) ∧ (xs.map (·.1)).Nodup
  | .set S n => h.SetOf (intKind P w) a S n
  | .ins C dx fs => H dx = some (.own a) ∧ fs.length ≤ 1000 ∧ dx ≠ a ∧ h.get? a = some (PySem.W.instObj C dx) ∧
      ∃ mA, h.Ns1 dx mA ∧ (∀ f, RelO (fs.lookup f) (mA f)) ∧ PySem.Within mA (fs.map (·.1))
  | .own _ => ∃ o, h.get? a = some o
  | .xd fs => ∃ mA, h.Ns1 a mA ∧ ∀ f, RelO (fs.lookup f) (mA f)
  | .rng lo hi => ∃ t u v, h.get? a = some { cls := .type "range", data := .fields #[.int lo t, .int hi u, .int 1 v] }
  | .frz o u => h.get? a = some o ∧ ObjOk H h a u
  | .tbl ps => h.get? a = some { cls := .none, data := .fields ps }
  | .met f x => h.get? a = some (PySem.W.methodObj (.ref f) (.ref x))
  | .ext φ => φ h ∧ (∃ o, h.get? a = some o) ∧ ∀ h1 h2 : Heap, φ h1 → (∀ o, h1.get? a = some o → h2.get? a = some o) → φ h2
def HOk (H : Hp) (h : Heap) : Prop := ∀ a o, H a = some o → ObjOk P w H h a o
end
section
variable {P : Program} {w : World} {H H' : Hp} {h h' : Heap} {a : Addr} {o : HO}
theorem ObjOk.lt (x : ObjOk P w H h a o) : a < h.objs.size := by
  cases o with
  | lst xs => obtain ⟨_, _, _, _, e⟩ := x; exact Heap.lt_size e
  | tup xs => obtain ⟨_, _, _, p⟩ := x; exact p.lt
  | dK kvs => obtain ⟨_, _, _, _, o, _, _, e, _⟩ := x; exact Heap.lt_size e
  | dT kvs => obtain ⟨_, _, _, _, o, _, _, e, _⟩ := x; exact Heap.lt_size e
  | set S n => obtain ⟨o, _, _, _, e, _⟩ := x; exact Heap.lt_size e
  | ins C dx fs => obtain ⟨_, _, _, e, _⟩ := x; exact Heap.lt_size e
  | own y => obtain ⟨_, e⟩ := x; exact Heap.lt_size e
  | xd fs => obtain ⟨_, ⟨_, _, _, e, _⟩, _⟩ := x; exact Heap.lt_size e
  | rng lo hi => obtain ⟨_, _, _, e⟩ := x; exact Heap.lt_size e
  | frz ob u => obtain ⟨e, _⟩ := x; exact Heap.lt_size e
  | tbl ps => exact Heap.lt_size (show h.get? a = some _ from x)
  | met f y => exact Heap.lt_size (show h.get? a = some _ from x)
  | ext φ => obtain ⟨_, ⟨_, e⟩, _⟩ := x; exact Heap.lt_size e
theorem Paired.mapP {α β : Type} {F G : α → β → Prop} : ∀ {l₁ : List α} {l₂ : List β}, Paired F l₁ l₂ → (∀ a b, F a b → G a b) → Paired G l₁ l₂
  | _, _, .nil, _ => .nil
  | _, _, .cons r t, f => .cons (f _ _ r) (Paired.mapP t f)
theorem ObjOk.stay (x : ObjOk P w H h a o) (k : ∀ b u, (b = a ∨ H b = some (.own a)) → h.get? b = some u → h'.get? b = some u)
    (ho : ∀ b, H b = some (.own a) → H' b = some (.own a)) (ht : ∀ b xs, H b = some (.tup xs) → H' b = some (.tup xs)) : ObjOk P w H' h' a o := by
  induction o with
  | lst xs => obtain ⟨z, its, n, r, e⟩ := x; exact ⟨z, its, n, r, k _ _ (.inl rfl) e⟩
  | tup xs => obtain ⟨z, its, r, ob, e, c⟩ := x; exact ⟨z, its, r, ob, k _ _ (.inl rfl) e, c⟩
  | dK kvs => obtain ⟨z, y, vs, r, ob, es, ep, e, c⟩ := x; exact ⟨z, y, vs, r, ob, es, ep, k _ _ (.inl rfl) e, c⟩
  | dT kvs =>
    obtain ⟨z, y, xs, r, ob, es, ep, e, c⟩ := x
    exact ⟨z, y, xs, Paired.mapP r fun p q z => ⟨z.1, ht _ _ z.2.1, z.2.2⟩, ob, es, ep, k _ _ (.inl rfl) e, c⟩
  | set S n => obtain ⟨ob, es, ep, t, e, c⟩ := x; exact ⟨ob, es, ep, t, k _ _ (.inl rfl) e, c⟩
  | ins C dx fs =>
    obtain ⟨d, z, ne, e, mA, ⟨od, es, ep, e2, c⟩, r⟩ := x
    exact ⟨ho _ d, z, ne, k _ _ (.inl rfl) e, mA, ⟨od, es, ep, k _ _ (.inr d) e2, c⟩, r⟩
  | own y => obtain ⟨ob, e⟩ := x; exact ⟨ob, k _ _ (.inl rfl) e⟩
  | xd fs => obtain ⟨mA, ⟨od, es, ep, e, c⟩, r⟩ := x; exact ⟨mA, ⟨od, es, ep, k _ _ (.inl rfl) e, c⟩, r⟩
  | rng lo hi => obtain ⟨t, u, v, e⟩ := x; exact ⟨t, u, v, k _ _ (.inl rfl) e⟩
  | frz ob u ih => obtain ⟨e, q⟩ := x; exact ⟨k _ _ (.inl rfl) e, ih q⟩
  | tbl ps =>
    have e : h.get? a = some { cls := .none, data := .fields ps } := x
    show h'.get? a = some { cls := .none, data := .fields ps }
    exact k a _ (.inl rfl) e
  | met f y =>
    have e : h.get? a = some (PySem.W.methodObj (.ref f) (.ref y)) := x
    show h'.get? a = some (PySem.W.methodObj (.ref f) (.ref y))
    exact k a _ (.inl rfl) e
  | ext φ => obtain ⟨p, ⟨o, e⟩, st⟩ := x; exact ⟨st _ _ p fun o q => k _ _ (.inl rfl) q, ⟨o, k _ _ (.inl rfl) e⟩, st⟩
theorem HOk.lt (x : HOk P w H h) (e : H a = some o) : a < h.objs.size := (x a o e).lt
theorem HOk.fresh (x : HOk P w H h) (e : h.objs.size ≤ a) : H a = none := by
  cases q : H a with
  | none => rfl
  | some u => exact absurd (Nat.lt_of_lt_of_le (x.lt q) e) (Nat.lt_irrefl _)
theorem HOk.kept (x : HOk P w H h) (k : ∀ b u, h.get? b = some u → h'.get? b = some u) : HOk P w H h' := fun a o e =>
  (x a o e).stay (fun b u _ q => k b u q) (fun _ q => q) fun _ _ q => q
theorem HOk.laid (x : HOk P w H h) (k : ∀ b u, h.get? b = some u → h'.get? b = some u) (hp : h.objs.size ≤ a) (new : ObjOk P w (upd H a o) h' a o) : HOk P w (upd H a o) h' := fun b u e => by
  have hn := x.fresh hp
  by_cases hb : b = a
  · subst hb; rw [upd_same] at e; cases e; exact new
  · rw [upd_ne hb] at e
    exact (x b u e).stay (fun c v _ q => k c v q) (fun c q => by rw [upd_ne (ne_of_none q hn)]; exact q) fun c xs q => by rw [upd_ne (ne_of_none q hn)]; exact q
end
def Rd (H : Hp) (a : Addr) (u : HO) : Prop := H a = some u ∨ ∃ o, H a = some (.frz o u)
theorem Rd.ok {P : Program} {w : World} {H : Hp} {h : Heap} {a : Addr} {u : HO} (r : Rd H a u) (x : HOk P w H h) : ObjOk P w H h a u := by
  rcases r with r | ⟨o, r⟩
  · exact x a u r
  · obtain ⟨_, q⟩ := x a _ r
    exact q
def Mut : Option HO → Prop
  | some (.lst _) => True
  | some (.dK _) => True
  | some (.dT _) => True
  | some (.set _ _) => True
  | some (.ins _ _ _) => True
  | some (.ext _) => True
  | _ => False
section
variable {P : Program} {w : World} {H : Hp} {h h' : Heap} {x e : Addr} {o' : HO}
theorem HOk.write (ok : HOk P w H h) (mu : Mut (H x)) (he : e = x ∨ H e = some (.own x)) (k : ∀ b u, b ≠ e → h.get? b = some u → h'.get? b = some u) (heo : ∃ u, h'.get? e = some u)
    (new : ObjOk P w (upd H x o') h' x o') : HOk P w (upd H x o') h' := fun b u q => by
  have nown : ∀ c y, H c = some (.own y) → c ≠ x := fun c y r z => by subst z; rw [r] at mu; exact mu
  have ntup : ∀ c xs, H c = some (.tup xs) → c ≠ x := fun c xs r z => by subst z; rw [r] at mu; exact mu
  by_cases hb : b = x
  · subst hb; rw [upd_same] at q; cases q; exact new
  · rw [upd_ne hb] at q
    by_cases hbe : b = e
    · have q' : H b = some (.own x) := by
        rcases he with z | z
        · exact absurd (hbe.trans z) hb
        · rw [hbe]; exact z
      rw [q] at q'; cases q'
      obtain ⟨v, hv⟩ := heo
      exact ⟨v, by rw [hbe]; exact hv⟩
    · refine (ok b u q).stay (fun c v hc r => k c v ?_ r) (fun c r => by rw [upd_ne (nown c b r)]; exact r) fun c xs r => by rw [upd_ne (ntup c xs r)]; exact r
      rcases hc with rfl | hc
      · exact hbe
      · rintro rfl
        rcases he with z | z
        · exact nown c b hc z
        · rw [hc] at z; cases z; exact hb rfl
end
structure Un (fs ex : List Addr) (H H' : Hp) (h h' : Heap) : Prop where
  keep : ∀ b o, h.get? b = some o → H b = none → b ∉ fs → b ∉ ex → h'.get? b = some o
  slot : ∀ b o, h.get? b = some o → H b = none → b ∈ fs → b ∉ ex → ∃ sl, h'.get? b = some { o with slots := sl }
  free : ∀ b o, h.get? b = some o → H b = none → b ∉ ex → H' b = none
  there : ∀ b o, h.get? b = some o → b ∉ ex → ∃ o', h'.get? b = some o'
  tups : ∀ b xs, H b = some (.tup xs) → H' b = some (.tup xs)
  frzs : ∀ b o u, H b = some (.frz o u) → H' b = some (.frz o u)
  tbls : ∀ b ps, H b = some (.tbl ps) → ∃ more, H' b = some (.tbl (ps ++ more))
section
variable {fs fs' ex ex' : List Addr} {H H1 H2 : Hp} {h h1 h2 h' : Heap} {a x e : Addr} {o : HO}
theorem Un.any (u : Un fs ex H H1 h h1) {b : Addr} {ob : Obj} (q : h.get? b = some ob) (n : H b = none) (hx : b ∉ ex) : ∃ sl, h1.get? b = some { ob with slots := sl } := by
  by_cases hb : b ∈ fs
  · exact u.slot b ob q n hb hx
  · exact ⟨ob.slots, u.keep b ob q n hb hx⟩
theorem Un.kept (k : ∀ b u, h.get? b = some u → h'.get? b = some u) : Un fs ex H H h h' :=
  ⟨fun b ob q _ _ _ => k b ob q, fun b ob q _ _ _ => ⟨ob.slots, k b ob q⟩, fun _ _ _ n _ => n, fun b ob q _ => ⟨ob, k b ob q⟩, fun _ _ q => q, fun _ _ _ q => q, fun _ ps q => ⟨#[], by rw [q]; simp⟩⟩
theorem Un.refl : Un fs ex H H h h := Un.kept fun _ _ q => q
theorem Un.laid (k : ∀ b u, h.get? b = some u → h'.get? b = some u) (hp : h.objs.size ≤ a) (hn : H a = none) : Un fs ex H (upd H a o) h h' where
  keep := fun b u q _ _ _ => k b u q
  slot := fun b u q _ _ _ => ⟨u.slots, k b u q⟩
  free := fun b u q n _ => by rw [upd_ne (Nat.ne_of_lt (Nat.lt_of_lt_of_le (Heap.lt_size q) hp))]; exact n
  there := fun b u q _ => ⟨u, k b u q⟩
  tups := fun b xs q => by rw [upd_ne (ne_of_none q hn)]; exact q
  frzs := fun b u xs q => by rw [upd_ne (ne_of_none q hn)]; exact q
  tbls := fun b ps q => ⟨#[], by rw [upd_ne (ne_of_none q hn), q]; simp⟩
theorem Un.write (mu : Mut (H x)) (he : e = x ∨ H e = some (.own x)) (k : ∀ b u, b ≠ e → h.get? b = some u → h'.get? b = some u) (heo : ∃ u, h'.get? e = some u) : Un fs ex H (upd H x o) h h' := by
  have hx : ∀ b, H b = none → b ≠ x := fun b n z => by subst z; rw [n] at mu; exact mu
  have hb : ∀ b, H b = none → b ≠ e := fun b n z => by
    subst z
    rcases he with r | r
    · exact hx b n r
    · rw [n] at r; cases r
  have hm : ∀ b u, H b = some u → ¬ Mut (some u) → b ≠ x := fun b u q nm z => by subst z; rw [q] at mu; exact nm mu
  refine ⟨fun b u q n _ _ => k b u (hb b n) q, fun b u q n _ _ => ⟨u.slots, k b u (hb b n) q⟩, fun b u q n _ => by rw [upd_ne (hx b n)]; exact n, fun b u q _ => ?_,
    fun b xs q => by rw [upd_ne (hm b _ q fun z => z)]; exact q, fun b u xs q => by rw [upd_ne (hm b _ q fun z => z)]; exact q, fun b ps q => ⟨#[], by rw [upd_ne (hm b _ q fun z => z), q]; simp⟩⟩
  by_cases hbe : b = e
  · subst hbe; exact heo
  · exact ⟨u, k b u hbe q⟩
theorem Un.mono (u : Un fs ex H H1 h h1) (hs : ∀ b ∈ fs, b ∈ fs') (hx : ∀ b ∈ ex, b ∈ ex') : Un fs' ex' H H1 h h1 :=
  ⟨fun b ob q n hb he => u.keep b ob q n (fun z => hb (hs b z)) fun z => he (hx b z), fun _ _ q n _ he => u.any q n fun z => he (hx _ z), fun b ob q n he => u.free b ob q n fun z => he (hx b z), fun b ob q he => u.there b ob q fun z => he (hx b z), u.tups, u.frzs, u.tbls⟩
end
def trk (h : Heap) (H : Hp) : List Addr := (List.range h.objs.size).filter fun a => (H a).isSome
def hidT (h : Heap) (H : Hp) : Heap := PySem.W.hideAll h (trk h H)
theorem hidT_size (h : Heap) (H : Hp) : (hidT h H).objs.size = h.objs.size := PySem.W.hideAll_size _ _
theorem hidT_get {h : Heap} {H : Hp} {b : Addr} {o : Obj} (e : h.get? b = some o) (n : H b = none) : (hidT h H).get? b = some o :=
  PySem.W.hideAll_get _ e fun hm => by
    have q : (H b).isSome = true := (List.mem_filter.mp hm).2
    rw [n] at q; simp at q
theorem of_hidT {h : Heap} {H : Hp} {b : Addr} {o : Obj} (e : (hidT h H).get? b = some o) : h.get? b = some o ∧ H b = none := by
  have e' : h.get? b = some o := PySem.W.of_hideAll (trk h H) e
  refine ⟨e', ?_⟩
  cases q : H b with
  | none => rfl
  | some x =>
    have hm : b ∈ trk h H := List.mem_filter.mpr ⟨List.mem_range.mpr (Heap.lt_size e'), by simp [q]⟩
    have z : (hidT h H).get? b = none := PySem.W.hideAll_none (trk h H) hm
    rw [z] at e; cases e
def allNews (g h : Heap) (L : Addr) : List (Addr × Obj) := (List.range h.objs.size).filterMap fun a => if a = L ∨ (g.get? a).isSome = true then none else (h.get? a).map fun o => (a, o)
def rest (g h : Heap) (L d : Addr) : List (Addr × Obj) := (allNews g h L).filter fun p => decide (p.1 ≠ d)
structure Mod (K : PySem.W.Frag) (mg : Str → Option Value) (base : Heap) : Prop where
  kin : K.In base
  glob : base.Ns mainGlobals mg
  blt : ∃ mb, base.Ns builtinsNs mb ∧ ∀ x : Str, x ≠ "__name__" → mb x = bootBuiltins x
  nolimit : base.NoLimit
structure Cx where
  prog : Program
  w : World
  K : PySem.W.Frag
  mg : Str → Option Value
  base : Heap
  A : Around
  N : List Str
  s₀ : Shared
  H₀ : Hp
  env : Env
  outer : List Env
  stack : List Env
  ex : List Addr
  fn : Str → Bool
  calm : Bool
  pn : List (Addr × Obj)
  xe : Value → Shared → Prop
def frs (l : List Env) : List Addr := l.filterMap (·.frame)
abbrev Cx.fs (X : Cx) : List Addr := frs X.outer
def Vis (sc : Scope) (x : Str) : Prop := sc.names.lookup x = some .local ∨ sc.names.lookup x = some .cell ∨ sc.names.lookup x = some .free
def Loc (sc : Scope) (x : Str) : Prop := sc.names.lookup x = some .local ∨ sc.names.lookup x = some .cell
def Look (env : Env) (h : Heap) (m : Str → Option Value) (x : Str) (u : Value) : Prop :=
  (env.kindOf x = some .local ∧ m x = some u) ∨ ((env.kindOf x = some .cell ∨ env.kindOf x = some .free) ∧ ∃ c, env.cells.lookup x = some c ∧ h.IsCell c (some u))
structure Cx.Ok (X : Cx) : Prop where
  mod : Mod X.K X.mg X.base
  kind : X.env.scope.kind = .function
  glob : X.env.globals = mainGlobals
  blt : X.env.builtins = builtinsNs
  above : X.s₀.heap.objs.size ≤ X.env.locals
  inj : ∀ x y c, X.env.cells.lookup x = some c → X.env.cells.lookup y = some c → x = y
  has : ∀ x, (X.env.kindOf x = some .cell ∨ X.env.kindOf x = some .free) → ∃ c, X.env.cells.lookup x = some c
  cab : ∀ x c, X.fn x = true → X.env.cells.lookup x = some c → X.s₀.heap.objs.size ≤ c
  hd : X.calm = true → X.A.handled = none
  frames : X.A.frames = some X.stack
  stk : X.stack = X.outer ∨ (X.stack = X.env :: X.outer ∧ X.env.frame = some X.env.locals)
  exf : ∀ b ∈ X.ex, b ≠ X.env.locals ∧ ∀ x c, X.env.cells.lookup x = some c → c ≠ b
  bs : ∀ b o, X.base.get? b = some o → X.s₀.heap.get? b = some o ∧ X.H₀ b = none
  bsz : X.base.objs.size ≤ X.s₀.heap.objs.size
  noex : ∀ b o, X.base.get? b = some o → b ∉ X.ex
  exfs : ∀ b ∈ X.ex, b ∉ X.fs
  funs : X.s₀.heap.FunFrames X.base X.outer
  frf : ∀ b ∈ X.fs, X.H₀ b = none
structure Inv (X : Cx) (pins : List (Addr × Obj)) (σ : List (Option V)) (H : Hp) (s : Shared) : Prop where
  ok : X.Ok
  os : s.os = X.s₀.os
  bare : AllBare s.gens
  base : Un X.fs X.ex X.H₀ H X.s₀.heap s.heap
  loc : ∃ m, s.heap.Ns X.env.locals m ∧ ∀ (i : Nat) (x : Str) (v : V), X.N[i]? = some x → σ[i]? = some (some v) → Vis X.env.scope x → ∃ u, RelV v u ∧ Look X.env s.heap m x u
  cell : ∀ x c, X.env.cells.lookup x = some c → ∃ v, s.heap.IsCell c v
  free : H X.env.locals = none
  freeC : ∀ x c, X.env.cells.lookup x = some c → H c = none
  pin : ∀ p ∈ X.pn ++ pins, s.heap.get? p.1 = some p.2 ∧ H p.1 = none ∧ p.1 ≠ X.env.locals ∧ p.1 ∉ X.fs ∧ ∀ v, p.2.data ≠ .cell v
  hok : HOk X.prog X.w H s.heap
  len : σ.length = X.N.length
section
variable {X : Cx} {pins : List (Addr × Obj)} {σ : List (Option V)} {H H' : Hp} {s : Shared} {h' : Heap}
theorem Cx.Ok.nofr (ok : X.Ok) {b : Addr} {o : Obj} (e : X.base.get? b = some o) : b ∉ X.fs := fun hb => by
  have := (ok.funs.mem hb).1
  rw [e] at this; cases this
theorem Inv.bs (I : Inv X pins σ H s) : ∀ b o, X.base.get? b = some o → s.heap.get? b = some o ∧ H b = none := fun b o e =>
  ⟨I.base.keep b o (I.ok.bs b o e).1 (I.ok.bs b o e).2 (I.ok.nofr e) (I.ok.noex b o e), I.base.free b o (I.ok.bs b o e).1 (I.ok.bs b o e).2 (I.ok.noex b o e)⟩
theorem Inv.bk (I : Inv X pins σ H s) : ∀ b o, X.base.get? b = some o → s.heap.get? b = some o := fun b o e => (I.bs b o e).1
theorem Inv.mod (I : Inv X pins σ H s) : Mod X.K X.mg X.base := I.ok.mod
theorem Inv.kIn (I : Inv X pins σ H s) : X.K.In s.heap := I.ok.mod.kin.keeps I.bk
theorem Inv.fr (I : Inv X pins σ H s) : ∃ m, Fr X.base X.env.locals s.heap m :=
  let ⟨m, hn, _⟩ := I.loc
  ⟨m, hn, I.bk, Nat.le_trans I.ok.bsz I.ok.above⟩
theorem Inv.lt (I : Inv X pins σ H s) : X.env.locals < s.heap.objs.size := let ⟨_, hn, _⟩ := I.loc; hn.lt
theorem Inv.sz (I : Inv X pins σ H s) : X.s₀.heap.objs.size ≤ s.heap.objs.size := Nat.le_trans I.ok.above (Nat.le_of_lt I.lt)
theorem Inv.nofs (I : Inv X pins σ H s) {a : Addr} (h : s.heap.objs.size ≤ a) : a ∉ X.fs := fun hb => by
  obtain ⟨_, o, ho, _⟩ := I.ok.funs.mem hb
  exact absurd (Nat.lt_of_lt_of_le (Heap.lt_size ho) (Nat.le_trans I.sz h)) (Nat.lt_irrefl _)
theorem Inv.cne (I : Inv X pins σ H s) : ∀ x c, X.env.cells.lookup x = some c → c ≠ X.env.locals := fun x c e z => by
  obtain ⟨v, o, ho, hd⟩ := I.cell x c e
  obtain ⟨m, ⟨o', es, ep, ho', hd', _⟩, _⟩ := I.loc
  rw [z, ho'] at ho; cases ho; rw [hd'] at hd; cases hd
theorem Inv.funs (I : Inv X pins σ H s) : s.heap.FunFrames X.base X.outer := by
  have all : ∀ (l : List Env), (∀ b ∈ frs l, b ∈ X.fs) → X.s₀.heap.FunFrames X.base l → s.heap.FunFrames X.base l := by
    intro l
    induction l with
    | nil => intro _ _; trivial
    | cons env r ih =>
      intro hs hl
      obtain ⟨hk, ⟨L, o, hf, hn, ho, hd⟩, hr⟩ := hl
      have hL : L ∈ X.fs := hs L (by unfold frs; rw [List.filterMap_cons, hf]; exact List.mem_cons_self)
      obtain ⟨sl, e⟩ := I.base.slot L o ho (I.ok.frf L hL) hL fun z => I.ok.exfs L z hL
      exact ⟨hk, ⟨L, _, hf, hn, e, hd⟩, ih (fun b hb => hs b (by unfold frs; rw [List.filterMap_cons, hf]; exact List.mem_cons_of_mem _ hb)) hr⟩
  exact all X.outer (fun _ hb => hb) I.ok.funs
theorem Inv.stack (I : Inv X pins σ H s) : s.heap.FunFrames X.base X.stack := by
  rcases I.ok.stk with e | ⟨e, hf⟩
  · rw [e]; exact I.funs
  · rw [e]
    obtain ⟨m, hn, _⟩ := I.loc
    refine .cons (by rw [I.ok.kind]; decide) hf hn ?_ I.funs
    exact Heap.get?_none_of_le (Nat.le_trans I.ok.bsz I.ok.above)
theorem Inv.stkSub (I : Inv X pins σ H s) : ∀ b ∈ frs X.stack, b ∈ X.env.locals :: X.fs := fun b hb => by
  rcases I.ok.stk with e | ⟨e, hf⟩
  · rw [e] at hb; exact List.mem_cons_of_mem _ hb
  · rw [e] at hb
    unfold frs at hb
    rw [List.filterMap_cons, hf] at hb
    exact hb
theorem Inv.stkFree (I : Inv X pins σ H s) : ∀ b ∈ frs X.stack, H b = none := fun b hb => by
  rcases List.mem_cons.mp (I.stkSub b hb) with e | hb
  · rw [e]; exact I.free
  · obtain ⟨_, o, ho, _⟩ := I.ok.funs.mem hb
    exact I.base.free b o ho (I.ok.frf b hb) fun z => I.ok.exfs b z hb
theorem Inv.step {g' : Array GenState} {t' : Nat} {d' : Drawn} {ch : List Addr} (I : Inv X pins σ H s)
    (hch : ∀ b ∈ ch, (b ∈ X.ex ∨ X.s₀.heap.objs.size ≤ b) ∧ b ≠ X.env.locals ∧ (∀ x c, X.env.cells.lookup x = some c → c ≠ b) ∧ ∀ p ∈ X.pn ++ pins, p.1 ≠ b)
    (keep : ∀ b o, b ≠ X.env.locals → b ∉ X.fs → b ∉ ch → s.heap.get? b = some o → H b = none → h'.get? b = some o)
    (slot : ∀ b o, b ≠ X.env.locals → b ∈ X.fs → b ∉ ch → s.heap.get? b = some o → H b = none → ∃ sl, h'.get? b = some { o with slots := sl }) (free : ∀ b o, b ∉ ch → s.heap.get? b = some o → H b = none → H' b = none)
    (there : ∀ b o, b ∉ ch → s.heap.get? b = some o → ∃ o', h'.get? b = some o')
    (tups : ∀ b xs, H b = some (.tup xs) → H' b = some (.tup xs)) (frzs : ∀ b o u, H b = some (.frz o u) → H' b = some (.frz o u)) (tbls : ∀ b ps, H b = some (.tbl ps) → ∃ more, H' b = some (.tbl (ps ++ more)))
    (ns : ∀ m, s.heap.Ns X.env.locals m → h'.Ns X.env.locals m) (hok : HOk X.prog X.w H' h') (hg : AllBare g') :
    Inv X pins σ H' { s with heap := h', gens := g', drawn := d', toks := t' } := by
  have neL : ∀ b o, X.s₀.heap.get? b = some o → b ≠ X.env.locals := fun b o e => Nat.ne_of_lt (Nat.lt_of_lt_of_le (Heap.lt_size e) I.ok.above)
  have neC : ∀ b o, X.s₀.heap.get? b = some o → b ∉ X.ex → b ∉ ch := fun b o e hx hb => by
    rcases (hch b hb).1 with z | z
    · exact hx z
    · exact absurd (Nat.lt_of_lt_of_le (Heap.lt_size e) z) (Nat.lt_irrefl _)
  have cellK : ∀ x c, X.env.cells.lookup x = some c → ∀ v, s.heap.IsCell c v → h'.IsCell c v := fun x c e v ⟨o, ho, hd⟩ => by
    have nch : c ∉ ch := fun z => (hch c z).2.2.1 x c e rfl
    by_cases hc : c ∈ X.fs
    · obtain ⟨sl, q⟩ := slot c o (I.cne x c e) hc nch ho (I.freeC x c e)
      exact ⟨_, q, hd⟩
    · exact ⟨o, keep c o (I.cne x c e) hc nch ho (I.freeC x c e), hd⟩
  refine ⟨I.ok, I.os, hg, ⟨fun b o e n hb hx => ?_, fun b o e n hb hx => ?_, fun b o e n hx => ?_, fun b o e hx => ?_, fun b xs e => tups b xs (I.base.tups b xs e), fun b o xs e => frzs b o xs (I.base.frzs b o xs e), fun b ps e => ?_⟩, ?_, fun x c e => ?_, ?_, fun x c e => ?_, fun p hp => ?_, hok, I.len⟩
  · exact keep b o (neL b o e) hb (neC b o e hx) (I.base.keep b o e n hb hx) (I.base.free b o e n hx)
  · obtain ⟨sl, e1⟩ := I.base.slot b o e n hb hx
    obtain ⟨sl', e2⟩ := slot b _ (neL b o e) hb (neC b o e hx) e1 (I.base.free b o e n hx)
    exact ⟨sl', e2⟩
  · obtain ⟨o', e1⟩ := I.base.there b o e hx
    exact free b o' (neC b o e hx) e1 (I.base.free b o e n hx)
  · obtain ⟨o', e1⟩ := I.base.there b o e hx
    exact there b o' (neC b o e hx) e1
  · obtain ⟨m1, e1⟩ := I.base.tbls b ps e
    obtain ⟨m2, e2⟩ := tbls b _ e1
    exact ⟨m1 ++ m2, by rw [e2, Array.append_assoc]⟩
  · obtain ⟨m, hn, hl⟩ := I.loc
    refine ⟨m, ns m hn, fun i x v e1 e2 e3 => ?_⟩
    obtain ⟨u, r, l⟩ := hl i x v e1 e2 e3
    refine ⟨u, r, ?_⟩
    rcases l with l | ⟨k, c, e, z⟩
    · exact .inl l
    · exact .inr ⟨k, c, e, cellK x c e _ z⟩
  · obtain ⟨v, z⟩ := I.cell x c e
    exact ⟨v, cellK x c e v z⟩
  · obtain ⟨m, ⟨o, _, _, ho, _⟩, _⟩ := I.loc
    exact free _ o (fun z => (hch _ z).2.1 rfl) ho I.free
  · obtain ⟨v, o, ho, hd⟩ := I.cell x c e
    exact free c o (fun z => (hch c z).2.2.1 x c e rfl) ho (I.freeC x c e)
  · obtain ⟨e, n, ne, nf, d⟩ := I.pin p hp
    have nch : p.1 ∉ ch := fun z => (hch p.1 z).2.2.2 p hp rfl
    exact ⟨keep p.1 p.2 ne nf nch e n, free p.1 p.2 nch e n, ne, nf, d⟩
theorem Inv.un {t' : Nat} (I : Inv X pins σ H s) (u : Un X.fs [] H H' s.heap h') (hok : HOk X.prog X.w H' h') : Inv X pins σ H' { s with heap := h', toks := t' } := by
  obtain ⟨m, ⟨o, es, ep, ho, r⟩, _⟩ := id I.loc
  obtain ⟨sl, hL⟩ := u.any ho I.free (by simp)
  exact I.step (g' := s.gens) (d' := s.drawn) (ch := []) (fun _ z => nomatch z) (fun b o _ hb _ e n => u.keep b o e n hb (by simp)) (fun b o _ hb _ e n => u.slot b o e n hb (by simp)) (fun b o _ e n => u.free b o e n (by simp)) (fun b o _ e => u.there b o e (by simp)) u.tups u.frzs u.tbls (fun m' hm => by
    obtain ⟨o', es', ep', ho', r'⟩ := hm
    rw [ho] at ho'; cases ho'
    exact ⟨_, es', ep', hL, r'⟩) hok I.bare
theorem Inv.call {g' : Array GenState} {t' : Nat} {d' : Drawn} {ch : List Addr} (I : Inv X pins σ H s) (u : Un (frs X.stack) ch H H' s.heap h') (hok : HOk X.prog X.w H' h') (hg : AllBare g')
    (hch : ∀ b ∈ ch, (b ∈ X.ex ∨ X.s₀.heap.objs.size ≤ b) ∧ b ≠ X.env.locals ∧ (∀ x c, X.env.cells.lookup x = some c → c ≠ b) ∧ ∀ p ∈ X.pn ++ pins, p.1 ≠ b) :
    Inv X pins σ H' { s with heap := h', gens := g', drawn := d', toks := t' } := by
  obtain ⟨m, ⟨o, es, ep, ho, r⟩, _⟩ := id I.loc
  obtain ⟨sl, hL⟩ := u.any ho I.free fun z => (hch _ z).2.1 rfl
  exact I.step (ch := ch) hch (fun b o hL hb hc e n => u.keep b o e n (fun z => (List.mem_cons.mp (I.stkSub b z)).elim hL hb) hc) (fun b o _ _ hc e n => u.any e n hc) (fun b o hc e n => u.free b o e n hc) (fun b o hc e => u.there b o e hc) u.tups u.frzs u.tbls (fun m' hm => by
    obtain ⟨o', es', ep', ho', r'⟩ := hm
    rw [ho] at ho'; cases ho'
    exact ⟨_, es', ep', hL, r'⟩) hok hg
theorem Inv.turned {t' : Nat} {it : Addr} (I : Inv X pins σ H s) (k : ∀ b o, b ≠ it → s.heap.get? b = some o → h'.get? b = some o) (hn : H it = none) (hL : it ≠ X.env.locals)
    (h1 : it ∈ X.ex ∨ X.s₀.heap.objs.size ≤ it) (h2 : ∀ x c, X.env.cells.lookup x = some c → c ≠ it) (h3 : ∀ p ∈ X.pn ++ pins, p.1 ≠ it) : Inv X pins σ H { s with heap := h', toks := t' } := by
  have nit : ∀ b u, H b = some u → b ≠ it := fun b u e z => by rw [z, hn] at e; cases e
  refine I.step (g' := s.gens) (d' := s.drawn) (ch := [it]) (fun b hb => ?_) (fun b o _ _ hc e _ => k b o (fun z => hc (by simp [z])) e) (fun b o _ _ hc e _ => ⟨o.slots, k b o (fun z => hc (by simp [z])) e⟩) (fun _ _ _ _ n => n)
    (fun b o hc e => ⟨o, k b o (fun z => hc (by simp [z])) e⟩) (fun _ _ e => e) (fun _ _ _ e => e) (fun b ps e => ⟨#[], by rw [e]; simp⟩) (fun m hm => ?_) (fun b u e => ?_) I.bare
  · have e : b = it := by simpa using hb
    subst e
    exact ⟨h1, hL, h2, h3⟩
  · obtain ⟨o, es, ep, ho, r⟩ := hm
    exact ⟨o, es, ep, k _ o (Ne.symm hL) ho, r⟩
  · refine (I.hok b u e).stay (fun c v hc q => k c v ?_ q) (fun _ q => q) fun _ _ q => q
    rcases hc with z | z
    · rw [z]; exact nit b u e
    · exact nit c _ z
theorem Inv.tok (I : Inv X pins σ H s) (t : Nat) : Inv X pins σ H { s with toks := t } := I.un (h' := s.heap) (t' := t) Un.refl I.hok
theorem Inv.kept {t' : Nat} (I : Inv X pins σ H s) (k : ∀ b u, s.heap.get? b = some u → h'.get? b = some u) : Inv X pins σ H { s with heap := h', toks := t' } := I.un (Un.kept k) (I.hok.kept k)
theorem Inv.laid {a : Addr} {o : HO} {t' : Nat} (I : Inv X pins σ H s) (k : ∀ b u, s.heap.get? b = some u → h'.get? b = some u) (hp : s.heap.objs.size ≤ a) (new : ObjOk X.prog X.w (upd H a o) h' a o) :
    Inv X pins σ (upd H a o) { s with heap := h', toks := t' } := I.un (Un.laid k hp (I.hok.fresh hp)) (I.hok.laid k hp new)
theorem Inv.write {x e : Addr} {o : HO} {t' : Nat} (I : Inv X pins σ H s) (mu : Mut (H x)) (he : e = x ∨ H e = some (.own x)) (k : ∀ b u, b ≠ e → s.heap.get? b = some u → h'.get? b = some u) (heo : ∃ u, h'.get? e = some u)
    (new : ObjOk X.prog X.w (upd H x o) h' x o) : Inv X pins σ (upd H x o) { s with heap := h', toks := t' } := I.un (Un.write mu he k heo) (I.hok.write mu he k heo new)
theorem Inv.pins_of {pins' : List (Addr × Obj)} (I : Inv X pins σ H s) (h : ∀ p ∈ pins', s.heap.get? p.1 = some p.2 ∧ H p.1 = none ∧ p.1 ≠ X.env.locals ∧ p.1 ∉ X.fs ∧ ∀ v, p.2.data ≠ .cell v) : Inv X pins' σ H s :=
  ⟨I.ok, I.os, I.bare, I.base, I.loc, I.cell, I.free, I.freeC, fun p hp => (List.mem_append.mp hp).elim (fun z => I.pin p (List.mem_append_left _ z)) (h p), I.hok, I.len⟩
theorem nodup_ix {N : List Str} (hN : N.Nodup) {i j : Nat} {x : Str} (a : N[i]? = some x) (b : N[j]? = some x) : i = j := by
  obtain ⟨h1, e1⟩ := List.getElem?_eq_some_iff.mp a
  obtain ⟨h2, e2⟩ := List.getElem?_eq_some_iff.mp b
  exact (List.getElem_inj hN).mp (e1.trans e2.symm)
theorem store_ok2 {M : Model} {A : Around} {E : Value → Shared → Prop} {i : Nat} {x : Str} {v : V} {u : Value} {Q : Unit → Shared → Prop} (I : Inv X pins σ H s) (hN : X.N.Nodup) (hi : X.N[i]? = some x) (hx : Loc X.env.scope x) (r : RelV v u)
    (h : ∀ s', Inv X pins (σ.set i (some v)) H s' → (∃ a, Heap.SameBut a s.heap s'.heap ∧ (a = X.env.locals ∨ X.env.cells.lookup x = some a)) → Q () s') (hf : X.fn x = true ∨ X.env.scope.names.lookup x = some .local := by first | exact .inl rfl | exact .inr rfl | assumption) : wpAny M A (storeName X.env x u) Q E s := by
  obtain ⟨m, hn, hl⟩ := id I.loc
  have hcls : (X.env.scope.kind == .class || (X.env.scope.kind == .module && X.env.locals != X.env.globals)) = false := by rw [I.ok.kind]; rfl
  have hiσ : i < σ.length := by rw [I.len]; exact (List.getElem?_eq_some_iff.mp hi).1
  have cne := I.cne
  have tracked : ∀ {a : Addr} {h' : Heap}, (∃ o, s.heap.get? a = some o ∧ H a = none) → Heap.SameBut a s.heap h' → HOk X.prog X.w H h' := fun {a h'} ha hs b ob e => by
    obtain ⟨_, _, hfree⟩ := ha
    refine (I.hok b ob e).stay (fun c w' hc q => (hs.2 c ?_).trans q) (fun _ q => q) fun _ _ q => q
    rintro rfl
    rcases hc with rfl | hc
    · rw [hfree] at e; cases e
    · rw [hfree] at hc; cases hc
  rcases hx with hk | hk
  · refine wpAny_storeName_local hk hn (fun h' hn' hs => ?_) hcls
    obtain ⟨oL, _, _, hoL, _⟩ := id hn
    refine h _ ⟨I.ok, I.os, I.bare, ⟨fun b o e n hb hx => ?_, fun b o e n hb hx => ?_, I.base.free, fun b o e hx => ?_, I.base.tups, I.base.frzs, I.base.tbls⟩, ⟨_, hn', fun j y v' e1 e2 e3 => ?_⟩, fun y c e => ?_, I.free, I.freeC, fun p hp => ?_, tracked ⟨oL, hoL, I.free⟩ hs, by simpa using I.len⟩ ⟨_, hs, .inl rfl⟩
    · exact (hs.2 b (Nat.ne_of_lt (Nat.lt_of_lt_of_le (Heap.lt_size e) I.ok.above))).trans (I.base.keep b o e n hb hx)
    · obtain ⟨sl, e1⟩ := I.base.slot b o e n hb hx
      exact ⟨sl, (hs.2 b (Nat.ne_of_lt (Nat.lt_of_lt_of_le (Heap.lt_size e) I.ok.above))).trans e1⟩
    · obtain ⟨o', e1⟩ := I.base.there b o e hx
      exact ⟨o', (hs.2 b (Nat.ne_of_lt (Nat.lt_of_lt_of_le (Heap.lt_size e) I.ok.above))).trans e1⟩
    · by_cases hj : j = i
      · subst hj
        rw [hi] at e1; cases e1
        rw [List.getElem?_set_self hiσ] at e2
        cases e2
        exact ⟨u, r, .inl ⟨hk, by simp⟩⟩
      · rw [List.getElem?_set_ne (Ne.symm hj)] at e2
        obtain ⟨u', r', q⟩ := hl j y v' e1 e2 e3
        refine ⟨u', r', ?_⟩
        rcases q with ⟨k, e⟩ | ⟨k, c, e, z⟩
        · refine .inl ⟨k, ?_⟩
          have : y ≠ x := fun e => hj (nodup_ix hN e1 (e ▸ hi))
          simp [this, e]
        · exact .inr ⟨k, c, e, z.sameBut hs (cne y c e)⟩
    · obtain ⟨w', z⟩ := I.cell y c e
      exact ⟨w', z.sameBut hs (cne y c e)⟩
    · obtain ⟨e, n, ne, nf, d⟩ := I.pin p hp
      exact ⟨(hs.2 p.1 ne).trans e, n, ne, nf, d⟩
  · have hfn : X.fn x = true := by
      rcases hf with z | z
      · exact z
      · rw [z] at hk; cases hk
    obtain ⟨c, hc⟩ := I.ok.has x (.inl hk)
    obtain ⟨w', z⟩ := I.cell x c hc
    refine wpAny_storeName_cell I.ok.kind hk hc z (fun h' hc' hs => ?_)
    obtain ⟨oc, hoc, hocd⟩ := id z
    refine h { s with heap := h' } ⟨I.ok, I.os, I.bare, ⟨fun b o e n hb hx => ?_, fun b o e n hb hx => ?_, I.base.free, fun b o e hx => ?_, I.base.tups, I.base.frzs, I.base.tbls⟩, ⟨m, hn.sameBut hs (Ne.symm (cne x c hc)), fun j y v' e1 e2 e3 => ?_⟩, fun y c' e => ?_, I.free, I.freeC, fun p hp => ?_, tracked ⟨oc, hoc, I.freeC x c hc⟩ hs, by simpa using I.len⟩ ⟨c, hs, .inr hc⟩
    · exact (hs.2 b (Nat.ne_of_lt (Nat.lt_of_lt_of_le (Heap.lt_size e) (I.ok.cab x c hfn hc)))).trans (I.base.keep b o e n hb hx)
    · obtain ⟨sl, e1⟩ := I.base.slot b o e n hb hx
      exact ⟨sl, (hs.2 b (Nat.ne_of_lt (Nat.lt_of_lt_of_le (Heap.lt_size e) (I.ok.cab x c hfn hc)))).trans e1⟩
    · obtain ⟨o', e1⟩ := I.base.there b o e hx
      exact ⟨o', (hs.2 b (Nat.ne_of_lt (Nat.lt_of_lt_of_le (Heap.lt_size e) (I.ok.cab x c hfn hc)))).trans e1⟩
    · by_cases hj : j = i
      · subst hj
        rw [hi] at e1; cases e1
        rw [List.getElem?_set_self hiσ] at e2
        cases e2
        exact ⟨u, r, .inr ⟨.inl hk, c, hc, hc'⟩⟩
      · rw [List.getElem?_set_ne (Ne.symm hj)] at e2
        obtain ⟨u', r', q⟩ := hl j y v' e1 e2 e3
        refine ⟨u', r', ?_⟩
        rcases q with q | ⟨k, c', e, z'⟩
        · exact .inl q
        · refine .inr ⟨k, c', e, z'.sameBut hs ?_⟩
          rintro rfl
          exact hj (nodup_ix hN e1 (I.ok.inj _ _ _ e hc ▸ hi))
    · by_cases hcc : c' = c
      · subst hcc; exact ⟨_, hc'⟩
      · obtain ⟨w2, z2⟩ := I.cell y c' e
        exact ⟨w2, z2.sameBut hs hcc⟩
    · obtain ⟨e, n, ne, nf, d⟩ := I.pin p hp
      refine ⟨(hs.2 p.1 ?_).trans e, n, ne, nf, d⟩
      intro q
      rw [q, hoc] at e
      have q' : oc = p.2 := Option.some.inj e
      exact d w' (by rw [← q']; exact hocd)
theorem store_ok {M : Model} {A : Around} {E : Value → Shared → Prop} {i : Nat} {x : Str} {v : V} {u : Value} {Q : Unit → Shared → Prop} (I : Inv X pins σ H s) (hN : X.N.Nodup) (hi : X.N[i]? = some x) (hx : Loc X.env.scope x) (r : RelV v u)
    (h : ∀ s', Inv X pins (σ.set i (some v)) H s' → Q () s') (hf : X.fn x = true ∨ X.env.scope.names.lookup x = some .local := by first | exact .inl rfl | exact .inr rfl | assumption) : wpAny M A (storeName X.env x u) Q E s :=
  store_ok2 I hN hi hx r (fun s' I' _ => h s' I') hf
theorem Inv.call' {s' : Shared} {ch : List Addr} (I : Inv X pins σ H s) (ho : s'.os = s.os) (u : Un (frs X.stack) ch H H' s.heap s'.heap) (hok : HOk X.prog X.w H' s'.heap) (hg : AllBare s'.gens)
    (hch : ∀ b ∈ ch, (b ∈ X.ex ∨ X.s₀.heap.objs.size ≤ b) ∧ b ≠ X.env.locals ∧ (∀ x c, X.env.cells.lookup x = some c → c ≠ b) ∧ ∀ p ∈ X.pn ++ pins, p.1 ≠ b) : Inv X pins σ H' s' := by
  obtain ⟨h', g', d', t', o'⟩ := s'
  have e : o' = s.os := ho
  subst e
  exact I.call (g' := g') (t' := t') (d' := d') u hok hg hch
end
abbrev XK := Value → Option Addr → Hp → Prop
abbrev St := List (Option V)
abbrev VK := V → Hp → Prop
abbrev TE := St → Hp → VK → Prop
abbrev TT := St → Hp → (Bool → Hp → Prop) → Prop
abbrev TA := St → Hp → (List V → Hp → Prop) → Prop
structure Ends where
  nx : St → Hp → Prop
  rt : VK
  bk : St → Hp → Prop := fun _ _ => False
  ct : St → Hp → Prop := fun _ _ => False
abbrev TS := Ends → St → Hp → Prop
def EP (X : Cx) (pins : List (Addr × Obj)) (σ : St) (Q : VK) (u : Value) (s' : Shared) : Prop := ∃ v H', Inv X pins σ H' s' ∧ RelV v u ∧ Q v H'
def TP (X : Cx) (pins : List (Addr × Obj)) (σ : St) (Q : Bool → Hp → Prop) (b : Bool) (s' : Shared) : Prop := ∃ H', Inv X pins σ H' s' ∧ Q b H'
def AP (X : Cx) (pins : List (Addr × Obj)) (σ : St) (Q : List V → Hp → Prop) (us : List Value) (s' : Shared) : Prop := ∃ vs H', Inv X pins σ H' s' ∧ Vals vs us ∧ Q vs H'
def SP (X : Cx) (pins : List (Addr × Obj)) (D : Ends) (f : Flow) (s' : Shared) : Prop :=
  match f with
  | .next => ∃ σ' H', Inv X pins σ' H' s' ∧ D.nx σ' H'
  | .brk => ∃ σ' H', Inv X pins σ' H' s' ∧ D.bk σ' H'
  | .cont => ∃ σ' H', Inv X pins σ' H' s' ∧ D.ct σ' H'
  | .ret u => ∃ v σ' H', Inv X pins σ' H' s' ∧ RelV v u ∧ D.rt v H'
def PE (X : Cx) (e : Expr) (t : TE) : Prop :=
  ∀ (pins : List (Addr × Obj)) (s : Shared) (σ : St) (H : Hp) (Q : VK), Inv X pins σ H s → t σ H Q → wpAny (model X.prog X.w) X.A (eval e X.env) (EP X pins σ Q) X.xe s
def PT (X : Cx) (e : Expr) (t : TT) : Prop :=
  ∀ (pins : List (Addr × Obj)) (s : Shared) (σ : St) (H : Hp) (Q : Bool → Hp → Prop), Inv X pins σ H s → t σ H Q → wpAny (model X.prog X.w) X.A (isTrue e X.env (eval e X.env)) (TP X pins σ Q) X.xe s
def PW (X : Cx) (e : Expr) (t : TT) : Prop :=
  ∀ (whole : Sem Value) (pins : List (Addr × Obj)) (s : Shared) (σ : St) (H : Hp) (Q : Bool → Hp → Prop), Inv X pins σ H s → t σ H Q → wpAny (model X.prog X.w) X.A (isTrue e X.env whole) (TP X pins σ Q) X.xe s
theorem PW.pt {X : Cx} {e : Expr} {t : TT} (h : PW X e t) : PT X e t := h _
def PA (X : Cx) (es : List Expr) (t : TA) : Prop :=
  ∀ (pos : Pos) (pins : List (Addr × Obj)) (s : Shared) (σ : St) (H : Hp) (Q : List V → Hp → Prop), Inv X pins σ H s → t σ H Q → wpAny (model X.prog X.w) X.A (spliced (backTo pos (starEach es X.env))) (AP X pins σ Q) X.xe s
def PS (X : Cx) (st : Stmt) (t : TS) : Prop :=
  ∀ (pins : List (Addr × Obj)) (s : Shared) (σ : St) (H : Hp) (D : Ends), Inv X pins σ H s → t D σ H → wpAny (model X.prog X.w) X.A (exec st X.env) (SP X pins D) X.xe s
def PSs (X : Cx) (st : List Stmt) (t : TS) : Prop :=
  ∀ (pins : List (Addr × Obj)) (s : Shared) (σ : St) (H : Hp) (D : Ends), Inv X pins σ H s → t D σ H → wpAny (model X.prog X.w) X.A (execs st X.env) (SP X pins D) X.xe s
theorem thn {α : Type} {t : Sem α} {Q Q' : α → Shared → Prop} {M : Model} {A : Around} {E : Value → Shared → Prop} {s : Shared} (h : wpAny M A t Q E s) (hQ : ∀ a s, Q a s → Q' a s) : wpAny M A t Q' E s := wpAny_mono h hQ fun _ _ x => x
section
variable {X : Cx}
def tVar (i : Nat) : TE := fun σ H Q => ∃ v, σ[i]? = some (some v) ∧ Q v H
def tC (v : V) : TE := fun _ H Q => Q v H
theorem pe_var {i : Nat} {x : Str} {pos : Pos} (hN : X.N[i]? = some x) (hv : Vis X.env.scope x) (hd : (x == ("__debug__" : Str)) = false := by decide) (hcd : (x == ("__classdict__" : Str)) = false := by decide) : PE X (.Name x pos) (tVar i) := by
  intro pins s σ H Q I h
  obtain ⟨v, e, h⟩ := h
  obtain ⟨m, hn, hl⟩ := I.loc
  obtain ⟨u, r, l⟩ := hl i x v hN e hv
  have fin : EP X pins σ Q u s := ⟨v, H, I, r, h⟩
  rcases l with ⟨hk, hm⟩ | ⟨hk, c, hc, hcell⟩
  · exact wpAny_Name (wpAny_loadName_local I.ok.kind hk hn hm fin) hd
  · rcases hk with hk | hk
    · exact wpAny_Name (wpAny_loadName_cell I.ok.kind hk hc hcell fin) hd
    · exact wpAny_Name (wpAny_loadName_free I.ok.kind hk hc hcell fin hcd) hd
theorem pe_int {i j pos} : PE X (.Constant (.int i) j pos) (tC (.int i)) := fun _ _ _ H _ I h => wpAny_Constant_int ⟨.int i, H, I.tok _, ⟨_, rfl⟩, h⟩
theorem pe_bl {b j pos} : PE X (.Constant (.bool b) j pos) (tC (.bl b)) := fun _ _ _ H _ I h => Constant_bool ⟨.bl b, H, I, rfl, h⟩
theorem pe_str {x j pos} : PE X (.Constant (.str x) j pos) (tC (.str x)) := fun _ _ _ H _ I h => Calls.Constant_str ⟨.str x, H, I.tok _, ⟨_, rfl⟩, h⟩
def Gl (X : Cx) (x : Str) : Prop := X.env.kindOf x = some .globalImplicit
theorem ld_glob {E : Value → Shared → Prop} {pins : List (Addr × Obj)} {s : Shared} {σ : St} {H : Hp} {x : Str} {u : Value} {pos : Pos} {Q : Value → Shared → Prop} (I : Inv X pins σ H s) (hg : Gl X x) (hm : X.mg x = some u) (h : Q u s)
    (hd : (x == ("__debug__" : Str)) = false := by decide) : wpAny (model X.prog X.w) X.A (eval (.Name x pos) X.env) Q E s :=
  Calls.Name_function_global I.ok.kind hg (Calls.loadGlobal_global (by rw [I.ok.glob]; exact I.mod.glob.keeps I.bk) hm h) hd
theorem ld_blt {E : Value → Shared → Prop} {pins : List (Addr × Obj)} {s : Shared} {σ : St} {H : Hp} {x : Str} {u : Value} {pos : Pos} {Q : Value → Shared → Prop} (I : Inv X pins σ H s) (hg : Gl X x) (hm : X.mg x = none) (hv : bootBuiltins x = some u) (h : Q u s)
    (hn : x ≠ "__name__" := by decide) (hd : (x == ("__debug__" : Str)) = false := by decide) : wpAny (model X.prog X.w) X.A (eval (.Name x pos) X.env) Q E s := by
  obtain ⟨mb, h1, h2⟩ := I.mod.blt
  exact Calls.Name_function_global I.ok.kind hg (Calls.loadGlobal_builtin (by rw [I.ok.glob]; exact I.mod.glob.keeps I.bk) hm (by rw [I.ok.blt]; exact h1.keeps I.bk) ((h2 x hn).trans hv) h) hd
theorem pe_glob {x : Str} {v : V} {u : Value} {pos : Pos} (hg : Gl X x) (hm : X.mg x = some u) (r : RelV v u) (hd : (x == ("__debug__" : Str)) = false := by decide) : PE X (.Name x pos) (tC v) :=
  fun _ _ _ H _ I h => ld_glob I hg hm ⟨v, H, I, r, h⟩ hd
theorem pe_bltn {x : Str} {v : V} {u : Value} {pos : Pos} (hg : Gl X x) (hm : X.mg x = none) (hv : bootBuiltins x = some u) (r : RelV v u) (hn : x ≠ "__name__" := by decide) (hd : (x == ("__debug__" : Str)) = false := by decide) : PE X (.Name x pos) (tC v) :=
  fun _ _ _ H _ I h => ld_blt I hg hm hv ⟨v, H, I, r, h⟩ hn hd
variable {a b : Expr} {ta tb : TE} {pos : Pos}
def tB (t : TE) : TT := fun σ H Q => t σ H fun x H1 => ∃ c, x = .bl c ∧ Q c H1
theorem pt_val {e : Expr} {t : TE} (h : PE X e t) (he : ∀ whole, isTrue e X.env whole = (do let v ← whole; standAt e.pos; holding [v] (truthy v)) := by intro _; rfl) : PT X e (tB t) := by
  intro pins s σ H Q I hw
  refine isTrue_plain (thn (h pins s σ H _ I hw) fun v s1 ⟨x, H1, I1, r1, q1⟩ => ?_) (he _)
  obtain ⟨d, rfl, q⟩ := q1
  cases r1
  exact wpAny_truthy_bool ⟨H1, I1, q⟩
variable {tA tB' : TT} {rest : List Expr}
def tOr (t u : TT) : TT := fun σ H Q => t σ H fun c H1 => if c = true then Q true H1 else u σ H1 Q
def tNot (t : TT) : TT := fun σ H Q => t σ H fun c H1 => Q (!c) H1
theorem pw_or1 (ha : PT X a tA) : PW X (.BoolOp .Or [a] pos) tA := by
  intro wh pins s σ H Q I h
  refine isTrue_or (thn (ha pins s σ H Q I h) fun c s1 e => ?_)
  cases c with
  | false => exact isTrue_or_nil e
  | true => exact e
theorem pw_or (ha : PT X a tA) (hb : PW X (.BoolOp .Or (b :: rest) pos) tB') : PW X (.BoolOp .Or (a :: b :: rest) pos) (tOr tA tB') := by
  intro wh pins s σ H Q I h
  refine isTrue_or (thn (ha pins s σ H _ I h) fun c s1 ⟨H1, I1, q1⟩ => ?_)
  cases c with
  | true => exact ⟨H1, I1, q1⟩
  | false => exact hb wh pins s1 σ H1 Q I1 q1
theorem pt_not (ha : PT X a tA) : PT X (.UnaryOp .Not a pos) (tNot tA) := by
  intro pins s σ H Q I h
  exact isTrue_not (ha pins s σ H (fun c H1 => Q (!c) H1) I h)
def tAndV (ta tb : TE) : TE := fun σ H Q => ta σ H fun x H1 => ∃ c, x = .bl c ∧ if c = true then tb σ H1 Q else Q (.bl false) H1
def tOrV (ta tb : TE) : TE := fun σ H Q => ta σ H fun x H1 => ∃ c, x = .bl c ∧ if c = true then Q (.bl true) H1 else tb σ H1 Q
def tNotV (ta : TE) : TE := fun σ H Q => ta σ H fun x H1 => ∃ c, x = .bl c ∧ Q (.bl (!c)) H1
theorem pe_one {op} {t : TE} (h : PE X a t) : PE X (.BoolOp op [a] pos) t := fun pins s σ H Q I hw => BoolOp_one (h pins s σ H Q I hw)
theorem pe_and (ha : PE X a ta) (hb : PE X (.BoolOp .And (b :: rest) pos) tb) : PE X (.BoolOp .And (a :: b :: rest) pos) (tAndV ta tb) := by
  intro pins s σ H Q I h
  refine BoolOp_and (thn (ha pins s σ H _ I h) fun v s1 ⟨x, H1, I1, r1, q1⟩ => ?_)
  obtain ⟨c, rfl, q1⟩ := q1
  cases r1
  refine wpAny_truthy_bool ?_
  cases c with
  | true => exact hb pins s1 σ H1 Q I1 q1
  | false => exact ⟨.bl false, H1, I1, rfl, q1⟩
theorem pe_or (ha : PE X a ta) (hb : PE X (.BoolOp .Or (b :: rest) pos) tb) : PE X (.BoolOp .Or (a :: b :: rest) pos) (tOrV ta tb) := by
  intro pins s σ H Q I h
  refine BoolOp_or (thn (ha pins s σ H _ I h) fun v s1 ⟨x, H1, I1, r1, q1⟩ => ?_)
  obtain ⟨c, rfl, q1⟩ := q1
  cases r1
  refine wpAny_truthy_bool ?_
  cases c with
  | false => exact hb pins s1 σ H1 Q I1 q1
  | true => exact ⟨.bl true, H1, I1, rfl, q1⟩
theorem pe_not (ha : PE X a ta) : PE X (.UnaryOp .Not a pos) (tNotV ta) := by
  intro pins s σ H Q I h
  refine UnaryOp_ (thn (ha pins s σ H _ I h) fun v s1 ⟨x, H1, I1, r1, q1⟩ => ?_)
  obtain ⟨c, rfl, q1⟩ := q1
  cases r1
  exact not_of (wpAny_truthy_bool ⟨.bl (!c), H1, I1, rfl, q1⟩)
end
def SqL (K : PySem.W.Frag) (H : Hp) (a : Addr) (xs : List V) : Prop :=
  Rd H a (.lst xs) ∨
    ∃ (o : Obj) (its : Array Value) (n : Nat), K.lookup a = some o ∧ o.cls = .type "list" ∧ o.dict = none ∧ o.data = .seq its n ∧ its.size ≤ sizeLine ∧ Vals xs its.toList
def SqT (K : PySem.W.Frag) (H : Hp) (a : Addr) (xs : List V) : Prop :=
  Rd H a (.tup xs) ∨
    ∃ (o : Obj) (its : Array Value) (n : Nat), K.lookup a = some o ∧ o.cls = .type "tuple" ∧ o.data = .seq its n ∧ its.size ≤ sizeLine ∧ Vals xs its.toList
def absV : Value → Option V
  | .none => some .non
  | .bool b => some (.bl b)
  | .int i _ => some (.int i)
  | .str x _ => some (.str x)
  | .bytes b _ => some (.byt b)
  | .float b _ => some (.flt b)
  | .ref a => some (.ref a)
  | .type n => some (.ty n)
  | _ => none
theorem RelV.abs {x : V} {u : Value} (r : RelV x u) : absV u = some x := by
  cases x with
  | non => cases r; rfl
  | bl _ => cases r; rfl
  | int _ => obtain ⟨t, rfl⟩ := r; rfl
  | str _ => obtain ⟨t, rfl⟩ := r; rfl
  | byt _ => obtain ⟨t, rfl⟩ := r; rfl
  | flt _ => obtain ⟨t, rfl⟩ := r; rfl
  | ref _ => cases r; rfl
  | ty _ => cases r; rfl
theorem RelV.inj {x y : V} {u : Value} (r : RelV x u) (q : RelV y u) : x = y := Option.some.inj (r.abs.symm.trans q.abs)
theorem Vals.inj : ∀ {xs ys : List V} {us : List Value}, Vals xs us → Vals ys us → xs = ys
  | _, _, _, .nil, .nil => rfl
  | _, _, _, .cons r t, .cons r' t' => by rw [r.inj r', Vals.inj t t']
section
variable {X : Cx} {pins : List (Addr × Obj)} {σ : St} {H : Hp} {s : Shared} {a : Addr} {xs ys : List V}
theorem SqL.of {K : PySem.W.Frag} (h : H a = some (.lst xs)) : SqL K H a xs := .inl (.inl h)
theorem Inv.list (I : Inv X pins σ H s) (h : SqL X.K H a xs) : ∃ its : List Value, Vals xs its ∧ PlainL s.heap a its.toArray ∧ xs.length ≤ sizeLine := by
  rcases h with h | ⟨o, its, n, hk, hc, hd, hs, hz, r⟩
  · obtain ⟨z, its, n, r, e⟩ := h.ok I.hok
    exact ⟨its, r, ⟨_, n, e, rfl, rfl, rfl⟩, z⟩
  · refine ⟨its.toList, r, ⟨o, n, I.kIn a o hk, hc, hd, by simpa using hs⟩, ?_⟩
    have e := r.length
    simp only [Array.length_toList] at e
    omega
theorem Inv.tuple (I : Inv X pins σ H s) (h : SqT X.K H a xs) : ∃ its : List Value, Vals xs its ∧ IsTup s.heap a its.toArray ∧ xs.length ≤ sizeLine := by
  rcases h with h | ⟨o, its, n, hk, hc, hs, hz, r⟩
  · obtain ⟨z, its, r, p⟩ := h.ok I.hok
    exact ⟨its, r, p, z⟩
  · refine ⟨its.toList, r, ⟨o, I.kIn a o hk, hc, n, by simpa using hs⟩, ?_⟩
    have e := r.length
    simp only [Array.length_toList] at e
    omega
theorem Inv.list_inj (I : Inv X pins σ H s) (h : SqL X.K H a xs) (h' : SqL X.K H a ys) : xs = ys := by
  obtain ⟨its, r, ⟨o, n, e, _, _, d⟩, _⟩ := I.list h
  obtain ⟨its', r', ⟨o', n', e', _, _, d'⟩, _⟩ := I.list h'
  rw [e] at e'; cases e'
  rw [d] at d'
  injection d' with d1 _
  have : its = its' := by simpa using congrArg Array.toList d1
  subst this
  exact r.inj r'
end
abbrev Cx.wish (X : Cx) (E : Value → Shared → Prop) : Cx := { X with xe := E }
abbrev Cx.nox (X : Cx) : Cx := X.wish fun _ _ => False
theorem Cx.Ok.wish {X : Cx} (ok : X.Ok) (E : Value → Shared → Prop) : (X.wish E).Ok :=
  ⟨ok.mod, ok.kind, ok.glob, ok.blt, ok.above, ok.inj, ok.has, ok.cab, ok.hd, ok.frames, ok.stk, ok.exf, ok.bs, ok.bsz, ok.noex, ok.exfs, ok.funs, ok.frf⟩
theorem Cx.Ok.unwish {X : Cx} {E : Value → Shared → Prop} (ok : (X.wish E).Ok) : X.Ok :=
  ⟨ok.mod, ok.kind, ok.glob, ok.blt, ok.above, ok.inj, ok.has, ok.cab, ok.hd, ok.frames, ok.stk, ok.exf, ok.bs, ok.bsz, ok.noex, ok.exfs, ok.funs, ok.frf⟩
section
variable {X : Cx} {pins : List (Addr × Obj)} {σ : St} {H : Hp} {s : Shared} {E : Value → Shared → Prop}
theorem Inv.wish (I : Inv X pins σ H s) (E : Value → Shared → Prop) : Inv (X.wish E) pins σ H s := ⟨I.ok.wish E, I.os, I.bare, I.base, I.loc, I.cell, I.free, I.freeC, I.pin, I.hok, I.len⟩
theorem Inv.unwish (I : Inv (X.wish E) pins σ H s) : Inv X pins σ H s := ⟨I.ok.unwish, I.os, I.bare, I.base, I.loc, I.cell, I.free, I.freeC, I.pin, I.hok, I.len⟩
theorem SP.unwish {D : Ends} {f : Flow} {s' : Shared} (h : SP (X.wish E) pins D f s') : SP X pins D f s' := by
  cases f with
  | next => obtain ⟨σ', H', I, q⟩ := h; exact ⟨σ', H', I.unwish, q⟩
  | brk => obtain ⟨σ', H', I, q⟩ := h; exact ⟨σ', H', I.unwish, q⟩
  | cont => obtain ⟨σ', H', I, q⟩ := h; exact ⟨σ', H', I.unwish, q⟩
  | ret u => obtain ⟨v, σ', H', I, r, q⟩ := h; exact ⟨v, σ', H', I.unwish, r, q⟩
theorem PSs.nox {st : List Stmt} {t : TS} (h : PSs X.nox st t) : PSs X st t := fun pins s σ H D I hw =>
  wpAny_mono (h pins s σ H D (I.wish _) hw) (fun _ _ q => q.unwish) fun _ _ z => False.elim z
end
section
variable {X : Cx} {st : Stmt} {rest : List Stmt} {t u : TS} {e : Expr} {te : TE} {pos : Pos}
def tNext : TS := fun D σ H => D.nx σ H
def tSeq (t u : TS) : TS := fun D σ H => t { D with nx := u D } σ H
theorem pss_nil : PSs X [] tNext := fun _ _ σ H _ I h => wpAny_execs_nil ⟨σ, H, I, h⟩
theorem pss_cons (h1 : PS X st t) (h2 : PSs X rest u) : PSs X (st :: rest) (tSeq t u) := by
  intro pins s σ H D I h
  refine wpAny_execs_cons (thn (h1 pins s σ H { D with nx := u D } I h) fun f s1 q => ?_)
  cases f with
  | next =>
    obtain ⟨σ', H', I', q⟩ := q
    exact h2 pins s1 σ' H' D I' q
  | ret v => exact q
  | brk => exact q
  | cont => exact q
theorem pss_one (h1 : PS X st t) : PSs X [st] t := by
  intro pins s σ H D I h
  refine wpAny_execs_cons (thn (h1 pins s σ H D I h) fun f s1 q => ?_)
  cases f with
  | next => exact wpAny_execs_nil q
  | ret v => exact q
  | brk => exact q
  | cont => exact q
theorem Inv.quiet {pins : List (Addr × Obj)} {σ : St} {H : Hp} {s : Shared} (I : Inv X pins σ H s) : interactive X.env = false := by simp [interactive, I.ok.kind]
def tDrop (te : TE) : TS := fun D σ H => te σ H fun _ H1 => D.nx σ H1
theorem ps_expr (he : PE X e te) (hs : swapsWith e none pos.line X.env = pure false := by rfl) : PS X (.Expr e pos) (tDrop te) := by
  intro pins s σ H D I h
  exact wpAny_Expr_any (thn (he pins s σ H _ I h) fun v s1 ⟨x, H1, I1, r1, q1⟩ => ⟨σ, H1, I1, q1⟩) I.quiet hs
def tRet (te : TE) : TS := fun D σ H => te σ H D.rt
theorem ps_ret (he : PE X e te) : PS X (.Return (some e) pos) (tRet te) := by
  intro pins s σ H D I h
  exact wpAny_Return_some (thn (he pins s σ H _ I h) fun v s1 ⟨x, H1, I1, r1, q1⟩ => ⟨x, σ, H1, I1, r1, q1⟩)
def tIfS (c : TT) (t u : TS) : TS := fun D σ H => c σ H fun b H1 => if b = true then t D σ H1 else u D σ H1
theorem ps_if {c : Expr} {a b : List Stmt} {tc : TT} (hc : PT X c tc) (ha : PSs X a t) (hb : PSs X b u) : PS X (.If c a b pos) (tIfS tc t u) := by
  intro pins s σ H D I h
  refine wpAny_If (thn (hc pins s σ H _ I h) fun d s1 ⟨H1, I1, q1⟩ => ?_)
  cases d with
  | true => exact ha pins s1 σ H1 D I1 q1
  | false => exact hb pins s1 σ H1 D I1 q1
def tNever : TS := fun _ _ _ => False
theorem pss_never {sts : List Stmt} : PSs X sts tNever := fun _ _ _ _ _ _ h => h.elim
end
abbrev TG := V → St → Hp → (St → Hp → Prop) → Prop
def PG (X : Cx) (target : Expr) (t : TG) : Prop :=
  ∀ (pins : List (Addr × Obj)) (s : Shared) (σ : St) (H : Hp) (v : V) (u : Value) (Q : St → Hp → Prop), Inv X pins σ H s → RelV v u → t v σ H Q →
    wpAny (model X.prog X.w) X.A (assign target X.env u) (fun _ s' => ∃ σ' H', Inv X pins σ' H' s' ∧ Q σ' H') X.xe s
section
variable {X : Cx} {pos : Pos}
def gName (i : Nat) : TG := fun v σ H Q => Q (σ.set i (some v)) H
theorem pg_name {i : Nat} {x : Str} (hN : X.N.Nodup) (hi : X.N[i]? = some x) (hx : Loc X.env.scope x) (hf : X.fn x = true ∨ X.env.scope.names.lookup x = some .local := by first | exact .inl rfl | exact .inr rfl | assumption) : PG X (.Name x pos) (gName i) := by
  intro pins s σ H v u Q I r h
  exact wpAny_assign_Name (store_ok I hN hi hx r (fun s' I' => ⟨_, H, I', h⟩) hf)
def tAsg (te : TE) (g : TG) : TS := fun D σ H => te σ H fun x H1 => g x σ H1 D.nx
theorem ps_set {i : Nat} {x : Str} {e : Expr} {te : TE} {pos' : Pos} (hN : X.N.Nodup) (hi : X.N[i]? = some x) (hx : Loc X.env.scope x) (he : PE X e te) (hs : swapsWith e (some (.Name x pos')) pos.line X.env = pure false := by rfl) (hf : X.fn x = true ∨ X.env.scope.names.lookup x = some .local := by first | exact .inl rfl | exact .inr rfl | assumption) :
    PS X (.Assign [.Name x pos'] e pos) (tAsg te (gName i)) := by
  intro pins s σ H D I h
  refine wpAny_Assign_Name (thn (he pins s σ H _ I h) fun v s1 ⟨y, H1, I1, r1, q1⟩ => ?_) hs
  exact store_ok I1 hN hi hx r1 (fun s2 I2 => ⟨_, H1, I2, q1⟩) hf
def tPar (i j : Nat) (ta : TA) : TS := fun D σ H => ta σ H fun vs H1 => ∃ v w, vs = [v, w] ∧ D.nx ((σ.set i (some v)).set j (some w)) H1
theorem ps_par {i j : Nat} {x y : Str} {a b : Expr} {ta : TA} {px py pt : Pos} {kt k2 pt2} (hc : X.calm = true) (hN : X.N.Nodup) (hi : X.N[i]? = some x) (hj : X.N[j]? = some y) (hij : i ≠ j)
    (hx : X.env.scope.names.lookup x = some .local) (hy : X.env.scope.names.lookup y = some .local) (ha : PA X [a, b] ta)
    (hw : swappedStores [.Tuple [.Name x px, .Name y py] kt pt] (.Tuple [a, b] k2 pt2) X.env = pure (some [x, y]))
    (hs : swapsWithSole [.Tuple [.Name x px, .Name y py] kt pt] (.Tuple [a, b] k2 pt2) pos.line X.env = pure false := by rfl) :
    PS X (.Assign [.Tuple [.Name x px, .Name y py] kt pt] (.Tuple [a, b] k2 pt2) pos) (tPar i j ta) := by
  intro pins s σ H D I h
  rw [exec_Assign_arm]
  refine wpAny_bind (wpAny_standAt ?_)
  rw [hs]
  refine wpAny_bind (wpAny_pure ?_)
  rw [if_neg (by decide)]
  refine wpAny_bind (Tuple_ (thn (ha _ pins s σ H _ I h) fun us s1 ⟨vs, H1, I1, r1, q1⟩ => ?_))
  obtain ⟨v, w, e1, q1⟩ := q1
  subst e1
  obtain ⟨u1, u2, rfl, rv, rw'⟩ : ∃ u1 u2, us = [u1, u2] ∧ RelV v u1 ∧ RelV w u2 := by
    cases r1 with
    | cons p q =>
      cases q with
      | cons p' q' =>
        cases q'
        exact ⟨_, _, rfl, p, p'⟩
  refine wpAny_newObj_type ?_ (by show 2 ≤ sizeLine; decide)
  have I2 : Inv X pins σ H1 { s1 with heap := s1.heap.push { cls := .type "tuple", data := .seq [u1, u2].toArray } } := I1.kept (t' := s1.toks) fun b o e => Heap.get?_push_of_some _ e
  rw [hw]
  refine wpAny_bind (wpAny_pure ?_)
  show wpAny (model X.prog X.w) X.A (do rule "assign.swapped-stores"; let items ← unpackItems (.ref s1.heap.objs.size) 2 none; assignInOrder [fun v => bindName X.env y v, fun v => bindName X.env x v] items.reverse; pure Flow.next) _ _ _
  refine wpAny_bind (wpAny_rule (wpAny_bind (unpackItems_tuple (items := #[u1, u2]) (I.ok.hd hc) (IsTup.new s1.heap _) fun h' hx' => ?_)))
  have I3 := I2.kept (h' := h') (t' := s1.toks) fun b o e => hx' b o (Nat.ne_of_lt (Heap.lt_size e)) e
  show wpAny _ _ (assignInOrder [fun v => bindName X.env y v, fun v => bindName X.env x v] [u2, u1] >>= fun _ => pure Flow.next) _ _ _
  refine wpAny_bind (assignInOrder_cons (wpAny_bindName (store_ok I3 hN hj (.inl hy) rw' (fun s2 I4 => ?_) (.inr hy))))
  refine assignInOrder_cons (wpAny_bindName (store_ok I4 hN hi (.inl hx) rv (fun s3 I5 => assignInOrder_nil (wpAny_pure ?_)) (.inr hx)))
  rw [List.set_comm _ _ (Ne.symm hij)] at I5
  exact ⟨_, H1, I5, q1⟩
end
structure It where
  go : Nat → Hp → Prop
  yld : Nat → Hp → V → Hp → Prop
  stop : Nat → Hp → Prop
def FpOk (X : Cx) (pins : List (Addr × Obj)) (H : Hp) (b : Addr) : Prop :=
  H b = none ∧ b ≠ X.env.locals ∧ b ∉ X.fs ∧ (b ∈ X.ex ∨ X.s₀.heap.objs.size ≤ b) ∧ (∀ x c, X.env.cells.lookup x = some c → c ≠ b) ∧ ∀ p ∈ X.pn ++ pins, p.1 ≠ b
theorem Inv.fpOk {X : Cx} {pins : List (Addr × Obj)} {σ : St} {H H' : Hp} {s : Shared} {b : Addr} (I : Inv X pins σ H s) (hb : s.heap.objs.size ≤ b) (hn : H' b = none) : FpOk X pins H' b := by
  refine ⟨hn, Nat.ne_of_gt (Nat.lt_of_lt_of_le I.lt hb), I.nofs hb, .inr (Nat.le_trans I.sz hb), fun x c e z => ?_, fun p hp z => ?_⟩
  · obtain ⟨v, q⟩ := I.cell x c e
    exact absurd (Nat.lt_of_lt_of_le q.lt (by rw [z]; exact hb)) (Nat.lt_irrefl _)
  · exact absurd (Nat.lt_of_lt_of_le (Heap.lt_size (I.pin p hp).1) (by rw [z]; exact hb)) (Nat.lt_irrefl _)
structure Turn (P : Program) (w : World) (K : PySem.W.Frag) (tg : Expr) (J : It) (fp : List Addr) (it : Addr) (tn : Nat → Heap → Prop) : Prop where
  mem : it ∈ fp
  obj : ∀ i h, tn i h → ∀ b ∈ fp, ∃ o, h.get? b = some o ∧ ∀ v, o.data ≠ .cell v
  keep : ∀ i h h', tn i h → (∀ b ∈ fp, ∀ o, h.get? b = some o → h'.get? b = some o) → tn i h'
  item : ∀ (X : Cx), X.prog = P → X.w = w → X.K = K → X.calm = true → ∀ (i : Nat) (pins : List (Addr × Obj)) (s : Shared) (σ : St) (H : Hp) (E : Value → Shared → Prop), Inv X pins σ H s → (∀ b ∈ fp, FpOk X pins H b) → tn i s.heap → J.go i H →
    wpAny (model P w) X.A (pyNext (.ref it)) (fun r s1 => ∃ u, r = some u ∧
      wpAny (model P w) X.A (letOwnedTupleGo tg (.ref it) u) (fun _ s2 => ∃ x H', Inv X pins σ H' s2 ∧ RelV x u ∧ J.yld i H x H' ∧ tn (i + 1) s2.heap ∧ ∀ b ∈ fp, H' b = none) E s1) E s
  done : ∀ (X : Cx), X.prog = P → X.w = w → X.K = K → X.calm = true → ∀ (i : Nat) (pins : List (Addr × Obj)) (s : Shared) (σ : St) (H : Hp) (E : Value → Shared → Prop), Inv X pins σ H s → (∀ b ∈ fp, FpOk X pins H b) → tn i s.heap → J.stop i H →
    wpAny (model P w) X.A (pyNext (.ref it)) (fun r s1 => r = none ∧ Inv X pins σ H s1) E s
  self : ∀ (A : Around) (i : Nat) (s : Shared) (Q : Value → Shared → Prop) (E : Value → Shared → Prop), tn i s.heap → Q (.ref it) s → wpAny (model P w) A (pyIter (.ref it)) Q E s
abbrev TI := St → Hp → (It → Hp → Prop) → Prop
def PIE (X : Cx) (pins : List (Addr × Obj)) (σ : St) (tg : Expr) (R : It → Hp → Prop) (itv : Value) (s2 : Shared) : Prop :=
  ∃ (it : Addr) (fp : List Addr) (tn : Nat → Heap → Prop) (J : It) (H' : Hp), itv = .ref it ∧ Inv X pins σ H' s2 ∧ Turn X.prog X.w X.K tg J fp it tn ∧ tn 0 s2.heap ∧ (∀ b ∈ fp, FpOk X pins H' b) ∧ R J H'
def PI (X : Cx) (tg iter : Expr) (wi : TI) : Prop :=
  ∀ (pins : List (Addr × Obj)) (s : Shared) (σ : St) (H : Hp) (R : It → Hp → Prop), Inv X pins σ H s → wi σ H R →
    wpAny (model X.prog X.w) X.A (eval iter X.env) (fun v s1 => wpAny (model X.prog X.w) X.A (pyIter v) (PIE X pins σ tg R) X.xe s1) X.xe s
theorem go_of {M : Model} {A : Around} {E : Value → Shared → Prop} {s : Shared} {tg : Expr} {it : Addr} {u : Value} {o : Obj} {n : String} {vs : Array Value} {Q : Unit → Shared → Prop} (ho : s.heap.get? it = some o) (hc : o.cls = .type n) (hd : o.data = .fields vs)
    (hn : ["enumerate", "zip", "dict_itemiterator", "dict_reverseitemiterator", "odict_iterator", "itertools.zip_longest", "itertools.pairwise"].contains n = false) (hQ : Q () s) : wpAny M A (letOwnedTupleGo tg (.ref it) u) Q E s := by
  unfold letOwnedTupleGo
  cases tg <;> first
    | exact wpAny_pure hQ
    | (cases u <;> first
        | exact wpAny_pure hQ
        | (refine wpAny_bind (wpAny_load ho ?_)
           rw [hc, hd]
           show wpAny M A (if (["enumerate", "zip", "dict_itemiterator", "dict_reverseitemiterator", "odict_iterator", "itertools.zip_longest", "itertools.pairwise"].contains n && vs[0]? == some (rawInt _)) = true then _ else _) Q E s
           rw [if_neg (by intro h; rw [hn, Bool.false_and] at h; cases h)]
           exact wpAny_pure hQ))
def Itl (K : PySem.W.Frag) (a : Addr) : It :=
  ⟨fun i H => ∃ xs x, SqL K H a xs ∧ xs[i]? = some x, fun i H x H' => H' = H ∧ ∀ xs, SqL K H a xs → xs[i]? = some x, fun i H => ∃ xs, SqL K H a xs ∧ xs.length ≤ i⟩
def Itr (lo : Int) (n : Nat) : It := ⟨fun i _ => i < n, fun i H x H' => H' = H ∧ x = .int (lo + i), fun i _ => n ≤ i⟩
theorem turn_list {P : Program} {w : World} {K : PySem.W.Frag} {tg : Expr} (a it : Addr) : Turn P w K tg (Itl K a) [it] it (fun i h => h.IsListIter it a i) where
  mem := by simp
  obj := fun i h st b hb => by
    have e : b = it := by simpa using hb
    subst e
    obtain ⟨o, e, c, d⟩ := st
    exact ⟨o, e, fun v z => by rw [d] at z; cases z⟩
  keep := fun i h h' st k => st.at fun o e => k it (by simp) o e
  item := by
    intro X hP hw hK hc i pins s σ H E I hf st hg
    subst hP hw hK
    obtain ⟨xs, x, hq, hx⟩ := hg
    obtain ⟨its, rv, p, hz⟩ := I.list hq
    obtain ⟨u, hu, ru⟩ := rv.get hx
    obtain ⟨f0, f1, f2, f3, f4, f5⟩ := hf it (by simp)
    refine wpAny_pyNext_list_item st p.isList (x := u) (by simpa using hu) fun h' st' sb => ?_
    have I1 : Inv X pins σ H { s with heap := h' } := I.turned (t' := s.toks) (fun b o hb e => (sb.2 b hb).trans e) f0 f1 f3 f4 f5
    obtain ⟨o, e, c, d⟩ := id st'
    exact ⟨u, rfl, go_of (s := { s with heap := h' }) e c d (by decide) ⟨x, H, I1, ru, ⟨rfl, fun ys hy => by rw [I.list_inj hy hq]; exact hx⟩, st', fun b hb => (hf b hb).1⟩⟩
  done := by
    intro X hP hw hK hc i pins s σ H E I hf st hg
    subst hP hw hK
    obtain ⟨xs, hq, hx⟩ := hg
    obtain ⟨its, rv, p, hz⟩ := I.list hq
    obtain ⟨f0, f1, f2, f3, f4, f5⟩ := hf it (by simp)
    have hl := rv.length
    exact wpAny_pyNext_list_end (I.ok.hd hc) st p.isList (by simp; omega) fun h' eb => ⟨rfl, I.turned (t' := s.toks) (fun b o hb e => eb b o hb e) f0 f1 f3 f4 f5⟩
  self := fun _ _ _ _ _ st h => wpAny_pyIter_listiter st h
theorem turn_range {P : Program} {w : World} {K : PySem.W.Frag} {tg : Expr} (it : Addr) (lo : Int) (n : Nat) : Turn P w K tg (Itr lo n) [it] it (fun i h => IsRangeIter h it (lo + (i : Nat) * 1) ((n : Int) - (i : Nat)) 1) where
  mem := by simp
  obj := fun i h st b hb => by
    have e : b = it := by simpa using hb
    subst e
    exact ⟨_, st, fun v z => by
      have z' : Data.fields _ = Data.cell v := z
      cases z'⟩
  keep := fun i h h' st k => k it (by simp) _ st
  item := by
    intro X hP hw hK hc i pins s σ H E I hf st hg
    subst hP hw hK
    obtain ⟨f0, f1, f2, f3, f4, f5⟩ := hf it (by simp)
    have W := Walks.range (prog := X.prog) (w := X.w) (I.ok.hd hc) it lo 1 n
    refine W.item i s _ _ hg st fun v h' tk hv st' kk => ?_
    obtain ⟨t, rfl⟩ := hv
    have I1 : Inv X pins σ H { s with heap := h', toks := tk } := I.turned (fun b o hb e => kk b o (by simpa using hb) e) f0 f1 f3 f4 f5
    refine ⟨_, rfl, go_of (s := { s with heap := h', toks := tk }) (n := "range_iterator") st' rfl rfl (by decide) ⟨.int (lo + i), H, I1, ⟨t, ?_⟩, ⟨rfl, rfl⟩, st', fun b hb => (hf b hb).1⟩⟩
    rw [Int.mul_one]
  done := by
    intro X hP hw hK hc i pins s σ H E I hf st hg
    subst hP hw hK
    obtain ⟨f0, f1, f2, f3, f4, f5⟩ := hf it (by simp)
    exact wpAny_pyNext_range_end (I.ok.hd hc) st (by have : n ≤ i := hg; omega) fun h' eb => ⟨rfl, I.turned (t' := s.toks) (fun b o hb e => eb b o hb e) f0 f1 f3 f4 f5⟩
  self := fun _ _ _ _ _ st h => wpAny_pyIter_rangeiter st h
section
variable {X : Cx} {tg : Expr}
def iList (K : PySem.W.Frag) (tl : TE) : TI := fun σ H R => tl σ H fun x H1 => ∃ a, x = .ref a ∧ (∃ xs, SqL K H1 a xs) ∧ R (Itl K a) H1
theorem pi_list {l : Expr} {tl : TE} (hl : PE X l tl) : PI X tg l (iList X.K tl) := by
  intro pins s σ H R I h
  refine thn (hl pins s σ H _ I h) fun v s1 ⟨x, H1, I1, r1, q1⟩ => ?_
  obtain ⟨a, e, ⟨xs, hq⟩, q⟩ := q1
  subst e
  cases r1
  obtain ⟨its, rv, p, hz⟩ := I1.list hq
  refine wpAny_pyIter_list p.isList ?_
  refine ⟨s1.heap.objs.size, [s1.heap.objs.size], _, _, H1, rfl, I1.kept (t' := s1.toks) fun b o e => Heap.get?_push_of_some _ e, turn_list a _, ⟨_, Heap.get?_push_size _ rfl, rfl, rfl⟩, fun b hb => ?_, q⟩
  have e : b = s1.heap.objs.size := by simpa using hb
  subst e
  exact I1.fpOk (Nat.le_refl _) (I1.hok.fresh (Nat.le_refl _))
theorem range_it {pins : List (Addr × Obj)} {σ : St} {H : Hp} {s : Shared} {R : It → Hp → Prop} {E : Value → Shared → Prop} {lo hi : Int} {t u v : Tok} {tk : Nat} (I : Inv X pins σ H s) (h1 : -(2 ^ 62) ≤ lo) (h2 : lo < 2 ^ 62) (h3 : -(2 ^ 62) ≤ hi) (h4 : hi < 2 ^ 62)
    (q : R (Itr lo (hi - lo).toNat) H) : wpAny (model X.prog X.w) X.A (pyIter (.ref s.heap.objs.size)) (PIE X pins σ tg R) E { s with heap := s.heap.push { cls := .type "range", data := .fields #[.int lo t, .int hi u, .int 1 v] }, toks := tk } := by
  refine wpAny_pyIter_range (IsRange.new ..) (small_one h1 h2 h3 h4) ?_
  have I1 : Inv X pins σ H { s with heap := s.heap.push { cls := .type "range", data := .fields #[.int lo t, .int hi u, .int 1 v] }, toks := tk } := I.kept fun b o e => Heap.get?_push_of_some _ e
  refine ⟨(s.heap.push { cls := .type "range", data := .fields #[.int lo t, .int hi u, .int 1 v] }).objs.size, [(s.heap.push { cls := .type "range", data := .fields #[.int lo t, .int hi u, .int 1 v] }).objs.size], _, _, H, rfl,
    I1.kept (t' := tk) fun b o e => Heap.get?_push_of_some _ e, turn_range _ lo (hi - lo).toNat, ?_, fun b hb => ?_, q⟩
  · have e1 : lo + ((0 : Nat) : Int) * 1 = lo := by simp
    have e2 : (((hi - lo).toNat : Nat) : Int) - ((0 : Nat) : Int) = Builtin.Range.rangeSize lo hi 1 := by rw [rangeSize_one]; split <;> omega
    show IsRangeIter _ _ (lo + ((0 : Nat) : Int) * 1) ((((hi - lo).toNat : Nat) : Int) - ((0 : Nat) : Int)) 1
    rw [e1, e2]
    exact Heap.get?_push_size _ rfl
  · have e : b = (s.heap.push { cls := .type "range", data := .fields #[.int lo t, .int hi u, .int 1 v] }).objs.size := by simpa using hb
    subst e
    exact I1.fpOk (Nat.le_refl _) (I1.hok.fresh (Nat.le_refl _))
def iRng1 (ta : TA) : TI := fun σ H R => ta σ H fun vs H1 => ∃ j : Int, vs = [.int j] ∧ -(2 ^ 62) ≤ j ∧ j < 2 ^ 62 ∧ R (Itr 0 j.toNat) H1
def iRng2 (ta : TA) : TI := fun σ H R => ta σ H fun vs H1 => ∃ i j : Int, vs = [.int i, .int j] ∧ (-(2 ^ 62) ≤ i ∧ i < 2 ^ 62 ∧ -(2 ^ 62) ≤ j ∧ j < 2 ^ 62) ∧ R (Itr i (j - i).toNat) H1
theorem pi_range1 {a : Expr} {ta : TA} {p pos : Pos} (hg : Gl X "range") (hm : X.mg "range" = none) (ha : PA X [a] ta) (hs : starEach [a] X.env = [(false, eval a X.env)] := by rfl) : PI X tg (.Call (.Name "range" p) [a] [] pos) (iRng1 ta) := by
  intro pins s σ H R I h
  refine Call_ (ld_blt I hg hm boot_range (PyProof.Rows.callWith_type1 (thn (ha pos pins s σ H _ I h) fun us s1 ⟨vs, H1, I1, r1, q1⟩ => ?_) hs rfl))
  obtain ⟨j, e, q1, q2, q⟩ := q1
  subst e
  cases r1 with
  | cons r rr =>
    cases rr
    obtain ⟨t, rfl⟩ := r
    exact call_range_1 (range_it I1 (by omega) (by omega) q1 q2 (by simpa using q))
theorem pi_range2 {a b : Expr} {ta : TA} {p pos : Pos} (hg : Gl X "range") (hm : X.mg "range" = none) (ha : PA X [a, b] ta) (hs : starEach [a, b] X.env = [(false, eval a X.env), (false, eval b X.env)] := by rfl) (hs2 : starEach [b] X.env = [(false, eval b X.env)] := by rfl) :
    PI X tg (.Call (.Name "range" p) [a, b] [] pos) (iRng2 ta) := by
  intro pins s σ H R I h
  refine Call_ (ld_blt I hg hm boot_range (PyProof.Rows.callWith_type1 (thn (ha pos pins s σ H _ I h) fun us s1 ⟨vs, H1, I1, r1, q1⟩ => ?_) (by rw [hs, hs2]) (by rw [hs2]; rfl)))
  obtain ⟨i, j, e, ⟨q1, q2, q3, q4⟩, q⟩ := q1
  subst e
  cases r1 with
  | cons r rr =>
    cases rr with
    | cons r' rr =>
      cases rr
      obtain ⟨t, rfl⟩ := r
      obtain ⟨t', rfl⟩ := r'
      exact call_range_2 (range_it I1 q1 q2 q3 q4 q)
def tFor (wi : TI) (g : TG) (tb : TS) : TS := fun D σ H => wi σ H fun J H1 => ∃ W : Nat → Nat → St → Hp → Prop, (∃ m, W 0 m σ H1) ∧ ∀ i m σ H, W i m σ H →
  (J.stop i H ∧ D.nx σ H) ∨ (J.go i H ∧ ∃ N : St → Hp → Prop, (∀ σ' H', N σ' H' → ∃ m', m' < m ∧ W (i + 1) m' σ' H') ∧ ∀ x H', J.yld i H x H' → g x σ H' fun σ2 H2 => tb { D with nx := N, ct := N, bk := D.nx } σ2 H2)
def pinsAt (fp : List Addr) (h : Heap) : List (Addr × Obj) := fp.filterMap fun b => (h.get? b).map fun o => (b, o)
theorem mem_pinsAt {fp : List Addr} {h : Heap} {b : Addr} {o : Obj} (hb : b ∈ fp) (e : h.get? b = some o) : (b, o) ∈ pinsAt fp h := List.mem_filterMap.mpr ⟨b, hb, by rw [e]; rfl⟩
theorem of_pinsAt {fp : List Addr} {h : Heap} {p : Addr × Obj} (hp : p ∈ pinsAt fp h) : p.1 ∈ fp ∧ h.get? p.1 = some p.2 := by
  obtain ⟨b, hb, e⟩ := List.mem_filterMap.mp hp
  cases q : h.get? b with
  | none => rw [q] at e; cases e
  | some o =>
    rw [q] at e
    have e' : (b, o) = p := Option.some.inj e
    subst e'
    exact ⟨hb, q⟩
theorem Inv.pinned {pins : List (Addr × Obj)} {σ : St} {H : Hp} {s : Shared} {fp : List Addr} (I : Inv X pins σ H s) (hf : ∀ b ∈ fp, FpOk X pins H b) (ho : ∀ b ∈ fp, ∃ o, s.heap.get? b = some o ∧ ∀ v, o.data ≠ .cell v) : Inv X (pins ++ pinsAt fp s.heap) σ H s :=
  I.pins_of fun p hp => (List.mem_append.mp hp).elim (fun z => I.pin p (List.mem_append_right _ z)) fun z => by
    obtain ⟨hb, e⟩ := of_pinsAt z
    obtain ⟨f0, f1, f2, _⟩ := hf p.1 hb
    obtain ⟨o, e', d⟩ := ho p.1 hb
    rw [e] at e'; cases e'
    exact ⟨e, f0, f1, f2, d⟩
theorem Inv.unpinned {pins pl : List (Addr × Obj)} {σ : St} {H : Hp} {s : Shared} (I : Inv X (pins ++ pl) σ H s) : Inv X pins σ H s := I.pins_of fun p hp => I.pin p (List.mem_append_right _ (List.mem_append_left _ hp))
theorem ps_for {iter : Expr} {body : List Stmt} {wi : TI} {g : TG} {tb : TS} {pos : Pos} (hp : PassesOwn (model X.prog X.w) X.A X.env X.xe) (hc : X.calm = true) (hi : PI X tg iter wi) (hg : PG X tg g) (hb : PSs X body tb)
    (hs : ∀ x, foldedSetIterable iter X.env x = pure x := by intro _; rfl) : PS X (.For tg iter body [] pos) (tFor wi g tb) := by
  intro pins s σ H D I h
  refine wpAny_For (thn (hi pins s σ H _ I h) fun v s1 h1 => thn h1 fun itv s2 h2 => ?_) hs
  obtain ⟨it, fp, tn, J, H2, e, I2, T, st2, f2, W, ⟨m0, w0⟩, turn⟩ := h2
  subst e
  have stat : ∀ {H' : Hp}, (∀ b ∈ fp, H' b = none) → ∀ b ∈ fp, FpOk X pins H' b := fun hn b hb => ⟨hn b hb, (f2 b hb).2⟩
  refine codeAny_forLoop_any (fun n s' => ∃ i σ' H', Inv X pins σ' H' s' ∧ tn i s'.heap ∧ (∀ b ∈ fp, H' b = none) ∧ W i n σ' H') ?_ m0 ⟨0, σ, H2, I2, st2, fun b hb => (f2 b hb).1, w0⟩
  rintro n s3 ⟨i, σ3, H3, I3, st3, fr3, w3⟩
  rcases turn i n σ3 H3 w3 with ⟨stop, qn⟩ | ⟨go, N, hN, step⟩
  · refine wpAny_passesOwn hp (thn (T.done X rfl rfl rfl hc i pins s3 σ3 H3 X.xe I3 (stat fr3) st3 stop) fun r s4 ⟨hr, I4⟩ => ?_)
    subst hr
    exact wpAny_execs_nil ⟨σ3, H3, I4, qn⟩
  · refine wpAny_passesOwn hp (thn (T.item X rfl rfl rfl hc i pins s3 σ3 H3 X.xe I3 (stat fr3) st3 go) fun r s4 ⟨u, hr, h4⟩ => ?_)
    subst hr
    refine wpAny_passesOwn hp (thn h4 fun _ s5 ⟨x, H5, I5, r5, y5, st5, fr5⟩ => ?_)
    have I5' := I5.pinned (stat fr5) (T.obj _ _ st5)
    refine wpAny_passesOwn hp (thn (hg _ s5 σ3 H5 x u _ I5' r5 (step x H5 y5)) fun _ s6 ⟨σ6, H6, I6, q6⟩ => ?_)
    refine wpAny_passesOwn hp (thn (hb _ s6 σ6 H6 _ I6 q6) fun f s7 q7 => ?_)
    have again : ∀ {σ7 : St} {H7 : Hp}, Inv X (pins ++ pinsAt fp s5.heap) σ7 H7 s7 → N σ7 H7 → ∃ m, m < n ∧ ∃ i σ' H', Inv X pins σ' H' s7 ∧ tn i s7.heap ∧ (∀ b ∈ fp, H' b = none) ∧ W i m σ' H' := fun {σ7 H7} I7 n7 => by
      obtain ⟨m', hm, w7⟩ := hN σ7 H7 n7
      refine ⟨m', hm, i + 1, σ7, H7, I7.unpinned, T.keep _ _ _ st5 fun b hb o e => (I7.pin (b, o) (List.mem_append_right _ (List.mem_append_right _ (mem_pinsAt hb e)))).1, fun b hb => ?_, w7⟩
      obtain ⟨o, e, d⟩ := T.obj _ _ st5 b hb
      exact (I7.pin (b, o) (List.mem_append_right _ (List.mem_append_right _ (mem_pinsAt hb e)))).2.1
    cases f with
    | next => obtain ⟨σ7, H7, I7, n7⟩ := q7; exact again I7 n7
    | cont => obtain ⟨σ7, H7, I7, n7⟩ := q7; exact again I7 n7
    | brk => obtain ⟨σ7, H7, I7, q7⟩ := q7; exact ⟨σ7, H7, I7.unpinned, q7⟩
    | ret v => obtain ⟨x7, σ7, H7, I7, r7, q7⟩ := q7; exact ⟨x7, σ7, H7, I7.unpinned, r7, q7⟩
end
theorem for_list {K : PySem.W.Frag} {a : Addr} {xs : List V} {g : TG} {tb : TS} {D : Ends} {σ : St} {H : Hp} (Pv : Nat → St → Hp → Prop) (h0 : Pv 0 σ H) (hl : ∀ i σ H, i ≤ xs.length → Pv i σ H → SqL K H a xs)
    (hs : ∀ i x σ H, xs[i]? = some x → Pv i σ H → g x σ H fun σ2 H2 => tb { D with nx := Pv (i + 1), ct := Pv (i + 1), bk := D.nx } σ2 H2) (hd : ∀ σ H, Pv xs.length σ H → D.nx σ H) :
    ∃ W : Nat → Nat → St → Hp → Prop, (∃ m, W 0 m σ H) ∧ ∀ i m σ H, W i m σ H →
      ((Itl K a).stop i H ∧ D.nx σ H) ∨ ((Itl K a).go i H ∧ ∃ N : St → Hp → Prop, (∀ σ' H', N σ' H' → ∃ m', m' < m ∧ W (i + 1) m' σ' H') ∧ ∀ x H', (Itl K a).yld i H x H' → g x σ H' fun σ2 H2 => tb { D with nx := N, ct := N, bk := D.nx } σ2 H2) := by
  refine ⟨fun i m σ H => m = xs.length - i ∧ i ≤ xs.length ∧ Pv i σ H, ⟨xs.length, by simp, Nat.zero_le _, h0⟩, ?_⟩
  rintro i m σ H ⟨rfl, hi, p⟩
  have q := hl i σ H hi p
  by_cases hlt : i < xs.length
  · refine .inr ⟨⟨xs, xs[i], q, by simp [hlt]⟩, Pv (i + 1), fun σ' H' p' => ⟨xs.length - (i + 1), by omega, rfl, hlt, p'⟩, fun x H' y => ?_⟩
    obtain ⟨e, y⟩ := y
    subst e
    exact hs i x σ _ (y xs q) p
  · have e : i = xs.length := by omega
    subst e
    exact .inl ⟨⟨xs, q, Nat.le_refl _⟩, hd σ H p⟩
theorem for_range {lo : Int} {n : Nat} {g : TG} {tb : TS} {D : Ends} {σ : St} {H : Hp} (Pv : Nat → St → Hp → Prop) (h0 : Pv 0 σ H)
    (hs : ∀ i σ H, i < n → Pv i σ H → g (.int (lo + i)) σ H fun σ2 H2 => tb { D with nx := Pv (i + 1), ct := Pv (i + 1), bk := D.nx } σ2 H2) (hd : ∀ σ H, Pv n σ H → D.nx σ H) :
    ∃ W : Nat → Nat → St → Hp → Prop, (∃ m, W 0 m σ H) ∧ ∀ i m σ H, W i m σ H →
      ((Itr lo n).stop i H ∧ D.nx σ H) ∨ ((Itr lo n).go i H ∧ ∃ N : St → Hp → Prop, (∀ σ' H', N σ' H' → ∃ m', m' < m ∧ W (i + 1) m' σ' H') ∧ ∀ x H', (Itr lo n).yld i H x H' → g x σ H' fun σ2 H2 => tb { D with nx := N, ct := N, bk := D.nx } σ2 H2) := by
  refine ⟨fun i m σ H => m = n - i ∧ i ≤ n ∧ Pv i σ H, ⟨n, by simp, Nat.zero_le _, h0⟩, ?_⟩
  rintro i m σ H ⟨rfl, hi, p⟩
  by_cases hlt : i < n
  · refine .inr ⟨hlt, Pv (i + 1), fun σ' H' p' => ⟨n - (i + 1), by omega, rfl, hlt, p'⟩, fun x H' y => ?_⟩
    obtain ⟨e, y⟩ := y
    subst e y
    exact hs i σ _ hlt p
  · have e : i = n := by omega
    subst e
    exact .inl ⟨Nat.le_refl _, hd σ H p⟩
abbrev R2 := V → V → Hp → VK → Prop
def OpR (X : Cx) (f : Value → Value → Sem Value) (r : R2) : Prop :=
  ∀ (pins : List (Addr × Obj)) (s : Shared) (σ : St) (H : Hp) (x y : V) (v u : Value) (Q : VK), Inv X pins σ H s → RelV x v → RelV y u → r x y H Q →
    wpAny (model X.prog X.w) X.A (f v u) (EP X pins σ Q) X.xe s
def UnR (X : Cx) (f : Value → Sem Value) (r : V → Hp → VK → Prop) : Prop :=
  ∀ (pins : List (Addr × Obj)) (s : Shared) (σ : St) (H : Hp) (x : V) (v : Value) (Q : VK), Inv X pins σ H s → RelV x v → r x H Q →
    wpAny (model X.prog X.w) X.A (f v) (EP X pins σ Q) X.xe s
def CallR (X : Cx) (f : Value) (r : List V → Hp → VK → Prop) : Prop :=
  ∀ (pins : List (Addr × Obj)) (s : Shared) (σ : St) (H : Hp) (xs : List V) (us : List Value) (Q : VK), Inv X pins σ H s → Vals xs us → r xs H Q →
    wpAny (model X.prog X.w) X.A (call f us) (EP X pins σ Q) X.xe s
def tOp (r : R2) (ta tb : TE) : TE := fun σ H Q => ta σ H fun x H1 => tb σ H1 fun y H2 => r x y H2 Q
def tUn (r : V → Hp → VK → Prop) (ta : TE) : TE := fun σ H Q => ta σ H fun x H1 => r x H1 Q
def rI (C : Int → Int → Prop) (g : Int → Int → V) : R2 := fun x y H Q => ∃ i j, x = .int i ∧ y = .int j ∧ C i j ∧ Q (g i j) H
def rI0 (g : Int → Int → V) : R2 := fun x y H Q => ∃ i j, x = .int i ∧ y = .int j ∧ Q (g i j) H
def rU (g : Int → V) : V → Hp → VK → Prop := fun x H Q => ∃ i, x = .int i ∧ Q (g i) H
section
variable {X : Cx} {a b c : Expr} {ta tb tc : TE} {pos : Pos}
theorem binT (ha : PE X a ta) (hb : PE X b tb) {pins : List (Addr × Obj)} {s : Shared} {σ : St} {H : Hp} {R : V → V → Hp → Prop} (I : Inv X pins σ H s)
    (h : ta σ H fun x H1 => tb σ H1 fun y H2 => R x y H2) {Q : Value → Shared → Prop} {f : Value → Value → Sem Value}
    (hf : ∀ v u s2 x y H2, Inv X pins σ H2 s2 → RelV x v → RelV y u → R x y H2 → wpAny (model X.prog X.w) X.A (f v u) Q X.xe s2) :
    wpAny (model X.prog X.w) X.A (eval a X.env) (fun v s₁ => wpAny (model X.prog X.w) X.A (eval b X.env) (fun u s₂ => wpAny (model X.prog X.w) X.A (f v u) Q X.xe s₂) X.xe s₁) X.xe s := by
  refine thn (ha pins s σ H _ I h) fun v s1 ⟨x, H1, I1, r1, q1⟩ => ?_
  refine thn (hb pins s1 σ H1 _ I1 q1) fun u s2 ⟨y, H2, I2, r2, q2⟩ => ?_
  exact hf v u s2 x y H2 I2 r1 r2 q2
theorem pe_op {op : Operator} {r : R2} (ho : OpR X (binaryOp op) r) (ha : PE X a ta) (hb : PE X b tb) : PE X (.BinOp a op b pos) (tOp r ta tb) := by
  intro pins s σ H Q I h
  exact wpAny_BinOp (binT ha hb I h fun v u s2 x y H2 I2 rx ry q => ho pins s2 σ H2 x y v u Q I2 rx ry q)
theorem pe_un {op : UnaryOp} {r : V → Hp → VK → Prop} (ho : UnR X (unaryOp op) r) (ha : PE X a ta) : PE X (.UnaryOp op a pos) (tUn r ta) := by
  intro pins s σ H Q I h
  exact UnaryOp_ (thn (ha pins s σ H _ I h) fun v s1 ⟨x, H1, I1, r1, q1⟩ => ho pins s1 σ H1 x v Q I1 r1 q1)
theorem opI {f : Value → Value → Sem Value} {C : Int → Int → Prop} {g : Int → Int → Int}
    (rule : ∀ (i j : Int) (t u : Tok) (s : Shared) (Q : Value → Shared → Prop) (E : Value → Shared → Prop), C i j → Q (.int (g i j) s.toks) { s with toks := s.toks + 1 } → wpAny (model X.prog X.w) X.A (f (.int i t) (.int j u)) Q E s) :
    OpR X f (rI C fun i j => .int (g i j)) := by
  intro pins s σ H x y v u Q I rx ry h
  obtain ⟨i, j, rfl, rfl, hc, q⟩ := h
  obtain ⟨t, rfl⟩ := rx
  obtain ⟨t', rfl⟩ := ry
  exact rule i j t t' s _ _ hc ⟨.int (g i j), H, I.tok _, ⟨_, rfl⟩, q⟩
theorem opI0 {f : Value → Value → Sem Value} {g : Int → Int → Int}
    (rule : ∀ (i j : Int) (t u : Tok) (s : Shared) (Q : Value → Shared → Prop) (E : Value → Shared → Prop), Q (.int (g i j) s.toks) { s with toks := s.toks + 1 } → wpAny (model X.prog X.w) X.A (f (.int i t) (.int j u)) Q E s) :
    OpR X f (rI0 fun i j => .int (g i j)) := by
  intro pins s σ H x y v u Q I rx ry h
  obtain ⟨i, j, rfl, rfl, q⟩ := h
  obtain ⟨t, rfl⟩ := rx
  obtain ⟨t', rfl⟩ := ry
  exact rule i j t t' s _ _ ⟨.int (g i j), H, I.tok _, ⟨_, rfl⟩, q⟩
theorem opB0 {f : Value → Value → Sem Value} {g : Int → Int → Bool}
    (rule : ∀ (i j : Int) (t u : Tok) (s : Shared) (Q : Value → Shared → Prop) (E : Value → Shared → Prop), Q (.bool (g i j)) s → wpAny (model X.prog X.w) X.A (f (.int i t) (.int j u)) Q E s) :
    OpR X f (rI0 fun i j => .bl (g i j)) := by
  intro pins s σ H x y v u Q I rx ry h
  obtain ⟨i, j, rfl, rfl, q⟩ := h
  obtain ⟨t, rfl⟩ := rx
  obtain ⟨t', rfl⟩ := ry
  exact rule i j t t' s _ _ ⟨.bl (g i j), H, I, rfl, q⟩
def CDiv (i j : Int) : Prop := 0 < j ∧ j < 1073741824
def CPow (i j : Int) : Prop := 0 ≤ j ∧ j ≤ 1000000 ∧ i.natAbs < 2 ^ 64
def CMul (i j : Int) : Prop := (-(2 ^ 64) < i ∧ i < 2 ^ 64) ∨ (-(2 ^ 64) < j ∧ j < 2 ^ 64)
theorem CMul.ok {i j : Int} (h : CMul i j) : IntMulOk i j := by
  rcases h with ⟨h1, h2⟩ | ⟨h1, h2⟩
  · exact .of_left (intBits_le_64 h1 h2)
  · exact .of_right (intBits_le_64 h1 h2)
theorem op_add : OpR X (binaryOp .Add) (rI0 fun i j => .int (i + j)) := opI0 fun _ _ _ _ _ _ _ q => add_int q
theorem op_sub : OpR X (binaryOp .Sub) (rI0 fun i j => .int (i - j)) := opI0 fun _ _ _ _ _ _ _ q => sub_int q
theorem op_mul : OpR X (binaryOp .Mult) (rI CMul fun i j => .int (i * j)) := opI fun _ _ _ _ _ _ _ hc q => mul_int q hc.ok
theorem op_fdiv : OpR X (binaryOp .FloorDiv) (rI CDiv fun i j => .int (i / j)) := opI fun i j _ _ _ _ _ hc q => by
  have h1 : (0 : Int) < j := hc.1
  have h2 : j < 1073741824 := hc.2
  exact floordiv_int (by omega) (by rw [Int.fdiv_eq_ediv_of_nonneg i (by omega)]; exact q) (.inl (PyProof.noPylong_small (by omega)))
theorem op_mod : OpR X (binaryOp .Mod) (rI (fun _ j => 0 < j) fun i j => .int (i % j)) := opI fun i j _ _ _ _ _ hc q => by
  have h1 : (0 : Int) < j := hc
  exact mod_int' (by omega) (by rw [Int.fmod_eq_emod_of_nonneg i (by omega)]; exact q)
theorem op_pow : OpR X (binaryOp .Pow) (rI CPow fun i j => .int (i ^ j.toNat)) := opI fun _ _ _ _ _ _ _ hc q => pow_int_small hc.1 hc.2.1 hc.2.2 q
theorem unI {f : Value → Sem Value} {g : Int → Int}
    (rule : ∀ (i : Int) (t : Tok) (s : Shared) (Q : Value → Shared → Prop) (E : Value → Shared → Prop), Q (.int (g i) s.toks) { s with toks := s.toks + 1 } → wpAny (model X.prog X.w) X.A (f (.int i t)) Q E s) :
    UnR X f (rU fun i => .int (g i)) := by
  intro pins s σ H x v Q I rx h
  obtain ⟨i, rfl, q⟩ := h
  obtain ⟨t, rfl⟩ := rx
  exact rule i t s _ _ ⟨.int (g i), H, I.tok _, ⟨_, rfl⟩, q⟩
theorem un_neg : UnR X (unaryOp .USub) (rU fun i => .int (-i)) := unI fun _ _ _ _ _ q => neg_int q
end
def scal : V → V → Bool
  | .non, .non => true | .non, .int _ => true | .int _, .non => true | .non, .bl _ => true | .bl _, .non => true | .non, .str _ => true | .str _, .non => true
  | .int _, .int _ => true | .bl _, .bl _ => true | .str _, .str _ => true | .byt _, .byt _ => true
  | .int _, .str _ => true | .str _, .int _ => true | .bl _, .str _ => true | .str _, .bl _ => true
  | _, _ => false
def rEq : R2 := fun x y H Q => scal x y = true ∧ Q (.bl (decide (x = y))) H
def rNe : R2 := fun x y H Q => scal x y = true ∧ Q (.bl (!decide (x = y))) H
theorem dec_int {i j : Int} : decide (V.int i = V.int j) = (i == j) := by
  rw [Bool.eq_iff_iff]
  simp
theorem dec_bl {i j : Bool} : decide (V.bl i = V.bl j) = (i == j) := by
  rw [Bool.eq_iff_iff]
  simp
theorem dec_str {i j : Str} : decide (V.str i = V.str j) = (i == j) := by
  rw [Bool.eq_iff_iff]
  simp
theorem dec_byt {i j : Array UInt8} : decide (V.byt i = V.byt j) = (i.toList == j.toList) := by
  rw [Bool.eq_iff_iff]
  cases i
  cases j
  simp
section
variable {X : Cx} {a b c : Expr} {ta tb tc : TE} {pos : Pos}
theorem fin_bl {pins : List (Addr × Obj)} {σ : St} {H : Hp} {s : Shared} {Q : VK} {k k' : Bool} (I : Inv X pins σ H s) (q : Q (.bl k) H) (e : k = k') : EP X pins σ Q (.bool k') s := by
  subst e
  exact ⟨.bl k, H, I, rfl, q⟩
theorem op_eq : OpR X (compareOp .Eq) rEq := by
  intro pins s σ H x y v u Q I rx ry h
  obtain ⟨hs, q⟩ := h
  cases x with
  | non =>
    cases rx
    cases y with
    | non => cases ry; exact PySem.EqNone.eq_none_none (fin_bl I q (by simp))
    | bl j => cases ry; exact PySem.EqNone.eq_none_bool (fin_bl I q (by simp))
    | int j => obtain ⟨t', rfl⟩ := ry; exact PySem.EqNone.eq_none_int (fin_bl I q (by simp))
    | str j => obtain ⟨t', rfl⟩ := ry; exact PySem.EqNone.eq_none_str (fin_bl I q (by simp))
    | _ => exact absurd (show false = true from hs) Bool.false_ne_true
  | bl i =>
    cases rx
    cases y with
    | non => cases ry; exact PySem.EqNone.eq_bool_none (fin_bl I q (by simp))
    | bl j => cases ry; exact eq_bool (fin_bl I q dec_bl)
    | str j => obtain ⟨t', rfl⟩ := ry; exact PySem.EqMixed.eq_bool_str (fin_bl I q (by simp))
    | _ => exact absurd (show false = true from hs) Bool.false_ne_true
  | int i =>
    obtain ⟨t, rfl⟩ := rx
    cases y with
    | non => cases ry; exact PySem.EqNone.eq_int_none (fin_bl I q (by simp))
    | int j => obtain ⟨t', rfl⟩ := ry; exact eq_int (fin_bl I q dec_int)
    | str j => obtain ⟨t', rfl⟩ := ry; exact PySem.EqMixed.eq_int_str (fin_bl I q (by simp))
    | _ => exact absurd (show false = true from hs) Bool.false_ne_true
  | str i =>
    obtain ⟨t, rfl⟩ := rx
    cases y with
    | non => cases ry; exact PySem.EqNone.eq_str_none (fin_bl I q (by simp))
    | bl j => cases ry; exact PySem.EqMixed.eq_str_bool (fin_bl I q (by simp))
    | int j => obtain ⟨t', rfl⟩ := ry; exact PySem.EqMixed.eq_str_int (fin_bl I q (by simp))
    | str j => obtain ⟨t', rfl⟩ := ry; exact eq_str (fin_bl I q dec_str)
    | _ => exact absurd (show false = true from hs) Bool.false_ne_true
  | byt i =>
    obtain ⟨t, rfl⟩ := rx
    cases y with
    | byt j => obtain ⟨t', rfl⟩ := ry; exact PySem.W.eq_bytes (fin_bl I q dec_byt)
    | _ => exact absurd (show false = true from hs) Bool.false_ne_true
  | _ => cases y <;> exact absurd (show false = true from hs) Bool.false_ne_true
theorem op_ne : OpR X (compareOp .NotEq) rNe := by
  intro pins s σ H x y v u Q I rx ry h
  obtain ⟨hs, q⟩ := h
  cases x with
  | non =>
    cases rx
    cases y with
    | non => cases ry; exact PySem.EqNone.ne_none_none (fin_bl I q (by simp))
    | bl j => cases ry; exact PySem.EqNone.ne_none_bool (fin_bl I q (by simp))
    | int j => obtain ⟨t', rfl⟩ := ry; exact PySem.EqNone.ne_none_int (fin_bl I q (by simp))
    | str j => obtain ⟨t', rfl⟩ := ry; exact PySem.EqNone.ne_none_str (fin_bl I q (by simp))
    | _ => exact absurd (show false = true from hs) Bool.false_ne_true
  | bl i =>
    cases rx
    cases y with
    | non => cases ry; exact PySem.EqNone.ne_bool_none (fin_bl I q (by simp))
    | bl j => cases ry; exact ne_bool (fin_bl I q (congrArg not dec_bl))
    | str j => obtain ⟨t', rfl⟩ := ry; exact PySem.EqMixed.ne_bool_str (fin_bl I q (by simp))
    | _ => exact absurd (show false = true from hs) Bool.false_ne_true
  | int i =>
    obtain ⟨t, rfl⟩ := rx
    cases y with
    | non => cases ry; exact PySem.EqNone.ne_int_none (fin_bl I q (by simp))
    | int j => obtain ⟨t', rfl⟩ := ry; exact ne_int (fin_bl I q (congrArg not dec_int))
    | str j => obtain ⟨t', rfl⟩ := ry; exact PySem.EqMixed.ne_int_str (fin_bl I q (by simp))
    | _ => exact absurd (show false = true from hs) Bool.false_ne_true
  | str i =>
    obtain ⟨t, rfl⟩ := rx
    cases y with
    | non => cases ry; exact PySem.EqNone.ne_str_none (fin_bl I q (by simp))
    | bl j => cases ry; exact PySem.EqMixed.ne_str_bool (fin_bl I q (by simp))
    | int j => obtain ⟨t', rfl⟩ := ry; exact PySem.EqMixed.ne_str_int (fin_bl I q (by simp))
    | str j => obtain ⟨t', rfl⟩ := ry; exact ne_str (fin_bl I q (congrArg not dec_str))
    | _ => exact absurd (show false = true from hs) Bool.false_ne_true
  | byt i =>
    obtain ⟨t, rfl⟩ := rx
    cases y with
    | byt j => obtain ⟨t', rfl⟩ := ry; exact PySem.W.ne_bytes (fin_bl I q (congrArg not dec_byt))
    | _ => exact absurd (show false = true from hs) Bool.false_ne_true
  | _ => cases y <;> exact absurd (show false = true from hs) Bool.false_ne_true
theorem op_lt : OpR X (compareOp .Lt) (rI0 fun i j => .bl (decide (i < j))) := opB0 fun _ _ _ _ _ _ _ q => lt_int q
theorem op_le : OpR X (compareOp .LtE) (rI0 fun i j => .bl (decide (i ≤ j))) := opB0 fun _ _ _ _ _ _ _ q => le_int q
theorem op_gt : OpR X (compareOp .Gt) (rI0 fun i j => .bl (decide (j < i))) := opB0 fun _ _ _ _ _ _ _ q => gt_int q
theorem op_in_str : OpR X (compareOp .In) (fun x y H Q => ∃ i j, x = .str i ∧ y = .str j ∧ Q (.bl (!(Builtin.Str.occurrences j i 0 j.length 1).isEmpty)) H) := by
  intro pins s σ H x y v u Q I rx ry h
  obtain ⟨i, j, rfl, rfl, q⟩ := h
  obtain ⟨t, rfl⟩ := rx
  obtain ⟨t', rfl⟩ := ry
  exact in_str (fin_bl I q rfl)
theorem nomark (b : Expr) {op : CmpOp} (h : op ≠ .In := by decide) (h2 : op ≠ .NotIn := by decide) : behindInMarks op b = false := by
  have e1 : (op == CmpOp.In) = false := by cases op <;> first | rfl | exact absurd rfl h
  have e2 : (op == CmpOp.NotIn) = false := by cases op <;> first | rfl | exact absurd rfl h2
  cases b <;> simp [behindInMarks, e1, e2]
theorem pe_cmpR {op : CmpOp} {r : R2} (ho : OpR X (compareOp op) r) (ha : PE X a ta) (hb : PE X b tb) (hm : behindInMarks op b = false) : PE X (.Compare a [op] [b] pos) (tOp r ta tb) := by
  intro pins s σ H Q I h
  exact wpAny_Compare1 (binT ha hb I h fun v u s2 x y H2 I2 rx ry q => ho pins s2 σ H2 x y v u Q I2 rx ry q) hm
def tTest (t : TE) : TT := fun σ H Q => t σ H fun x H' => ∃ k, x = .bl k ∧ Q k H'
theorem pt_cmpR {op : CmpOp} {r : R2} (ho : OpR X (compareOp op) r) (ha : PE X a ta) (hb : PE X b tb) (hm : behindInMarks op b = false) : PT X (.Compare a [op] [b] pos) (tTest (tOp r ta tb)) := by
  intro pins s σ H Q I h
  refine wpAny_isTrue_Compare1 (thn (ha pins s σ H _ I h) fun v s1 ⟨x, H1, I1, r1, q1⟩ => thn (hb pins s1 σ H1 _ I1 q1) fun u s2 ⟨y, H2, I2, r2, q2⟩ =>
    thn (ho pins s2 σ H2 x y v u _ I2 r1 r2 q2) fun c s3 ⟨z, H3, I3, r3, k, e, q3⟩ => ?_) hm
  subst e
  cases r3
  exact wpAny_truthy_bool ⟨H3, I3, q3⟩
def tChain (r r' : R2) (ta tb tc : TE) : TE := fun σ H Q => ta σ H fun x H1 => tb σ H1 fun y H2 => r x y H2 fun z H3 => ∃ k, z = .bl k ∧
  (if k = true then tc σ H3 fun w' H4 => r' y w' H4 Q else Q (.bl false) H3)
theorem pe_chain {op op' : CmpOp} {r r' : R2} (ho : OpR X (compareOp op) r) (ho' : OpR X (compareOp op') r') (ha : PE X a ta) (hb : PE X b tb) (hc : PE X c tc)
    (hm : lastMarks [op, op'] [b, c] = false := by with_unfolding_all rfl) : PE X (.Compare a [op, op'] [b, c] pos) (tChain r r' ta tb tc) := by
  intro pins s σ H Q I h
  refine Compare_chain (thn (ha pins s σ H _ I h) fun v s1 ⟨x, H1, I1, r1, q1⟩ => chain_link (thn (hb pins s1 σ H1 _ I1 q1) fun u s2 ⟨y, H2, I2, r2, q2⟩ =>
    thn (ho pins s2 σ H2 x y v u _ I2 r1 r2 q2) fun d s3 ⟨z, H3, I3, r3, k, e, q3⟩ => ?_)) hm
  subst e
  cases r3
  refine wpAny_truthy_bool ?_
  cases k with
  | false => exact ite_ff ⟨.bl false, H3, I3, rfl, q3⟩
  | true => exact ite_tt (chain_last (thn (hc pins s3 σ H3 _ I3 q3) fun w' s4 ⟨z', H4, I4, r4, q4⟩ => ho' pins s4 σ H4 y z' u w' Q I4 r2 r4 q4))
theorem pt_chain {op op' : CmpOp} {r r' : R2} (ho : OpR X (compareOp op) r) (ho' : OpR X (compareOp op') r') (ha : PE X a ta) (hb : PE X b tb) (hc : PE X c tc)
    (hm : lastMarks [op, op'] [b, c] = false := by with_unfolding_all rfl) : PT X (.Compare a [op, op'] [b, c] pos) (tTest (tChain r r' ta tb tc)) := by
  intro pins s σ H Q I h
  refine isTrue_chain (thn (ha pins s σ H _ I h) fun v s1 ⟨x, H1, I1, r1, q1⟩ => test_link (thn (hb pins s1 σ H1 _ I1 q1) fun u s2 ⟨y, H2, I2, r2, q2⟩ =>
    thn (ho pins s2 σ H2 x y v u _ I2 r1 r2 q2) fun d s3 ⟨z, H3, I3, r3, k, e, q3⟩ => ?_)) hm
  subst e
  cases r3
  refine wpAny_truthy_bool ?_
  cases k with
  | false =>
    obtain ⟨k', e', q'⟩ := q3
    cases e'
    exact ite_ff ⟨H3, I3, q'⟩
  | true =>
    refine ite_tt (test_last (thn (hc pins s3 σ H3 _ I3 q3) fun w' s4 ⟨z', H4, I4, r4, q4⟩ => thn (ho' pins s4 σ H4 y z' u w' _ I4 r2 r4 q4) fun d' s5 ⟨z2, H5, I5, r5, k2, e2, q5⟩ => ?_))
    subst e2
    cases r5
    exact wpAny_truthy_bool ⟨H5, I5, q5⟩
theorem line63 : (sizeLine : Nat) < 2 ^ 63 := by rw [sizeLine_eq]; decide
theorem vals1 {x : V} {us : List Value} (r : Vals [x] us) : ∃ u, us = [u] ∧ RelV x u := by
  cases r with
  | cons r1 r2 => cases r2; exact ⟨_, rfl, r1⟩
theorem vals2 {x y : V} {us : List Value} (r : Vals [x, y] us) : ∃ u w', us = [u, w'] ∧ RelV x u ∧ RelV y w' := by
  cases r with
  | cons r1 r2 =>
    cases r2 with
    | cons r3 r4 => cases r4; exact ⟨_, _, rfl, r1, r3⟩
theorem call_abs : CallR X (.builtin "abs") (fun xs H Q => ∃ i, xs = [.int i] ∧ Q (.int (if i < 0 then -i else i)) H) := by
  intro pins s σ H xs us Q I r h
  obtain ⟨i, rfl, q⟩ := h
  obtain ⟨u, rfl, t, rfl⟩ := vals1 r
  exact call_abs_int fun u tk => ⟨.int (if i < 0 then -i else i), H, I.tok _, ⟨_, rfl⟩, q⟩
theorem call_max2 (hc : X.calm = true) : CallR X (.builtin "max") (fun xs H Q => ∃ i j, xs = [.int i, .int j] ∧ Q (.int (if j > i then j else i)) H) := by
  intro pins s σ H xs us Q I r h
  obtain ⟨i, j, rfl, q⟩ := h
  obtain ⟨u, w', rfl, ⟨t, rfl⟩, ⟨t', rfl⟩⟩ := vals2 r
  refine max_two_ints (I.ok.hd hc) fun h' tk k => ⟨_, H, I.kept k, ?_, q⟩
  by_cases hj : j > i
  · rw [if_pos hj, if_pos hj]; exact ⟨_, rfl⟩
  · rw [if_neg hj, if_neg hj]; exact ⟨_, rfl⟩
theorem call_min2 (hc : X.calm = true) : CallR X (.builtin "min") (fun xs H Q => ∃ i j, xs = [.int i, .int j] ∧ Q (.int (if j < i then j else i)) H) := by
  intro pins s σ H xs us Q I r h
  obtain ⟨i, j, rfl, q⟩ := h
  obtain ⟨u, w', rfl, ⟨t, rfl⟩, ⟨t', rfl⟩⟩ := vals2 r
  refine min_two_ints (I.ok.hd hc) fun h' tk k => ⟨_, H, I.kept k, ?_, q⟩
  by_cases hj : j < i
  · rw [if_pos hj, if_pos hj]; exact ⟨_, rfl⟩
  · rw [if_neg hj, if_neg hj]; exact ⟨_, rfl⟩
end
structure ObjM (h : Heap) (x dx C : Addr) (mA : Str → Option Value) : Prop where
  obj : h.get? x = some (PySem.W.instObj C dx)
  ns : h.Ns1 dx mA
  ne : dx ≠ x
theorem lookIn_ns {h : Heap} {dx : Addr} {mA : Str → Option Value} (n : h.Ns1 dx mA) : ∃ od, h.get? dx = some od ∧ ∀ name, PySem.W.lookIn name od = some (mA name) := by
  obtain ⟨o, es, ep, ho, hd, hk, _, hm⟩ := n
  refine ⟨o, ho, fun name => ?_⟩
  have e := hm name
  unfold nsFind findBy at e
  rw [← Array.find?_toList] at e
  unfold PySem.W.lookIn
  rw [hd]
  dsimp only
  split
  · rename_i y q
    rw [q] at e
    exact congrArg some e
  · rename_i q
    rw [q] at e
    have a : es.toList.any (·.refKey) = false := by
      rw [List.any_eq_false]
      intro y hy
      obtain ⟨z, t, hkey⟩ := hk y (Array.mem_toList_iff.mp hy)
      simp [DictEntry.refKey, hkey]
    have a' : ¬ es.toList.any (·.refKey) = true := by rw [a]; exact Bool.false_ne_true
    rw [if_neg a']
    exact congrArg some e
theorem ObjM.look {h : Heap} {x dx C : Addr} {mA : Str → Option Value} (I : ObjM h x dx C mA) : ∃ od, PySem.W.InstAt h x (PySem.W.instObj C dx) C (some od) ∧ ∀ name, PySem.W.lookIn name od = some (mA name) :=
  let ⟨od, ho, hl⟩ := lookIn_ns I.ns
  ⟨od, ⟨I.obj, rfl, rfl, ho⟩, hl⟩
section
variable {prog : Program} {w : World} {A : Around} {E : Value → Shared → Prop} {s : Shared} {K : PySem.W.Frag} {x dx C f : Addr} {mA : Str → Option Value} {name : Str} {v : Value}
end
section
variable {P : Program} {w : World} {H H' : Hp} {h h' : Heap} {a C dx : Addr} {fs fs' : List (Str × V)}
theorem ins_get (hok : HOk P w H h) (e : H a = some (.ins C dx fs)) : ∃ mA, ObjM h a dx C mA ∧ (∀ f, RelO (fs.lookup f) (mA f)) ∧ PySem.Within mA (fs.map (·.1)) ∧ fs.length ≤ 1000 ∧ H dx = some (.own a) := by
  obtain ⟨d, z, ne, ob, mA, n, r, q⟩ := (show ObjOk P w H h a (.ins C dx fs) from hok a _ e)
  exact ⟨mA, ⟨ob, n, ne⟩, r, q, z, d⟩
end
structure Cls (K : PySem.W.Frag) (C : Addr) : Prop where
  pg : PySem.W.plainGet K C Str.empty = true
  hd : PySem.W.hasDictIn K C = true
  po : PySem.W.plainOver K C = true
  sa : PySem.W.findIn K (.ref C) "__setattr__" = some (some (.builtin "object.__setattr__"))
theorem Cls.get {K : PySem.W.Frag} {C : Addr} (c : Cls K C) (f : Str) : PySem.W.plainGet K C f = true := c.pg
section
variable {X : Cx} {pins : List (Addr × Obj)} {σ : St} {H : Hp} {s : Shared} {a C dx : Addr} {fs : List (Str × V)} {f : Str} {v : V} {A : Around} {E : Value → Shared → Prop}
end
section
variable {X : Cx} {o e value : Expr} {f : Str} {pos pos' tpos : Pos} {ta tv : TE}
end
section
variable {X : Cx} {pins : List (Addr × Obj)} {σ : St} {H : Hp} {s : Shared} {A : Around} {E : Value → Shared → Prop} {Q : Value → Shared → Prop} {c : Value} {b : Bool}
inductive TyOf (K : PySem.W.Frag) (H : Hp) : V → Value → Prop where
  | non : TyOf K H .non (.type "NoneType")
  | bl (x : Bool) : TyOf K H (.bl x) (.type "bool")
  | int (i : Int) : TyOf K H (.int i) (.type "int")
  | str (x : Str) : TyOf K H (.str x) (.type "str")
  | flt (x : UInt64) : TyOf K H (.flt x) (.type "float")
  | lst {a : Addr} {xs : List V} (e : H a = some (.lst xs)) : TyOf K H (.ref a) (.type "list")
  | frz {a : Addr} {o : Obj} {xs : List V} (e : H a = some (.frz o (.lst xs))) : TyOf K H (.ref a) (.type "list")
  | tup {a : Addr} {xs : List V} (e : H a = some (.tup xs)) : TyOf K H (.ref a) (.type "tuple")
  | dK {a : Addr} {kvs : List (Key × V)} (e : H a = some (.dK kvs)) : TyOf K H (.ref a) (.type "dict")
  | dT {a : Addr} {kvs : List (List Key × V)} (e : H a = some (.dT kvs)) : TyOf K H (.ref a) (.type "dict")
  | ins {a C dx : Addr} {fs : List (Str × V)} (e : H a = some (.ins C dx fs)) (cl : Cls K C) (ha : PySem.W.findIn K (.ref C) "__class__" = some (some (.builtin "object.__class__")))
      (hn : PySem.W.specialIn K (.builtin "object.__class__") "__get__" = some (some (.builtin "getset_descriptor.__get__"))) (htk : PySem.W.takesIn K (.builtin "object.__class__") = some true)
      (hm : PySem.W.mroIn K C (.type "object") = some true) : TyOf K H (.ref a) (.ref C)
theorem isinst_ok {x : V} {u t : Value} (I : Inv X pins σ H s) (rx : RelV x u) (ty : TyOf X.K H x t) (e : PySem.W.kitOne X.K t c = some b) (h : ∀ tk, Q (.bool b) { s with toks := tk }) :
    wpAny (model X.prog X.w) A (call (.builtin "isinstance") [u, c]) Q E s := by
  cases ty with
  | non => cases (show u = Value.none from rx); exact PySem.W.kia_one PySem.W.kitx_none I.kIn True.intro e (fun z => nomatch z) h
  | bl y => cases (show u = Value.bool y from rx); exact PySem.W.kia_one PySem.W.kitx_bool I.kIn True.intro e (fun z => nomatch z) h
  | int i => obtain ⟨t, q⟩ := (show ∃ t, u = Value.int i t from rx); cases q; exact PySem.W.kia_one PySem.W.kitx_int I.kIn True.intro e (fun z => nomatch z) h
  | str y => obtain ⟨t, q⟩ := (show ∃ t, u = Value.str y t from rx); cases q; exact PySem.W.kia_one PySem.W.kitx_str I.kIn True.intro e (fun z => nomatch z) h
  | flt y => obtain ⟨t, q⟩ := (show ∃ t, u = Value.float y t from rx); cases q; exact PySem.W.kia_one PySem.W.kitx_float I.kIn True.intro e (fun z => nomatch z) h
  | @lst a xs ea =>
    cases (show u = Value.ref a from rx)
    obtain ⟨_, _, n, _, h1⟩ := (show ObjOk X.prog X.w H s.heap a (.lst xs) from I.hok a _ ea)
    exact PySem.W.kia_one PySem.W.kitx_list I.kIn ⟨_, h1, rfl⟩ e (fun z => nomatch z) h
  | @frz a ob xs ea =>
    cases (show u = Value.ref a from rx)
    obtain ⟨_, _, _, n, _, h1⟩ := (show ObjOk X.prog X.w H s.heap a (.frz ob (.lst xs)) from I.hok a _ ea)
    exact PySem.W.kia_one PySem.W.kitx_list I.kIn ⟨_, h1, rfl⟩ e (fun z => nomatch z) h
  | @tup a xs ea =>
    cases (show u = Value.ref a from rx)
    obtain ⟨_, _, _, p⟩ := (show ObjOk X.prog X.w H s.heap a (.tup xs) from I.hok a _ ea)
    obtain ⟨o, h1, h2, _⟩ := p
    exact PySem.W.kia_one PySem.W.kitx_tuple I.kIn ⟨o, h1, h2⟩ e (fun z => nomatch z) h
  | @dK a kvs ea =>
    cases (show u = Value.ref a from rx)
    obtain ⟨_, _, vs, _, p⟩ := (show ObjOk X.prog X.w H s.heap a (.dK kvs) from I.hok a _ ea)
    obtain ⟨o, es, ep, h1, h2, _⟩ := p
    exact PySem.W.kia_one PySem.W.kitx_dict I.kIn ⟨o, h1, h2.1⟩ e (fun z => nomatch z) h
  | @dT a kvs ea =>
    cases (show u = Value.ref a from rx)
    obtain ⟨_, _, xs, _, o, es, ep, h1, h2, _⟩ := (show ObjOk X.prog X.w H s.heap a (.dT kvs) from I.hok a _ ea)
    exact PySem.W.kia_one PySem.W.kitx_dict I.kIn ⟨o, h1, h2.1⟩ e (fun z => nomatch z) h
  | @ins a C dx fs ea cl ha hn htk hm =>
    cases (show u = Value.ref a from rx)
    obtain ⟨mA, O, _⟩ := ins_get I.hok ea
    obtain ⟨od, J, _⟩ := O.look
    exact PySem.W.kia_one (PySem.W.kitx_own (cl.get _) cl.hd ha hn htk hm) I.kIn J e (fun z => nomatch z) h
end
structure Room (k : Nat) (A : Around) : Prop where
  hd : A.handled = none
  dp : A.depth + 3 * k + 5 < recursionLimit
  un : A.units + 16 * k + 200 < cLine
  gd : A.guards = some []
theorem Room.mono {j k : Nat} {A : Around} (r : Room k A) (h : j ≤ k) : Room j A := ⟨r.hd, by have := r.dp; omega, by have := r.un; omega, r.gd⟩
theorem Room.deeper {k : Nat} {A : Around} (r : Room (k + 1) A) (env : Env) : Room k (A.deeper env) :=
  ⟨r.hd, by have := r.dp; show A.depth + 1 + 3 * k + 5 < _; omega, by have := r.un; show A.units + 3 + 16 * k + 200 < _; omega, r.gd⟩
theorem Room.depth {k : Nat} {A : Around} (r : Room k A) : A.depth < recursionLimit := by have := r.dp; omega
theorem Room.units {k : Nat} {A : Around} (r : Room k A) : A.units + 64 < cLine := by have := r.un; omega
def tNil : TA := fun _ H Q => Q [] H
def tCons (ta : TE) (tr : TA) : TA := fun σ H Q => ta σ H fun x H1 => tr σ H1 fun xs H2 => Q (x :: xs) H2
section
variable {X : Cx} {e : Expr} {es : List Expr} {te : TE} {t : TA} {pos : Pos}
theorem pa_nil : PA X [] tNil := fun _ _ _ _ H Q I h => Calls.spliced_nil ⟨[], H, I, .nil, h⟩
theorem pa_cons (ha : PE X e te) (hr : PA X es t) (hs : starEach (e :: es) X.env = (false, eval e X.env) :: starEach es X.env := by rfl) : PA X (e :: es) (tCons te t) := by
  intro pos pins s σ H Q I h
  rw [hs]
  show wpAny _ _ (spliced ((false, eval e X.env) :: backTo pos (starEach es X.env))) _ _ s
  refine Calls.spliced_cons (thn (ha pins s σ H _ I h) fun u s1 ⟨x, H1, I1, r1, q1⟩ => ?_)
  exact thn (hr pos pins s1 σ H1 _ I1 q1) fun us s2 ⟨xs, H2, I2, r2, q2⟩ => ⟨x :: xs, H2, I2, .cons r1 r2, q2⟩
def tLst (t : TA) : TE := fun σ H Q => t σ H fun xs H1 => xs.length ≤ sizeLine ∧ ∀ p, H1 p = none → Q (.ref p) (upd H1 p (.lst xs))
theorem pe_lst (h : PA X es t) : PE X (.List es pos) (tLst t) := by
  intro pins s σ H Q I hq
  refine wpAny_List_spliced (thn (h pos pins s σ H _ I hq) fun us s1 ⟨xs, H1, I1, r, z, q⟩ => ⟨by rw [← r.length]; exact z, ?_⟩)
  have hf : H1 s1.heap.objs.size = none := I1.hok.fresh (Nat.le_refl _)
  refine ⟨.ref s1.heap.objs.size, upd H1 s1.heap.objs.size (.lst xs), I1.laid (t' := s1.toks) (fun b u e => Heap.get?_push_of_some _ e) (Nat.le_refl _) ?_, rfl, q _ hf⟩
  exact ⟨z, us, 0, r, Heap.get?_push_size _ rfl⟩
end
abbrev Sp := List V → Hp → VK → XK → Prop
abbrev CXT := List Env → Hp → Shared → XK → Value → Shared → Prop
structure Env0 (P : Program) (w : World) (K : PySem.W.Frag) (mg : Str → Option Value) (base : Heap) (A : Around) (outer : List Env) (s : Shared) (H : Hp) : Prop where
  frames : A.frames = some outer
  mod : Mod K mg base
  bs : ∀ b o, base.get? b = some o → s.heap.get? b = some o ∧ H b = none
  bsz : base.objs.size ≤ s.heap.objs.size
  funs : s.heap.FunFrames base outer
  frf : ∀ b ∈ frs outer, H b = none
  hok : HOk P w H s.heap
  bare : AllBare s.gens
def CE (outer : List Env) (P : Program) (w : World) (H : Hp) (s : Shared) (Q : VK) (u : Value) (s' : Shared) : Prop :=
  ∃ v H', s'.os = s.os ∧ AllBare s'.gens ∧ Un (frs outer) [] H H' s.heap s'.heap ∧ HOk P w H' s'.heap ∧ RelV v u ∧ Q v H'
def CR (CX : CXT) (outer : List Env) (P : Program) (w : World) (H : Hp) (s : Shared) (Q : VK) (E : XK) (r : Result) (s' : Shared) : Prop :=
  match r with
  | .ok (.ret u) => CE outer P w H s Q u s'
  | .ok _ => False
  | .error e => CX outer H s E e s'
structure FnOk (P : Program) (w : World) (K : PySem.W.Frag) (mg : Str → Option Value) (base : Heap) (CX : CXT) (k : Nat) (f : Addr) (fd : FuncData) (ps : List Str) (sp : Sp) : Prop where
  len : ∀ vs H Q E, sp vs H Q E → vs.length = ps.length
  run : ∀ (A : Around) (outer : List Env) (s : Shared) (H : Hp) (args : Args) (us : List Value) (vs : List V) (Q : VK) (E : XK), Room k A → Env0 P w K mg base A outer s H → BindsTo s fd args (ps.zip us) → Vals vs us → sp vs H Q E →
    codeAny (model P w) A (.call (.ref f) args) (CR CX outer P w H s Q E) s
theorem FnOk.mono {P : Program} {w : World} {K : PySem.W.Frag} {mg : Str → Option Value} {base : Heap} {CX : CXT} {j k : Nat} {f : Addr} {fd : FuncData} {ps : List Str} {sp : Sp} (F : FnOk P w K mg base CX j f fd ps sp) (h : j ≤ k) :
    FnOk P w K mg base CX k f fd ps sp := ⟨F.len, fun A outer s H args us vs Q E hr => F.run A outer s H args us vs Q E (hr.mono h)⟩
section
variable {X : Cx} {pins : List (Addr × Obj)} {σ : St} {H : Hp} {s s' : Shared}
theorem Inv.env0 (I : Inv X pins σ H s) : Env0 X.prog X.w X.K X.mg X.base X.A X.stack s H :=
  ⟨I.ok.frames, I.ok.mod, I.bs, Nat.le_trans I.ok.bsz I.sz, I.stack, I.stkFree, I.hok, I.bare⟩
theorem Inv.after {Q : VK} {u : Value} (I : Inv X pins σ H s) (h : CE X.stack X.prog X.w H s Q u s') : EP X pins σ Q u s' := by
  obtain ⟨v, H', os, bare, un, hok, r, q⟩ := h
  obtain ⟨hh, g, d, t, os'⟩ := s'
  obtain rfl : os' = s.os := os
  exact ⟨v, H', I.call (h' := hh) (g' := g) (d' := d) (t' := t) (ch := []) un hok bare (fun b z => absurd z (by simp)), r, q⟩
end
def tCall (sp : Sp) (dvs : List V) (E : XK) (t : TA) : TE := fun σ H Q => t σ H fun vs H1 => sp (vs ++ dvs) H1 Q E
def Binds (K : PySem.W.Frag) (fd : FuncData) (ps : List Str) (ds : List Value) : Prop :=
  ∀ (s : Shared) (us : List Value), K.In s.heap → (us ++ ds).length = ps.length → BindsTo s fd ⟨us, []⟩ (ps.zip (us ++ ds))
theorem Binds.all {K : PySem.W.Frag} {fd : FuncData} {ps : List Str} (h : ∀ us : List Value, us.length = ps.length → bindArgs fd ⟨us, []⟩ = pure (ps.zip us)) : Binds K fd ps [] := fun s us _ hl => by
  rw [List.append_nil] at hl ⊢
  exact .of_eq (h us hl)
def Passes (CX : CXT) (X : Cx) (E : XK) : Prop := ∀ (pins : List (Addr × Obj)) (σ : St) (H : Hp) (s : Shared) (e : Value) (s' : Shared), Inv X pins σ H s → CX X.stack H s E e s' → X.xe e s'
section
variable {X : Cx} {CX : CXT} {k : Nat} {f C : Addr} {fd : FuncData} {ps : List Str} {sp : Sp} {dvs : List V} {ds : List Value} {E : XK} {x m : Str} {p pos apos : Pos} {e o : Expr} {es : List Expr} {ta : TE} {t : TA}
theorem run_fn {pins : List (Addr × Obj)} {σ : St} {H : Hp} {s : Shared} {Q : VK} {us : List Value} {vs : List V} (F : FnOk X.prog X.w X.K X.mg X.base CX k f fd ps sp) (hr : Room k X.A) (hb : Binds X.K fd ps ds) (hd : Vals dvs ds) (hx : Passes CX X E)
    (I : Inv X pins σ H s) (r : Vals vs us) (h : sp (vs ++ dvs) H Q E) : wpAny (model X.prog X.w) X.A (call (.ref f) us) (EP X pins σ Q) X.xe s := by
  have r2 : Vals (vs ++ dvs) (us ++ ds) := r.append hd
  have hl : (us ++ ds).length = ps.length := by rw [← r2.length]; exact F.len _ _ _ _ h
  refine wpAny_call (codeAny_mono (F.run X.A X.stack s H ⟨us, []⟩ (us ++ ds) (vs ++ dvs) Q E hr I.env0 (hb s us I.kIn hl) r2 h) fun r s' hq => ?_)
  cases r with
  | error e => exact hx pins σ H s e s' I hq
  | ok fl =>
    cases fl with
    | ret u => exact I.after hq
    | next => exact False.elim hq
    | brk => exact False.elim hq
    | cont => exact False.elim hq
theorem pe_call (F : FnOk X.prog X.w X.K X.mg X.base CX k f fd ps sp) (hr : Room k X.A) (hg : Gl X x) (hm : X.mg x = some (.ref f)) (hk : PySem.W.keepIn X.K (.ref f) = true) (hb : Binds X.K fd ps ds) (hd : Vals dvs ds) (hx : Passes CX X E)
    (ha : PA X (e :: es) t) (hdb : (x == ("__debug__" : Str)) = false := by decide) (he : starEach (e :: es) X.env = (false, eval e X.env) :: starEach es X.env := by rfl) (hpl : (backTo pos (starEach es X.env)).any (·.1) = false := by rfl) :
    PE X (.Call (.Name x p) (e :: es) [] pos) (tCall sp dvs E t) := by
  intro pins s σ H Q I h
  refine wpAny_Call_Name_kw (ld_glob I hg hm ?_ hdb)
  refine PySem.W.callWith_K (h₀ := X.base) I.ok.mod.kin hk (thn (ha pos pins s σ H _ I h) fun us s1 ⟨vs, H1, I1, r, q⟩ => ⟨I1.kIn, ?_⟩) he hpl
  exact run_fn F hr hb hd hx I1 r q
end
section
variable {X : Cx} {CX : CXT} {k : Nat} {f C : Addr} {fd : FuncData} {ps ks : List Str} {sp : Sp} {E : XK} {x m : Str} {p pos apos kpos : Pos} {e o : Expr} {es : List Expr} {kws : List Keyword} {te ta : TE} {t tk : TA} {nm : Option Str}
variable {g : List Value → List Value → List Value} {gV : List V → List V → List V}
end
structure FnScope (N P : List Str) (sc : Scope) : Prop where
  kind : sc.kind = .function
  co : sc.isCoroutine = false
  gen : sc.isGenerator = false
  nd : N.Nodup
  pre : N.take P.length = P
  par : ∀ x ∈ P, sc.names.lookup x = some .local ∨ sc.names.lookup x = some .cell
  nofree : ∀ y ∈ sc.names, y.2 ≠ .free
theorem bindL_out {kindOf : Str → Option NameKind} {x : Str} : ∀ {binds : List (Str × Value)} {m : Str → Option Value}, (∀ v, (x, v) ∉ binds) → bindL kindOf binds m x = m x
  | [], _, _ => rfl
  | (n, v) :: r, m, h => by
    unfold bindL
    rw [bindL_out fun w hw => h w (List.mem_cons_of_mem _ hw)]
    split
    · have : x ≠ n := by rintro rfl; exact h v List.mem_cons_self
      simp [this]
    · rfl
theorem bindC_out {kindOf : Str → Option NameKind} {x : Str} : ∀ {binds : List (Str × Value)} {m : Str → Option Value}, (∀ v, (x, v) ∉ binds) → bindC kindOf binds m x = m x
  | [], _, _ => rfl
  | (n, v) :: r, m, h => by
    unfold bindC
    rw [bindC_out fun w hw => h w (List.mem_cons_of_mem _ hw)]
    split
    · rfl
    · have : x ≠ n := by rintro rfl; exact h v List.mem_cons_self
      simp [this]
theorem bindL_get {kindOf : Str → Option NameKind} {x : Str} {v : Value} : ∀ {P : List Str} {vs : List Value} {i : Nat} {m : Str → Option Value}, P.Nodup → P[i]? = some x → vs[i]? = some v → kindOf x = some .local →
    bindL kindOf (P.zip vs) m x = some v
  | [], _, _, _, _, h, _, _ => by simp at h
  | _ :: _, [], _, _, _, _, h, _ => by simp at h
  | p :: P, w :: vs, 0, m, nd, h1, h2, hk => by
    simp at h1 h2; subst h1; subst h2
    show bindL kindOf ((p, w) :: P.zip vs) m p = _
    unfold bindL
    rw [bindL_out fun v hv => (List.nodup_cons.mp nd).1 (List.of_mem_zip hv).1, if_pos hk]
    simp
  | p :: P, w :: vs, i + 1, m, nd, h1, h2, hk => by
    show bindL kindOf ((p, w) :: P.zip vs) m x = _
    unfold bindL
    exact bindL_get (i := i) (List.nodup_cons.mp nd).2 (by simpa using h1) (by simpa using h2) hk
theorem bindC_get {kindOf : Str → Option NameKind} {x : Str} {v : Value} : ∀ {P : List Str} {vs : List Value} {i : Nat} {m : Str → Option Value}, P.Nodup → P[i]? = some x → vs[i]? = some v → kindOf x ≠ some .local →
    bindC kindOf (P.zip vs) m x = some v
  | [], _, _, _, _, h, _, _ => by simp at h
  | _ :: _, [], _, _, _, _, h, _ => by simp at h
  | p :: P, w :: vs, 0, m, nd, h1, h2, hk => by
    simp at h1 h2; subst h1; subst h2
    show bindC kindOf ((p, w) :: P.zip vs) m p = _
    unfold bindC
    rw [bindC_out fun v hv => (List.nodup_cons.mp nd).1 (List.of_mem_zip hv).1, if_neg hk]
    simp
  | p :: P, w :: vs, i + 1, m, nd, h1, h2, hk => by
    show bindC kindOf ((p, w) :: P.zip vs) m x = _
    unfold bindC
    exact bindC_get (i := i) (List.nodup_cons.mp nd).2 (by simpa using h1) (by simpa using h2) hk
def start (N : List Str) (vs : List V) : St := vs.map some ++ List.replicate (N.length - vs.length) none
def cxOf (CX : CXT) (P : Program) (w : World) (K : PySem.W.Frag) (mg : Str → Option Value) (base : Heap) (N : List Str) (qual : Str) (scope : Scope) (f : Addr) (cd : Value) (A : Around) (outer : List Env) (s : Shared) (H : Hp) (E : XK) : Cx where
  prog := P
  w := w
  K := K
  mg := mg
  base := base
  A := A.deeper (envOfC qual scope s.heap.objs.size f cd)
  N := N
  s₀ := s
  H₀ := H
  env := envOfC qual scope s.heap.objs.size f cd
  outer := outer
  stack := envOfC qual scope s.heap.objs.size f cd :: outer
  ex := []
  calm := true
  fn := fun _ => true
  pn := []
  xe := fun e s' => wpAny (model P w) (A.deeper (envOfC qual scope s.heap.objs.size f cd)) (leaving (envOfC qual scope s.heap.objs.size f cd) e) (fun _ s'' => CX outer H s E e s'') (fun e' s'' => CX outer H s E e' s'') s'
theorem cell_has {sc : Scope} {n : Nat} {x : Str} (h : sc.names.lookup x = some .cell) : ∃ c, (cellsFrom n sc.names []).lookup x = some c := by
  have q := PySem.W.cellsFrom_some sc.names n [] (.inl h)
  exact Option.isSome_iff_exists.mp q
theorem inv_start {CX : CXT} {P : Program} {w : World} {K : PySem.W.Frag} {mg : Str → Option Value} {base : Heap} {N ps : List Str} {qual : Str} {scope : Scope} {f : Addr} {cd : Value} {A : Around} {outer : List Env} {s s1 : Shared} {H : Hp} {E : XK} {us : List Value} {vs : List V}
    (S : FnScope N ps scope) (hd : A.handled = none) (e0 : Env0 P w K mg base A outer s H) (hl : vs.length = ps.length) (r : Vals vs us)
    (x : InCallC s s.heap.objs.size (bindL (envOfC qual scope s.heap.objs.size f cd).kindOf (ps.zip us) fun _ => none) (cellsFrom (s.heap.objs.size + 1) scope.names []) (bindC (envOfC qual scope s.heap.objs.size f cd).kindOf (ps.zip us) fun _ => none) s1) :
    Inv (cxOf CX P w K mg base N qual scope f cd A outer s H E) [] (start N vs) H s1 := by
  have hpl : ps.length ≤ N.length := by have := congrArg List.length S.pre; rw [List.length_take] at this; omega
  obtain ⟨h1, tk, rfl, hk⟩ := x.done
  have noA : ∀ b : Addr, b ∉ (cxOf CX P w K mg base N qual scope f cd A outer s H E).ex := fun b z => absurd (show b ∈ ([] : List Addr) from z) (by simp)
  refine ⟨⟨e0.mod, S.kind, rfl, rfl, Nat.le_refl _, fun y z c h1 h2 => ?_, fun y hy => ?_, fun y c _ h => ?_, fun _ => hd, Around.frames_deeper e0.frames, .inr ⟨rfl, rfl⟩, fun b z => absurd z (noA b), e0.bs, e0.bsz, fun b _ _ => noA b, fun b z => absurd z (noA b), e0.funs, e0.frf⟩,
    rfl, e0.bare, Un.kept hk, ⟨_, x.toInCall.ns, fun i y v h1 h2 h3 => ?_⟩, fun y c h => ⟨_, x.cell y c h⟩, e0.hok.fresh (Nat.le_refl _), fun y c h => ?_, fun p hp => absurd (show p ∈ ([] : List (Addr × Obj)) from hp) (by simp), e0.hok.kept hk, ?_⟩
  · exact name_of_addr x.apart (PySem.mem_of_lookup h1) (PySem.mem_of_lookup h2)
  · have hy : scope.names.lookup y = some .cell ∨ scope.names.lookup y = some .free := hy
    rcases hy with hy | hy
    · exact cell_has hy
    · exact absurd rfl (S.nofree _ (PySem.mem_of_lookup hy))
  · exact Nat.le_of_lt (x.above y c (PySem.mem_of_lookup h))
  · have hi : i < vs.length := by
      unfold start at h2
      by_cases hi : i < vs.length
      · exact hi
      · rw [List.getElem?_append_right (by simpa using hi)] at h2
        rw [List.getElem?_replicate] at h2
        split at h2 <;> cases h2
    have ha : vs[i]? = some v := by
      unfold start at h2
      rw [List.getElem?_append_left (by simpa using hi), List.getElem?_map] at h2
      cases e : vs[i]? with
      | none => rw [e] at h2; cases h2
      | some a => rw [e] at h2; cases h2; rfl
    obtain ⟨u, hu, rv⟩ := r.get ha
    have hp : ps[i]? = some y := by
      rw [← S.pre, List.getElem?_take_of_lt (by omega)]; exact h1
    have ndP : ps.Nodup := by rw [← S.pre]; exact S.nd.sublist (List.take_sublist _ _)
    refine ⟨u, rv, ?_⟩
    rcases S.par y (List.mem_of_getElem? hp) with k | k
    · exact .inl ⟨k, bindL_get ndP hp hu k⟩
    · obtain ⟨c, e⟩ := cell_has (n := s.heap.objs.size + 1) k
      refine .inr ⟨.inl k, c, e, ?_⟩
      have q := x.cell y c e
      rw [bindC_get ndP hp hu (by show scope.names.lookup y ≠ _; rw [k]; decide)] at q
      exact q
  · exact e0.hok.fresh (Nat.le_of_lt (x.above y c (PySem.mem_of_lookup h)))
  · unfold start
    show _ = N.length
    rw [List.length_append, List.length_map, List.length_replicate]
    omega
theorem fn_of {CX : CXT} {P : Program} {w : World} {K : PySem.W.Frag} {mg : Str → Option Value} {base : Heap} {k : Nat} {f : Addr} {name qual : Str} {params : Arguments} {body : List Stmt} {scope : Scope} {dV kV doc pm cdv ct oc : Value} {an od : Option Addr}
    {osl : Array (Option Value)} {N ps : List Str} {sp : Sp} (lk : K.lookup f = some ⟨oc, od, .func (PySem.W.fnOf name qual params body scope dV kV doc pm an cdv ct), osl⟩) (hcd : PySem.W.codeIn K cdv qual = true) (S : FnScope N ps scope)
    (len : ∀ vs H Q E, sp vs H Q E → vs.length = ps.length)
    (hbody : ∀ (A : Around) (outer : List Env) (s : Shared) (H : Hp) (vs : List V) (Q : VK) (E : XK), Room k (A.deeper (envOfC qual scope s.heap.objs.size f cdv)) → sp vs H Q E →
      ∃ t, PSs (cxOf CX P w K mg base N qual scope f cdv A outer s H E) body t ∧ t { nx := fun _ H' => Q .non H', rt := Q } (start N vs) H) :
    FnOk P w K mg base CX (k + 1) f (PySem.W.fnOf name qual params body scope dV kV doc pm an cdv ct) ps sp := by
  refine ⟨len, fun A outer s H args us vs Q E hr e0 hb r hsp => ?_⟩
  have hl := len _ _ _ _ hsp
  have KX : K.In s.heap := e0.mod.kin.keeps fun b o e => (e0.bs b o e).1
  have lim : s.heap.NoLimit := e0.mod.nolimit.keeps fun b o e => (e0.bs b o e).1
  have hkind : ∀ y ∈ ps.zip us, scope.names.lookup y.1 = some .local ∨ (scope.names.lookup y.1 = some .cell ∧ ((cellsFrom (s.heap.objs.size + 1) scope.names []).lookup y.1).isSome = true) := fun ⟨n, v⟩ hy => by
    rcases S.par n (List.of_mem_zip hy).1 with q | q
    · exact .inl q
    · exact .inr ⟨q, PySem.W.cellsFrom_some _ _ _ (.inl q)⟩
  refine codeAny_call_function hr.depth (KX _ _ lk) rfl S.co S.gen rfl (PySem.W.codeRec_of KX hcd) (hb _ _ _ _ ?_)
  refine wpAny_newFunctionEnv_cells S.kind hkind fun env he s1 x => ?_
  subst he
  refine ⟨lim.keeps x.toInCall.keep, codeAny_func ?_⟩
  obtain ⟨t, ht, hq⟩ := hbody A outer s H vs Q E (hr.deeper _) hsp
  have I : Inv (cxOf CX P w K mg base N qual scope f cdv A outer s H E) [] (start N vs) H s1 := inv_start S hr.hd e0 hl r x
  refine wpAny_mono (ht [] s1 (start N vs) H _ I hq) (fun fl s' hs => ?_) fun e s' hs => hs
  have fin : ∀ {σ' : St} {H' : Hp} {v : V} {u : Value}, Inv (cxOf CX P w K mg base N qual scope f cdv A outer s H E) [] σ' H' s' → RelV v u → Q v H' → CE outer P w H s Q u s' :=
    fun {σ' H' v u} J rv q => ⟨v, H', J.os, J.bare, J.base, J.hok, rv, q⟩
  cases fl with
  | ret u =>
    obtain ⟨v, σ', H', J, rv, q⟩ := hs
    exact fin J rv q
  | next =>
    obtain ⟨σ', H', J, q⟩ := hs
    exact fin (v := V.non) (u := Value.none) J rfl q
  | brk =>
    obtain ⟨_, _, _, q⟩ := hs
    exact False.elim q
  | cont =>
    obtain ⟨_, _, _, q⟩ := hs
    exact False.elim q
section
variable {X : Cx} {x : Str} {p pos : Pos} {e : Expr} {es : List Expr} {t : TA} {id T : String} {r : List V → Hp → VK → Prop}
def tCB (r : List V → Hp → VK → Prop) (t : TA) : TE := fun σ H Q => t σ H fun vs H1 => r vs H1 Q
theorem pe_callB (hc : CallR X (.builtin id) r) (hg : Gl X x) (hm : X.mg x = none) (hv : bootBuiltins x = some (.builtin id)) (ha : PA X (e :: es) t) (hn : x ≠ "__name__" := by decide) (hdb : (x == ("__debug__" : Str)) = false := by decide)
    (he : starEach (e :: es) X.env = (false, eval e X.env) :: starEach es X.env := by rfl) (hpl : (backTo pos (starEach es X.env)).any (·.1) = false := by rfl) : PE X (.Call (.Name x p) (e :: es) [] pos) (tCB r t) := by
  intro pins s σ H Q I h
  refine wpAny_Call_Name_kw (ld_blt I hg hm hv ?_ hn hdb)
  exact PyProof.Rows.callWith_builtin1 (thn (ha pos pins s σ H _ I h) fun us s1 ⟨vs, H1, I1, r1, q1⟩ => hc pins s1 σ H1 vs us Q I1 r1 q1) he hpl
theorem pe_callTy (hc : CallR X (.type T) r) (hg : Gl X x) (hm : X.mg x = none) (hv : bootBuiltins x = some (.type T)) (ha : PA X (e :: es) t) (hn : x ≠ "__name__" := by decide) (hdb : (x == ("__debug__" : Str)) = false := by decide)
    (he : starEach (e :: es) X.env = (false, eval e X.env) :: starEach es X.env := by rfl) (hpl : (backTo pos (starEach es X.env)).any (·.1) = false := by rfl) : PE X (.Call (.Name x p) (e :: es) [] pos) (tCB r t) := by
  intro pins s σ H Q I h
  refine wpAny_Call_Name_kw (ld_blt I hg hm hv ?_ hn hdb)
  exact PyProof.Rows.callWith_type1 (thn (ha pos pins s σ H _ I h) fun us s1 ⟨vs, H1, I1, r1, q1⟩ => hc pins s1 σ H1 vs us Q I1 r1 q1) he hpl
end
end L2
namespace HT
open PySem PyProof.Rows
section
open PySem.SeqAt
open PySem.AutoSeq1 (wpAny_loadPart')
open PySem.MeetsSeq PySem.MeetsSeq2 PySem.MeetsSeq3
end
section
variable {prog : Program} {w : World} {A : Around} {E : Value → Shared → Prop} {s : Shared}
end
end HT
namespace L2
open PySem PySem.Spec PyProof.Rows
abbrev TO := St → Hp → (Option Int → Hp → Prop) → Prop
def PO (X : Cx) (e : Option Expr) (t : TO) : Prop :=
  ∀ (pins : List (Addr × Obj)) (s : Shared) (σ : St) (H : Hp) (Q : Option Int → Hp → Prop), Inv X pins σ H s → t σ H Q →
    wpAny (model X.prog X.w) X.A (evalPart e X.env) (fun u s' => ∃ o H', Inv X pins σ H' s' ∧ IsPart u o ∧ Q o H') X.xe s
def tNoPart : TO := fun _ H Q => Q none H
def tPart (t : TE) : TO := fun σ H Q => t σ H fun x H1 => ∃ i, x = .int i ∧ Q (some i) H1
section
variable {X : Cx} {e : Expr} {te : TE} {lo hi : Option Expr} {tl th : TO} {pos p2 : Pos}
theorem po_none : PO X none tNoPart := by
  intro pins s σ H Q I h
  rw [evalPart_none]
  exact wpAny_pure ⟨none, H, I, .none, h⟩
theorem po_some (h : PE X e te) : PO X (some e) (tPart te) := by
  intro pins s σ H Q I hw
  rw [evalPart_some]
  refine thn (h pins s σ H _ I hw) fun u s1 ⟨x, H1, I1, r1, q1⟩ => ?_
  obtain ⟨i, rfl, q⟩ := q1
  obtain ⟨t, rfl⟩ := r1
  exact ⟨some i, H1, I1, .int i t, q⟩
def SlR (X : Cx) (r : V → Option Int → Option Int → Hp → VK → Prop) : Prop :=
  ∀ (pins : List (Addr × Obj)) (s : Shared) (σ : St) (H : Hp) (x : V) (v vl vu : Value) (lo hi : Option Int) (sl : Addr) (Q : VK), Inv X pins σ H s → RelV x v → s.heap.IsSliceOf sl vl vu .none → IsPart vl lo → IsPart vu hi → r x lo hi H Q →
    ∃ T id, typeLookup (.type T) "__getitem__" = pure (some (.builtin id)) ∧ s.TypeIs v T ∧ wpAny (model X.prog X.w) X.A (getItem v (.ref sl)) (EP X pins σ Q) X.xe s
def tSl (r : V → Option Int → Option Int → Hp → VK → Prop) (te : TE) (tl th : TO) : TE := fun σ H Q => te σ H fun x H1 => tl σ H1 fun l H2 => th σ H2 fun u H3 => r x l u H3 Q
theorem pe_slice {r : V → Option Int → Option Int → Hp → VK → Prop} (hr : SlR X r) (he : PE X e te) (hl : PO X lo tl) (hu : PO X hi th) : PE X (.Subscript e (.Slice lo hi none p2) pos) (tSl r te tl th) := by
  intro pins s σ H Q I h
  refine Subscript_ (thn (he pins s σ H _ I h) fun v s1 ⟨x, H1, I1, r1, q1⟩ => ?_)
  refine wpAny_Slice (thn (hl pins s1 σ H1 _ I1 q1) fun vl s2 ⟨l, H2, I2, pl, q2⟩ => thn (hu pins s2 σ H2 _ I2 q2) fun vu s3 ⟨u, H3, I3, pu, q3⟩ => ?_)
  rw [evalPart_none]
  refine wpAny_pure ?_
  have I4 : Inv X pins σ H3 { s3 with heap := s3.heap.push { cls := .type "slice", data := .fields #[vl, vu, .none] } } := I3.kept (t' := s3.toks) fun b ob q => Heap.get?_push_of_some _ q
  obtain ⟨T, id, hT, ht, hg⟩ := hr pins { s3 with heap := s3.heap.push { cls := .type "slice", data := .fields #[vl, vu, .none] } } σ H3 x v vl vu l u s3.heap.objs.size Q I4 r1 (Heap.IsSliceOf.new ..) pl pu q3
  show wpAny (model X.prog X.w) X.A (subscriptTail e (.Slice lo hi none p2) v (.ref s3.heap.objs.size)) (EP X pins σ Q) X.xe { s3 with heap := s3.heap.push { cls := .type "slice", data := .fields #[vl, vu, .none] } }
  exact tail_any (ops := [.ref s3.heap.objs.size, v]) ht hT hg (by with_unfolding_all rfl)
end
def ixN (n : Nat) (i : Int) : Option Nat := if 0 ≤ i then (if i < n then some i.toNat else none) else if -(n : Int) ≤ i then some (i + n).toNat else none
def atI {α : Type} (xs : List α) (i : Int) : Option α := (ixN xs.length i).bind fun j => xs[j]?
theorem ixN_seq {n : Nat} {i : Int} {j : Nat} (h : ixN n i = some j) : seqIndex? i n = some j ∧ j < n ∧ -(n : Int) ≤ i ∧ i < n := by
  unfold ixN at h
  by_cases h0 : 0 ≤ i
  · rw [if_pos h0] at h
    by_cases h1 : i < n
    · rw [if_pos h1] at h
      have e : i.toNat = j := Option.some.inj h
      exact ⟨by rw [seqIndex_of h0 h1, e], by omega, by omega, h1⟩
    · rw [if_neg h1] at h; cases h
  · rw [if_neg h0] at h
    by_cases h1 : -(n : Int) ≤ i
    · rw [if_pos h1] at h
      have e : (i + n).toNat = j := Option.some.inj h
      exact ⟨by rw [seqIndex_neg (by omega) h1, e], by omega, h1, by omega⟩
    · rw [if_neg h1] at h; cases h
theorem atI_get {α : Type} {xs : List α} {i : Int} {v : α} (h : atI xs i = some v) : ∃ j, seqIndex? i xs.length = some j ∧ xs[j]? = some v ∧ j < xs.length ∧ -(xs.length : Int) ≤ i ∧ i < xs.length := by
  unfold atI at h
  cases e : ixN xs.length i with
  | none => rw [e] at h; cases h
  | some j =>
    rw [e] at h
    obtain ⟨h1, h2, h3, h4⟩ := ixN_seq e
    exact ⟨j, h1, h, h2, h3, h4⟩
theorem atI_nat {α : Type} {xs : List α} {j : Nat} {v : α} (h : xs[j]? = some v) : atI xs (j : Int) = some v := by
  have hj : j < xs.length := (List.getElem?_eq_some_iff.mp h).1
  have e : ixN xs.length (j : Int) = some j := by
    unfold ixN
    rw [if_pos (by omega), if_pos (by omega)]; simp
  unfold atI; rw [e]; exact h
def PlainIx (b : Expr) : Prop := ∀ o i, subscripted b false o i = operate [o, i] (getItem o i)
def IxR (X : Cx) (r : R2) : Prop :=
  ∀ (value slice : Expr) (pins : List (Addr × Obj)) (s : Shared) (σ : St) (H : Hp) (x y : V) (v u : Value) (Q : VK), Inv X pins σ H s → RelV x v → RelV y u → r x y H Q →
    subscripted slice false v u = operate [v, u] (getItem v u) → wpAny (model X.prog X.w) X.A (subscriptTail value slice v u) (EP X pins σ Q) X.xe s
def MtR (X : Cx) (id : String) (r : V → List V → Hp → VK → Prop) : Prop :=
  ∀ (pins : List (Addr × Obj)) (s : Shared) (σ : St) (H : Hp) (x : V) (xs : List V) (v : Value) (us : List Value) (Q : VK), Inv X pins σ H s → RelV x v → Vals xs us → r x xs H Q →
    wpAny (model X.prog X.w) X.A (call (.builtin id) (v :: us)) (EP X pins σ Q) X.xe s
section
variable {X : Cx} {a b : Expr} {ta tb : TE} {pos : Pos}
theorem pe_ix {r : R2} (hr : IxR X r) (ha : PE X a ta) (hb : PE X b tb) (hs : PlainIx b) : PE X (.Subscript a b pos) (tOp r ta tb) := by
  intro pins s σ H Q I h
  exact Subscript_ (binT ha hb I h fun v u s2 x y H2 I2 rx ry q => hr a b pins s2 σ H2 x y v u Q I2 rx ry q (hs _ _))
def rIxL (K : PySem.W.Frag) : R2 := fun x y H Q => ∃ p xs i v, x = .ref p ∧ y = .int i ∧ SqL K H p xs ∧ atI xs i = some v ∧ Q v H
def rIxS : R2 := fun x y H Q => ∃ z i c, x = .str z ∧ y = .int i ∧ z.length ≤ sizeLine ∧ atI z.cps.toList i = some c ∧ Q (.str ⟨#[c]⟩) H
theorem ix_list : IxR X (rIxL X.K) := by
  intro value slice pins s σ H x y v u Q I rx ry h hs
  obtain ⟨p, xs, i, z, rfl, rfl, hq, he, q⟩ := h
  cases rx
  obtain ⟨t, rfl⟩ := ry
  obtain ⟨its, r, pl, hz⟩ := I.list hq
  obtain ⟨j, h1, h2, h3, h4, h5⟩ := atI_get he
  obtain ⟨w, ew, rw'⟩ := r.get h2
  have hl := r.length
  have hn := line63
  have fin : EP X pins σ Q w s := ⟨z, H, I, rw', q⟩
  by_cases h0 : 0 ≤ i
  · have hj : i.toNat = j := by
      rw [seqIndex_of h0 h5] at h1
      exact Option.some.inj h1
    exact item_listR pl.isList h0 (by omega) (by rw [hj]; simpa using ew) fin hs
  · have hj : (i + (its.toArray.size : Int)).toNat = j := by
      rw [seqIndex_neg (by omega) h4] at h1
      rw [List.size_toArray, ← hl]
      exact Option.some.inj h1
    exact subscriptTail_builtinR (x := w) pl.isList.typeIs slot_list_getitem.lookup
      (wpAny_getItem_list_neg (Q := fun r s' => r = w ∧ EP X pins σ Q r s') pl.isList (by omega) (by rw [List.size_toArray] <;> omega) (by omega) (by rw [hj]; simpa using ew) ⟨rfl, fin⟩) hs
theorem ix_str : IxR X rIxS := by
  intro value slice pins s σ H x y v u Q I rx ry h hs
  obtain ⟨z, i, c, rfl, rfl, hz, he, q⟩ := h
  obtain ⟨t, rfl⟩ := rx
  obtain ⟨t', rfl⟩ := ry
  obtain ⟨j, h1, h2, h3, h4, h5⟩ := atI_get he
  have hl : z.cps.toList.length = z.length := by simp [Str.length]
  rw [hl] at h1 h4 h5
  have hn := line63
  exact tail_any (typeIs_str s z t) slot_str_getitem.lookup (getItem_str (c := c) (by
    have e1 : decide (i < -(2 ^ 63 : Int)) = false := decide_eq_false (by omega)
    have e2 : decide (i ≥ 2 ^ 63) = false := decide_eq_false (by omega)
    rw [e1, e2, Bool.or_false]) (by rw [h1]; simpa using h2) ⟨.str ⟨#[c]⟩, H, I.tok _, ⟨_, rfl⟩, q⟩) hs
theorem Inv.lst {pins : List (Addr × Obj)} {σ : St} {H : Hp} {s : Shared} {p : Addr} {xs : List V} (I : Inv X pins σ H s) (h : H p = some (.lst xs)) :
    ∃ (its : List Value) (n : Nat), Vals xs its ∧ s.heap.get? p = some { cls := .type "list", data := .seq its.toArray n } ∧ xs.length ≤ sizeLine := by
  obtain ⟨z, its, n, r, e⟩ := I.hok p _ h
  exact ⟨its, n, r, e, z⟩
theorem call_len_seq : CallR X (.builtin "len") (fun xs H Q => ∃ p ys, xs = [.ref p] ∧ (SqL X.K H p ys ∨ SqT X.K H p ys) ∧ Q (.int ys.length) H) := by
  intro pins s σ H xs us Q I r h
  obtain ⟨p, ys, rfl, hq, q⟩ := h
  obtain ⟨u, rfl, rx⟩ := vals1 r
  cases rx
  have hn := line63
  rcases hq with hq | hq
  · obtain ⟨its, r', pl, hz⟩ := I.list hq
    have hlen := r'.length
    exact Calls.call_len_list pl.isList (by simp only [List.size_toArray] <;> omega) ⟨.int ys.length, H, I.tok _, ⟨s.toks + 1, by rw [List.size_toArray, hlen]⟩, q⟩
  · obtain ⟨its, r', pl, hz⟩ := I.tuple hq
    have hlen := r'.length
    exact len_tuple pl (by simp only [List.size_toArray] <;> omega) ⟨.int ys.length, H, I.tok _, ⟨s.toks + 1, by rw [List.size_toArray, hlen]⟩, q⟩
theorem call_list_of : CallR X (.type "list") (fun xs H Q => ∃ p ys, xs = [.ref p] ∧ (SqL X.K H p ys ∨ SqT X.K H p ys) ∧ ∀ l, H l = none → Q (.ref l) (upd H l (.lst ys))) := by
  intro pins s σ H xs us Q I r h
  obtain ⟨p, ys, rfl, hq, q⟩ := h
  obtain ⟨u, rfl, rx⟩ := vals1 r
  cases rx
  have fin : ∀ (its : List Value), Vals ys its → ys.length ≤ sizeLine → ∀ (h' : Heap) (c' : Nat), (∀ b o', s.heap.get? b = some o' → h'.get? b = some o') →
      h'.get? s.heap.objs.size = some { cls := .type "list", dict := none, data := .seq its.toArray c', slots := #[] } → EP X pins σ Q (.ref s.heap.objs.size) { s with heap := h' } := fun its r' hz h' c' kp e =>
    ⟨.ref s.heap.objs.size, _, I.laid (t' := s.toks) kp (Nat.le_refl _) (show ObjOk X.prog X.w _ h' _ (.lst ys) from ⟨hz, its, c', r', e⟩), rfl, q _ (I.hok.fresh (Nat.le_refl _))⟩
  rcases hq with hq | hq
  · obtain ⟨its, r', pl, hz⟩ := I.list hq
    have hlen := r'.length
    obtain ⟨o, ho, hc, n, hd⟩ := pl.isList
    exact call_list_seq p (.inl rfl) ho hc hd (fun h' c' kp e => fin its r' hz h' c' kp e) (by simp only [List.size_toArray] <;> omega)
  · obtain ⟨its, r', pl, hz⟩ := I.tuple hq
    have hlen := r'.length
    obtain ⟨o, ho, hc, n, hd⟩ := pl
    exact call_list_seq p (.inr rfl) ho hc hd (fun h' c' kp e => fin its r' hz h' c' kp e) (by simp only [List.size_toArray] <;> omega)
def tyV (K : PySem.W.Frag) (T : String) (x : V) (H : Hp) : Prop := match x with
  | .str _ => T = "str"
  | .int _ => T = "int"
  | .ref p => (T = "list" ∧ ∃ xs, SqL K H p xs) ∨ (T = "tuple" ∧ ∃ o, K.lookup p = some o ∧ o.cls = .type "tuple" ∧ o.dict = none) ∨
      (T = "dict" ∧ ((∃ kvs, H p = some (.dK kvs)) ∨ ∃ kvs, H p = some (.dT kvs))) ∨ (T = "set" ∧ ∃ S n, H p = some (.set S n))
  | _ => False
theorem tyV_is {pins : List (Addr × Obj)} {σ : St} {H : Hp} {s : Shared} {T : String} {x : V} {v : Value} (I : Inv X pins σ H s) (r : RelV x v) (ty : tyV X.K T x H) :
    s.TypeIs v T ∧ ∀ a, v = .ref a → ∃ ob, s.heap.get? a = some ob ∧ ob.dict = none := by
  cases x with
  | str z =>
    obtain ⟨t, rfl⟩ := r
    cases (show T = "str" from ty)
    exact ⟨typeIs_str s z t, fun _ e => nomatch e⟩
  | int i =>
    obtain ⟨t, rfl⟩ := r
    cases (show T = "int" from ty)
    exact ⟨typeIs_int s i t, fun _ e => nomatch e⟩
  | ref p =>
    cases r
    rcases ty with ⟨rfl, xs, hq⟩ | ⟨rfl, o, hk, hc, hd⟩ | ⟨rfl, hk⟩ | ⟨rfl, S, n, hk⟩
    · obtain ⟨its, _, pl, _⟩ := I.list hq
      refine ⟨pl.isList.typeIs, fun a e => ?_⟩
      cases e
      obtain ⟨o, n, e, c, hd, _⟩ := pl
      exact ⟨o, e, hd⟩
    · refine ⟨⟨o, I.kIn p o hk, hc⟩, fun a e => ?_⟩
      cases e
      exact ⟨o, I.kIn _ o hk, hd⟩
    · have z : ∃ o, s.heap.get? p = some o ∧ o.ExactDict := by
        rcases hk with ⟨kvs, hk⟩ | ⟨kvs, hk⟩
        · obtain ⟨_, _, _, _, o, _, _, e, ex, _⟩ := I.hok p _ hk
          exact ⟨o, e, ex⟩
        · obtain ⟨_, _, _, _, o, _, _, e, ex, _⟩ := I.hok p _ hk
          exact ⟨o, e, ex⟩
      obtain ⟨o, e, ex⟩ := z
      refine ⟨⟨o, e, ex.1⟩, fun a e2 => ?_⟩
      cases e2
      exact ⟨o, e, ex.2.1⟩
    · obtain ⟨o, _, _, _, e, ex, _⟩ := I.hok p _ hk
      refine ⟨⟨o, e, ex.1⟩, fun a e2 => ?_⟩
      cases e2
      exact ⟨o, e, ex.2.1⟩
  | _ => exact False.elim ty
def tBM (K : PySem.W.Frag) (T : String) (r : V → List V → Hp → VK → Prop) (to : TE) (t : TA) : TE := fun σ H Q => to σ H fun x H1 => tyV K T x H1 ∧ t σ H1 fun xs H2 => r x xs H2 Q
variable {o e : Expr} {es : List Expr} {to : TE} {t : TA} {name : Str} {apos cpos : Pos} {T id : String} {r : V → List V → Hp → VK → Prop}
theorem pe_bm (pa : PlainAttrs T) (slot : Slot T name id) (hty : typeOf (.builtin id) = pure (.type "method_descriptor")) (hm : MtR X id r) (ho : PE X o to) (ha : PA X (e :: es) t)
    (hbase : attributeBase o name X.env (eval o X.env) = eval o X.env := by rfl)
    (hfew : ((backTo cpos (starEach (e :: es) X.env)).all (fun x => !x.1) && (backToKw cpos (keywordEach [] X.env)).all (fun x => x.1.isSome)
      && decide ((e :: es).length + ([] : List Keyword).length + (if ([] : List Keyword).isEmpty then 0 else 1) < 30)) = true := by rfl)
    (hline : (apos.endLine == cpos.line) = true := by rfl) (hs : starEach (e :: es) X.env = (false, eval e X.env) :: starEach es X.env := by rfl) (hplain : (backTo cpos (starEach es X.env)).any (·.1) = false := by rfl) :
    PE X (.Call (.Attribute o name apos) (e :: es) [] cpos) (tBM X.K T r to t) := by
  intro pins s σ H Q I h
  refine wpAny_Call_method_late hbase hfew hline rfl (thn (ho pins s σ H _ I h) fun v s1 ⟨x, H1, I1, r1, ty, q1⟩ => ?_)
  obtain ⟨h1, h2⟩ := tyV_is I1 r1 ty
  refine ⟨T, id, pa, slot, hty, h1, h2, ?_⟩
  have hA := ha cpos pins s1 σ H1 _ I1 q1
  rw [hs] at hA ⊢
  refine Calls.callWith_builtin (by show (false || (backTo cpos (starEach es X.env)).any (·.1)) = false; rw [hplain] <;> rfl) (Calls.evalArgs_plain ?_)
  exact thn hA fun us s2 ⟨vs, H2, I2, r2, q2⟩ => hm pins s2 σ H2 x vs v us Q I2 r1 r2 q2
end
def MtM (X : Cx) (id : String) (r : V → List V → Hp → VK → Prop) : Prop :=
  ∀ (pins : List (Addr × Obj)) (s : Shared) (σ : St) (H : Hp) (x : V) (xs : List V) (v : Value) (us : List Value) (Q : VK), Inv X pins σ H s → RelV x v → Vals xs us → r x xs H Q →
    wpAny (model X.prog X.w) X.A (call (.builtin id) (v :: us)) (EP X pins σ Q) X.xe s
theorem Vals.one : ∀ {x : V} {us : List Value}, Vals [x] us → ∃ u, us = [u] ∧ RelV x u
  | _, _, .cons r .nil => ⟨_, rfl, r⟩
theorem Vals.two : ∀ {x y : V} {us : List Value}, Vals [x, y] us → ∃ u v, us = [u, v] ∧ RelV x u ∧ RelV y v
  | _, _, _, .cons r (.cons q .nil) => ⟨_, _, rfl, r, q⟩
section
variable {X : Cx} {pins : List (Addr × Obj)} {σ : St} {H : Hp} {s : Shared} {l b : Addr} {xs ys zs : List V}
theorem Inv.lset {its its' : List Value} {n : Nat} {f : Array Value → Array Value} {t' : Nat} (I : Inv X pins σ H s) (hH : H l = some (.lst xs))
    (e : s.heap.get? l = some { cls := .type "list", data := .seq its.toArray n }) (hf : f its.toArray = its'.toArray) (hv : Vals ys its') (hz : ys.length ≤ sizeLine) :
    Inv X pins σ (upd H l (.lst ys)) { s with heap := s.heap.update l (Obj.mapSeq f), toks := t' } := by
  have q := PySem.IsL.update e f
  rw [hf] at q
  refine I.write (x := l) (e := l) (by rw [hH]; exact trivial) (.inl rfl) (fun b' u hb hu => (Heap.get?_update_other s.heap (Obj.mapSeq f) (Ne.symm hb)).trans hu) ⟨_, q⟩ ?_
  exact ⟨hz, its', _, hv, q⟩
theorem Inv.lnew {its : List Value} {t' : Nat} (I : Inv X pins σ H s) (hv : Vals ys its) (hz : ys.length ≤ sizeLine) :
    Inv X pins σ (upd H s.heap.objs.size (.lst ys)) { s with heap := s.heap.push { cls := .type "list", data := .seq its.toArray }, toks := t' } :=
  I.laid (fun _ _ q => Heap.get?_push_of_some _ q) (Nat.le_refl _) ⟨hz, its, 0, hv, Heap.get?_push_size _ rfl⟩
theorem Inv.fresh (I : Inv X pins σ H s) : H s.heap.objs.size = none := I.hok.fresh (Nat.le_refl _)
theorem Inv.lstM (I : Inv X pins σ H s) (hH : H l = some (.lst xs)) : xs.length ≤ sizeLine ∧ ∃ (its : List Value) (n : Nat), Vals xs its ∧ xs.length = its.length ∧ s.heap.get? l = some { cls := .type "list", data := .seq its.toArray n } := by
  obtain ⟨z, its, n, r, e⟩ := I.hok l _ hH
  exact ⟨z, its, n, r, r.length, e⟩
end
section
variable {X : Cx}
def rAppend : V → List V → Hp → VK → Prop := fun x vs H Q => ∃ l xs y, x = .ref l ∧ vs = [y] ∧ H l = some (.lst xs) ∧ xs.length < sizeLine ∧ Q .non (upd H l (.lst (xs ++ [y])))
theorem mt_append : MtM X "list.append" rAppend := by
  intro pins s σ H x vs v us Q I rx rv h
  obtain ⟨l, xs, y, rfl, rfl, hH, hz, q⟩ := h
  cases rx
  obtain ⟨u, rfl, ru⟩ := rv.one
  obtain ⟨z, its, n, r, hl, e⟩ := I.lstM hH
  refine call_meets F.slot_list_append ⟨_, e, rfl⟩ F.entry_list_append (F.args_list_append_2 _ _) (PySem.list_append l its.toArray n u (by rw [List.size_toArray]; omega)) ⟨e, ?_⟩
  refine ⟨.non, _, I.lset (its' := its ++ [u]) hH e (by simp) (r.append (.cons ru .nil)) ?_, rfl, q⟩
  rw [List.length_append, List.length_singleton]
  omega
end
section
variable {prog : Program} {w : World} {A : Around} {E : Value → Shared → Prop} {s : Shared}
end
section
variable {X : Cx}
end
end L2
namespace Att
open PySem PySem.W PySem.Calls PyProof.Rows
theorem ints_of_wellAll {P : Params} {h : Heap} : ∀ (ns : List Int) (vs : List Value), WellAll P h vs (ns.map WData.int) → IntsAre vs ns := by
  intro ns
  induction ns with
  | nil =>
    intro vs w
    rw [List.map_nil] at w
    cases w
    exact .nil
  | cons n ns ih =>
    intro vs w
    rw [List.map_cons] at w
    cases w with
    | cons a b =>
      cases a
      exact .cons _ _ (ih _ b)
theorem script_of {l : OpenLaw} {n : Nat} (hn : l.most = some n) {P : Params} {h : Heap} {args : List WData} {vals : List Value}
    (hpre : l.row.toRowW.claim.pre args = true) (hwl : WellAll P h vals args) :
    ∃ a vs ns, vals = [Value.ref a] ∧ args = [WData.list (ns.map WData.int)] ∧ h.get? a = some { cls := .type "list", data := .seq vs.toArray } ∧ IntsAre vs ns ∧ ns.length ≤ n := by
  have hsh : WShape.hasAll [] args [.list .int] = true := (pre_splitW hpre).1
  have hc : l.pre.holds [] { args := args } = true := (pre_splitW hpre).2
  obtain ⟨d, r, rfl, h1, h2⟩ := hasAllW_cons hsh
  obtain rfl := hasAllW_nil h2
  obtain ⟨xs, rfl, h3⟩ := hasW_list h1
  obtain ⟨ns, rfl⟩ := items_int h3
  have hlen : ns.length ≤ n := by
    unfold OpenLaw.pre at hc
    have h4 : (WTm.not (.lt (.lit (.int (n : Int))) (.len (.arg 0)))).holds [] { args := [.list (ns.map .int)] } = true := by
      have h4 := (holds_andW hc).1
      rw [hn] at h4
      exact h4
    have h5 := condW_of h4 (w_not (w_lt w_lit (w_len_list (w_arg rfl))))
    rw [List.length_map] at h5
    refine Nat.le_of_not_lt fun q => ?_
    have q' : (n : Int) < ((ns.length : Nat) : Int) := by omega
    first
      | (rw [decide_eq_true q'] at h5; exact absurd h5 (by decide))
      | (simp at h5; omega)
  cases hwl with
  | cons w1 w2 =>
    cases w2
    cases w1 with
    | list ho hall => exact ⟨_, _, ns, rfl, rfl, ho, ints_of_wellAll ns _ hall, hlen⟩
theorem post_true (l : OpenLaw) (args : List WData) : l.row.toRowW.claim.post args (.bool true) args = true :=
  postW_of (r := l.row.toRowW) (X := (true == true))
    (show WShape.has [] (.bool true) .bool = true by first | rfl | decide | simp [WShape.has, WShape.arms, WShape.armsAll])
    (show (WTm.eq .res (.lit (.bool true))).value [] { args := args, res := some (.bool true), after := args } = some (.bool (true == true)) from w_eq_bool (w_res rfl) w_lit) rfl
theorem attach_call {l : OpenLaw} {n : Nat} {q : Program} {loose : List Str} {XP : (Str → Option Value) → Heap → Prop} {YP : World → Heap → Prop} {d : DefRec}
    (hn : l.most = some n) (hdf : d.params.defaults = [])
    (call : ∀ (w : World) (s₀ s₁ : Shared) (mg mb : Str → Option Value) (fa : Addr) (o : Obj) (pm cd doc : Value) (a : Addr) (vs : List Value) (ns : List Int),
      Ground q loose [] XP w s₀ mg mb s₁.heap → YP w s₁.heap →
      s₁.heap.get? fa = some o → o.data = .func (docDef d.name d.params d.body d.scope pm cd doc) → s₁.heap.CodeRec cd d.name → mg d.name = some (.ref fa) →
      s₁.heap.get? a = some { cls := .type "list", data := .seq vs.toArray } → IntsAre vs ns → ns.length ≤ n → s₁.gens = #[] →
      codeAny (model l.prog w) callerA (.call (.ref fa) ⟨[.ref a], []⟩) (fun r s' => r = .ok (.ret (.bool true)) ∧ OldK s₁.heap s'.heap ∧ s'.os = s₁.os ∧ AllBare s'.gens) s₁) :
    WalkO q loose XP YP l.row.toRowW d [] (fun f vs => PySem.call f vs) := by
  intro w s₀ s₁ mg mb G Y fa o pm cd doc dV kV ho hd hcd hD hmg hg args vals as hpre hlay hrd hwl hlo
  obtain rfl : dV = .none := Dflts.none hD hdf
  obtain rfl : kV = .none := Dflts.noKw hD
  obtain ⟨a, vs, ns, rfl, rfl, hobj, hints, hlen⟩ := script_of hn hpre hwl
  refine enter_call (codeAny_mono (call w s₀ s₁ mg mb fa o pm cd doc a vs ns G Y ho (fd_plain hd) hcd hmg hobj hints hlen hg) fun r s' hq => ?_)
  obtain ⟨rfl, h2, h3, h4⟩ := hq
  exact ⟨.inl ⟨.bool true, .bool true, [], rfl, fun _ => rfl, .bool true, post_true l _, fun _ => ⟨List.Pairwise.nil, fun _ hm => (nomatch hm)⟩⟩, h2, h3, h4⟩
section
variable {prog : Program} {w : World} {A : Around} {E : Value → Shared → Prop} {s : Shared} {K : Frag}
end
end Att
namespace L2
open PySem PySem.Spec PyProof.Rows
theorem vals_ints : ∀ {vs : List Value} {ns : List Int}, IntsAre vs ns → Vals (ns.map V.int) vs
  | _, _, .nil => .nil
  | _, _, .cons n t h => .cons ⟨t, rfl⟩ (vals_ints h)
def Only (H : Hp) : Prop := ∀ b, H b = none ∨ ∃ o xs, H b = some (.frz o (.lst xs))
theorem law_call {P : Program} {w : World} {K : PySem.W.Frag} {mg mb : Str → Option Value} {CX : CXT} {k : Nat} {fa a : Addr} {fd : FuncData} {x : Str} {sp : Sp} {s₁ : Shared} {vs : List Value} {ns : List Int}
    (KX : K.In s₁.heap) (hns : s₁.heap.Ns mainGlobals mg) (hb : s₁.heap.Ns builtinsNs mb) (hbb : ∀ x : Str, x ≠ "__name__" → mb x = bootBuiltins x) (hlim : s₁.heap.NoLimit) (hg : s₁.gens = #[])
    (ha : s₁.heap.get? a = some { cls := .type "list", data := .seq vs.toArray }) (hi : IntsAre vs ns) (hl : ns.length ≤ sizeLine) (hr : Room k callerA)
    (F : ∀ base : Heap, K.In base → base.Ns mainGlobals mg → FnOk P w K mg base CX k fa fd [x] sp) (hbind : ∀ (s : Shared) (u : Value), BindsTo s fd ⟨[u], []⟩ [(x, u)])
    (hsp : ∀ H : Hp, Only H → SqL K H a (ns.map V.int) → sp [.ref a] H (fun v _ => v = .bl true) fun _ _ _ => False)
    (hCX : ∀ H e s', CX [] H s₁ (fun _ _ _ => False) e s' → False) :
    codeAny (model P w) callerA (.call (.ref fa) ⟨[.ref a], []⟩) (fun r s' => r = .ok (.ret (.bool true)) ∧ OldK s₁.heap s'.heap ∧ s'.os = s₁.os ∧ AllBare s'.gens) s₁ := by
  have rv := vals_ints hi
  have lenV := hi.length
  have core : ∀ H : Hp, Only H → SqL K H a (ns.map V.int) → HOk P w H s₁.heap → (∀ b, H b ≠ none → b = a) → (H a ≠ none → K.lookup a = none) →
      codeAny (model P w) callerA (.call (.ref fa) ⟨[.ref a], []⟩) (fun r s' => r = .ok (.ret (.bool true)) ∧ OldK s₁.heap s'.heap ∧ s'.os = s₁.os ∧ AllBare s'.gens) s₁ := by
    intro H hO hS hok hA hK
    have base_of : ∀ {b : Addr} {o : Obj}, s₁.heap.get? b = some o → H b = none → (hidT s₁.heap H).get? b = some o := fun e n => hidT_get e n
    have noA : ∀ {b : Addr} {o : Obj} {es : Array DictEntry} {ep : Nat}, s₁.heap.get? b = some o → o.data = .dict es ep → H b = none := fun {b o es ep} e d => by
      cases q : H b with
      | none => rfl
      | some u =>
        have e' : b = a := hA b (by rw [q]; simp)
        subst e'
        rw [ha] at e; cases e
        have d' : Data.seq vs.toArray _ = Data.dict es ep := d
        cases d'
    have nsK : ∀ {b : Addr} {m : Str → Option Value}, s₁.heap.Ns b m → (hidT s₁.heap H).Ns b m := fun {b m} ⟨o, es, ep, e, d, r⟩ => ⟨o, es, ep, base_of e (noA e d), d, r⟩
    have hKb : K.In (hidT s₁.heap H) := fun b o e => base_of (KX b o e) (by
      cases q : H b with
      | none => rfl
      | some u =>
        have e' : b = a := hA b (by rw [q]; simp)
        subst e'
        rw [hK (by rw [q]; simp)] at e; cases e)
    have hM : Mod K mg (hidT s₁.heap H) := ⟨hKb, nsK hns, ⟨mb, nsK hb, hbb⟩, let ⟨mc, h1, h2⟩ := hlim; ⟨mc, nsK h1, h2⟩⟩
    have e0 : Env0 P w K mg (hidT s₁.heap H) callerA [] s₁ H := ⟨rfl, hM, fun b o e => of_hidT e, Nat.le_of_eq (hidT_size _ _), trivial, fun b hb => absurd (show b ∈ ([] : List Addr) from hb) (by simp), hok, .of_eq hg⟩
    refine codeAny_mono ((F _ hKb (nsK hns)).run callerA [] s₁ H ⟨[.ref a], []⟩ [.ref a] [.ref a] _ _ hr e0 (hbind s₁ (.ref a)) (.cons rfl .nil) (hsp H hO hS)) fun r s' h => ?_
    cases r with
    | error e => exact (hCX H e s' h).elim
    | ok fl =>
      cases fl with
      | next => exact False.elim h
      | brk => exact False.elim h
      | cont => exact False.elim h
      | ret u =>
        obtain ⟨v, H', os, bare, un, hok', r', q⟩ := h
        have q' : v = .bl true := q
        subst q'
        obtain rfl : u = Value.bool true := r'
        refine ⟨rfl, OldK.of_keep fun b o e => ?_, os, bare⟩
        cases q : H b with
        | none => exact un.keep b o e q (by intro z; exact absurd (show b ∈ ([] : List Addr) from z) (by simp)) (by simp)
        | some u =>
          rcases hO b with z | ⟨ob, xs, z⟩
          · rw [q] at z; cases z
          · have z2 := un.frzs b ob _ z
            obtain ⟨e1, _⟩ := hok b _ z
            obtain ⟨e2, _⟩ := hok' b _ z2
            rw [e] at e1; cases e1
            exact e2
  cases hk : K.lookup a with
  | some o =>
    have e := KX a o hk
    rw [ha] at e
    cases e
    refine core (fun _ => none) (fun _ => .inl rfl) (.inr ⟨_, vs.toArray, _, hk, rfl, rfl, rfl, by rw [List.size_toArray, lenV]; exact hl, by simpa using rv⟩) (fun b u z => by have z' : (none : Option HO) = some u := z; cases z') (fun b z => absurd rfl z) fun z => absurd rfl z
  | none =>
    refine core (fun b => if b = a then some (.frz { cls := .type "list", data := .seq vs.toArray } (.lst (ns.map V.int))) else none) (fun b => ?_) (.inl (.inr ⟨{ cls := .type "list", data := .seq vs.toArray }, if_pos rfl⟩)) (fun b u z => ?_) (fun b z => ?_) fun _ => hk
    · by_cases hb : b = a
      · exact .inr ⟨_, _, if_pos hb⟩
      · exact .inl (if_neg hb)
    · by_cases hb : b = a
      · have z' := (if_pos hb).symm.trans z
        cases z'
        subst hb
        exact ⟨ha, by rw [List.length_map]; exact hl, vs, _, rv, ha⟩
      · have z' := (if_neg hb).symm.trans z
        cases z'
    · by_cases hb : b = a
      · exact hb
      · exact absurd (if_neg hb) z
theorem walk_of {l : PySem.W.OpenLaw} {n k : Nat} {q : Program} {loose : List Str} {XP : (Str → Option Value) → Heap → Prop} {YP : World → Heap → Prop} {d : DefRec} {K : Params → PySem.W.Frag} {CX : World → CXT} {sp : World → Sp} {x : Str}
    (hn : l.most = some n) (hn2 : n ≤ sizeLine) (hdf : d.params.defaults = []) (hr : Room k callerA)
    (hY : ∀ (w : World) (h : Heap), YP w h → (K w.params).In h)
    (F : ∀ (w : World) (mg : Str → Option Value) (fa : Addr) (h : Heap), (K w.params).In h → h.Ns mainGlobals mg → mg d.name = some (.ref fa) →
      ∃ fd : FuncData, (∀ (s : Shared) (u : Value), BindsTo s fd ⟨[u], []⟩ [(x, u)]) ∧
        ∀ base : Heap, (K w.params).In base → base.Ns mainGlobals mg → FnOk l.prog w (K w.params) mg base (CX w) k fa fd [x] (sp w))
    (hsp : ∀ (w : World) (H : Hp) (a : Addr) (ns : List Int), ns.length ≤ n → Only H → SqL (K w.params) H a (ns.map V.int) → sp w [.ref a] H (fun v _ => v = .bl true) fun _ _ _ => False)
    (hCX : ∀ (w : World) (H : Hp) (s : Shared) (e : Value) (s' : Shared), CX w [] H s (fun _ _ _ => False) e s' → False) :
    PySem.W.WalkO q loose XP YP l.row.toRowW d [] (fun f vs => PySem.call f vs) := by
  refine Att.attach_call hn hdf fun w s₀ s₁ mg mb fa o pm cd doc a vs ns G Y ho hd hcd hmg hobj hints hlen hg => ?_
  have KX := hY w _ Y
  obtain ⟨fd, hb, hF⟩ := F w mg fa _ KX G.T.g hmg
  exact law_call KX G.T.g G.T.b G.T.builtins G.T.nolimit hg hobj hints (Nat.le_trans hlen hn2) hr hF hb (fun H hO hS => hsp w H a ns hlen hO hS) fun H e s' => hCX w H s₁ e s'
def defArgs (s : Stmt) : Arguments := match s with
  | .FunctionDef _ a _ _ _ _ _ _ _ _ => a
  | _ => { posonlyargs := [], args := [], vararg := none, kwonlyargs := [], kw_defaults := [], kwarg := none, defaults := [] }
def defBody (s : Stmt) : List Stmt := match s with
  | .FunctionDef _ _ b _ _ _ _ _ _ _ => b
  | _ => []
def defScope (s : Stmt) : Scope := match s with
  | .FunctionDef _ _ _ _ _ _ sc _ _ _ => sc
  | _ => { kind := .function, names := [], isGenerator := false, isCoroutine := false }
abbrev CX0 : CXT := fun _ _ _ _ _ _ => False
abbrev E0 : XK := fun _ _ _ => False
theorem pass0 {X : Cx} : Passes CX0 X E0 := fun _ _ _ _ _ _ _ h => h.elim
structure Fun (K : PySem.W.Frag) (x qual : Str) (st : Stmt) (f : Addr) (fd : FuncData) : Prop where
  ex : ∃ (oc : Value) (od : Option Addr) (kV doc pm : Value) (an : Option Addr) (cdv ct : Value) (osl : Array (Option Value)),
    fd = PySem.W.fnOf x qual (defArgs st) (defBody st) (defScope st) .none kV doc pm an cdv ct ∧ K.lookup f = some ⟨oc, od, .func fd, osl⟩ ∧ PySem.W.codeIn K cdv qual = true
  kp : PySem.W.keepIn K (.ref f) = true
section
variable {P : Program} {w : World} {K : PySem.W.Frag} {mg : Str → Option Value} {base : Heap}
theorem Fun.ok {x qual : Str} {st : Stmt} {f : Addr} {fd : FuncData} {N ps : List Str} {k : Nat} {sp : Sp} (F : Fun K x qual st f fd) (S : FnScope N ps (defScope st)) (len : ∀ vs H Q E, sp vs H Q E → vs.length = ps.length)
    (hbody : ∀ (cdv : Value) (A : Around) (outer : List Env) (s : Shared) (H : Hp) (vs : List V) (Q : VK) (E : XK), Room k (A.deeper (envOfC qual (defScope st) s.heap.objs.size f cdv)) → sp vs H Q E →
      ∃ t, PSs (cxOf CX0 P w K mg base N qual (defScope st) f cdv A outer s H E).nox (defBody st) t ∧ t { nx := fun _ H' => Q .non H', rt := Q } (start N vs) H) : FnOk P w K mg base CX0 (k + 1) f fd ps sp := by
  obtain ⟨oc, od, kV, doc, pm, an, cdv, ct, osl, rfl, lk, hcd⟩ := F.ex
  refine fn_of lk hcd S len fun A outer s H vs Q E hr hsp => ?_
  obtain ⟨t, h, q⟩ := hbody cdv A outer s H vs Q E hr hsp
  exact ⟨t, h.nox, q⟩
theorem Fun.binds {x qual : Str} {st : Stmt} {f : Addr} {fd : FuncData} {ps : List Str} (F : Fun K x qual st f fd)
    (h : ∀ (kV doc pm : Value) (an : Option Addr) (cdv ct : Value) (us : List Value), us.length = ps.length → bindArgs (PySem.W.fnOf x qual (defArgs st) (defBody st) (defScope st) .none kV doc pm an cdv ct) ⟨us, []⟩ = pure (ps.zip us)) : Binds K fd ps [] := by
  obtain ⟨oc, od, kV, doc, pm, an, cdv, ct, osl, rfl, lk, hcd⟩ := F.ex
  exact .all (h kV doc pm an cdv ct)
theorem fun_mk {x qual : Str} {st : Stmt} {f : Addr} {oc : Value} {od an : Option Addr} {osl : Array (Option Value)} {kV doc pm cdv ct : Value} (l : K.lookup f = some ⟨oc, od, .func (PySem.W.fnOf x qual (defArgs st) (defBody st) (defScope st) .none kV doc pm an cdv ct), osl⟩)
    (c : PySem.W.codeIn K cdv qual = true) (k : PySem.W.keepIn K (.ref f) = true) : Fun K x qual st f (PySem.W.fnOf x qual (defArgs st) (defBody st) (defScope st) .none kV doc pm an cdv ct) := ⟨⟨oc, od, kV, doc, pm, an, cdv, ct, osl, rfl, l, c⟩, k⟩
end
theorem small1000 {n : Nat} (h : n ≤ 1000) : n < sizeLine := Nat.lt_of_le_of_lt h (by decide)
section
variable {X : Cx}
theorem pv (i : Nat) {x : Str} {pos : Pos} (hN : X.N[i]? = some x := by rfl) (hv : Vis X.env.scope x := by first | exact Or.inl rfl | exact Or.inr (Or.inl rfl) | exact Or.inr (Or.inr rfl)) (hd : (x == ("__debug__" : Str)) = false := by decide)
    (hcd : (x == ("__classdict__" : Str)) = false := by decide) : PE X (.Name x pos) (tVar i) := pe_var hN hv hd hcd
end
theorem iteF {A B : Prop} (h : B) : if false = true then A else B := by
  rw [if_neg Bool.false_ne_true]
  exact h
theorem iteT {A B : Prop} (h : A) : if true = true then A else B := by
  rw [if_pos rfl]
  exact h
theorem ite2 {c A B : Prop} [Decidable c] (h1 : c → A) (h2 : ¬ c → B) : if c then A else B := by
  by_cases h : c
  · rw [if_pos h]
    exact h1 h
  · rw [if_neg h]
    exact h2 h
def Same (H H' : Hp) : Prop := ∀ b o, H b = some o → H' b = some o
theorem Same.refl (H : Hp) : Same H H := fun _ _ h => h
theorem Same.trans {H H1 H2 : Hp} (a : Same H H1) (b : Same H1 H2) : Same H H2 := fun c o h => b c o (a c o h)
theorem Same.free {H H' : Hp} (e : Same H H') {l : Addr} (h : H' l = Option.none) : H l = Option.none := by
  cases q : H l with
  | none => rfl
  | some o =>
    rw [e l o q] at h
    cases h
theorem Same.seq {K : PySem.W.Frag} {H H' : Hp} {a : Addr} {xs : List V} (e : Same H H') (h : SqL K H a xs) : SqL K H' a xs := by
  rcases h with (h | ⟨o, h⟩) | h
  · exact .inl (.inl (e _ _ h))
  · exact .inl (.inr ⟨o, e _ _ h⟩)
  · exact .inr h
end L2
set_option Elab.async false
set_option linter.all false
set_option maxRecDepth 100000
set_option maxHeartbeats 4000000
namespace L2
open PySem PySem.Spec PyProof.Rows
def Cx.comp (X : Cx) (N' : List Str) (scope : Scope) (cl : List (Str × Addr)) (C : Addr) (s2 : Shared) (H2 : Hp) (ex : List Addr) : Cx :=
  { X with N := N', s₀ := s2, H₀ := H2, env := compEnvC scope cl C X.env, outer := X.stack, ex := ex, fn := fun _ => false, pn := [], xe := fun _ _ => False }
theorem closure_go {env : Env} : ∀ (names : List (Str × NameKind)) (acc : List (Str × Addr)), (∀ y ∈ names, y.2 = .free → ∃ c, env.cells.lookup y.1 = some c) →
    (∀ x c, acc.lookup x = some c → env.cells.lookup x = some c) →
    ∃ cl, (forIn names acc fun (x : Str × NameKind) (cs : List (Str × Addr)) => (match x with
      | (name, kind) => if (kind == NameKind.free) = true then do let c ← cellOf env name; pure (ForInStep.yield ((name, c) :: cs)) else pure (ForInStep.yield cs) : Sem (ForInStep (List (Str × Addr))))) = pure cl ∧
      (∀ x c, cl.lookup x = some c → env.cells.lookup x = some c) ∧ (∀ x c, acc.lookup x = some c → cl.lookup x = some c) ∧
      (∀ x, (x, NameKind.free) ∈ names → ∃ c, cl.lookup x = some c)
  | [], acc, _, h2 => ⟨acc, rfl, h2, fun _ _ h => h, fun _ h => nomatch h⟩
  | (n, k) :: r, acc, h1, h2 => by
    rw [List.forIn_cons]
    dsimp only
    by_cases hk : (k == NameKind.free) = true
    · have hk' : k = NameKind.free := by simpa using hk
      obtain ⟨c, hc⟩ := h1 (n, k) List.mem_cons_self hk'
      have e : cellOf env n = pure c := by unfold cellOf; rw [hc]
      obtain ⟨cl, e1, e2, e3, e4⟩ := closure_go r ((n, c) :: acc) (fun y hy => h1 y (List.mem_cons_of_mem _ hy)) (fun x d hd => by
        rw [List.lookup_cons] at hd
        cases hx : x == n with
        | true =>
          rw [hx] at hd
          have : x = n := by simpa using hx
          subst this
          cases hd
          exact hc
        | false =>
          rw [hx] at hd
          exact h2 x d hd)
      have self : cl.lookup n = some c := e3 n c (by rw [List.lookup_cons]; simp)
      refine ⟨cl, ?_, e2, fun x d hd => ?_, fun x hx => ?_⟩
      · rw [if_pos hk, e, pure_bind, pure_bind]
        exact e1
      · by_cases hx : x = n
        · subst hx
          have := h2 x d hd
          rw [hc] at this
          cases this
          exact self
        · exact e3 x d (by rw [List.lookup_cons]; simp only [show (x == n) = false by simpa using hx]; exact hd)
      · rcases List.mem_cons.mp hx with z | z
        · cases z
          exact ⟨c, self⟩
        · exact e4 x z
    · obtain ⟨cl, e1, e2, e3, e4⟩ := closure_go r acc (fun y hy => h1 y (List.mem_cons_of_mem _ hy)) h2
      refine ⟨cl, ?_, e2, e3, fun x hx => ?_⟩
      · rw [if_neg hk, pure_bind]
        exact e1
      · rcases List.mem_cons.mp hx with z | z
        · cases z
          exact absurd rfl hk
        · exact e4 x z
theorem closure_of {scope : Scope} {env : Env} (h : ∀ y ∈ scope.names, y.2 = .free → ∃ c, env.cells.lookup y.1 = some c) :
    ∃ cl, closureFor scope env = pure cl ∧ (∀ x c, cl.lookup x = some c → env.cells.lookup x = some c) ∧ (∀ x, (x, NameKind.free) ∈ scope.names → ∃ c, cl.lookup x = some c) := by
  obtain ⟨cl, e1, e2, e3, e4⟩ := closure_go (env := env) scope.names [] h (fun x c hc => by simp at hc)
  refine ⟨cl, ?_, e2, e4⟩
  unfold closureFor
  simp only [bind_pure]
  exact e1
theorem relabel_lookup {env : Env} {x : Str} {k : NameKind} : ∀ {names : List (Str × NameKind)},
    (names.map fun (n, k) => if (k == NameKind.free && env.scope.kind == .function && env.kindOf n == some .cell) then (n, NameKind.cell) else (n, k)).lookup x = some k →
    ∃ k', names.lookup x = some k' ∧ (k' = k ∨ k' = .free ∧ k = .cell)
  | [], h => by simp at h
  | (n, j) :: r, h => by
    rw [List.map_cons] at h
    dsimp only at h
    have ih := @relabel_lookup env x k r
    by_cases hc : (j == NameKind.free && env.scope.kind == .function && env.kindOf n == some .cell) = true
    · rw [if_pos hc, List.lookup_cons] at h
      rw [List.lookup_cons]
      cases hx : x == n with
      | true =>
        rw [hx] at h
        cases h
        simp only [Bool.and_eq_true] at hc
        exact ⟨j, rfl, .inr ⟨by simpa using hc.1.1, rfl⟩⟩
      | false =>
        rw [hx] at h
        exact ih h
    · rw [if_neg hc, List.lookup_cons] at h
      rw [List.lookup_cons]
      cases hx : x == n with
      | true =>
        rw [hx] at h
        cases h
        exact ⟨_, rfl, .inl rfl⟩
      | false =>
        rw [hx] at h
        exact ih h
theorem relabel_free {env : Env} {x : Str} : ∀ {names : List (Str × NameKind)}, names.lookup x = some .free →
    (names.map fun (n, k) => if (k == NameKind.free && env.scope.kind == .function && env.kindOf n == some .cell) then (n, NameKind.cell) else (n, k)).lookup x = some .cell ∨
    (names.map fun (n, k) => if (k == NameKind.free && env.scope.kind == .function && env.kindOf n == some .cell) then (n, NameKind.cell) else (n, k)).lookup x = some .free
  | [], h => by simp at h
  | (n, j) :: r, h => by
    rw [List.map_cons]
    dsimp only
    have ih := @relabel_free env x r
    rw [List.lookup_cons] at h
    by_cases hc : (j == NameKind.free && env.scope.kind == .function && env.kindOf n == some .cell) = true
    · rw [if_pos hc, List.lookup_cons]
      cases hx : x == n with
      | true => exact .inl rfl
      | false => rw [hx] at h; exact ih h
    · rw [if_neg hc, List.lookup_cons]
      cases hx : x == n with
      | true => rw [hx] at h; cases h; exact .inr rfl
      | false => rw [hx] at h; exact ih h
theorem compLoop_any {prog : Program} {w : World} {A : Around} {R : Result → Shared → Prop} {s : Shared} {elt target iter : Expr} {ifs : List Expr} {scope : Scope} {pos : Pos} {it acc : Value} {env : Env} (I : Nat → Shared → Prop)
    (turn : ∀ n s, I n s → wpAny (model prog w) A (pyNext it) (fun r s₁ => match r with
      | none => R (.ok .next) s₁
      | some v => wpAny (model prog w) A (letOwnedTupleGo target it v) (fun _ s₁' => wpAny (model prog w) A (assign target env v) (fun _ s₂ =>
          wpAny (model prog w) A (forIn ifs true fun c r => if r = true then do let ok ← isTrue c env (eval c env); pure (ForInStep.yield ok) else pure (ForInStep.yield r)) (fun ok s₃ =>
            if ok = true then wpAny (model prog w) A (eval elt env) (fun x s₄ =>
              wpAny (model prog w) A (call (.builtin "list.append") [acc, x]) (fun _ s₅ => ∃ m, m < n ∧ I m s₅) (fun _ _ => False) s₄) (fun _ _ => False) s₃
            else ∃ m, m < n ∧ I m s₃) (fun _ _ => False) s₂) (fun _ _ => False) s₁') (fun _ _ => False) s₁) (fun _ _ => False) s)
    (n : Nat) (h : I n s) :
    codeAny (model prog w) A (.compLoop (.ListComp elt [⟨target, iter, ifs, 0⟩] scope pos) 0 it acc env) R s := by
  refine codeAny_loop rfl I (fun n s hI => ?_) n h
  show wpAny _ A ((compTurn (.ListComp elt [⟨target, iter, ifs, 0⟩] scope pos) 0 it acc env).onRaise (fun x => do noteFrame x env; theTreesLotGoes x)) _ _ s
  refine wpAny_noted ?_
  rw [compTurn_list]
  refine wpAny_bind (wpAny_standAt (wpAny_bind (wpAny_mono (turn n s hI) (fun r s₁ h₁ => ?_) fun _ _ h' => h'.elim)))
  cases r with
  | none => exact wpAny_pure h₁
  | some v =>
    refine wpAny_bind (wpAny_mono h₁ (fun _ s₁' h₁' => ?_) fun _ _ h' => h'.elim)
    refine wpAny_bind (wpAny_mono h₁' (fun _ s₂ h₂ => wpAny_bind (wpAny_mono h₂ (fun ok s₃ h₃ => ?_) fun _ _ h' => h'.elim)) fun _ _ h' => h'.elim)
    cases ok with
    | false => exact wpAny_pure ⟨rfl, h₃⟩
    | true =>
      exact wpAny_bind (wpAny_bind (wpAny_mono h₃ (fun x s₄ h₄ => wpAny_bind (wpAny_mono h₄ (fun _ s₅ h₅ => wpAny_pure (wpAny_pure ⟨rfl, h₅⟩)) fun _ _ h' => h'.elim)) fun _ _ h' => h'.elim))
end L2
set_option Elab.async false
set_option linter.all false
set_option maxRecDepth 100000
set_option maxHeartbeats 4000000
namespace L2
open PySem PySem.Spec PyProof.Rows
def pick (σ : St) : Option Nat → Option V
  | none => none
  | some i => (σ[i]?).getD none
theorem pick_some {σ : St} {j : Nat} {v : V} (h : pick σ (some j) = some v) : σ[j]? = some (some v) := by
  have h : (σ[j]?).getD none = some v := h
  cases e : σ[j]? with
  | none => rw [e] at h; cases h
  | some o => rw [e] at h; exact congrArg some h
def compOk (osc scope : Scope) (N Nb : List Str) (ix : List (Option Nat)) : Bool :=
  decide (scope.kind = .function) && scope.names.all (fun y => decide (y.2 ≠ .cell)) &&
  scope.names.all (fun y => decide (y.2 = .local → scope.names.lookup y.1 = some .local)) &&
  scope.names.all (fun y => decide (y.2 = .free → osc.names.lookup y.1 = some .cell ∨ osc.names.lookup y.1 = some .free)) &&
  decide (ix.length = Nb.length) &&
  (List.range Nb.length).all (fun i => match ix[i]? with
    | some (some j) => match Nb[i]? with
      | some x => decide (N[j]? = some x ∧ scope.names.lookup x = some .free)
      | none => true
    | _ => true)
structure CompOk (osc scope : Scope) (N Nb : List Str) (ix : List (Option Nat)) : Prop where
  kind : scope.kind = .function
  nocell : ∀ y ∈ scope.names, y.2 ≠ .cell
  names : ∀ y ∈ scope.names, y.2 = .local → scope.names.lookup y.1 = some .local
  fr : ∀ y ∈ scope.names, y.2 = .free → osc.names.lookup y.1 = some .cell ∨ osc.names.lookup y.1 = some .free
  len : ix.length = Nb.length
  src : ∀ (i j : Nat) (x : Str), Nb[i]? = some x → ix[i]? = some (some j) → N[j]? = some x ∧ scope.names.lookup x = some .free
theorem compOk_of {osc scope : Scope} {N Nb : List Str} {ix : List (Option Nat)} (h : compOk osc scope N Nb ix = true) : CompOk osc scope N Nb ix := by
  unfold compOk at h
  simp only [Bool.and_eq_true] at h
  obtain ⟨⟨⟨⟨⟨h1, h2⟩, h3⟩, h4⟩, h5⟩, h6⟩ := h
  refine ⟨of_decide_eq_true h1, fun y hy => of_decide_eq_true (List.all_eq_true.mp h2 y hy), fun y hy => of_decide_eq_true (List.all_eq_true.mp h3 y hy), fun y hy => of_decide_eq_true (List.all_eq_true.mp h4 y hy), of_decide_eq_true h5, fun i j x e1 e2 => ?_⟩
  have hi : i < Nb.length := (List.getElem?_eq_some_iff.mp e1).1
  have q := List.all_eq_true.mp h6 i (List.mem_range.mpr hi)
  rw [e2] at q
  simp only [e1] at q
  exact of_decide_eq_true q
def PIfs (X : Cx) (ifs : List Expr) (t : TT) : Prop :=
  ∀ (pins : List (Addr × Obj)) (s : Shared) (σ : St) (H : Hp) (Q : Bool → Hp → Prop), Inv X pins σ H s → t σ H Q →
    wpAny (model X.prog X.w) X.A (forIn ifs true fun c r => if r = true then do let ok ← isTrue c X.env (eval c X.env); pure (ForInStep.yield ok) else pure (ForInStep.yield r)) (TP X pins σ Q) X.xe s
def tTrue : TT := fun _ H Q => Q true H
theorem pifs_nil {X : Cx} : PIfs X [] tTrue := fun _ _ _ H _ I h => wpAny_tests_nil ⟨H, I, h⟩
def CompRun (J : It) (g : TG) (tc : TT) (te : TE) (σ0 : St) (H1 : Hp) (Q : VK) : Prop := ∀ D, H1 D = none →
  ∃ W : Nat → Nat → List V → St → Hp → Prop, (∃ m, W 0 m [] σ0 (upd H1 D (.lst []))) ∧
    ∀ i m ys σ' H', W i m ys σ' H' → H' D = some (.lst ys) ∧ ((J.stop i H' ∧ Q (.ref D) H') ∨ (J.go i H' ∧ ∀ x H2, J.yld i H' x H2 → g x σ' H2 fun σ2 H3 => tc σ2 H3 fun b H4 =>
      if b = true then te σ2 H4 fun y H5 => H5 D = some (.lst ys) ∧ ys.length < sizeLine ∧ ∃ m', m' < m ∧ W (i + 1) m' (ys ++ [y]) σ2 (upd H5 D (.lst (ys ++ [y])))
      else ∃ m', m' < m ∧ W (i + 1) m' ys σ2 H4))
def tComp (wi : TI) (g : TG) (tc : TT) (te : TE) (ix : List (Option Nat)) : TE := fun σ H Q => wi σ H fun J H1 => CompRun J g tc te (ix.map (pick σ)) H1 Q
section
variable {X : Cx} {N' : List Str} {scope osc : Scope} {cl : List (Str × Addr)} {C : Addr} {ex : List Addr} {ix : List (Option Nat)} {pins : List (Addr × Obj)} {σ : St} {H2 : Hp} {s2 : Shared}
theorem comp_ok (I2 : Inv X pins σ H2 s2) (K : CompOk X.env.scope scope X.N N' ix) (e2 : ∀ x c, cl.lookup x = some c → X.env.cells.lookup x = some c) (e3 : ∀ x, (x, NameKind.free) ∈ scope.names → ∃ c, cl.lookup x = some c)
    (hC : s2.heap.objs.size ≤ C) (f2 : ∀ b ∈ ex, FpOk X pins H2 b) (hex : ∀ b ∈ ex, b < s2.heap.objs.size) : (X.comp N' scope cl C s2 H2 ex).Ok where
  mod := I2.ok.mod
  kind := K.kind
  glob := I2.ok.glob
  blt := I2.ok.blt
  above := hC
  inj := fun x y c h1 h2 => I2.ok.inj x y c (e2 x c h1) (e2 y c h2)
  has := fun x hx => by
    have key : ∀ k, (relabel scope X.env).names.lookup x = some k → k = .cell ∨ k = .free → ∃ c, cl.lookup x = some c := fun k hk hk2 => by
      obtain ⟨k', h1, h2⟩ := relabel_lookup hk
      have hm := PySem.mem_of_lookup h1
      rcases h2 with rfl | ⟨rfl, rfl⟩
      · rcases hk2 with rfl | rfl
        · exact absurd rfl (K.nocell _ hm)
        · exact e3 x hm
      · exact e3 x hm
    rcases hx with hx | hx
    · exact key _ hx (.inl rfl)
    · exact key _ hx (.inr rfl)
  cab := fun x c h => by cases h
  hd := I2.ok.hd
  frames := I2.ok.frames
  stk := .inl rfl
  exf := fun b hb => ⟨Nat.ne_of_lt (Nat.lt_of_lt_of_le (hex b hb) hC), fun x c h => (f2 b hb).2.2.2.2.1 x c (e2 x c h)⟩
  bs := I2.bs
  bsz := Nat.le_trans I2.ok.bsz I2.sz
  noex := fun b o e hb => by
    rcases (f2 b hb).2.2.2.1 with z | z
    · exact I2.ok.noex b o e z
    · exact absurd (Nat.lt_of_lt_of_le (Heap.lt_size (I2.ok.bs b o e).1) z) (Nat.lt_irrefl _)
  exfs := fun b hb hf => by
    rcases List.mem_cons.mp (I2.stkSub b hf) with z | z
    · exact (f2 b hb).2.1 z
    · exact (f2 b hb).2.2.1 z
  funs := I2.stack
  frf := I2.stkFree
theorem comp_out (I2 : Inv X pins σ H2 s2) (f2 : ∀ b ∈ ex, FpOk X pins H2 b) (hC : s2.heap.objs.size ≤ C) {σ3 : St} {H3 : Hp} {s4 : Shared} {h' : Heap}
    (J : Inv (X.comp N' scope cl C s2 H2 ex) [] σ3 H3 s4) (sb : Heap.SameBut C s4.heap h') : Inv X pins σ H3 { s4 with heap := h' } := by
  have ne : ∀ b o, s2.heap.get? b = some o → b ≠ C := fun b o e => Nat.ne_of_lt (Nat.lt_of_lt_of_le (Heap.lt_size e) hC)
  have B := J.base
  have fr : H3 C = none := J.free
  refine I2.call' (s' := { s4 with heap := h' }) (ch := ex) J.os ⟨fun b o e n hb hx => ?_, fun b o e n hb hx => ?_, B.free, fun b o e hx => ?_, B.tups, B.frzs, B.tbls⟩ ?_ J.bare fun b hb => ?_
  · exact (sb.2 b (ne b o e)).trans (B.keep b o e n hb hx)
  · obtain ⟨sl, q⟩ := B.slot b o e n hb hx
    exact ⟨sl, (sb.2 b (ne b o e)).trans q⟩
  · obtain ⟨o', q⟩ := B.there b o e hx
    exact ⟨o', (sb.2 b (ne b o e)).trans q⟩
  · intro b ob e
    refine (J.hok b ob e).stay (fun c w' hc q => (sb.2 c ?_).trans q) (fun _ q => q) fun _ _ q => q
    rintro rfl
    rcases hc with rfl | hc
    · rw [fr] at e; cases e
    · rw [fr] at hc; cases hc
  · obtain ⟨_, f1, _, f3, f4, f5⟩ := f2 b hb
    exact ⟨f3, f1, f4, f5⟩
end
theorem comp_block {X : Cx} {tg iter elt : Expr} {ifs : List Expr} {scope : Scope} {pos : Pos} {g : TG} {tc : TT} {te : TE} {N' : List Str} {ix : List (Option Nat)} {pins : List (Addr × Obj)} {σ : St} {s2 : Shared} {itv : Value} {Q : VK} {cl : List (Str × Addr)}
    {RR : Value → Addr → Result → Shared → Prop} (hc : X.calm = true) (K : CompOk X.env.scope scope X.N N' ix) (e2 : ∀ x c, cl.lookup x = some c → X.env.cells.lookup x = some c) (e3 : ∀ x, (x, NameKind.free) ∈ scope.names → ∃ c, cl.lookup x = some c)
    (hg : ∀ cl C s2 H2 ex, PG (X.comp N' scope cl C s2 H2 ex) tg g) (ht : ∀ cl C s2 H2 ex, PIfs (X.comp N' scope cl C s2 H2 ex) ifs tc) (he : ∀ cl C s2 H2 ex, PE (X.comp N' scope cl C s2 H2 ex) elt te)
    (h2 : PIE X pins σ tg (fun J H1 => CompRun J g tc te (ix.map (pick σ)) H1 Q) itv s2)
    (hRR : ∀ H2 fp C D σ3 H3 s4, Inv X pins σ H2 s2 → (∀ b ∈ fp, FpOk X pins H2 b) → s2.heap.objs.size ≤ C → Inv (X.comp N' scope cl C s2 H2 fp) [] σ3 H3 s4 → Q (.ref D) H3 → RR (.ref D) C (.ok .next) s4) :
    wpAny (model X.prog X.w) X.A (newList []) (fun acc s₃ => wpAny (model X.prog X.w) X.A (newFunctionEnv scope X.env.globals cl [] X.env.qual none .none (some X.env)) (fun cenv s₄ =>
      codeAny (model X.prog X.w) X.A (.compStart (.ListComp elt [⟨tg, iter, ifs, 0⟩] scope pos) 0 itv acc { cenv with scope := relabel scope X.env }) (RR acc cenv.locals) s₄) X.xe s₃) X.xe s2 := by
  obtain ⟨it, fp, tn, J, H2, rfl, I2, T, st2, f2, q⟩ := h2
  refine wpAny_newObj_type (wpAny_newFunctionEnv K.nocell (by intro y hy; simp at hy) (fun h1 hns1 hsb1 => ?_) K.kind)
  dsimp only at hns1 hsb1 ⊢
  generalize hP : s2.heap.push { cls := .type "list", dict := none, data := .seq ([] : List Value).toArray } = P2 at hns1 hsb1 ⊢
  have hCs : P2.objs.size = s2.heap.objs.size + 1 := by rw [← hP, Heap.size_push]
  have hC : s2.heap.objs.size ≤ P2.objs.size := by omega
  have hDC : s2.heap.objs.size ≠ P2.objs.size := by omega
  have old : ∀ b o, s2.heap.get? b = some o → h1.get? b = some o := fun b o e =>
    hsb1.extBut b o (Nat.ne_of_lt (Nat.lt_of_lt_of_le (Heap.lt_size e) hC)) (Heap.get?_push_of_some _ (hP ▸ Heap.get?_push_of_some _ e))
  have hacc : h1.get? s2.heap.objs.size = some { cls := .type "list", dict := none, data := .seq ([] : List Value).toArray } :=
    hsb1.extBut _ _ hDC (Heap.get?_push_of_some _ (hP ▸ Heap.get?_push_size _ rfl))
  have hD : H2 s2.heap.objs.size = none := I2.hok.fresh (Nat.le_refl _)
  have hCn : H2 P2.objs.size = none := I2.hok.fresh hC
  obtain ⟨W, ⟨m0, w0⟩, turn⟩ := q s2.heap.objs.size hD
  have hex : ∀ b ∈ fp, b < s2.heap.objs.size := fun b hb => by
    obtain ⟨o, e, _⟩ := T.obj 0 _ st2 b hb
    exact Heap.lt_size e
  have YOk := comp_ok (cl := cl) (C := P2.objs.size) (ex := fp) I2 K e2 e3 hC f2 hex
  have hok1 : HOk X.prog X.w (upd H2 s2.heap.objs.size (.lst [])) h1 := I2.hok.laid old (Nat.le_refl _) ⟨Nat.zero_le _, [], 0, .nil, hacc⟩
  have IY : Inv (X.comp N' scope cl P2.objs.size s2 H2 fp) [] (ix.map (pick σ)) (upd H2 s2.heap.objs.size (.lst [])) { s2 with heap := h1, toks := s2.toks + ([] : List (Str × Value)).length } := by
    refine ⟨YOk, rfl, I2.bare, ?_, ⟨_, hns1, fun i x v e1 e4 e5 => ?_⟩, fun x c e => ?_, ?_, fun x c e => ?_, fun p hp => absurd (show p ∈ ([] : List (Addr × Obj)) from hp) (by simp), hok1, ?_⟩
    · exact (Un.laid old (Nat.le_refl _) hD).mono (fun _ z => z) (fun _ z => z)
    · rw [List.getElem?_map] at e4
      cases e6 : ix[i]? with
      | none => rw [e6] at e4; cases e4
      | some o =>
        rw [e6] at e4
        cases o with
        | none => cases (Option.some.inj e4)
        | some j =>
          have e7 : σ[j]? = some (some v) := pick_some (Option.some.inj e4)
          obtain ⟨n1, n2⟩ := K.src i j x e1 e6
          have hm := PySem.mem_of_lookup n2
          have kx := K.fr _ hm rfl
          obtain ⟨m, hn, hl⟩ := I2.loc
          obtain ⟨u, r, l⟩ := hl j x v n1 e7 (kx.elim (fun z => .inr (.inl z)) fun z => .inr (.inr z))
          refine ⟨u, r, .inr ⟨?_, ?_⟩⟩
          · exact relabel_free n2
          · rcases l with ⟨k1, _⟩ | ⟨_, c, hc1, hc2⟩
            · exfalso
              have k1' : X.env.scope.names.lookup x = some .local := k1
              rcases kx with z | z
              · rw [k1'] at z; cases z
              · rw [k1'] at z; cases z
            · obtain ⟨c', hc'⟩ := e3 x hm
              have e8 := e2 x c' hc'
              rw [hc1] at e8
              cases e8
              obtain ⟨o, ho, hd⟩ := hc2
              exact ⟨c, hc', o, old _ _ ho, hd⟩
    · obtain ⟨v, o, ho, hd⟩ := I2.cell x c (e2 x c e)
      exact ⟨v, o, old _ _ ho, hd⟩
    · show upd H2 s2.heap.objs.size (.lst []) P2.objs.size = none
      rw [upd_ne (Ne.symm hDC)]
      exact hCn
    · obtain ⟨v, z⟩ := I2.cell x c (e2 x c e)
      rw [upd_ne (Nat.ne_of_lt z.lt)]
      exact I2.freeC x c (e2 x c e)
    · rw [List.length_map]
      exact K.len
  have hnf : ∀ b ∈ fp, b ≠ P2.objs.size := fun b hb => Nat.ne_of_lt (Nat.lt_of_lt_of_le (hex b hb) hC)
  have stat : ∀ {H' : Hp}, (∀ b ∈ fp, H' b = none) → ∀ b ∈ fp, FpOk (X.comp N' scope cl P2.objs.size s2 H2 fp) [] H' b := fun hn b hb =>
    ⟨hn b hb, hnf b hb, YOk.exfs b hb, .inl hb, fun x c e => (f2 b hb).2.2.2.2.1 x c (e2 x c e), fun p hp => absurd (show p ∈ ([] : List (Addr × Obj)) from hp) (by simp)⟩
  have loop : ∀ s₃ : Shared, s₃ = { s2 with heap := h1, toks := s2.toks + ([] : List (Str × Value)).length } →
      codeAny (model X.prog X.w) X.A (.compLoop (.ListComp elt [⟨tg, iter, ifs, 0⟩] scope pos) 0 (.ref it) (.ref s2.heap.objs.size) (compEnvC scope cl P2.objs.size X.env))
        (RR (.ref s2.heap.objs.size) P2.objs.size) s₃ := by
    rintro s₃ rfl
    refine compLoop_any (fun n s' => ∃ i ys σ' H', Inv (X.comp N' scope cl P2.objs.size s2 H2 fp) [] σ' H' s' ∧ tn i s'.heap ∧ (∀ b ∈ fp, H' b = none) ∧ W i n ys σ' H') ?_ m0
      ⟨0, [], _, _, IY, T.keep _ _ _ st2 (fun b hb o e => old b o e), fun b hb => ?_, w0⟩
    · rintro n s3 ⟨i, ys, σ3, H3, I3, st3, fr3, w3⟩
      obtain ⟨hDl, tt⟩ := turn i n ys σ3 H3 w3
      rcases tt with ⟨stop, qn⟩ | ⟨go, step⟩
      · refine thn (T.done (X.comp N' scope cl P2.objs.size s2 H2 fp) rfl rfl rfl hc i [] s3 σ3 H3 (fun _ _ => False) I3 (stat fr3) st3 stop) fun r s4 ⟨hr, I4⟩ => ?_
        subst hr
        exact hRR H2 fp P2.objs.size s2.heap.objs.size σ3 H3 s4 I2 f2 hC I4 qn
      · refine thn (T.item (X.comp N' scope cl P2.objs.size s2 H2 fp) rfl rfl rfl hc i [] s3 σ3 H3 (fun _ _ => False) I3 (stat fr3) st3 go) fun r s4 ⟨u, hr, h4⟩ => ?_
        subst hr
        refine thn h4 fun _ s5 ⟨x, H5, I5, r5, y5, st5, fr5⟩ => ?_
        have I5' := I5.pinned (stat fr5) (T.obj _ _ st5)
        refine thn (hg cl P2.objs.size s2 H2 fp _ s5 σ3 H5 x u _ I5' r5 (step x H5 y5)) fun _ s6 ⟨σ6, H6, I6, q6⟩ => ?_
        refine thn (ht cl P2.objs.size s2 H2 fp _ s6 σ6 H6 _ I6 q6) fun b s7 ⟨H7, I7, q7⟩ => ?_
        have again : ∀ {s8 : Shared} {H8 : Hp} {ys' : List V} {m' : Nat}, Inv (X.comp N' scope cl P2.objs.size s2 H2 fp) ([] ++ pinsAt fp s5.heap) σ6 H8 s8 → m' < n → W (i + 1) m' ys' σ6 H8 →
            ∃ m, m < n ∧ ∃ i ys σ' H', Inv (X.comp N' scope cl P2.objs.size s2 H2 fp) [] σ' H' s8 ∧ tn i s8.heap ∧ (∀ b ∈ fp, H' b = none) ∧ W i m ys σ' H' := fun {s8 H8 ys' m'} I8 hm w8 => by
          refine ⟨m', hm, i + 1, ys', σ6, H8, I8.unpinned, T.keep _ _ _ st5 fun b hb o e => (I8.pin (b, o) (List.mem_append_right _ (List.mem_append_right _ (mem_pinsAt hb e)))).1, fun b hb => ?_, w8⟩
          obtain ⟨o, e, d⟩ := T.obj _ _ st5 b hb
          exact (I8.pin (b, o) (List.mem_append_right _ (List.mem_append_right _ (mem_pinsAt hb e)))).2.1
        cases b with
        | false =>
          obtain ⟨m', hm, w7⟩ : ∃ m', m' < n ∧ W (i + 1) m' ys σ6 H7 := q7
          exact again I7 hm w7
        | true =>
          have q7' : te σ6 H7 _ := q7
          show wpAny _ _ (eval elt (compEnvC scope cl P2.objs.size X.env)) _ _ _
          refine thn (he cl P2.objs.size s2 H2 fp _ s7 σ6 H7 _ I7 q7') fun yv s8 ⟨y, H8, I8, r8, hD8, hz8, m', hm, w8⟩ => ?_
          refine thn (mt_append (X := X.comp N' scope cl P2.objs.size s2 H2 fp) _ s8 σ6 H8 (.ref s2.heap.objs.size) [y] (.ref s2.heap.objs.size) [yv] (fun _ H9 => H9 = upd H8 s2.heap.objs.size (.lst (ys ++ [y]))) I8 rfl (.cons r8 .nil)
            ⟨_, ys, y, rfl, rfl, hD8, hz8, rfl⟩) fun _ s9 ⟨_, H9, I9, _, e9⟩ => ?_
          subst e9
          exact again I9 hm w8
    · show upd H2 s2.heap.objs.size (.lst []) b = none
      rw [upd_ne (Nat.ne_of_lt (hex b hb))]
      exact (f2 b hb).1
  exact codeAny_compStart_list (loop _ rfl) (T.self X.A 0 _ _ _ (T.keep _ _ _ st2 (fun b hb o e => old b o e)) (loop _ rfl))
theorem pe_comp {X : Cx} {tg iter elt : Expr} {ifs : List Expr} {scope : Scope} {pos : Pos} {wi : TI} {g : TG} {tc : TT} {te : TE} (N' : List Str) (ix : List (Option Nat)) (osc : Scope) (N : List Str)
    (hc : X.calm = true) (hi : PI X tg iter wi) (ok : compOk osc scope N N' ix = true)
    (hg : ∀ cl C s2 H2 ex, PG (X.comp N' scope cl C s2 H2 ex) tg g) (ht : ∀ cl C s2 H2 ex, PIfs (X.comp N' scope cl C s2 H2 ex) ifs tc) (he : ∀ cl C s2 H2 ex, PE (X.comp N' scope cl C s2 H2 ex) elt te)
    (hsc : X.env.scope = osc := by rfl) (hN : X.N = N := by rfl) (hs : ∀ x, foldedSetIterable iter X.env x = pure x := by intro _; rfl) : PE X (.ListComp elt [⟨tg, iter, ifs, 0⟩] scope pos) (tComp wi g tc te ix) := by
  intro pins s σ H Q I h
  have K0 := compOk_of ok
  have K : CompOk X.env.scope scope X.N N' ix := by rw [hsc, hN]; exact K0
  obtain ⟨cl, hclos, e2, e3⟩ := closure_of (scope := scope) (env := X.env) (fun y hy hf => I.ok.has y.1 (K.fr y hy hf))
  rw [eval_ListComp]
  refine wpAny_comprehension_free (use := none) rfl hs hclos K.kind K.names (wpAny_mono (hi pins s σ H _ I h) (fun v s1 h1 => thn h1 fun itv s2 h2 => ?_) fun _ _ e => e)
  refine comp_block hc K e2 e3 hg ht he h2 fun H2 fp C D σ3 H3 s4 I2 f2 hC I4 qn => ?_
  obtain ⟨m, hn, _⟩ := I4.loc
  exact ⟨m, hn, fun h' sb => ⟨.ref D, H3, comp_out I2 f2 hC I4 sb, rfl, qn⟩⟩
theorem ps_setC {X : Cx} {tg iter elt : Expr} {ifs : List Expr} {scope : Scope} {pos spos py : Pos} {y : Str} {wi : TI} {g : TG} {tc : TT} {te : TE} (N' : List Str) (ix : List (Option Nat)) (osc : Scope) (N : List Str) {i : Nat} (nd : X.N.Nodup) (hiy : X.N[i]? = some y) (hxy : Loc X.env.scope y)
    (hc : X.calm = true) (hi : PI X tg iter wi) (ok : compOk osc scope N N' ix = true)
    (hg : ∀ cl C s2 H2 ex, PG (X.comp N' scope cl C s2 H2 ex) tg g) (ht : ∀ cl C s2 H2 ex, PIfs (X.comp N' scope cl C s2 H2 ex) ifs tc) (he : ∀ cl C s2 H2 ex, PE (X.comp N' scope cl C s2 H2 ex) elt te)
    (hsc : X.env.scope = osc := by rfl) (hN : X.N = N := by rfl) (hs : ∀ x, foldedSetIterable iter X.env x = pure x := by intro _; rfl)
    (hsw : swapsWith (.ListComp elt [⟨tg, iter, ifs, 0⟩] scope pos) (some (.Name y py)) spos.line X.env = pure true := by rfl) (hf : X.fn y = true ∨ X.env.scope.names.lookup y = some .local := by first | exact .inl rfl | exact .inr rfl | assumption) :
    PS X (.Assign [.Name y py] (.ListComp elt [⟨tg, iter, ifs, 0⟩] scope pos) spos) (tAsg (tComp wi g tc te ix) (gName i)) := by
  intro pins s σ H D I h
  have K0 := compOk_of ok
  have K : CompOk X.env.scope scope X.N N' ix := by rw [hsc, hN]; exact K0
  obtain ⟨cl, hclos, e2, e3⟩ := closure_of (scope := scope) (env := X.env) (fun y hy hf => I.ok.has y.1 (K.fr y hy hf))
  rw [exec_Assign_Name_used _ _ _ _ hsw]
  refine wpAny_bind (wpAny_standAt (wpAny_bind ?_))
  show wpAny _ X.A (do let _ ← comprehension (.ListComp elt [⟨tg, iter, ifs, 0⟩] scope pos) scope X.env _ (newList []) false (eval iter X.env) (some (assign (.Name y py) X.env))) _ _ s
  refine wpAny_bind (wpAny_mono (wpAny_comprehension_free (use := some (assign (.Name y py) X.env)) (Q := fun _ s' => SP X pins D .next s') rfl hs hclos K.kind K.names
    (wpAny_mono (hi pins s σ H _ I h) (fun v s1 h1 => thn h1 fun itv s2 h2 => ?_) fun _ _ e => e)) (fun _ s' hq => wpAny_pure (wpAny_pure hq)) fun _ _ e => e)
  refine comp_block hc K e2 e3 hg ht he h2 fun H2 fp C L σ3 H3 s4 I2 f2 hC I4 qn => ?_
  have I5 : Inv X pins σ H3 s4 := comp_out I2 f2 hC I4 (Heap.SameBut.refl ..)
  obtain ⟨m, hn, _⟩ := I4.loc
  have hn : s4.heap.Ns C m := hn
  have fC : FpOk X pins H3 C := I2.fpOk hC I4.free
  show wpAny _ X.A (assign (.Name y py) X.env (.ref L)) _ _ s4
  refine wpAny_assign_Name (store_ok2 I5 nd hiy hxy (v := .ref L) rfl (fun s5 I6 hch => ?_) hf)
  obtain ⟨a, sb, ha⟩ := hch
  have nCa : C ≠ a := by
    rcases ha with rfl | ha
    · exact fC.2.1
    · exact fun z => fC.2.2.2.2.1 y a ha z.symm
  refine ⟨m, hn.sameBut sb nCa, fun h' sb' => ⟨_, H3, ?_, qn⟩⟩
  obtain ⟨f0, f1, f2', f3, f4, f5⟩ := fC
  exact I6.turned (t' := s5.toks) (fun b o hb e => (sb'.2 b hb).trans e) f0 f1 f3 f4 f5
end L2
set_option Elab.async false
set_option linter.all false
set_option maxRecDepth 100000
set_option maxHeartbeats 4000000
namespace L2
open PySem PySem.Spec PyProof.Rows
section
variable {X : Cx}
theorem bools_of : ∀ {bs : List Bool} {us : List Value}, Vals (bs.map V.bl) us → LSm.BoolsAre us bs
  | [], _, .nil => .nil
  | b :: bs, _, .cons r t => by
    cases r
    exact .cons b (bools_of t)
theorem call_all (hc : X.calm = true) : CallR X (.builtin "all") (fun xs H Q => ∃ (p : Addr) (bs : List Bool), xs = [.ref p] ∧ SqL X.K H p (bs.map V.bl) ∧ Q (.bl (bs.all id)) H) := by
  intro pins s σ H xs us Q I rv h
  obtain ⟨p, bs, rfl, hq, q⟩ := h
  obtain ⟨u, rfl, ru⟩ := rv.one
  cases ru
  obtain ⟨its, r, pl, hz⟩ := I.list hq
  have hb := bools_of r
  obtain ⟨m, F⟩ := I.fr
  have hl := pl.isList
  have hlt : p < s.heap.objs.size := by obtain ⟨_, e, _⟩ := hl; exact Heap.lt_size e
  have hh := I.ok.hd hc
  refine call_all_walk (wpAny_pyIter_list hl ?_)
  refine ⟨s.heap.objs.size, [s.heap.objs.size, p], [s.heap.objs.size], its.toArray.size, _, _, fun i => (bs[i]?).getD true, rfl, Walks.list (A := X.A.in1) hh _ p (Nat.ne_of_lt hlt) its.toArray,
    ⟨⟨_, Heap.get?_push_size _ rfl, rfl, rfl⟩, hl.push _⟩, fun i v s' Q' E' hP hQ => ?_, fun h' tk hk => ?_⟩
  · obtain ⟨b, e, rfl⟩ := hb.get i v (by simpa using hP)
    simp only [e, Option.getD_some] at hQ
    exact wpAny_truthy_bool hQ
  · have e : ((List.range its.toArray.size).all fun i => (bs[i]?).getD true) = bs.all id := by
      rw [List.size_toArray, hb.length]; exact LSm.range_all bs
    rw [e]
    exact ⟨.bl _, H, I.kept (LSm.kept_iter hk), rfl, q⟩
theorem call_isinst : CallR X (.builtin "isinstance") (fun xs H Q => ∃ x T t b, xs = [x, .ty T] ∧ TyOf X.K H x t ∧ PySem.W.kitOne X.K t (.type T) = some b ∧ Q (.bl b) H) := by
  intro pins s σ H xs us Q I rv h
  obtain ⟨x, T, t, b, rfl, ty, e, q⟩ := h
  obtain ⟨u, v, rfl, ru, rv⟩ := rv.two
  cases rv
  exact isinst_ok I ru ty e fun tk => ⟨.bl b, H, I.tok tk, rfl, q⟩
end
mutual
inductive RdD (K : PySem.W.Frag) (H : Hp) : V → PyData → Prop
  | non : RdD K H .non .none
  | bl (b : Bool) : RdD K H (.bl b) (.bool b)
  | int (i : Int) : RdD K H (.int i) (.int i)
  | str (x : Str) : RdD K H (.str x) (.str x)
  | lst {a : Addr} {xs : List V} {ds : List PyData} : SqL K H a xs → RdAll K H xs ds → RdD K H (.ref a) (.list ds)
  | tup {a : Addr} {xs : List V} {ds : List PyData} : SqT K H a xs → RdAll K H xs ds → RdD K H (.ref a) (.tuple ds)
inductive RdAll (K : PySem.W.Frag) (H : Hp) : List V → List PyData → Prop
  | nil : RdAll K H [] []
  | cons {x : V} {d : PyData} {xs : List V} {ds : List PyData} : RdD K H x d → RdAll K H xs ds → RdAll K H (x :: xs) (d :: ds)
end
section
variable {X : Cx} {pins : List (Addr × Obj)} {σ : St} {H : Hp} {s : Shared}
mutual
theorem Inv.reads (I : Inv X pins σ H s) : ∀ {x : V} {d : PyData} {u : Value}, RdD X.K H x d → RelV x u → ∃ as, Reads s.heap u d as
  | _, _, _, .non, r => by cases r; exact ⟨_, .none⟩
  | _, _, _, .bl b, r => by cases r; exact ⟨_, .bool b⟩
  | _, _, _, .int i, r => by obtain ⟨t, rfl⟩ := r; exact ⟨_, .int i t⟩
  | _, _, _, .str x, r => by obtain ⟨t, rfl⟩ := r; exact ⟨_, .str x t⟩
  | _, _, _, .lst hq ha, r => by
    cases r
    obtain ⟨its, rv, ⟨o, n, e, c, dd, dt⟩, _⟩ := I.list hq
    obtain ⟨as, q⟩ := Inv.readsAll I ha rv
    exact ⟨_, .list e c dt (by simpa using q)⟩
  | _, _, _, .tup hq ha, r => by
    cases r
    obtain ⟨its, rv, ⟨o, e, c, n, dt⟩, _⟩ := I.tuple hq
    obtain ⟨as, q⟩ := Inv.readsAll I ha rv
    exact ⟨_, .tuple e c dt (by simpa using q)⟩
theorem Inv.readsAll (I : Inv X pins σ H s) : ∀ {xs : List V} {ds : List PyData} {us : List Value}, RdAll X.K H xs ds → Vals xs us → ∃ as, ReadsAll s.heap us ds as
  | _, _, _, .nil, .nil => ⟨_, .nil⟩
  | _, _, _, .cons h t, .cons r rr => by
    obtain ⟨as, q⟩ := Inv.reads I h r
    obtain ⟨bs, p⟩ := Inv.readsAll I t rr
    exact ⟨_, .cons q p⟩
end
def rEqD (K : PySem.W.Frag) (neg : Bool) : R2 := fun x y H Q => ∃ dx dy, RdD K H x dx ∧ RdD K H y dy ∧ SeqAt.shaped dx = true ∧ SeqAt.shaped dy = true ∧ Q (.bl (if neg then !PyData.eqv dx dy else PyData.eqv dx dy)) H
theorem op_neD (hu : X.A.units + 64 < cLine) : OpR X (compareOp .NotEq) (rEqD X.K true) := by
  intro pins s σ H x y v u Q I rx ry h
  obtain ⟨dx, dy, h1, h2, s1, s2, q⟩ := h
  obtain ⟨as, r1⟩ := I.reads h1 rx
  obtain ⟨bs, r2⟩ := I.reads h2 ry
  exact ne_dataH r1 r2 s1 s2 hu ⟨.bl _, H, I, rfl, q⟩
end
end L2
set_option Elab.async false
set_option linter.all false
set_option maxRecDepth 100000
set_option maxHeartbeats 4000000
namespace L2
open PySem PySem.Spec PyProof.Rows
end L2
set_option Elab.async false
set_option linter.all false
set_option maxRecDepth 100000
set_option maxHeartbeats 4000000
namespace L2
open PySem PySem.Spec PyProof.Rows
def Pu (te : TE) (σ : St) (H : Hp) (v : V) : Prop := ∀ (H' : Hp) (Q : VK), Same H H' → (∀ H'', Same H' H'' → Q v H'') → te σ H' Q
def PuT (tc : TT) (σ : St) (H : Hp) (b : Bool) : Prop := ∀ (H' : Hp) (Q : Bool → Hp → Prop), Same H H' → (∀ H'', Same H' H'' → Q b H'') → tc σ H' Q
theorem puT_true {σ : St} {H : Hp} : PuT tTrue σ H true := fun H' Q _ q => q H' (Same.refl _)
theorem Same.upd {H H' : Hp} {D : Addr} {o : HO} (e : Same H H') (hD : H D = none) : Same H (upd H' D o) := fun b u q => by
  rw [upd_ne (ne_of_none q hD)]
  exact e b u q
theorem Same.new {H : Hp} {D : Addr} {o : HO} (hD : H D = none) : Same H (L2.upd H D o) := (Same.refl H).upd hD
theorem comp_by {J : It} {n : Nat} {σ0 : St} {H1 : Hp} {D : Addr} {tc : TT} {te : TE} {Q : VK} (Pv : Nat → List V → Hp → Prop) (h0 : Pv 0 [] (upd H1 D (.lst [])))
    (hl : ∀ i ys H', i ≤ n → Pv i ys H' → H' D = some (.lst ys)) (hgo : ∀ i ys H', i < n → Pv i ys H' → J.go i H') (hst : ∀ ys H', Pv n ys H' → J.stop n H')
    (step : ∀ i ys H' x H2, i < n → Pv i ys H' → J.yld i H' x H2 → tc (σ0.set 0 (some x)) H2 fun b H4 => if b = true then te (σ0.set 0 (some x)) H4 fun y H5 => H5 D = some (.lst ys) ∧ ys.length < sizeLine ∧ Pv (i + 1) (ys ++ [y]) (upd H5 D (.lst (ys ++ [y]))) else Pv (i + 1) ys H4)
    (fin : ∀ ys H', Pv n ys H' → Q (.ref D) H') :
    ∃ W : Nat → Nat → List V → St → Hp → Prop, (∃ m, W 0 m [] σ0 (upd H1 D (.lst []))) ∧
      ∀ i m ys σ' H', W i m ys σ' H' → H' D = some (.lst ys) ∧ ((J.stop i H' ∧ Q (.ref D) H') ∨ (J.go i H' ∧ ∀ x H2, J.yld i H' x H2 → gName 0 x σ' H2 fun σ2 H3 => tc σ2 H3 fun b H4 =>
        if b = true then te σ2 H4 fun y H5 => H5 D = some (.lst ys) ∧ ys.length < sizeLine ∧ ∃ m', m' < m ∧ W (i + 1) m' (ys ++ [y]) σ2 (upd H5 D (.lst (ys ++ [y])))
        else ∃ m', m' < m ∧ W (i + 1) m' ys σ2 H4)) := by
  refine ⟨fun i m ys σ' H' => m = n - i ∧ i ≤ n ∧ (∀ x, σ'.set 0 x = σ0.set 0 x) ∧ Pv i ys H', ⟨n, by simp, Nat.zero_le _, fun _ => rfl, h0⟩, ?_⟩
  rintro i m ys σ' H' ⟨rfl, hi, es, p⟩
  refine ⟨hl i ys H' hi p, ?_⟩
  by_cases hlt : i < n
  · refine .inr ⟨hgo i ys H' hlt p, fun x H2 y => ?_⟩
    have st := step i ys H' x H2 hlt p y
    show tc (σ'.set 0 (some x)) H2 _
    rw [es]
    have e1 : ∀ z, (σ0.set 0 (some x)).set 0 z = σ0.set 0 z := fun z => by rw [List.set_set]
    have e2 : ∀ ys' H5, (∃ m', m' < n - i ∧ m' = n - (i + 1) ∧ i + 1 ≤ n ∧ (∀ z, (σ0.set 0 (some x)).set 0 z = σ0.set 0 z) ∧ Pv (i + 1) ys' H5) ↔ Pv (i + 1) ys' H5 := fun ys' H5 =>
      ⟨fun ⟨_, _, _, _, _, q⟩ => q, fun q => ⟨n - (i + 1), by omega, rfl, hlt, e1, q⟩⟩
    simp only [e2]
    exact st
  · have e : i = n := by omega
    subst e
    exact .inl ⟨hst ys H' p, fin ys H' p⟩
theorem comp_of {α : Type} {K : PySem.W.Frag} {a : Addr} {ms : List α} {σ0 : St} {H1 : Hp} {tc : TT} {te : TE} {Q : VK} (u : α → V) (p : α → Bool) (f : α → V) (hq : SqL K H1 a (ms.map u)) (hn : ms.length ≤ sizeLine)
    (ht : ∀ x ∈ ms, PuT tc (σ0.set 0 (some (u x))) H1 (p x)) (he : ∀ x ∈ ms, p x = true → Pu te (σ0.set 0 (some (u x))) H1 (f x))
    (fin : ∀ D H', H1 D = none → Same H1 H' → H' D = some (.lst ((ms.filter p).map f)) → Q (.ref D) H') :
    CompRun (Itl K a) (gName 0) tc te σ0 H1 Q := by
  intro D hD
  refine comp_by (n := ms.length) (fun i ys H' => Same H1 H' ∧ H' D = some (.lst ys) ∧ ys = ((ms.take i).filter p).map f) ⟨Same.new hD, upd_same, by simp⟩ (fun i ys H' _ q => q.2.1) (fun i ys H' hi q => ⟨ms.map u, u ms[i], q.1.seq hq, by simp [hi]⟩)
    (fun ys H' q => ⟨ms.map u, q.1.seq hq, by simp⟩) ?_ (fun ys H' q => ?_)
  · rintro i ys H' x H2 hi ⟨sm, hDl, hys⟩ ⟨rfl, hy⟩
    have hx : (ms.map u)[i]? = some x := hy _ (sm.seq hq)
    obtain ⟨z, hz, rfl⟩ : ∃ z, ms[i]? = some z ∧ u z = x := by
      rw [List.getElem?_map] at hx
      cases e : ms[i]? with
      | none => rw [e] at hx; cases hx
      | some z => rw [e] at hx; exact ⟨z, rfl, Option.some.inj hx⟩
    have hm : z ∈ ms := List.mem_of_getElem? hz
    have tk : ms.take (i + 1) = ms.take i ++ [z] := by
      rw [List.take_add_one, hz]
      simp only [Option.toList]
    have hlen : ys.length ≤ i := by
      rw [hys, List.length_map]
      exact Nat.le_trans (List.length_filter_le _ _) (by rw [List.length_take]; omega)
    refine ht z hm _ _ sm fun H4 s4 => ?_
    cases hp : p z with
    | true =>
      refine iteT ?_
      refine he z hm hp _ _ (sm.trans s4) fun H5 s5 => ⟨s5 _ _ (s4 _ _ hDl), by omega, ((sm.trans s4).trans s5).upd hD, upd_same, ?_⟩
      rw [tk, List.filter_append, List.map_append, ← hys]
      simp [hp]
    | false =>
      refine iteF ⟨sm.trans s4, s4 _ _ hDl, ?_⟩
      rw [tk, List.filter_append, List.map_append, ← hys]
      simp [hp]
  · obtain ⟨sm, hDl, hys⟩ := q
    rw [List.take_length] at hys
    exact fin D H' hD sm (by rw [← hys]; exact hDl)
theorem comp_map {α : Type} {K : PySem.W.Frag} {a : Addr} {ms : List α} {σ0 : St} {H1 : Hp} {te : TE} {Q : VK} (u : α → V) (f : α → V) (hq : SqL K H1 a (ms.map u)) (hn : ms.length ≤ sizeLine)
    (he : ∀ x ∈ ms, Pu te (σ0.set 0 (some (u x))) H1 (f x))
    (fin : ∀ D H', H1 D = none → Same H1 H' → H' D = some (.lst (ms.map f)) → Q (.ref D) H') :
    CompRun (Itl K a) (gName 0) tTrue te σ0 H1 Q :=
  comp_of u (fun _ => true) f hq hn (fun _ _ => puT_true) (fun x hx _ => he x hx) fun D H' hD sm e => fin D H' hD sm (by rw [List.filter_eq_self.mpr (fun _ _ => rfl)] at e; exact e)
theorem comp_range {lo : Int} {n : Nat} {σ0 : St} {H1 : Hp} {te : TE} {Q : VK} (f : Nat → V) (hn : n ≤ sizeLine)
    (he : ∀ i, i < n → Pu te (σ0.set 0 (some (.int (lo + i)))) H1 (f i))
    (fin : ∀ D H', H1 D = none → Same H1 H' → H' D = some (.lst ((List.range n).map f)) → Q (.ref D) H') :
    CompRun (Itr lo n) (gName 0) tTrue te σ0 H1 Q := by
  intro D hD
  refine comp_by (n := n) (fun i ys H' => Same H1 H' ∧ H' D = some (.lst ys) ∧ ys = (List.range i).map f) ⟨Same.new hD, upd_same, by simp⟩ (fun i ys H' _ q => q.2.1) (fun i ys H' hi q => hi)
    (fun ys H' q => Nat.le_refl _) ?_ (fun ys H' q => ?_)
  · rintro i ys H' x H2 hi ⟨sm, hDl, hys⟩ ⟨rfl, rfl⟩
    unfold tTrue
    refine iteT ?_
    refine he i hi _ _ sm fun H5 s5 => ⟨s5 _ _ hDl, ?_, (sm.trans s5).upd hD, upd_same, ?_⟩
    · rw [hys, List.length_map, List.length_range]
      omega
    · rw [List.range_succ, List.map_append, ← hys]
      simp
  · obtain ⟨sm, hDl, hys⟩ := q
    exact fin D H' hD sm (by rw [← hys]; exact hDl)
def DefAt (K : PySem.W.Frag) (mg : Str → Option Value) (x : Str) (st : Stmt) (ps : List Str) : Prop := ∃ f fd, Fun K x x st f fd ∧ mg x = some (.ref f) ∧ Binds K fd ps []
def FnAt (P : Program) (w : World) (K : PySem.W.Frag) (mg : Str → Option Value) (base : Heap) (k : Nat) (x : Str) (ps : List Str) (sp : Sp) : Prop :=
  ∃ f fd, FnOk P w K mg base CX0 k f fd ps sp ∧ mg x = some (.ref f) ∧ PySem.W.keepIn K (.ref f) = true ∧ Binds K fd ps []
theorem FnAt.of {P : Program} {w : World} {K : PySem.W.Frag} {mg : Str → Option Value} {base : Heap} {k : Nat} {x : Str} {st : Stmt} {N ps : List Str} {sp : Sp} (D : DefAt K mg x st ps) (S : FnScope N ps (defScope st)) (len : ∀ vs H Q E, sp vs H Q E → vs.length = ps.length)
    (hbody : ∀ (f : Addr) (cdv : Value) (A : Around) (outer : List Env) (s : Shared) (H : Hp) (vs : List V) (Q : VK) (E : XK), Room k (A.deeper (envOfC x (defScope st) s.heap.objs.size f cdv)) → sp vs H Q E →
      ∃ t, PSs (cxOf CX0 P w K mg base N x (defScope st) f cdv A outer s H E).nox (defBody st) t ∧ t { nx := fun _ H' => Q .non H', rt := Q } (start N vs) H) : FnAt P w K mg base (k + 1) x ps sp := by
  obtain ⟨f, fd, F, hm, hb⟩ := D
  exact ⟨f, fd, F.ok S len fun cdv A outer s H vs Q E hr h => hbody f cdv A outer s H vs Q E hr h, hm, F.kp, hb⟩
def tF (sp : Sp) (t : TA) : TE := fun σ H Q => t σ H fun vs H1 => sp vs H1 Q E0
section
variable {X : Cx} {k : Nat} {x : Str} {ps : List Str} {sp : Sp} {e : Expr} {es : List Expr} {t : TA} {p pos : Pos}
theorem pe_f (F : FnAt X.prog X.w X.K X.mg X.base k x ps sp) (hr : Room k X.A) (ha : PA X (e :: es) t) (hg : Gl X x := by rfl) (hdb : (x == ("__debug__" : Str)) = false := by decide)
    (he : starEach (e :: es) X.env = (false, eval e X.env) :: starEach es X.env := by rfl) (hpl : (backTo pos (starEach es X.env)).any (·.1) = false := by rfl) : PE X (.Call (.Name x p) (e :: es) [] pos) (tF sp t) := by
  obtain ⟨f, fd, F, hm, hk, hb⟩ := F
  have q := pe_call (p := p) (pos := pos) F hr hg hm hk hb .nil (pass0 (X := X)) ha hdb he hpl
  have e : tCall sp [] E0 t = tF sp t := by
    unfold tCall tF
    simp only [List.append_nil]
  rw [e] at q
  exact q
theorem pe_b {id : String} {r : List V → Hp → VK → Prop} (hc : CallR X (.builtin id) r) (hm : X.mg x = none) (hv : bootBuiltins x = some (.builtin id)) (ha : PA X (e :: es) t) (hg : Gl X x := by rfl) (hn : x ≠ "__name__" := by decide) (hdb : (x == ("__debug__" : Str)) = false := by decide)
    (he : starEach (e :: es) X.env = (false, eval e X.env) :: starEach es X.env := by rfl) (hpl : (backTo pos (starEach es X.env)).any (·.1) = false := by rfl) : PE X (.Call (.Name x p) (e :: es) [] pos) (tCB r t) := pe_callB hc hg hm hv ha hn hdb he hpl
theorem pe_t {T : String} {r : List V → Hp → VK → Prop} (hc : CallR X (.type T) r) (hm : X.mg x = none) (hv : bootBuiltins x = some (.type T)) (ha : PA X (e :: es) t) (hg : Gl X x := by rfl) (hn : x ≠ "__name__" := by decide) (hdb : (x == ("__debug__" : Str)) = false := by decide)
    (he : starEach (e :: es) X.env = (false, eval e X.env) :: starEach es X.env := by rfl) (hpl : (backTo pos (starEach es X.env)).any (·.1) = false := by rfl) : PE X (.Call (.Name x p) (e :: es) [] pos) (tCB r t) := pe_callTy hc hg hm hv ha hn hdb he hpl
theorem pe_ty {T : String} {pos : Pos} (hm : X.mg x = none) (hv : bootBuiltins x = some (.type T)) (hg : Gl X x := by rfl) (hn : x ≠ "__name__" := by decide) (hd : (x == ("__debug__" : Str)) = false := by decide) : PE X (.Name x pos) (tC (.ty T)) :=
  pe_bltn hg hm hv rfl hn hd
theorem pg_c {N' : List Str} {scope : Scope} {cl : List (Str × Addr)} {C : Addr} {s2 : Shared} {H2 : Hp} {ex : List Addr} (i : Nat) {y : Str} (nd : N'.Nodup) (hi : N'[i]? = some y := by rfl) (hx : (relabel scope X.env).names.lookup y = some .local := by rfl) :
    PG (X.comp N' scope cl C s2 H2 ex) (.Name y pos) (gName i) := pg_name (X := X.comp N' scope cl C s2 H2 ex) nd hi (.inl hx) (.inr hx)
end
section
variable {X : Cx}
theorem ixL (K : PySem.W.Frag) (hK : X.K = K := by rfl) : IxR X (rIxL K) := by subst hK; exact ix_list
theorem lenK (K : PySem.W.Frag) (hK : X.K = K := by rfl) : CallR X (.builtin "len") (fun xs H Q => ∃ p ys, xs = [.ref p] ∧ (SqL K H p ys ∨ SqT K H p ys) ∧ Q (.int ys.length) H) := by subst hK; exact call_len_seq
theorem listK (K : PySem.W.Frag) (hK : X.K = K := by rfl) : CallR X (.type "list") (fun xs H Q => ∃ p ys, xs = [.ref p] ∧ (SqL K H p ys ∨ SqT K H p ys) ∧ ∀ l, H l = none → Q (.ref l) (upd H l (.lst ys))) := by subst hK; exact call_list_of
end
theorem kit_ii (K : PySem.W.Frag) : PySem.W.kitOne K (.type "int") (.type "int") = some true := by kernel_rfl
theorem kit_ib (K : PySem.W.Frag) : PySem.W.kitOne K (.type "int") (.type "bool") = some false := by kernel_rfl
theorem kit_ll (K : PySem.W.Frag) : PySem.W.kitOne K (.type "list") (.type "list") = some true := by kernel_rfl
end L2
set_option Elab.async false
set_option linter.all false
set_option maxRecDepth 100000
set_option maxHeartbeats 4000000
namespace L2
open PySem PySem.Spec PyProof.Rows
section
variable {X : Cx}
def rAddI : R2 := fun x y H Q => ∃ i j : Int, x = .int i ∧ y = .int j ∧ Q (.int (i + j)) H
def rSubI : R2 := fun x y H Q => ∃ i j : Int, x = .int i ∧ y = .int j ∧ Q (.int (i - j)) H
def rMulI : R2 := fun x y H Q => ∃ i j : Int, x = .int i ∧ y = .int j ∧ CMul i j ∧ Q (.int (i * j)) H
def rModI : R2 := fun x y H Q => ∃ i j : Int, x = .int i ∧ y = .int j ∧ 0 < j ∧ Q (.int (i % j)) H
def rDivI : R2 := fun x y H Q => ∃ i j : Int, x = .int i ∧ y = .int j ∧ CDiv i j ∧ Q (.int (i / j)) H
def rPowI : R2 := fun x y H Q => ∃ i j : Int, x = .int i ∧ y = .int j ∧ CPow i j ∧ Q (.int (i ^ j.toNat)) H
def rLtI : R2 := fun x y H Q => ∃ i j : Int, x = .int i ∧ y = .int j ∧ Q (.bl (decide (i < j))) H
def rGtI : R2 := fun x y H Q => ∃ i j : Int, x = .int i ∧ y = .int j ∧ Q (.bl (decide (j < i))) H
def rNegI : V → Hp → VK → Prop := fun x H Q => ∃ i : Int, x = .int i ∧ Q (.int (-i)) H
theorem o_add : OpR X (binaryOp .Add) rAddI := op_add
theorem o_sub : OpR X (binaryOp .Sub) rSubI := op_sub
theorem o_mul : OpR X (binaryOp .Mult) rMulI := op_mul
theorem o_mod : OpR X (binaryOp .Mod) rModI := op_mod
theorem o_div : OpR X (binaryOp .FloorDiv) rDivI := op_fdiv
theorem o_pow : OpR X (binaryOp .Pow) rPowI := op_pow
theorem o_lt : OpR X (compareOp .Lt) rLtI := op_lt
theorem o_gt : OpR X (compareOp .Gt) rGtI := op_gt
theorem o_neg : UnR X (unaryOp .USub) rNegI := un_neg
end
end L2
set_option Elab.async false
set_option linter.all false
set_option maxRecDepth 100000
set_option maxHeartbeats 4000000
namespace L2
open PySem PySem.Spec PyProof.Rows
end L2
set_option Elab.async false
set_option linter.all false
set_option maxRecDepth 100000
set_option maxHeartbeats 4000000
namespace L2
open PySem PySem.Spec PyProof.Rows
end L2
set_option Elab.async false
set_option linter.all false
set_option maxRecDepth 100000
set_option maxHeartbeats 4000000
namespace SrtT
open PySem PySem.W PyProof.Rows
section
variable {O : KeyOrd} {key : Nat → O.α} {N : Nat} {cmp : Nat → Nat → (Bool → Shared → Prop) → Shared → Prop} {s : Shared}
def kk (key : Nat → O.α) (p : Array Nat) (i : Nat) : O.α := key (p.getD i 0)
def Fair (key : Nat → O.α) (N : Nat) (cmp : Nat → Nat → (Bool → Shared → Prop) → Shared → Prop) (s : Shared) : Prop := ∀ i j C, i < N → j < N → C (O.blt (key i) (key j)) s → cmp i j C s
def Pm (N : Nat) (p : Array Nat) : Prop := p.Perm (List.toArray (List.range N))
end
end SrtT
set_option Elab.async false
set_option linter.all false
set_option maxRecDepth 100000
set_option maxHeartbeats 4000000
namespace SrtT
open PySem PyProof.Rows
section
open PySem.SeqAt
open PySem.AutoSeq1 (wpAny_loadPart')
open PySem.MeetsSeq PySem.MeetsSeq2 PySem.MeetsSeq3
end
section
variable {prog : Program} {w : World} {A : Around} {E : Value → Shared → Prop} {s : Shared}
end
end SrtT
set_option Elab.async false
set_option linter.all false
set_option maxRecDepth 100000
set_option maxHeartbeats 4000000
namespace SrtT
open PySem PySem.W PyProof.Rows
section
variable {prog : Program} {w : World} {A : Around} {E : Value → Shared → Prop} {s : Shared} {O : KeyOrd} {key : Nat → O.α} {vs : List Value}
def Look (prog : Program) (w : World) (A : Around) (O : KeyOrd) (key : Nat → O.α) (vs : List Value) (s : Shared) : Prop :=
  ∀ h' : Heap, (∀ b o, s.heap.get? b = some o → h'.get? b = some o) → ∃ κ, (2 ≤ vs.length → ∀ (Q : SortKind → Shared → Prop) (E : Value → Shared → Prop), Q κ { s with heap := h' } → wpAny (model prog w) A (keyKind' vs.toArray) Q E { s with heap := h' }) ∧
    Fair key vs.length (kas_ask prog w A κ vs) { s with heap := h' }
end
end SrtT
namespace L2
open PySem PySem.Spec PyProof.Rows
section
variable {X : Cx}
end
end L2
namespace SrtT
open PySem PySem.W PyProof.Rows
section
variable {prog : Program} {w : World} {A : Around} {E : Value → Shared → Prop} {s : Shared}
end
end SrtT
namespace L2
open PySem PySem.Spec PyProof.Rows
section
variable {X : Cx}
end
end L2
set_option Elab.async false
set_option linter.all false
set_option maxRecDepth 100000
set_option maxHeartbeats 4000000
namespace L2
open PySem PySem.Spec PyProof.Rows
section
variable {X : Cx}
end
end L2
set_option Elab.async false
set_option linter.all false
set_option maxRecDepth 100000
set_option maxHeartbeats 4000000
namespace L2
open PySem PySem.Spec PyProof.Rows
mutual
inductive RdS (S : List Addr) (H : Hp) : V → PyData → Prop
  | non : RdS S H .non .none
  | bl (b : Bool) : RdS S H (.bl b) (.bool b)
  | int (i : Int) : RdS S H (.int i) (.int i)
  | str (x : Str) : RdS S H (.str x) (.str x)
  | lst {a : Addr} {xs : List V} {ds : List PyData} : H a = some (.lst xs) → a ∉ S → RdSs S H xs ds → RdS S H (.ref a) (.list ds)
  | tup {a : Addr} {xs : List V} {ds : List PyData} : H a = some (.tup xs) → a ∉ S → RdSs S H xs ds → RdS S H (.ref a) (.tuple ds)
  | dct {a : Addr} : H a = some (.dK []) → a ∉ S → RdS S H (.ref a) (.dict [])
inductive RdSs (S : List Addr) (H : Hp) : List V → List PyData → Prop
  | nil : RdSs S H [] []
  | cons {x : V} {d : PyData} {xs : List V} {ds : List PyData} : RdS S H x d → RdSs S H xs ds → RdSs S H (x :: xs) (d :: ds)
end
mutual
theorem RdS.move {S S' : List Addr} {H H' : Hp} (k : ∀ b o, b ∉ S → H b = some o → H' b = some o) (ss : ∀ b, b ∉ S → b ∉ S') : ∀ {x : V} {d : PyData}, RdS S H x d → RdS S' H' x d
  | _, _, .non => .non
  | _, _, .bl b => .bl b
  | _, _, .int i => .int i
  | _, _, .str x => .str x
  | _, _, .lst e n r => .lst (k _ _ n e) (ss _ n) (RdSs.move k ss r)
  | _, _, .tup e n r => .tup (k _ _ n e) (ss _ n) (RdSs.move k ss r)
  | _, _, .dct e n => .dct (k _ _ n e) (ss _ n)
theorem RdSs.move {S S' : List Addr} {H H' : Hp} (k : ∀ b o, b ∉ S → H b = some o → H' b = some o) (ss : ∀ b, b ∉ S → b ∉ S') : ∀ {xs : List V} {ds : List PyData}, RdSs S H xs ds → RdSs S' H' xs ds
  | _, _, .nil => .nil
  | _, _, .cons h t => .cons (RdS.move k ss h) (RdSs.move k ss t)
end
section
variable {P : Program} {w : World} {H : Hp} {h : Heap} {S : List Addr}
theorem dict_empty (ok : HOk P w H h) {a : Addr} (e : H a = some (.dK [])) : (a == sysModules) = false ∧ ∃ o n, h.get? a = some o ∧ o.cls = .type "dict" ∧ o.data = .dict #[] n := by
  obtain ⟨_, y, vs, r, o, es, ep, e1, c, d, _, pr, _⟩ := (show ObjOk P w H h a (.dK []) from ok a _ e)
  cases r
  have hl : es.toList.length = 0 := pr.length
  have he : es = #[] := by
    cases es with
    | mk l =>
      have : l = [] := List.length_eq_zero_iff.mp hl
      rw [this]
  rw [he] at d
  exact ⟨y, o, ep, e1, c.1, d⟩
mutual
theorem RdS.shows (ok : HOk P w H h) : ∀ {x : V} {d : PyData} {u : Value}, RdS S H x d → RelV x u → d.showable = true → d.shown.length ≤ sizeLine →
    (∃ as, Reads h u d as) ∧ ∃ bs, ReadAtMost h d.depth bs ∧ ReprK P w bs h d.depth u d.shown
  | _, _, _, .non, r, _, _ => by cases r; exact ⟨⟨_, .none⟩, [], (fun _ h => nomatch h), by simp only [PyData.shown]; exact .of_is ReprIs.none _ _ _⟩
  | _, _, _, .bl b, r, _, _ => by cases r; exact ⟨⟨_, .bool b⟩, [], (fun _ h => nomatch h), by simp only [PyData.shown]; exact .of_is (ReprIs.bool b) _ _ _⟩
  | _, _, _, .int i, r, hs, _ => by obtain ⟨t, rfl⟩ := r; exact ⟨⟨_, .int i t⟩, [], (fun _ h => nomatch h), by simp only [PyData.shown]; exact .of_is (ReprIs.int t (by simpa [PyData.showable] using hs)) _ _ _⟩
  | _, _, _, .str x, r, _, hz => by obtain ⟨t, rfl⟩ := r; exact ⟨⟨_, .str x t⟩, [], (fun _ h => nomatch h), by simp only [PyData.shown]; exact .of_is (ReprIs.str x t (by simpa only [PyData.shown] using hz)) _ _ _⟩
  | _, _, _, .lst (a := a) (ds := ds) e _ ra, r, hs, hz => by
    cases r
    obtain ⟨_, its, n, rv, e1⟩ := (show ObjOk P w H h a (.lst _) from ok a _ e)
    have hz' : (listText (PyData.shownAll ds)).length ≤ sizeLine := by simpa only [PyData.shown] using hz
    obtain ⟨⟨as, rr⟩, bs, hb, hk⟩ := RdSs.shows ok ra rv (by simpa [PyData.showable] using hs) (fun t ht => Nat.le_trans (listText_mem_le ht) hz')
    have rd : Reads h (.ref a) (.list ds) (a :: as) := .list e1 rfl rfl (by simpa using rr)
    have hna : a ∉ bs := not_mem_of_deeper rd (by simp only [PyData.depth]; omega) hb
    refine ⟨⟨_, rd⟩, a :: bs, ReadAtMost.cons rd (by simp only [PyData.depth]; omega) hb, ?_⟩
    simp only [PyData.depth, PyData.shown]
    cases its with
    | nil =>
      cases rr
      simp only [PyData.shownAll, listText_nil]
      exact ReprK.listEmpty e1 rfl rfl
    | cons x l => exact ReprK.list e1 rfl rfl hna (by simpa using hk.length_eq) (fun i y e => hk.item i y (by simpa using e))
  | _, _, _, .tup (a := a) (ds := ds) e _ ra, r, hs, hz => by
    cases r
    obtain ⟨_, its, rv, o, e1, c, n, dt⟩ := (show ObjOk P w H h a (.tup _) from ok a _ e)
    have hz' : (tupleText (PyData.shownAll ds)).length ≤ sizeLine := by simpa only [PyData.shown] using hz
    obtain ⟨⟨as, rr⟩, bs, hb, hk⟩ := RdSs.shows ok ra rv (by simpa [PyData.showable] using hs) (fun t ht => Nat.le_trans (tupleText_mem_le ht) hz')
    have rd : Reads h (.ref a) (.tuple ds) as := .tuple e1 c dt (by simpa using rr)
    have hna : a ∉ bs := not_mem_of_deeper rd (by simp only [PyData.depth]; omega) hb
    refine ⟨⟨_, rd⟩, a :: bs, ReadAtMost.cons rd (by simp only [PyData.depth]; omega) hb, ?_⟩
    simp only [PyData.depth, PyData.shown]
    exact ReprK.tuple e1 c dt hna (by simpa using hk)
  | _, _, _, .dct (a := a) e _, r, hs, hz => by
    cases r
    obtain ⟨hsys, o, n, e1, c, dt⟩ := dict_empty ok e
    have rd : Reads h (.ref a) (.dict []) (a :: [] ++ []) := .dict (kvs := []) e1 c dt .nil .nil
    refine ⟨⟨_, rd⟩, a :: [], ReadAtMost.cons (n := 0) rd (Nat.zero_le _) (fun _ h => nomatch h), ?_⟩
    simp only [PyData.depth, PyData.depthKv, PyData.shown, PyData.shownKv]
    exact ReprK.dict e1 c dt hsys (by simp) .nil
theorem RdSs.shows (ok : HOk P w H h) : ∀ {xs : List V} {ds : List PyData} {us : List Value}, RdSs S H xs ds → Vals xs us → PyData.showableAll ds = true → (∀ t ∈ PyData.shownAll ds, t.length ≤ sizeLine) →
    (∃ as, ReadsAll h us ds as) ∧ ∃ bs, ReadAtMost h (PyData.depthAll ds) bs ∧ ReprAllK P w bs h (PyData.depthAll ds) us (PyData.shownAll ds)
  | _, _, _, .nil, .nil, _, _ => ⟨⟨_, .nil⟩, [], (fun _ h => nomatch h), by simp only [PyData.shownAll]; exact .nil⟩
  | _, _, _, .cons (d := d) (ds := ds) r rs, .cons v vs, hs, hz => by
    have hs' : d.showable = true ∧ PyData.showableAll ds = true := by simpa [PyData.showableAll] using hs
    obtain ⟨⟨a1, r1⟩, b1, hb1, k1⟩ := RdS.shows ok r v hs'.1 (hz _ (by simp only [PyData.shownAll]; exact List.mem_cons_self ..))
    obtain ⟨⟨a2, r2⟩, b2, hb2, k2⟩ := RdSs.shows ok rs vs hs'.2 (fun t ht => hz t (by simp only [PyData.shownAll]; exact List.mem_cons_of_mem _ ht))
    refine ⟨⟨_, .cons r1 r2⟩, b1 ++ b2, ?_, ?_⟩
    · simp only [PyData.depthAll]
      exact (hb1.mono (Nat.le_max_left _ _)).append (hb2.mono (Nat.le_max_right _ _))
    · simp only [PyData.depthAll, PyData.shownAll]
      exact .cons ((k1.more fun b hb => List.mem_append_left _ hb).level_le (Nat.le_max_left _ _)) (k2.more_le (fun b hb => List.mem_append_right _ hb) (Nat.le_max_right _ _))
end
end
section
variable {X : Cx}
theorem Inv.big {pins : List (Addr × Obj)} {σ : St} {H : Hp} {s : Shared} (I : Inv X pins σ H s) : sysModules < s.heap.objs.size := by
  have h : mainGlobals < s.heap.objs.size := (I.mod.glob.keeps I.bk).lt
  exact Nat.lt_trans (by decide) h
end
end L2
set_option Elab.async false
set_option linter.all false
set_option maxRecDepth 100000
set_option maxHeartbeats 4000000
namespace L2
open PySem PySem.Spec PyProof.Rows
end L2
set_option Elab.async false
set_option linter.all false
set_option maxRecDepth 100000
set_option maxHeartbeats 4000000
namespace L2
open PySem PySem.Spec PyProof.Rows PySem.Calls
section
variable {prog : Program} {w : World} {A : Around} {E : Value → Shared → Prop} {s : Shared}
end
end L2
set_option Elab.async false
set_option linter.all false
set_option maxRecDepth 100000
set_option maxHeartbeats 4000000
namespace L2
open PySem PySem.Spec PyProof.Rows
end L2
set_option Elab.async false
set_option linter.all false
set_option maxRecDepth 100000
set_option maxHeartbeats 4000000
namespace L2
open PySem PySem.Spec PyProof.Rows
section
variable {X : Cx} {N' : List Str} {scope osc : Scope} {cl : List (Str × Addr)} {C : Addr} {ex : List Addr} {ix : List (Option Nat)} {pins : List (Addr × Obj)} {σ : St} {H2 : Hp} {s2 : Shared}
end
end L2
set_option maxRecDepth 100000
namespace L2
open PySem PySem.Spec PyProof.Rows
section
variable {P : Program} {w : World} {l : List Env} {H H' : Hp} {s s1 : Shared} {e : Addr} {cls fl : Value}
end
section
variable {X : Cx} {pins : List (Addr × Obj)} {σ : St} {H H' : Hp} {s s' : Shared} {e : Addr} {cls fl : Value}
end
section
variable {P : Program} {w : World} {K : PySem.W.Frag} {mg : Str → Option Value} {base : Heap} {N : List Str} {qual : Str} {scope : Scope} {f : Addr} {cd : Value} {A : Around} {outer : List Env} {s : Shared} {H : Hp} {E : XK}
end
section
variable {P : Program} {w : World} {K : PySem.W.Frag} {mg : Str → Option Value} {base : Heap} {j k : Nat} {x : Str} {ps : List Str} {sp sp' : Sp}
end
section
variable {X : Cx} {k : Nat} {x : Str} {ps : List Str} {sp : Sp} {e : Expr} {es : List Expr} {t : TA} {p pos : Pos} {R : St → Value → Hp → Prop}
end
end L2
set_option maxRecDepth 100000
namespace L2
open PySem PySem.Spec PySem.Calls PyProof.Rows
open Builtin Builtin.ObjectAttr Builtin.Getset_descriptor
section
variable {K : PySem.W.Frag} {C e : Addr}
end
end L2
set_option maxRecDepth 100000
namespace L2
open PySem PySem.Spec PySem.Calls PyProof.Rows
section
variable {X : Cx} {pins pn : List (Addr × Obj)} {W : Value → Shared → Prop} {σ : St} {H : Hp} {s : Shared} {v : Value}
end
section
variable {X : Cx}
end
end L2
set_option Elab.async false
set_option linter.all false
set_option maxRecDepth 100000
set_option maxHeartbeats 4000000
namespace L2
open PySem PySem.Spec PyProof.Rows
section
variable {P : Program} {w : World} {K : PySem.W.Frag} {mg : Str → Option Value} {base : Heap} {j k : Nat} {C : Addr} {m qual : Str} {ps : List Str} {sp sp' : Sp}
end
section
variable {X : Cx} {k : Nat} {C : Addr} {m : Str} {ps : List Str} {sp : Sp} {e o : Expr} {es : List Expr} {ta : TE} {t : TA} {apos pos : Pos} {R : St → Value → Hp → Prop}
end
end L2
set_option Elab.async false
set_option linter.all false
set_option maxRecDepth 100000
set_option maxHeartbeats 4000000
namespace L2
open PySem PySem.Spec PyProof.Rows
section
variable {prog : Program} {w : World} {A : Around} {R : Result → Shared → Prop} {I : Addr} {fp wr : List Addr} {n : Nat} {P : Nat → Value → Prop} {St : Nat → Heap → Prop}
end
end L2
set_option Elab.async false
set_option linter.all false
set_option maxRecDepth 100000
set_option maxHeartbeats 4000000
namespace L2
open PySem PySem.Spec PyProof.Rows
section
variable {prog : Program} {w : World} {A : Around} {E : Value → Shared → Prop} {s : Shared}
end
end L2
set_option Elab.async false
set_option linter.all false
set_option maxRecDepth 100000
set_option maxHeartbeats 4000000
namespace L2
open PySem PySem.Spec PyProof.Rows
section
variable {X : Cx} {tg : Expr}
end
end L2
set_option Elab.async false
set_option linter.all false
set_option maxRecDepth 100000
set_option maxHeartbeats 4000000
namespace L2
open PySem PySem.Spec PyProof.Rows
section
variable {X : Cx}
def rStrI : List V → Hp → VK → Prop := fun xs H Q => ∃ n : Int, xs = [.int n] ∧ n.natAbs.log2 < 1920 ∧ Q (.str (Str.ofString (toString n))) H
theorem call_strI : CallR X (.type "str") rStrI := by
  intro pins s σ H xs us Q I rv h
  obtain ⟨n, rfl, hn, q⟩ := h
  obtain ⟨u, rfl, ru⟩ := rv.one
  obtain ⟨t, rfl⟩ := ru
  exact P.str_of_int hn ⟨.str _, H, I.tok _, ⟨_, rfl⟩, q⟩
def rIntT : List V → Hp → VK → Prop := fun xs H Q => ∃ (x : Str) (n : Int), xs = [.str x] ∧ intText? x = some n ∧ x.length ≤ 640 ∧ Q (.int n) H
theorem call_intT : CallR X (.type "int") rIntT := by
  intro pins s σ H xs us Q I rv h
  obtain ⟨x, n, rfl, hn, hl, q⟩ := h
  obtain ⟨u, rfl, ru⟩ := rv.one
  obtain ⟨t, rfl⟩ := ru
  exact PySem.W.KIN.call_text hn hl ⟨.int n, H, I.tok _, ⟨_, rfl⟩, q⟩
theorem vals_strs : ∀ {ws : List Str} {us : List Value}, Vals (ws.map V.str) us → ∃ l : List (Str × Tok), strValues l = us ∧ l.map (·.1) = ws
  | [], [], _ => ⟨[], rfl, rfl⟩
  | w :: ws, _, .cons r rr => by
    obtain ⟨t, rfl⟩ := r
    obtain ⟨l, rfl, e⟩ := vals_strs rr
    exact ⟨(w, t) :: l, rfl, by rw [List.map_cons, e]⟩
theorem strs_vals : ∀ l : List (Str × Tok), Vals ((l.map (·.1)).map V.str) (strValues l)
  | [] => .nil
  | (w, t) :: l => .cons ⟨t, rfl⟩ (strs_vals l)
def rJoin : V → List V → Hp → VK → Prop := fun x vs H Q => ∃ (sep : Str) (l : Addr) (ws : List Str), x = .str sep ∧ vs = [.ref l] ∧ H l = some (.lst (ws.map V.str)) ∧ JoinOk sep ws = true ∧ Q (.str (Txt.join sep ws)) H
theorem mt_join : MtR X "str.join" rJoin := by
  intro pins s σ H x vs v us Q I rx rv h
  obtain ⟨sep, l, ws, rfl, rfl, hH, hok, q⟩ := h
  obtain ⟨t, rfl⟩ := rx
  obtain ⟨u, rfl, ru⟩ := rv.one
  cases ru
  obtain ⟨its, n, r, e, z⟩ := I.lst hH
  obtain ⟨ls, rfl, ew⟩ := vals_strs r
  exact SC.join ⟨_, e, rfl, n, rfl⟩ ew hok fun t' k => ⟨.str _, H, I.tok _, ⟨_, rfl⟩, q⟩
def rSplit : V → List V → Hp → VK → Prop := fun x vs H Q => ∃ (z y : Str), x = .str z ∧ vs = [.str y] ∧ (y.length == 0) = false ∧ z.length ≤ 100000 ∧ ∀ p, H p = none → Q (.ref p) (upd H p (.lst ((Txt.split z y).map V.str)))
theorem parts_len (z y : Str) : (Builtin.Str.partsBetween z (Builtin.Str.occurrences z y 0 z.length (z.length + 1)) y.length).length ≤ z.length + 2 := by
  unfold Builtin.Str.partsBetween
  have h := StrLaws.occ_length_le z y 0 z.length (z.length + 1)
  rw [List.length_map, List.length_zip, List.length_cons, List.length_map, List.length_append, List.length_singleton, Nat.min_self]
  omega
theorem split_len (z y : Str) : (Txt.split z y).length ≤ z.length + 2 := by
  unfold Txt.split
  split
  · simp
  · split
    · simp
    · exact parts_len z y
theorem mt_split : MtR X "str.split" rSplit := by
  intro pins s σ H x vs v us Q I rx rv h
  obtain ⟨z, y, rfl, rfl, hy, hz, q⟩ := h
  obtain ⟨t, rfl⟩ := rx
  obtain ⟨u, rfl, ru⟩ := rv.one
  obtain ⟨tu, rfl⟩ := ru
  have fin : ∀ (l : List (Str × Tok)) (tk : Nat), l.map (·.1) = Txt.split z y → EP X pins σ Q (.ref s.heap.objs.size) { s with heap := s.heap.push { cls := .type "list", data := .seq (strValues l).toArray }, toks := tk } := fun l tk e => by
    have hl := split_len z y
    have hv := strs_vals l
    rw [e] at hv
    exact ⟨.ref _, _, I.lnew (t' := tk) hv (by rw [List.length_map, sizeLine_eq]; omega), rfl, q _ I.fresh⟩
  have hsz : z.length ≤ sizeLine := by rw [sizeLine_eq]; omega
  have hsz2 : (Builtin.Str.partsBetween z (Builtin.Str.occurrences z y 0 z.length (z.length + 1)) y.length).length ≤ sizeLine := by have := parts_len z y; rw [sizeLine_eq]; omega
  cases h1 : (decide (z.length < y.length) || decide (Builtin.Str.strKind z < Builtin.Str.strKind y))
  · cases hf : (Builtin.Str.occurrences z y 0 z.length (z.length + 1)).isEmpty
    · refine call_meets F.slot_str_split (typeIs_str _ _ _) F.entry_str_split (F.args_str_split_2 _ _) (meets_str_split_sep z y t tu h1 hy hf hsz hsz2) ?_
      show EP X pins σ Q (.ref s.heap.objs.size) { s with toks := _, heap := s.heap.push { cls := .type "list", data := .seq (strsFrom s.toks (Builtin.Str.partsBetween z (Builtin.Str.occurrences z y 0 z.length (z.length + 1)) y.length)).toArray } }
      rw [strsFrom_eq]
      exact fin _ _ ((numbered_texts _ _).trans ((if_neg (ne_true_of_eq_false h1)).trans (if_neg (ne_true_of_eq_false hf))).symm)
    · exact call_meets F.slot_str_split (typeIs_str _ _ _) F.entry_str_split (F.args_str_split_2 _ _) (meets_str_split_not_found z y t tu h1 hy hf) (fin [(z, t)] s.toks ((if_neg (ne_true_of_eq_false h1)).trans (if_pos hf)).symm)
  · exact call_meets F.slot_str_split (typeIs_str _ _ _) F.entry_str_split (F.args_str_split_2 _ _) (meets_str_split_cannot_occur z y t tu h1) (fin [(z, t)] s.toks (if_pos h1).symm)
def rStarts : V → List V → Hp → VK → Prop := fun x vs H Q => ∃ (z y : Str), x = .str z ∧ vs = [.str y] ∧ Q (.bl (Txt.startswith z y)) H
theorem mt_starts : MtR X "str.startswith" rStarts := by
  intro pins s σ H x vs v us Q I rx rv h
  obtain ⟨z, y, rfl, rfl, q⟩ := h
  obtain ⟨t, rfl⟩ := rx
  obtain ⟨u, rfl, ru⟩ := rv.one
  obtain ⟨tu, rfl⟩ := ru
  exact SC.startswith ⟨.bl _, H, I, rfl, q⟩
end
def Its (z : Str) : It where
  go := fun i _ => i < z.cps.size
  yld := fun i H x H' => H' = H ∧ ∃ c, z.cps[i]? = some c ∧ x = .str ⟨#[c]⟩
  stop := fun i _ => z.cps.size ≤ i
end L2
set_option Elab.async false
set_option linter.all false
set_option maxRecDepth 100000
set_option maxHeartbeats 4000000
namespace L2
open PySem PySem.Spec PyProof.Rows
theorem itType (z : Str) : strIterType z = "str_ascii_iterator" ∨ strIterType z = "str_iterator" := by
  unfold strIterType
  split
  · exact .inl rfl
  · exact .inr rfl
theorem turn_str {P : Program} {w : World} {K : PySem.W.Frag} {tg : Expr} (z : Str) (t : Tok) (it : Addr) : Turn P w K tg (Its z) [it] it (fun i h => h.IsStrIter it (strIterType z) z t i) where
  mem := by simp
  obj := fun i h st b hb => by
    have e : b = it := by simpa using hb
    subst e
    obtain ⟨o, e, c, d⟩ := st
    exact ⟨o, e, fun v z => by rw [d] at z; cases z⟩
  keep := fun i h h' ⟨o, e, c, d⟩ k => ⟨o, k it (by simp) o e, c, d⟩
  item := by
    intro X hP hw hK hc i pins s σ H E I hf st hg
    subst hP hw hK
    have hg : i < z.cps.size := hg
    have hx : z.cps[i]? = some z.cps[i] := by simp [hg]
    obtain ⟨f0, f1, f2, f3, f4, f5⟩ := hf it (by simp)
    have fin : ∀ h', h'.IsStrIter it (strIterType z) z t (i + 1) → Heap.SameBut it s.heap h' → ∃ u, some (Value.str ⟨#[z.cps[i]]⟩ s.toks) = some u ∧ wpAny (model X.prog X.w) X.A (letOwnedTupleGo tg (.ref it) u) (fun _ s2 => ∃ x H', Inv X pins σ H' s2 ∧ RelV x u ∧ (Its z).yld i H x H' ∧ s2.heap.IsStrIter it (strIterType z) z t (i + 1) ∧ ∀ b ∈ [it], H' b = none) E { s with heap := h', toks := s.toks + 1 } := fun h' st' sb => by
      have I1 : Inv X pins σ H { s with heap := h', toks := s.toks + 1 } := I.turned (t' := s.toks + 1) (fun b o hb e => (sb.2 b hb).trans e) f0 f1 f3 f4 f5
      obtain ⟨o, e, c, d⟩ := id st'
      refine ⟨_, rfl, go_of (s := { s with heap := h', toks := s.toks + 1 }) e c d ?_ ⟨.str ⟨#[z.cps[i]]⟩, H, I1, ⟨_, rfl⟩, ⟨rfl, _, hx, rfl⟩, st', fun b hb => (hf b hb).1⟩⟩
      unfold strIterType
      split <;> decide
    have e2 := itType z
    generalize strIterType z = ty at st fin e2 ⊢
    rcases e2 with rfl | rfl
    · exact wpAny_pyNext_ascii_item st hx fin
    · exact wpAny_pyNext_wide_item st hx fin
  done := by
    intro X hP hw hK hc i pins s σ H E I hf st hg
    subst hP hw hK
    have hg : z.cps.size ≤ i := hg
    have hx : z.cps[i]? = none := by simp [hg]
    obtain ⟨f0, f1, f2, f3, f4, f5⟩ := hf it (by simp)
    unfold strIterType at st
    split at st
    · exact wpAny_pyNext_ascii_end (I.ok.hd hc) st hx fun h' eb => ⟨rfl, I.turned (t' := s.toks) (fun b o hb e => eb b o hb e) f0 f1 f3 f4 f5⟩
    · exact wpAny_pyNext_wide_end (I.ok.hd hc) st hx fun h' eb => ⟨rfl, I.turned (t' := s.toks) (fun b o hb e => eb b o hb e) f0 f1 f3 f4 f5⟩
  self := fun A i s Q E st h => by
    unfold strIterType at st
    split at st
    · exact wpAny_pyIter_striter_ascii st h
    · exact wpAny_pyIter_striter_wide st h
section
variable {X : Cx} {tg : Expr}
def iStr (tl : TE) : TI := fun σ H R => tl σ H fun x H1 => ∃ z, x = .str z ∧ R (Its z) H1
theorem pi_str {l : Expr} {tl : TE} (hl : PE X l tl) : PI X tg l (iStr tl) := by
  intro pins s σ H R I h
  refine thn (hl pins s σ H _ I h) fun v s1 ⟨x, H1, I1, r1, q1⟩ => ?_
  obtain ⟨z, e, q⟩ := q1
  subst e
  obtain ⟨t, rfl⟩ := r1
  refine wpAny_pyIter_strU ?_
  refine ⟨s1.heap.objs.size, [s1.heap.objs.size], _, _, H1, rfl, I1.kept (t' := s1.toks) fun b o e => Heap.get?_push_of_some _ e, turn_str z t _, ⟨_, Heap.get?_push_size _ rfl, rfl, rfl⟩, fun b hb => ?_, q⟩
  have e : b = s1.heap.objs.size := by simpa using hb
  subst e
  exact I1.fpOk (Nat.le_refl _) (I1.hok.fresh (Nat.le_refl _))
def rSlS : V → Option Int → Option Int → Hp → VK → Prop := fun x lo hi H Q => ∃ z : Str, x = .str z ∧ z.length ≤ sizeLine ∧ Q (.str (Txt.slice z lo hi)) H
theorem sl_str : SlR X rSlS := by
  intro pins s σ H x v vl vu lo hi sl Q I rx hs pl pu h
  obtain ⟨z, rfl, hz, q⟩ := h
  obtain ⟨t, rfl⟩ := rx
  refine ⟨"str", _, F.slot_str_getitem.lookup, typeIs_str _ _ _, ?_⟩
  have fin : ∀ t' k, EP X pins σ Q (.str (Txt.slice z lo hi) t') { s with toks := k } := fun t' k => ⟨.str _, H, I.tok _, ⟨_, rfl⟩, q⟩
  cases pl with
  | none =>
    cases pu with
    | none => exact wpAny_getItem_str_slice (l := none) (u := none) (st := none) hs rfl (post_val_or_str ⟨Nat.le_trans (Txt.slice_le z _ _) hz, fin⟩)
    | int j tj => exact wpAny_getItem_str_slice (l := none) (u := some (j, tj)) (st := none) hs rfl (post_val_or_str ⟨Nat.le_trans (Txt.slice_le z _ _) hz, fin⟩)
  | int i ti =>
    cases pu with
    | none => exact wpAny_getItem_str_slice (l := some (i, ti)) (u := none) (st := none) hs rfl (post_val_or_str ⟨Nat.le_trans (Txt.slice_le z _ _) hz, fin⟩)
    | int j tj => exact wpAny_getItem_str_slice (l := some (i, ti)) (u := some (j, tj)) (st := none) hs rfl (post_val_or_str ⟨Nat.le_trans (Txt.slice_le z _ _) hz, fin⟩)
end
end L2
set_option Elab.async false
set_option linter.all false
set_option maxRecDepth 100000
set_option maxHeartbeats 4000000
namespace L2
open PySem PySem.Spec PyProof.Rows
section
variable {κ : Type} [DecidableEq κ]
def valV (kvs : List (κ × V)) (k : κ) : Option V := (kvs.find? fun kv => decide (kv.1 = k)).map (·.2)
def putK (kvs : List (κ × V)) (k : κ) (v : V) : List (κ × V) :=
  if (kvs.any fun kv => decide (kv.1 = k)) = true then kvs.map (fun kv => if kv.1 = k then (kv.1, v) else kv) else kvs ++ [(k, v)]
theorem valV_pos {p : κ × V} {r : List (κ × V)} {k : κ} (e : p.1 = k) : valV (p :: r) k = some p.2 := by simp [valV, List.find?_cons, e]
theorem valV_neg {p : κ × V} {r : List (κ × V)} {k : κ} (e : ¬ p.1 = k) : valV (p :: r) k = valV r k := by simp [valV, List.find?_cons, e]
theorem valV_any (k : κ) : ∀ kvs : List (κ × V), (kvs.any fun kv => decide (kv.1 = k)) = (valV kvs k).isSome
  | [] => rfl
  | p :: r => by
    rw [List.any_cons]
    by_cases e : p.1 = k
    · simp only [valV_pos e, decide_eq_true e, Bool.true_or, Option.isSome_some]
    · rw [valV_neg e, decide_eq_false e, Bool.false_or]; exact valV_any k r
theorem valV_map (k j : κ) (y : V) : ∀ kvs : List (κ × V), valV (kvs.map fun kv => if kv.1 = k then (kv.1, y) else kv) j = (valV kvs j).map fun x => if j = k then y else x
  | [] => rfl
  | p :: r => by
    have ih := valV_map k j y r
    rw [List.map_cons]
    by_cases h : p.1 = k
    · rw [if_pos h]
      by_cases e : p.1 = j
      · rw [valV_pos (p := (p.1, y)) e, valV_pos e, Option.map_some, if_pos (e.symm.trans h)]
      · rw [valV_neg (p := (p.1, y)) e, valV_neg e, ih]
    · rw [if_neg h]
      by_cases e : p.1 = j
      · rw [valV_pos (p := p) e, valV_pos e, Option.map_some, if_neg (fun z => h (e.trans z))]
      · rw [valV_neg (p := p) e, valV_neg e, ih]
theorem valV_snoc (k j : κ) (y : V) : ∀ kvs : List (κ × V), valV kvs k = none → valV (kvs ++ [(k, y)]) j = if j = k then some y else valV kvs j
  | [], _ => by
    by_cases e : k = j
    · rw [if_pos e.symm]; exact valV_pos (p := (k, y)) e
    · rw [if_neg (fun z => e z.symm)]; exact valV_neg (p := (k, y)) e
  | p :: r, hn => by
    rw [List.cons_append]
    have hk : ¬ p.1 = k := fun z => by rw [valV_pos z] at hn; cases hn
    rw [valV_neg hk] at hn
    have ih := valV_snoc k j y r hn
    by_cases e : p.1 = j
    · rw [valV_pos e, valV_pos e, if_neg (fun z => hk (e.trans z))]
    · rw [valV_neg e, valV_neg e, ih]
theorem valV_put (kvs : List (κ × V)) (k j : κ) (y : V) : valV (putK kvs k y) j = if j = k then some y else valV kvs j := by
  unfold putK
  by_cases a : (kvs.any fun kv => decide (kv.1 = k)) = true
  · rw [if_pos a, valV_map]
    rw [valV_any] at a
    by_cases e : j = k
    · obtain ⟨x, hx⟩ := Option.isSome_iff_exists.mp a
      rw [if_pos e, e, hx, Option.map_some, if_pos rfl]
    · rw [if_neg e]
      cases valV kvs j with
      | none => rfl
      | some x => rw [Option.map_some, if_neg e]
  · rw [if_neg a]
    refine valV_snoc k j y kvs ?_
    rw [valV_any] at a
    cases q : valV kvs k with
    | none => rfl
    | some x => rw [q] at a; exact (a rfl).elim
theorem length_putK (kvs : List (κ × V)) (k : κ) (v : V) : (putK kvs k v).length ≤ kvs.length + 1 := by
  unfold putK
  split
  · rw [List.length_map]; omega
  · rw [List.length_append, List.length_cons, List.length_nil]; omega
theorem RelO.isSome_eq {o : Option V} {u : Option Value} (r : RelO o u) : o.isSome = u.isSome := by
  cases o with
  | none => cases u with
    | none => rfl
    | some _ => exact (show False from r).elim
  | some _ => cases u with
    | none => exact (show False from r).elim
    | some _ => rfl
theorem RelO.getD {o : Option V} {u : Option Value} {d : V} {d' : Value} (r : RelO o u) (rd : RelV d d') : RelV (o.getD d) (u.getD d') := by
  cases o with
  | none => cases u with
    | none => exact rd
    | some _ => exact (show False from r).elim
  | some _ => cases u with
    | none => exact (show False from r).elim
    | some _ => exact r
theorem KV.val {kvs : List (κ × V)} {vs : List (κ × Value)} (r : KV kvs vs) (k : κ) : RelO (valV kvs k) (valueAt vs k) := by
  unfold KV at r
  induction r with
  | nil => exact True.intro
  | @cons p q ps qs h t ih =>
    obtain ⟨h1, h2⟩ := h
    by_cases e : p.1 = k
    · have e' : q.1 = k := h1.symm.trans e
      have b : valueAt (q :: qs) k = some q.2 := by simp [valueAt, List.find?_cons, e']
      rw [valV_pos e, b]; exact h2
    · have e' : ¬ q.1 = k := fun z => e (h1.trans z)
      have b : valueAt (q :: qs) k = valueAt qs k := by simp [valueAt, List.find?_cons, e']
      rw [valV_neg e, b]; exact ih
theorem KV.any {kvs : List (κ × V)} {vs : List (κ × Value)} (r : KV kvs vs) (k : κ) : (kvs.any fun kv => decide (kv.1 = k)) = vs.any fun kv => decide (kv.1 = k) := by
  unfold KV at r
  induction r with
  | nil => rfl
  | cons h t ih => rw [List.any_cons, List.any_cons, ih, h.1]
theorem KV.repl {kvs : List (κ × V)} {vs : List (κ × Value)} (r : KV kvs vs) (k : κ) {y : V} {u : Value} (ry : RelV y u) :
    KV (kvs.map fun kv => if kv.1 = k then (kv.1, y) else kv) (vs.map fun kv => if kv.1 = k then (kv.1, u) else kv) := by
  unfold KV at r ⊢
  induction r with
  | nil => exact .nil
  | @cons p q ps qs h t ih =>
    rw [List.map_cons, List.map_cons]
    refine .cons ?_ ih
    obtain ⟨h1, h2⟩ := h
    by_cases e : p.1 = k
    · rw [if_pos e, if_pos (h1.symm.trans e)]; exact ⟨h1, ry⟩
    · rw [if_neg e, if_neg (fun z => e (h1.trans z))]; exact ⟨h1, h2⟩
theorem KV.put {kvs : List (κ × V)} {vs : List (κ × Value)} (r : KV kvs vs) (k : κ) {y : V} {u : Value} (ry : RelV y u) : KV (putK kvs k y) (stored vs k u) := by
  unfold putK stored
  rw [r.any k]
  by_cases e : (vs.any fun kv => decide (kv.1 = k)) = true
  · rw [if_pos e, if_pos e]; exact r.repl k ry
  · rw [if_neg e, if_neg e]; exact Paired.snoc r ⟨rfl, ry⟩
theorem KV.length {kvs : List (κ × V)} {vs : List (κ × Value)} (r : KV kvs vs) : kvs.length = vs.length := Paired.length r
end
theorem kV_is {P : Program} {w : World} {k : Key} {u : Value} (r : RelV (kV k) u) : (mixKind P w).is k u = true := by
  cases k with
  | inl i => obtain ⟨t, e⟩ := (show ∃ t, u = Value.int i t from r); subst e; exact mixKind_int P w i t
  | inr x => obtain ⟨t, e⟩ := (show ∃ t, u = Value.str x t from r); subst e; exact mixKind_str P w x t
theorem items_are {P : Program} {w : World} : ∀ {ks : List Key} {us : List Value}, Vals (ks.map kV) us → ItemsAre (mixKind P w) ks us
  | [], _, r => by rw [List.map_nil] at r; cases r; exact .nil
  | k :: ks, _, r => by
    rw [List.map_cons] at r
    cases r with
    | cons h t => exact .cons (kV_is h) (items_are t)
abbrev KT (H : Hp) : List (List Key × V) → List (List Key × Addr × Value) → Prop := Paired fun p q => p.1 = q.1 ∧ H q.2.1 = some (.tup (p.1.map kV)) ∧ RelV p.2 q.2.2
theorem KT.val {H : Hp} {kvs : List (List Key × V)} {xs : List (List Key × Addr × Value)} (r : KT H kvs xs) (k : List Key) : RelO (valV kvs k) ((atKey xs k).map (·.2)) := by
  induction r with
  | nil => exact True.intro
  | @cons p q ps qs h t ih =>
    obtain ⟨h1, _, h2⟩ := h
    by_cases e : p.1 = k
    · have e' : q.1 = k := h1.symm.trans e
      have b : atKey (q :: qs) k = some q.2 := by simp [atKey, List.find?_cons, e']
      rw [valV_pos e, b]; exact h2
    · have e' : ¬ q.1 = k := fun z => e (h1.trans z)
      have b : atKey (q :: qs) k = atKey qs k := by simp [atKey, List.find?_cons, e']
      rw [valV_neg e, b]; exact ih
theorem KT.repl {H : Hp} {kvs : List (List Key × V)} {xs : List (List Key × Addr × Value)} (r : KT H kvs xs) (k : List Key) {y : V} {u : Value} (ry : RelV y u) :
    KT H (kvs.map fun kv => if kv.1 = k then (kv.1, y) else kv) (xs.map (putAt k u)) := by
  induction r with
  | nil => exact .nil
  | @cons p q ps qs h t ih =>
    rw [List.map_cons, List.map_cons]
    refine .cons ?_ ih
    obtain ⟨h1, h2, h3⟩ := h
    unfold putAt
    by_cases e : p.1 = k
    · rw [if_pos e, if_pos (h1.symm.trans e)]; exact ⟨h1, h2, ry⟩
    · rw [if_neg e, if_neg (fun z => e (h1.trans z))]; exact ⟨h1, h2, h3⟩
theorem KT.put {H : Hp} {kvs : List (List Key × V)} {xs : List (List Key × Addr × Value)} (r : KT H kvs xs) (k : List Key) {b : Addr} {y : V} {u : Value} (hb : H b = some (.tup (k.map kV))) (ry : RelV y u) :
    KT H (putK kvs k y) (storedH xs k b u) := by
  have e : (kvs.any fun kv => decide (kv.1 = k)) = (atKey xs k).isSome := by
    rw [valV_any, (r.val k).isSome_eq, Option.isSome_map]
  unfold putK storedH
  rw [e]
  by_cases q : (atKey xs k).isSome = true
  · rw [if_pos q, if_pos q]; exact r.repl k ry
  · rw [if_neg q, if_neg q]; exact Paired.snoc r ⟨rfl, hb, ry⟩
theorem KT.keeps {H H' : Hp} {kvs : List (List Key × V)} {xs : List (List Key × Addr × Value)} (r : KT H kvs xs) (ht : ∀ b ys, H b = some (.tup ys) → H' b = some (.tup ys)) : KT H' kvs xs :=
  Paired.mapP r fun _ _ z => ⟨z.1, ht _ _ z.2.1, z.2.2⟩
section
variable {P : Program} {w : World} {H : Hp} {h : Heap} {a : Addr}
theorem rd_of {u : HO} (ok : HOk P w H h) (e : Rd H a u) : ObjOk P w H h a u := e.ok ok
theorem dk_rd {kvs : List (Key × V)} (ok : HOk P w H h) (e : Rd H a (.dK kvs)) : kvs.length ≤ sizeLine ∧ (a == sysModules) = false ∧ ∃ vs, KV kvs vs ∧ h.DictOf (mixKind P w) a vs :=
  show ObjOk P w H h a (.dK kvs) from rd_of ok e
theorem dk_of {kvs : List (Key × V)} (ok : HOk P w H h) (e : H a = some (.dK kvs)) : kvs.length ≤ sizeLine ∧ (a == sysModules) = false ∧ ∃ vs, KV kvs vs ∧ h.DictOf (mixKind P w) a vs := dk_rd ok (.inl e)
theorem key_of {ks : List Key} (ok : HOk P w H h) (e : H a = some (.tup (ks.map kV))) : (tupleKind (mixKind P w)).is h ks a := by
  obtain ⟨_, its, r, o, h1, h2, n, h3⟩ := (show ObjOk P w H h a (.tup (ks.map kV)) from ok a _ e)
  exact ⟨o, its.toArray, n, h1, h2, h3, by simpa using items_are r⟩
theorem dt_rd {kvs : List (List Key × V)} (ok : HOk P w H h) (e : Rd H a (.dT kvs)) : kvs.length ≤ sizeLine ∧ (a == sysModules) = false ∧
    ∃ xs, KT H kvs xs ∧ h.DictOfH (tupleKind (mixKind P w)) a xs := by
  obtain ⟨z, y, xs, r, o, es, ep, h1, h2, h3, h4, h5⟩ := (show ObjOk P w H h a (.dT kvs) from rd_of ok e)
  refine ⟨z, y, xs, r, o, es, ep, h1, h2, h3, h4, fun x hx => ?_, h5⟩
  have all : ∀ {l : List (List Key × V)} {m : List (List Key × Addr × Value)}, KT H l m → ∀ x ∈ m, (tupleKind (mixKind P w)).is h x.1 x.2.1 := by
    intro l m q
    induction q with
    | nil => intro x hx; exact nomatch hx
    | @cons p q ps qs hq t ih =>
      intro x hx
      rcases List.mem_cons.mp hx with e | hx
      · subst e
        exact key_of ok (by rw [← hq.1]; exact hq.2.1)
      · exact ih x hx
  exact all r x hx
theorem dt_of {kvs : List (List Key × V)} (ok : HOk P w H h) (e : H a = some (.dT kvs)) : kvs.length ≤ sizeLine ∧ (a == sysModules) = false ∧
    ∃ xs, KT H kvs xs ∧ h.DictOfH (tupleKind (mixKind P w)) a xs := dt_rd ok (.inl e)
end
def DGet (H : Hp) (a : Addr) (y : V) (r : Option V) : Prop :=
  (∃ kvs k, Rd H a (.dK kvs) ∧ y = kV k ∧ r = valV kvs k) ∨ ∃ kvs k b, Rd H a (.dT kvs) ∧ y = .ref b ∧ H b = some (.tup (k.map kV)) ∧ r = valV kvs k
def DPut (H : Hp) (a : Addr) (y v : V) (H' : Hp) : Prop :=
  (∃ kvs k, H a = some (.dK kvs) ∧ y = kV k ∧ kvs.length < sizeLine ∧ H' = upd H a (.dK (putK kvs k v))) ∨
  ∃ kvs k b, H a = some (.dT kvs) ∧ y = .ref b ∧ H b = some (.tup (k.map kV)) ∧ kvs.length < sizeLine ∧ H' = upd H a (.dT (putK kvs k v))
theorem DGet.k {H : Hp} {a : Addr} {kvs : List (Key × V)} {k : Key} (e : H a = some (.dK kvs)) : DGet H a (kV k) (valV kvs k) := .inl ⟨kvs, k, .inl e, rfl, rfl⟩
theorem DPut.k {H : Hp} {a : Addr} {kvs : List (Key × V)} {k : Key} {v : V} (e : H a = some (.dK kvs)) (hl : kvs.length < sizeLine) : DPut H a (kV k) v (upd H a (.dK (putK kvs k v))) := .inl ⟨kvs, k, e, rfl, hl, rfl⟩
section
variable {X : Cx} {pins : List (Addr × Obj)} {σ : St} {H : Hp} {s : Shared} {a : Addr} {y v : V} {u r : Value} {o : Option V} {A : Around} {E : Value → Shared → Prop}
theorem d_write {h' : Heap} {t' : Nat} {ob : HO} (I : Inv X pins σ H s) (mu : Mut (H a)) (hs : Heap.SameBut a s.heap h') (he : ∃ q, h'.get? a = some q) (new : ObjOk X.prog X.w (upd H a ob) h' a ob) :
    Inv X pins σ (upd H a ob) { s with heap := h', toks := t' } :=
  I.write (x := a) (e := a) mu (.inl rfl) (fun b q hb z => (hs.2 b hb).trans z) he new
theorem dk_new {P : Program} {w : World} {H' : Hp} {h' : Heap} {kvs : List (Key × V)} {vs : List (Key × Value)} (z : kvs.length ≤ sizeLine) (hd : (a == sysModules) = false) (rel : KV kvs vs) (dd : h'.DictOf (mixKind P w) a vs) :
    ObjOk P w H' h' a (.dK kvs) := ⟨z, hd, vs, rel, dd⟩
theorem d_setItem {H' : Hp} {Q : Unit → Shared → Prop} (hu : A.units + 1 < cLine) (I : Inv X pins σ H s) (g : DPut H a y v H') (ry : RelV y u) (rv : RelV v r) (h : ∀ s', Inv X pins σ H' s' → Q () s') :
    wpAny (model X.prog X.w) A (setItem (.ref a) u r) Q E s := by
  rcases g with ⟨kvs, k, e, ey, l, eH⟩ | ⟨kvs, k, b, e, ey, eb, l, eH⟩
  · subst ey eH
    obtain ⟨z, hd, vs, rel, dd⟩ := dk_of I.hok e
    have hz : vs.length ≤ sizeLine := by rw [← rel.length]; exact z
    have hl : (putK kvs k v).length ≤ sizeLine := by have := length_putK kvs k v; omega
    refine wpAny_setItem_pairs (hsz := hz) (kV_is ry) dd fun h' dd' hs => h _ ?_
    have he : ∃ q, h'.get? a = some q := let ⟨q, _, _, hq, _⟩ := dd'; ⟨q, hq⟩
    exact d_write I (by rw [e]; exact True.intro) hs he (dk_new hl hd (rel.put k rv) dd')
  · subst ey eH
    cases (show u = Value.ref b from ry)
    obtain ⟨z, hd, xs, rel, dd⟩ := dt_of I.hok e
    have hz : xs.length ≤ sizeLine := by rw [← Paired.length rel]; exact z
    have hl : (putK kvs k v).length ≤ sizeLine := by have := length_putK kvs k v; omega
    refine wpAny_setItem_heap (hsz := hz) (tupleKind_room_in1 hu) (key_of I.hok eb) dd fun h' dd' hs => h _ ?_
    obtain ⟨q, es, ep, hq, h2, h3, h4, _, h5⟩ := dd'
    refine d_write I (by rw [e]; exact True.intro) hs ⟨q, hq⟩ ⟨hl, hd, _, (rel.put k eb rv).keeps fun c ys ec => ?_, q, es, ep, hq, h2, h3, h4, h5⟩
    rw [upd_ne (ne_of ec e (fun z => nomatch z))]
    exact ec
end
section
variable {X : Cx} {pins : List (Addr × Obj)} {σ : St} {H : Hp} {s : Shared} {a : Addr} {kvs : List (Key × V)} {k : Key} {u : Value} {A : Around} {E : Value → Shared → Prop}
end
def sDPut (td ty tv : TE) : TS := fun D σ H => tv σ H fun v H1 => td σ H1 fun x H2 => ty σ H2 fun y H3 => ∃ a H4, x = .ref a ∧ DPut H3 a y v H4 ∧ D.nx σ H4
section
variable {X : Cx} {o i e value : Expr} {pos pos' tpos : Pos} {td ty tv : TE}
theorem ps_dput (hu : X.A.units + 1 < cLine) (ho : PE X o td) (hi : PE X i ty) (hv : PE X value tv) (hs : swapsWith value (some (.Subscript o i pos')) pos.line X.env = pure false) :
    PS X (.Assign [.Subscript o i pos'] value pos) (sDPut td ty tv) := by
  intro pins s σ H D I h
  refine wpAny_Assign_Subscript (thn (hv pins s σ H _ I h) fun r s1 ⟨v, H1, I1, rv, q1⟩ => thn (ho pins s1 σ H1 _ I1 q1) fun u s2 ⟨x, H2, I2, rx, q2⟩ => thn (hi pins s2 σ H2 _ I2 q2) fun iv s3 ⟨y, H3, I3, ry, a, H4, ex, g, q3⟩ => ?_) hs
  subst ex
  obtain rfl : u = Value.ref a := rx
  exact d_setItem hu I3 g ry rv fun s4 I4 => ⟨σ, H4, I4, q3⟩
end
theorem dk_empty {P : Program} {w : World} {H : Hp} (h : Heap) (hb : sysModules < h.objs.size) : ObjOk P w H (h.push { cls := .type "dict", data := .dict #[] }) h.objs.size (.dK []) :=
  ⟨Nat.zero_le _, beq_eq_false_iff_ne.mpr (Ne.symm (Nat.ne_of_lt hb)), [], .nil, Heap.DictOf.new h⟩
def tDNewK : TE := fun _ H Q => ∀ p, H p = none → Q (.ref p) (upd H p (.dK []))
section
variable {X : Cx} {pos : Pos}
theorem pe_dnewK : PE X (.Dict [] [] pos) tDNewK := fun pins s σ H Q I h =>
  wpAny_Dict_empty ⟨.ref s.heap.objs.size, _, I.laid (a := s.heap.objs.size) (o := .dK []) (t' := s.toks) (fun _ _ q => Heap.get?_push_of_some _ q) (Nat.le_refl _) (dk_empty s.heap I.big), rfl, h _ (I.hok.fresh (Nat.le_refl _))⟩
end
structure M2 (X : Cx) (o : Expr) (m : Str) (apos : Pos) (e f : Expr) (cpos : Pos) : Prop where
  base : attributeBase o m X.env (eval o X.env) = eval o X.env
  few : ((backTo cpos (starEach [e, f] X.env)).all (fun x => !x.1) && (backToKw cpos (keywordEach [] X.env)).all (fun x => x.1.isSome)
    && decide (([e, f] : List Expr).length + ([] : List Keyword).length + (if ([] : List Keyword).isEmpty then 0 else 1) < 30)) = true
  line : (apos.endLine == cpos.line) = true
  trees : backTo cpos (starEach [e, f] X.env) = [(false, eval e X.env), (false, eval f X.env)]
def IsD (H : Hp) (a : Addr) : Prop := (∃ kvs, Rd H a (.dK kvs)) ∨ ∃ kvs, Rd H a (.dT kvs)
theorem isD_at {X : Cx} {pins : List (Addr × Obj)} {σ : St} {H : Hp} {s : Shared} {a : Addr} (I : Inv X pins σ H s) (d : IsD H a) :
    s.TypeIs (.ref a) "dict" ∧ (∀ b, Value.ref a = .ref b → ∃ ob, s.heap.get? b = some ob ∧ ob.dict = none) ∧ (a == sysModules) = false := by
  rcases d with ⟨kvs, e⟩ | ⟨kvs, e⟩
  · obtain ⟨_, hd, vs, _, dd⟩ := dk_rd I.hok e
    refine ⟨dd.typeIs, fun b q => ?_, hd⟩
    cases q
    obtain ⟨ob, _, _, h1, h2, _⟩ := dd
    exact ⟨ob, h1, h2.2.1⟩
  · obtain ⟨_, hd, xs, _, dd⟩ := dt_rd I.hok e
    refine ⟨dd.typeIs, fun b q => ?_, hd⟩
    cases q
    obtain ⟨ob, _, _, h1, h2, _⟩ := dd
    exact ⟨ob, h1, h2.2.1⟩
section
variable {X : Cx} {pins : List (Addr × Obj)} {σ : St} {H : Hp} {s : Shared} {a : Addr} {y d : V} {u r : Value} {o : Option V} {A : Around} {E : Value → Shared → Prop}
theorem d_get2 {Q : Value → Shared → Prop} (hu : A.units + 1 < cLine) (I : Inv X pins σ H s) (g : DGet H a y o) (ry : RelV y u) (rd : RelV d r) (h : ∀ w' s', Inv X pins σ H s' → RelV (o.getD d) w' → Q w' s') :
    wpAny (model X.prog X.w) A (call (.builtin "dict.get") [.ref a, u, r]) Q E s := by
  rcases g with ⟨kvs, k, e, ey, l⟩ | ⟨kvs, k, b, e, ey, eb, l⟩
  · subst ey
    obtain ⟨z, hd, vs, rel, dd⟩ := dk_rd I.hok e
    refine call_meetsIn PySem.F.slot_dict_get dd.typeIs PySem.F.entry_dict_get (PySem.F.args_dict_get_3 _ _ _) (meets_dict_get_default (mixKind X.prog X.w) a (kV_is ry) hd r) ⟨_, dd.mapOf, h _ _ (I.tok _) ?_⟩
    rw [l]
    exact (rel.val k).getD rd
  · subst ey
    cases (show u = Value.ref b from ry)
    obtain ⟨z, hd, xs, rel, dd⟩ := dt_rd I.hok e
    refine call_meetsIn PySem.F.slot_dict_get dd.typeIs PySem.F.entry_dict_get (PySem.F.args_dict_get_3 _ _ _) (meetsH_dict_get_default (tupleKind (mixKind X.prog X.w)) a b hd r) ⟨tupleKind_room_in1 hu, k, xs, key_of I.hok eb, dd, h _ _ (I.tok _) ?_⟩
    rw [l]
    exact (rel.val k).getD rd
end
def tDGet2 (td ty tx : TE) : TE := fun σ H Q => td σ H fun x H1 => ∃ a, x = .ref a ∧ IsD H1 a ∧ ty σ H1 fun y H2 => tx σ H2 fun z H3 => ∃ o, DGet H3 a y o ∧ Q (o.getD z) H3
section
variable {X : Cx} {o e f : Expr} {apos cpos : Pos} {td ty tx : TE}
theorem pe_dget2 (hu : X.A.units + 1 < cLine) (ho : PE X o td) (he : PE X e ty) (hf : PE X f tx) (m : M2 X o "get" apos e f cpos) : PE X (.Call (.Attribute o "get" apos) [e, f] [] cpos) (tDGet2 td ty tx) := by
  intro pins s σ H Q I h
  refine wpAny_Call_method m.base m.few m.line PySem.F.plainAttrs_dict PySem.F.slot_dict_get PySem.F.type_dict_get (thn (ho pins s σ H _ I h) fun u s1 ⟨x, H1, I1, rx, a, ex, d, q1⟩ => ?_)
  subst ex
  obtain rfl : u = Value.ref a := rx
  obtain ⟨t1, t2, _⟩ := isD_at I1 d
  refine ⟨t1, t2, ?_⟩
  rw [m.trees]
  refine Calls.callWith_builtin rfl (Calls.evalArgs_plain (Calls.spliced_cons (thn (he pins s1 σ H1 _ I1 q1) fun iv s2 ⟨y, H2, I2, ry, q2⟩ =>
    Calls.spliced_cons (thn (hf pins s2 σ H2 _ I2 q2) fun fv s3 ⟨z, H3, I3, rz, ov, g, q3⟩ => Calls.spliced_nil ?_))))
  exact d_get2 hu I3 g ry rz fun w' s4 I4 rw' => ⟨_, H3, I4, rw', q3⟩
end
section
variable {X : Cx} {pins : List (Addr × Obj)} {σ : St} {H : Hp} {s : Shared} {a : Addr} {kvs : List (Key × V)} {A : Around} {E : Value → Shared → Prop}
end
section
variable {X : Cx} {pins : List (Addr × Obj)} {σ : St} {H : Hp} {s : Shared} {a : Addr} {y : V} {u : Value} {A : Around} {E : Value → Shared → Prop}
end
section
variable {X : Cx}
end
section
variable {κ : Type} [DecidableEq κ]
end
end L2
set_option Elab.async false
set_option linter.all false
set_option maxRecDepth 100000
set_option maxHeartbeats 4000000
namespace Seek
open PySem L2 PyProof.Rows
def top (i : Nat) : Stmt := PySem.Challenge.pw_stairseek_k34_tables_written.main.body.getD i (.Pass ⟨0, 0, 0, 0⟩)
abbrev dIsWhole : Stmt := top 7
abbrev dAllWhole : Stmt := top 8
abbrev dNeverFalls : Stmt := top 9
abbrev dIsRow : Stmt := top 10
abbrev dShape : Stmt := top 11
abbrev dAtPlace : Stmt := top 12
abbrev dSorted : Stmt := top 13
abbrev dIsTable : Stmt := top 14
abbrev dNeedTable : Stmt := top 15
abbrev dTable : Stmt := top 27
abbrev dLaw : Stmt := top 29
abbrev dLCell : Stmt := top 25
abbrev dWCount : Stmt := top 18
abbrev dWNumber : Stmt := top 19
abbrev dShowRow : Stmt := top 20
abbrev dShowTable : Stmt := top 21
abbrev dReadRow : Stmt := top 22
abbrev dReadTable : Stmt := top 23
abbrev dWritten : Stmt := top 28
abbrev dMixed : Stmt := top 26
def Row (H : Hp) (a : Addr) (ns : List Int) : Prop := H a = some (.lst (ns.map V.int))
def nfB (ns : List Int) : Bool := ((List.range (ns.length - 1)).map fun i => decide (ns.getD i 0 ≤ ns.getD (i + 1) 0)).all id
theorem Row.same {H H' : Hp} {a : Addr} {ns : List Int} (e : Same H H') (h : Row H a ns) : Row H' a ns := e _ _ h
theorem Row.sq {K : PySem.W.Frag} {H : Hp} {a : Addr} {ns : List Int} (h : Row H a ns) : SqL K H a (ns.map V.int) := SqL.of h
structure Blt (mg : Str → Option Value) : Prop where
  len : mg "len" = none
  all : mg "all" = none
  isinst : mg "isinstance" = none
  rng : mg "range" = none
  int : mg "int" = none
  bool : mg "bool" = none
  list : mg "list" = none
  enum : mg "enumerate" = none
  abs : mg "abs" = none
  max : mg "max" = none
  mr : ∃ t, mg "MOST_ROWS" = some (.int 6 t)
  mp : ∃ t, mg "MOST_PLACES" = some (.int 6 t)
theorem sl6 {n : Nat} (h : n ≤ 1000) : n ≤ sizeLine := Nat.le_of_lt (small1000 h)
section
variable {P : Program} {w : World} {K : PySem.W.Frag} {mg : Str → Option Value} {base : Heap}
def spIsWhole : Sp := fun vs H Q _ => ∃ i : Int, vs = [.int i] ∧ Q (.bl true) H
theorem sc_isWhole : FnScope ["thing"] ["thing"] (defScope dIsWhole) := ⟨rfl, rfl, rfl, by decide +kernel, rfl, by decide +kernel, by decide +kernel⟩
theorem ok_isWhole (T : Blt mg) (D : DefAt K mg "is_whole" dIsWhole ["thing"]) : FnAt P w K mg base 1 "is_whole" ["thing"] spIsWhole := by
  refine FnAt.of D sc_isWhole (fun vs H Q E h => ?_) (fun f cdv A outer s H vs Q E hr h => ?_)
  · obtain ⟨i, rfl, _⟩ := h
    rfl
  · obtain ⟨i, rfl, q⟩ := h
    refine ⟨_, pss_one (ps_ret (pe_and (pe_b call_isinst T.isinst boot_isinstance (pa_cons (pv 0) (pa_cons (pe_ty T.int boot_int) pa_nil)))
      (pe_one (pe_not (pe_b call_isinst T.isinst boot_isinstance (pa_cons (pv 0) (pa_cons (pe_ty T.bool boot_bool) pa_nil))))))), ?_⟩
    exact ⟨_, rfl, _, _, _, _, rfl, .int i, kit_ii _, _, rfl, iteT ⟨_, rfl, _, _, _, _, rfl, .int i, kit_ib _, _, rfl, q⟩⟩
def spAllWhole (K : PySem.W.Frag) : Sp := fun vs H Q _ => ∃ (a : Addr) (ns : List Int), vs = [.ref a] ∧ Row H a ns ∧ ns.length ≤ 1000 ∧ ∀ H', Same H H' → Q (.bl true) H'
theorem sc_allWhole : FnScope ["things"] ["things"] (defScope dAllWhole) := ⟨rfl, rfl, rfl, by decide +kernel, rfl, by decide +kernel, by decide +kernel⟩
theorem all_true {α : Type} (xs : List α) : (xs.map fun _ => true).all id = true := by simp
theorem ok_allWhole (T : Blt mg) (D : DefAt K mg "all_whole" dAllWhole ["things"]) (G1 : FnAt P w K mg base 1 "is_whole" ["thing"] spIsWhole) : FnAt P w K mg base 2 "all_whole" ["things"] (spAllWhole K) := by
  refine FnAt.of D sc_allWhole (fun vs H Q E h => ?_) (fun f cdv A outer s H vs Q E hr h => ?_)
  · obtain ⟨a, ns, rfl, _⟩ := h
    rfl
  · obtain ⟨a, ns, rfl, hR, hn, q⟩ := h
    have nd1 : (["thing"] : List Str).Nodup := by decide +kernel
    refine ⟨_, pss_one (ps_ret (pe_b (call_all rfl) T.all boot_all (pa_cons (pe_comp ["thing"] [none] (defScope dAllWhole) ["things"] rfl (pi_list (pv 0)) (by decide +kernel)
      (fun cl C s2 H2 ex => pg_c 0 nd1) (fun cl C s2 H2 ex => pifs_nil) (fun cl C s2 H2 ex => pe_f G1 hr (pa_cons (pv 0) pa_nil))) pa_nil))), ?_⟩
    refine ⟨_, rfl, a, rfl, ⟨_, hR.sq⟩, comp_map V.int (fun _ => .bl true) hR.sq (sl6 hn) (fun i hx H' Q' sm q' => ?_) fun D H' hD sm hDl => ?_⟩
    · exact ⟨_, rfl, i, rfl, q' _ (Same.refl _)⟩
    · refine ⟨D, ns.map fun _ => true, rfl, SqL.of ?_, ?_⟩
      · rw [hDl]
        simp [Function.comp]
      · rw [all_true]
        exact q H' sm
def spNF : Sp := fun vs H Q _ => ∃ (a : Addr) (ns : List Int), vs = [.ref a] ∧ Row H a ns ∧ ns.length ≤ 1000 ∧ ∀ H', Same H H' → Q (.bl (nfB ns)) H'
theorem sc_nf : FnScope ["numbers"] ["numbers"] (defScope dNeverFalls) := ⟨rfl, rfl, rfl, by decide +kernel, rfl, by decide +kernel, by decide +kernel⟩
theorem at_row {ns : List Int} {i : Nat} (h : i < ns.length) : atI (ns.map V.int) (i : Int) = some (.int (ns.getD i 0)) := atI_nat (by simp [h])
theorem ok_nf (T : Blt mg) (D : DefAt K mg "never_falls" dNeverFalls ["numbers"]) : FnAt P w K mg base 1 "never_falls" ["numbers"] spNF := by
  refine FnAt.of D sc_nf (fun vs H Q E h => ?_) (fun f cdv A outer s H vs Q E hr h => ?_)
  · obtain ⟨a, ns, rfl, _⟩ := h
    rfl
  · obtain ⟨a, ns, rfl, hR, hn, q⟩ := h
    have nd1 : (["k", "numbers"] : List Str).Nodup := by decide +kernel
    refine ⟨_, pss_one (ps_ret (pe_b (call_all rfl) T.all boot_all (pa_cons (pe_comp ["k", "numbers"] [none, some 0] (defScope dNeverFalls) ["numbers"] rfl
      (pi_range2 rfl T.rng (pa_cons pe_int (pa_cons (pe_b call_len_seq T.len boot_len (pa_cons (pv 0) pa_nil)) pa_nil))) (by decide +kernel)
      (fun cl C s2 H2 ex => pg_c 0 nd1) (fun cl C s2 H2 ex => pifs_nil)
      (fun cl C s2 H2 ex => pe_cmpR op_le (pe_ix (ixL K) (pv 1) (pe_op op_sub (pv 0) pe_int) (fun _ _ => rfl)) (pe_ix (ixL K) (pv 1) (pv 0) (fun _ _ => rfl)) (nomark _))) pa_nil))), ?_⟩
    refine ⟨_, rfl, a, _, rfl, .inl hR.sq, 1, _, rfl, ⟨by omega, by omega, ?_, ?_⟩, ?_⟩
    · omega
    · rw [List.length_map]
      omega
    · rw [List.length_map, show ((ns.length : Int) - 1).toNat = ns.length - 1 by omega]
      refine comp_range (fun i => .bl (decide (ns.getD i 0 ≤ ns.getD (i + 1) 0))) (sl6 (by omega)) (fun i hi H' Q' sm q' => ?_) fun D H' hD sm hDl => ?_
      · have h1 : (1 : Int) + (i : Int) - 1 = ((i : Nat) : Int) := by omega
        have h2 : (1 : Int) + (i : Int) = ((i + 1 : Nat) : Int) := by omega
        refine ⟨_, rfl, _, rfl, _, _, rfl, rfl, a, _, _, _, rfl, rfl, (hR.same sm).sq, (by rw [h1]; exact at_row (by omega)), _, rfl, _, rfl, a, _, _, _, rfl, rfl, (hR.same sm).sq, (by rw [h2]; exact at_row (by omega)), _, _, rfl, rfl, ?_⟩
        exact q' _ (Same.refl _)
      · refine ⟨D, (List.range (ns.length - 1)).map fun i => decide (ns.getD i 0 ≤ ns.getD (i + 1) 0), rfl, SqL.of ?_, q H' sm⟩
        rw [hDl]
        simp [Function.comp]
end
abbrev Prs := List (Addr × List Int)
structure Tab (H : Hp) (t : Addr) (prs : Prs) : Prop where
  l : H t = some (.lst (prs.map fun p => V.ref p.1))
  r : ∀ p ∈ prs, Row H p.1 p.2
theorem Tab.same {H H' : Hp} {t : Addr} {prs : Prs} (e : Same H H') (h : Tab H t prs) : Tab H' t prs := ⟨e _ _ h.l, fun p hp => (h.r p hp).same e⟩
theorem Tab.sq {K : PySem.W.Frag} {H : Hp} {t : Addr} {prs : Prs} (h : Tab H t prs) : SqL K H t (prs.map fun p => V.ref p.1) := SqL.of h.l
def Sm (prs : Prs) : Prop := prs.length ≤ 1000 ∧ ∀ p ∈ prs, p.2.length ≤ 1000
def rowB (ns : List Int) : Bool := decide (1 ≤ ns.length) && decide (ns.length ≤ 6)
def w0 (prs : Prs) : Nat := (prs.head?.map (·.2.length)).getD 0
def shB (prs : Prs) : Bool := (decide (1 ≤ prs.length) && decide (prs.length ≤ 6)) && ((prs.map fun p => rowB p.2).all id && (prs.map fun p => decide (p.2.length = w0 prs)).all id)
def col (prs : Prs) (j : Nat) : List Int := prs.map fun p => p.2.getD j 0
def srB (prs : Prs) : Bool := (prs.map fun p => nfB p.2).all id && ((List.range (w0 prs)).map fun j => nfB (col prs j)).all id
def tabB (prs : Prs) : Bool := shB prs && srB prs
theorem map_bl {α : Type} (xs : List α) (f : α → Bool) : xs.map (fun x => V.bl (f x)) = (xs.map f).map V.bl := by simp [Function.comp]
theorem dec_nat {i j : Nat} : decide (V.int (i : Int) = V.int (j : Int)) = decide (i = j) := by
  rw [decide_eq_decide]
  constructor
  · intro h
    injection h with h
    omega
  · rintro rfl
    rfl
theorem head_at {prs : Prs} (h : 1 ≤ prs.length) : ∃ p, prs.head? = some p ∧ p ∈ prs ∧ prs[0]? = some p := by
  cases prs with
  | nil => simp at h
  | cons p r => exact ⟨p, rfl, by simp, rfl⟩
section
variable {P : Program} {w : World} {K : PySem.W.Frag} {mg : Str → Option Value} {base : Heap}
def spIsRow : Sp := fun vs H Q _ => ∃ (a : Addr) (ns : List Int), vs = [.ref a] ∧ Row H a ns ∧ ns.length ≤ 1000 ∧ ∀ H', Same H H' → Q (.bl (rowB ns)) H'
theorem sc_isRow : FnScope ["thing"] ["thing"] (defScope dIsRow) := ⟨rfl, rfl, rfl, by decide +kernel, rfl, by decide +kernel, by decide +kernel⟩
theorem ok_isRow (T : Blt mg) (D : DefAt K mg "is_row" dIsRow ["thing"]) (G : FnAt P w K mg base 2 "all_whole" ["things"] (spAllWhole K)) : FnAt P w K mg base 3 "is_row" ["thing"] spIsRow := by
  refine FnAt.of D sc_isRow (fun vs H Q E h => ?_) (fun f cdv A outer s H vs Q E hr h => ?_)
  · obtain ⟨a, ns, rfl, _⟩ := h
    rfl
  · obtain ⟨a, ns, rfl, hR, hn, q⟩ := h
    obtain ⟨tk, mp⟩ := T.mp
    refine ⟨_, pss_one (ps_ret (pe_and (pe_b call_isinst T.isinst boot_isinstance (pa_cons (pv 0) (pa_cons (pe_ty T.list boot_list) pa_nil)))
      (pe_and (pe_chain op_le op_le pe_int (pe_b call_len_seq T.len boot_len (pa_cons (pv 0) pa_nil)) (pe_glob (v := .int 6) rfl mp ⟨_, rfl⟩))
      (pe_one (pe_f G hr (pa_cons (pv 0) pa_nil)))))), ?_⟩
    refine ⟨_, rfl, _, _, _, _, rfl, .lst hR, kit_ll _, _, rfl, iteT ⟨_, rfl, a, _, rfl, .inl hR.sq, 1, _, rfl, rfl, _, rfl, ?_⟩⟩
    rw [List.length_map]
    refine ite2 (fun h1 => ?_) (fun h1 => ?_)
    · have h1 := of_decide_eq_true h1
      refine ⟨_, _, rfl, rfl, _, rfl, ite2 (fun h2 => ?_) (fun h2 => ?_)⟩
      · have h2 := of_decide_eq_true h2
        refine ⟨_, rfl, a, ns, rfl, hR, hn, fun H' sm => ?_⟩
        have e : rowB ns = true := by
          unfold rowB
          rw [decide_eq_true (by omega), decide_eq_true (by omega)]
          rfl
        rw [← e]
        exact q H' sm
      · have e : rowB ns = false := by
          unfold rowB
          rw [decide_eq_false (p := ns.length ≤ 6) (by intro z; exact h2 (decide_eq_true (by omega)))]
          simp
        rw [← e]
        exact q H (Same.refl _)
    · refine ⟨_, rfl, iteF ?_⟩
      have e : rowB ns = false := by
        unfold rowB
        rw [decide_eq_false (p := 1 ≤ ns.length) (by intro z; exact h1 (decide_eq_true (by omega)))]
        simp
      rw [← e]
      exact q H (Same.refl _)
def spShape : Sp := fun vs H Q _ => ∃ (t : Addr) (prs : Prs), vs = [.ref t] ∧ Tab H t prs ∧ Sm prs ∧ ∀ H', Same H H' → Q (.bl (shB prs)) H'
theorem sc_shape : FnScope ["thing", "row"] ["thing"] (defScope dShape) := ⟨rfl, rfl, rfl, by decide +kernel, rfl, by decide +kernel, by decide +kernel⟩
theorem ok_shape (T : Blt mg) (D : DefAt K mg "has_table_shape" dShape ["thing"]) (G : FnAt P w K mg base 3 "is_row" ["thing"] spIsRow) : FnAt P w K mg base 4 "has_table_shape" ["thing"] spShape := by
  refine FnAt.of D sc_shape (fun vs H Q E h => ?_) (fun f cdv A outer s H vs Q E hr h => ?_)
  · obtain ⟨t, prs, rfl, _⟩ := h
    rfl
  · obtain ⟨t, prs, rfl, hT, ⟨hn, hw⟩, q⟩ := h
    obtain ⟨tk, mr⟩ := T.mr
    have nd1 : (["row"] : List Str).Nodup := by decide +kernel
    have nd2 : (["row", "thing"] : List Str).Nodup := by decide +kernel
    refine ⟨_, pss_cons (ps_if (PW.pt (pw_or (pt_not (pt_val (pe_b call_isinst T.isinst boot_isinstance (pa_cons (pv 0) (pa_cons (pe_ty T.list boot_list) pa_nil)))))
        (pw_or1 (pt_not (pt_chain op_le op_le pe_int (pe_b call_len_seq T.len boot_len (pa_cons (pv 0) pa_nil)) (pe_glob (v := .int 6) rfl mr ⟨_, rfl⟩)))))) (pss_one (ps_ret pe_bl)) pss_nil)
      (pss_cons (ps_if (pt_not (pt_val (pe_b (call_all rfl) T.all boot_all (pa_cons (pe_comp ["row"] [none] (defScope dShape) ["thing", "row"] rfl (pi_list (pv 0)) (by decide +kernel)
        (fun cl C s2 H2 ex => pg_c 0 nd1) (fun cl C s2 H2 ex => pifs_nil) (fun cl C s2 H2 ex => pe_f G hr (pa_cons (pv 0) pa_nil))) pa_nil)))) (pss_one (ps_ret pe_bl)) pss_nil)
      (pss_one (ps_ret (pe_b (call_all rfl) T.all boot_all (pa_cons (pe_comp ["row", "thing"] [none, some 0] (defScope dShape) ["thing", "row"] rfl (pi_list (pv 0)) (by decide +kernel)
        (fun cl C s2 H2 ex => pg_c 0 nd2) (fun cl C s2 H2 ex => pifs_nil)
        (fun cl C s2 H2 ex => pe_cmpR op_eq (pe_b (lenK K) T.len boot_len (pa_cons (pv 0) pa_nil)) (pe_b (lenK K) T.len boot_len (pa_cons (pe_ix (ixL K) (pv 1) pe_int (fun _ _ => rfl)) pa_nil)) (nomark _))) pa_nil))))), ?_⟩
    refine ⟨_, rfl, _, _, _, _, rfl, .lst hT.l, kit_ll _, _, rfl, iteF ⟨_, rfl, t, _, rfl, .inl hT.sq, 1, _, rfl, rfl, _, rfl, ?_⟩⟩
    rw [List.length_map]
    have bad : ¬ (1 ≤ prs.length ∧ prs.length ≤ 6) → shB prs = false := fun z => by
      unfold shB
      rw [← Bool.decide_and, decide_eq_false z]
      rfl
    refine ite2 (fun h1 => ?_) (fun h1 => ?_)
    · have h1 := of_decide_eq_true h1
      refine ⟨_, _, rfl, rfl, _, rfl, ?_⟩
      by_cases h2 : prs.length ≤ 6
      · rw [decide_eq_true (show (prs.length : Int) ≤ 6 by omega)]
        refine iteF ?_
        refine ⟨_, rfl, t, rfl, ⟨_, hT.sq⟩, comp_map (fun p => V.ref p.1) (fun p => .bl (rowB p.2)) hT.sq (sl6 hn) (fun p hp H' Q' sm q' => ?_) fun D H' hD sm hDl => ?_⟩
        · exact ⟨_, rfl, p.1, p.2, rfl, (hT.r p hp).same sm, hw p hp, q'⟩
        · refine ⟨D, prs.map fun p => rowB p.2, rfl, SqL.of (by rw [hDl, map_bl]), _, rfl, ?_⟩
          cases e1 : (prs.map fun p => rowB p.2).all id with
          | false =>
            refine iteT ?_
            have e : shB prs = false := by
              unfold shB
              rw [e1]
              simp
            have q1 := q H' sm
            rw [e] at q1
            exact q1
          | true =>
            refine iteF ?_
            have hT1 := hT.same sm
            obtain ⟨p0, hp0, hm0, hx0⟩ := head_at (prs := prs) (by omega)
            have hw0 : w0 prs = p0.2.length := by
              unfold w0
              rw [hp0]
              rfl
            refine ⟨_, rfl, t, rfl, ⟨_, hT1.sq⟩, comp_map (fun p => V.ref p.1) (fun p => .bl (decide (p.2.length = w0 prs))) hT1.sq (sl6 hn) (fun p hp H2 Q' sm2 q' => ?_) fun D2 H2 hD2 sm2 hDl2 => ?_⟩
            · have hT2 := hT1.same sm2
              refine ⟨_, rfl, p.1, _, rfl, .inl (hT2.r p hp).sq, _, rfl, t, _, 0, .ref p0.1, rfl, rfl, hT2.sq, atI_nat (j := 0) (by rw [List.getElem?_map, hx0]; rfl), p0.1, _, rfl, .inl (hT2.r p0 hm0).sq, rfl, ?_⟩
              rw [List.length_map, List.length_map, dec_nat, ← hw0]
              exact q' _ (Same.refl _)
            · refine ⟨D2, prs.map fun p => decide (p.2.length = w0 prs), rfl, SqL.of (by rw [hDl2, map_bl]), ?_⟩
              have q1 := q H2 (sm.trans sm2)
              unfold shB at q1
              rw [e1, decide_eq_true (show 1 ≤ prs.length by omega), decide_eq_true h2] at q1
              exact q1
      · rw [decide_eq_false (show ¬ (prs.length : Int) ≤ 6 by omega)]
        refine iteT ?_
        have q1 := q H (Same.refl _)
        rw [bad (by omega)] at q1
        exact q1
    · refine ⟨_, rfl, iteT ?_⟩
      have q1 := q H (Same.refl _)
      rw [bad (by
        intro z
        exact h1 (decide_eq_true (by omega)))] at q1
      exact q1
def spAtPlace : Sp := fun vs H Q _ => ∃ (t : Addr) (prs : Prs) (j : Nat), vs = [.ref t, .int j] ∧ Tab H t prs ∧ prs.length ≤ 1000 ∧ (∀ p ∈ prs, j < p.2.length) ∧ ∀ D H', H D = none → Same H H' → Row H' D (col prs j) → Q (.ref D) H'
theorem sc_atPlace : FnScope ["table", "place"] ["table", "place"] (defScope dAtPlace) := ⟨rfl, rfl, rfl, by decide +kernel, rfl, by decide +kernel, by decide +kernel⟩
theorem ok_atPlace (D : DefAt K mg "numbers_at_place" dAtPlace ["table", "place"]) : FnAt P w K mg base 1 "numbers_at_place" ["table", "place"] spAtPlace := by
  refine FnAt.of D sc_atPlace (fun vs H Q E h => ?_) (fun f cdv A outer s H vs Q E hr h => ?_)
  · obtain ⟨t, prs, j, rfl, _⟩ := h
    rfl
  · obtain ⟨t, prs, j, rfl, hT, hn, hj, q⟩ := h
    have nd1 : (["row", "place"] : List Str).Nodup := by decide +kernel
    refine ⟨_, pss_one (ps_ret (pe_comp ["row", "place"] [none, some 1] (defScope dAtPlace) ["table", "place"] rfl (pi_list (pv 0)) (by decide +kernel)
        (fun cl C s2 H2 ex => pg_c 0 nd1) (fun cl C s2 H2 ex => pifs_nil) (fun cl C s2 H2 ex => pe_ix (ixL K) (pv 0) (pv 1) (fun _ _ => rfl)))), ?_⟩
    refine ⟨_, rfl, t, rfl, ⟨_, hT.sq⟩, comp_map (fun p => V.ref p.1) (fun p => .int (p.2.getD j 0)) hT.sq (sl6 hn) (fun p hp H' Q' sm q' => ?_) fun D H' hD sm hDl => ?_⟩
    · exact ⟨_, rfl, _, rfl, p.1, _, _, _, rfl, rfl, ((hT.r p hp).same sm).sq, at_row (hj p hp), q' _ (Same.refl _)⟩
    · refine q D H' hD sm ?_
      unfold Row col
      rw [hDl, List.map_map]
      rfl
def spSorted : Sp := fun vs H Q _ => ∃ (t : Addr) (prs : Prs), vs = [.ref t] ∧ Tab H t prs ∧ Sm prs ∧ 1 ≤ prs.length ∧ (∀ p ∈ prs, p.2.length = w0 prs) ∧ ∀ H', Same H H' → Q (.bl (srB prs)) H'
theorem sc_sorted : FnScope ["table", "row", "place"] ["table"] (defScope dSorted) := ⟨rfl, rfl, rfl, by decide +kernel, rfl, by decide +kernel, by decide +kernel⟩
theorem ok_sorted (T : Blt mg) (D : DefAt K mg "is_sorted_both_ways" dSorted ["table"]) (G : FnAt P w K mg base 1 "never_falls" ["numbers"] spNF) (G2 : FnAt P w K mg base 1 "numbers_at_place" ["table", "place"] spAtPlace) : FnAt P w K mg base 2 "is_sorted_both_ways" ["table"] spSorted := by
  refine FnAt.of D sc_sorted (fun vs H Q E h => ?_) (fun f cdv A outer s H vs Q E hr h => ?_)
  · obtain ⟨t, prs, rfl, _⟩ := h
    rfl
  · obtain ⟨t, prs, rfl, hT, ⟨hn, hw⟩, h1, hv, q⟩ := h
    have nd1 : (["row"] : List Str).Nodup := by decide +kernel
    have nd2 : (["place", "table"] : List Str).Nodup := by decide +kernel
    obtain ⟨p0, hp0, hm0, hx0⟩ := head_at (prs := prs) h1
    have hw0 : w0 prs = p0.2.length := (hv p0 hm0).symm
    refine ⟨_, pss_cons (ps_if (pt_not (pt_val (pe_b (call_all rfl) T.all boot_all (pa_cons (pe_comp ["row"] [none] (defScope dSorted) ["table", "row", "place"] rfl (pi_list (pv 0)) (by decide +kernel)
        (fun cl C s2 H2 ex => pg_c 0 nd1) (fun cl C s2 H2 ex => pifs_nil) (fun cl C s2 H2 ex => pe_f G hr (pa_cons (pv 0) pa_nil))) pa_nil)))) (pss_one (ps_ret pe_bl)) pss_nil)
      (pss_one (ps_ret (pe_b (call_all rfl) T.all boot_all (pa_cons (pe_comp ["place", "table"] [none, some 0] (defScope dSorted) ["table", "row", "place"] rfl
        (pi_range1 rfl T.rng (pa_cons (pe_b call_len_seq T.len boot_len (pa_cons (pe_ix ix_list (pv 0) pe_int (fun _ _ => rfl)) pa_nil)) pa_nil)) (by decide +kernel)
        (fun cl C s2 H2 ex => pg_c 0 nd2) (fun cl C s2 H2 ex => pifs_nil)
        (fun cl C s2 H2 ex => pe_f G hr (pa_cons (pe_f G2 hr (pa_cons (pv 1) (pa_cons (pv 0) pa_nil))) pa_nil))) pa_nil)))), ?_⟩
    refine ⟨_, rfl, t, rfl, ⟨_, hT.sq⟩, comp_map (fun p => V.ref p.1) (fun p => .bl (nfB p.2)) hT.sq (sl6 hn) (fun p hp H' Q' sm q' => ?_) fun D H' hD sm hDl => ?_⟩
    · exact ⟨_, rfl, p.1, p.2, rfl, (hT.r p hp).same sm, hw p hp, q'⟩
    · refine ⟨D, prs.map fun p => nfB p.2, rfl, SqL.of (by rw [hDl, map_bl]), _, rfl, ?_⟩
      cases e1 : (prs.map fun p => nfB p.2).all id with
      | false =>
        refine iteT ?_
        have q1 := q H' sm
        unfold srB at q1
        rw [e1] at q1
        exact q1
      | true =>
        refine iteF ?_
        have hT1 := hT.same sm
        refine ⟨_, rfl, t, _, 0, .ref p0.1, rfl, rfl, hT1.sq, atI_nat (j := 0) (by rw [List.getElem?_map, hx0]; rfl), p0.1, _, rfl, .inl (hT1.r p0 hm0).sq, _, rfl, ?_, ?_, ?_⟩
        · omega
        · have := hw p0 hm0
          rw [List.length_map]
          omega
        · rw [List.length_map, ← hw0, Int.toNat_natCast]
          have hb : w0 prs ≤ 1000 := by rw [hw0]; exact hw p0 hm0
          refine comp_range (fun j => .bl (nfB (col prs j))) (sl6 hb) (fun j hj H2 Q' sm2 q' => ?_) fun D2 H2 hD2 sm2 hDl2 => ?_
          · have hT2 := hT1.same sm2
            refine ⟨_, rfl, _, rfl, t, prs, j, by rw [Int.zero_add], hT2, hn, fun p hp => by rw [hv p hp]; exact hj, fun D3 H3 hD3 sm3 r3 => ⟨D3, col prs j, rfl, r3, ?_, fun H4 sm4 => q' H4 (sm3.trans sm4)⟩⟩
            unfold col
            rw [List.length_map]
            exact hn
          · refine ⟨D2, (List.range (w0 prs)).map fun j => nfB (col prs j), rfl, SqL.of (by rw [hDl2, map_bl]), ?_⟩
            have q1 := q H2 (sm.trans sm2)
            unfold srB at q1
            rw [e1] at q1
            exact q1
def spIsTable : Sp := fun vs H Q _ => ∃ (t : Addr) (prs : Prs), vs = [.ref t] ∧ Tab H t prs ∧ Sm prs ∧ ∀ H', Same H H' → Q (.bl (tabB prs)) H'
theorem sc_isTable : FnScope ["thing"] ["thing"] (defScope dIsTable) := ⟨rfl, rfl, rfl, by decide +kernel, rfl, by decide +kernel, by decide +kernel⟩
theorem shB_of {prs : Prs} (h : shB prs = true) : 1 ≤ prs.length ∧ prs.length ≤ 6 ∧ (∀ p ∈ prs, 1 ≤ p.2.length ∧ p.2.length ≤ 6) ∧ ∀ p ∈ prs, p.2.length = w0 prs := by
  unfold shB rowB at h
  simp only [Bool.and_eq_true, decide_eq_true_eq, List.all_eq_true, List.mem_map, id] at h
  obtain ⟨⟨h1, h2⟩, h3, h4⟩ := h
  exact ⟨h1, h2, fun p hp => by simpa using h3 _ ⟨p, hp, rfl⟩, fun p hp => by simpa using h4 _ ⟨p, hp, rfl⟩⟩
theorem ok_isTable (D : DefAt K mg "is_table" dIsTable ["thing"]) (G : FnAt P w K mg base 4 "has_table_shape" ["thing"] spShape) (G2 : FnAt P w K mg base 2 "is_sorted_both_ways" ["table"] spSorted) : FnAt P w K mg base 5 "is_table" ["thing"] spIsTable := by
  refine FnAt.of D sc_isTable (fun vs H Q E h => ?_) (fun f cdv A outer s H vs Q E hr h => ?_)
  · obtain ⟨t, prs, rfl, _⟩ := h
    rfl
  · obtain ⟨t, prs, rfl, hT, hs, q⟩ := h
    refine ⟨_, pss_one (ps_ret (pe_and (pe_f G hr (pa_cons (pv 0) pa_nil)) (pe_one (pe_f G2 (hr.mono (by decide)) (pa_cons (pv 0) pa_nil))))), ?_⟩
    refine ⟨_, rfl, t, prs, rfl, hT, hs, fun H' sm => ⟨_, rfl, ?_⟩⟩
    cases e : shB prs with
    | false =>
      refine iteF ?_
      have q1 := q H' sm
      unfold tabB at q1
      rw [e] at q1
      exact q1
    | true =>
      obtain ⟨a1, a2, a3, a4⟩ := shB_of e
      refine iteT ⟨_, rfl, t, prs, rfl, hT.same sm, hs, a1, a4, fun H2 sm2 => ?_⟩
      have q1 := q H2 (sm.trans sm2)
      unfold tabB at q1
      rw [e] at q1
      exact q1
def spNeedTable : Sp := fun vs H Q _ => ∃ (t : Addr) (prs : Prs), vs = [.ref t] ∧ Tab H t prs ∧ Sm prs ∧ tabB prs = true ∧ ∀ H', Same H H' → Q .non H'
theorem sc_needTable : FnScope ["thing"] ["thing"] (defScope dNeedTable) := ⟨rfl, rfl, rfl, by decide +kernel, rfl, by decide +kernel, by decide +kernel⟩
theorem ok_needTable (D : DefAt K mg "need_table" dNeedTable ["thing"]) (G : FnAt P w K mg base 5 "is_table" ["thing"] spIsTable) : FnAt P w K mg base 6 "need_table" ["thing"] spNeedTable := by
  refine FnAt.of D sc_needTable (fun vs H Q E h => ?_) (fun f cdv A outer s H vs Q E hr h => ?_)
  · obtain ⟨t, prs, rfl, _⟩ := h
    rfl
  · obtain ⟨t, prs, rfl, hT, hs, hg, q⟩ := h
    refine ⟨_, pss_one (ps_if (pt_not (pt_val (pe_f G hr (pa_cons (pv 0) pa_nil)))) pss_never pss_nil), ?_⟩
    refine ⟨_, rfl, t, prs, rfl, hT, hs, fun H' sm => ⟨_, rfl, ?_⟩⟩
    rw [hg]
    exact iteF (q H' sm)
end
def nfP (ns : List Int) : Prop := ∀ i, i + 1 < ns.length → ns.getD i 0 ≤ ns.getD (i + 1) 0
theorem nfB_iff {ns : List Int} : nfB ns = true ↔ nfP ns := by
  unfold nfB nfP
  simp only [List.all_map, List.all_eq_true, List.mem_range, Function.comp, id, decide_eq_true_eq]
  constructor
  · intro h i hi
    exact h i (by omega)
  · intro h i hi
    exact h i (by omega)
def rowAt (prs : Prs) (i : Nat) : List Int := ((prs[i]?).map (·.2)).getD []
theorem rowAt_mem {prs : Prs} {i : Nat} (h : i < prs.length) : ∃ p ∈ prs, prs[i]? = some p ∧ rowAt prs i = p.2 := by
  refine ⟨prs[i], List.getElem_mem h, by simp [h], ?_⟩
  unfold rowAt
  rw [List.getElem?_eq_getElem h]
  rfl
theorem col_len (prs : Prs) (j : Nat) : (col prs j).length = prs.length := by
  unfold col
  rw [List.length_map]
theorem col_at {prs : Prs} {i j : Nat} (h : i < prs.length) : (col prs j).getD i 0 = (rowAt prs i).getD j 0 := by
  unfold col rowAt
  rw [List.getD_eq_getElem?_getD, List.getElem?_map, List.getElem?_eq_getElem h]
  rfl
structure GoodP (wide : Nat) (prs : Prs) : Prop where
  len : ∀ p ∈ prs, p.2.length = wide
  row : ∀ p ∈ prs, nfP p.2
  down : ∀ i, i + 1 < prs.length → ∀ j, j < wide → (rowAt prs i).getD j 0 ≤ (rowAt prs (i + 1)).getD j 0
theorem w0_of {wide : Nat} {prs : Prs} (h : 1 ≤ prs.length) (hl : ∀ p ∈ prs, p.2.length = wide) : w0 prs = wide := by
  obtain ⟨p, h1, h2, _⟩ := head_at h
  unfold w0
  rw [h1]
  exact hl p h2
theorem tabB_of {wide : Nat} {prs : Prs} (g : GoodP wide prs) (h1 : 1 ≤ prs.length) (h2 : prs.length ≤ 6) (h3 : 1 ≤ wide) (h4 : wide ≤ 6) : tabB prs = true := by
  have hw := w0_of h1 g.len
  unfold tabB shB srB rowB
  simp only [Bool.and_eq_true, decide_eq_true_eq, List.all_eq_true, List.mem_map, id]
  refine ⟨⟨⟨h1, h2⟩, ?_, ?_⟩, ?_, ?_⟩
  · rintro b ⟨p, hp, rfl⟩
    have := g.len p hp
    simp only [Bool.and_eq_true, decide_eq_true_eq]
    omega
  · rintro b ⟨p, hp, rfl⟩
    rw [decide_eq_true_eq, hw]
    exact g.len p hp
  · rintro b ⟨p, hp, rfl⟩
    exact nfB_iff.mpr (g.row p hp)
  · rintro b ⟨j, hj, rfl⟩
    rw [List.mem_range, hw] at hj
    refine nfB_iff.mpr fun i hi => ?_
    rw [col_len] at hi
    rw [col_at (by omega), col_at hi]
    exact g.down i hi j hj
theorem good_of {prs : Prs} (h : tabB prs = true) : GoodP (w0 prs) prs ∧ 1 ≤ prs.length ∧ prs.length ≤ 6 ∧ 1 ≤ w0 prs ∧ w0 prs ≤ 6 := by
  unfold tabB at h
  rw [Bool.and_eq_true] at h
  obtain ⟨h1, h2, h3, h4⟩ := shB_of h.1
  obtain ⟨p, e1, e2, _⟩ := head_at h1
  have h5 := h3 p e2
  have h6 := h4 p e2
  have hs := h.2
  unfold srB at hs
  simp only [Bool.and_eq_true, List.all_eq_true, List.mem_map, id] at hs
  refine ⟨⟨h4, fun p hp => nfB_iff.mp (hs.1 _ ⟨p, hp, rfl⟩), fun i hi j hj => ?_⟩, h1, h2, by omega, by omega⟩
  have := nfB_iff.mp (hs.2 _ ⟨j, List.mem_range.mpr hj, rfl⟩) i (by rw [col_len]; exact hi)
  rw [col_at (by omega), col_at hi] at this
  exact this
theorem getD_push {ns : List Int} {v : Int} {i : Nat} : (ns ++ [v]).getD i 0 = if i < ns.length then ns.getD i 0 else if i = ns.length then v else 0 := by
  rw [List.getD_eq_getElem?_getD, List.getD_eq_getElem?_getD]
  by_cases h : i < ns.length
  · rw [if_pos h, List.getElem?_append_left h]
  · rw [if_neg h, List.getElem?_append_right (by omega)]
    by_cases h2 : i = ns.length
    · subst h2
      simp
    · rw [if_neg h2, List.getElem?_eq_none (by simp; omega)]
      rfl
theorem nfP_push {ns : List Int} {v : Int} (h : nfP ns) (hl : ∀ k, k + 1 = ns.length → ns.getD k 0 ≤ v) : nfP (ns ++ [v]) := fun i hi => by
  rw [List.length_append, List.length_singleton] at hi
  rw [getD_push, getD_push, if_pos (by omega)]
  by_cases h2 : i + 1 < ns.length
  · rw [if_pos h2]
    exact h i h2
  · rw [if_neg h2, if_pos (by omega)]
    exact hl i (by omega)
theorem rowAt_push {prs : Prs} {p : Addr × List Int} {i : Nat} (h : i ≤ prs.length) : rowAt (prs ++ [p]) i = if i < prs.length then rowAt prs i else p.2 := by
  unfold rowAt
  by_cases h2 : i < prs.length
  · rw [if_pos h2, List.getElem?_append_left h2]
  · have : i = prs.length := by omega
    subst this
    rw [if_neg h2]
    simp
theorem good_push {wide : Nat} {prs : Prs} {a : Addr} {cur : List Int} (g : GoodP wide prs) (hl : cur.length = wide) (hn : nfP cur) (hd : prs.length = 0 ∨ ∀ j, j < wide → (rowAt prs (prs.length - 1)).getD j 0 ≤ cur.getD j 0) : GoodP wide (prs ++ [(a, cur)]) where
  len := fun p hp => by
    rcases List.mem_append.mp hp with z | z
    · exact g.len p z
    · have : p = (a, cur) := by simpa using z
      subst this
      exact hl
  row := fun p hp => by
    rcases List.mem_append.mp hp with z | z
    · exact g.row p z
    · have : p = (a, cur) := by simpa using z
      subst this
      exact hn
  down := fun i hi j hj => by
    rw [List.length_append, List.length_singleton] at hi
    rw [rowAt_push (by omega), rowAt_push (by omega), if_pos (by omega)]
    by_cases h2 : i + 1 < prs.length
    · rw [if_pos h2]
      exact g.down i h2 j hj
    · rw [if_neg h2]
      rcases hd with z | z
      · omega
      · have := z j hj
        rw [show prs.length - 1 = i by omega] at this
        exact this
theorem at_mem {ns : List Int} {d : Int} (h0 : 0 ≤ d) (h1 : d < ns.length) : ∃ r ∈ ns, atI (ns.map V.int) d = some (.int r) := by
  obtain ⟨k, rfl⟩ : ∃ k : Nat, d = k := ⟨d.toNat, by omega⟩
  have hk : k < ns.length := by omega
  exact ⟨ns[k], List.getElem_mem hk, atI_nat (by simp [hk])⟩
theorem atI_last {α : Type} {xs : List α} {v : α} (h : xs[xs.length - 1]? = some v) : atI xs (-1) = some v := by
  have hl : 0 < xs.length := by
    have := (List.getElem?_eq_some_iff.mp h).1
    omega
  unfold atI ixN
  rw [if_neg (by decide), if_pos (by omega)]
  show xs[((-1 : Int) + (xs.length : Int)).toNat]? = some v
  rw [show ((-1 : Int) + (xs.length : Int)).toNat = xs.length - 1 by omega]
  exact h
theorem at_last {ns : List Int} (h : 0 < ns.length) : atI (ns.map V.int) (-1) = some (.int (ns.getD (ns.length - 1) 0)) := by
  refine atI_last ?_
  rw [List.length_map, List.getElem?_map, List.getD_eq_getElem?_getD, List.getElem?_eq_getElem (by omega)]
  rfl
def dRow (ns : List Int) : PyData := .list (ns.map PyData.int)
def dTab (rows : List (List Int)) : PyData := .list (rows.map dRow)
theorem rdAll_ints {K : PySem.W.Frag} {H : Hp} : ∀ ns : List Int, RdAll K H (ns.map V.int) (ns.map PyData.int)
  | [] => .nil
  | n :: r => .cons (.int n) (rdAll_ints r)
theorem Row.rd {K : PySem.W.Frag} {H : Hp} {a : Addr} {ns : List Int} (h : Row H a ns) : RdD K H (.ref a) (dRow ns) := .lst h.sq (rdAll_ints ns)
theorem rdAll_rows {K : PySem.W.Frag} {H : Hp} : ∀ prs : Prs, (∀ p ∈ prs, Row H p.1 p.2) → RdAll K H (prs.map fun p => V.ref p.1) ((prs.map (·.2)).map dRow)
  | [], _ => .nil
  | p :: r, h => .cons (h p (by simp)).rd (rdAll_rows r fun q hq => h q (by simp [hq]))
theorem Tab.rd {K : PySem.W.Frag} {H : Hp} {t : Addr} {prs : Prs} (h : Tab H t prs) : RdD K H (.ref t) (dTab (prs.map (·.2))) := .lst h.sq (rdAll_rows prs h.r)
theorem lay_ints : ∀ ns : List Int, PyData.canLayAll0 (ns.map PyData.int) = true ∧ PyData.depthAll (ns.map PyData.int) ≤ 0
  | [] => by simp [PyData.canLayAll0, PyData.depthAll]
  | n :: r => by
    have h := lay_ints r
    simp only [List.map_cons, PyData.canLayAll0, PyData.canLay0, PyData.depthAll, PyData.depth, h.1, Bool.and_self, true_and]
    have := h.2
    omega
theorem lay_rows : ∀ rows : List (List Int), PyData.canLayAll0 (rows.map dRow) = true ∧ PyData.depthAll (rows.map dRow) ≤ 1
  | [] => by simp [PyData.canLayAll0, PyData.depthAll]
  | ns :: r => by
    have h := lay_rows r
    have h2 := lay_ints ns
    simp only [List.map_cons, dRow, PyData.canLayAll0, PyData.canLay0, PyData.depthAll, PyData.depth, h2.1]
    have a1 := h.2
    have a2 := h2.2
    refine ⟨by rw [Bool.true_and]; exact h.1, ?_⟩
    show max (PyData.depthAll (ns.map PyData.int) + 1) (PyData.depthAll (r.map dRow)) ≤ 1
    omega
theorem shaped_row (ns : List Int) : SeqAt.shaped (dRow ns) = true := by
  have h := lay_ints ns
  have h2 := h.2
  show (PyData.canLay0 (.list (ns.map PyData.int)) && decide (PyData.depth (.list (ns.map PyData.int)) ≤ 64)) = true
  rw [Bool.and_eq_true]
  exact ⟨by simp only [PyData.canLay0]; exact h.1, decide_eq_true (by simp only [PyData.depth]; omega)⟩
theorem shaped_tab (rows : List (List Int)) : SeqAt.shaped (dTab rows) = true := by
  have h := lay_rows rows
  have h2 := h.2
  show (PyData.canLay0 (.list (rows.map dRow)) && decide (PyData.depth (.list (rows.map dRow)) ≤ 64)) = true
  rw [Bool.and_eq_true]
  exact ⟨by simp only [PyData.canLay0]; exact h.1, decide_eq_true (by simp only [PyData.depth]; omega)⟩
theorem eqv_ints : ∀ ns : List Int, PyData.eqvAll (ns.map PyData.int) (ns.map PyData.int) = true
  | [] => by simp [PyData.eqvAll]
  | n :: r => by simp [PyData.eqvAll, PyData.eqv, eqv_ints r]
theorem eqv_row (ns : List Int) : PyData.eqv (dRow ns) (dRow ns) = true := by
  unfold dRow
  simp only [PyData.eqv]
  exact eqv_ints ns
theorem eqv_rows : ∀ rows : List (List Int), PyData.eqvAll (rows.map dRow) (rows.map dRow) = true
  | [] => by simp [PyData.eqvAll]
  | n :: r => by simp [PyData.eqvAll, eqv_row n, eqv_rows r]
theorem eqv_tab (rows : List (List Int)) : PyData.eqv (dTab rows) (dTab rows) = true := by
  unfold dTab
  simp only [PyData.eqv]
  exact eqv_rows rows
theorem iteDf {c A B : Prop} [Decidable c] (hc : ¬ c) (h : B) : if decide c = true then A else B := by
  rw [decide_eq_false hc]
  exact iteF h
theorem len5 : 5 ≤ sizeLine := by decide
theorem Row.new {H : Hp} {D : Addr} : Row (upd H D (.lst [])) D [] := upd_same
theorem Row.push {H : Hp} {D : Addr} {ds : List Int} {v : Int} : Row (upd H D (.lst (ds.map V.int ++ [.int v]))) D (ds ++ [v]) := by
  unfold Row
  rw [upd_same, List.map_append]
  rfl
section
variable {P : Program} {w : World} {K : PySem.W.Frag} {mg : Str → Option Value} {base : Heap}
def spLCell (K : PySem.W.Frag) : Sp := fun vs H Q _ => ∃ (a : Addr) (ns : List Int) (k : Nat), vs = [.ref a, .int (k : Nat)] ∧ SqL K H a (ns.map V.int) ∧ k ≤ 100 ∧ ∀ c, Q (.int c) H
theorem sc_lcell : FnScope ["script", "k"] ["script", "k"] (defScope dLCell) := ⟨rfl, rfl, rfl, by decide +kernel, rfl, by decide +kernel, by decide +kernel⟩
theorem ok_lcell (T : Blt mg) (D : DefAt K mg "_law_cell" dLCell ["script", "k"]) : FnAt P w K mg base 1 "_law_cell" ["script", "k"] (spLCell K) := by
  refine FnAt.of D sc_lcell (fun vs H Q E h => ?_) (fun f cdv A outer s H vs Q E hr h => ?_)
  · obtain ⟨a, ns, k, rfl, _⟩ := h
    rfl
  · obtain ⟨a, ns, k, rfl, hS, hk, q⟩ := h
    refine ⟨_, pss_cons (ps_if (pt_cmpR o_lt (pv 1) (pe_b call_len_seq T.len boot_len (pa_cons (pv 0) pa_nil)) (nomark _)) (pss_one (ps_ret (pe_ix ix_list (pv 0) (pv 1) (fun _ _ => rfl)))) pss_nil)
      (pss_one (ps_ret (pe_op o_add (pe_op o_add (pe_op o_mul (pe_op o_mul pe_int (pv 1)) (pv 1)) (pe_op o_mul pe_int (pv 1))) pe_int))), ?_⟩
    refine ⟨_, rfl, _, rfl, a, _, rfl, .inl hS, _, _, rfl, rfl, _, rfl, ?_⟩
    rw [List.length_map]
    refine ite2 (fun h1 => ?_) (fun h1 => ?_)
    · have h1 := of_decide_eq_true h1
      exact ⟨_, rfl, _, rfl, a, _, _, _, rfl, rfl, hS, at_row (by omega), q _⟩
    · exact ⟨_, rfl, _, _, rfl, rfl, .inl ⟨by decide, by decide⟩, _, rfl, _, _, rfl, rfl, .inr ⟨by omega, by omega⟩, _, rfl, _, _, rfl, rfl, .inl ⟨by decide, by decide⟩, _, _, rfl, rfl, _, _, rfl, rfl, q _⟩
def NewTab (H : Hp) (Q : VK) (rows : List (List Int)) : Prop := ∀ t' prs' H', H t' = none → (∀ p ∈ prs', H p.1 = none ∧ p.1 ≠ t') → (prs'.map (·.1)).Nodup → Same H H' → Tab H' t' prs' → prs'.map (·.2) = rows → Q (.ref t') H'
theorem tabB_rows {prs prs' : Prs} (h : prs'.map (·.2) = prs.map (·.2)) : tabB prs' = tabB prs := by
  have hl : prs'.length = prs.length := by
    have := congrArg List.length h
    simpa using this
  have hm : ∀ (f : List Int → Bool), (prs'.map fun p => f p.2) = (prs.map fun p => f p.2) := fun f => by
    have := congrArg (List.map f) h
    rw [List.map_map, List.map_map] at this
    exact this
  have hm2 : ∀ (f : List Int → Int), (prs'.map fun p => f p.2) = (prs.map fun p => f p.2) := fun f => by
    have := congrArg (List.map f) h
    rw [List.map_map, List.map_map] at this
    exact this
  have hw : w0 prs' = w0 prs := by
    have := congrArg (fun l : List (List Int) => (l.head?.map List.length).getD 0) h
    simp only [List.head?_map, Option.map_map] at this
    exact this
  have hc : ∀ j, col prs' j = col prs j := fun j => hm2 fun ns => ns.getD j 0
  unfold tabB shB srB
  rw [hl, hw, hm rowB, hm fun ns => decide (ns.length = w0 prs), hm nfB]
  simp only [hc]
def rowsOk (rows : List (List Int)) : Bool := tabB (rows.map fun r => ((0 : Addr), r))
theorem rowsOk_of {prs : Prs} {rows : List (List Int)} (h : prs.map (·.2) = rows) : tabB prs = rowsOk rows := by
  unfold rowsOk
  refine tabB_rows ?_
  rw [h, List.map_map]
  exact (List.map_id _).symm
def prs0 (rows : List (List Int)) : Prs := rows.map fun r => ((0 : Addr), r)
theorem prs0_rows (rows : List (List Int)) : (prs0 rows).map (·.2) = rows := by
  unfold prs0
  rw [List.map_map]
  exact List.map_id _
theorem good_bounds {prs : Prs} (h : tabB prs = true) : Sm prs := by
  obtain ⟨g, h1, h2, h3, h4⟩ := good_of h
  exact ⟨by omega, fun p hp => by rw [g.len p hp]; omega⟩
end
def numStr (n : Int) : Str := Str.ofString (toString n)
def dg (m : Nat) : List Nat := (Nat.toDigits 10 m).map Char.toNat
theorem dg_digits (m : Nat) : ∀ c ∈ dg m, 48 ≤ c ∧ c ≤ 57 := fun c hc => by
  obtain ⟨ch, hch, e⟩ := List.mem_map.mp hc
  have r := digit_range (Nat.isDigit_of_mem_toDigits (by decide) (by decide) hch)
  rw [← e]
  exact r
theorem dg_ne (m : Nat) : dg m ≠ [] := fun e => by
  have h := toDigits_len_ge 10 m
  rw [List.map_eq_nil_iff.mp e] at h
  exact absurd h (by decide)
theorem dg_zero : dg 0 = [48] := by decide
theorem dg_head (m : Nat) : 0 < m → ∃ c r, dg m = c :: r ∧ c ≠ 48 := by
  induction m using Nat.strongRecOn with
  | _ m ih =>
    intro h0
    by_cases h : m < 10
    · refine ⟨(Nat.digitChar m).toNat, [], ?_, ?_⟩
      · unfold dg
        rw [Nat.toDigits_of_lt_base h]
        rfl
      · have : ∀ k : Nat, k < 10 → 0 < k → (Nat.digitChar k).toNat ≠ 48 := by decide
        exact this m h h0
    · have hm : m % 10 < 10 := Nat.mod_lt m (by decide)
      have t : Nat.toDigits 10 (m / 10) ++ Nat.toDigits 10 (m % 10) = Nat.toDigits 10 (10 * (m / 10) + m % 10) := Nat.toDigits_append_toDigits (by decide) (by omega) hm
      rw [Nat.div_add_mod] at t
      obtain ⟨c, r, e, hc⟩ := ih (m / 10) (by omega) (by omega)
      refine ⟨c, r ++ (Nat.toDigits 10 (m % 10)).map Char.toNat, ?_, hc⟩
      unfold dg at e ⊢
      rw [← t, List.map_append, e]
      rfl
theorem numStr_nat (m : Nat) : (numStr (m : Int)).cps.toList = dg m := PySem.W.KIN.signs_num m
theorem numStr_neg (m : Nat) : (numStr (Int.negSucc m)).cps.toList = 45 :: dg (m + 1) := by
  unfold numStr
  rw [signs_ofString]
  show ("-" ++ Nat.repr (m + 1)).toList.map Char.toNat = _
  rw [String.toList_append, List.map_append, Nat.toList_repr]
  rfl
theorem str_len (x : Str) : x.cps.toList.length = x.length := Array.length_toList
theorem dg_len {m k : Nat} (h : m < 10 ^ k) (hk : 1 ≤ k) : (dg m).length ≤ k := by
  rw [← numStr_nat, str_len]
  exact toString_length_le (Int.natCast_nonneg _) hk (by exact_mod_cast h)
theorem num_len {n : Int} {k : Nat} (h : n.natAbs < 10 ^ k) (hk : 1 ≤ k) : (numStr n).length ≤ k + 1 := by
  rw [← str_len]
  cases n with
  | ofNat m =>
    rw [show Int.ofNat m = (m : Int) from rfl, numStr_nat]
    exact Nat.le_succ_of_le (dg_len h hk)
  | negSucc m =>
    rw [numStr_neg, List.length_cons]
    exact Nat.succ_le_succ (dg_len h hk)
theorem num_read {n : Int} (hl : (numStr n).length ≤ 4300) : intText? (numStr n) = some n := by
  cases n with
  | ofNat m =>
    have e := PySem.intText_digits (x := numStr (m : Int)) (by rw [numStr_nat]; exact dg_digits m) (by rw [numStr_nat]; exact dg_ne m) hl
    rw [numStr_nat] at e
    exact e.trans (by rw [show PySem.NumText.digitsVal (dg m) = m from PySem.W.KIN.val_back m]; rfl)
  | negSucc m =>
    have e := PySem.intText_neg (x := numStr (Int.negSucc m)) (numStr_neg m) (dg_digits _) (dg_ne _) hl
    exact e.trans (by rw [show PySem.NumText.digitsVal (dg (m + 1)) = m + 1 from PySem.W.KIN.val_back (m + 1)]; rfl)
theorem num_free {n : Int} {c : Nat} (hc : c < 45) : c ∉ (numStr n).cps.toList := fun h => by
  cases n with
  | ofNat m =>
    rw [show Int.ofNat m = (m : Int) from rfl, numStr_nat] at h
    have := dg_digits m c h
    omega
  | negSucc m =>
    rw [numStr_neg] at h
    rcases List.mem_cons.mp h with z | z
    · omega
    · have := dg_digits _ c z
      omega
theorem join_list (c : Nat) (w : Str) : ∀ r : List Str, (Str.join ⟨#[c]⟩ (w :: r)).cps.toList = w.cps.toList ++ (match r with | [] => [] | x :: y => c :: (Str.join ⟨#[c]⟩ (x :: y)).cps.toList)
  | [] => by simp [Str.join]
  | x :: y => by
    rw [join_cons_cons]
    show ((w.cps ++ #[c]) ++ (Str.join ⟨#[c]⟩ (x :: y)).cps).toList = _
    simp
theorem free_cut {c : Nat} : ∀ {a b a' b' : List Nat}, c ∉ a → c ∉ a' → a ++ c :: b = a' ++ c :: b' → a = a' ∧ b = b'
  | [], b, [], b', _, _, e => by simpa using e
  | [], b, x :: a', b', _, h, e => by
    injection e with e1 e2
    exact absurd (by rw [e1]; exact .head _) h
  | x :: a, b, [], b', h, _, e => by
    injection e with e1 e2
    exact absurd (by rw [← e1]; exact .head _) h
  | x :: a, b, y :: a', b', h, h', e => by
    injection e with e1 e2
    obtain ⟨z1, z2⟩ := free_cut (fun z => h (.tail _ z)) (fun z => h' (.tail _ z)) e2
    exact ⟨by rw [e1, z1], z2⟩
theorem str_ext {a b : Str} (h : a.cps.toList = b.cps.toList) : a = b := Str.ext' (Array.toList_inj.mp h)
theorem join_inj (c : Nat) : ∀ (ps ws : List Str), ps ≠ [] → ws ≠ [] → (∀ p ∈ ps, c ∉ p.cps.toList) → (∀ p ∈ ws, c ∉ p.cps.toList) → (Str.join ⟨#[c]⟩ ps).cps.toList = (Str.join ⟨#[c]⟩ ws).cps.toList → ps = ws
  | [], _, h, _, _, _, _ => absurd rfl h
  | _, [], _, h, _, _, _ => absurd rfl h
  | [p], [w], _, _, _, _, e => by
    rw [show p = w from str_ext e]
  | [p], w :: x :: r, _, _, hp, _, e => by
    rw [join_list, join_list] at e
    exfalso
    simp only [List.append_nil] at e
    exact hp p (.head _) (by rw [e]; simp)
  | p :: x :: r, [w], _, _, _, hw, e => by
    rw [join_list, join_list] at e
    exfalso
    simp only [List.append_nil] at e
    exact hw w (.head _) (by rw [← e]; simp)
  | p :: x :: r, w :: y :: t, _, _, hp, hw, e => by
    rw [join_list, join_list] at e
    obtain ⟨z1, z2⟩ := free_cut (hp p (.head _)) (hw w (.head _)) e
    rw [show p = w from str_ext z1, join_inj c (x :: r) (y :: t) (by simp) (by simp) (fun q hq => hp q (.tail _ hq)) (fun q hq => hw q (.tail _ hq)) z2]
theorem split_ne (z y : Str) : Txt.split z y ≠ [] := by
  unfold Txt.split
  split
  · simp
  · split
    · simp
    · rw [StrLaws.partsBetween_eq]
      obtain ⟨p, r, e⟩ := StrLaws.partsFrom_ne z y.length 0 (Builtin.Str.occurrences z y 0 z.length (z.length + 1))
      rw [e]
      simp
theorem split_join {c : Nat} {ws : List Str} (h : ws ≠ []) (hf : ∀ w ∈ ws, c ∉ w.cps.toList) : Txt.split (Txt.join ⟨#[c]⟩ ws) ⟨#[c]⟩ = ws := by
  refine join_inj c _ _ (split_ne _ _) h (StrLaws.split_free _ c) hf ?_
  rw [StrLaws.join_split]
  show (Builtin.Str.glued _ _).cps.toList = _
  rw [StrLaws.glued_eq_join]
theorem comp_str {z : Str} {σ0 : L2.St} {H1 : Hp} {te : TE} {Q : VK} (f : Nat → V) (hn : z.length ≤ 1000) (he : ∀ c ∈ z.cps.toList, ∀ (H' : Hp) (Q' : VK), Same H1 H' → (∀ H'', Same H' H'' → Q' (f c) H'') → te (σ0.set 0 (some (.str ⟨#[c]⟩))) H' Q')
    (fin : ∀ D H', H1 D = none → Same H1 H' → H' D = some (.lst (z.cps.toList.map f)) → Q (.ref D) H') : CompRun (Its z) (gName 0) tTrue te σ0 H1 Q := by
  intro D hD
  refine comp_by (n := z.cps.size) (fun i ys H' => Same H1 H' ∧ H' D = some (.lst ys) ∧ ys = (z.cps.toList.take i).map f) ⟨Same.new hD, upd_same, by simp⟩ (fun i ys H' _ q => q.2.1) (fun i ys H' hi _ => hi) (fun ys H' _ => Nat.le_refl _) ?_ ?_
  · rintro i ys H' x H2 hi ⟨s1, eD, rfl⟩ ⟨rfl, c, hc, rfl⟩
    unfold tTrue
    refine iteT ?_
    have hl : i < z.cps.toList.length := by simpa using hi
    have hc' : z.cps.toList[i]? = some c := by rw [Array.getElem?_toList]; exact hc
    have hm : c ∈ z.cps.toList := List.mem_of_getElem? hc'
    refine he c hm _ _ s1 fun H'' s2 => ⟨s2 _ _ eD, ?_, (s1.trans s2).upd hD, upd_same, ?_⟩
    · rw [List.length_map, List.length_take]
      have : z.cps.toList.length = z.length := str_len z
      exact small1000 (by omega)
    · rw [List.take_add_one, hc', List.map_append]
      rfl
  · rintro ys H' ⟨s1, eD, rfl⟩
    rw [show z.cps.size = z.cps.toList.length by simp, List.take_length] at eD
    exact fin D H' hD s1 eD
theorem comp_tab {K : PySem.W.Frag} {a : Addr} {α : Type} {ms : List α} {σ0 : L2.St} {H1 : Hp} {te : TE} {Q : VK} (u : α → V) (f : α → List Int) (hq : SqL K H1 a (ms.map u)) (hn : ms.length ≤ 1000)
    (he : ∀ m ∈ ms, ∀ (H' : Hp) (Q' : VK), Same H1 H' → (∀ p H'', H' p = none → Same H' H'' → Row H'' p (f m) → Q' (.ref p) H'') → te (σ0.set 0 (some (u m))) H' Q')
    (fin : ∀ t prs H', H1 t = none → (∀ p ∈ prs, H1 p.1 = none ∧ p.1 ≠ t) → (prs.map (·.1)).Nodup → Same H1 H' → Tab H' t prs → prs.map (·.2) = ms.map f → Q (.ref t) H') : CompRun (Itl K a) (gName 0) tTrue te σ0 H1 Q := by
  intro D hD
  refine comp_by (n := ms.length) (fun i ys H' => ∃ qs : Prs, Same H1 H' ∧ H' D = some (.lst ys) ∧ ys = (qs.map fun p => V.ref p.1) ∧ qs.length = i ∧ qs.map (·.2) = (ms.take i).map f ∧ (∀ p ∈ qs, Row H' p.1 p.2 ∧ H1 p.1 = none ∧ p.1 ≠ D) ∧ (qs.map (·.1)).Nodup)
    ⟨[], Same.new hD, upd_same, rfl, rfl, by simp, fun p hp => (nomatch hp), .nil⟩ (fun i ys H' _ ⟨_, _, h, _⟩ => h) (fun i ys H' hi ⟨_, sm, _⟩ => ⟨_, u ms[i], sm.seq hq, by simp [hi]⟩) (fun ys H' ⟨_, sm, _⟩ => ⟨_, sm.seq hq, by simp⟩) ?_ (fun ys H' h => ?_)
  · rintro i ys H' x H2 hi ⟨qs, sm, hDl, rfl, hql, hqm, hq', hnd⟩ ⟨rfl, hy⟩
    have hx := hy _ (sm.seq hq)
    rw [List.getElem?_map, List.getElem?_eq_getElem hi] at hx
    have hx : u ms[i] = x := Option.some.inj hx
    subst hx
    unfold tTrue
    refine iteT ?_
    refine he ms[i] (List.getElem_mem hi) _ _ sm fun l H'' hl s2 hR => ?_
    have nlD : D ≠ l := ne_of_none hDl hl
    refine ⟨s2 _ _ hDl, ?_, qs ++ [(l, f ms[i])], (sm.trans s2).upd hD, upd_same, ?_, ?_, ?_, ?_, ?_⟩
    · rw [List.length_map, hql]
      exact small1000 (by omega)
    · rw [List.map_append]
      rfl
    · rw [List.length_append, List.length_singleton, hql]
    · rw [List.map_append, hqm, List.take_add_one, List.getElem?_eq_getElem hi, List.map_append]
      rfl
    · intro p hp
      rcases List.mem_append.mp hp with z | z
      · obtain ⟨z1, z2, z3⟩ := hq' p z
        refine ⟨?_, z2, z3⟩
        unfold Row
        rw [upd_ne z3]
        exact s2 _ _ z1
      · rw [List.mem_singleton.mp z]
        refine ⟨?_, sm.free hl, Ne.symm nlD⟩
        unfold Row
        rw [upd_ne (Ne.symm nlD)]
        exact hR
    · rw [List.map_append, List.nodup_append]
      refine ⟨hnd, by simp, fun a ha b hb z => ?_⟩
      obtain ⟨p, hp, rfl⟩ := List.mem_map.mp ha
      rw [List.map_singleton, List.mem_singleton] at hb
      have e : p.1 = l := z.trans hb
      have hR := (hq' p hp).1
      unfold Row at hR
      rw [e, hl] at hR
      cases hR
  · obtain ⟨qs, sm, hDl, rfl, hql, hqm, hq', hnd⟩ := h
    rw [List.take_length] at hqm
    exact fin D qs H' hD (fun p hp => (hq' p hp).2) hnd sm ⟨hDl, fun p hp => (hq' p hp).1⟩ hqm
abbrev figS : Str := "0123456789"
theorem fig_in {c : Nat} (h : 48 ≤ c ∧ c ≤ 57) : (!(Builtin.Str.occurrences figS ⟨#[c]⟩ 0 figS.length 1).isEmpty) = true := by
  rw [StrLaws.found_one, decide_eq_true_eq]
  have e : figS.cps.toList = [48, 49, 50, 51, 52, 53, 54, 55, 56, 57] := by decide +kernel
  rw [e]
  simp only [List.mem_cons, List.not_mem_nil, or_false]
  omega
theorem vstr_ne {x y : Str} (h : x.cps.toList ≠ y.cps.toList) : ¬ (V.str x = V.str y) := fun z => by
  injection z with z
  exact h (by rw [z])
theorem e_l : (Str.ofString "").cps.toList = [] := by decide +kernel
theorem z_l : (Str.ofString "0").cps.toList = [48] := by decide +kernel
theorem m_l : (Str.ofString "-").cps.toList = [45] := by decide +kernel
theorem mz_l : (Str.ofString "-0").cps.toList = [45, 48] := by decide +kernel
theorem starts_m (x : Str) : Txt.startswith x "-" = decide (x.cps.toList.head? = some 45) := by
  have h : Txt.startswith x "-" = (decide (0 + (Str.ofString "-").length ≤ x.length) && Builtin.Str.subAt x "-" 0) := rfl
  rw [h, StrLaws.subAt_eq, m_l, ← str_len x, ← str_len (Str.ofString "-"), m_l]
  cases e : x.cps.toList with
  | nil => simp
  | cons c r =>
    simp only [List.drop_zero, List.length_cons, List.length_nil, List.head?_cons, Option.some.injEq]
    by_cases hc : c = 45
    · subst hc; simp
    · rw [decide_eq_false hc]
      simp [hc]
section
variable {P : Program} {w : World} {K : PySem.W.Frag} {mg : Str → Option Value} {base : Heap} {c : Addr}
def spWC : Sp := fun vs H Q _ => ∃ (x : Str) (m : Nat), vs = [.str x] ∧ x.cps.toList = dg m ∧ x.length ≤ 1000 ∧ ∀ H', Same H H' → Q (.bl true) H'
theorem sc_wc : FnScope ["word"] ["word"] (defScope dWCount) := ⟨rfl, rfl, rfl, by decide +kernel, rfl, by decide +kernel, by decide +kernel⟩
set_option maxHeartbeats 4000000 in
theorem ok_wCount (T : Blt mg) (hf : ∃ t, mg "FIGURES" = some (.str figS t)) (D : DefAt K mg "writes_count" dWCount ["word"]) : FnAt P w K mg base 1 "writes_count" ["word"] spWC := by
  refine FnAt.of D sc_wc (fun vs H Q E h => ?_) (fun f cdv A outer s H vs Q E hr h => ?_)
  · obtain ⟨x, m, rfl, _⟩ := h
    rfl
  · obtain ⟨x, m, rfl, hx, hl, q⟩ := h
    obtain ⟨tf, hf⟩ := hf
    have nd1 : (["sign"] : List Str).Nodup := by decide +kernel
    refine ⟨_, pss_cons (ps_if (PW.pt (pw_or (pt_cmpR op_eq (pv 0) pe_str (nomark _)) (pw_or1 (pt_not (pt_val (pe_b (call_all rfl) T.all boot_all (pa_cons (pe_comp ["sign"] [none] (defScope dWCount) ["word"] rfl (pi_str (pv 0)) (by decide +kernel)
        (fun cl C s2 H2 ex => pg_c 0 nd1) (fun cl C s2 H2 ex => pifs_nil) (fun cl C s2 H2 ex => pe_cmpR op_in_str (pv 0) (pe_glob (v := .str figS) rfl hf ⟨_, rfl⟩) rfl)) pa_nil))))))) (pss_one (ps_ret pe_bl)) pss_nil)
      (pss_one (ps_ret (pe_or (pe_cmpR op_eq (pv 0) pe_str (nomark _)) (pe_one (pe_cmpR op_ne (pe_ix ix_str (pv 0) pe_int (fun _ _ => rfl)) pe_str (nomark _)))))), ?_⟩
    refine ⟨_, rfl, rfl, _, rfl, iteDf (vstr_ne (by rw [hx, e_l]; exact dg_ne m)) ⟨_, rfl, x, rfl, comp_str (fun _ => V.bl true) hl (fun c hc H' Q' sm q' => ⟨_, rfl, _, _, rfl, rfl, ?_⟩) fun D H1 hD s1 hDl => ?_⟩⟩
    · rw [hx] at hc
      rw [fig_in (dg_digits m c hc)]
      exact q' _ (Same.refl _)
    · refine ⟨D, x.cps.toList.map fun _ => true, rfl, SqL.of (by rw [hDl, List.map_map]; rfl), ⟨_, rfl, ?_⟩⟩
      rw [show (x.cps.toList.map fun _ => true).all id = true by rw [List.all_map]; simp]
      refine iteF ⟨_, rfl, rfl, _, rfl, ?_⟩
      by_cases h0 : V.str x = V.str "0"
      · rw [decide_eq_true h0]
        exact iteT (q H1 s1)
      · rw [decide_eq_false h0]
        have hm : 0 < m := Nat.pos_of_ne_zero fun z => h0 (by rw [show x = "0" from str_ext (by rw [hx, z, dg_zero, z_l])])
        obtain ⟨c, r, ed, hc⟩ := dg_head m hm
        refine iteF ⟨_, rfl, x, ((0 : Nat) : Int), c, rfl, rfl, sl6 hl, atI_nat (j := 0) (by rw [hx, ed]; rfl), rfl, ?_⟩
        rw [decide_eq_false (vstr_ne (by rw [z_l]; intro z; exact hc (by simpa using z)))]
        exact q H1 s1
def spWN : Sp := fun vs H Q _ => ∃ n : Int, vs = [.str (numStr n)] ∧ (numStr n).length ≤ 1000 ∧ ∀ H', Same H H' → Q (.bl true) H'
theorem sc_wn : FnScope ["word"] ["word"] (defScope dWNumber) := ⟨rfl, rfl, rfl, by decide +kernel, rfl, by decide +kernel, by decide +kernel⟩
theorem ok_wNumber (D : DefAt K mg "writes_number" dWNumber ["word"]) (G : FnAt P w K mg base 1 "writes_count" ["word"] spWC) : FnAt P w K mg base 2 "writes_number" ["word"] spWN := by
  refine FnAt.of D sc_wn (fun vs H Q E h => ?_) (fun f cdv A outer s H vs Q E hr h => ?_)
  · obtain ⟨n, rfl, _⟩ := h
    rfl
  · obtain ⟨n, rfl, hl, q⟩ := h
    refine ⟨_, pss_cons (ps_if (pt_val (pe_bm F.plainAttrs_str F.slot_str_startswith F.type_str_startswith mt_starts (pv 0) (pa_cons pe_str pa_nil))) (pss_one (ps_ret (pe_and (pe_cmpR op_ne (pv 0) pe_str (nomark _)) (pe_one (pe_f G hr (pa_cons (pe_slice sl_str (pv 0) (po_some pe_int) po_none) pa_nil)))))) pss_nil)
      (pss_one (ps_ret (pe_f G hr (pa_cons (pv 0) pa_nil)))), ?_⟩
    refine ⟨_, rfl, rfl, _, _, rfl, rfl, _, rfl, ?_⟩
    rw [starts_m]
    cases n with
    | ofNat m =>
      have e : (numStr (Int.ofNat m)).cps.toList = dg m := numStr_nat m
      rw [e, decide_eq_false (fun z => by
        cases ed : dg m with
        | nil => exact dg_ne m ed
        | cons c r =>
          rw [ed] at z
          have := dg_digits m c (by rw [ed]; exact .head _)
          simp at z
          omega)]
      exact iteF ⟨_, rfl, _, m, rfl, e, hl, q⟩
    | negSucc m =>
      have e := numStr_neg m
      have hs : Txt.slice (numStr (Int.negSucc m)) (some 1) none = ⟨(dg (m + 1)).toArray⟩ := by
        have h := StrLaws.sliceText_from (x := numStr (Int.negSucc m)) (i := 1) ⟨by decide, by rw [e, List.length_cons]; omega⟩
        rw [show Txt.slice (numStr (Int.negSucc m)) (some 1) none = StrLaws.sliceText (numStr (Int.negSucc m)) (some 1) none from rfl, h, e, List.length_cons]
        have : (((dg (m + 1)).length + 1 : Nat) - 1 : Int).toNat = (dg (m + 1)).length := by omega
        rw [this, show (1 : Int).toNat = 1 from rfl, List.drop_succ_cons, List.drop_zero, List.take_length]
      have hn0 : ¬ (V.str (numStr (Int.negSucc m)) = V.str "-0") := vstr_ne (by
        rw [e, mz_l]
        intro z
        injection z with _ z
        obtain ⟨c, r, ed, hc⟩ := dg_head (m + 1) (Nat.succ_pos m)
        rw [ed] at z
        injection z with z _
        exact hc z)
      rw [e]
      refine iteT ⟨_, rfl, rfl, _, rfl, ?_⟩
      rw [decide_eq_false hn0]
      refine iteT ⟨_, rfl, _, rfl, _, rfl, sl6 hl, _, m + 1, rfl, ?_, ?_, q⟩
      · show (Txt.slice (numStr (Int.negSucc m)) (some 1) none).cps.toList = _
        rw [hs]
      · show (Txt.slice (numStr (Int.negSucc m)) (some 1) none).length ≤ 1000
        rw [hs, ← str_len]
        have := str_len (numStr (Int.negSucc m))
        rw [e, List.length_cons] at this
        show (dg (m + 1)).length ≤ 1000
        omega
end
theorem boot_str9 : bootBuiltins "str" = some (.type "str") := by kernel_rfl
theorem sp_eq : (Str.ofString " ") = ⟨#[32]⟩ := by decide +kernel
theorem nl_eq : (Str.ofString "\n") = ⟨#[10]⟩ := by decide +kernel
def rowS (r : List Int) : Str := Txt.join " " (r.map numStr)
def tabS (rows : List (List Int)) : Str := Txt.join "\n" (rows.map rowS)
theorem join_free {c d : Nat} (hcd : d ≠ c) : ∀ {ws : List Str}, (∀ w ∈ ws, d ∉ w.cps.toList) → d ∉ (Str.join ⟨#[c]⟩ ws).cps.toList
  | [], _ => by
    show d ∉ Str.empty.cps.toList
    simp [Str.empty]
  | [w], h => h w (.head _)
  | w :: x :: r, h => by
    rw [join_list]
    intro z
    rcases List.mem_append.mp z with z | z
    · exact h w (.head _) z
    · rcases List.mem_cons.mp z with z | z
      · exact hcd z
      · exact join_free hcd (fun y hy => h y (.tail _ hy)) z
theorem txt_join (c : Nat) (ws : List Str) : Txt.join ⟨#[c]⟩ ws = Str.join ⟨#[c]⟩ ws := StrLaws.glued_eq_join _ _
theorem join_len {c B : Nat} {ws : List Str} (h : ∀ w ∈ ws, w.length ≤ B) : (Txt.join ⟨#[c]⟩ ws).length ≤ ws.length * (B + 1) := by
  rw [txt_join]
  have h1 := StrLaws.join_length_le ⟨#[c]⟩ ws
  have h2 := StrLaws.sumLen_le (B := B) ws h
  have h3 : (⟨#[c]⟩ : Str).length = 1 := rfl
  rw [h3] at h1
  rw [Nat.mul_add]
  omega
theorem join_ok {c B : Nat} {ws : List Str} (h : ∀ w ∈ ws, w.length ≤ B) (hz : ws.length * (B + 1) ≤ 1000000) : JoinOk ⟨#[c]⟩ ws = true := by
  unfold JoinOk
  rw [Bool.not_eq_true']
  refine StrLaws.joinFits h ?_
  have h3 : (⟨#[c]⟩ : Str).length = 1 := rfl
  rw [h3]
  rw [Nat.mul_add] at hz
  omega
theorem rowS_len {r : List Int} {B : Nat} (h : ∀ n ∈ r, (numStr n).length ≤ B) : (rowS r).length ≤ r.length * (B + 1) := by
  unfold rowS
  rw [sp_eq]
  have := join_len (c := 32) (ws := r.map numStr) (B := B) (fun w hw => by
    obtain ⟨n, hn, rfl⟩ := List.mem_map.mp hw
    exact h n hn)
  rw [List.length_map] at this
  exact this
theorem rowS_split {r : List Int} (h : r ≠ []) : Txt.split (rowS r) " " = r.map numStr := by
  unfold rowS
  rw [sp_eq]
  exact split_join (by simpa using h) fun w hw => by
    obtain ⟨n, hn, rfl⟩ := List.mem_map.mp hw
    exact num_free (by decide)
theorem rowS_free (r : List Int) : 10 ∉ (rowS r).cps.toList := by
  unfold rowS
  rw [sp_eq, txt_join]
  exact join_free (by decide) fun w hw => by
    obtain ⟨n, hn, rfl⟩ := List.mem_map.mp hw
    exact num_free (by decide)
theorem tabS_split {rows : List (List Int)} (h : rows ≠ []) : Txt.split (tabS rows) "\n" = rows.map rowS := by
  unfold tabS
  rw [nl_eq]
  exact split_join (by simpa using h) fun w hw => by
    obtain ⟨r, hr, rfl⟩ := List.mem_map.mp hw
    exact rowS_free r
theorem tabS_len {rows : List (List Int)} {B M : Nat} (h : ∀ r ∈ rows, (rowS r).length ≤ B) (hM : rows.length * (B + 1) ≤ M) : (tabS rows).length ≤ M := by
  unfold tabS
  rw [nl_eq]
  have := join_len (c := 10) (ws := rows.map rowS) (B := B) (fun w hw => by
    obtain ⟨r, hr, rfl⟩ := List.mem_map.mp hw
    exact h r hr)
  rw [List.length_map] at this
  omega
section
variable {P : Program} {w : World} {K : PySem.W.Frag} {mg : Str → Option Value} {base : Heap} {c : Addr}
def spRR : Sp := fun vs H Q _ => ∃ ns : List Int, vs = [.str (rowS ns)] ∧ ns ≠ [] ∧ ns.length ≤ 6 ∧ (∀ n ∈ ns, (numStr n).length ≤ 100) ∧ ∀ p H', H p = none → Same H H' → Row H' p ns → Q (.ref p) H'
theorem sc_rr : FnScope ["line", "words"] ["line"] (defScope dReadRow) := ⟨rfl, rfl, rfl, by decide +kernel, rfl, by decide +kernel, by decide +kernel⟩
set_option maxHeartbeats 4000000 in
theorem ok_readRow (T : Blt mg) (D : DefAt K mg "read_row" dReadRow ["line"]) (G : FnAt P w K mg base 2 "writes_number" ["word"] spWN) : FnAt P w K mg base 3 "read_row" ["line"] spRR := by
  refine FnAt.of D sc_rr (fun vs H Q E h => ?_) (fun f cdv A outer s H vs Q E hr h => ?_)
  · obtain ⟨ns, rfl, _⟩ := h
    rfl
  · obtain ⟨ns, rfl, hne, h6, hl, q⟩ := h
    have nd := sc_rr.nd
    have nd1 : (["word"] : List Str).Nodup := by decide +kernel
    refine ⟨_, pss_cons (ps_set (i := 1) nd rfl (Or.inl rfl) (pe_bm F.plainAttrs_str F.slot_str_split F.type_str_split mt_split (pv 0) (pa_cons pe_str pa_nil)))
      (pss_cons (ps_if (pt_not (pt_val (pe_b (call_all rfl) T.all boot_all (pa_cons (pe_comp ["word"] [none] (defScope dReadRow) ["line", "words"] rfl (pi_list (pv 1)) (by decide +kernel)
        (fun cl C s2 H2 ex => pg_c 0 nd1) (fun cl C s2 H2 ex => pifs_nil) (fun cl C s2 H2 ex => pe_f G hr (pa_cons (pv 0) pa_nil))) pa_nil)))) pss_never pss_nil)
      (pss_one (ps_ret (pe_comp ["word"] [none] (defScope dReadRow) ["line", "words"] rfl (pi_list (pv 1)) (by decide +kernel)
        (fun cl C s2 H2 ex => pg_c 0 nd1) (fun cl C s2 H2 ex => pifs_nil) (fun cl C s2 H2 ex => pe_t call_intT T.int boot_int (pa_cons (pv 0) pa_nil)))))), ?_⟩
    have hrl := rowS_len hl
    refine ⟨_, rfl, rfl, _, _, rfl, rfl, by decide +kernel, by omega, fun p hp => ?_⟩
    rw [rowS_split hne]
    have s1 := Same.new (o := .lst ((ns.map numStr).map V.str)) hp
    have e1 : (upd H p (.lst ((ns.map numStr).map V.str))) p = some (.lst ((ns.map numStr).map V.str)) := upd_same
    generalize upd H p (.lst ((ns.map numStr).map V.str)) = H1 at s1 e1 ⊢
    rw [List.map_map] at e1
    refine ⟨_, rfl, p, rfl, ⟨_, SqL.of e1⟩, comp_map (ms := ns) (V.str ∘ numStr) (fun _ => V.bl true) (SqL.of e1) (sl6 (by omega)) (fun n hn H' Q' sm q' => ⟨_, rfl, n, rfl, by have := hl n hn; omega, fun H'' s'' => q' H'' s''⟩) fun D2 H2 hD2 s2 eD2 => ?_⟩
    refine ⟨D2, ns.map fun _ => true, rfl, SqL.of (by rw [eD2, List.map_map]; rfl), ⟨_, rfl, ?_⟩⟩
    rw [show (ns.map fun _ => true).all id = true by rw [List.all_map]; simp]
    refine iteF ⟨_, rfl, p, rfl, ⟨_, SqL.of (s2 _ _ e1)⟩, comp_map (ms := ns) (V.str ∘ numStr) V.int (SqL.of (s2 _ _ e1)) (sl6 (by omega)) (fun n hn H' Q' sm q' => ⟨_, rfl, numStr n, n, rfl, num_read (by have := hl n hn; omega), by have := hl n hn; omega, q' _ (Same.refl _)⟩) fun D3 H3 hD3 s3 eD3 => ?_⟩
    exact q D3 H3 ((s1.trans s2).free hD3) (s1.trans (s2.trans s3)) eD3
def spRT : Sp := fun vs H Q _ => ∃ rows : List (List Int), vs = [.str (tabS rows)] ∧ rowsOk rows = true ∧ (∀ r ∈ rows, ∀ n ∈ r, (numStr n).length ≤ 100) ∧ NewTab H Q rows
theorem sc_rt : FnScope ["text", "table"] ["text"] (defScope dReadTable) := ⟨rfl, rfl, rfl, by decide +kernel, rfl, by decide +kernel, by decide +kernel⟩
set_option maxHeartbeats 4000000 in
theorem ok_readTable (T : Blt mg) (hstr : mg "str" = none) (D : DefAt K mg "read_table" dReadTable ["text"]) (G : FnAt P w K mg base 3 "read_row" ["line"] spRR) (G4 : FnAt P w K mg base 5 "is_table" ["thing"] spIsTable) : FnAt P w K mg base 6 "read_table" ["text"] spRT := by
  refine FnAt.of D sc_rt (fun vs H Q E h => ?_) (fun f cdv A outer s H vs Q E hr h => ?_)
  · obtain ⟨rows, rfl, _⟩ := h
    rfl
  · obtain ⟨rows, rfl, hok, hl, q⟩ := h
    have nd := sc_rt.nd
    have nd1 : (["line"] : List Str).Nodup := by decide +kernel
    have hg : tabB (prs0 rows) = true := by rw [rowsOk_of rfl, prs0_rows]; exact hok
    obtain ⟨g, g1, g2, g3, g4⟩ := good_of hg
    have len0 : (prs0 rows).length = rows.length := by unfold prs0; rw [List.length_map]
    rw [len0] at g1 g2
    have rl : ∀ r ∈ rows, r ≠ [] ∧ r.length ≤ 6 := fun r hr => by
      have := g.len (0, r) (List.mem_map.mpr ⟨r, hr, rfl⟩)
      have this : r.length = w0 (prs0 rows) := this
      exact ⟨fun z => by rw [z] at this; simp at this; omega, by omega⟩
    have hr3 : Room 3 _ := hr.mono (show 3 ≤ 5 by decide)
    refine ⟨_, pss_cons (ps_if (pt_not (pt_val (pe_b call_isinst T.isinst boot_isinstance (pa_cons (pv 0) (pa_cons (pe_ty hstr boot_str9) pa_nil))))) pss_never pss_nil)
      (pss_cons (ps_setC (i := 1) ["line"] [none] (defScope dReadTable) ["text", "table"] nd rfl (Or.inl rfl) rfl (pi_list (pe_bm F.plainAttrs_str F.slot_str_split F.type_str_split mt_split (pv 0) (pa_cons pe_str pa_nil))) (by decide +kernel)
        (fun cl C s2 H2 ex => pg_c 0 nd1) (fun cl C s2 H2 ex => pifs_nil) (fun cl C s2 H2 ex => pe_f G hr3 (pa_cons (pv 0) pa_nil)))
      (pss_cons (ps_if (pt_not (pt_val (pe_f G4 hr (pa_cons (pv 1) pa_nil)))) pss_never pss_nil) (pss_one (ps_ret (pv 1))))), ?_⟩
    have hB : ∀ r ∈ rows, (rowS r).length ≤ 606 := fun r hr => Nat.le_trans (rowS_len (hl r hr)) (Nat.mul_le_mul_right 101 (rl r hr).2)
    have hT := tabS_len (M := 4000) hB (by have := Nat.mul_le_mul_right 607 g2; omega)
    refine ⟨_, rfl, _, "str", _, true, rfl, .str _, by kernel_rfl, _, rfl, iteF ⟨_, rfl, rfl, _, _, rfl, rfl, by decide +kernel, by omega, fun p hp => ?_⟩⟩
    have hne : rows ≠ [] := fun z => by rw [z] at g1; simp at g1
    rw [tabS_split hne]
    have s1 := Same.new (o := .lst ((rows.map rowS).map V.str)) hp
    have e1 : (upd H p (.lst ((rows.map rowS).map V.str))) p = some (.lst ((rows.map rowS).map V.str)) := upd_same
    generalize upd H p (.lst ((rows.map rowS).map V.str)) = H1 at s1 e1 ⊢
    rw [List.map_map] at e1
    refine ⟨p, rfl, ⟨_, SqL.of e1⟩, comp_tab (ms := rows) (V.str ∘ rowS) id (SqL.of e1) (by omega) (fun r hr H' Q' sm q' => ⟨_, rfl, r, rfl, (rl r hr).1, (rl r hr).2, hl r hr, fun p' H'' hp' s'' hR => q' p' H'' hp' s'' hR⟩) fun t prs H2 ht hp2 hnd s2 hT2 hrows => ?_⟩
    rw [List.map_id] at hrows
    have hg2 : tabB prs = true := by rw [rowsOk_of rfl, hrows]; exact hok
    refine ⟨_, rfl, t, prs, rfl, hT2, good_bounds hg2, fun H3 s3 => ⟨_, rfl, ?_⟩⟩
    rw [hg2]
    exact iteF ⟨_, rfl, q t prs H3 (s1.free ht) (fun p' hp' => ⟨s1.free (hp2 p' hp').1, (hp2 p' hp').2⟩) hnd ((s1.trans s2).trans s3) (hT2.same s3) hrows⟩
end
end Seek
namespace L2
open PySem PySem.Spec PyProof.Rows
theorem pi_listK4 {X : Cx} {tg l : Expr} {tl : TE} (K : PySem.W.Frag) (hl : PE X l tl) (hK : X.K = K := by rfl) : PI X tg l (iList K tl) := by subst hK; exact pi_list hl
theorem pe_compN4 {X : Cx} {tg iter elt : Expr} {ifs : List Expr} {scope : Scope} {pos : Pos} {wi : TI} {g : TG} {tc : TT} {te : TE} (N' : List Str) (ix : List (Option Nat)) (hc : X.calm = true) (hi : PI X tg iter wi) (ok : compOk X.env.scope scope X.N N' ix = true)
    (hg : ∀ cl C s2 H2 ex, PG (X.comp N' scope cl C s2 H2 ex) tg g) (ht : ∀ cl C s2 H2 ex, PIfs (X.comp N' scope cl C s2 H2 ex) ifs tc) (he : ∀ cl C s2 H2 ex, PE (X.comp N' scope cl C s2 H2 ex) elt te) (hs : ∀ x, foldedSetIterable iter X.env x = pure x := by intro _; rfl) :
    PE X (.ListComp elt [⟨tg, iter, ifs, 0⟩] scope pos) (tComp wi g tc te ix) := pe_comp N' ix X.env.scope X.N hc hi ok hg ht he rfl rfl hs
theorem pe_bmK {X : Cx} {T id : String} {name : Str} {r : V → List V → Hp → VK → Prop} {o e : Expr} {es : List Expr} {to : TE} {t : TA} {apos cpos : Pos} (K : PySem.W.Frag) (pa : PlainAttrs T) (slot : Slot T name id) (hty : typeOf (.builtin id) = pure (.type "method_descriptor")) (hm : MtR X id r) (ho : PE X o to) (ha : PA X (e :: es) t) (hK : X.K = K := by rfl)
    (hbase : attributeBase o name X.env (eval o X.env) = eval o X.env := by rfl)
    (hfew : ((backTo cpos (starEach (e :: es) X.env)).all (fun x => !x.1) && (backToKw cpos (keywordEach [] X.env)).all (fun x => x.1.isSome)
      && decide ((e :: es).length + ([] : List Keyword).length + (if ([] : List Keyword).isEmpty then 0 else 1) < 30)) = true := by rfl)
    (hline : (apos.endLine == cpos.line) = true := by rfl) (hs : starEach (e :: es) X.env = (false, eval e X.env) :: starEach es X.env := by rfl) (hplain : (backTo cpos (starEach es X.env)).any (·.1) = false := by rfl) :
    PE X (.Call (.Attribute o name apos) (e :: es) [] cpos) (tBM K T r to t) := by
  subst hK
  exact pe_bm pa slot hty hm ho ha hbase hfew hline hs hplain
end L2
namespace Seek
open PySem L2 PyProof.Rows
theorem log_ok4 {n : Int} (h : n.natAbs < 10 ^ 50) : n.natAbs.log2 < 1920 := by
  by_cases h0 : n.natAbs = 0
  · rw [h0]; decide
  · rw [Nat.log2_lt h0]
    have h1 : (10 : Nat) ^ 50 ≤ 2 ^ 200 := by decide
    have h2 : (2 : Nat) ^ 200 ≤ 2 ^ 1920 := Nat.pow_le_pow_right (by decide) (by decide)
    exact Nat.lt_of_lt_of_le h (Nat.le_trans h1 h2)
def Bd50 (ns : List Int) : Prop := ∀ n ∈ ns, n.natAbs < 10 ^ 50
theorem row_ok {ns : List Int} (h6 : ns.length ≤ 6) (hb : Bd50 ns) : JoinOk " " (ns.map numStr) = true := by
  rw [sp_eq]
  refine join_ok (B := 51) (fun w hw => ?_) (by rw [List.length_map]; omega)
  obtain ⟨n, hn, rfl⟩ := List.mem_map.mp hw
  exact num_len (hb n hn) (by decide)
theorem row_len {ns : List Int} (h6 : ns.length ≤ 6) (hb : Bd50 ns) : (rowS ns).length ≤ 312 := Nat.le_trans (rowS_len (B := 51) fun n hn => num_len (hb n hn) (by decide)) (Nat.mul_le_mul_right 52 h6)
theorem tab_ok {rows : List (List Int)} (h6 : rows.length ≤ 6) (hr : ∀ r ∈ rows, r.length ≤ 6) (hb : ∀ r ∈ rows, Bd50 r) : JoinOk "\n" (rows.map rowS) = true := by
  rw [nl_eq]
  refine join_ok (B := 312) (fun w hw => ?_) (by rw [List.length_map]; omega)
  obtain ⟨r, hr', rfl⟩ := List.mem_map.mp hw
  exact row_len (hr r hr') (hb r hr')
section
variable {P : Program} {w : World} {K : PySem.W.Frag} {mg : Str → Option Value} {base : Heap}
def spSR : Sp := fun vs H Q _ => ∃ (a : Addr) (ns : List Int), vs = [.ref a] ∧ Row H a ns ∧ ns.length ≤ 6 ∧ Bd50 ns ∧ ∀ H', Same H H' → Q (.str (rowS ns)) H'
theorem sc_sr : FnScope ["row"] ["row"] (defScope dShowRow) := ⟨rfl, rfl, rfl, by decide +kernel, rfl, by decide +kernel, by decide +kernel⟩
theorem ok_showRow (hstr : mg "str" = none) (D : DefAt K mg "show_row" dShowRow ["row"]) : FnAt P w K mg base 1 "show_row" ["row"] spSR := by
  refine FnAt.of D sc_sr (fun vs H Q E h => ?_) (fun f cdv A outer s H vs Q E hr h => ?_)
  · obtain ⟨a, ns, rfl, _⟩ := h
    rfl
  · obtain ⟨a, ns, rfl, hR, h6, hb, q⟩ := h
    have nd1 : (["number"] : List Str).Nodup := by decide +kernel
    refine ⟨_, pss_one (ps_ret (pe_bm F.plainAttrs_str F.slot_str_join F.type_str_join mt_join pe_str (pa_cons (pe_comp ["number"] [none] (defScope dShowRow) ["row"] rfl (pi_list (pv 0)) (by decide +kernel)
      (fun cl C s2 H2 ex => pg_c 0 nd1) (fun cl C s2 H2 ex => pifs_nil) (fun cl C s2 H2 ex => pe_t call_strI hstr boot_str9 (pa_cons (pv 0) pa_nil))) pa_nil))), ?_⟩
    refine ⟨rfl, _, rfl, a, rfl, ⟨_, hR.sq⟩, comp_map (ms := ns) V.int (fun n => V.str (numStr n)) hR.sq (sl6 (by omega)) (fun n hn H' Q' sm q' => ⟨_, rfl, n, rfl, log_ok4 (hb n hn), q' _ (Same.refl _)⟩) fun D2 H2 hD s2 eD => ?_⟩
    exact ⟨_, D2, ns.map numStr, rfl, rfl, by rw [eD, List.map_map]; rfl, row_ok h6 hb, q H2 s2⟩
def spST : Sp := fun vs H Q _ => ∃ (t : Addr) (prs : Prs), vs = [.ref t] ∧ Tab H t prs ∧ tabB prs = true ∧ (∀ p ∈ prs, Bd50 p.2) ∧ ∀ H', Same H H' → Q (.str (tabS (prs.map (·.2)))) H'
theorem sc_st : FnScope ["table"] ["table"] (defScope dShowTable) := ⟨rfl, rfl, rfl, by decide +kernel, rfl, by decide +kernel, by decide +kernel⟩
theorem tab_joins {prs : Prs} (hg : tabB prs = true) (hb : ∀ p ∈ prs, Bd50 p.2) : JoinOk "\n" ((prs.map (·.2)).map rowS) = true := by
  obtain ⟨g, g1, g2, g3, g4⟩ := good_of hg
  refine tab_ok (by rw [List.length_map]; exact g2) (fun r hr => ?_) fun r hr => ?_
  · obtain ⟨p, hp, rfl⟩ := List.mem_map.mp hr
    rw [g.len p hp]; exact g4
  · obtain ⟨p, hp, rfl⟩ := List.mem_map.mp hr
    exact hb p hp
theorem ok_showTable (D : DefAt K mg "show_table" dShowTable ["table"]) (G1 : FnAt P w K mg base 6 "need_table" ["thing"] spNeedTable) (G2 : FnAt P w K mg base 1 "show_row" ["row"] spSR) : FnAt P w K mg base 7 "show_table" ["table"] spST := by
  refine FnAt.of D sc_st (fun vs H Q E h => ?_) (fun f cdv A outer s H vs Q E hr h => ?_)
  · obtain ⟨t, prs, rfl, _⟩ := h
    rfl
  · obtain ⟨t, prs, rfl, hT, hg, hb, q⟩ := h
    have nd1 : (["row"] : List Str).Nodup := by decide +kernel
    have hr1 : Room 1 _ := hr.mono (show 1 ≤ 6 by decide)
    obtain ⟨g, g1, g2, g3, g4⟩ := good_of hg
    refine ⟨_, pss_cons (ps_expr (pe_f G1 hr (pa_cons (pv 0) pa_nil))) (pss_one (ps_ret (pe_bm F.plainAttrs_str F.slot_str_join F.type_str_join mt_join pe_str (pa_cons (pe_comp ["row"] [none] (defScope dShowTable) ["table"] rfl (pi_list (pv 0)) (by decide +kernel)
      (fun cl C s2 H2 ex => pg_c 0 nd1) (fun cl C s2 H2 ex => pifs_nil) (fun cl C s2 H2 ex => pe_f G2 hr1 (pa_cons (pv 0) pa_nil))) pa_nil)))), ?_⟩
    refine ⟨_, rfl, t, prs, rfl, hT, good_bounds hg, hg, fun H1 s1 => ⟨rfl, _, rfl, t, rfl, ⟨_, (hT.same s1).sq⟩, comp_map (ms := prs) (fun p : Addr × List Int => V.ref p.1) (fun p => V.str (rowS p.2)) (hT.same s1).sq (sl6 (by omega)) (fun p hp H' Q' sm q' => ⟨_, rfl, p.1, p.2, rfl, ((hT.same s1).same sm).r p hp, by rw [g.len p hp]; exact g4, hb p hp, fun H'' s'' => q' H'' s''⟩) fun D2 H2 hD s2 eD => ?_⟩⟩
    exact ⟨_, D2, (List.map (fun p : Addr × List Int => p.2) prs).map rowS, rfl, rfl, by rw [eD]; simp only [List.map_map]; rfl, tab_joins hg hb, q H2 (s1.trans s2)⟩
theorem sc_wr : FnScope ["table"] ["table"] (defScope dWritten) := ⟨rfl, rfl, rfl, by decide +kernel, rfl, by decide +kernel, by decide +kernel⟩
theorem ok_written (hstr : mg "str" = none) (D : DefAt K mg "_law_written" dWritten ["table"]) : FnAt P w K mg base 1 "_law_written" ["table"] spST := by
  refine FnAt.of D sc_wr (fun vs H Q E h => ?_) (fun f cdv A outer s H vs Q E hr h => ?_)
  · obtain ⟨t, prs, rfl, _⟩ := h
    rfl
  · obtain ⟨t, prs, rfl, hT, hg, hb, q⟩ := h
    have nd1 : (["row"] : List Str).Nodup := by decide +kernel
    have nd2 : (["number"] : List Str).Nodup := by decide +kernel
    obtain ⟨g, g1, g2, g3, g4⟩ := good_of hg
    refine ⟨_, pss_one (ps_ret (pe_bm F.plainAttrs_str F.slot_str_join F.type_str_join mt_join pe_str (pa_cons (pe_comp ["row"] [none] (defScope dWritten) ["table"] rfl (pi_list (pv 0)) (by decide +kernel)
      (fun cl C s2 H2 ex => pg_c 0 nd1) (fun cl C s2 H2 ex => pifs_nil) (fun cl C s2 H2 ex => pe_bmK K F.plainAttrs_str F.slot_str_join F.type_str_join mt_join pe_str (pa_cons (pe_compN4 ["number"] [none] rfl (pi_listK4 K (pv 0)) (by kernel_rfl)
        (fun cl C s2 H2 ex => pg_c 0 nd2) (fun cl C s2 H2 ex => pifs_nil) (fun cl C s2 H2 ex => pe_t call_strI hstr boot_str9 (pa_cons (pv 0) pa_nil))) pa_nil))) pa_nil))), ?_⟩
    refine ⟨rfl, _, rfl, t, rfl, ⟨_, hT.sq⟩, comp_map (ms := prs) (fun p : Addr × List Int => V.ref p.1) (fun p => V.str (rowS p.2)) hT.sq (sl6 (by omega)) (fun p hp H' Q' sm q' => ?_) fun D2 H2 hD s2 eD => ?_⟩
    · have hR := (hT.same sm).r p hp
      have h6 : p.2.length ≤ 6 := by rw [g.len p hp]; exact g4
      refine ⟨rfl, _, rfl, p.1, rfl, ⟨_, hR.sq⟩, comp_map (ms := p.2) V.int (fun n => V.str (numStr n)) hR.sq (sl6 (by omega)) (fun n hn H3 Q3 sm3 q3 => ⟨_, rfl, n, rfl, log_ok4 (hb p hp n hn), q3 _ (Same.refl _)⟩) fun D3 H3 hD3 s3 eD3 => ?_⟩
      exact ⟨_, D3, p.2.map numStr, rfl, rfl, by rw [eD3, List.map_map]; rfl, row_ok h6 (hb p hp), q' _ s3⟩
    · exact ⟨_, D2, (List.map (fun p : Addr × List Int => p.2) prs).map rowS, rfl, rfl, by rw [eD]; simp only [List.map_map]; rfl, tab_joins hg hb, q H2 s2⟩
end
theorem len0 : 0 ≤ sizeLine := by decide
theorem e25n : (10 : Int) ^ (25 : Int).toNat = 10000000000000000000000000 := by decide
theorem e12n : (10 : Int) ^ (12 : Int).toNat = 1000000000000 := by decide
def Stq (m : Int) (n : Int) : Prop := -40 ≤ n ∧ n ≤ 10000000000000000000000000 + m * 1000000000000
theorem of_decide_false {p : Prop} [Decidable p] (h : ¬ decide p = true) : ¬ p := fun z => h (decide_eq_true z)
theorem if_tail {tc : TT} {t u : TS} {D : Ends} {σ0 : L2.St} {H0 : Hp} (C : (L2.St → Hp → Prop) → Prop) (h : C (u D)) (hA : C (u D) → tc σ0 H0 (fun b H1 => if b = true then t { D with nx := u D } σ0 H1 else u D σ0 H1)) : tSeq (tIfS tc t tNext) u D σ0 H0 := hA h
section
variable {P : Program} {w : World} {K : PySem.W.Frag} {mg : Str → Option Value} {base : Heap}
def spMixed : Sp := fun vs H Q _ => ∃ (c : Int) (k : Nat), vs = [.int c, .int (k : Nat)] ∧ k ≤ 100 ∧ ∀ v H', 0 ≤ v → v < 10000000000000 → Same H H' → Q (.int v) H'
theorem sc_mixed : FnScope ["cell", "k", "number", "some"] ["cell", "k"] (defScope dMixed) := ⟨rfl, rfl, rfl, by decide +kernel, rfl, by decide +kernel, by decide +kernel⟩
theorem ok_mixed (D : DefAt K mg "_law_mixed" dMixed ["cell", "k"]) : FnAt P w K mg base 1 "_law_mixed" ["cell", "k"] spMixed := by
  refine FnAt.of D sc_mixed (fun vs H Q E h => ?_) (fun f cdv A outer s H vs Q E hr h => ?_)
  · obtain ⟨c, k, rfl, _⟩ := h
    rfl
  · obtain ⟨c, k, rfl, hk, q⟩ := h
    have nd := sc_mixed.nd
    refine ⟨_, pss_cons (ps_set (i := 2) nd rfl (Or.inl rfl) (pe_op o_mod (pe_op o_add (pe_op o_add (pe_op o_add (pe_op o_mul (pv 0) pe_int) (pe_op o_mul (pe_op o_mul pe_int (pv 1)) (pv 1))) (pe_op o_mul pe_int (pv 1))) pe_int) pe_int))
      (pss_cons (ps_set (i := 3) nd rfl (Or.inl rfl) (pe_lst (pa_cons pe_int (pa_cons pe_int (pa_cons pe_int (pa_cons pe_int (pa_cons pe_int (pa_cons pe_int (pa_cons pe_int pa_nil)))))))))
      (pss_cons (ps_set (i := 2) nd rfl (Or.inl rfl) (pe_op o_mod (pe_op o_mul (pv 2) (pv 2)) (pe_ix ix_list (pv 3) (pe_op o_mod (pv 1) pe_int) (fun _ _ => rfl))))
      (pss_one (ps_ret (pe_op o_div (pe_op o_add (pe_op o_mul (pv 2) pe_int) (pe_op o_mod (pv 0) pe_int)) pe_int))))), ?_⟩
    refine ⟨_, rfl, _, _, rfl, rfl, .inr ⟨by decide, by decide⟩, _, rfl, _, _, rfl, rfl, .inl ⟨by decide, by decide⟩, _, rfl, _, _, rfl, rfl, .inr ⟨by omega, by omega⟩, _, _, rfl, rfl, _, rfl, _, _, rfl, rfl, .inl ⟨by decide, by decide⟩, _, _, rfl, rfl, _, _, rfl, rfl, _, _, rfl, rfl, by decide, ?_⟩
    have m0 := Int.emod_nonneg (c * 48271 + 7919 * (k : Int) * (k : Int) + 104729 * (k : Int) + 11) (show (2147483647 : Int) ≠ 0 by decide)
    have m1 := Int.emod_lt_of_pos (c * 48271 + 7919 * (k : Int) * (k : Int) + 104729 * (k : Int) + 11) (show (0 : Int) < 2147483647 by decide)
    generalize (c * 48271 + 7919 * (k : Int) * (k : Int) + 104729 * (k : Int) + 11) % 2147483647 = m at m0 m1
    refine ⟨sl6 (by decide), fun l hl => ?_⟩
    have s1 : Same H (upd H l (.lst [.int 2147483629, .int 2147483587, .int 2147483579, .int 2147483563, .int 2147483549, .int 2147483543, .int 2147483497])) := Same.new hl
    have e1 : (upd H l (.lst [.int 2147483629, .int 2147483587, .int 2147483579, .int 2147483563, .int 2147483549, .int 2147483543, .int 2147483497])) l = some (.lst ([2147483629, 2147483587, 2147483579, 2147483563, 2147483549, 2147483543, 2147483497].map V.int)) := upd_same
    generalize upd H l (.lst [.int 2147483629, .int 2147483587, .int 2147483579, .int 2147483563, .int 2147483549, .int 2147483543, .int 2147483497]) = H1 at s1 e1 ⊢
    obtain ⟨r, hr1, hr2⟩ := at_mem (ns := [2147483629, 2147483587, 2147483579, 2147483563, 2147483549, 2147483543, 2147483497]) (d := (k : Int) % 7) (by omega) (show (k : Int) % 7 < 7 by omega)
    have hr3 : 0 < r ∧ r < 2147483647 := by
      simp only [List.mem_cons, List.not_mem_nil, or_false] at hr1
      omega
    refine ⟨_, rfl, _, rfl, _, _, rfl, rfl, .inl ⟨by omega, by omega⟩, _, rfl, _, rfl, _, _, rfl, rfl, by decide, l, _, _, .int r, rfl, rfl, SqL.of e1, hr2, _, _, rfl, rfl, hr3.1, ?_⟩
    have n0 := Int.emod_nonneg (m * m) (show r ≠ 0 by omega)
    have n1 := Int.emod_lt_of_pos (m * m) hr3.1
    generalize m * m % r = n at n0 n1
    refine ⟨_, rfl, _, _, rfl, rfl, .inl ⟨by omega, by omega⟩, _, rfl, _, _, rfl, rfl, by decide, _, _, rfl, rfl, _, _, rfl, rfl, ⟨by decide, by decide⟩, q _ H1 (by omega) (by omega) s1⟩
def spTab34 : Sp := fun vs H Q _ => ∃ (c : Int), vs = [.int c, .int 6] ∧ 0 ≤ c ∧ ∀ t prs H', H t = none → (∀ p ∈ prs, H p.1 = none) → (prs.map (·.1)).Nodup → Same H H' → Tab H' t prs → tabB prs = true → (∀ p ∈ prs, Bd50 p.2) → Q (.ref t) H'
theorem sc_tab34 : FnScope ["cell", "most", "rows", "places", "kind", "first", "table", "r", "row", "c", "least", "one", "some"] ["cell", "most"] (defScope dTable) := ⟨rfl, rfl, rfl, by decide +kernel, rfl, by decide +kernel, by decide +kernel⟩
set_option maxHeartbeats 16000000 in
theorem ok_tab34 (T : Blt mg) (D : DefAt K mg "_law_table" dTable ["cell", "most"]) (G : FnAt P w K mg base 1 "_law_mixed" ["cell", "k"] spMixed) : FnAt P w K mg base 2 "_law_table" ["cell", "most"] spTab34 := by
  refine FnAt.of D sc_tab34 (fun vs H Q E h => ?_) (fun f cdv A outer s H vs Q E hr h => ?_)
  · obtain ⟨c, rfl, _⟩ := h
    rfl
  · obtain ⟨cc, rfl, hc0, q⟩ := h
    have nd := sc_tab34.nd
    refine ⟨_, pss_cons (ps_par (i := 2) (j := 3) rfl nd rfl rfl (by decide) rfl rfl (pa_cons (pe_op o_add pe_int (pe_op o_mod (pv 0) (pv 1))) (pa_cons (pe_op o_add pe_int (pe_op o_mod (pe_op o_div (pv 0) (pv 1)) (pv 1))) pa_nil)) rfl)
      (pss_cons (ps_set (i := 4) nd rfl (Or.inl rfl) (pe_op o_mod (pe_op o_div (pv 0) (pe_op o_mul (pv 1) (pv 1))) pe_int))
      (pss_cons (ps_set (i := 5) nd rfl (Or.inl rfl) (pe_ix ix_list (pe_lst (pa_cons pe_int (pa_cons pe_int (pa_cons (pe_un o_neg pe_int) (pa_cons (pe_op o_pow pe_int pe_int) (pa_cons (pe_un o_neg pe_int) pa_nil)))))) (pv 4) (fun _ _ => rfl)))
      (pss_cons (ps_set (i := 6) nd rfl (Or.inl rfl) (pe_lst pa_nil))
      (pss_cons (ps_for PassesOwn.never rfl (pi_range1 rfl T.rng (pa_cons (pv 2) pa_nil)) (pg_name (i := 7) nd rfl (Or.inl rfl))
        (pss_cons (ps_set (i := 8) nd rfl (Or.inl rfl) (pe_lst pa_nil))
        (pss_cons (ps_for PassesOwn.never rfl (pi_range1 rfl T.rng (pa_cons (pv 3) pa_nil)) (pg_name (i := 9) nd rfl (Or.inl rfl))
          (pss_cons (ps_set (i := 10) nd rfl (Or.inl rfl) (pv 5))
          (pss_cons (ps_if (pt_cmpR o_gt (pv 7) pe_int (nomark _)) (pss_one (ps_set (i := 10) nd rfl (Or.inl rfl) (pe_ix ix_list (pe_ix ix_list (pv 6) (pe_op o_sub (pv 7) pe_int) (fun _ _ => rfl)) (pv 9) (fun _ _ => rfl)))) pss_nil)
          (pss_cons (ps_if (pt_cmpR o_gt (pv 9) pe_int (nomark _)) (pss_one (ps_set (i := 10) nd rfl (Or.inl rfl) (pe_b (call_max2 rfl) T.max boot_max (pa_cons (pv 10) (pa_cons (pe_ix ix_list (pv 8) (pe_un o_neg pe_int) (fun _ _ => rfl)) pa_nil))))) pss_nil)
          (pss_cons (ps_set (i := 11) nd rfl (Or.inl rfl) (pe_f G hr (pa_cons (pv 0) (pa_cons (pe_op o_add (pe_op o_mul pe_int (pv 7)) (pv 9)) pa_nil))))
          (pss_cons (ps_set (i := 12) nd rfl (Or.inl rfl) (pe_lst (pa_cons (pe_op o_mod (pv 11) pe_int) (pa_cons (pe_op o_mod (pv 11) pe_int) (pa_cons (pe_op o_add pe_int (pe_op o_mod (pv 11) pe_int)) (pa_cons (pe_op o_mod (pv 11) (pe_op o_pow pe_int pe_int)) (pa_cons (pe_op o_div (pe_op o_mod (pv 11) pe_int) pe_int) pa_nil)))))))
          (pss_one (ps_expr (pe_bm PySem.F.plainAttrs_list PySem.F.slot_list_append PySem.F.type_list_append mt_append (pv 8) (pa_cons (pe_op o_add (pv 10) (pe_ix ix_list (pv 12) (pv 4) (fun _ _ => rfl))) pa_nil))))))))))
        (pss_one (ps_expr (pe_bm PySem.F.plainAttrs_list PySem.F.slot_list_append PySem.F.type_list_append mt_append (pv 6) (pa_cons (pv 8) pa_nil)))))))
      (pss_one (ps_ret (pv 6))))))), ?_⟩
    refine ⟨_, rfl, _, rfl, _, _, rfl, rfl, by decide, _, _, rfl, rfl, _, rfl, _, rfl, _, _, rfl, rfl, ⟨by decide, by decide⟩, _, rfl, _, _, rfl, rfl, by decide, _, _, rfl, rfl, _, _, rfl, ?_⟩
    have r1 : 1 ≤ 1 + cc % 6 ∧ 1 + cc % 6 ≤ 6 := by omega
    have p1 : 1 ≤ 1 + cc / 6 % 6 ∧ 1 + cc / 6 % 6 ≤ 6 := by omega
    generalize 1 + cc % 6 = rows at r1 ⊢
    generalize 1 + cc / 6 % 6 = wide at p1 ⊢
    refine ⟨_, rfl, _, rfl, _, rfl, _, _, rfl, rfl, .inl ⟨by decide, by decide⟩, _, _, rfl, rfl, ⟨by decide, by decide⟩, _, _, rfl, rfl, by decide, ?_⟩
    have k0 : 0 ≤ cc / (6 * 6) % 5 := by omega
    have k1 : cc / (6 * 6) % 5 < 5 := by omega
    generalize cc / (6 * 6) % 5 = kind at k0 k1 ⊢
    refine ⟨_, rfl, _, _, rfl, rfl, ⟨by decide, by decide, by decide⟩, _, rfl, len5, fun l3 hl3 => ?_⟩
    rw [e25n]
    obtain ⟨first, hf1, hf2⟩ := at_mem (ns := [0, 0, -3, 10000000000000000000000000, -40]) k0 k1
    have hfirst : Stq 0 first := by
      simp only [List.mem_cons, List.not_mem_nil, or_false] at hf1
      unfold Stq
      omega
    refine ⟨_, rfl, l3, _, _, .int first, rfl, rfl, SqL.of upd_same, hf2, ?_⟩
    have s3 : Same H (upd H l3 (.lst [.int 0, .int 0, .int (-3), .int 10000000000000000000000000, .int (-40)])) := Same.new hl3
    generalize upd H l3 (.lst [.int 0, .int 0, .int (-3), .int 10000000000000000000000000, .int (-40)]) = H2 at s3 ⊢
    have B6 := s3
    clear s3 hf1 hf2
    refine ⟨len0, fun tb htb => ?_⟩
    have tb0 : H tb = none := B6.free htb
    refine ⟨_, rfl, rows, rfl, by omega, by omega, for_range (fun i σ H2 => ∃ (prs : Prs) (o7 o8 o9 o10 o11 o12 : Option V), σ = [some (.int cc), some (.int 6), some (.int rows), some (.int wide), some (.int kind), some (.int first), some (.ref tb), o7, o8, o9, o10, o11, o12] ∧
      Same H H2 ∧ Tab H2 tb prs ∧ prs.length = i ∧ GoodP wide.toNat prs ∧ (prs.map (·.1)).Nodup ∧ (∀ p ∈ prs, H p.1 = none) ∧ ∀ p ∈ prs, ∀ n ∈ p.2, Stq (6 * (i : Nat)) n)
      ⟨[], none, none, none, none, none, none, rfl, B6.trans (Same.new htb), ⟨upd_same, fun p hp => nomatch hp⟩, rfl, ⟨fun p hp => (nomatch hp), fun p hp => (nomatch hp), fun i hi => absurd hi (by simp)⟩, by simp, (fun p hp => nomatch hp), fun p hp => nomatch hp⟩ ?_ ?_⟩
    · rintro i σ H2 hi ⟨prs, o7, o8, o9, o10, o11, o12, rfl, B, hT, hlen, hg, hnd, hfr, hbd⟩
      refine ⟨len0, fun nn hnn => ?_⟩
      have nn0 : H nn = none := B.free hnn
      have nnt : tb ≠ nn := ne_of_none hT.l hnn
      have nnp : ∀ p ∈ prs, p.1 ≠ nn := fun p hp => ne_of_none (hT.r p hp) hnn
      refine ⟨_, rfl, wide, rfl, by omega, by omega, for_range (fun j σ H3 => ∃ (cur : List Int) (o9 o10 o11 o12 : Option V), σ = [some (.int cc), some (.int 6), some (.int rows), some (.int wide), some (.int kind), some (.int first), some (.ref tb), some (.int (0 + (i : Nat))), some (.ref nn), o9, o10, o11, o12] ∧
        Same H H3 ∧ Tab H3 tb prs ∧ Row H3 nn cur ∧ cur.length = j ∧ nfP cur ∧ (i = 0 ∨ ∀ k, k < j → (rowAt prs (i - 1)).getD k 0 ≤ cur.getD k 0) ∧ ∀ n ∈ cur, Stq (6 * (i : Nat) + (j : Nat)) n)
        ⟨[], o9, o10, o11, o12, rfl, B.trans (Same.new hnn), hT.same (Same.new hnn), Row.new, rfl, fun k hk => absurd hk (by simp), .inr fun k hk => absurd hk (by simp), fun n hn => nomatch hn⟩ ?_ ?_⟩
      · rintro j σ H3 hj ⟨cur, o9, o10, o11, o12, rfl, B3, hT3, hR3, hcl, hnf, hab, hcb⟩
        have hd1 : ∀ (ah : Int) (mo : Int) (H6 : Hp), 0 ≤ mo → mo ≤ 1000000000000 → Same H3 H6 → (i = 0 ∨ (rowAt prs (i - 1)).getD j 0 ≤ ah) → (∀ k, k + 1 = cur.length → cur.getD k 0 ≤ ah) → Stq (6 * (i : Nat) + (j : Nat)) ah →
            Same H (upd H6 nn (.lst (cur.map V.int ++ [.int (ah + mo)]))) ∧ Tab (upd H6 nn (.lst (cur.map V.int ++ [.int (ah + mo)]))) tb prs ∧ (cur ++ [ah + mo]).length = j + 1 ∧ nfP (cur ++ [ah + mo]) ∧ (i = 0 ∨ ∀ k, k < j + 1 → (rowAt prs (i - 1)).getD k 0 ≤ (cur ++ [ah + mo]).getD k 0) ∧ ∀ n ∈ cur ++ [ah + mo], Stq (6 * (i : Nat) + (j + 1 : Nat)) n := by
          intro ah mo H6 mo0 mo1 s6 hm1 hm2 hm3
          refine ⟨fun b o e => ?_, ⟨by rw [upd_ne nnt]; exact (hT3.same s6).l, fun p hp => ?_⟩, ?_, ?_, ?_, ?_⟩
          · rw [upd_ne (ne_of_none e nn0)]
            exact s6 _ _ (B3 b o e)
          · unfold Row
            rw [upd_ne (nnp p hp)]
            exact (hT3.same s6).r p hp
          · rw [List.length_append, List.length_singleton, hcl]
          · refine nfP_push hnf fun k hk => ?_
            have := hm2 k hk
            omega
          · rcases hab with z | z
            · exact .inl z
            · rcases hm1 with z2 | z2
              · exact .inl z2
              · refine .inr fun k hk => ?_
                rw [getD_push]
                by_cases hkj : k < cur.length
                · rw [if_pos hkj]
                  exact z k (by omega)
                · rw [if_neg hkj, if_pos (by omega), show k = j by omega]
                  omega
          · intro n hn
            rcases List.mem_append.mp hn with z | z
            · have := hcb n z
              unfold Stq at this ⊢
              omega
            · rw [List.mem_singleton.mp z]
              unfold Stq at hm3 ⊢
              omega
        have hfirst' : Stq (6 * (i : Nat) + (j : Nat)) first := by
          unfold Stq at hfirst ⊢
          omega
        refine ⟨_, rfl, ?_⟩
        dsimp only [gName]
        refine if_tail (fun N => ∀ ah : Int, (i = 0 ∨ (rowAt prs (i - 1)).getD j 0 ≤ ah) → Stq (6 * (i : Nat) + (j : Nat)) ah → N [some (.int cc), some (.int 6), some (.int rows), some (.int wide), some (.int kind), some (.int first), some (.ref tb), some (.int (0 + (i : Nat))), some (.ref nn), some (.int (0 + (j : Nat))), some (.int ah), o11, o12] H3) (fun ah hm1 hm3 => ?_) (fun tail => ?_)
        · refine if_tail (fun N => ∀ ah : Int, (i = 0 ∨ (rowAt prs (i - 1)).getD j 0 ≤ ah) → (∀ k, k + 1 = cur.length → cur.getD k 0 ≤ ah) → Stq (6 * (i : Nat) + (j : Nat)) ah → N [some (.int cc), some (.int 6), some (.int rows), some (.int wide), some (.int kind), some (.int first), some (.ref tb), some (.int (0 + (i : Nat))), some (.ref nn), some (.int (0 + (j : Nat))), some (.int ah), o11, o12] H3) (fun ah hm1 hm2 hm3 => ?_) (fun tail => ?_)
          · refine ⟨_, rfl, _, rfl, _, _, rfl, rfl, .inl ⟨by decide, by decide⟩, _, rfl, _, _, rfl, rfl, cc, 7 * i + j, ?_, by omega, fun mo H5 m0 m1 s5 => ?_⟩
            · rw [show 7 * (0 + (i : Int)) + (0 + (j : Int)) = ((7 * i + j : Nat) : Int) by omega]
            refine ⟨_, rfl, _, _, rfl, rfl, by decide, _, rfl, _, _, rfl, rfl, by decide, _, rfl, _, _, rfl, rfl, by decide, _, _, rfl, rfl, _, rfl, _, _, rfl, rfl, ⟨by decide, by decide, by decide⟩, _, _, rfl, rfl, (by rw [e12n]; decide), _, rfl, _, _, rfl, rfl, by decide, _, _, rfl, rfl, ⟨by decide, by decide⟩, len5, fun ls hls => ?_⟩
            rw [e12n]
            have sls : Same H5 (upd H5 ls (.lst [.int (mo % 2), .int (mo % 3), .int (1 + mo % 4), .int (mo % 1000000000000), .int (mo % 7 / 5)])) := Same.new hls
            have hls2 : (upd H5 ls (.lst [.int (mo % 2), .int (mo % 3), .int (1 + mo % 4), .int (mo % 1000000000000), .int (mo % 7 / 5)])) ls = some (.lst ([mo % 2, mo % 3, 1 + mo % 4, mo % 1000000000000, mo % 7 / 5].map V.int)) := upd_same
            generalize upd H5 ls (.lst [.int (mo % 2), .int (mo % 3), .int (1 + mo % 4), .int (mo % 1000000000000), .int (mo % 7 / 5)]) = H6 at sls hls2 ⊢
            obtain ⟨r, hr1, hr2⟩ := at_mem (ns := [mo % 2, mo % 3, 1 + mo % 4, mo % 1000000000000, mo % 7 / 5]) k0 k1
            have hr0 : 0 ≤ r ∧ r ≤ 1000000000000 := by
              simp only [List.mem_cons, List.not_mem_nil, or_false] at hr1
              omega
            have s6 := s5.trans sls
            have hR6 := hR3.same s6
            refine ⟨_, rfl, .inl ⟨rfl, _, hR6.sq⟩, _, rfl, _, rfl, _, rfl, ls, _, _, .int r, rfl, rfl, SqL.of hls2, hr2, _, _, rfl, rfl, nn, _, _, rfl, rfl, hR6, ?_, ?_⟩
            · rw [List.length_map]
              exact small1000 (by omega)
            · obtain ⟨z1, z2, z3, z4, z5, z6⟩ := hd1 ah r H6 hr0.1 hr0.2 s6 hm1 hm2 hm3
              exact ⟨cur ++ [ah + r], _, _, _, _, rfl, z1, z2, Row.push, z3, z4, z5, z6⟩
          · refine ⟨_, rfl, _, _, rfl, rfl, _, rfl, ite2 (fun hcol => ?_) (fun hcol => ?_)⟩
            · have hcol := of_decide_eq_true hcol
              refine ⟨_, rfl, _, rfl, _, rfl, nn, _, _, _, rfl, rfl, hR3.sq, at_last (by omega), _, _, rfl, ?_⟩
              have hla := hcb (cur.getD (cur.length - 1) 0) (by rw [List.getD_eq_getElem?_getD, List.getElem?_eq_getElem (by omega)]; exact List.getElem_mem _)
              have hlk : ∀ k, k + 1 = cur.length → cur.getD k 0 = cur.getD (cur.length - 1) 0 := fun k hk => by rw [show cur.length - 1 = k by omega]
              generalize cur.getD (cur.length - 1) 0 = la at hla hlk ⊢
              refine tail _ ?_ (fun k hk => ?_) ?_
              · rcases hm1 with z | z
                · exact .inl z
                · exact .inr (by split <;> omega)
              · rw [hlk k hk]
                split <;> omega
              · split
                · exact hla
                · exact hm3
            · have hcol := of_decide_false hcol
              exact tail ah hm1 (fun k hk => by omega) hm3
        · refine ⟨_, rfl, _, _, rfl, rfl, _, rfl, ite2 (fun hrow => ?_) (fun hrow => ?_)⟩
          · have hrow := of_decide_eq_true hrow
            obtain ⟨p, hp1, hp2, hp3⟩ := rowAt_mem (prs := prs) (i := i - 1) (by omega)
            have hpl := hg.len p hp1
            refine ⟨_, rfl, _, rfl, _, _, rfl, rfl, tb, _, _, .ref p.1, rfl, rfl, hT3.sq, ?_, _, rfl, p.1, _, _, .int (p.2.getD j 0), rfl, rfl, (hT3.r p hp1).sq, ?_, tail _ (.inr (by rw [hp3]; exact Int.le_refl _)) ?_⟩
            · rw [show (0 : Int) + (i : Int) - 1 = ((i - 1 : Nat) : Int) by omega]
              exact atI_nat (by rw [List.getElem?_map, hp2]; rfl)
            · rw [Int.zero_add]
              exact at_row (by omega)
            · have := hbd p hp1 (p.2.getD j 0) (by rw [List.getD_eq_getElem?_getD, List.getElem?_eq_getElem (by omega)]; exact List.getElem_mem _)
              unfold Stq at this ⊢
              omega
          · have hrow := of_decide_false hrow
            exact tail first (.inl (by omega)) hfirst'
      ·
        rintro σ H3 ⟨cur, o9, o10, o11, o12, rfl, B3, hT3, hR3, hcl, hnf, hab, hcb⟩
        refine ⟨_, rfl, .inl ⟨rfl, _, hT3.sq⟩, _, rfl, tb, _, _, rfl, rfl, hT3.l, ?_, ?_⟩
        · rw [List.length_map]
          exact small1000 (by omega)
        · have key : ∀ b o, b ≠ tb → H3 b = some o → (upd H3 tb (.lst ((prs.map fun p => V.ref p.1) ++ [.ref nn]))) b = some o := fun b o hb e => by
            rw [upd_ne hb]
            exact e
          have ntb : ∀ p ∈ prs, p.1 ≠ tb := fun p hp z => by
            have h1 := hT3.r p hp
            rw [z] at h1
            have h2 := hT3.l
            unfold Row at h1
            rw [h1] at h2
            have h3 := hg.len p hp
            cases e : p.2 with
            | nil => rw [e] at h3; simp at h3; omega
            | cons u v =>
              rw [e] at h2
              cases prs with
              | nil => simp at h2
              | cons a b => simp at h2
          refine ⟨prs ++ [(nn, cur)], _, _, _, _, _, _, rfl, ?_, ?_, ?_, ?_, ?_, ?_, ?_⟩
          · intro b o e
            exact key b o (ne_of_none e tb0) (B3 b o e)
          · refine ⟨by rw [upd_same, List.map_append]; rfl, fun p hp => ?_⟩
            rcases List.mem_append.mp hp with z | z
            · exact key _ _ (ntb p z) (hT3.r p z)
            · have : p = (nn, cur) := by simpa using z
              subst this
              exact key _ _ (Ne.symm nnt) hR3
          · rw [List.length_append, List.length_singleton, hlen]
          · refine good_push hg (by omega) hnf ?_
            rcases hab with z | z
            · exact .inl (by omega)
            · refine .inr fun k hk => ?_
              rw [hlen]
              exact z k (by omega)
          · rw [List.map_append, List.nodup_append]
            refine ⟨hnd, by simp, fun a ha b hb => ?_⟩
            obtain ⟨p, hp, rfl⟩ := List.mem_map.mp ha
            have : b = nn := by simpa using hb
            subst this
            exact nnp p hp
          · intro p hp
            rcases List.mem_append.mp hp with z | z
            · exact hfr p z
            · have : p = (nn, cur) := by simpa using z
              subst this
              exact nn0
          · intro p hp n hn
            rcases List.mem_append.mp hp with z | z
            · have := hbd p z n hn
              unfold Stq at this ⊢
              omega
            · have : p = (nn, cur) := by simpa using z
              subst this
              have := hcb n hn
              unfold Stq at this ⊢
              omega
    · rintro σ H2 ⟨prs, o7, o8, o9, o10, o11, o12, rfl, B, hT, hlen, hg, hnd, hfr, hbd⟩
      refine ⟨_, rfl, q tb prs H2 tb0 hfr hnd B hT (tabB_of hg (by omega) (by omega) (by omega) (by omega)) fun p hp n hn => ?_⟩
      have := hbd p hp n hn
      unfold Stq at this
      omega
end
def ButR (S : List Addr) (H H' : Hp) : Prop := ∀ b o, b ∉ S → H b = some o → H' b = some o
theorem ButR.refl (S : List Addr) (H : Hp) : ButR S H H := fun _ _ _ e => e
theorem Same.butR' {S : List Addr} {H H1 H2 : Hp} (a : Same H H1) (n : ∀ s ∈ S, H s = none) (b : ButR S H1 H2) : Same H H2 := fun c o e => b c o (fun z => by rw [n c z] at e; cases e) (a c o e)
theorem nodup_at {α : Type} {xs : List α} {i j : Nat} {x : α} (h : xs.Nodup) (h1 : xs[i]? = some x) (h2 : xs[j]? = some x) : i = j := by
  obtain ⟨hi, e1⟩ := List.getElem?_eq_some_iff.mp h1
  obtain ⟨hj, e2⟩ := List.getElem?_eq_some_iff.mp h2
  have hp := List.pairwise_iff_getElem.mp h
  rcases Nat.lt_trichotomy i j with z | z | z
  · exact absurd (e1.trans e2.symm) (hp i j hi hj z)
  · exact z
  · exact absurd (e2.trans e1.symm) (hp j i hj hi z)
theorem Tab.ne {H : Hp} {t : Addr} {prs : Prs} (h : Tab H t prs) : ∀ p ∈ prs, p.1 ≠ t := fun p hp z => by
  have h1 := h.r p hp
  unfold Row at h1
  rw [z, h.l] at h1
  have h2 := HO.lst.inj (Option.some.inj h1)
  cases prs with
  | nil => cases hp
  | cons q r =>
    cases e : p.2 with
    | nil => rw [e] at h2; cases h2
    | cons n m => rw [e] at h2; injection h2 with h3 _; cases h3
theorem numStr_inj {a b : Int} (ha : (numStr a).length ≤ 4300) (hb : (numStr b).length ≤ 4300) (e : numStr a = numStr b) : a = b := by
  have h1 := num_read ha
  have h2 := num_read hb
  rw [e, h2] at h1
  exact (Option.some.inj h1).symm
theorem map_inj_on {α β : Type} {f : α → β} {p : α → Prop} (hf : ∀ a b, p a → p b → f a = f b → a = b) : ∀ {xs ys : List α}, (∀ x ∈ xs, p x) → (∀ y ∈ ys, p y) → xs.map f = ys.map f → xs = ys
  | [], [], _, _, _ => rfl
  | [], _ :: _, _, _, e => by simp at e
  | _ :: _, [], _, _, e => by simp at e
  | x :: xs, y :: ys, hx, hy, e => by
    rw [List.map_cons, List.map_cons] at e
    injection e with e1 e2
    rw [hf x y (hx x (.head _)) (hy y (.head _)) e1, map_inj_on hf (fun z hz => hx z (.tail _ hz)) (fun z hz => hy z (.tail _ hz)) e2]
theorem num4 {n : Int} (h : n.natAbs < 10 ^ 50) : (numStr n).length ≤ 51 := num_len h (by decide)
theorem tabS_inj {rows rows' : List (List Int)} (h : rows ≠ []) (h' : rows' ≠ []) (hr : ∀ r ∈ rows, r ≠ [] ∧ Bd50 r) (hr' : ∀ r ∈ rows', r ≠ [] ∧ Bd50 r) (e : tabS rows = tabS rows') : rows = rows' := by
  have e1 : Txt.split (tabS rows) "\n" = Txt.split (tabS rows') "\n" := by rw [e]
  rw [tabS_split h, tabS_split h'] at e1
  refine map_inj_on (f := rowS) (p := fun r => r ≠ [] ∧ Bd50 r) (fun a b ha hb eab => ?_) hr hr' e1
  have e2 : Txt.split (rowS a) " " = Txt.split (rowS b) " " := by rw [eab]
  rw [rowS_split ha.1, rowS_split hb.1] at e2
  exact map_inj_on (f := numStr) (p := fun n => n.natAbs < 10 ^ 50) (fun x y hx hy exy => numStr_inj (by have := num4 hx; omega) (by have := num4 hy; omega) exy) ha.2 hb.2 e2
theorem good_ne {prs : Prs} (hg : tabB prs = true) (hb : ∀ p ∈ prs, Bd50 p.2) : prs.map (·.2) ≠ [] ∧ ∀ r ∈ prs.map (·.2), r ≠ [] ∧ Bd50 r := by
  obtain ⟨g, g1, g2, g3, g4⟩ := good_of hg
  refine ⟨fun z => ?_, fun r hr => ?_⟩
  · have := congrArg List.length z
    simp at this
    rw [this] at g1
    simp at g1
  · obtain ⟨p, hp, rfl⟩ := List.mem_map.mp hr
    refine ⟨fun z => ?_, hb p hp⟩
    have := g.len p hp
    rw [z] at this
    simp at this
    omega
def Bef (H : Hp) (kvs : List (Key × V)) : Prop := ∀ k v, valV kvs k = some v → ∃ (t : Addr) (prs : Prs), k = .inr (tabS (prs.map (·.2))) ∧ v = .ref t ∧ Tab H t prs ∧ tabB prs = true ∧ ∀ p ∈ prs, Bd50 p.2
theorem Bef.same {H H' : Hp} {kvs : List (Key × V)} (h : Bef H kvs) (s : Same H H') : Bef H' kvs := fun k v e => by
  obtain ⟨t, prs, h1, h2, h3, h4⟩ := h k v e
  exact ⟨t, prs, h1, h2, h3.same s, h4⟩
theorem Tab.dict {H : Hp} {t b : Addr} {prs : Prs} {kvs : List (Key × V)} {o : HO} (h : Tab H t prs) (hb : H b = some (.dK kvs)) : Tab (upd H b o) t prs :=
  ⟨by rw [upd_ne (fun z => by have := h.l; rw [z, hb] at this; cases this)]; exact h.l, fun p hp => by
    have := h.r p hp
    unfold Row at this ⊢
    rw [upd_ne (fun z => by rw [z, hb] at this; cases this)]
    exact this⟩
theorem Bef.put {H : Hp} {b t : Addr} {prs : Prs} {kvs : List (Key × V)} (h : Bef H kvs) (hb : H b = some (.dK kvs)) (hT : Tab H t prs) (hg : tabB prs = true) (hd : ∀ p ∈ prs, Bd50 p.2) : Bef (upd H b (.dK (putK kvs (.inr (tabS (prs.map (·.2)))) (.ref t)))) (putK kvs (.inr (tabS (prs.map (·.2)))) (.ref t)) := fun k v e => by
  rw [valV_put] at e
  by_cases hk : k = .inr (tabS (prs.map (·.2)))
  · rw [if_pos hk] at e
    cases e
    exact ⟨t, prs, hk, rfl, hT.dict hb, hg, hd⟩
  · rw [if_neg hk] at e
    obtain ⟨t', prs', h1, h2, h3, h4⟩ := h k v e
    exact ⟨t', prs', h1, h2, h3.dict hb, h4⟩
theorem Bef.ask {H : Hp} {t : Addr} {prs : Prs} {kvs : List (Key × V)} (h : Bef H kvs) (hT : Tab H t prs) (hg : tabB prs = true) (hd : ∀ p ∈ prs, Bd50 p.2) : ∃ t' prs', (valV kvs (.inr (tabS (prs.map (·.2))))).getD (.ref t) = .ref t' ∧ Tab H t' prs' ∧ prs'.map (·.2) = prs.map (·.2) := by
  cases e : valV kvs (.inr (tabS (prs.map (·.2)))) with
  | none => exact ⟨t, prs, rfl, hT, rfl⟩
  | some v =>
    obtain ⟨t', prs', h1, h2, h3, h4, h5⟩ := h _ v e
    have n1 := good_ne hg hd
    have n2 := good_ne h4 h5
    have e2 : tabS (prs.map (·.2)) = tabS (prs'.map (·.2)) := Sum.inr.inj h1
    exact ⟨t', prs', h2, h3, (tabS_inj n1.1 n2.1 n1.2 n2.2 e2).symm⟩
section
variable {P : Program} {w : World} {K : PySem.W.Frag} {mg : Str → Option Value} {base : Heap}
theorem kit_l34 (K : PySem.W.Frag) : PySem.W.kitOne K (.type "list") (.type "list") = some true := kit_ll K
def spLaw (K : PySem.W.Frag) : Sp := fun vs H Q _ => ∃ (a : Addr) (ns : List Int), vs = [.ref a] ∧ SqL K H a (ns.map V.int) ∧ ns.length ≤ 63 ∧ ∀ H', Q (.bl true) H'
abbrev l34N : List Str := ["script", "before", "k", "cell", "table", "row", "handed", "text", "found"]
theorem sc_law34 : FnScope l34N ["script"] (defScope dLaw) := ⟨rfl, rfl, rfl, by decide +kernel, rfl, by decide +kernel, by decide +kernel⟩
set_option maxHeartbeats 32000000 in
theorem ok_law (T : Blt mg) (hmin : mg "min" = none) {f : Addr} {fd : FuncData} (F : Fun K "law" "law" dLaw f fd) (G1 : FnAt P w K mg base 1 "_law_cell" ["script", "k"] (spLCell K)) (G2 : FnAt P w K mg base 1 "_law_mixed" ["cell", "k"] spMixed) (G3 : FnAt P w K mg base 2 "_law_table" ["cell", "most"] spTab34)
    (G4 : FnAt P w K mg base 1 "_law_written" ["table"] spST) (G5 : FnAt P w K mg base 7 "show_table" ["table"] spST) (G6 : FnAt P w K mg base 6 "read_table" ["text"] spRT) : FnOk P w K mg base CX0 8 f fd ["script"] (spLaw K) := by
  refine F.ok sc_law34 (fun vs H Q E h => ?_) (fun cdv A outer s H vs Q E hr h => ?_)
  · obtain ⟨a, ns, rfl, _⟩ := h
    rfl
  · obtain ⟨a0, ns, rfl, hS, hlen, q⟩ := h
    have nd := sc_law34.nd
    have nd1 : (["row"] : List Str).Nodup := by decide +kernel
    have hr1 : Room 1 _ := hr.mono (show 1 ≤ 7 by decide)
    have hr2 : Room 2 _ := hr.mono (show 2 ≤ 7 by decide)
    have hr6 : Room 6 _ := hr.mono (show 6 ≤ 7 by decide)
    have hu := hr.units
    have hu1 := Nat.lt_of_le_of_lt (Nat.add_le_add_left (by decide : 1 ≤ 64) _) hu
    refine ⟨_, pss_cons (ps_set (i := 1) nd rfl (Or.inl rfl) pe_dnewK)
      (pss_cons (ps_for PassesOwn.never rfl (pi_range1 rfl T.rng (pa_cons (pe_b (call_max2 rfl) T.max boot_max (pa_cons pe_int (pa_cons (pe_b (call_min2 rfl) hmin boot_min (pa_cons (pe_b call_len_seq T.len boot_len (pa_cons (pv 0) pa_nil)) (pa_cons pe_int pa_nil))) pa_nil))) pa_nil)) (pg_name (i := 2) nd rfl (Or.inl rfl))
        (pss_cons (ps_set (i := 3) nd rfl (Or.inl rfl) (pe_b call_abs T.abs boot_abs (pa_cons (pe_f G1 hr1 (pa_cons (pv 0) (pa_cons (pv 2) pa_nil))) pa_nil)))
        (pss_cons (ps_set (i := 4) nd rfl (Or.inl rfl) (pe_f G3 hr2 (pa_cons (pe_f G2 hr1 (pa_cons (pv 3) (pa_cons (pv 2) pa_nil))) (pa_cons pe_int pa_nil))))
        (pss_cons (ps_setC (i := 6) ["row"] [none] (defScope dLaw) l34N nd rfl (Or.inl rfl) rfl (pi_list (pv 4)) (by decide +kernel)
          (fun cl C s2 H2 ex => pg_c 0 nd1) (fun cl C s2 H2 ex => pifs_nil) (fun cl C s2 H2 ex => pe_t (listK K) T.list boot_list (pa_cons (pv 0) pa_nil)))
        (pss_cons (ps_set (i := 7) nd rfl (Or.inl rfl) (pe_f G4 hr1 (pa_cons (pv 4) pa_nil)))
        (pss_cons (ps_if (PW.pt (pw_or (pt_cmpR op_ne (pe_f G5 hr (pa_cons (pv 6) pa_nil)) (pv 7) (nomark _)) (pw_or1 (pt_cmpR (op_neD hu) (pv 6) (pv 4) (nomark _))))) (pss_one (ps_ret pe_bl)) pss_nil)
        (pss_cons (ps_if (pt_cmpR (op_neD hu) (pe_dget2 hu1 (pv 1) (pv 7) (pv 4) ⟨rfl, rfl, rfl, rfl⟩) (pv 4) (nomark _)) (pss_one (ps_ret pe_bl)) pss_nil)
        (pss_cons (ps_dput hu1 (pv 1) (pv 7) (pv 4) rfl)
        (pss_cons (ps_set (i := 8) nd rfl (Or.inl rfl) (pe_f G6 hr6 (pa_cons (pv 7) pa_nil)))
        (pss_cons (ps_if (PW.pt (pw_or (pt_cmpR (op_neD hu) (pv 8) (pv 4) (nomark _)) (pw_or1 (pt_not (pt_val (pe_b call_isinst T.isinst boot_isinstance (pa_cons (pv 8) (pa_cons (pe_ty T.list boot_list) pa_nil)))))))) (pss_one (ps_ret pe_bl)) pss_nil)
        (pss_cons (ps_for PassesOwn.never rfl (pi_list (pv 8)) (pg_name (i := 5) nd rfl (Or.inl rfl)) (pss_one (ps_expr (pe_bm PySem.F.plainAttrs_list PySem.F.slot_list_append PySem.F.type_list_append mt_append (pv 5) (pa_cons pe_int pa_nil)))))
        (pss_cons (ps_if (pt_cmpR (op_neD hu) (pe_comp ["row"] [none] (defScope dLaw) l34N rfl (pi_list (pv 8)) (by decide +kernel)
          (fun cl C s2 H2 ex => pg_c 0 nd1) (fun cl C s2 H2 ex => pifs_nil) (fun cl C s2 H2 ex => pe_op o_sub (pe_b (lenK K) T.len boot_len (pa_cons (pv 0) pa_nil)) pe_int))
          (pe_comp ["row"] [none] (defScope dLaw) l34N rfl (pi_list (pv 4)) (by decide +kernel)
          (fun cl C s2 H2 ex => pg_c 0 nd1) (fun cl C s2 H2 ex => pifs_nil) (fun cl C s2 H2 ex => pe_b (lenK K) T.len boot_len (pa_cons (pv 0) pa_nil))) (nomark _)) (pss_one (ps_ret pe_bl)) pss_nil)
        (pss_one (ps_if (pt_cmpR (op_neD hu) (pe_f G6 hr6 (pa_cons (pv 7) pa_nil)) (pv 4) (nomark _)) (pss_one (ps_ret pe_bl)) pss_nil))))))))))))))
      (pss_one (ps_ret pe_bl))), ?_⟩
    intro bd hbd
    have e0 : (upd H bd (.dK [])) bd = some (.dK []) := upd_same
    have s0 : Same H (upd H bd (.dK [])) := Same.new hbd
    generalize upd H bd (.dK []) = H0 at e0 s0 ⊢
    refine ⟨_, rfl, a0, _, rfl, .inl (s0.seq hS), _, _, rfl, _, _, rfl, ?_⟩
    rw [List.length_map]
    have hb : ∀ y : Int, y = (if (if (60 : Int) < (ns.length : Int) then 60 else (ns.length : Int)) > 8 then (if (60 : Int) < (ns.length : Int) then 60 else (ns.length : Int)) else 8) → 0 ≤ y ∧ y ≤ 60 := fun y hy => by
      subst hy
      split
      · split at * <;> omega
      · omega
    have hb := hb _ rfl
    generalize (if (if (60 : Int) < (ns.length : Int) then 60 else (ns.length : Int)) > 8 then (if (60 : Int) < (ns.length : Int) then 60 else (ns.length : Int)) else 8) = many at hb ⊢
    refine ⟨many, rfl, by omega, by omega, for_range (fun i σ H2 => ∃ (o2 o3 o4 o5 o6 o7 o8 : Option V) (kvs : List (Key × V)), σ = [some (.ref a0), some (.ref bd), o2, o3, o4, o5, o6, o7, o8] ∧ Same H H2 ∧ H2 bd = some (.dK kvs) ∧ kvs.length ≤ i ∧ Bef H2 kvs) ⟨none, none, none, none, none, none, none, [], rfl, s0, e0, by simp, fun k v e => by cases e⟩ ?_ (fun σ H2 _ => q _)⟩
    rintro i σ H2 hi ⟨o2, o3, o4, o5, o6, o7, o8, kvs, rfl, sm, hd, hkl, hB⟩
    refine ⟨_, rfl, _, rfl, a0, ns, i, by rw [Int.zero_add], sm.seq hS, by omega, fun c => ⟨c, rfl, ?_⟩⟩
    generalize (if c < 0 then -c else c) = cell
    refine ⟨_, rfl, _, rfl, cell, i, by rw [Int.zero_add], by omega, fun v H3 v0 v1 s3 => ⟨v, rfl, v0, fun t prs H4 ht hpn hnd s4 hT hg hb5 => ?_⟩⟩
    have s24 := s3.trans s4
    have hd4 := s24 _ _ hd
    have hB4 := hB.same s24
    have sm4 := sm.trans s24
    obtain ⟨g, g1, g2, g3, g4⟩ := good_of hg
    clear s3 s4 hpn ht
    refine ⟨_, rfl, t, rfl, ⟨_, hT.sq⟩, comp_tab (ms := prs) (fun p : Addr × List Int => V.ref p.1) (fun p => p.2) hT.sq (by omega) (fun p hp H' Q' s' q' => ⟨_, rfl, p.1, _, rfl, .inl (((hT.r p hp).same s').sq), fun l hl => q' l _ hl (Same.new hl) upd_same⟩) fun th qs H5 hth hqn hqnd s5 hTh hrows => ?_⟩
    have hrows : qs.map (·.2) = prs.map (·.2) := hrows
    have hgh : tabB qs = true := by rw [tabB_rows hrows]; exact hg
    have hbh : ∀ p ∈ qs, Bd50 p.2 := fun p hp => by
      have : p.2 ∈ prs.map (·.2) := by rw [← hrows]; exact List.mem_map.mpr ⟨p, hp, rfl⟩
      obtain ⟨p', hp', e'⟩ := List.mem_map.mp this
      rw [← e']
      exact hb5 p' hp'
    refine ⟨_, rfl, t, prs, rfl, hT.same s5, hg, hb5, fun H6 s6 => ?_⟩
    refine ⟨_, rfl, th, qs, rfl, hTh.same s6, hgh, hbh, fun H7 s7 => ⟨_, rfl, rfl, _, rfl, ?_⟩⟩
    rw [hrows, decide_eq_true rfl]
    have s47 := s5.trans (s6.trans s7)
    have hT7 := hT.same s47
    refine iteF ⟨_, rfl, _, rfl, _, _, (hTh.same (s6.trans s7)).rd, hT7.rd, shaped_tab _, shaped_tab _, _, rfl, ?_⟩
    rw [hrows, eqv_tab]
    refine iteF ?_
    have hd7 := s47 _ _ hd4
    have hB7 := hB4.same s47
    obtain ⟨t', prs', e', hT', hr'⟩ := hB7.ask hT7 hg hb5
    refine ⟨_, rfl, bd, rfl, .inl ⟨_, .inl hd7⟩, _, rfl, _, rfl, _, DGet.k (k := .inr (tabS (List.map (fun x : Addr × List Int => x.2) prs))) hd7, ?_⟩
    rw [e']
    refine ⟨_, rfl, _, _, hT'.rd, hT7.rd, shaped_tab _, shaped_tab _, _, rfl, ?_⟩
    rw [hr', eqv_tab]
    refine iteF ?_
    refine ⟨_, rfl, _, rfl, _, rfl, bd, _, rfl, DPut.k (k := .inr (tabS (List.map (fun x : Addr × List Int => x.2) prs))) hd7 (by have := small1000 (n := kvs.length) (by omega); exact this), ?_⟩
    have hB8 := hB7.put hd7 hT7 hg hb5
    have hT8 : Tab (upd H7 bd (.dK (putK kvs (.inr (tabS (prs.map (·.2)))) (.ref t)))) t prs := hT7.dict hd7
    have hd8 : (upd H7 bd (.dK (putK kvs (.inr (tabS (prs.map (·.2)))) (.ref t)))) bd = some (.dK (putK kvs (.inr (tabS (prs.map (·.2)))) (.ref t))) := upd_same
    have sm8 : Same H (upd H7 bd (.dK (putK kvs (.inr (tabS (prs.map (·.2)))) (.ref t)))) := (sm4.trans s47).upd hbd
    have hkl8 := length_putK kvs (.inr (tabS (prs.map (·.2)))) (.ref t)
    generalize putK kvs (.inr (tabS (prs.map (·.2)))) (.ref t) = kvs8 at hB8 hT8 hd8 sm8 hkl8 ⊢
    generalize upd H7 bd (.dK kvs8) = H8 at hB8 hT8 hd8 sm8 ⊢
    clear hT' e' hr' hB7 hd7 hT7 s47 s7 s6 hTh hgh hbh hrows s5 hqnd hqn hth hB4 hd4 sm4 s24 hT
    have hok : rowsOk (prs.map (·.2)) = true := by rw [← rowsOk_of rfl]; exact hg
    have hnl : ∀ r ∈ prs.map (·.2), ∀ n ∈ r, (numStr n).length ≤ 100 := fun r hr n hn => by
      obtain ⟨p, hp, rfl⟩ := List.mem_map.mp hr
      have := num4 (hb5 p hp n hn)
      omega
    refine ⟨_, rfl, prs.map (·.2), rfl, hok, hnl, fun tf qf H9 htf hqf hnf s9 hTf hrf => ?_⟩
    have hT9 := hT8.same s9
    refine ⟨_, rfl, _, rfl, _, _, hTf.rd, hT9.rd, shaped_tab _, shaped_tab _, _, rfl, ?_⟩
    rw [hrf, eqv_tab]
    refine iteF ⟨_, rfl, _, _, _, _, rfl, .lst hTf.l, kit_l34 _, _, rfl, iteF ?_⟩
    have hlf : qf.length = prs.length := by
      have := congrArg List.length hrf
      simpa using this
    have hwf : ∀ p ∈ qf, p.2.length = w0 prs := fun p hp => by
      have : p.2 ∈ prs.map (·.2) := by rw [← hrf]; exact List.mem_map.mpr ⟨p, hp, rfl⟩
      obtain ⟨p', hp', e'⟩ := List.mem_map.mp this
      rw [← e']
      exact g.len p' hp'
    refine ⟨_, rfl, tf, rfl, ⟨_, hTf.sq⟩, for_list (xs := qf.map fun p => V.ref p.1) (fun m σ H3 => ∃ o5 : Option V, σ = [some (.ref a0), some (.ref bd), some (.int (0 + (i : Nat))), some (.int cell), some (.ref t), o5, some (.ref th), some (.str (tabS (prs.map (·.2)))), some (.ref tf)] ∧ ButR (qf.map (·.1)) H9 H3 ∧
      ∀ j p, qf[j]? = some p → Row H3 p.1 (if j < m then p.2 ++ [(0 : Int)] else p.2)) ⟨_, rfl, ButR.refl _ _, fun j p hp => by rw [if_neg (by omega)]; exact hTf.r p (List.mem_of_getElem? hp)⟩
      (fun m σ H3 _ ⟨_, _, b3, _⟩ => SqL.of (b3 _ _ (fun z => by
          obtain ⟨p, hp, e⟩ := List.mem_map.mp z
          exact hTf.ne p hp e) hTf.l)) ?_ ?_⟩
    · rintro m y σ H3 hi ⟨o5, rfl, b3, hrow⟩
      have hil : m < qf.length := by
        have := (List.getElem?_eq_some_iff.mp hi).1
        rw [List.length_map] at this
        exact this
      have hpi : qf[m]? = some qf[m] := List.getElem?_eq_getElem hil
      rw [List.getElem?_map, hpi] at hi
      have hy : V.ref qf[m].1 = y := Option.some.inj hi
      subst hy
      have ri := hrow m qf[m] hpi
      rw [if_neg (Nat.lt_irrefl m)] at ri
      refine ⟨_, rfl, .inl ⟨rfl, _, SqL.of ri⟩, qf[m].1, _, _, rfl, rfl, ri, ?_, ?_⟩
      · rw [List.length_map]
        exact small1000 (by have := hwf qf[m] (List.getElem_mem hil); omega)
      · refine ⟨_, rfl, fun b o hb e => ?_, fun j p hp => ?_⟩
        · rw [upd_ne (fun z => hb (by rw [z]; exact List.mem_map.mpr ⟨qf[m], List.getElem_mem hil, rfl⟩))]
          exact b3 _ _ hb e
        · by_cases hj : j = m
          · subst hj
            rw [hpi] at hp
            cases hp
            rw [if_pos (Nat.lt_succ_self _)]
            exact Row.push
          · have ne : p.1 ≠ qf[m].1 := fun z => hj (nodup_at hnf (x := p.1) (by rw [List.getElem?_map, hp]; rfl) (by rw [List.getElem?_map, hpi, z]; rfl))
            have r0 := hrow j p hp
            unfold Row at r0 ⊢
            rw [upd_ne ne, r0]
            by_cases hlt : j < m
            · rw [if_pos hlt, if_pos (by omega)]
            · rw [if_neg hlt, if_neg (by omega)]
    · rintro σ H3 ⟨o5, rfl, b3, hrow⟩
      rw [List.length_map] at hrow
      have sB : Same H8 H3 := Same.butR' s9 (fun a ha => by
        obtain ⟨p, hp, rfl⟩ := List.mem_map.mp ha
        exact (hqf p hp).1) b3
      have hTl : H3 tf = some (.lst (qf.map fun p => V.ref p.1)) := b3 _ _ (fun z => by
          obtain ⟨p, hp, e⟩ := List.mem_map.mp z
          exact hTf.ne p hp e) hTf.l
      have hrA : ∀ p ∈ qf, Row H3 p.1 (p.2 ++ [0]) := fun p hp => by
        obtain ⟨j, hj, e⟩ := List.mem_iff_getElem.mp hp
        have := hrow j p (by rw [List.getElem?_eq_getElem hj, e])
        rw [if_pos hj] at this
        exact this
      have hT3 := hT8.same sB
      refine ⟨_, rfl, tf, rfl, ⟨_, SqL.of hTl⟩, comp_map (ms := qf) (fun p : Addr × List Int => V.ref p.1) (fun p => V.int (p.2.length : Nat)) (SqL.of hTl) (sl6 (by omega)) (fun p hp H' Q' s' q' => ?_) fun D1 H4 hD1 s4 eD1 => ?_⟩
      · refine ⟨_, rfl, p.1, _, rfl, .inl (((hrA p hp).same s').sq), _, _, rfl, rfl, ?_⟩
        rw [List.length_map, List.length_append, List.length_singleton, show (((p.2.length + 1 : Nat) : Int) - 1) = ((p.2.length : Nat) : Int) by omega]
        exact q' _ (Same.refl _)
      have hT4 := hT3.same s4
      refine ⟨_, rfl, t, rfl, ⟨_, hT4.sq⟩, comp_map (ms := prs) (fun p : Addr × List Int => V.ref p.1) (fun p => V.int (p.2.length : Nat)) hT4.sq (sl6 (by omega)) (fun p hp H' Q' s' q' => ?_) fun D2 H5 hD2 s5 eD2 => ?_⟩
      · refine ⟨_, rfl, p.1, _, rfl, .inl (((hT4.r p hp).same s').sq), ?_⟩
        rw [List.length_map]
        exact q' _ (Same.refl _)
      have r1 : Row H5 D1 ((qf.map (·.2)).map fun r => ((r.length : Nat) : Int)) := by
        have := s5 _ _ eD1
        unfold Row
        rw [this, List.map_map, List.map_map]
        rfl
      have r2 : Row H5 D2 ((prs.map (·.2)).map fun r => ((r.length : Nat) : Int)) := by
        unfold Row
        rw [eD2, List.map_map, List.map_map]
        rfl
      refine ⟨_, _, r1.rd, r2.rd, shaped_row _, shaped_row _, _, rfl, ?_⟩
      rw [hrf, eqv_row]
      refine iteF ?_
      have hT5 := hT4.same s5
      refine ⟨_, rfl, prs.map (·.2), rfl, hok, hnl, fun tg qg H6 htg hqg hng s6 hTg hrg => ?_⟩
      refine ⟨_, rfl, _, _, hTg.rd, (hT5.same s6).rd, shaped_tab _, shaped_tab _, _, rfl, ?_⟩
      rw [hrg, eqv_tab]
      have sE := sB.trans (s4.trans (s5.trans s6))
      exact iteF ⟨_, _, _, _, _, _, _, kvs8, rfl, sm8.trans sE, sE _ _ hd8, by omega, hB8.same sE⟩
end
theorem defAt_mk {K : PySem.W.Frag} {h : Heap} {mg : Str → Option Value} {x : Str} {st : Stmt} {ps : List Str} {f : Addr} (X : K.In h) (G : h.Ns mainGlobals mg) {od an : Option Addr} {sl : Array (Option Value)} {oc kV dc pm cd ct : Value}
    (a : PySem.W.nsIn K mainGlobals x = some (some (.ref f))) (l : K.lookup f = some ⟨oc, od, .func (PySem.W.fnOf x x (defArgs st) (defBody st) (defScope st) .none kV dc pm an cd ct), sl⟩) (c : PySem.W.codeIn K cd x = true) (k : PySem.W.keepIn K (.ref f) = true)
    (b : ∀ (kV doc pm : Value) (an : Option Addr) (cdv ct : Value) (us : List Value), us.length = ps.length → bindArgs (PySem.W.fnOf x x (defArgs st) (defBody st) (defScope st) .none kV doc pm an cdv ct) ⟨us, []⟩ = pure (ps.zip us)) : DefAt K mg x st ps := by
  have F := fun_mk (st := st) l c k
  exact ⟨f, _, F, PySem.W.mg_of X G a, F.binds b⟩
theorem blt_mk {K : PySem.W.Frag} {h : Heap} {mg : Str → Option Value} {t1 t2 : Tok} (X : K.In h) (G : h.Ns mainGlobals mg) (e1 : PySem.W.nsIn K mainGlobals "len" = some none) (e2 : PySem.W.nsIn K mainGlobals "all" = some none) (e3 : PySem.W.nsIn K mainGlobals "isinstance" = some none)
    (e4 : PySem.W.nsIn K mainGlobals "range" = some none) (e5 : PySem.W.nsIn K mainGlobals "int" = some none) (e6 : PySem.W.nsIn K mainGlobals "bool" = some none) (e7 : PySem.W.nsIn K mainGlobals "list" = some none) (e8 : PySem.W.nsIn K mainGlobals "enumerate" = some none)
    (e9 : PySem.W.nsIn K mainGlobals "abs" = some none) (e10 : PySem.W.nsIn K mainGlobals "max" = some none) (e11 : PySem.W.nsIn K mainGlobals "MOST_ROWS" = some (some (.int 6 t1))) (e12 : PySem.W.nsIn K mainGlobals "MOST_PLACES" = some (some (.int 6 t2))) : Blt mg :=
  ⟨PySem.W.mg_none_of X G e1, PySem.W.mg_none_of X G e2, PySem.W.mg_none_of X G e3, PySem.W.mg_none_of X G e4, PySem.W.mg_none_of X G e5, PySem.W.mg_none_of X G e6, PySem.W.mg_none_of X G e7, PySem.W.mg_none_of X G e8, PySem.W.mg_none_of X G e9, PySem.W.mg_none_of X G e10,
    ⟨_, PySem.W.mg_of X G e11⟩, ⟨_, PySem.W.mg_of X G e12⟩⟩
theorem walk {l : PySem.W.OpenLaw} {q : Program} {loose : List Str} {XP : (Str → Option Value) → Heap → Prop} {YP : World → Heap → Prop} {d : DefRec} {K : Params → PySem.W.Frag} (hn : l.most = some 63) (hdf : d.params.defaults = [])
    (hY : ∀ (w : World) (h : Heap), YP w h → (K w.params).In h)
    (F : ∀ (w : World) (mg : Str → Option Value) (fa : Addr) (h : Heap), (K w.params).In h → h.Ns mainGlobals mg → mg d.name = some (.ref fa) →
      ∃ fd : FuncData, (∀ (s : Shared) (u : Value), BindsTo s fd ⟨[u], []⟩ [("script", u)]) ∧ ∀ base : Heap, (K w.params).In base → base.Ns mainGlobals mg → FnOk l.prog w (K w.params) mg base CX0 20 fa fd ["script"] (spLaw (K w.params))) :
    PySem.W.WalkO q loose XP YP l.row.toRowW d [] (fun f vs => PySem.call f vs) :=
  L2.walk_of (n := 63) (k := 20) (x := "script") (CX := fun _ => CX0) (sp := fun w => spLaw (K w.params)) hn (by decide) hdf ⟨rfl, by decide, by decide, rfl⟩ hY F (fun _ _ a ns hl _ hS => ⟨a, ns, rfl, hS, hl, fun _ => rfl⟩) fun _ _ _ _ _ z => z
theorem all_mk {l : PySem.W.OpenLaw} {w : World} {K : PySem.W.Frag} {mg : Str → Option Value} {fa : Addr} (hfa : mg "law" = some (.ref fa)) (T : Blt mg) (h_min : mg "min" = none) (h_str : mg "str" = none) (h_fig : ∃ t, mg "FIGURES" = some (.str figS t))
    (d_is_whole : DefAt K mg "is_whole" dIsWhole ["thing"])
    (d_all_whole : DefAt K mg "all_whole" dAllWhole ["things"])
    (d_never_falls : DefAt K mg "never_falls" dNeverFalls ["numbers"])
    (d_is_row : DefAt K mg "is_row" dIsRow ["thing"])
    (d_has_table_shape : DefAt K mg "has_table_shape" dShape ["thing"])
    (d_numbers_at_place : DefAt K mg "numbers_at_place" dAtPlace ["table", "place"])
    (d_is_sorted_both_ways : DefAt K mg "is_sorted_both_ways" dSorted ["table"])
    (d_is_table : DefAt K mg "is_table" dIsTable ["thing"])
    (d_need_table : DefAt K mg "need_table" dNeedTable ["thing"])
    (d_writes_count : DefAt K mg "writes_count" dWCount ["word"])
    (d_writes_number : DefAt K mg "writes_number" dWNumber ["word"])
    (d_show_row : DefAt K mg "show_row" dShowRow ["row"])
    (d_show_table : DefAt K mg "show_table" dShowTable ["table"])
    (d_read_row : DefAt K mg "read_row" dReadRow ["line"])
    (d_read_table : DefAt K mg "read_table" dReadTable ["text"])
    (d__law_cell : DefAt K mg "_law_cell" dLCell ["script", "k"])
    (d__law_mixed : DefAt K mg "_law_mixed" dMixed ["cell", "k"])
    (d__law_table : DefAt K mg "_law_table" dTable ["cell", "most"])
    (d__law_written : DefAt K mg "_law_written" dWritten ["table"])
    (d_law : DefAt K mg "law" dLaw ["script"])
    : ∃ fd : FuncData, (∀ (s : Shared) (v : Value), BindsTo s fd ⟨[v], []⟩ [("script", v)]) ∧ ∀ base : Heap, K.In base → base.Ns mainGlobals mg → FnOk l.prog w K mg base CX0 20 fa fd ["script"] (spLaw K) := by
  obtain ⟨f, fd, F, hm, hb⟩ := d_law
  have e := hfa.symm.trans hm
  cases e
  refine ⟨fd, ?_, fun base _ _ => ?_⟩
  · obtain ⟨oc, od, kV, doc, pm, an, cdv, ct, osl, rfl, lk, hcd⟩ := F.ex
    exact fun s v => .of_eq rfl
  · have g_is_whole := ok_isWhole (P := l.prog) (w := w) (base := base) T d_is_whole
    have g_all_whole := ok_allWhole T d_all_whole g_is_whole
    have g_never_falls := ok_nf (P := l.prog) (w := w) (base := base) T d_never_falls
    have g_is_row := ok_isRow T d_is_row g_all_whole
    have g_has_table_shape := ok_shape T d_has_table_shape g_is_row
    have g_numbers_at_place := ok_atPlace (P := l.prog) (w := w) (base := base) d_numbers_at_place
    have g_is_sorted_both_ways := ok_sorted T d_is_sorted_both_ways g_never_falls g_numbers_at_place
    have g_is_table := ok_isTable d_is_table g_has_table_shape g_is_sorted_both_ways
    have g_need_table := ok_needTable d_need_table g_is_table
    have g_writes_count := ok_wCount (P := l.prog) (w := w) (base := base) T h_fig d_writes_count
    have g_writes_number := ok_wNumber d_writes_number g_writes_count
    have g_show_row := ok_showRow (P := l.prog) (w := w) (base := base) h_str d_show_row
    have g_show_table := ok_showTable d_show_table g_need_table g_show_row
    have g_read_row := ok_readRow T d_read_row g_writes_number
    have g_read_table := ok_readTable T h_str d_read_table g_read_row g_is_table
    have g__law_cell := ok_lcell (P := l.prog) (w := w) (base := base) T d__law_cell
    have g__law_mixed := ok_mixed (P := l.prog) (w := w) (base := base) d__law_mixed
    have g__law_table := ok_tab34 T d__law_table g__law_mixed
    have g__law_written := ok_written (P := l.prog) (w := w) (base := base) h_str d__law_written
    exact FnOk.mono (ok_law T h_min F g__law_cell g__law_mixed g__law_table g__law_written g_show_table g_read_table) (by decide)
theorem figS_is : figS = ⟨#[48, 49, 50, 51, 52, 53, 54, 55, 56, 57]⟩ := by
  have e : figS.cps.toList = [48, 49, 50, 51, 52, 53, 54, 55, 56, 57] := by decide +kernel
  have e2 : figS.cps = #[48, 49, 50, 51, 52, 53, 54, 55, 56, 57] := Array.ext' e
  generalize figS = f at *
  cases f; simp only at e2; rw [e2]
theorem fig_mk {K : PySem.W.Frag} {h : Heap} {mg : Str → Option Value} {t} (X : K.In h) (G : h.Ns mainGlobals mg) (e : PySem.W.nsIn K mainGlobals "FIGURES" = some (some (.str ⟨#[48, 49, 50, 51, 52, 53, 54, 55, 56, 57]⟩ t))) : ∃ t, mg "FIGURES" = some (.str figS t) :=
  ⟨t, by rw [figS_is]; exact PySem.W.mg_of X G e⟩
end Seek
def PySem.W.Fast.tw10649691045988457875 : Unit := ()
def PySem.W.Fast.tw10859886811285006472 : Unit := ()
def PySem.W.Fast.tw11258302085716709864 : Unit := ()
def PySem.W.Fast.tw11461263837826017201 : Unit := ()
def PySem.W.Fast.tw12330695654516811959 : Unit := ()
def PySem.W.Fast.tw13404896099240296351 : Unit := ()
def PySem.W.Fast.tw14383151813505827946 : Unit := ()
def PySem.W.Fast.tw1469495678762634587 : Unit := ()
def PySem.W.Fast.tw16502720025252755804 : Unit := ()
def PySem.W.Fast.tw167535929239003000 : Unit := ()
def PySem.W.Fast.tw17668478703248348197 : Unit := ()
def PySem.W.Fast.tw2972733443611081325 : Unit := ()
def PySem.W.Fast.tw4709994268417060256 : Unit := ()
def PySem.W.Fast.tw580342978773255197 : Unit := ()
def PySem.W.Fast.tw8044032910527458741 : Unit := ()
def PySem.W.Fast.tw8100702611053793194 : Unit := ()
open PySem PySem.W PyProof.Rows
set_option maxRecDepth 100000 in
set_option maxHeartbeats 0 in
theorem PySem.Challenge.cw_stairseek_k34_tables_written_holds : PySem.Challenge.rw_stairseek_k34_tables_written.Holds := by
  w_on; o_law; k_head; (case hw => w_witness2)
  k_fill
  refine Seek.walk (l := PySem.Challenge.rw_stairseek_k34_tables_written) rfl rfl (fun w h Y => PySem.W.kIn_of Y) ?F
  case F =>
    intro w mg fa h KX G hmg
    refine' Seek.all_mk hmg ?T ?x_min ?x_str ?x_fig ?d_is_whole ?d_all_whole ?d_never_falls ?d_is_row ?d_has_table_shape ?d_numbers_at_place ?d_is_sorted_both_ways ?d_is_table ?d_need_table ?d_writes_count ?d_writes_number ?d_show_row ?d_show_table ?d_read_row ?d_read_table ?d__law_cell ?d__law_mixed ?d__law_table ?d__law_written ?d_law
    case T =>
      refine' Seek.blt_mk KX G ?e1 ?e2 ?e3 ?e4 ?e5 ?e6 ?e7 ?e8 ?e9 ?e10 ?e11 ?e12
      (case e1 => k_is); (case e2 => k_is); (case e3 => k_is); (case e4 => k_is); (case e5 => k_is); (case e6 => k_is); (case e7 => k_is); (case e8 => k_is); (case e9 => k_is); (case e10 => k_is); (case e11 => k_is); (case e12 => k_is)
    case x_min =>
      refine' PySem.W.mg_none_of KX G ?e
      (case e => k_is)
    case x_str =>
      refine' PySem.W.mg_none_of KX G ?e
      (case e => k_is)
    case x_fig =>
      refine' Seek.fig_mk KX G ?e
      (case e => k_is)
    case d_is_whole =>
      refine' Seek.defAt_mk KX G ?a ?l ?c ?k ?b
      (case a => k_is); (case l => k_is); (case c => k_is); (case k => k_is)
      case b => exact fun _ _ _ _ _ _ us hl => match us, hl with | [_], _ => rfl
    case d_all_whole =>
      refine' Seek.defAt_mk KX G ?a ?l ?c ?k ?b
      (case a => k_is); (case l => k_is); (case c => k_is); (case k => k_is)
      case b => exact fun _ _ _ _ _ _ us hl => match us, hl with | [_], _ => rfl
    case d_never_falls =>
      refine' Seek.defAt_mk KX G ?a ?l ?c ?k ?b
      (case a => k_is); (case l => k_is); (case c => k_is); (case k => k_is)
      case b => exact fun _ _ _ _ _ _ us hl => match us, hl with | [_], _ => rfl
    case d_is_row =>
      refine' Seek.defAt_mk KX G ?a ?l ?c ?k ?b
      (case a => k_is); (case l => k_is); (case c => k_is); (case k => k_is)
      case b => exact fun _ _ _ _ _ _ us hl => match us, hl with | [_], _ => rfl
    case d_has_table_shape =>
      refine' Seek.defAt_mk KX G ?a ?l ?c ?k ?b
      (case a => k_is); (case l => k_is); (case c => k_is); (case k => k_is)
      case b => exact fun _ _ _ _ _ _ us hl => match us, hl with | [_], _ => rfl
    case d_numbers_at_place =>
      refine' Seek.defAt_mk KX G ?a ?l ?c ?k ?b
      (case a => k_is); (case l => k_is); (case c => k_is); (case k => k_is)
      case b => exact fun _ _ _ _ _ _ us hl => match us, hl with | [_, _], _ => rfl
    case d_is_sorted_both_ways =>
      refine' Seek.defAt_mk KX G ?a ?l ?c ?k ?b
      (case a => k_is); (case l => k_is); (case c => k_is); (case k => k_is)
      case b => exact fun _ _ _ _ _ _ us hl => match us, hl with | [_], _ => rfl
    case d_is_table =>
      refine' Seek.defAt_mk KX G ?a ?l ?c ?k ?b
      (case a => k_is); (case l => k_is); (case c => k_is); (case k => k_is)
      case b => exact fun _ _ _ _ _ _ us hl => match us, hl with | [_], _ => rfl
    case d_need_table =>
      refine' Seek.defAt_mk KX G ?a ?l ?c ?k ?b
      (case a => k_is); (case l => k_is); (case c => k_is); (case k => k_is)
      case b => exact fun _ _ _ _ _ _ us hl => match us, hl with | [_], _ => rfl
    case d_writes_count =>
      refine' Seek.defAt_mk KX G ?a ?l ?c ?k ?b
      (case a => k_is); (case l => k_is); (case c => k_is); (case k => k_is)
      case b => exact fun _ _ _ _ _ _ us hl => match us, hl with | [_], _ => rfl
    case d_writes_number =>
      refine' Seek.defAt_mk KX G ?a ?l ?c ?k ?b
      (case a => k_is); (case l => k_is); (case c => k_is); (case k => k_is)
      case b => exact fun _ _ _ _ _ _ us hl => match us, hl with | [_], _ => rfl
    case d_show_row =>
      refine' Seek.defAt_mk KX G ?a ?l ?c ?k ?b
      (case a => k_is); (case l => k_is); (case c => k_is); (case k => k_is)
      case b => exact fun _ _ _ _ _ _ us hl => match us, hl with | [_], _ => rfl
    case d_show_table =>
      refine' Seek.defAt_mk KX G ?a ?l ?c ?k ?b
      (case a => k_is); (case l => k_is); (case c => k_is); (case k => k_is)
      case b => exact fun _ _ _ _ _ _ us hl => match us, hl with | [_], _ => rfl
    case d_read_row =>
      refine' Seek.defAt_mk KX G ?a ?l ?c ?k ?b
      (case a => k_is); (case l => k_is); (case c => k_is); (case k => k_is)
      case b => exact fun _ _ _ _ _ _ us hl => match us, hl with | [_], _ => rfl
    case d_read_table =>
      refine' Seek.defAt_mk KX G ?a ?l ?c ?k ?b
      (case a => k_is); (case l => k_is); (case c => k_is); (case k => k_is)
      case b => exact fun _ _ _ _ _ _ us hl => match us, hl with | [_], _ => rfl
    case d__law_cell =>
      refine' Seek.defAt_mk KX G ?a ?l ?c ?k ?b
      (case a => k_is); (case l => k_is); (case c => k_is); (case k => k_is)
      case b => exact fun _ _ _ _ _ _ us hl => match us, hl with | [_, _], _ => rfl
    case d__law_mixed =>
      refine' Seek.defAt_mk KX G ?a ?l ?c ?k ?b
      (case a => k_is); (case l => k_is); (case c => k_is); (case k => k_is)
      case b => exact fun _ _ _ _ _ _ us hl => match us, hl with | [_, _], _ => rfl
    case d__law_table =>
      refine' Seek.defAt_mk KX G ?a ?l ?c ?k ?b
      (case a => k_is); (case l => k_is); (case c => k_is); (case k => k_is)
      case b => exact fun _ _ _ _ _ _ us hl => match us, hl with | [_, _], _ => rfl
    case d__law_written =>
      refine' Seek.defAt_mk KX G ?a ?l ?c ?k ?b
      (case a => k_is); (case l => k_is); (case c => k_is); (case k => k_is)
      case b => exact fun _ _ _ _ _ _ us hl => match us, hl with | [_], _ => rfl
    case d_law =>
      refine' Seek.defAt_mk KX G ?a ?l ?c ?k ?b
      (case a => k_is); (case l => k_is); (case c => k_is); (case k => k_is)
      case b => exact fun _ _ _ _ _ _ us hl => match us, hl with | [_], _ => rfl

