import PyProof.Rows.All
import Wide.All
import OpenK.AllK
import Wide.FinOn
import Lean
import PyProof.EqAt
import PyProof.EqKinds
import PyProof.TupleCall
import PySem.Challenge.RW_stairseek_k29_what_a_keeper_refuses
set_option Elab.async false
set_option linter.all false
set_option maxRecDepth 100000
namespace L2
open PySem PySem.Spec PyProof.Rows
abbrev Key:=Sum Int Str
def ZnK:Key→Value→Bool
  | .inl k,v=>Value.isInt k v
  | .inr x,v=>Value.isStrOf x v
def keyH (w:World):Key→Int
  | .inl k=>hashInt k
  | .inr x=>hashStr w x
theorem Za5:∀ {k:Key}{v:Value},ZnK k v=true→(∃ i t,k=Sum.inl i∧v=Value.int i t)∨(∃ x t,k=Sum.inr x∧v=Value.str x t)
  | .inl i,v,h=>by
    obtain ⟨t,e⟩:=Value.isInt_shape (k:=i) (v:=v) h
    exact .inl ⟨i,t,rfl,e⟩
  | .inr x,v,h=>by
    obtain ⟨t,e⟩:=Value.isStrOf_shape (x:=x) (v:=v) h
    exact .inr ⟨x,t,rfl,e⟩
theorem ZnJ (a b:Int):decide ((Sum.inl a:Key)=Sum.inl b)=(a == b):=by
  by_cases e:a=b
  · subst e;simp
  · have h:¬ (Sum.inl a:Key)=Sum.inl b:=fun q=>e (Sum.inl.inj q)
    rw [decide_eq_false h]
    exact (beq_eq_false_iff_ne.mpr e).symm
theorem ZnG (a b:Str):decide ((Sum.inr a:Key)=Sum.inr b)=decide (a=b):=by
  by_cases e:a=b
  · subst e;simp
  · have h:¬ (Sum.inr a:Key)=Sum.inr b:=fun q=>e (Sum.inr.inj q)
    rw [decide_eq_false h,decide_eq_false e]
theorem ZnI (a:Int) (b:Str):decide ((Sum.inl a:Key)=Sum.inr b)=false:=decide_eq_false (fun q=>nomatch q)
theorem ZnH (a:Str) (b:Int):decide ((Sum.inr a:Key)=Sum.inl b)=false:=decide_eq_false (fun q=>nomatch q)
def Zjj (prog:Program) (w:World):PySem.KeyKind prog w Key where
  is:=ZnK
  hash:=keyH w
  inj:=fun v a b ha hb=>by
    rcases Za5 ha with ⟨i,t,rfl,rfl⟩ | ⟨x,t,rfl,rfl⟩
    · rcases Za5 hb with ⟨j,u,rfl,e⟩ | ⟨y,u,rfl,e⟩
      · injection e with e1 _;rw [e1]
      · exact nomatch e
    · rcases Za5 hb with ⟨j,u,rfl,e⟩ | ⟨y,u,rfl,e⟩
      · exact nomatch e
      · injection e with e1 _;rw [e1]
  byValue:=fun k v h=>by
    rcases Za5 h with ⟨i,t,rfl,rfl⟩ | ⟨x,t,rfl,rfl⟩ <;> rfl
  pyHash:=fun hv h=>by
    rcases Za5 hv with ⟨i,t,rfl,rfl⟩ | ⟨x,t,rfl,rfl⟩
    · exact wpAny_pyHash_int h
    · exact wpAny_pyHash_str h
  eqBool:=fun hu hv h=>by
    rcases Za5 hu with ⟨i,t,rfl,rfl⟩ | ⟨x,t,rfl,rfl⟩
    · rcases Za5 hv with ⟨j,u,rfl,rfl⟩ | ⟨y,u,rfl,rfl⟩
      · rw [ZnJ] at h;exact wpAny_eqBool_int h
      · rw [ZnI] at h;exact SeqAt.EqAt.int_str i t y u _ _ _ _ h
    · rcases Za5 hv with ⟨j,u,rfl,rfl⟩ | ⟨y,u,rfl,rfl⟩
      · rw [ZnH] at h;exact SeqAt.EqAt.str_int x t j u _ _ _ _ h
      · rw [ZnG] at h;exact wpAny_eqBool_str h
  «strs»:=fun k x t v h=>by
    rcases Za5 h with ⟨i,u,rfl,e⟩ | ⟨y,u,rfl,e⟩
    · exact nomatch e
    · injection e with e1 _
      subst e1
      cases v <;> rfl
inductive V where
  | non | bl (b:Bool) | int (i:Int) | str (x:Str) | byt (b:Array UInt8) | flt (b:UInt64) | ref (a:Addr) | ty (n:String)
  deriving DecidableEq
def RelV:V→Value→Prop
  | .non,u=>u=Value.none
  | .bl b,u=>u=Value.bool b
  | .int i,u=>∃ t,u=Value.int i t
  | .str x,u=>∃ t,u=Value.str x t
  | .byt b,u=>∃ t,u=Value.bytes b t
  | .flt b,u=>∃ t,u=Value.float b t
  | .ref a,u=>u=Value.ref a
  | .ty n,u=>u=Value.type n
abbrev Vals:List V→List Value→Prop:=Paired RelV
theorem Vals.length {xs:List V}{us:List Value} (r:Vals xs us):xs.length=us.length:=Paired.length r
theorem Vals.get:∀ {xs:List V}{us:List Value}{i:Nat}{x:V},Vals xs us→xs[i]? = some x→∃ u,us[i]? = some u∧RelV x u
  | _,_,_,_,.nil,e=>by simp at e
  | _,_,0,_,.cons r _,e=>by simp at e;subst e;exact ⟨_,rfl,r⟩
  | _,_,i+1,x,.cons _ t,e=>by
    obtain ⟨u,h1,h2⟩:=Vals.get (i:=i) (x:=x) t (by simpa using e)
    exact ⟨u,by simpa using h1,h2⟩
theorem Vals.set {x:V}{u:Value} (r:RelV x u):∀ {xs:List V}{us:List Value} (i:Nat),Vals xs us→Vals (xs.set i x) (us.set i u)
  | _,_,_,.nil=>.nil
  | _,_,0,.cons _ t=>.cons r t
  | _,_,i+1,.cons q t=>.cons q (Vals.set r i t)
theorem Vals.append:∀ {xs ys:List V}{us ws:List Value},Vals xs us→Vals ys ws→Vals (xs ++ ys) (us ++ ws)
  | _,_,_,_,.nil,s=>s
  | _,_,_,_,.cons r t,s=>.cons r (Vals.append t s)
theorem Vals.take:∀ {xs:List V}{us:List Value} (n:Nat),Vals xs us→Vals (xs.take n) (us.take n)
  | _,_,0,_=>.nil
  | _,_,_+1,.nil=>.nil
  | _,_,n+1,.cons r t=>.cons r (Vals.take n t)
theorem Vals.drop:∀ {xs:List V}{us:List Value} (n:Nat),Vals xs us→Vals (xs.drop n) (us.drop n)
  | _,_,0,r=>r
  | _,_,_+1,.nil=>.nil
  | _,_,n+1,.cons _ t=>Vals.drop n t
def RelO:Option V→Option Value→Prop
  | some v,some u=>RelV v u
  | none,none=>True
  | _,_=>False
def KV {κ:Type}:List (κ × V)→List (κ × Value)→Prop:=Paired fun (p:κ × V) (q:κ × Value)=>p.1=q.1∧RelV p.2 q.2
def kV:Key→V
  | .inl i=>.int i
  | .inr x=>.str x
inductive HO where
  | lst (xs:List V)
  | tup (xs:List V)
  | dK (kvs:List (Key × V)) | dT (kvs:List (List Key × V))
  | set (S:Int→Bool) (n:Nat)
  | ins (C dx:Addr) (fs:List (Str × V))
  | own (x:Addr)
  | xd (fs:List (Str × V))
  | met (f x:Addr)
  | rng (lo hi:Int)
  | frz (o:Obj) (u:HO)
  | tbl (ps:Array Value)
  | ext (φ:Heap→Prop)
abbrev Hp:=Addr→Option HO
def upd (H:Hp) (a:Addr) (o:HO):Hp:=fun b=>if b=a then some o else H b
theorem Zad {H:Hp}{a:Addr}{o:HO}:upd H a o a=some o:=by unfold upd;rw [if_pos rfl]
theorem Zal {H:Hp}{a b:Addr}{o:HO} (h:b≠a):upd H a o b=H b:=by unfold upd;rw [if_neg h]
theorem ZnA {H:Hp}{a b:Addr}{o u:HO} (h:H a=some o) (h':H b=some u) (d:o≠u):a≠b:=by
  intro e;subst e;rw [h] at h';exact d (Option.some.inj h')
theorem Zak {H:Hp}{a b:Addr}{o:HO} (h:H a=some o) (h':H b=none):a≠b:=by
  intro e;subst e;rw [h] at h';cases h'
section
variable (P:Program) (w:World)
def ObjOk (H:Hp) (h:Heap) (a:Addr):HO→Prop
  | .lst xs=>xs.length≤sizeLine∧∃ (its:List Value) (n:Nat),Vals xs its∧h.get? a=some { cls:=.type "list",data:=.seq its.toArray n }
  | .tup xs=>xs.length≤sizeLine∧∃ its:List Value,Vals xs its∧IsTup h a its.toArray
  | .dK kvs=>kvs.length≤sizeLine∧(a == sysModules)=false∧∃ vs,KV kvs vs∧h.DictOf (Zjj P w) a vs
  | .dT kvs=>kvs.length≤sizeLine∧(a == sysModules)=false∧∃ xs:List (List Key × Addr × Value),
      Paired (fun (p:List Key × V) (q:List Key × Addr × Value)=>p.1=q.1∧H q.2.1=some (.tup (p.1.map kV))∧RelV p.2 q.2.2) kvs xs ∧
      ∃ o es ep,h.get? a=some o∧o.ExactDict∧o.data=.dict es ep∧es.toList=xs.map (entryOfKey (tupleKind (Zjj P w)))∧(xs.map (·.1)).Nodup
  | .set S n=>h.SetOf (intKind P w) a S n
  | .ins C dx fs=>H dx=some (.own a)∧fs.length≤1000∧dx≠a∧h.get? a=some (PySem.W.instObj C dx) ∧
      ∃ mA,h.Ns1 dx mA∧(∀ f,RelO (fs.lookup f) (mA f))∧PySem.Within mA (fs.map (·.1))
  | .own _=>∃ o,h.get? a=some o
  | .xd fs=>∃ mA,h.Ns1 a mA∧∀ f,RelO (fs.lookup f) (mA f)
  | .rng lo hi=>∃ t u v,h.get? a=some { cls:=.type "range",data:=.fields #[.int lo t,.int hi u,.int 1 v] }
  | .frz o u=>h.get? a=some o∧ObjOk H h a u
  | .tbl ps=>h.get? a=some { cls:=.none,data:=.fields ps }
  | .met f x=>h.get? a=some (PySem.W.methodObj (.ref f) (.ref x))
  | .ext φ=>φ h∧(∃ o,h.get? a=some o)∧∀ h1 h2:Heap,φ h1→(∀ o,h1.get? a=some o→h2.get? a=some o)→φ h2
def HOk (H:Hp) (h:Heap):Prop:=∀ a o,H a=some o→ObjOk P w H h a o
end
section
variable {P:Program}{w:World}{H H':Hp}{h h':Heap}{a:Addr}{o:HO}
theorem ObjOk.lt (x:ObjOk P w H h a o):a<h.objs.size:=by
  cases o with
  | lst xs=>obtain ⟨_,_,_,_,e⟩:=x;exact Heap.lt_size e
  | tup xs=>obtain ⟨_,_,_,p⟩:=x;exact p.lt
  | dK kvs=>obtain ⟨_,_,_,_,o,_,_,e,_⟩:=x;exact Heap.lt_size e
  | dT kvs=>obtain ⟨_,_,_,_,o,_,_,e,_⟩:=x;exact Heap.lt_size e
  | set S n=>obtain ⟨o,_,_,_,e,_⟩:=x;exact Heap.lt_size e
  | ins C dx fs=>obtain ⟨_,_,_,e,_⟩:=x;exact Heap.lt_size e
  | own y=>obtain ⟨_,e⟩:=x;exact Heap.lt_size e
  | xd fs=>obtain ⟨_,⟨_,_,_,e,_⟩,_⟩:=x;exact Heap.lt_size e
  | rng lo hi=>obtain ⟨_,_,_,e⟩:=x;exact Heap.lt_size e
  | frz ob u=>obtain ⟨e,_⟩:=x;exact Heap.lt_size e
  | tbl ps=>exact Heap.lt_size (show h.get? a=some _ from x)
  | met f y=>exact Heap.lt_size (show h.get? a=some _ from x)
  | ext φ=>obtain ⟨_,⟨_,e⟩,_⟩:=x;exact Heap.lt_size e
theorem Paired.mapP {α β:Type}{F G:α→β→Prop}:∀ {l₁:List α}{l₂:List β},Paired F l₁ l₂→(∀ a b,F a b→G a b)→Paired G l₁ l₂
  | _,_,.nil,_=>.nil
  | _,_,.cons r t,f=>.cons (f _ _ r) (Paired.mapP t f)
theorem ObjOk.stay (x:ObjOk P w H h a o) (k:∀ b u,(b=a∨H b=some (.own a))→h.get? b=some u→h'.get? b=some u)
    (ho:∀ b,H b=some (.own a)→H' b=some (.own a)) (ht:∀ b xs,H b=some (.tup xs)→H' b=some (.tup xs)):ObjOk P w H' h' a o:=by
  induction o with
  | lst xs=>obtain ⟨z,its,n,r,e⟩:=x;exact ⟨z,its,n,r,k _ _ (.inl rfl) e⟩
  | tup xs=>obtain ⟨z,its,r,ob,e,c⟩:=x;exact ⟨z,its,r,ob,k _ _ (.inl rfl) e,c⟩
  | dK kvs=>obtain ⟨z,y,vs,r,ob,es,ep,e,c⟩:=x;exact ⟨z,y,vs,r,ob,es,ep,k _ _ (.inl rfl) e,c⟩
  | dT kvs =>
    obtain ⟨z,y,xs,r,ob,es,ep,e,c⟩:=x
    exact ⟨z,y,xs,Paired.mapP r fun p q z=>⟨z.1,ht _ _ z.2.1,z.2.2⟩,ob,es,ep,k _ _ (.inl rfl) e,c⟩
  | set S n=>obtain ⟨ob,es,ep,t,e,c⟩:=x;exact ⟨ob,es,ep,t,k _ _ (.inl rfl) e,c⟩
  | ins C dx fs =>
    obtain ⟨d,z,ne,e,mA,⟨od,es,ep,e2,c⟩,r⟩:=x
    exact ⟨ho _ d,z,ne,k _ _ (.inl rfl) e,mA,⟨od,es,ep,k _ _ (.inr d) e2,c⟩,r⟩
  | own y=>obtain ⟨ob,e⟩:=x;exact ⟨ob,k _ _ (.inl rfl) e⟩
  | xd fs=>obtain ⟨mA,⟨od,es,ep,e,c⟩,r⟩:=x;exact ⟨mA,⟨od,es,ep,k _ _ (.inl rfl) e,c⟩,r⟩
  | rng lo hi=>obtain ⟨t,u,v,e⟩:=x;exact ⟨t,u,v,k _ _ (.inl rfl) e⟩
  | frz ob u ih=>obtain ⟨e,q⟩:=x;exact ⟨k _ _ (.inl rfl) e,ih q⟩
  | tbl ps =>
    have e:h.get? a=some { cls:=.none,data:=.fields ps }:=x
    show h'.get? a=some { cls:=.none,data:=.fields ps }
    exact k a _ (.inl rfl) e
  | met f y =>
    have e:h.get? a=some (PySem.W.methodObj (.ref f) (.ref y)):=x
    show h'.get? a=some (PySem.W.methodObj (.ref f) (.ref y))
    exact k a _ (.inl rfl) e
  | ext φ=>obtain ⟨p,⟨o,e⟩,st⟩:=x;exact ⟨st _ _ p fun o q=>k _ _ (.inl rfl) q,⟨o,k _ _ (.inl rfl) e⟩,st⟩
theorem HOk.lt (x:HOk P w H h) (e:H a=some o):a<h.objs.size:=(x a o e).lt
theorem HOk.fresh (x:HOk P w H h) (e:h.objs.size≤a):H a=none:=by
  cases q:H a with
  | none=>rfl
  | some u=>exact absurd (Nat.lt_of_lt_of_le (x.lt q) e) (Nat.lt_irrefl _)
theorem HOk.kept (x:HOk P w H h) (k:∀ b u,h.get? b=some u→h'.get? b=some u):HOk P w H h':=fun a o e =>
  (x a o e).stay (fun b u _ q=>k b u q) (fun _ q=>q) fun _ _ q=>q
theorem HOk.laid (x:HOk P w H h) (k:∀ b u,h.get? b=some u→h'.get? b=some u) (hp:h.objs.size≤a) (new:ObjOk P w (upd H a o) h' a o):HOk P w (upd H a o) h':=fun b u e=>by
  have hn:=x.fresh hp
  by_cases hb:b=a
  · subst hb;rw [Zad] at e;cases e;exact new
  · rw [Zal hb] at e
    exact (x b u e).stay (fun c v _ q=>k c v q) (fun c q=>by rw [Zal (Zak q hn)];exact q) fun c xs q=>by rw [Zal (Zak q hn)];exact q
end
def Rd (H:Hp) (a:Addr) (u:HO):Prop:=H a=some u∨∃ o,H a=some (.frz o u)
theorem Rd.ok {P:Program}{w:World}{H:Hp}{h:Heap}{a:Addr}{u:HO} (r:Rd H a u) (x:HOk P w H h):ObjOk P w H h a u:=by
  rcases r with r | ⟨o,r⟩
  · exact x a u r
  · obtain ⟨_,q⟩:=x a _ r
    exact q
def Mut:Option HO→Prop
  | some (.lst _)=>True
  | some (.dK _)=>True
  | some (.dT _)=>True
  | some (.set _ _)=>True
  | some (.ins _ _ _)=>True
  | some (.ext _)=>True
  | _=>False
section
variable {P:Program}{w:World}{H:Hp}{h h':Heap}{x e:Addr}{o':HO}
theorem HOk.write (ok:HOk P w H h) (mu:Mut (H x)) (he:e=x∨H e=some (.own x)) (k:∀ b u,b≠e→h.get? b=some u→h'.get? b=some u) (heo:∃ u,h'.get? e=some u)
    (new:ObjOk P w (upd H x o') h' x o'):HOk P w (upd H x o') h':=fun b u q=>by
  have nown:∀ c y,H c=some (.own y)→c≠x:=fun c y r z=>by subst z;rw [r] at mu;exact mu
  have ntup:∀ c xs,H c=some (.tup xs)→c≠x:=fun c xs r z=>by subst z;rw [r] at mu;exact mu
  by_cases hb:b=x
  · subst hb;rw [Zad] at q;cases q;exact new
  · rw [Zal hb] at q
    by_cases hbe:b=e
    · have q':H b=some (.own x):=by
        rcases he with z | z
        · exact absurd (hbe.trans z) hb
        · rw [hbe];exact z
      rw [q] at q';cases q'
      obtain ⟨v,hv⟩:=heo
      exact ⟨v,by rw [hbe];exact hv⟩
    · refine (ok b u q).stay (fun c v hc r=>k c v ?_ r) (fun c r=>by rw [Zal (nown c b r)];exact r) fun c xs r=>by rw [Zal (ntup c xs r)];exact r
      rcases hc with rfl | hc
      · exact hbe
      · rintro rfl
        rcases he with z | z
        · exact nown c b hc z
        · rw [hc] at z;cases z;exact hb rfl
end
structure Un (fs ex:List Addr) (H H':Hp) (h h':Heap):Prop where
  keep:∀ b o,h.get? b=some o→H b=none→b∉fs→b∉ex→h'.get? b=some o
  slot:∀ b o,h.get? b=some o→H b=none→b∈fs→b∉ex→∃ sl,h'.get? b=some { o with slots:=sl }
  free:∀ b o,h.get? b=some o→H b=none→b∉ex→H' b=none
  there:∀ b o,h.get? b=some o→b∉ex→∃ o',h'.get? b=some o'
  tups:∀ b xs,H b=some (.tup xs)→H' b=some (.tup xs)
  frzs:∀ b o u,H b=some (.frz o u)→H' b=some (.frz o u)
  tbls:∀ b ps,H b=some (.tbl ps)→∃ more,H' b=some (.tbl (ps ++ more))
section
variable {fs fs' ex ex':List Addr}{H H1 H2:Hp}{h h1 h2 h':Heap}{a x e:Addr}{o:HO}
theorem Un.any (u:Un fs ex H H1 h h1) {b:Addr}{ob:Obj} (q:h.get? b=some ob) (n:H b=none) (hx:b∉ex):∃ sl,h1.get? b=some { ob with slots:=sl }:=by
  by_cases hb:b∈fs
  · exact u.slot b ob q n hb hx
  · exact ⟨ob.slots,u.keep b ob q n hb hx⟩
theorem Un.kept (k:∀ b u,h.get? b=some u→h'.get? b=some u):Un fs ex H H h h' :=
  ⟨fun b ob q _ _ _=>k b ob q,fun b ob q _ _ _=>⟨ob.slots,k b ob q⟩,fun _ _ _ n _=>n,fun b ob q _=>⟨ob,k b ob q⟩,fun _ _ q=>q,fun _ _ _ q=>q,fun _ ps q=>⟨#[],by rw [q];simp⟩⟩
theorem Un.refl:Un fs ex H H h h:=Un.kept fun _ _ q=>q
theorem Un.laid (k:∀ b u,h.get? b=some u→h'.get? b=some u) (hp:h.objs.size≤a) (hn:H a=none):Un fs ex H (upd H a o) h h' where
  keep:=fun b u q _ _ _=>k b u q
  slot:=fun b u q _ _ _=>⟨u.slots,k b u q⟩
  free:=fun b u q n _=>by rw [Zal (Nat.ne_of_lt (Nat.lt_of_lt_of_le (Heap.lt_size q) hp))];exact n
  there:=fun b u q _=>⟨u,k b u q⟩
  tups:=fun b xs q=>by rw [Zal (Zak q hn)];exact q
  frzs:=fun b u xs q=>by rw [Zal (Zak q hn)];exact q
  tbls:=fun b ps q=>⟨#[],by rw [Zal (Zak q hn),q];simp⟩
theorem Un.write (mu:Mut (H x)) (he:e=x∨H e=some (.own x)) (k:∀ b u,b≠e→h.get? b=some u→h'.get? b=some u) (heo:∃ u,h'.get? e=some u):Un fs ex H (upd H x o) h h':=by
  have hx:∀ b,H b=none→b≠x:=fun b n z=>by subst z;rw [n] at mu;exact mu
  have hb:∀ b,H b=none→b≠e:=fun b n z=>by
    subst z
    rcases he with r | r
    · exact hx b n r
    · rw [n] at r;cases r
  have hm:∀ b u,H b=some u→¬ Mut (some u)→b≠x:=fun b u q nm z=>by subst z;rw [q] at mu;exact nm mu
  refine ⟨fun b u q n _ _=>k b u (hb b n) q,fun b u q n _ _=>⟨u.slots,k b u (hb b n) q⟩,fun b u q n _=>by rw [Zal (hx b n)];exact n,fun b u q _=>?_,
    fun b xs q=>by rw [Zal (hm b _ q fun z=>z)];exact q,fun b u xs q=>by rw [Zal (hm b _ q fun z=>z)];exact q,fun b ps q=>⟨#[],by rw [Zal (hm b _ q fun z=>z),q];simp⟩⟩
  by_cases hbe:b=e
  · subst hbe;exact heo
  · exact ⟨u,k b u hbe q⟩
theorem Un.mono (u:Un fs ex H H1 h h1) (hs:∀ b∈fs,b∈fs') (hx:∀ b∈ex,b∈ex'):Un fs' ex' H H1 h h1 :=
  ⟨fun b ob q n hb he=>u.keep b ob q n (fun z=>hb (hs b z)) fun z=>he (hx b z),fun _ _ q n _ he=>u.any q n fun z=>he (hx _ z),fun b ob q n he=>u.free b ob q n fun z=>he (hx b z),fun b ob q he=>u.there b ob q fun z=>he (hx b z),u.tups,u.frzs,u.tbls⟩
end
def trk (h:Heap) (H:Hp):List Addr:=(List.range h.objs.size).filter fun a=>(H a).isSome
def hidT (h:Heap) (H:Hp):Heap:=PySem.W.hideAll h (trk h H)
theorem ZjA (h:Heap) (H:Hp):(hidT h H).objs.size=h.objs.size:=PySem.W.hideAll_size _ _
theorem Zk4 {h:Heap}{H:Hp}{b:Addr}{o:Obj} (e:h.get? b=some o) (n:H b=none):(hidT h H).get? b=some o :=
  PySem.W.hideAll_get _ e fun hm=>by
    have q:(H b).isSome=true:=(List.mem_filter.mp hm).2
    rw [n] at q;simp at q
theorem ZmB {h:Heap}{H:Hp}{b:Addr}{o:Obj} (e:(hidT h H).get? b=some o):h.get? b=some o∧H b=none:=by
  have e':h.get? b=some o:=PySem.W.of_hideAll (trk h H) e
  refine ⟨e',?_⟩
  cases q:H b with
  | none=>rfl
  | some x =>
    have hm:b∈trk h H:=List.mem_filter.mpr ⟨List.mem_range.mpr (Heap.lt_size e'),by simp [q]⟩
    have z:(hidT h H).get? b=none:=PySem.W.hideAll_none (trk h H) hm
    rw [z] at e;cases e
def Zm5 (g h:Heap) (L:Addr):List (Addr × Obj):=(List.range h.objs.size).filterMap fun a=>if a=L∨(g.get? a).isSome=true then none else (h.get? a).map fun o=>(a,o)
def rest (g h:Heap) (L d:Addr):List (Addr × Obj):=(Zm5 g h L).filter fun p=>decide (p.1≠d)
structure Mod (K:PySem.W.Frag) (mg:Str→Option Value) (base:Heap):Prop where
  kin:K.In base
  glob:base.Ns mainGlobals mg
  blt:∃ mb,base.Ns builtinsNs mb∧∀ x:Str,x ≠ "__name__" → mb x=bootBuiltins x
  nolimit:base.NoLimit
structure Cx where
  prog:Program
  w:World
  K:PySem.W.Frag
  mg:Str→Option Value
  base:Heap
  A:Around
  N:List Str
  s₀:Shared
  H₀:Hp
  env:Env
  outer:List Env
  stack:List Env
  ex:List Addr
  fn:Str→Bool
  calm:Bool
  pn:List (Addr × Obj)
  xe:Value→Shared→Prop
def frs (l:List Env):List Addr:=l.filterMap (·.frame)
abbrev Cx.fs (X:Cx):List Addr:=frs X.outer
def Vis (sc:Scope) (x:Str):Prop:=sc.names.lookup x=some .local∨sc.names.lookup x=some .cell∨sc.names.lookup x=some .free
def Loc (sc:Scope) (x:Str):Prop:=sc.names.lookup x=some .local∨sc.names.lookup x=some .cell
def Look (env:Env) (h:Heap) (m:Str→Option Value) (x:Str) (u:Value):Prop :=
  (env.kindOf x=some .local∧m x=some u)∨((env.kindOf x=some .cell∨env.kindOf x=some .free)∧∃ c,env.cells.lookup x=some c∧h.IsCell c (some u))
structure Cx.Ok (X:Cx):Prop where
  mod:Mod X.K X.mg X.base
  kind:X.env.scope.kind=.function
  glob:X.env.globals=mainGlobals
  blt:X.env.builtins=builtinsNs
  above:X.s₀.heap.objs.size≤X.env.locals
  inj:∀ x y c,X.env.cells.lookup x=some c→X.env.cells.lookup y=some c→x=y
  has:∀ x,(X.env.kindOf x=some .cell∨X.env.kindOf x=some .free)→∃ c,X.env.cells.lookup x=some c
  cab:∀ x c,X.fn x=true→X.env.cells.lookup x=some c→X.s₀.heap.objs.size≤c
  hd:X.calm=true→X.A.handled=none
  frames:X.A.frames=some X.stack
  stk:X.stack=X.outer∨(X.stack=X.env :: X.outer∧X.env.frame=some X.env.locals)
  exf:∀ b∈X.ex,b≠X.env.locals∧∀ x c,X.env.cells.lookup x=some c→c≠b
  bs:∀ b o,X.base.get? b=some o→X.s₀.heap.get? b=some o∧X.H₀ b=none
  bsz:X.base.objs.size≤X.s₀.heap.objs.size
  noex:∀ b o,X.base.get? b=some o→b∉X.ex
  exfs:∀ b∈X.ex,b∉X.fs
  funs:X.s₀.heap.FunFrames X.base X.outer
  frf:∀ b∈X.fs,X.H₀ b=none
structure Inv (X:Cx) (pins:List (Addr × Obj)) (σ:List (Option V)) (H:Hp) (s:Shared):Prop where
  ok:X.Ok
  os:s.os=X.s₀.os
  bare:AllBare s.gens
  base:Un X.fs X.ex X.H₀ H X.s₀.heap s.heap
  loc:∃ m,s.heap.Ns X.env.locals m∧∀ (i:Nat) (x:Str) (v:V),X.N[i]? = some x→σ[i]? = some (some v)→Vis X.env.scope x→∃ u,RelV v u∧Look X.env s.heap m x u
  cell:∀ x c,X.env.cells.lookup x=some c→∃ v,s.heap.IsCell c v
  free:H X.env.locals=none
  freeC:∀ x c,X.env.cells.lookup x=some c→H c=none
  pin:∀ p∈X.pn ++ pins,s.heap.get? p.1=some p.2∧H p.1=none∧p.1≠X.env.locals∧p.1∉X.fs∧∀ v,p.2.data≠.cell v
  hok:HOk X.prog X.w H s.heap
  len:σ.length=X.N.length
section
variable {X:Cx}{pins:List (Addr × Obj)}{σ:List (Option V)}{H H':Hp}{s:Shared}{h':Heap}
theorem Cx.Ok.nofr (ok:X.Ok) {b:Addr}{o:Obj} (e:X.base.get? b=some o):b∉X.fs:=fun hb=>by
  have:=(ok.funs.mem hb).1
  rw [e] at this;cases this
theorem Inv.bs (I:Inv X pins σ H s):∀ b o,X.base.get? b=some o→s.heap.get? b=some o∧H b=none:=fun b o e =>
  ⟨I.base.keep b o (I.ok.bs b o e).1 (I.ok.bs b o e).2 (I.ok.nofr e) (I.ok.noex b o e),I.base.free b o (I.ok.bs b o e).1 (I.ok.bs b o e).2 (I.ok.noex b o e)⟩
theorem Inv.bk (I:Inv X pins σ H s):∀ b o,X.base.get? b=some o→s.heap.get? b=some o:=fun b o e=>(I.bs b o e).1
theorem Inv.mod (I:Inv X pins σ H s):Mod X.K X.mg X.base:=I.ok.mod
theorem Inv.kIn (I:Inv X pins σ H s):X.K.In s.heap:=I.ok.mod.kin.keeps I.bk
theorem Inv.fr (I:Inv X pins σ H s):∃ m,Fr X.base X.env.locals s.heap m :=
  let ⟨m,hn,_⟩:=I.loc
  ⟨m,hn,I.bk,Nat.le_trans I.ok.bsz I.ok.above⟩
theorem Inv.lt (I:Inv X pins σ H s):X.env.locals<s.heap.objs.size:=let ⟨_,hn,_⟩:=I.loc;hn.lt
theorem Inv.sz (I:Inv X pins σ H s):X.s₀.heap.objs.size≤s.heap.objs.size:=Nat.le_trans I.ok.above (Nat.le_of_lt I.lt)
theorem Inv.nofs (I:Inv X pins σ H s) {a:Addr} (h:s.heap.objs.size≤a):a∉X.fs:=fun hb=>by
  obtain ⟨_,o,ho,_⟩:=I.ok.funs.mem hb
  exact absurd (Nat.lt_of_lt_of_le (Heap.lt_size ho) (Nat.le_trans I.sz h)) (Nat.lt_irrefl _)
theorem Inv.cne (I:Inv X pins σ H s):∀ x c,X.env.cells.lookup x=some c→c≠X.env.locals:=fun x c e z=>by
  obtain ⟨v,o,ho,hd⟩:=I.cell x c e
  obtain ⟨m,⟨o',es,ep,ho',hd',_⟩,_⟩:=I.loc
  rw [z,ho'] at ho;cases ho;rw [hd'] at hd;cases hd
theorem Inv.funs (I:Inv X pins σ H s):s.heap.FunFrames X.base X.outer:=by
  have all:∀ (l:List Env),(∀ b∈frs l,b∈X.fs)→X.s₀.heap.FunFrames X.base l→s.heap.FunFrames X.base l:=by
    intro l
    induction l with
    | nil=>intro _ _;trivial
    | cons env r ih =>
      intro hs hl
      obtain ⟨hk,⟨L,o,hf,hn,ho,hd⟩,hr⟩:=hl
      have hL:L∈X.fs:=hs L (by unfold frs;rw [List.filterMap_cons,hf];exact List.mem_cons_self)
      obtain ⟨sl,e⟩:=I.base.slot L o ho (I.ok.frf L hL) hL fun z=>I.ok.exfs L z hL
      exact ⟨hk,⟨L,_,hf,hn,e,hd⟩,ih (fun b hb=>hs b (by unfold frs;rw [List.filterMap_cons,hf];exact List.mem_cons_of_mem _ hb)) hr⟩
  exact all X.outer (fun _ hb=>hb) I.ok.funs
theorem Inv.stack (I:Inv X pins σ H s):s.heap.FunFrames X.base X.stack:=by
  rcases I.ok.stk with e | ⟨e,hf⟩
  · rw [e];exact I.funs
  · rw [e]
    obtain ⟨m,hn,_⟩:=I.loc
    refine .cons (by rw [I.ok.kind];decide) hf hn ?_ I.funs
    exact Heap.get?_none_of_le (Nat.le_trans I.ok.bsz I.ok.above)
theorem Inv.stkSub (I:Inv X pins σ H s):∀ b∈frs X.stack,b∈X.env.locals :: X.fs:=fun b hb=>by
  rcases I.ok.stk with e | ⟨e,hf⟩
  · rw [e] at hb;exact List.mem_cons_of_mem _ hb
  · rw [e] at hb
    unfold frs at hb
    rw [List.filterMap_cons,hf] at hb
    exact hb
theorem Inv.stkFree (I:Inv X pins σ H s):∀ b∈frs X.stack,H b=none:=fun b hb=>by
  rcases List.mem_cons.mp (I.stkSub b hb) with e | hb
  · rw [e];exact I.free
  · obtain ⟨_,o,ho,_⟩:=I.ok.funs.mem hb
    exact I.base.free b o ho (I.ok.frf b hb) fun z=>I.ok.exfs b z hb
theorem Inv.step {g':Array GenState}{t':Nat}{d':Drawn}{ch:List Addr} (I:Inv X pins σ H s)
    (hch:∀ b∈ch,(b∈X.ex∨X.s₀.heap.objs.size≤b)∧b≠X.env.locals∧(∀ x c,X.env.cells.lookup x=some c→c≠b)∧∀ p∈X.pn ++ pins,p.1≠b)
    (keep:∀ b o,b≠X.env.locals→b∉X.fs→b∉ch→s.heap.get? b=some o→H b=none→h'.get? b=some o)
    (slot:∀ b o,b≠X.env.locals→b∈X.fs→b∉ch→s.heap.get? b=some o→H b=none→∃ sl,h'.get? b=some { o with slots:=sl }) (free:∀ b o,b∉ch→s.heap.get? b=some o→H b=none→H' b=none)
    (there:∀ b o,b∉ch→s.heap.get? b=some o→∃ o',h'.get? b=some o')
    (tups:∀ b xs,H b=some (.tup xs)→H' b=some (.tup xs)) (frzs:∀ b o u,H b=some (.frz o u)→H' b=some (.frz o u)) (tbls:∀ b ps,H b=some (.tbl ps)→∃ more,H' b=some (.tbl (ps ++ more)))
    (ns:∀ m,s.heap.Ns X.env.locals m→h'.Ns X.env.locals m) (hok:HOk X.prog X.w H' h') (hg:AllBare g') :
    Inv X pins σ H' { s with heap:=h',gens:=g',drawn:=d',toks:=t' }:=by
  have neL:∀ b o,X.s₀.heap.get? b=some o→b≠X.env.locals:=fun b o e=>Nat.ne_of_lt (Nat.lt_of_lt_of_le (Heap.lt_size e) I.ok.above)
  have neC:∀ b o,X.s₀.heap.get? b=some o→b∉X.ex→b∉ch:=fun b o e hx hb=>by
    rcases (hch b hb).1 with z | z
    · exact hx z
    · exact absurd (Nat.lt_of_lt_of_le (Heap.lt_size e) z) (Nat.lt_irrefl _)
  have cellK:∀ x c,X.env.cells.lookup x=some c→∀ v,s.heap.IsCell c v→h'.IsCell c v:=fun x c e v ⟨o,ho,hd⟩=>by
    have nch:c∉ch:=fun z=>(hch c z).2.2.1 x c e rfl
    by_cases hc:c∈X.fs
    · obtain ⟨sl,q⟩:=slot c o (I.cne x c e) hc nch ho (I.freeC x c e)
      exact ⟨_,q,hd⟩
    · exact ⟨o,keep c o (I.cne x c e) hc nch ho (I.freeC x c e),hd⟩
  refine ⟨I.ok,I.os,hg,⟨fun b o e n hb hx=>?_,fun b o e n hb hx=>?_,fun b o e n hx=>?_,fun b o e hx=>?_,fun b xs e=>tups b xs (I.base.tups b xs e),fun b o xs e=>frzs b o xs (I.base.frzs b o xs e),fun b ps e=>?_⟩,?_,fun x c e=>?_,?_,fun x c e=>?_,fun p hp=>?_,hok,I.len⟩
  · exact keep b o (neL b o e) hb (neC b o e hx) (I.base.keep b o e n hb hx) (I.base.free b o e n hx)
  · obtain ⟨sl,e1⟩:=I.base.slot b o e n hb hx
    obtain ⟨sl',e2⟩:=slot b _ (neL b o e) hb (neC b o e hx) e1 (I.base.free b o e n hx)
    exact ⟨sl',e2⟩
  · obtain ⟨o',e1⟩:=I.base.there b o e hx
    exact free b o' (neC b o e hx) e1 (I.base.free b o e n hx)
  · obtain ⟨o',e1⟩:=I.base.there b o e hx
    exact there b o' (neC b o e hx) e1
  · obtain ⟨m1,e1⟩:=I.base.tbls b ps e
    obtain ⟨m2,e2⟩:=tbls b _ e1
    exact ⟨m1 ++ m2,by rw [e2,Array.append_assoc]⟩
  · obtain ⟨m,hn,hl⟩:=I.loc
    refine ⟨m,ns m hn,fun i x v e1 e2 e3=>?_⟩
    obtain ⟨u,r,l⟩:=hl i x v e1 e2 e3
    refine ⟨u,r,?_⟩
    rcases l with l | ⟨k,c,e,z⟩
    · exact .inl l
    · exact .inr ⟨k,c,e,cellK x c e _ z⟩
  · obtain ⟨v,z⟩:=I.cell x c e
    exact ⟨v,cellK x c e v z⟩
  · obtain ⟨m,⟨o,_,_,ho,_⟩,_⟩:=I.loc
    exact free _ o (fun z=>(hch _ z).2.1 rfl) ho I.free
  · obtain ⟨v,o,ho,hd⟩:=I.cell x c e
    exact free c o (fun z=>(hch c z).2.2.1 x c e rfl) ho (I.freeC x c e)
  · obtain ⟨e,n,ne,nf,d⟩:=I.pin p hp
    have nch:p.1∉ch:=fun z=>(hch p.1 z).2.2.2 p hp rfl
    exact ⟨keep p.1 p.2 ne nf nch e n,free p.1 p.2 nch e n,ne,nf,d⟩
theorem Inv.un {t':Nat} (I:Inv X pins σ H s) (u:Un X.fs [] H H' s.heap h') (hok:HOk X.prog X.w H' h'):Inv X pins σ H' { s with heap:=h',toks:=t' }:=by
  obtain ⟨m,⟨o,es,ep,ho,r⟩,_⟩:=id I.loc
  obtain ⟨sl,hL⟩:=u.any ho I.free (by simp)
  exact I.step (g':=s.gens) (d':=s.drawn) (ch:=[]) (fun _ z=>nomatch z) (fun b o _ hb _ e n=>u.keep b o e n hb (by simp)) (fun b o _ hb _ e n=>u.slot b o e n hb (by simp)) (fun b o _ e n=>u.free b o e n (by simp)) (fun b o _ e=>u.there b o e (by simp)) u.tups u.frzs u.tbls (fun m' hm=>by
    obtain ⟨o',es',ep',ho',r'⟩:=hm
    rw [ho] at ho';cases ho'
    exact ⟨_,es',ep',hL,r'⟩) hok I.bare
theorem Inv.call {g':Array GenState}{t':Nat}{d':Drawn}{ch:List Addr} (I:Inv X pins σ H s) (u:Un (frs X.stack) ch H H' s.heap h') (hok:HOk X.prog X.w H' h') (hg:AllBare g')
    (hch:∀ b∈ch,(b∈X.ex∨X.s₀.heap.objs.size≤b)∧b≠X.env.locals∧(∀ x c,X.env.cells.lookup x=some c→c≠b)∧∀ p∈X.pn ++ pins,p.1≠b) :
    Inv X pins σ H' { s with heap:=h',gens:=g',drawn:=d',toks:=t' }:=by
  obtain ⟨m,⟨o,es,ep,ho,r⟩,_⟩:=id I.loc
  obtain ⟨sl,hL⟩:=u.any ho I.free fun z=>(hch _ z).2.1 rfl
  exact I.step (ch:=ch) hch (fun b o hL hb hc e n=>u.keep b o e n (fun z=>(List.mem_cons.mp (I.stkSub b z)).elim hL hb) hc) (fun b o _ _ hc e n=>u.any e n hc) (fun b o hc e n=>u.free b o e n hc) (fun b o hc e=>u.there b o e hc) u.tups u.frzs u.tbls (fun m' hm=>by
    obtain ⟨o',es',ep',ho',r'⟩:=hm
    rw [ho] at ho';cases ho'
    exact ⟨_,es',ep',hL,r'⟩) hok hg
theorem Inv.turned {t':Nat}{it:Addr} (I:Inv X pins σ H s) (k:∀ b o,b≠it→s.heap.get? b=some o→h'.get? b=some o) (hn:H it=none) (hL:it≠X.env.locals)
    (h1:it∈X.ex∨X.s₀.heap.objs.size≤it) (h2:∀ x c,X.env.cells.lookup x=some c→c≠it) (h3:∀ p∈X.pn ++ pins,p.1≠it):Inv X pins σ H { s with heap:=h',toks:=t' }:=by
  have nit:∀ b u,H b=some u→b≠it:=fun b u e z=>by rw [z,hn] at e;cases e
  refine I.step (g':=s.gens) (d':=s.drawn) (ch:=[it]) (fun b hb=>?_) (fun b o _ _ hc e _=>k b o (fun z=>hc (by simp [z])) e) (fun b o _ _ hc e _=>⟨o.slots,k b o (fun z=>hc (by simp [z])) e⟩) (fun _ _ _ _ n=>n)
    (fun b o hc e=>⟨o,k b o (fun z=>hc (by simp [z])) e⟩) (fun _ _ e=>e) (fun _ _ _ e=>e) (fun b ps e=>⟨#[],by rw [e];simp⟩) (fun m hm=>?_) (fun b u e=>?_) I.bare
  · have e:b=it:=by simpa using hb
    subst e
    exact ⟨h1,hL,h2,h3⟩
  · obtain ⟨o,es,ep,ho,r⟩:=hm
    exact ⟨o,es,ep,k _ o (Ne.symm hL) ho,r⟩
  · refine (I.hok b u e).stay (fun c v hc q=>k c v ?_ q) (fun _ q=>q) fun _ _ q=>q
    rcases hc with z | z
    · rw [z];exact nit b u e
    · exact nit c _ z
theorem Inv.tok (I:Inv X pins σ H s) (t:Nat):Inv X pins σ H { s with toks:=t }:=I.un (h':=s.heap) (t':=t) Un.refl I.hok
theorem Inv.kept {t':Nat} (I:Inv X pins σ H s) (k:∀ b u,s.heap.get? b=some u→h'.get? b=some u):Inv X pins σ H { s with heap:=h',toks:=t' }:=I.un (Un.kept k) (I.hok.kept k)
theorem Inv.laid {a:Addr}{o:HO}{t':Nat} (I:Inv X pins σ H s) (k:∀ b u,s.heap.get? b=some u→h'.get? b=some u) (hp:s.heap.objs.size≤a) (new:ObjOk X.prog X.w (upd H a o) h' a o) :
    Inv X pins σ (upd H a o) { s with heap:=h',toks:=t' }:=I.un (Un.laid k hp (I.hok.fresh hp)) (I.hok.laid k hp new)
theorem Inv.write {x e:Addr}{o:HO}{t':Nat} (I:Inv X pins σ H s) (mu:Mut (H x)) (he:e=x∨H e=some (.own x)) (k:∀ b u,b≠e→s.heap.get? b=some u→h'.get? b=some u) (heo:∃ u,h'.get? e=some u)
    (new:ObjOk X.prog X.w (upd H x o) h' x o):Inv X pins σ (upd H x o) { s with heap:=h',toks:=t' }:=I.un (Un.write mu he k heo) (I.hok.write mu he k heo new)
theorem Inv.pins_of {pins':List (Addr × Obj)} (I:Inv X pins σ H s) (h:∀ p∈pins',s.heap.get? p.1=some p.2∧H p.1=none∧p.1≠X.env.locals∧p.1∉X.fs∧∀ v,p.2.data≠.cell v):Inv X pins' σ H s :=
  ⟨I.ok,I.os,I.bare,I.base,I.loc,I.cell,I.free,I.freeC,fun p hp=>(List.mem_append.mp hp).elim (fun z=>I.pin p (List.mem_append_left _ z)) (h p),I.hok,I.len⟩
theorem Zfd {N:List Str} (hN:N.Nodup) {i j:Nat}{x:Str} (a:N[i]? = some x) (b:N[j]? = some x):i=j:=by
  obtain ⟨h1,e1⟩:=List.getElem?_eq_some_iff.mp a
  obtain ⟨h2,e2⟩:=List.getElem?_eq_some_iff.mp b
  exact (List.getElem_inj hN).mp (e1.trans e2.symm)
theorem ZfE {M:Model}{A:Around}{E:Value→Shared→Prop}{i:Nat}{x:Str}{v:V}{u:Value}{Q:Unit→Shared→Prop} (I:Inv X pins σ H s) (hN:X.N.Nodup) (hi:X.N[i]? = some x) (hx:Loc X.env.scope x) (r:RelV v u)
    (h:∀ s',Inv X pins (σ.set i (some v)) H s'→(∃ a,Heap.SameBut a s.heap s'.heap∧(a=X.env.locals∨X.env.cells.lookup x=some a))→Q () s') (hf:X.fn x=true∨X.env.scope.names.lookup x=some .local:=by first | exact .inl rfl | exact .inr rfl | assumption):wpAny M A (storeName X.env x u) Q E s:=by
  obtain ⟨m,hn,hl⟩:=id I.loc
  have hcls:(X.env.scope.kind == .class || (X.env.scope.kind == .module && X.env.locals != X.env.globals))=false:=by rw [I.ok.kind];rfl
  have hiσ:i < σ.length:=by rw [I.len];exact (List.getElem?_eq_some_iff.mp hi).1
  have cne:=I.cne
  have tracked:∀ {a:Addr}{h':Heap},(∃ o,s.heap.get? a=some o∧H a=none)→Heap.SameBut a s.heap h'→HOk X.prog X.w H h':=fun {a h'} ha hs b ob e=>by
    obtain ⟨_,_,hfree⟩:=ha
    refine (I.hok b ob e).stay (fun c w' hc q=>(hs.2 c ?_).trans q) (fun _ q=>q) fun _ _ q=>q
    rintro rfl
    rcases hc with rfl | hc
    · rw [hfree] at e;cases e
    · rw [hfree] at hc;cases hc
  rcases hx with hk | hk
  · refine wpAny_storeName_local hk hn (fun h' hn' hs=>?_) hcls
    obtain ⟨oL,_,_,hoL,_⟩:=id hn
    refine h _ ⟨I.ok,I.os,I.bare,⟨fun b o e n hb hx=>?_,fun b o e n hb hx=>?_,I.base.free,fun b o e hx=>?_,I.base.tups,I.base.frzs,I.base.tbls⟩,⟨_,hn',fun j y v' e1 e2 e3=>?_⟩,fun y c e=>?_,I.free,I.freeC,fun p hp=>?_,tracked ⟨oL,hoL,I.free⟩ hs,by simpa using I.len⟩ ⟨_,hs,.inl rfl⟩
    · exact (hs.2 b (Nat.ne_of_lt (Nat.lt_of_lt_of_le (Heap.lt_size e) I.ok.above))).trans (I.base.keep b o e n hb hx)
    · obtain ⟨sl,e1⟩:=I.base.slot b o e n hb hx
      exact ⟨sl,(hs.2 b (Nat.ne_of_lt (Nat.lt_of_lt_of_le (Heap.lt_size e) I.ok.above))).trans e1⟩
    · obtain ⟨o',e1⟩:=I.base.there b o e hx
      exact ⟨o',(hs.2 b (Nat.ne_of_lt (Nat.lt_of_lt_of_le (Heap.lt_size e) I.ok.above))).trans e1⟩
    · by_cases hj:j=i
      · subst hj
        rw [hi] at e1;cases e1
        rw [List.getElem?_set_self hiσ] at e2
        cases e2
        exact ⟨u,r,.inl ⟨hk,by simp⟩⟩
      · rw [List.getElem?_set_ne (Ne.symm hj)] at e2
        obtain ⟨u',r',q⟩:=hl j y v' e1 e2 e3
        refine ⟨u',r',?_⟩
        rcases q with ⟨k,e⟩ | ⟨k,c,e,z⟩
        · refine .inl ⟨k,?_⟩
          have:y≠x:=fun e=>hj (Zfd hN e1 (e ▸ hi))
          simp [this,e]
        · exact .inr ⟨k,c,e,z.sameBut hs (cne y c e)⟩
    · obtain ⟨w',z⟩:=I.cell y c e
      exact ⟨w',z.sameBut hs (cne y c e)⟩
    · obtain ⟨e,n,ne,nf,d⟩:=I.pin p hp
      exact ⟨(hs.2 p.1 ne).trans e,n,ne,nf,d⟩
  · have hfn:X.fn x=true:=by
      rcases hf with z | z
      · exact z
      · rw [z] at hk;cases hk
    obtain ⟨c,hc⟩:=I.ok.has x (.inl hk)
    obtain ⟨w',z⟩:=I.cell x c hc
    refine wpAny_storeName_cell I.ok.kind hk hc z (fun h' hc' hs=>?_)
    obtain ⟨oc,hoc,hocd⟩:=id z
    refine h { s with heap:=h' } ⟨I.ok,I.os,I.bare,⟨fun b o e n hb hx=>?_,fun b o e n hb hx=>?_,I.base.free,fun b o e hx=>?_,I.base.tups,I.base.frzs,I.base.tbls⟩,⟨m,hn.sameBut hs (Ne.symm (cne x c hc)),fun j y v' e1 e2 e3=>?_⟩,fun y c' e=>?_,I.free,I.freeC,fun p hp=>?_,tracked ⟨oc,hoc,I.freeC x c hc⟩ hs,by simpa using I.len⟩ ⟨c,hs,.inr hc⟩
    · exact (hs.2 b (Nat.ne_of_lt (Nat.lt_of_lt_of_le (Heap.lt_size e) (I.ok.cab x c hfn hc)))).trans (I.base.keep b o e n hb hx)
    · obtain ⟨sl,e1⟩:=I.base.slot b o e n hb hx
      exact ⟨sl,(hs.2 b (Nat.ne_of_lt (Nat.lt_of_lt_of_le (Heap.lt_size e) (I.ok.cab x c hfn hc)))).trans e1⟩
    · obtain ⟨o',e1⟩:=I.base.there b o e hx
      exact ⟨o',(hs.2 b (Nat.ne_of_lt (Nat.lt_of_lt_of_le (Heap.lt_size e) (I.ok.cab x c hfn hc)))).trans e1⟩
    · by_cases hj:j=i
      · subst hj
        rw [hi] at e1;cases e1
        rw [List.getElem?_set_self hiσ] at e2
        cases e2
        exact ⟨u,r,.inr ⟨.inl hk,c,hc,hc'⟩⟩
      · rw [List.getElem?_set_ne (Ne.symm hj)] at e2
        obtain ⟨u',r',q⟩:=hl j y v' e1 e2 e3
        refine ⟨u',r',?_⟩
        rcases q with q | ⟨k,c',e,z'⟩
        · exact .inl q
        · refine .inr ⟨k,c',e,z'.sameBut hs ?_⟩
          rintro rfl
          exact hj (Zfd hN e1 (I.ok.inj _ _ _ e hc ▸ hi))
    · by_cases hcc:c'=c
      · subst hcc;exact ⟨_,hc'⟩
      · obtain ⟨w2,z2⟩:=I.cell y c' e
        exact ⟨w2,z2.sameBut hs hcc⟩
    · obtain ⟨e,n,ne,nf,d⟩:=I.pin p hp
      refine ⟨(hs.2 p.1 ?_).trans e,n,ne,nf,d⟩
      intro q
      rw [q,hoc] at e
      have q':oc=p.2:=Option.some.inj e
      exact d w' (by rw [← q'];exact hocd)
theorem Ze0 {M:Model}{A:Around}{E:Value→Shared→Prop}{i:Nat}{x:Str}{v:V}{u:Value}{Q:Unit→Shared→Prop} (I:Inv X pins σ H s) (hN:X.N.Nodup) (hi:X.N[i]? = some x) (hx:Loc X.env.scope x) (r:RelV v u)
    (h:∀ s',Inv X pins (σ.set i (some v)) H s'→Q () s') (hf:X.fn x=true∨X.env.scope.names.lookup x=some .local:=by first | exact .inl rfl | exact .inr rfl | assumption):wpAny M A (storeName X.env x u) Q E s :=
  ZfE I hN hi hx r (fun s' I' _=>h s' I') hf
theorem Inv.call' {s':Shared}{ch:List Addr} (I:Inv X pins σ H s) (ho:s'.os=s.os) (u:Un (frs X.stack) ch H H' s.heap s'.heap) (hok:HOk X.prog X.w H' s'.heap) (hg:AllBare s'.gens)
    (hch:∀ b∈ch,(b∈X.ex∨X.s₀.heap.objs.size≤b)∧b≠X.env.locals∧(∀ x c,X.env.cells.lookup x=some c→c≠b)∧∀ p∈X.pn ++ pins,p.1≠b):Inv X pins σ H' s':=by
  obtain ⟨h',g',d',t',o'⟩:=s'
  have e:o'=s.os:=ho
  subst e
  exact I.call (g':=g') (t':=t') (d':=d') u hok hg hch
end
abbrev XK:=Value→Option Addr→Hp→Prop
abbrev St:=List (Option V)
abbrev VK:=V→Hp→Prop
abbrev TE:=St→Hp→VK→Prop
abbrev TT:=St→Hp→(Bool→Hp→Prop)→Prop
abbrev TA:=St→Hp→(List V→Hp→Prop)→Prop
structure Ends where
  nx:St→Hp→Prop
  rt:VK
  bk:St→Hp→Prop:=fun _ _=>False
  ct:St→Hp→Prop:=fun _ _=>False
abbrev TS:=Ends→St→Hp→Prop
def EP (X:Cx) (pins:List (Addr × Obj)) (σ:St) (Q:VK) (u:Value) (s':Shared):Prop:=∃ v H',Inv X pins σ H' s'∧RelV v u∧Q v H'
def TP (X:Cx) (pins:List (Addr × Obj)) (σ:St) (Q:Bool→Hp→Prop) (b:Bool) (s':Shared):Prop:=∃ H',Inv X pins σ H' s'∧Q b H'
def AP (X:Cx) (pins:List (Addr × Obj)) (σ:St) (Q:List V→Hp→Prop) (us:List Value) (s':Shared):Prop:=∃ vs H',Inv X pins σ H' s'∧Vals vs us∧Q vs H'
def SP (X:Cx) (pins:List (Addr × Obj)) (D:Ends) (f:Flow) (s':Shared):Prop :=
  match f with
  | .next=>∃ σ' H',Inv X pins σ' H' s'∧D.nx σ' H'
  | .brk=>∃ σ' H',Inv X pins σ' H' s'∧D.bk σ' H'
  | .cont=>∃ σ' H',Inv X pins σ' H' s'∧D.ct σ' H'
  | .ret u=>∃ v σ' H',Inv X pins σ' H' s'∧RelV v u∧D.rt v H'
def PE (X:Cx) (e:Expr) (t:TE):Prop :=
  ∀ (pins:List (Addr × Obj)) (s:Shared) (σ:St) (H:Hp) (Q:VK),Inv X pins σ H s→t σ H Q→wpAny (model X.prog X.w) X.A (eval e X.env) (EP X pins σ Q) X.xe s
def PT (X:Cx) (e:Expr) (t:TT):Prop :=
  ∀ (pins:List (Addr × Obj)) (s:Shared) (σ:St) (H:Hp) (Q:Bool→Hp→Prop),Inv X pins σ H s→t σ H Q→wpAny (model X.prog X.w) X.A (isTrue e X.env (eval e X.env)) (TP X pins σ Q) X.xe s
def PW (X:Cx) (e:Expr) (t:TT):Prop :=
  ∀ (whole:Sem Value) (pins:List (Addr × Obj)) (s:Shared) (σ:St) (H:Hp) (Q:Bool→Hp→Prop),Inv X pins σ H s→t σ H Q→wpAny (model X.prog X.w) X.A (isTrue e X.env whole) (TP X pins σ Q) X.xe s
theorem PW.pt {X:Cx}{e:Expr}{t:TT} (h:PW X e t):PT X e t:=h _
def PA (X:Cx) (es:List Expr) (t:TA):Prop :=
  ∀ (pos:Pos) (pins:List (Addr × Obj)) (s:Shared) (σ:St) (H:Hp) (Q:List V→Hp→Prop),Inv X pins σ H s→t σ H Q→wpAny (model X.prog X.w) X.A (spliced (backTo pos (starEach es X.env))) (AP X pins σ Q) X.xe s
def PS (X:Cx) (st:Stmt) (t:TS):Prop :=
  ∀ (pins:List (Addr × Obj)) (s:Shared) (σ:St) (H:Hp) (D:Ends),Inv X pins σ H s→t D σ H→wpAny (model X.prog X.w) X.A (exec st X.env) (SP X pins D) X.xe s
def PSs (X:Cx) (st:List Stmt) (t:TS):Prop :=
  ∀ (pins:List (Addr × Obj)) (s:Shared) (σ:St) (H:Hp) (D:Ends),Inv X pins σ H s→t D σ H→wpAny (model X.prog X.w) X.A (execs st X.env) (SP X pins D) X.xe s
theorem thn {α:Type}{t:Sem α}{Q Q':α→Shared→Prop}{M:Model}{A:Around}{E:Value→Shared→Prop}{s:Shared} (h:wpAny M A t Q E s) (hQ:∀ a s,Q a s→Q' a s):wpAny M A t Q' E s:=wpAny_mono h hQ fun _ _ x=>x
section
variable {X:Cx}
theorem bin {a b:Expr}{ta tb:TE} (ha:PE X a ta) (hb:PE X b tb) {pins:List (Addr × Obj)}{s:Shared}{σ:St}{H:Hp}{R:V→V→Hp→Prop} (I:Inv X pins σ H s) (h:ta σ H fun x H1=>tb σ H1 fun y H2=>R x y H2)
    {α:Type}{Q:α→Shared→Prop}{f:Value→Value→Sem α}
    (hf:∀ v u s2 x y H2,Inv X pins σ H2 s2→RelV x v→RelV y u→R x y H2→wpAny (model X.prog X.w) X.A (f v u) Q X.xe s2) :
    wpAny (model X.prog X.w) X.A (eval a X.env) (fun v s₁=>wpAny (model X.prog X.w) X.A (eval b X.env) (fun u s₂=>wpAny (model X.prog X.w) X.A (f v u) Q X.xe s₂) X.xe s₁) X.xe s:=by
  refine thn (ha pins s σ H _ I h) fun v s1 ⟨x,H1,I1,r1,q1⟩=>?_
  refine thn (hb pins s1 σ H1 _ I1 q1) fun u s2 ⟨y,H2,I2,r2,q2⟩=>?_
  exact hf v u s2 x y H2 I2 r1 r2 q2
def tVar (i:Nat):TE:=fun σ H Q=>∃ v,σ[i]? = some (some v)∧Q v H
def tC (v:V):TE:=fun _ H Q=>Q v H
theorem Znm {i:Nat}{x:Str}{pos:Pos} (hN:X.N[i]? = some x) (hv:Vis X.env.scope x) (hd:(x == ("__debug__" : Str))=false:=by decide) (hcd:(x == ("__classdict__" : Str))=false:=by decide):PE X (.Name x pos) (tVar i):=by
  intro pins s σ H Q I h
  obtain ⟨v,e,h⟩:=h
  obtain ⟨m,hn,hl⟩:=I.loc
  obtain ⟨u,r,l⟩:=hl i x v hN e hv
  have fin:EP X pins σ Q u s:=⟨v,H,I,r,h⟩
  rcases l with ⟨hk,hm⟩ | ⟨hk,c,hc,hcell⟩
  · exact wpAny_Name (wpAny_loadName_local I.ok.kind hk hn hm fin) hd
  · rcases hk with hk | hk
    · exact wpAny_Name (wpAny_loadName_cell I.ok.kind hk hc hcell fin) hd
    · exact wpAny_Name (wpAny_loadName_free I.ok.kind hk hc hcell fin hcd) hd
theorem Zae {i j pos}:PE X (.Constant (.int i) j pos) (tC (.int i)):=fun _ _ _ H _ I h=>wpAny_Constant_int ⟨.int i,H,I.tok _,⟨_,rfl⟩,h⟩
theorem Zce {b j pos}:PE X (.Constant (.bool b) j pos) (tC (.bl b)):=fun _ _ _ H _ I h=>Constant_bool ⟨.bl b,H,I,rfl,h⟩
theorem Zcd {j pos}:PE X (.Constant .none j pos) (tC .non):=fun _ _ _ H _ I h=>Constant_none ⟨.non,H,I,rfl,h⟩
theorem Zbh {x j pos}:PE X (.Constant (.str x) j pos) (tC (.str x)):=fun _ _ _ H _ I h=>Calls.Constant_str ⟨.str x,H,I.tok _,⟨_,rfl⟩,h⟩
def Gl (X:Cx) (x:Str):Prop:=X.env.kindOf x=some .globalImplicit
theorem ZcM {E:Value→Shared→Prop}{pins:List (Addr × Obj)}{s:Shared}{σ:St}{H:Hp}{x:Str}{u:Value}{pos:Pos}{Q:Value→Shared→Prop} (I:Inv X pins σ H s) (hg:Gl X x) (hm:X.mg x=some u) (h:Q u s)
    (hd:(x == ("__debug__" : Str))=false:=by decide):wpAny (model X.prog X.w) X.A (eval (.Name x pos) X.env) Q E s :=
  Calls.Name_function_global I.ok.kind hg (Calls.loadGlobal_global (by rw [I.ok.glob];exact I.mod.glob.keeps I.bk) hm h) hd
theorem Zc5 {E:Value→Shared→Prop}{pins:List (Addr × Obj)}{s:Shared}{σ:St}{H:Hp}{x:Str}{u:Value}{pos:Pos}{Q:Value→Shared→Prop} (I:Inv X pins σ H s) (hg:Gl X x) (hm:X.mg x=none) (hv:bootBuiltins x=some u) (h:Q u s)
    (hn:x ≠ "__name__" := by decide) (hd:(x == ("__debug__" : Str))=false:=by decide):wpAny (model X.prog X.w) X.A (eval (.Name x pos) X.env) Q E s:=by
  obtain ⟨mb,h1,h2⟩:=I.mod.blt
  exact Calls.Name_function_global I.ok.kind hg (Calls.loadGlobal_builtin (by rw [I.ok.glob];exact I.mod.glob.keeps I.bk) hm (by rw [I.ok.blt];exact h1.keeps I.bk) ((h2 x hn).trans hv) h) hd
theorem Zbc {x:Str}{v:V}{u:Value}{pos:Pos} (hg:Gl X x) (hm:X.mg x=some u) (r:RelV v u) (hd:(x == ("__debug__" : Str))=false:=by decide):PE X (.Name x pos) (tC v) :=
  fun _ _ _ H _ I h=>ZcM I hg hm ⟨v,H,I,r,h⟩ hd
theorem Zmo {x:Str}{v:V}{u:Value}{pos:Pos} (hg:Gl X x) (hm:X.mg x=none) (hv:bootBuiltins x=some u) (r:RelV v u) (hn:x ≠ "__name__" := by decide) (hd:(x == ("__debug__" : Str))=false:=by decide):PE X (.Name x pos) (tC v) :=
  fun _ _ _ H _ I h=>Zc5 I hg hm hv ⟨v,H,I,r,h⟩ hn hd
variable {a b:Expr}{ta tb:TE}{pos:Pos}
def tB (t:TE):TT:=fun σ H Q=>t σ H fun x H1=>∃ c,x=.bl c∧Q c H1
theorem Za3 {e:Expr}{t:TE} (h:PE X e t) (he:∀ whole,isTrue e X.env whole=(do let v ← whole;standAt e.pos;holding [v] (truthy v)):=by intro _;rfl):PT X e (tB t):=by
  intro pins s σ H Q I hw
  refine isTrue_plain (thn (h pins s σ H _ I hw) fun v s1 ⟨x,H1,I1,r1,q1⟩=>?_) (he _)
  obtain ⟨d,rfl,q⟩:=q1
  cases r1
  exact wpAny_truthy_bool ⟨H1,I1,q⟩
variable {tA tB':TT}{rest:List Expr}
def tAnd (t u:TT):TT:=fun σ H Q=>t σ H fun c H1=>if c=true then u σ H1 Q else Q false H1
def tOr (t u:TT):TT:=fun σ H Q=>t σ H fun c H1=>if c=true then Q true H1 else u σ H1 Q
def tNot (t:TT):TT:=fun σ H Q=>t σ H fun c H1=>Q (!c) H1
theorem Zmf (ha:PT X a tA):PW X (.BoolOp .And [a] pos) tA:=by
  intro wh pins s σ H Q I h
  refine isTrue_and (thn (ha pins s σ H Q I h) fun c s1 e=>?_)
  cases c with
  | true=>exact isTrue_and_nil e
  | false=>exact e
theorem Zb1 (ha:PT X a tA):PW X (.BoolOp .Or [a] pos) tA:=by
  intro wh pins s σ H Q I h
  refine isTrue_or (thn (ha pins s σ H Q I h) fun c s1 e=>?_)
  cases c with
  | false=>exact isTrue_or_nil e
  | true=>exact e
theorem Znk (ha:PT X a tA) (hb:PW X (.BoolOp .And (b :: rest) pos) tB'):PW X (.BoolOp .And (a :: b :: rest) pos) (tAnd tA tB'):=by
  intro wh pins s σ H Q I h
  refine isTrue_and (thn (ha pins s σ H _ I h) fun c s1 ⟨H1,I1,q1⟩=>?_)
  cases c with
  | true=>exact hb wh pins s1 σ H1 Q I1 q1
  | false=>exact ⟨H1,I1,q1⟩
theorem ZcF (ha:PT X a tA) (hb:PW X (.BoolOp .Or (b :: rest) pos) tB'):PW X (.BoolOp .Or (a :: b :: rest) pos) (tOr tA tB'):=by
  intro wh pins s σ H Q I h
  refine isTrue_or (thn (ha pins s σ H _ I h) fun c s1 ⟨H1,I1,q1⟩=>?_)
  cases c with
  | true=>exact ⟨H1,I1,q1⟩
  | false=>exact hb wh pins s1 σ H1 Q I1 q1
theorem Za0 (ha:PT X a tA):PT X (.UnaryOp .Not a pos) (tNot tA):=by
  intro pins s σ H Q I h
  exact isTrue_not (ha pins s σ H (fun c H1=>Q (!c) H1) I h)
def ZnZ (ta tb:TE):TE:=fun σ H Q=>ta σ H fun x H1=>∃ c,x=.bl c∧if c=true then tb σ H1 Q else Q (.bl false) H1
def ZnW (ta:TE):TE:=fun σ H Q=>ta σ H fun x H1=>∃ c,x=.bl c∧Q (.bl (!c)) H1
theorem Zcj {op}{t:TE} (h:PE X a t):PE X (.BoolOp op [a] pos) t:=fun pins s σ H Q I hw=>BoolOp_one (h pins s σ H Q I hw)
theorem Zb2 (ha:PE X a ta) (hb:PE X (.BoolOp .And (b :: rest) pos) tb):PE X (.BoolOp .And (a :: b :: rest) pos) (ZnZ ta tb):=by
  intro pins s σ H Q I h
  refine BoolOp_and (thn (ha pins s σ H _ I h) fun v s1 ⟨x,H1,I1,r1,q1⟩=>?_)
  obtain ⟨c,rfl,q1⟩:=q1
  cases r1
  refine wpAny_truthy_bool ?_
  cases c with
  | true=>exact hb pins s1 σ H1 Q I1 q1
  | false=>exact ⟨.bl false,H1,I1,rfl,q1⟩
theorem ZlE (ha:PE X a ta):PE X (.UnaryOp .Not a pos) (ZnW ta):=by
  intro pins s σ H Q I h
  refine UnaryOp_ (thn (ha pins s σ H _ I h) fun v s1 ⟨x,H1,I1,r1,q1⟩=>?_)
  obtain ⟨c,rfl,q1⟩:=q1
  cases r1
  exact not_of (wpAny_truthy_bool ⟨.bl (!c),H1,I1,rfl,q1⟩)
end
def SqL (K:PySem.W.Frag) (H:Hp) (a:Addr) (xs:List V):Prop :=
  Rd H a (.lst xs) ∨
    ∃ (o:Obj) (its:Array Value) (n:Nat),K.lookup a=some o∧o.cls=.type "list" ∧ o.dict=none∧o.data=.seq its n∧its.size≤sizeLine∧Vals xs its.toList
def SqT (K:PySem.W.Frag) (H:Hp) (a:Addr) (xs:List V):Prop :=
  Rd H a (.tup xs) ∨
    ∃ (o:Obj) (its:Array Value) (n:Nat),K.lookup a=some o∧o.cls=.type "tuple" ∧ o.data=.seq its n∧its.size≤sizeLine∧Vals xs its.toList
def absV:Value→Option V
  | .none=>some .non
  | .bool b=>some (.bl b)
  | .int i _=>some (.int i)
  | .str x _=>some (.str x)
  | .bytes b _=>some (.byt b)
  | .float b _=>some (.flt b)
  | .ref a=>some (.ref a)
  | .type n=>some (.ty n)
  | _=>none
theorem RelV.abs {x:V}{u:Value} (r:RelV x u):absV u=some x:=by
  cases x with
  | non=>cases r;rfl
  | bl _=>cases r;rfl
  | int _=>obtain ⟨t,rfl⟩:=r;rfl
  | str _=>obtain ⟨t,rfl⟩:=r;rfl
  | byt _=>obtain ⟨t,rfl⟩:=r;rfl
  | flt _=>obtain ⟨t,rfl⟩:=r;rfl
  | ref _=>cases r;rfl
  | ty _=>cases r;rfl
theorem RelV.inj {x y:V}{u:Value} (r:RelV x u) (q:RelV y u):x=y:=Option.some.inj (r.abs.symm.trans q.abs)
theorem Vals.inj:∀ {xs ys:List V}{us:List Value},Vals xs us→Vals ys us→xs=ys
  | _,_,_,.nil,.nil=>rfl
  | _,_,_,.cons r t,.cons r' t'=>by rw [r.inj r',Vals.inj t t']
section
variable {X:Cx}{pins:List (Addr × Obj)}{σ:St}{H:Hp}{s:Shared}{a:Addr}{xs ys:List V}
theorem SqL.of {K:PySem.W.Frag} (h:H a=some (.lst xs)):SqL K H a xs:=.inl (.inl h)
theorem SqT.of {K:PySem.W.Frag} (h:H a=some (.tup xs)):SqT K H a xs:=.inl (.inl h)
theorem Inv.list (I:Inv X pins σ H s) (h:SqL X.K H a xs):∃ its:List Value,Vals xs its∧PlainL s.heap a its.toArray∧xs.length≤sizeLine:=by
  rcases h with h | ⟨o,its,n,hk,hc,hd,hs,hz,r⟩
  · obtain ⟨z,its,n,r,e⟩:=h.ok I.hok
    exact ⟨its,r,⟨_,n,e,rfl,rfl,rfl⟩,z⟩
  · refine ⟨its.toList,r,⟨o,n,I.kIn a o hk,hc,hd,by simpa using hs⟩,?_⟩
    have e:=r.length
    simp only [Array.length_toList] at e
    omega
theorem Inv.tuple (I:Inv X pins σ H s) (h:SqT X.K H a xs):∃ its:List Value,Vals xs its∧IsTup s.heap a its.toArray∧xs.length≤sizeLine:=by
  rcases h with h | ⟨o,its,n,hk,hc,hs,hz,r⟩
  · obtain ⟨z,its,r,p⟩:=h.ok I.hok
    exact ⟨its,r,p,z⟩
  · refine ⟨its.toList,r,⟨o,I.kIn a o hk,hc,n,by simpa using hs⟩,?_⟩
    have e:=r.length
    simp only [Array.length_toList] at e
    omega
theorem Inv.list_inj (I:Inv X pins σ H s) (h:SqL X.K H a xs) (h':SqL X.K H a ys):xs=ys:=by
  obtain ⟨its,r,⟨o,n,e,_,_,d⟩,_⟩:=I.list h
  obtain ⟨its',r',⟨o',n',e',_,_,d'⟩,_⟩:=I.list h'
  rw [e] at e';cases e'
  rw [d] at d'
  injection d' with d1 _
  have:its=its':=by simpa using congrArg Array.toList d1
  subst this
  exact r.inj r'
theorem Inv.tuple_inj (I:Inv X pins σ H s) (h:SqT X.K H a xs) (h':SqT X.K H a ys):xs=ys:=by
  obtain ⟨its,r,⟨o,e,_,n,d⟩,_⟩:=I.tuple h
  obtain ⟨its',r',⟨o',e',_,n',d'⟩,_⟩:=I.tuple h'
  rw [e] at e';cases e'
  rw [d] at d'
  injection d' with d1 _
  have:its=its':=by simpa using congrArg Array.toList d1
  subst this
  exact r.inj r'
end
abbrev Cx.wish (X:Cx) (E:Value→Shared→Prop):Cx:={ X with xe:=E }
abbrev Cx.nox (X:Cx):Cx:=X.wish fun _ _=>False
theorem Cx.Ok.wish {X:Cx} (ok:X.Ok) (E:Value→Shared→Prop):(X.wish E).Ok :=
  ⟨ok.mod,ok.kind,ok.glob,ok.blt,ok.above,ok.inj,ok.has,ok.cab,ok.hd,ok.frames,ok.stk,ok.exf,ok.bs,ok.bsz,ok.noex,ok.exfs,ok.funs,ok.frf⟩
theorem Cx.Ok.unwish {X:Cx}{E:Value→Shared→Prop} (ok:(X.wish E).Ok):X.Ok :=
  ⟨ok.mod,ok.kind,ok.glob,ok.blt,ok.above,ok.inj,ok.has,ok.cab,ok.hd,ok.frames,ok.stk,ok.exf,ok.bs,ok.bsz,ok.noex,ok.exfs,ok.funs,ok.frf⟩
section
variable {X:Cx}{pins:List (Addr × Obj)}{σ:St}{H:Hp}{s:Shared}{E:Value→Shared→Prop}
theorem Inv.wish (I:Inv X pins σ H s) (E:Value→Shared→Prop):Inv (X.wish E) pins σ H s:=⟨I.ok.wish E,I.os,I.bare,I.base,I.loc,I.cell,I.free,I.freeC,I.pin,I.hok,I.len⟩
theorem Inv.unwish (I:Inv (X.wish E) pins σ H s):Inv X pins σ H s:=⟨I.ok.unwish,I.os,I.bare,I.base,I.loc,I.cell,I.free,I.freeC,I.pin,I.hok,I.len⟩
theorem SP.unwish {D:Ends}{f:Flow}{s':Shared} (h:SP (X.wish E) pins D f s'):SP X pins D f s':=by
  cases f with
  | next=>obtain ⟨σ',H',I,q⟩:=h;exact ⟨σ',H',I.unwish,q⟩
  | brk=>obtain ⟨σ',H',I,q⟩:=h;exact ⟨σ',H',I.unwish,q⟩
  | cont=>obtain ⟨σ',H',I,q⟩:=h;exact ⟨σ',H',I.unwish,q⟩
  | ret u=>obtain ⟨v,σ',H',I,r,q⟩:=h;exact ⟨v,σ',H',I.unwish,r,q⟩
theorem PSs.nox {st:List Stmt}{t:TS} (h:PSs X.nox st t):PSs X st t:=fun pins s σ H D I hw =>
  wpAny_mono (h pins s σ H D (I.wish _) hw) (fun _ _ q=>q.unwish) fun _ _ z=>False.elim z
end
section
variable {X:Cx}{st:Stmt}{rest:List Stmt}{t u:TS}{e:Expr}{te:TE}{pos:Pos}
def Zdx:TS:=fun D σ H=>D.nx σ H
def tSeq (t u:TS):TS:=fun D σ H=>t { D with nx:=u D } σ H
theorem Zaq:PSs X [] Zdx:=fun _ _ σ H _ I h=>wpAny_execs_nil ⟨σ,H,I,h⟩
theorem Zac (h1:PS X st t) (h2:PSs X rest u):PSs X (st :: rest) (tSeq t u):=by
  intro pins s σ H D I h
  refine wpAny_execs_cons (thn (h1 pins s σ H { D with nx:=u D } I h) fun f s1 q=>?_)
  cases f with
  | next =>
    obtain ⟨σ',H',I',q⟩:=q
    exact h2 pins s1 σ' H' D I' q
  | ret v=>exact q
  | brk=>exact q
  | cont=>exact q
theorem Zaf (h1:PS X st t):PSs X [st] t:=by
  intro pins s σ H D I h
  refine wpAny_execs_cons (thn (h1 pins s σ H D I h) fun f s1 q=>?_)
  cases f with
  | next=>exact wpAny_execs_nil q
  | ret v=>exact q
  | brk=>exact q
  | cont=>exact q
theorem Inv.quiet {pins:List (Addr × Obj)}{σ:St}{H:Hp}{s:Shared} (I:Inv X pins σ H s):interactive X.env=false:=by simp [interactive,I.ok.kind]
def ZnY (te:TE):TS:=fun D σ H=>te σ H fun _ H1=>D.nx σ H1
theorem Zau (he:PE X e te) (hs:swapsWith e none pos.line X.env=pure false:=by rfl):PS X (.Expr e pos) (ZnY te):=by
  intro pins s σ H D I h
  exact wpAny_Expr_any (thn (he pins s σ H _ I h) fun v s1 ⟨x,H1,I1,r1,q1⟩=>⟨σ,H1,I1,q1⟩) I.quiet hs
def tRet (te:TE):TS:=fun D σ H=>te σ H D.rt
theorem Zan (he:PE X e te):PS X (.Return (some e) pos) (tRet te):=by
  intro pins s σ H D I h
  exact wpAny_Return_some (thn (he pins s σ H _ I h) fun v s1 ⟨x,H1,I1,r1,q1⟩=>⟨x,σ,H1,I1,r1,q1⟩)
def tIfS (c:TT) (t u:TS):TS:=fun D σ H=>c σ H fun b H1=>if b=true then t D σ H1 else u D σ H1
theorem ZaO {c:Expr}{a b:List Stmt}{tc:TT} (hc:PT X c tc) (ha:PSs X a t) (hb:PSs X b u):PS X (.If c a b pos) (tIfS tc t u):=by
  intro pins s σ H D I h
  refine wpAny_If (thn (hc pins s σ H _ I h) fun d s1 ⟨H1,I1,q1⟩=>?_)
  cases d with
  | true=>exact ha pins s1 σ H1 D I1 q1
  | false=>exact hb pins s1 σ H1 D I1 q1
def Znd:TS:=fun _ _ _=>False
theorem ZaT {sts:List Stmt}:PSs X sts Znd:=fun _ _ _ _ _ _ h=>h.elim
end
abbrev TG:=V→St→Hp→(St→Hp→Prop)→Prop
abbrev TGs:=List V→St→Hp→(St→Hp→Prop)→Prop
def PG (X:Cx) (target:Expr) (t:TG):Prop :=
  ∀ (pins:List (Addr × Obj)) (s:Shared) (σ:St) (H:Hp) (v:V) (u:Value) (Q:St→Hp→Prop),Inv X pins σ H s→RelV v u→t v σ H Q →
    wpAny (model X.prog X.w) X.A (assign target X.env u) (fun _ s'=>∃ σ' H',Inv X pins σ' H' s'∧Q σ' H') X.xe s
def PGs (X:Cx) (ts:List Expr) (t:TGs):Prop :=
  ∀ (pins:List (Addr × Obj)) (s:Shared) (σ:St) (H:Hp) (vs:List V) (us:List Value) (Q:St→Hp→Prop),Inv X pins σ H s→Vals vs us→t vs σ H Q →
    wpAny (model X.prog X.w) X.A (assignInOrder ((assignEach ts X.env).map (·.2)) us) (fun _ s'=>∃ σ' H',Inv X pins σ' H' s'∧Q σ' H') X.xe s
abbrev TSet:=V→V→V→Hp→(Hp→Prop)→Prop
def PSet (X:Cx) (t:TSet):Prop :=
  ∀ (pins:List (Addr × Obj)) (s:Shared) (σ:St) (H:Hp) (o i v:V) (ov iv u:Value) (Q:Hp→Prop),Inv X pins σ H s→RelV o ov→RelV i iv→RelV v u→t o i v H Q →
    wpAny (model X.prog X.w) X.A (setItem ov iv u) (fun _ s'=>∃ H',Inv X pins σ H' s'∧Q H') X.xe s
section
variable {X:Cx}{pos:Pos}
def ZaP (i:Nat):TG:=fun v σ H Q=>Q (σ.set i (some v)) H
theorem ZaM {i:Nat}{x:Str} (hN:X.N.Nodup) (hi:X.N[i]? = some x) (hx:Loc X.env.scope x) (hf:X.fn x=true∨X.env.scope.names.lookup x=some .local:=by first | exact .inl rfl | exact .inr rfl | assumption):PG X (.Name x pos) (ZaP i):=by
  intro pins s σ H v u Q I r h
  exact wpAny_assign_Name (Ze0 I hN hi hx r (fun s' I'=>⟨_,H,I',h⟩) hf)
def gNil:TGs:=fun vs σ H Q=>vs=[]∧Q σ H
def Zeg (t:TG) (u:TGs):TGs:=fun vs σ H Q=>∃ v r,vs=v :: r∧t v σ H fun σ' H'=>u r σ' H' Q
theorem ZcL:PGs X [] gNil:=by
  intro pins s σ H vs us Q I r h
  obtain ⟨e,h⟩:=h
  subst e
  cases r
  exact assignInOrder_nil ⟨σ,H,I,h⟩
theorem ZaY {e:Expr}{es:List Expr}{t:TG}{u:TGs} (h1:PG X e t) (h2:PGs X es u)
    (hs:(assignEach (e :: es) X.env).map (·.2)=assign e X.env :: (assignEach es X.env).map (·.2):=by rfl):PGs X (e :: es) (Zeg t u):=by
  intro pins s σ H vs us Q I r h
  obtain ⟨v,vr,e1,h⟩:=h
  subst e1
  cases r with
  | cons r rr =>
    rw [hs]
    refine assignInOrder_cons (thn (h1 pins s σ H _ _ _ I r h) fun _ s1 ⟨σ1,H1,I1,q1⟩=>?_)
    exact h2 pins s1 σ1 H1 _ _ Q I1 rr q1
def gTup (K:PySem.W.Frag) (n:Nat) (t:TGs):TG:=fun v σ H Q=>∃ a xs,v=.ref a∧SqT K H a xs∧xs.length=n∧t xs σ H Q
theorem Zd8 {es:List Expr}{k:Nat}{t:TGs}{n:Nat} (hc:X.calm=true) (h:PGs X es t)
    (hn:(assignEach es X.env).length=n:=by rfl) (hst:(assignEach es X.env).findIdx? (·.1)=none:=by rfl):PG X (.Tuple es k pos) (gTup X.K n t):=by
  intro pins s σ H v u Q I r hw
  obtain ⟨a,xs,e1,hq,hl,hw⟩:=hw
  subst e1
  cases r
  obtain ⟨its,rv,ht,hz⟩:=I.tuple hq
  refine assign_Tuple_tuple (I.ok.hd hc) ht (by simp [hn,← hl,rv.length]) hst fun h' hx=>?_
  have I1:Inv X pins σ H { s with heap:=h' }:=I.kept (t':=s.toks) fun b o e=>hx b o (Nat.ne_of_lt (Heap.lt_size e)) e
  exact h pins _ σ H xs _ Q I1 (by simpa using rv) hw
def gSub (to ti:TE) (t:TSet):TG:=fun v σ H Q=>to σ H fun o H1=>ti σ H1 fun i H2=>t o i v H2 fun H3=>Q σ H3
theorem ZfX {o i:Expr}{to ti:TE}{t:TSet} (ho:PE X o to) (hi:PE X i ti) (hs:PSet X t)
    (ha:∀ v,assign (.Subscript o i pos) X.env v=(do
      let ov ← holding [v] (eval o X.env)
      let iv ← holding [v,ov] (eval i X.env)
      standAt pos
      holding [v,ov,iv] (setItem ov iv v)
      release [v,ov,iv] []):=by intro _;rfl):PG X (.Subscript o i pos) (gSub to ti t):=by
  intro pins s σ H v u Q I r h
  rw [ha]
  refine wpAny_bind (wpAny_holding (thn (ho pins s σ H _ I h) fun ov s1 ⟨x,H1,I1,r1,q1⟩=>?_))
  refine wpAny_bind (wpAny_holding (thn (hi pins s1 σ H1 _ I1 q1) fun iv s2 ⟨y,H2,I2,r2,q2⟩=>?_))
  refine wpAny_bind (wpAny_standAt (wpAny_bind (wpAny_holding (thn (hs pins s2 σ H2 x y v ov iv u _ I2 r1 r2 r q2) fun _ s3 ⟨H3,I3,q3⟩=>?_))))
  exact wpAny_release ⟨σ,H3,I3,q3⟩
def tAsg (te:TE) (g:TG):TS:=fun D σ H=>te σ H fun x H1=>g x σ H1 D.nx
theorem Zdr {tg e:Expr}{te:TE}{g:TG} (he:PE X e te) (hg:PG X tg g) (hs:swapsWithSole [tg] e pos.line X.env=pure false:=by rfl) (hw:swappedStores [tg] e X.env=pure none:=by rfl)
    (h1:(assignEach [tg] X.env).map (·.2)=[assign tg X.env]:=by rfl):PS X (.Assign [tg] e pos) (tAsg te g):=by
  intro pins s σ H D I h
  refine wpAny_Assign_stores (thn (he pins s σ H _ I h) fun v s1 ⟨x,H1,I1,r1,q1⟩=>?_) hs hw
  rw [h1]
  exact thn (hg pins s1 σ H1 x v _ I1 r1 q1) fun _ s2 q=>q
theorem Zaj {i:Nat}{x:Str}{e:Expr}{te:TE}{pos':Pos} (hN:X.N.Nodup) (hi:X.N[i]? = some x) (hx:Loc X.env.scope x) (he:PE X e te) (hs:swapsWith e (some (.Name x pos')) pos.line X.env=pure false:=by rfl) (hf:X.fn x=true∨X.env.scope.names.lookup x=some .local:=by first | exact .inl rfl | exact .inr rfl | assumption) :
    PS X (.Assign [.Name x pos'] e pos) (tAsg te (ZaP i)):=by
  intro pins s σ H D I h
  refine wpAny_Assign_Name (thn (he pins s σ H _ I h) fun v s1 ⟨y,H1,I1,r1,q1⟩=>?_) hs
  exact Ze0 I1 hN hi hx r1 (fun s2 I2=>⟨_,H1,I2,q1⟩) hf
end
structure It where
  go:Nat→Hp→Prop
  yld:Nat→Hp→V→Hp→Prop
  stop:Nat→Hp→Prop
def FpOk (X:Cx) (pins:List (Addr × Obj)) (H:Hp) (b:Addr):Prop :=
  H b=none∧b≠X.env.locals∧b∉X.fs∧(b∈X.ex∨X.s₀.heap.objs.size≤b)∧(∀ x c,X.env.cells.lookup x=some c→c≠b)∧∀ p∈X.pn ++ pins,p.1≠b
theorem Inv.fpOk {X:Cx}{pins:List (Addr × Obj)}{σ:St}{H H':Hp}{s:Shared}{b:Addr} (I:Inv X pins σ H s) (hb:s.heap.objs.size≤b) (hn:H' b=none):FpOk X pins H' b:=by
  refine ⟨hn,Nat.ne_of_gt (Nat.lt_of_lt_of_le I.lt hb),I.nofs hb,.inr (Nat.le_trans I.sz hb),fun x c e z=>?_,fun p hp z=>?_⟩
  · obtain ⟨v,q⟩:=I.cell x c e
    exact absurd (Nat.lt_of_lt_of_le q.lt (by rw [z];exact hb)) (Nat.lt_irrefl _)
  · exact absurd (Nat.lt_of_lt_of_le (Heap.lt_size (I.pin p hp).1) (by rw [z];exact hb)) (Nat.lt_irrefl _)
structure Turn (P:Program) (w:World) (K:PySem.W.Frag) (tg:Expr) (J:It) (fp:List Addr) (it:Addr) (tn:Nat→Heap→Prop):Prop where
  mem:it∈fp
  obj:∀ i h,tn i h→∀ b∈fp,∃ o,h.get? b=some o∧∀ v,o.data≠.cell v
  keep:∀ i h h',tn i h→(∀ b∈fp,∀ o,h.get? b=some o→h'.get? b=some o)→tn i h'
  item:∀ (X:Cx),X.prog=P→X.w=w→X.K=K→X.calm=true→∀ (i:Nat) (pins:List (Addr × Obj)) (s:Shared) (σ:St) (H:Hp) (E:Value→Shared→Prop),Inv X pins σ H s→(∀ b∈fp,FpOk X pins H b)→tn i s.heap→J.go i H →
    wpAny (model P w) X.A (pyNext (.ref it)) (fun r s1=>∃ u,r=some u ∧
      wpAny (model P w) X.A (letOwnedTupleGo tg (.ref it) u) (fun _ s2=>∃ x H',Inv X pins σ H' s2∧RelV x u∧J.yld i H x H'∧tn (i+1) s2.heap∧∀ b∈fp,H' b=none) E s1) E s
  done:∀ (X:Cx),X.prog=P→X.w=w→X.K=K→X.calm=true→∀ (i:Nat) (pins:List (Addr × Obj)) (s:Shared) (σ:St) (H:Hp) (E:Value→Shared→Prop),Inv X pins σ H s→(∀ b∈fp,FpOk X pins H b)→tn i s.heap→J.stop i H →
    wpAny (model P w) X.A (pyNext (.ref it)) (fun r s1=>r=none∧Inv X pins σ H s1) E s
  self:∀ (A:Around) (i:Nat) (s:Shared) (Q:Value→Shared→Prop) (E:Value→Shared→Prop),tn i s.heap→Q (.ref it) s→wpAny (model P w) A (pyIter (.ref it)) Q E s
abbrev TI:=St→Hp→(It→Hp→Prop)→Prop
def PIE (X:Cx) (pins:List (Addr × Obj)) (σ:St) (tg:Expr) (R:It→Hp→Prop) (itv:Value) (s2:Shared):Prop :=
  ∃ (it:Addr) (fp:List Addr) (tn:Nat→Heap→Prop) (J:It) (H':Hp),itv=.ref it∧Inv X pins σ H' s2∧Turn X.prog X.w X.K tg J fp it tn∧tn 0 s2.heap∧(∀ b∈fp,FpOk X pins H' b)∧R J H'
def PI (X:Cx) (tg iter:Expr) (wi:TI):Prop :=
  ∀ (pins:List (Addr × Obj)) (s:Shared) (σ:St) (H:Hp) (R:It→Hp→Prop),Inv X pins σ H s→wi σ H R →
    wpAny (model X.prog X.w) X.A (eval iter X.env) (fun v s1=>wpAny (model X.prog X.w) X.A (pyIter v) (PIE X pins σ tg R) X.xe s1) X.xe s
theorem ZmM {M:Model}{A:Around}{E:Value→Shared→Prop}{s:Shared}{tg:Expr}{it:Addr}{u:Value}{o:Obj}{n:String}{vs:Array Value}{Q:Unit→Shared→Prop} (ho:s.heap.get? it=some o) (hc:o.cls=.type n) (hd:o.data=.fields vs)
    (hn:["enumerate","zip","dict_itemiterator","dict_reverseitemiterator","odict_iterator","itertools.zip_longest","itertools.pairwise"].contains n=false) (hQ:Q () s):wpAny M A (letOwnedTupleGo tg (.ref it) u) Q E s:=by
  unfold letOwnedTupleGo
  cases tg <;> first
    | exact wpAny_pure hQ
    | (cases u <;> first
        | exact wpAny_pure hQ
        | (refine wpAny_bind (wpAny_load ho ?_)
           rw [hc,hd]
           show wpAny M A (if (["enumerate","zip","dict_itemiterator","dict_reverseitemiterator","odict_iterator","itertools.zip_longest","itertools.pairwise"].contains n && vs[0]? == some (rawInt _))=true then _ else _) Q E s
           rw [if_neg (by intro h;rw [hn,Bool.false_and] at h;cases h)]
           exact wpAny_pure hQ))
def Itl (K:PySem.W.Frag) (a:Addr):It :=
  ⟨fun i H=>∃ xs x,SqL K H a xs∧xs[i]? = some x,fun i H x H'=>H'=H∧∀ xs,SqL K H a xs→xs[i]? = some x,fun i H=>∃ xs,SqL K H a xs∧xs.length≤i⟩
def Itt (K:PySem.W.Frag) (a:Addr):It :=
  ⟨fun i H=>∃ xs x,SqT K H a xs∧xs[i]? = some x,fun i H x H'=>H'=H∧∀ xs,SqT K H a xs→xs[i]? = some x,fun i H=>∃ xs,SqT K H a xs∧xs.length≤i⟩
def Itr (lo:Int) (n:Nat):It:=⟨fun i _=>i<n,fun i H x H'=>H'=H∧x=.int (lo+i),fun i _=>n≤i⟩
theorem Zil {P:Program}{w:World}{K:PySem.W.Frag}{tg:Expr} (a it:Addr):Turn P w K tg (Itl K a) [it] it (fun i h=>h.IsListIter it a i) where
  mem:=by simp
  obj:=fun i h st b hb=>by
    have e:b=it:=by simpa using hb
    subst e
    obtain ⟨o,e,c,d⟩:=st
    exact ⟨o,e,fun v z=>by rw [d] at z;cases z⟩
  keep:=fun i h h' st k=>st.at fun o e=>k it (by simp) o e
  item:=by
    intro X hP hw hK hc i pins s σ H E I hf st hg
    subst hP hw hK
    obtain ⟨xs,x,hq,hx⟩:=hg
    obtain ⟨its,rv,p,hz⟩:=I.list hq
    obtain ⟨u,hu,ru⟩:=rv.get hx
    obtain ⟨f0,f1,f2,f3,f4,f5⟩:=hf it (by simp)
    refine wpAny_pyNext_list_item st p.isList (x:=u) (by simpa using hu) fun h' st' sb=>?_
    have I1:Inv X pins σ H { s with heap:=h' }:=I.turned (t':=s.toks) (fun b o hb e=>(sb.2 b hb).trans e) f0 f1 f3 f4 f5
    obtain ⟨o,e,c,d⟩:=id st'
    exact ⟨u,rfl,ZmM (s:={ s with heap:=h' }) e c d (by decide) ⟨x,H,I1,ru,⟨rfl,fun ys hy=>by rw [I.list_inj hy hq];exact hx⟩,st',fun b hb=>(hf b hb).1⟩⟩
  done:=by
    intro X hP hw hK hc i pins s σ H E I hf st hg
    subst hP hw hK
    obtain ⟨xs,hq,hx⟩:=hg
    obtain ⟨its,rv,p,hz⟩:=I.list hq
    obtain ⟨f0,f1,f2,f3,f4,f5⟩:=hf it (by simp)
    have hl:=rv.length
    exact wpAny_pyNext_list_end (I.ok.hd hc) st p.isList (by simp;omega) fun h' eb=>⟨rfl,I.turned (t':=s.toks) (fun b o hb e=>eb b o hb e) f0 f1 f3 f4 f5⟩
  self:=fun _ _ _ _ _ st h=>wpAny_pyIter_listiter st h
theorem ZhR {P:Program}{w:World}{K:PySem.W.Frag}{tg:Expr} (a it:Addr):Turn P w K tg (Itt K a) [it] it (fun i h=>h.IsTupleIter it a i) where
  mem:=by simp
  obj:=fun i h st b hb=>by
    have e:b=it:=by simpa using hb
    subst e
    obtain ⟨o,e,c,d⟩:=st
    exact ⟨o,e,fun v z=>by rw [d] at z;cases z⟩
  keep:=fun i h h' st k=>st.at fun o e=>k it (by simp) o e
  item:=by
    intro X hP hw hK hc i pins s σ H E I hf st hg
    subst hP hw hK
    obtain ⟨xs,x,hq,hx⟩:=hg
    obtain ⟨its,rv,p,hz⟩:=I.tuple hq
    obtain ⟨u,hu,ru⟩:=rv.get hx
    obtain ⟨f0,f1,f2,f3,f4,f5⟩:=hf it (by simp)
    refine wpAny_pyNext_tuple_item st (show s.heap.IsTuple a its.toArray from p) (x:=u) (by simpa using hu) fun h' st' sb=>?_
    have I1:Inv X pins σ H { s with heap:=h' }:=I.turned (t':=s.toks) (fun b o hb e=>(sb.2 b hb).trans e) f0 f1 f3 f4 f5
    obtain ⟨o,e,c,d⟩:=id st'
    exact ⟨u,rfl,ZmM (s:={ s with heap:=h' }) e c d (by decide) ⟨x,H,I1,ru,⟨rfl,fun ys hy=>by rw [I.tuple_inj hy hq];exact hx⟩,st',fun b hb=>(hf b hb).1⟩⟩
  done:=by
    intro X hP hw hK hc i pins s σ H E I hf st hg
    subst hP hw hK
    obtain ⟨xs,hq,hx⟩:=hg
    obtain ⟨its,rv,p,hz⟩:=I.tuple hq
    obtain ⟨f0,f1,f2,f3,f4,f5⟩:=hf it (by simp)
    have hl:=rv.length
    exact wpAny_pyNext_tuple_end (I.ok.hd hc) st (show s.heap.IsTuple a its.toArray from p) (by simp;omega) fun h' eb=>⟨rfl,I.turned (t':=s.toks) (fun b o hb e=>eb b o hb e) f0 f1 f3 f4 f5⟩
  self:=fun _ _ _ _ _ st h=>wpAny_pyIter_tupleiter st h
theorem ZhS {P:Program}{w:World}{K:PySem.W.Frag}{tg:Expr} (it:Addr) (lo:Int) (n:Nat):Turn P w K tg (Itr lo n) [it] it (fun i h=>IsRangeIter h it (lo+(i:Nat) * 1) ((n:Int) - (i:Nat)) 1) where
  mem:=by simp
  obj:=fun i h st b hb=>by
    have e:b=it:=by simpa using hb
    subst e
    exact ⟨_,st,fun v z=>by
      have z':Data.fields _=Data.cell v:=z
      cases z'⟩
  keep:=fun i h h' st k=>k it (by simp) _ st
  item:=by
    intro X hP hw hK hc i pins s σ H E I hf st hg
    subst hP hw hK
    obtain ⟨f0,f1,f2,f3,f4,f5⟩:=hf it (by simp)
    have W:=Walks.range (prog:=X.prog) (w:=X.w) (I.ok.hd hc) it lo 1 n
    refine W.item i s _ _ hg st fun v h' tk hv st' kk=>?_
    obtain ⟨t,rfl⟩:=hv
    have I1:Inv X pins σ H { s with heap:=h',toks:=tk }:=I.turned (fun b o hb e=>kk b o (by simpa using hb) e) f0 f1 f3 f4 f5
    refine ⟨_,rfl,ZmM (s:={ s with heap:=h',toks:=tk }) (n := "range_iterator") st' rfl rfl (by decide) ⟨.int (lo+i),H,I1,⟨t,?_⟩,⟨rfl,rfl⟩,st',fun b hb=>(hf b hb).1⟩⟩
    rw [Int.mul_one]
  done:=by
    intro X hP hw hK hc i pins s σ H E I hf st hg
    subst hP hw hK
    obtain ⟨f0,f1,f2,f3,f4,f5⟩:=hf it (by simp)
    exact wpAny_pyNext_range_end (I.ok.hd hc) st (by have:n≤i:=hg;omega) fun h' eb=>⟨rfl,I.turned (t':=s.toks) (fun b o hb e=>eb b o hb e) f0 f1 f3 f4 f5⟩
  self:=fun _ _ _ _ _ st h=>wpAny_pyIter_rangeiter st h
section
variable {X:Cx}{tg:Expr}
def Zol (K:PySem.W.Frag) (tl:TE):TI:=fun σ H R=>tl σ H fun x H1=>∃ a,x=.ref a∧(∃ xs,SqL K H1 a xs)∧R (Itl K a) H1
def iTup (K:PySem.W.Frag) (tl:TE):TI:=fun σ H R=>tl σ H fun x H1=>∃ a,x=.ref a∧(∃ xs,SqT K H1 a xs)∧R (Itt K a) H1
theorem Zba {l:Expr}{tl:TE} (hl:PE X l tl):PI X tg l (Zol X.K tl):=by
  intro pins s σ H R I h
  refine thn (hl pins s σ H _ I h) fun v s1 ⟨x,H1,I1,r1,q1⟩=>?_
  obtain ⟨a,e,⟨xs,hq⟩,q⟩:=q1
  subst e
  cases r1
  obtain ⟨its,rv,p,hz⟩:=I1.list hq
  refine wpAny_pyIter_list p.isList ?_
  refine ⟨s1.heap.objs.size,[s1.heap.objs.size],_,_,H1,rfl,I1.kept (t':=s1.toks) fun b o e=>Heap.get?_push_of_some _ e,Zil a _,⟨_,Heap.get?_push_size _ rfl,rfl,rfl⟩,fun b hb=>?_,q⟩
  have e:b=s1.heap.objs.size:=by simpa using hb
  subst e
  exact I1.fpOk (Nat.le_refl _) (I1.hok.fresh (Nat.le_refl _))
theorem Zhp {l:Expr}{tl:TE} (hl:PE X l tl):PI X tg l (iTup X.K tl):=by
  intro pins s σ H R I h
  refine thn (hl pins s σ H _ I h) fun v s1 ⟨x,H1,I1,r1,q1⟩=>?_
  obtain ⟨a,e,⟨xs,hq⟩,q⟩:=q1
  subst e
  cases r1
  obtain ⟨its,rv,p,hz⟩:=I1.tuple hq
  refine wpAny_pyIter_tuple (show s1.heap.IsTuple a its.toArray from p) ?_
  refine ⟨s1.heap.objs.size,[s1.heap.objs.size],_,_,H1,rfl,I1.kept (t':=s1.toks) fun b o e=>Heap.get?_push_of_some _ e,ZhR a _,⟨_,Heap.get?_push_size _ rfl,rfl,rfl⟩,fun b hb=>?_,q⟩
  have e:b=s1.heap.objs.size:=by simpa using hb
  subst e
  exact I1.fpOk (Nat.le_refl _) (I1.hok.fresh (Nat.le_refl _))
theorem Zhn {pins:List (Addr × Obj)}{σ:St}{H:Hp}{s:Shared}{R:It→Hp→Prop}{E:Value→Shared→Prop}{lo hi:Int}{t u v:Tok}{tk:Nat} (I:Inv X pins σ H s) (h1:-(2 ^ 62)≤lo) (h2:lo<2 ^ 62) (h3:-(2 ^ 62)≤hi) (h4:hi<2 ^ 62)
    (q:R (Itr lo (hi - lo).toNat) H):wpAny (model X.prog X.w) X.A (pyIter (.ref s.heap.objs.size)) (PIE X pins σ tg R) E { s with heap:=s.heap.push { cls:=.type "range",data:=.fields #[.int lo t,.int hi u,.int 1 v] },toks:=tk }:=by
  refine wpAny_pyIter_range (IsRange.new ..) (small_one h1 h2 h3 h4) ?_
  have I1:Inv X pins σ H { s with heap:=s.heap.push { cls:=.type "range",data:=.fields #[.int lo t,.int hi u,.int 1 v] },toks:=tk }:=I.kept fun b o e=>Heap.get?_push_of_some _ e
  refine ⟨(s.heap.push { cls:=.type "range",data:=.fields #[.int lo t,.int hi u,.int 1 v] }).objs.size,[(s.heap.push { cls:=.type "range",data:=.fields #[.int lo t,.int hi u,.int 1 v] }).objs.size],_,_,H,rfl,
    I1.kept (t':=tk) fun b o e=>Heap.get?_push_of_some _ e,ZhS _ lo (hi - lo).toNat,?_,fun b hb=>?_,q⟩
  · have e1:lo+((0:Nat):Int) * 1=lo:=by simp
    have e2:(((hi - lo).toNat:Nat):Int) - ((0:Nat):Int)=Builtin.Range.rangeSize lo hi 1:=by rw [rangeSize_one];split <;> omega
    show IsRangeIter _ _ (lo+((0:Nat):Int) * 1) ((((hi - lo).toNat:Nat):Int) - ((0:Nat):Int)) 1
    rw [e1,e2]
    exact Heap.get?_push_size _ rfl
  · have e:b=(s.heap.push { cls:=.type "range",data:=.fields #[.int lo t,.int hi u,.int 1 v] }).objs.size:=by simpa using hb
    subst e
    exact I1.fpOk (Nat.le_refl _) (I1.hok.fresh (Nat.le_refl _))
def Zok (ta:TA):TI:=fun σ H R=>ta σ H fun vs H1=>∃ j:Int,vs=[.int j]∧-(2 ^ 62)≤j∧j<2 ^ 62∧R (Itr 0 j.toNat) H1
def Zoj (ta:TA):TI:=fun σ H R=>ta σ H fun vs H1=>∃ i j:Int,vs=[.int i,.int j]∧(-(2 ^ 62)≤i∧i<2 ^ 62∧-(2 ^ 62)≤j∧j<2 ^ 62)∧R (Itr i (j - i).toNat) H1
theorem Zbk {a:Expr}{ta:TA}{p pos:Pos} (hg:Gl X "range") (hm:X.mg "range" = none) (ha:PA X [a] ta) (hs:starEach [a] X.env=[(false,eval a X.env)]:=by rfl):PI X tg (.Call (.Name "range" p) [a] [] pos) (Zok ta):=by
  intro pins s σ H R I h
  refine Call_ (Zc5 I hg hm boot_range (PyProof.Rows.callWith_type1 (thn (ha pos pins s σ H _ I h) fun us s1 ⟨vs,H1,I1,r1,q1⟩=>?_) hs rfl))
  obtain ⟨j,e,q1,q2,q⟩:=q1
  subst e
  cases r1 with
  | cons r rr =>
    cases rr
    obtain ⟨t,rfl⟩:=r
    exact call_range_1 (Zhn I1 (by omega) (by omega) q1 q2 (by simpa using q))
theorem ZfW {a b:Expr}{ta:TA}{p pos:Pos} (hg:Gl X "range") (hm:X.mg "range" = none) (ha:PA X [a,b] ta) (hs:starEach [a,b] X.env=[(false,eval a X.env),(false,eval b X.env)]:=by rfl) (hs2:starEach [b] X.env=[(false,eval b X.env)]:=by rfl) :
    PI X tg (.Call (.Name "range" p) [a,b] [] pos) (Zoj ta):=by
  intro pins s σ H R I h
  refine Call_ (Zc5 I hg hm boot_range (PyProof.Rows.callWith_type1 (thn (ha pos pins s σ H _ I h) fun us s1 ⟨vs,H1,I1,r1,q1⟩=>?_) (by rw [hs,hs2]) (by rw [hs2];rfl)))
  obtain ⟨i,j,e,⟨q1,q2,q3,q4⟩,q⟩:=q1
  subst e
  cases r1 with
  | cons r rr =>
    cases rr with
    | cons r' rr =>
      cases rr
      obtain ⟨t,rfl⟩:=r
      obtain ⟨t',rfl⟩:=r'
      exact call_range_2 (Zhn I1 q1 q2 q3 q4 q)
def tFor (wi:TI) (g:TG) (tb:TS):TS:=fun D σ H=>wi σ H fun J H1=>∃ W:Nat→Nat→St→Hp→Prop,(∃ m,W 0 m σ H1)∧∀ i m σ H,W i m σ H →
  (J.stop i H∧D.nx σ H)∨(J.go i H∧∃ N:St→Hp→Prop,(∀ σ' H',N σ' H'→∃ m',m'<m∧W (i+1) m' σ' H')∧∀ x H',J.yld i H x H'→g x σ H' fun σ2 H2=>tb { D with nx:=N,ct:=N,bk:=D.nx } σ2 H2)
def ZfV (fp:List Addr) (h:Heap):List (Addr × Obj):=fp.filterMap fun b=>(h.get? b).map fun o=>(b,o)
theorem Zcw {fp:List Addr}{h:Heap}{b:Addr}{o:Obj} (hb:b∈fp) (e:h.get? b=some o):(b,o)∈ZfV fp h:=List.mem_filterMap.mpr ⟨b,hb,by rw [e];rfl⟩
theorem Zjh {fp:List Addr}{h:Heap}{p:Addr × Obj} (hp:p∈ZfV fp h):p.1∈fp∧h.get? p.1=some p.2:=by
  obtain ⟨b,hb,e⟩:=List.mem_filterMap.mp hp
  cases q:h.get? b with
  | none=>rw [q] at e;cases e
  | some o =>
    rw [q] at e
    have e':(b,o)=p:=Option.some.inj e
    subst e'
    exact ⟨hb,q⟩
theorem Inv.pinned {pins:List (Addr × Obj)}{σ:St}{H:Hp}{s:Shared}{fp:List Addr} (I:Inv X pins σ H s) (hf:∀ b∈fp,FpOk X pins H b) (ho:∀ b∈fp,∃ o,s.heap.get? b=some o∧∀ v,o.data≠.cell v):Inv X (pins ++ ZfV fp s.heap) σ H s :=
  I.pins_of fun p hp=>(List.mem_append.mp hp).elim (fun z=>I.pin p (List.mem_append_right _ z)) fun z=>by
    obtain ⟨hb,e⟩:=Zjh z
    obtain ⟨f0,f1,f2,_⟩:=hf p.1 hb
    obtain ⟨o,e',d⟩:=ho p.1 hb
    rw [e] at e';cases e'
    exact ⟨e,f0,f1,f2,d⟩
theorem Inv.unpinned {pins pl:List (Addr × Obj)}{σ:St}{H:Hp}{s:Shared} (I:Inv X (pins ++ pl) σ H s):Inv X pins σ H s:=I.pins_of fun p hp=>I.pin p (List.mem_append_right _ (List.mem_append_left _ hp))
theorem Zci {iter:Expr}{body:List Stmt}{wi:TI}{g:TG}{tb:TS}{pos:Pos} (hp:PassesOwn (model X.prog X.w) X.A X.env X.xe) (hc:X.calm=true) (hi:PI X tg iter wi) (hg:PG X tg g) (hb:PSs X body tb)
    (hs:∀ x,foldedSetIterable iter X.env x=pure x:=by intro _;rfl):PS X (.For tg iter body [] pos) (tFor wi g tb):=by
  intro pins s σ H D I h
  refine wpAny_For (thn (hi pins s σ H _ I h) fun v s1 h1=>thn h1 fun itv s2 h2=>?_) hs
  obtain ⟨it,fp,tn,J,H2,e,I2,T,st2,f2,W,⟨m0,w0⟩,turn⟩:=h2
  subst e
  have stat:∀ {H':Hp},(∀ b∈fp,H' b=none)→∀ b∈fp,FpOk X pins H' b:=fun hn b hb=>⟨hn b hb,(f2 b hb).2⟩
  refine codeAny_forLoop_any (fun n s'=>∃ i σ' H',Inv X pins σ' H' s'∧tn i s'.heap∧(∀ b∈fp,H' b=none)∧W i n σ' H') ?_ m0 ⟨0,σ,H2,I2,st2,fun b hb=>(f2 b hb).1,w0⟩
  rintro n s3 ⟨i,σ3,H3,I3,st3,fr3,w3⟩
  rcases turn i n σ3 H3 w3 with ⟨stop,qn⟩ | ⟨go,N,hN,step⟩
  · refine wpAny_passesOwn hp (thn (T.done X rfl rfl rfl hc i pins s3 σ3 H3 X.xe I3 (stat fr3) st3 stop) fun r s4 ⟨hr,I4⟩=>?_)
    subst hr
    exact wpAny_execs_nil ⟨σ3,H3,I4,qn⟩
  · refine wpAny_passesOwn hp (thn (T.item X rfl rfl rfl hc i pins s3 σ3 H3 X.xe I3 (stat fr3) st3 go) fun r s4 ⟨u,hr,h4⟩=>?_)
    subst hr
    refine wpAny_passesOwn hp (thn h4 fun _ s5 ⟨x,H5,I5,r5,y5,st5,fr5⟩=>?_)
    have I5':=I5.pinned (stat fr5) (T.obj _ _ st5)
    refine wpAny_passesOwn hp (thn (hg _ s5 σ3 H5 x u _ I5' r5 (step x H5 y5)) fun _ s6 ⟨σ6,H6,I6,q6⟩=>?_)
    refine wpAny_passesOwn hp (thn (hb _ s6 σ6 H6 _ I6 q6) fun f s7 q7=>?_)
    have again:∀ {σ7:St}{H7:Hp},Inv X (pins ++ ZfV fp s5.heap) σ7 H7 s7→N σ7 H7→∃ m,m<n∧∃ i σ' H',Inv X pins σ' H' s7∧tn i s7.heap∧(∀ b∈fp,H' b=none)∧W i m σ' H':=fun {σ7 H7} I7 n7=>by
      obtain ⟨m',hm,w7⟩:=hN σ7 H7 n7
      refine ⟨m',hm,i+1,σ7,H7,I7.unpinned,T.keep _ _ _ st5 fun b hb o e=>(I7.pin (b,o) (List.mem_append_right _ (List.mem_append_right _ (Zcw hb e)))).1,fun b hb=>?_,w7⟩
      obtain ⟨o,e,d⟩:=T.obj _ _ st5 b hb
      exact (I7.pin (b,o) (List.mem_append_right _ (List.mem_append_right _ (Zcw hb e)))).2.1
    cases f with
    | next=>obtain ⟨σ7,H7,I7,n7⟩:=q7;exact again I7 n7
    | cont=>obtain ⟨σ7,H7,I7,n7⟩:=q7;exact again I7 n7
    | brk=>obtain ⟨σ7,H7,I7,q7⟩:=q7;exact ⟨σ7,H7,I7.unpinned,q7⟩
    | ret v=>obtain ⟨x7,σ7,H7,I7,r7,q7⟩:=q7;exact ⟨x7,σ7,H7,I7.unpinned,r7,q7⟩
end
theorem Zk7 {K:PySem.W.Frag}{a:Addr}{xs:List V}{g:TG}{tb:TS}{D:Ends}{σ:St}{H:Hp} (Pv:Nat→St→Hp→Prop) (h0:Pv 0 σ H) (hl:∀ i σ H,i≤xs.length→Pv i σ H→SqL K H a xs)
    (hs:∀ i x σ H,xs[i]? = some x→Pv i σ H→g x σ H fun σ2 H2=>tb { D with nx:=Pv (i+1),ct:=Pv (i+1),bk:=D.nx } σ2 H2) (hd:∀ σ H,Pv xs.length σ H→D.nx σ H) :
    ∃ W:Nat→Nat→St→Hp→Prop,(∃ m,W 0 m σ H)∧∀ i m σ H,W i m σ H →
      ((Itl K a).stop i H∧D.nx σ H)∨((Itl K a).go i H∧∃ N:St→Hp→Prop,(∀ σ' H',N σ' H'→∃ m',m'<m∧W (i+1) m' σ' H')∧∀ x H',(Itl K a).yld i H x H'→g x σ H' fun σ2 H2=>tb { D with nx:=N,ct:=N,bk:=D.nx } σ2 H2):=by
  refine ⟨fun i m σ H=>m=xs.length - i∧i≤xs.length∧Pv i σ H,⟨xs.length,by simp,Nat.zero_le _,h0⟩,?_⟩
  rintro i m σ H ⟨rfl,hi,p⟩
  have q:=hl i σ H hi p
  by_cases hlt:i<xs.length
  · refine .inr ⟨⟨xs,xs[i],q,by simp [hlt]⟩,Pv (i+1),fun σ' H' p'=>⟨xs.length - (i+1),by omega,rfl,hlt,p'⟩,fun x H' y=>?_⟩
    obtain ⟨e,y⟩:=y
    subst e
    exact hs i x σ _ (y xs q) p
  · have e:i=xs.length:=by omega
    subst e
    exact .inl ⟨⟨xs,q,Nat.le_refl _⟩,hd σ H p⟩
theorem ZbA {lo:Int}{n:Nat}{g:TG}{tb:TS}{D:Ends}{σ:St}{H:Hp} (Pv:Nat→St→Hp→Prop) (h0:Pv 0 σ H)
    (hs:∀ i σ H,i<n→Pv i σ H→g (.int (lo+i)) σ H fun σ2 H2=>tb { D with nx:=Pv (i+1),ct:=Pv (i+1),bk:=D.nx } σ2 H2) (hd:∀ σ H,Pv n σ H→D.nx σ H) :
    ∃ W:Nat→Nat→St→Hp→Prop,(∃ m,W 0 m σ H)∧∀ i m σ H,W i m σ H →
      ((Itr lo n).stop i H∧D.nx σ H)∨((Itr lo n).go i H∧∃ N:St→Hp→Prop,(∀ σ' H',N σ' H'→∃ m',m'<m∧W (i+1) m' σ' H')∧∀ x H',(Itr lo n).yld i H x H'→g x σ H' fun σ2 H2=>tb { D with nx:=N,ct:=N,bk:=D.nx } σ2 H2):=by
  refine ⟨fun i m σ H=>m=n - i∧i≤n∧Pv i σ H,⟨n,by simp,Nat.zero_le _,h0⟩,?_⟩
  rintro i m σ H ⟨rfl,hi,p⟩
  by_cases hlt:i<n
  · refine .inr ⟨hlt,Pv (i+1),fun σ' H' p'=>⟨n - (i+1),by omega,rfl,hlt,p'⟩,fun x H' y=>?_⟩
    obtain ⟨e,y⟩:=y
    subst e y
    exact hs i σ _ hlt p
  · have e:i=n:=by omega
    subst e
    exact .inl ⟨Nat.le_refl _,hd σ H p⟩
abbrev R2:=V→V→Hp→VK→Prop
def OpR (X:Cx) (f:Value→Value→Sem Value) (r:R2):Prop :=
  ∀ (pins:List (Addr × Obj)) (s:Shared) (σ:St) (H:Hp) (x y:V) (v u:Value) (Q:VK),Inv X pins σ H s→RelV x v→RelV y u→r x y H Q →
    wpAny (model X.prog X.w) X.A (f v u) (EP X pins σ Q) X.xe s
def UnR (X:Cx) (f:Value→Sem Value) (r:V→Hp→VK→Prop):Prop :=
  ∀ (pins:List (Addr × Obj)) (s:Shared) (σ:St) (H:Hp) (x:V) (v:Value) (Q:VK),Inv X pins σ H s→RelV x v→r x H Q →
    wpAny (model X.prog X.w) X.A (f v) (EP X pins σ Q) X.xe s
def Zb4 (X:Cx) (f:Value) (r:List V→Hp→VK→Prop):Prop :=
  ∀ (pins:List (Addr × Obj)) (s:Shared) (σ:St) (H:Hp) (xs:List V) (us:List Value) (Q:VK),Inv X pins σ H s→Vals xs us→r xs H Q →
    wpAny (model X.prog X.w) X.A (call f us) (EP X pins σ Q) X.xe s
def tOp (r:R2) (ta tb:TE):TE:=fun σ H Q=>ta σ H fun x H1=>tb σ H1 fun y H2=>r x y H2 Q
def tUn (r:V→Hp→VK→Prop) (ta:TE):TE:=fun σ H Q=>ta σ H fun x H1=>r x H1 Q
def rI (C:Int→Int→Prop) (g:Int→Int→V):R2:=fun x y H Q=>∃ i j,x=.int i∧y=.int j∧C i j∧Q (g i j) H
def rI0 (g:Int→Int→V):R2:=fun x y H Q=>∃ i j,x=.int i∧y=.int j∧Q (g i j) H
def rU (g:Int→V):V→Hp→VK→Prop:=fun x H Q=>∃ i,x=.int i∧Q (g i) H
section
variable {X:Cx}{a b c:Expr}{ta tb tc:TE}{pos:Pos}
theorem binT (ha:PE X a ta) (hb:PE X b tb) {pins:List (Addr × Obj)}{s:Shared}{σ:St}{H:Hp}{R:V→V→Hp→Prop} (I:Inv X pins σ H s)
    (h:ta σ H fun x H1=>tb σ H1 fun y H2=>R x y H2) {Q:Value→Shared→Prop}{f:Value→Value→Sem Value}
    (hf:∀ v u s2 x y H2,Inv X pins σ H2 s2→RelV x v→RelV y u→R x y H2→wpAny (model X.prog X.w) X.A (f v u) Q X.xe s2) :
    wpAny (model X.prog X.w) X.A (eval a X.env) (fun v s₁=>wpAny (model X.prog X.w) X.A (eval b X.env) (fun u s₂=>wpAny (model X.prog X.w) X.A (f v u) Q X.xe s₂) X.xe s₁) X.xe s:=by
  refine thn (ha pins s σ H _ I h) fun v s1 ⟨x,H1,I1,r1,q1⟩=>?_
  refine thn (hb pins s1 σ H1 _ I1 q1) fun u s2 ⟨y,H2,I2,r2,q2⟩=>?_
  exact hf v u s2 x y H2 I2 r1 r2 q2
theorem Zas {op:Operator}{r:R2} (ho:OpR X (binaryOp op) r) (ha:PE X a ta) (hb:PE X b tb):PE X (.BinOp a op b pos) (tOp r ta tb):=by
  intro pins s σ H Q I h
  exact wpAny_BinOp (binT ha hb I h fun v u s2 x y H2 I2 rx ry q=>ho pins s2 σ H2 x y v u Q I2 rx ry q)
theorem ZgG {op:UnaryOp}{r:V→Hp→VK→Prop} (ho:UnR X (unaryOp op) r) (ha:PE X a ta):PE X (.UnaryOp op a pos) (tUn r ta):=by
  intro pins s σ H Q I h
  exact UnaryOp_ (thn (ha pins s σ H _ I h) fun v s1 ⟨x,H1,I1,r1,q1⟩=>ho pins s1 σ H1 x v Q I1 r1 q1)
theorem opI {f:Value→Value→Sem Value}{C:Int→Int→Prop}{g:Int→Int→Int}
    (rule:∀ (i j:Int) (t u:Tok) (s:Shared) (Q:Value→Shared→Prop) (E:Value→Shared→Prop),C i j→Q (.int (g i j) s.toks) { s with toks:=s.toks+1 }→wpAny (model X.prog X.w) X.A (f (.int i t) (.int j u)) Q E s) :
    OpR X f (rI C fun i j=>.int (g i j)):=by
  intro pins s σ H x y v u Q I rx ry h
  obtain ⟨i,j,rfl,rfl,hc,q⟩:=h
  obtain ⟨t,rfl⟩:=rx
  obtain ⟨t',rfl⟩:=ry
  exact rule i j t t' s _ _ hc ⟨.int (g i j),H,I.tok _,⟨_,rfl⟩,q⟩
theorem opI0 {f:Value→Value→Sem Value}{g:Int→Int→Int}
    (rule:∀ (i j:Int) (t u:Tok) (s:Shared) (Q:Value→Shared→Prop) (E:Value→Shared→Prop),Q (.int (g i j) s.toks) { s with toks:=s.toks+1 }→wpAny (model X.prog X.w) X.A (f (.int i t) (.int j u)) Q E s) :
    OpR X f (rI0 fun i j=>.int (g i j)):=by
  intro pins s σ H x y v u Q I rx ry h
  obtain ⟨i,j,rfl,rfl,q⟩:=h
  obtain ⟨t,rfl⟩:=rx
  obtain ⟨t',rfl⟩:=ry
  exact rule i j t t' s _ _ ⟨.int (g i j),H,I.tok _,⟨_,rfl⟩,q⟩
theorem opB0 {f:Value→Value→Sem Value}{g:Int→Int→Bool}
    (rule:∀ (i j:Int) (t u:Tok) (s:Shared) (Q:Value→Shared→Prop) (E:Value→Shared→Prop),Q (.bool (g i j)) s→wpAny (model X.prog X.w) X.A (f (.int i t) (.int j u)) Q E s) :
    OpR X f (rI0 fun i j=>.bl (g i j)):=by
  intro pins s σ H x y v u Q I rx ry h
  obtain ⟨i,j,rfl,rfl,q⟩:=h
  obtain ⟨t,rfl⟩:=rx
  obtain ⟨t',rfl⟩:=ry
  exact rule i j t t' s _ _ ⟨.bl (g i j),H,I,rfl,q⟩
def CDiv (i j:Int):Prop:=0<j∧j<1073741824
def CPow (i j:Int):Prop:=0≤j∧j≤1000000∧i.natAbs<2 ^ 64
def CMul (i j:Int):Prop:=(-(2 ^ 64)<i∧i<2 ^ 64)∨(-(2 ^ 64)<j∧j<2 ^ 64)
theorem CMul.ok {i j:Int} (h:CMul i j):IntMulOk i j:=by
  rcases h with ⟨h1,h2⟩ | ⟨h1,h2⟩
  · exact .of_left (intBits_le_64 h1 h2)
  · exact .of_right (intBits_le_64 h1 h2)
theorem Znv:OpR X (binaryOp .Add) (rI0 fun i j=>.int (i+j)):=opI0 fun _ _ _ _ _ _ _ q=>add_int q
theorem ZlF:OpR X (binaryOp .Sub) (rI0 fun i j=>.int (i - j)):=opI0 fun _ _ _ _ _ _ _ q=>sub_int q
theorem Zns:OpR X (binaryOp .Mult) (rI CMul fun i j=>.int (i * j)):=opI fun _ _ _ _ _ _ _ hc q=>mul_int q hc.ok
theorem Zmp:OpR X (binaryOp .FloorDiv) (rI CDiv fun i j=>.int (i / j)):=opI fun i j _ _ _ _ _ hc q=>by
  have h1:(0:Int)<j:=hc.1
  have h2:j<1073741824:=hc.2
  exact floordiv_int (by omega) (by rw [Int.fdiv_eq_ediv_of_nonneg i (by omega)];exact q) (.inl (PyProof.noPylong_small (by omega)))
theorem Znt:OpR X (binaryOp .Mod) (rI (fun _ j=>0<j) fun i j=>.int (i % j)):=opI fun i j _ _ _ _ _ hc q=>by
  have h1:(0:Int)<j:=hc
  exact mod_int' (by omega) (by rw [Int.fmod_eq_emod_of_nonneg i (by omega)];exact q)
theorem Znr:OpR X (binaryOp .Pow) (rI CPow fun i j=>.int (i ^ j.toNat)):=opI fun _ _ _ _ _ _ _ hc q=>pow_int_small hc.1 hc.2.1 hc.2.2 q
theorem unI {f:Value→Sem Value}{g:Int→Int}
    (rule:∀ (i:Int) (t:Tok) (s:Shared) (Q:Value→Shared→Prop) (E:Value→Shared→Prop),Q (.int (g i) s.toks) { s with toks:=s.toks+1 }→wpAny (model X.prog X.w) X.A (f (.int i t)) Q E s) :
    UnR X f (rU fun i=>.int (g i)):=by
  intro pins s σ H x v Q I rx h
  obtain ⟨i,rfl,q⟩:=h
  obtain ⟨t,rfl⟩:=rx
  exact rule i t s _ _ ⟨.int (g i),H,I.tok _,⟨_,rfl⟩,q⟩
theorem Zna:UnR X (unaryOp .USub) (rU fun i=>.int (-i)):=unI fun _ _ _ _ _ q=>neg_int q
end
def scal:V→V→Bool
  | .non,.non=>true | .non,.int _=>true | .int _,.non=>true | .non,.bl _=>true | .bl _,.non=>true | .non,.str _=>true | .str _,.non=>true
  | .int _,.int _=>true | .bl _,.bl _=>true | .str _,.str _=>true | .byt _,.byt _=>true
  | .int _,.str _=>true | .str _,.int _=>true | .bl _,.str _=>true | .str _,.bl _=>true
  | _,_=>false
def rEq:R2:=fun x y H Q=>scal x y=true∧Q (.bl (decide (x=y))) H
def rNe:R2:=fun x y H Q=>scal x y=true∧Q (.bl (!decide (x=y))) H
theorem ZjP {i j:Int}:decide (V.int i=V.int j)=(i == j):=by
  rw [Bool.eq_iff_iff]
  simp
theorem ZlS {i j:Bool}:decide (V.bl i=V.bl j)=(i == j):=by
  rw [Bool.eq_iff_iff]
  simp
theorem ZjO {i j:Str}:decide (V.str i=V.str j)=(i == j):=by
  rw [Bool.eq_iff_iff]
  simp
theorem ZjQ {i j:Array UInt8}:decide (V.byt i=V.byt j)=(i.toList == j.toList):=by
  rw [Bool.eq_iff_iff]
  cases i
  cases j
  simp
section
variable {X:Cx}{a b c:Expr}{ta tb tc:TE}{pos:Pos}
theorem ZaQ {pins:List (Addr × Obj)}{σ:St}{H:Hp}{s:Shared}{Q:VK}{k k':Bool} (I:Inv X pins σ H s) (q:Q (.bl k) H) (e:k=k'):EP X pins σ Q (.bool k') s:=by
  subst e
  exact ⟨.bl k,H,I,rfl,q⟩
theorem Zdj:OpR X (compareOp .Eq) rEq:=by
  intro pins s σ H x y v u Q I rx ry h
  obtain ⟨hs,q⟩:=h
  cases x with
  | non =>
    cases rx
    cases y with
    | non=>cases ry;exact PySem.EqNone.eq_none_none (ZaQ I q (by simp))
    | bl j=>cases ry;exact PySem.EqNone.eq_none_bool (ZaQ I q (by simp))
    | int j=>obtain ⟨t',rfl⟩:=ry;exact PySem.EqNone.eq_none_int (ZaQ I q (by simp))
    | str j=>obtain ⟨t',rfl⟩:=ry;exact PySem.EqNone.eq_none_str (ZaQ I q (by simp))
    | _=>exact absurd (show false=true from hs) Bool.false_ne_true
  | bl i =>
    cases rx
    cases y with
    | non=>cases ry;exact PySem.EqNone.eq_bool_none (ZaQ I q (by simp))
    | bl j=>cases ry;exact eq_bool (ZaQ I q ZlS)
    | str j=>obtain ⟨t',rfl⟩:=ry;exact PySem.EqMixed.eq_bool_str (ZaQ I q (by simp))
    | _=>exact absurd (show false=true from hs) Bool.false_ne_true
  | int i =>
    obtain ⟨t,rfl⟩:=rx
    cases y with
    | non=>cases ry;exact PySem.EqNone.eq_int_none (ZaQ I q (by simp))
    | int j=>obtain ⟨t',rfl⟩:=ry;exact eq_int (ZaQ I q ZjP)
    | str j=>obtain ⟨t',rfl⟩:=ry;exact PySem.EqMixed.eq_int_str (ZaQ I q (by simp))
    | _=>exact absurd (show false=true from hs) Bool.false_ne_true
  | str i =>
    obtain ⟨t,rfl⟩:=rx
    cases y with
    | non=>cases ry;exact PySem.EqNone.eq_str_none (ZaQ I q (by simp))
    | bl j=>cases ry;exact PySem.EqMixed.eq_str_bool (ZaQ I q (by simp))
    | int j=>obtain ⟨t',rfl⟩:=ry;exact PySem.EqMixed.eq_str_int (ZaQ I q (by simp))
    | str j=>obtain ⟨t',rfl⟩:=ry;exact eq_str (ZaQ I q ZjO)
    | _=>exact absurd (show false=true from hs) Bool.false_ne_true
  | byt i =>
    obtain ⟨t,rfl⟩:=rx
    cases y with
    | byt j=>obtain ⟨t',rfl⟩:=ry;exact PySem.W.eq_bytes (ZaQ I q ZjQ)
    | _=>exact absurd (show false=true from hs) Bool.false_ne_true
  | _=>cases y <;> exact absurd (show false=true from hs) Bool.false_ne_true
theorem Zf1:OpR X (compareOp .NotEq) rNe:=by
  intro pins s σ H x y v u Q I rx ry h
  obtain ⟨hs,q⟩:=h
  cases x with
  | non =>
    cases rx
    cases y with
    | non=>cases ry;exact PySem.EqNone.ne_none_none (ZaQ I q (by simp))
    | bl j=>cases ry;exact PySem.EqNone.ne_none_bool (ZaQ I q (by simp))
    | int j=>obtain ⟨t',rfl⟩:=ry;exact PySem.EqNone.ne_none_int (ZaQ I q (by simp))
    | str j=>obtain ⟨t',rfl⟩:=ry;exact PySem.EqNone.ne_none_str (ZaQ I q (by simp))
    | _=>exact absurd (show false=true from hs) Bool.false_ne_true
  | bl i =>
    cases rx
    cases y with
    | non=>cases ry;exact PySem.EqNone.ne_bool_none (ZaQ I q (by simp))
    | bl j=>cases ry;exact ne_bool (ZaQ I q (congrArg not ZlS))
    | str j=>obtain ⟨t',rfl⟩:=ry;exact PySem.EqMixed.ne_bool_str (ZaQ I q (by simp))
    | _=>exact absurd (show false=true from hs) Bool.false_ne_true
  | int i =>
    obtain ⟨t,rfl⟩:=rx
    cases y with
    | non=>cases ry;exact PySem.EqNone.ne_int_none (ZaQ I q (by simp))
    | int j=>obtain ⟨t',rfl⟩:=ry;exact ne_int (ZaQ I q (congrArg not ZjP))
    | str j=>obtain ⟨t',rfl⟩:=ry;exact PySem.EqMixed.ne_int_str (ZaQ I q (by simp))
    | _=>exact absurd (show false=true from hs) Bool.false_ne_true
  | str i =>
    obtain ⟨t,rfl⟩:=rx
    cases y with
    | non=>cases ry;exact PySem.EqNone.ne_str_none (ZaQ I q (by simp))
    | bl j=>cases ry;exact PySem.EqMixed.ne_str_bool (ZaQ I q (by simp))
    | int j=>obtain ⟨t',rfl⟩:=ry;exact PySem.EqMixed.ne_str_int (ZaQ I q (by simp))
    | str j=>obtain ⟨t',rfl⟩:=ry;exact ne_str (ZaQ I q (congrArg not ZjO))
    | _=>exact absurd (show false=true from hs) Bool.false_ne_true
  | byt i =>
    obtain ⟨t,rfl⟩:=rx
    cases y with
    | byt j=>obtain ⟨t',rfl⟩:=ry;exact PySem.W.ne_bytes (ZaQ I q (congrArg not ZjQ))
    | _=>exact absurd (show false=true from hs) Bool.false_ne_true
  | _=>cases y <;> exact absurd (show false=true from hs) Bool.false_ne_true
theorem Zoe:OpR X (compareOp .Lt) (rI0 fun i j=>.bl (decide (i<j))):=opB0 fun _ _ _ _ _ _ _ q=>lt_int q
theorem Zey:OpR X (compareOp .LtE) (rI0 fun i j=>.bl (decide (i≤j))):=opB0 fun _ _ _ _ _ _ _ q=>le_int q
theorem Zof:OpR X (compareOp .Gt) (rI0 fun i j=>.bl (decide (j<i))):=opB0 fun _ _ _ _ _ _ _ q=>gt_int q
theorem Zog:OpR X (compareOp .GtE) (rI0 fun i j=>.bl (decide (j≤i))):=opB0 fun _ _ _ _ _ _ _ q=>ge_int q
theorem Znu:OpR X (compareOp .Is) (fun x y H Q=>y=.non∧Q (.bl (decide (x=.non))) H):=by
  intro pins s σ H x y v u Q I rx ry h
  obtain ⟨rfl,q⟩:=h
  cases ry
  refine is_none_gen (ZaQ I q ?_)
  cases x <;> first
    | (cases rx;rfl)
    | (obtain ⟨t,rfl⟩:=rx;rfl)
theorem Ze9:OpR X (compareOp .IsNot) (fun x y H Q=>y=.non∧Q (.bl (!decide (x=.non))) H):=by
  intro pins s σ H x y v u Q I rx ry h
  obtain ⟨rfl,q⟩:=h
  cases ry
  refine isnot_none_gen (ZaQ I q ?_)
  cases x <;> first
    | (cases rx;rfl)
    | (obtain ⟨t,rfl⟩:=rx;rfl)
theorem Zax (b:Expr) {op:CmpOp} (h:op≠.In:=by decide) (h2:op≠.NotIn:=by decide):behindInMarks op b=false:=by
  have e1:(op == CmpOp.In)=false:=by cases op <;> first | rfl | exact absurd rfl h
  have e2:(op == CmpOp.NotIn)=false:=by cases op <;> first | rfl | exact absurd rfl h2
  cases b <;> simp [behindInMarks,e1,e2]
theorem Zdi {op:CmpOp}{r:R2} (ho:OpR X (compareOp op) r) (ha:PE X a ta) (hb:PE X b tb) (hm:behindInMarks op b=false):PE X (.Compare a [op] [b] pos) (tOp r ta tb):=by
  intro pins s σ H Q I h
  exact wpAny_Compare1 (binT ha hb I h fun v u s2 x y H2 I2 rx ry q=>ho pins s2 σ H2 x y v u Q I2 rx ry q) hm
def Znb (t:TE):TT:=fun σ H Q=>t σ H fun x H'=>∃ k,x=.bl k∧Q k H'
theorem Zat {op:CmpOp}{r:R2} (ho:OpR X (compareOp op) r) (ha:PE X a ta) (hb:PE X b tb) (hm:behindInMarks op b=false):PT X (.Compare a [op] [b] pos) (Znb (tOp r ta tb)):=by
  intro pins s σ H Q I h
  refine wpAny_isTrue_Compare1 (thn (ha pins s σ H _ I h) fun v s1 ⟨x,H1,I1,r1,q1⟩=>thn (hb pins s1 σ H1 _ I1 q1) fun u s2 ⟨y,H2,I2,r2,q2⟩ =>
    thn (ho pins s2 σ H2 x y v u _ I2 r1 r2 q2) fun c s3 ⟨z,H3,I3,r3,k,e,q3⟩=>?_) hm
  subst e
  cases r3
  exact wpAny_truthy_bool ⟨H3,I3,q3⟩
def Zlp (r r':R2) (ta tb tc:TE):TE:=fun σ H Q=>ta σ H fun x H1=>tb σ H1 fun y H2=>r x y H2 fun z H3=>∃ k,z=.bl k ∧
  (if k=true then tc σ H3 fun w' H4=>r' y w' H4 Q else Q (.bl false) H3)
theorem ZbN {op op':CmpOp}{r r':R2} (ho:OpR X (compareOp op) r) (ho':OpR X (compareOp op') r') (ha:PE X a ta) (hb:PE X b tb) (hc:PE X c tc)
    (hm:lastMarks [op,op'] [b,c]=false:=by with_unfolding_all rfl):PE X (.Compare a [op,op'] [b,c] pos) (Zlp r r' ta tb tc):=by
  intro pins s σ H Q I h
  refine Compare_chain (thn (ha pins s σ H _ I h) fun v s1 ⟨x,H1,I1,r1,q1⟩=>chain_link (thn (hb pins s1 σ H1 _ I1 q1) fun u s2 ⟨y,H2,I2,r2,q2⟩ =>
    thn (ho pins s2 σ H2 x y v u _ I2 r1 r2 q2) fun d s3 ⟨z,H3,I3,r3,k,e,q3⟩=>?_)) hm
  subst e
  cases r3
  refine wpAny_truthy_bool ?_
  cases k with
  | false=>exact ite_ff ⟨.bl false,H3,I3,rfl,q3⟩
  | true=>exact ite_tt (chain_last (thn (hc pins s3 σ H3 _ I3 q3) fun w' s4 ⟨z',H4,I4,r4,q4⟩=>ho' pins s4 σ H4 y z' u w' Q I4 r2 r4 q4))
theorem ZdG {op op':CmpOp}{r r':R2} (ho:OpR X (compareOp op) r) (ho':OpR X (compareOp op') r') (ha:PE X a ta) (hb:PE X b tb) (hc:PE X c tc)
    (hm:lastMarks [op,op'] [b,c]=false:=by with_unfolding_all rfl):PT X (.Compare a [op,op'] [b,c] pos) (Znb (Zlp r r' ta tb tc)):=by
  intro pins s σ H Q I h
  refine isTrue_chain (thn (ha pins s σ H _ I h) fun v s1 ⟨x,H1,I1,r1,q1⟩=>test_link (thn (hb pins s1 σ H1 _ I1 q1) fun u s2 ⟨y,H2,I2,r2,q2⟩ =>
    thn (ho pins s2 σ H2 x y v u _ I2 r1 r2 q2) fun d s3 ⟨z,H3,I3,r3,k,e,q3⟩=>?_)) hm
  subst e
  cases r3
  refine wpAny_truthy_bool ?_
  cases k with
  | false =>
    obtain ⟨k',e',q'⟩:=q3
    cases e'
    exact ite_ff ⟨H3,I3,q'⟩
  | true =>
    refine ite_tt (test_last (thn (hc pins s3 σ H3 _ I3 q3) fun w' s4 ⟨z',H4,I4,r4,q4⟩=>thn (ho' pins s4 σ H4 y z' u w' _ I4 r2 r4 q4) fun d' s5 ⟨z2,H5,I5,r5,k2,e2,q5⟩=>?_))
    subst e2
    cases r5
    exact wpAny_truthy_bool ⟨H5,I5,q5⟩
theorem Zhs:(sizeLine:Nat)<2 ^ 63:=by rw [sizeLine_eq];decide
theorem Zik {x:V}{us:List Value} (r:Vals [x] us):∃ u,us=[u]∧RelV x u:=by
  cases r with
  | cons r1 r2=>cases r2;exact ⟨_,rfl,r1⟩
theorem Zm9 {x y:V}{us:List Value} (r:Vals [x,y] us):∃ u w',us=[u,w']∧RelV x u∧RelV y w':=by
  cases r with
  | cons r1 r2 =>
    cases r2 with
    | cons r3 r4=>cases r4;exact ⟨_,_,rfl,r1,r3⟩
theorem Zj4 (hc:X.calm=true):Zb4 X (.builtin "max") (fun xs H Q=>∃ i j,xs=[.int i,.int j]∧Q (.int (if j > i then j else i)) H):=by
  intro pins s σ H xs us Q I r h
  obtain ⟨i,j,rfl,q⟩:=h
  obtain ⟨u,w',rfl,⟨t,rfl⟩,⟨t',rfl⟩⟩:=Zm9 r
  refine max_two_ints (I.ok.hd hc) fun h' tk k=>⟨_,H,I.kept k,?_,q⟩
  by_cases hj:j > i
  · rw [if_pos hj,if_pos hj];exact ⟨_,rfl⟩
  · rw [if_neg hj,if_neg hj];exact ⟨_,rfl⟩
theorem Zj1 (hc:X.calm=true):Zb4 X (.builtin "min") (fun xs H Q=>∃ i j,xs=[.int i,.int j]∧Q (.int (if j<i then j else i)) H):=by
  intro pins s σ H xs us Q I r h
  obtain ⟨i,j,rfl,q⟩:=h
  obtain ⟨u,w',rfl,⟨t,rfl⟩,⟨t',rfl⟩⟩:=Zm9 r
  refine min_two_ints (I.ok.hd hc) fun h' tk k=>⟨_,H,I.kept k,?_,q⟩
  by_cases hj:j<i
  · rw [if_pos hj,if_pos hj];exact ⟨_,rfl⟩
  · rw [if_neg hj,if_neg hj];exact ⟨_,rfl⟩
theorem Zj5:Zb4 X (.type "int") (fun xs H Q=>(∃ i,xs=[.int i]∧Q (.int i) H)∨∃ k,xs=[.bl k]∧Q (.int (if k then 1 else 0)) H):=by
  intro pins s σ H xs us Q I r h
  rcases h with ⟨i,rfl,q⟩ | ⟨k,rfl,q⟩
  · obtain ⟨u,rfl,t,rfl⟩:=Zik r
    exact call_int_int ⟨.int i,H,I,⟨_,rfl⟩,q⟩
  · obtain ⟨u,rfl,r1⟩:=Zik r
    cases r1
    exact call_int_bool ⟨.int (if k then 1 else 0),H,I.tok _,⟨_,rfl⟩,q⟩
end
structure ObjM (h:Heap) (x dx C:Addr) (mA:Str→Option Value):Prop where
  obj:h.get? x=some (PySem.W.instObj C dx)
  ns:h.Ns1 dx mA
  ne:dx≠x
theorem Zjo {h:Heap}{dx:Addr}{mA:Str→Option Value} (n:h.Ns1 dx mA):∃ od,h.get? dx=some od∧∀ name,PySem.W.lookIn name od=some (mA name):=by
  obtain ⟨o,es,ep,ho,hd,hk,_,hm⟩:=n
  refine ⟨o,ho,fun name=>?_⟩
  have e:=hm name
  unfold nsFind findBy at e
  rw [← Array.find?_toList] at e
  unfold PySem.W.lookIn
  rw [hd]
  dsimp only
  split
  · rename_i y q
    rw [q] at e
    exact congrArg some e
  · rename_i q
    rw [q] at e
    have a:es.toList.any (·.refKey)=false:=by
      rw [List.any_eq_false]
      intro y hy
      obtain ⟨z,t,hkey⟩:=hk y (Array.mem_toList_iff.mp hy)
      simp [DictEntry.refKey,hkey]
    have a':¬ es.toList.any (·.refKey)=true:=by rw [a];exact Bool.false_ne_true
    rw [if_neg a']
    exact congrArg some e
theorem ObjM.look {h:Heap}{x dx C:Addr}{mA:Str→Option Value} (I:ObjM h x dx C mA):∃ od,PySem.W.InstAt h x (PySem.W.instObj C dx) C (some od)∧∀ name,PySem.W.lookIn name od=some (mA name) :=
  let ⟨od,ho,hl⟩:=Zjo I.ns
  ⟨od,⟨I.obj,rfl,rfl,ho⟩,hl⟩
section
variable {prog:Program}{w:World}{A:Around}{E:Value→Shared→Prop}{s:Shared}{K:PySem.W.Frag}{x dx C f:Addr}{mA:Str→Option Value}{name:Str}{v:Value}
theorem ZmN {expr:Bool}{Q:Value→Shared→Prop} (X:K.In s.heap) (I:ObjM s.heap x dx C mA) (hg:PySem.W.plainGet K C name=true) (hh:PySem.W.hasDictIn K C=true)
    (ha:PySem.W.findIn K (.ref C) name=some none) (hv:mA name=some v) (hv':PySem.W.handedIn v=true) (h:Q v { s with toks:=s.toks+1 }) :
    wpAny (model prog w) A (getAttr (.ref x) name expr) Q E s:=by
  obtain ⟨od,J,hl⟩:=I.look
  exact PySem.W.get_value X J (PySem.W.plainGet_of hg).1 (PySem.W.findObj_own hh ha rfl (by rw [hl,hv])) hv' h
theorem Zk5 {pl:Sem Bool}{Q:Value × List Value→Shared→Prop} (X:K.In s.heap) (I:ObjM s.heap x dx C mA) (hg:PySem.W.plainGet K C name=true)
    (hf:PySem.W.findIn K (.ref C) name=some (some (.ref f))) (ht:PySem.W.isFn K (.ref f)=true) (hv:mA name=none) (h:Q (.ref f,[.ref x]) s) :
    wpAny (model prog w) A (getMethod (.ref x) name pl) Q E s:=by
  obtain ⟨od,J,hl⟩:=I.look
  exact PySem.W.method_fn X J (PySem.W.plainGet_of hg).1 (PySem.W.plainGet_of hg).2 hf (beq_iff_eq.mp ht) (by show (PySem.W.lookIn name od).map (·.isSome)=some false;rw [hl,hv];rfl) h
theorem Zl7 {ns:List Str}{Q:Unit→Shared→Prop} (X:K.In s.heap) (I:ObjM s.heap x dx C mA)
    (hs:PySem.W.findIn K (.ref C) "__setattr__" = some (some (.builtin "object.__setattr__"))) (hp:PySem.W.plainOver K C=true) (ht:PySem.W.takerIn K C name=some none) (hh:PySem.W.hasDictIn K C=true)
    (hw:PySem.Within mA ns) (hsz:ns.length≤sizeLine)
    (h:∀ h',ObjM h' x dx C (fun y=>if y=name then some v else mA y)→Heap.SameBut dx s.heap h'→Q () { s with heap:=h',toks:=s.toks+2 }) :
    wpAny (model prog w) A (setAttr (.ref x) name v) Q E s:=by
  obtain ⟨od,J,hl⟩:=I.look
  refine PySem.W.set_plain X J hs (PySem.W.osa_open (s:={ s with toks:=s.toks+1 }) (r:=none) X J hp ht fun b=>?_)
  obtain ⟨cd,hc,hd'⟩:=PySem.W.any_some hh
  have hx:s.heap.get? x=some ⟨.ref C,some dx,.plain,#[]⟩:=I.obj
  refine wpAny_bind (wpAny_pure (wpAny_bind (wpAny_bind (wpAny_loadPart hx (wpAny_bind (PySem.W.Looks.here (s:={ s with toks:=s.toks+1 }) (PySem.W.looks_clsIn X hc) ?_))))))
  rw [hd']
  refine wpAny_pure (a:=some dx) (wpAny_bind (wpAny_pure (wpAny_bind ?_)))
  refine wpAny_nsSet1 (s:={ s with toks:=s.toks+1 }) I.ns fun h' hn2 hs2=>?_
  obtain ⟨oD,esD,epD,hoD,hdD,hcD⟩:=hn2.count (PySem.Within.cons name v hw)
  refine wpAny_bind (wpAny_lookBehind hoD (by rw [hdD];exact pastItsLine_dict (Nat.le_trans hcD (by rw [List.length_cons];omega))) ?_)
  exact wpAny_pure (h _ ⟨(hs2.2 _ (Ne.symm I.ne)).trans I.obj,hn2,I.ne⟩ hs2)
theorem Zhr {R:Result→Shared→Prop}{vs:List Value}{kw:List (Str × Value)} (X:K.In s.heap) (hm:PySem.W.makesIn K C=true)
    (hi:PySem.W.findIn K (.ref C) "__init__" = some (some (.ref f))) (hf:PySem.W.typeIn K (.ref f)=some (.type "function"))
    (h:codeAny (model prog w) (A.under (.builtin "type.__call__" ⟨.ref C :: vs,kw⟩)) (.call (.ref f) ⟨.ref (s.heap.objs.size+1) :: vs,kw⟩) (PySem.W.InitBack (s.heap.objs.size+1) R)
      { s with heap:=(s.heap.push PySem.W.emptyDict).push (PySem.W.instObj C s.heap.objs.size) }) :
    codeAny (model prog w) A (.call (.ref C) ⟨vs,kw⟩) R s:=by
  obtain ⟨hh,g,d,t,os⟩:=s
  exact PySem.W.make_core (PySem.W.makes_of X hm) (PySem.W.looks_findIn X hi) (fun self=>PySem.W.bind_fn X self hf) (.inl rfl) h
end
def putF (f:Str) (v:V):List (Str × V)→List (Str × V)
  | []=>[(f,v)]
  | (g,x) :: r=>if g=f then (g,v) :: r else (g,x) :: putF f v r
theorem Zea (f g:Str) (v:V):∀ fs:List (Str × V),(putF f v fs).lookup g=if g=f then some v else fs.lookup g
  | []=>by
    show List.lookup g [(f,v)]=_
    by_cases h:g=f
    · have hb:(g == f)=true:=beq_iff_eq.mpr h
      simp only [List.lookup,hb,if_pos h]
    · have hb:(g == f)=false:=beq_eq_false_iff_ne.mpr h
      simp only [List.lookup,hb,if_neg h]
  | (k,x) :: r=>by
    have ih:=Zea f g v r
    rw [show putF f v ((k,x) :: r)=(if k=f then (k,v) :: r else (k,x) :: putF f v r) from rfl]
    by_cases hk:k=f
    · rw [if_pos hk]
      by_cases h:g=k
      · have hb:(g == k)=true:=beq_iff_eq.mpr h
        simp only [List.lookup,hb,if_pos (h.trans hk)]
      · have hb:(g == k)=false:=beq_eq_false_iff_ne.mpr h
        simp only [List.lookup,hb,if_neg (fun e:g=f=>h (e.trans hk.symm))]
    · rw [if_neg hk]
      by_cases h:g=k
      · have hb:(g == k)=true:=beq_iff_eq.mpr h
        simp only [List.lookup,hb,if_neg (fun e:g=f=>hk (h.symm.trans e))]
      · have hb:(g == k)=false:=beq_eq_false_iff_ne.mpr h
        simp only [List.lookup,hb]
        exact ih
theorem Zed (f:Str) (v:V):∀ fs:List (Str × V),f∈(putF f v fs).map (·.1)∧∀ g,g∈fs.map (·.1)→g∈(putF f v fs).map (·.1)
  | []=>⟨by simp [putF],fun g h=>by simp at h⟩
  | (k,x) :: r=>by
    obtain ⟨i1,i2⟩:=Zed f v r
    rw [show putF f v ((k,x) :: r)=(if k=f then (k,v) :: r else (k,x) :: putF f v r) from rfl]
    by_cases hk:k=f
    · rw [if_pos hk]
      subst hk
      exact ⟨by simp,fun g h=>by simpa using h⟩
    · rw [if_neg hk]
      refine ⟨?_,fun g h=>?_⟩
      · rw [List.map_cons]
        exact List.mem_cons_of_mem _ i1
      · rw [List.map_cons] at h ⊢
        rcases List.mem_cons.mp h with e | e
        · exact List.mem_cons.mpr (.inl e)
        · exact List.mem_cons_of_mem _ (i2 g e)
theorem Zeb (f:Str) (v:V):∀ fs:List (Str × V),(putF f v fs).length≤fs.length+1
  | []=>by simp [putF]
  | (k,x) :: r=>by
    have ih:=Zeb f v r
    rw [show putF f v ((k,x) :: r)=(if k=f then (k,v) :: r else (k,x) :: putF f v r) from rfl]
    by_cases hk:k=f
    · rw [if_pos hk,List.length_cons,List.length_cons];omega
    · rw [if_neg hk,List.length_cons,List.length_cons];omega
theorem RelO.some_of {v:V}{o:Option Value} (r:RelO (some v) o):∃ u,o=some u∧RelV v u:=by
  cases o with
  | none=>exact (show False from r).elim
  | some u=>exact ⟨u,rfl,r⟩
theorem RelO.none_of {o:Option Value} (r:RelO none o):o=none:=by
  cases o with
  | none=>rfl
  | some u=>exact (show False from r).elim
theorem ZjB {v:V}{u:Value} (r:RelV v u):PySem.W.handedIn u=true:=by
  cases v with
  | non=>cases (show u=Value.none from r);rfl
  | bl b=>cases (show u=Value.bool b from r);rfl
  | int i=>obtain ⟨t,e⟩:=(show ∃ t,u=Value.int i t from r);cases e;rfl
  | str x=>obtain ⟨t,e⟩:=(show ∃ t,u=Value.str x t from r);cases e;rfl
  | byt b=>obtain ⟨t,e⟩:=(show ∃ t,u=Value.bytes b t from r);cases e;rfl
  | flt b=>obtain ⟨t,e⟩:=(show ∃ t,u=Value.float b t from r);cases e;rfl
  | ref a=>cases (show u=Value.ref a from r);rfl
  | ty n=>cases (show u=Value.type n from r);rfl
section
variable {P:Program}{w:World}{H H':Hp}{h h':Heap}{a C dx:Addr}{fs fs':List (Str × V)}
theorem Zfk (hok:HOk P w H h) (e:H a=some (.ins C dx fs)):∃ mA,ObjM h a dx C mA∧(∀ f,RelO (fs.lookup f) (mA f))∧PySem.Within mA (fs.map (·.1))∧fs.length≤1000∧H dx=some (.own a):=by
  obtain ⟨d,z,ne,ob,mA,n,r,q⟩:=(show ObjOk P w H h a (.ins C dx fs) from hok a _ e)
  exact ⟨mA,⟨ob,n,ne⟩,r,q,z,d⟩
end
structure Cls (K:PySem.W.Frag) (C:Addr):Prop where
  pg:PySem.W.plainGet K C Str.empty=true
  hd:PySem.W.hasDictIn K C=true
  po:PySem.W.plainOver K C=true
  sa:PySem.W.findIn K (.ref C) "__setattr__" = some (some (.builtin "object.__setattr__"))
theorem Cls.get {K:PySem.W.Frag}{C:Addr} (c:Cls K C) (f:Str):PySem.W.plainGet K C f=true:=c.pg
def NoAttr (K:PySem.W.Frag) (C:Addr) (f:Str):Prop:=PySem.W.findIn K (.ref C) f=some none
theorem NoAttr.taker {K:PySem.W.Frag}{C:Addr}{f:Str} (n:NoAttr K C f):PySem.W.takerIn K C f=some none:=by
  unfold PySem.W.takerIn
  rw [show PySem.W.findIn K (.ref C) f=some none from n]
  rfl
structure Meth (K:PySem.W.Frag) (C:Addr) (m:Str) (f:Addr):Prop where
  at_:PySem.W.findIn K (.ref C) m=some (some (.ref f))
  fn:PySem.W.isFn K (.ref f)=true
  kp:PySem.W.keepIn K (.ref f)=true
section
variable {X:Cx}{pins:List (Addr × Obj)}{σ:St}{H:Hp}{s:Shared}{a C dx:Addr}{fs:List (Str × V)}{f:Str}{v:V}{A:Around}{E:Value→Shared→Prop}
theorem Zib {b:Bool}{Q:Value→Shared→Prop} (I:Inv X pins σ H s) (e:H a=some (.ins C dx fs)) (c:Cls X.K C) (n:NoAttr X.K C f) (l:fs.lookup f=some v)
    (h:∀ u s',Inv X pins σ H s'→RelV v u→Q u s'):wpAny (model X.prog X.w) A (getAttr (.ref a) f b) Q E s:=by
  obtain ⟨mA,O,r,_,_,_⟩:=Zfk I.hok e
  obtain ⟨u,hu,ru⟩:=RelO.some_of (v:=v) (o:=mA f) (by rw [← l];exact r f)
  exact ZmN I.kIn O (c.get f) c.hd n hu (ZjB ru) (h u _ (I.tok _) ru)
theorem Zcz {m:Str}{g:Addr}{pl:Sem Bool}{Q:Value × List Value→Shared→Prop} (I:Inv X pins σ H s) (e:H a=some (.ins C dx fs)) (c:Cls X.K C) (k:Meth X.K C m g) (l:fs.lookup m=none)
    (h:Q (.ref g,[.ref a]) s):wpAny (model X.prog X.w) A (getMethod (.ref a) m pl) Q E s:=by
  obtain ⟨mA,O,r,_,_,_⟩:=Zfk I.hok e
  have hn:mA m=none:=RelO.none_of (by rw [← l];exact r m)
  exact Zk5 I.kIn O (c.get m) k.at_ k.fn hn h
theorem ZhT {y:V}{u:Value}{Q:Unit→Shared→Prop} (I:Inv X pins σ H s) (e:H a=some (.ins C dx fs)) (c:Cls X.K C) (n:NoAttr X.K C f) (hl:fs.length<1000) (ry:RelV y u)
    (h:∀ s',Inv X pins σ (upd H a (.ins C dx (putF f y fs))) s'→Q () s'):wpAny (model X.prog X.w) A (setAttr (.ref a) f u) Q E s:=by
  obtain ⟨mA,O,r,wi,_,ho⟩:=Zfk I.hok e
  have hz:(fs.map (·.1)).length≤sizeLine:=by rw [List.length_map,sizeLine_eq];omega
  refine Zl7 I.kIn O c.sa c.po n.taker c.hd wi hz fun h' O' sb=>h _ ?_
  have hd:∃ o,h'.get? dx=some o:=let ⟨o,_,_,e',_⟩:=O'.ns;⟨o,e'⟩
  refine I.write (x:=a) (e:=dx) (by rw [e];exact True.intro) (.inr ho) (fun b q hb z=>(sb.2 b hb).trans z) hd ?_
  refine ⟨by rw [Zal O.ne];exact ho,?_,O.ne,O'.obj,_,O'.ns,fun g=>?_,fun g hg=>?_⟩
  · have:=Zeb f y fs;omega
  · show RelO ((putF f y fs).lookup g) (if g=f then some u else mA g)
    rw [Zea]
    by_cases q:g=f
    · rw [if_pos q,if_pos q];exact ry
    · rw [if_neg q,if_neg q];exact r g
  · by_cases q:g=f
    · rw [q];exact (Zed f y fs).1
    · refine (Zed f y fs).2 g (wi g fun z=>hg ?_)
      show (if g=f then some u else mA g)=none
      rw [if_neg q];exact z
theorem Inv.made (I:Inv X pins σ H s):Inv X pins σ (upd (upd H s.heap.objs.size (.own (s.heap.objs.size+1))) (s.heap.objs.size+1) (.ins C s.heap.objs.size []))
    { s with heap:=(s.heap.push PySem.W.emptyDict).push (PySem.W.instObj C s.heap.objs.size) }:=by
  have e1:(s.heap.push PySem.W.emptyDict).get? s.heap.objs.size=some PySem.W.emptyDict:=Heap.get?_push_size s.heap rfl
  have e2:((s.heap.push PySem.W.emptyDict).push (PySem.W.instObj C s.heap.objs.size)).get? (s.heap.objs.size+1)=some (PySem.W.instObj C s.heap.objs.size):=by
    have:=Heap.get?_push_size (s.heap.push PySem.W.emptyDict) (o:=PySem.W.instObj C s.heap.objs.size) rfl
    rwa [Heap.size_push] at this
  have e3:(s.heap.push PySem.W.emptyDict).Ns s.heap.objs.size (fun _=>none):=⟨PySem.W.emptyDict,#[],_,e1,rfl,(fun e he=>absurd he (by simp)),fun _=>rfl⟩
  have I1:=I.laid (a:=s.heap.objs.size) (o:=.own (s.heap.objs.size+1)) (h':=s.heap.push PySem.W.emptyDict) (t':=s.toks) (fun b u q=>Heap.get?_push_of_some _ q) (Nat.le_refl _) ⟨_,e1⟩
  refine I1.laid (a:=s.heap.objs.size+1) (o:=.ins C s.heap.objs.size []) (t':=s.toks) (fun b u q=>Heap.get?_push_of_some _ q) (Nat.le_of_eq (Heap.size_push _ _)) ?_
  have ne:s.heap.objs.size≠s.heap.objs.size+1:=Nat.ne_of_lt (Nat.lt_succ_self _)
  refine ⟨by rw [Zal ne,Zad],Nat.zero_le _,ne,e2,fun _=>none,(Heap.Ns1.of_empty e3).at fun o q=>Heap.get?_push_of_some _ q,fun _=>True.intro,fun y hy=>absurd rfl hy⟩
theorem Zm4 {prog:Program}{w:World}{env:Env}{e:Expr}{f:Str}{pos:Pos}{s:Shared}{Q:Value→Shared→Prop} (hb:attributeBase e f env (eval e env)=eval e env)
    (h:wpAny (model prog w) A (eval e env) (fun o s₁=>wpAny (model prog w) A (getAttr o f true) Q E s₁) E s):wpAny (model prog w) A (eval (.Attribute e f pos) env) Q E s :=
  Attribute_any_ h (by rw [arm_eval_Attribute,hb])
end
def tFld (K:PySem.W.Frag) (ta:TE) (f:Str):TE:=fun σ H Q=>ta σ H fun x H1=>∃ a C dx fs v,x=.ref a∧H1 a=some (.ins C dx fs)∧Cls K C∧NoAttr K C f∧fs.lookup f=some v∧Q v H1
def sFld (K:PySem.W.Frag) (ta tv:TE) (f:Str):TS:=fun D σ H=>tv σ H fun y H1=>ta σ H1 fun x H2=>∃ a C dx fs,x=.ref a∧H2 a=some (.ins C dx fs)∧Cls K C∧NoAttr K C f∧fs.length<1000 ∧
  D.nx σ (upd H2 a (.ins C dx (putF f y fs)))
section
variable {X:Cx}{o e value:Expr}{f:Str}{pos pos' tpos:Pos}{ta tv:TE}
theorem ZbE (he:PE X e ta) (hb:attributeBase e f X.env (eval e X.env)=eval e X.env):PE X (.Attribute e f pos) (tFld X.K ta f):=by
  intro pins s σ H Q I h
  refine Zm4 hb (thn (he pins s σ H _ I h) fun u s1 ⟨x,H1,I1,rx,a,C,dx,fs,v,ex,ea,c,n,l,q⟩=>?_)
  subst ex
  obtain rfl:u=Value.ref a:=rx
  exact Zib I1 ea c n l fun u' s2 I2 ru=>⟨v,H1,I2,ru,q⟩
theorem Zho (ha:PE X o ta) (hv:PE X value tv) (hs:swapsWith value (some (.Attribute o f pos')) pos.line X.env=pure false):PS X (.Assign [.Attribute o f pos'] value pos) (sFld X.K ta tv f):=by
  intro pins s σ H D I h
  refine plainObj_wpAny_Assign_Attribute (thn (hv pins s σ H _ I h) fun u s1 ⟨y,H1,I1,ry,q⟩=>thn (ha pins s1 σ H1 _ I1 q) fun ov s2 ⟨x,H2,I2,rx,a,C,dx,fs,ex,ea,c,n,l,q2⟩=>?_) hs
  subst ex
  obtain rfl:ov=Value.ref a:=rx
  exact ZhT I2 ea c n l ry fun s3 I3=>⟨σ,_,I3,q2⟩
end
section
variable {X:Cx}{pins:List (Addr × Obj)}{σ:St}{H:Hp}{s:Shared}{A:Around}{E:Value→Shared→Prop}{Q:Value→Shared→Prop}{c:Value}{b:Bool}
inductive TyOf (K:PySem.W.Frag) (H:Hp):V→Value→Prop where
  | non:TyOf K H .non (.type "NoneType")
  | bl (x:Bool):TyOf K H (.bl x) (.type "bool")
  | int (i:Int):TyOf K H (.int i) (.type "int")
  | str (x:Str):TyOf K H (.str x) (.type "str")
  | flt (x:UInt64):TyOf K H (.flt x) (.type "float")
  | lst {a:Addr}{xs:List V} (e:H a=some (.lst xs)):TyOf K H (.ref a) (.type "list")
  | frz {a:Addr}{o:Obj}{xs:List V} (e:H a=some (.frz o (.lst xs))):TyOf K H (.ref a) (.type "list")
  | tup {a:Addr}{xs:List V} (e:H a=some (.tup xs)):TyOf K H (.ref a) (.type "tuple")
  | dK {a:Addr}{kvs:List (Key × V)} (e:H a=some (.dK kvs)):TyOf K H (.ref a) (.type "dict")
  | dT {a:Addr}{kvs:List (List Key × V)} (e:H a=some (.dT kvs)):TyOf K H (.ref a) (.type "dict")
  | ins {a C dx:Addr}{fs:List (Str × V)} (e:H a=some (.ins C dx fs)) (cl:Cls K C) (ha:PySem.W.findIn K (.ref C) "__class__" = some (some (.builtin "object.__class__")))
      (hn:PySem.W.specialIn K (.builtin "object.__class__") "__get__" = some (some (.builtin "getset_descriptor.__get__"))) (htk:PySem.W.takesIn K (.builtin "object.__class__")=some true)
      (hm:PySem.W.mroIn K C (.type "object")=some true):TyOf K H (.ref a) (.ref C)
theorem Zjy {x:V}{u t:Value} (I:Inv X pins σ H s) (rx:RelV x u) (ty:TyOf X.K H x t) (e:PySem.W.kitOne X.K t c=some b) (h:∀ tk,Q (.bool b) { s with toks:=tk }) :
    wpAny (model X.prog X.w) A (call (.builtin "isinstance") [u,c]) Q E s:=by
  cases ty with
  | non=>cases (show u=Value.none from rx);exact PySem.W.kia_one PySem.W.kitx_none I.kIn True.intro e (fun z=>nomatch z) h
  | bl y=>cases (show u=Value.bool y from rx);exact PySem.W.kia_one PySem.W.kitx_bool I.kIn True.intro e (fun z=>nomatch z) h
  | int i=>obtain ⟨t,q⟩:=(show ∃ t,u=Value.int i t from rx);cases q;exact PySem.W.kia_one PySem.W.kitx_int I.kIn True.intro e (fun z=>nomatch z) h
  | str y=>obtain ⟨t,q⟩:=(show ∃ t,u=Value.str y t from rx);cases q;exact PySem.W.kia_one PySem.W.kitx_str I.kIn True.intro e (fun z=>nomatch z) h
  | flt y=>obtain ⟨t,q⟩:=(show ∃ t,u=Value.float y t from rx);cases q;exact PySem.W.kia_one PySem.W.kitx_float I.kIn True.intro e (fun z=>nomatch z) h
  | @lst a xs ea =>
    cases (show u=Value.ref a from rx)
    obtain ⟨_,_,n,_,h1⟩:=(show ObjOk X.prog X.w H s.heap a (.lst xs) from I.hok a _ ea)
    exact PySem.W.kia_one PySem.W.kitx_list I.kIn ⟨_,h1,rfl⟩ e (fun z=>nomatch z) h
  | @frz a ob xs ea =>
    cases (show u=Value.ref a from rx)
    obtain ⟨_,_,_,n,_,h1⟩:=(show ObjOk X.prog X.w H s.heap a (.frz ob (.lst xs)) from I.hok a _ ea)
    exact PySem.W.kia_one PySem.W.kitx_list I.kIn ⟨_,h1,rfl⟩ e (fun z=>nomatch z) h
  | @tup a xs ea =>
    cases (show u=Value.ref a from rx)
    obtain ⟨_,_,_,p⟩:=(show ObjOk X.prog X.w H s.heap a (.tup xs) from I.hok a _ ea)
    obtain ⟨o,h1,h2,_⟩:=p
    exact PySem.W.kia_one PySem.W.kitx_tuple I.kIn ⟨o,h1,h2⟩ e (fun z=>nomatch z) h
  | @dK a kvs ea =>
    cases (show u=Value.ref a from rx)
    obtain ⟨_,_,vs,_,p⟩:=(show ObjOk X.prog X.w H s.heap a (.dK kvs) from I.hok a _ ea)
    obtain ⟨o,es,ep,h1,h2,_⟩:=p
    exact PySem.W.kia_one PySem.W.kitx_dict I.kIn ⟨o,h1,h2.1⟩ e (fun z=>nomatch z) h
  | @dT a kvs ea =>
    cases (show u=Value.ref a from rx)
    obtain ⟨_,_,xs,_,o,es,ep,h1,h2,_⟩:=(show ObjOk X.prog X.w H s.heap a (.dT kvs) from I.hok a _ ea)
    exact PySem.W.kia_one PySem.W.kitx_dict I.kIn ⟨o,h1,h2.1⟩ e (fun z=>nomatch z) h
  | @ins a C dx fs ea cl ha hn htk hm =>
    cases (show u=Value.ref a from rx)
    obtain ⟨mA,O,_⟩:=Zfk I.hok ea
    obtain ⟨od,J,_⟩:=O.look
    exact PySem.W.kia_one (PySem.W.kitx_own (cl.get _) cl.hd ha hn htk hm) I.kIn J e (fun z=>nomatch z) h
end
structure Room (k:Nat) (A:Around):Prop where
  hd:A.handled=none
  dp:A.depth+3 * k+5<recursionLimit
  un:A.units+16 * k+200<cLine
  gd:A.guards=some []
theorem Room.mono {j k:Nat}{A:Around} (r:Room k A) (h:j≤k):Room j A:=⟨r.hd,by have:=r.dp;omega,by have:=r.un;omega,r.gd⟩
theorem Room.deeper {k:Nat}{A:Around} (r:Room (k+1) A) (env:Env):Room k (A.deeper env) :=
  ⟨r.hd,by have:=r.dp;show A.depth+1+3 * k+5<_;omega,by have:=r.un;show A.units+3+16 * k+200<_;omega,r.gd⟩
theorem Zia {A:Around}{C:Addr}{us:List Value}{kw:List (Str × Value)}:(A.under (.builtin "type.__call__" ⟨.ref C :: us,kw⟩)).depth=A.depth+1:=by
  first | rfl | simp [Around.under,Code.weight,Code.isCreation,Code.isGuard,Code.isCaller,Code.frames,Code.isFrame,guardIds]
theorem Zh9 {A:Around}{C:Addr}{us:List Value}{kw:List (Str × Value)}:(A.under (.builtin "type.__call__" ⟨.ref C :: us,kw⟩)).units=A.units+1:=by
  first | rfl | simp [Around.under,Code.cUnits,Code.frames,Code.isFrame]
theorem Room.make {k:Nat}{A:Around} (r:Room (k+1) A) (C:Addr) (us:List Value) (kw:List (Str × Value)):Room k (A.under (.builtin "type.__call__" ⟨.ref C :: us,kw⟩)) :=
  ⟨r.hd,by have:=r.dp;rw [Zia];omega,by have:=r.un;rw [Zh9];omega,by first | exact r.gd | (rw [← r.gd];rfl) | (simp only [Around.under];rw [r.gd];rfl)⟩
theorem Room.depth {k:Nat}{A:Around} (r:Room k A):A.depth<recursionLimit:=by have:=r.dp;omega
theorem Room.units {k:Nat}{A:Around} (r:Room k A):A.units+64<cLine:=by have:=r.un;omega
def tNil:TA:=fun _ H Q=>Q [] H
def ZbL (ta:TE) (tr:TA):TA:=fun σ H Q=>ta σ H fun x H1=>tr σ H1 fun xs H2=>Q (x :: xs) H2
section
variable {X:Cx}{e:Expr}{es:List Expr}{te:TE}{t:TA}{pos:Pos}
theorem Zab:PA X [] tNil:=fun _ _ _ _ H Q I h=>Calls.spliced_nil ⟨[],H,I,.nil,h⟩
theorem Zaa (ha:PE X e te) (hr:PA X es t) (hs:starEach (e :: es) X.env=(false,eval e X.env) :: starEach es X.env:=by rfl):PA X (e :: es) (ZbL te t):=by
  intro pos pins s σ H Q I h
  rw [hs]
  show wpAny _ _ (spliced ((false,eval e X.env) :: backTo pos (starEach es X.env))) _ _ s
  refine Calls.spliced_cons (thn (ha pins s σ H _ I h) fun u s1 ⟨x,H1,I1,r1,q1⟩=>?_)
  exact thn (hr pos pins s1 σ H1 _ I1 q1) fun us s2 ⟨xs,H2,I2,r2,q2⟩=>⟨x :: xs,H2,I2,.cons r1 r2,q2⟩
def tTup (t:TA):TE:=fun σ H Q=>t σ H fun xs H1=>xs.length≤sizeLine∧∀ p,H1 p=none→Q (.ref p) (upd H1 p (.tup xs))
def tLst (t:TA):TE:=fun σ H Q=>t σ H fun xs H1=>xs.length≤sizeLine∧∀ p,H1 p=none→Q (.ref p) (upd H1 p (.lst xs))
theorem Zbn {x1} (h:PA X es t):PE X (.Tuple es x1 pos) (tTup t):=by
  intro pins s σ H Q I hq
  refine wpAny_Tuple_spliced (thn (h pos pins s σ H _ I hq) fun us s1 ⟨xs,H1,I1,r,z,q⟩=>⟨by rw [← r.length];exact z,?_⟩)
  have hf:H1 s1.heap.objs.size=none:=I1.hok.fresh (Nat.le_refl _)
  refine ⟨.ref s1.heap.objs.size,upd H1 s1.heap.objs.size (.tup xs),I1.laid (t':=s1.toks) (fun b u e=>Heap.get?_push_of_some _ e) (Nat.le_refl _) ?_,rfl,q _ hf⟩
  exact ⟨z,us,r,⟨_,Heap.get?_push_size _ rfl,rfl,_,rfl⟩⟩
theorem ZaF (h:PA X es t):PE X (.List es pos) (tLst t):=by
  intro pins s σ H Q I hq
  refine wpAny_List_spliced (thn (h pos pins s σ H _ I hq) fun us s1 ⟨xs,H1,I1,r,z,q⟩=>⟨by rw [← r.length];exact z,?_⟩)
  have hf:H1 s1.heap.objs.size=none:=I1.hok.fresh (Nat.le_refl _)
  refine ⟨.ref s1.heap.objs.size,upd H1 s1.heap.objs.size (.lst xs),I1.laid (t':=s1.toks) (fun b u e=>Heap.get?_push_of_some _ e) (Nat.le_refl _) ?_,rfl,q _ hf⟩
  exact ⟨z,us,0,r,Heap.get?_push_size _ rfl⟩
end
abbrev Sp:=List V→Hp→VK→XK→Prop
abbrev CXT:=List Env→Hp→Shared→XK→Value→Shared→Prop
structure Env0 (P:Program) (w:World) (K:PySem.W.Frag) (mg:Str→Option Value) (base:Heap) (A:Around) (outer:List Env) (s:Shared) (H:Hp):Prop where
  frames:A.frames=some outer
  mod:Mod K mg base
  bs:∀ b o,base.get? b=some o→s.heap.get? b=some o∧H b=none
  bsz:base.objs.size≤s.heap.objs.size
  funs:s.heap.FunFrames base outer
  frf:∀ b∈frs outer,H b=none
  hok:HOk P w H s.heap
  bare:AllBare s.gens
def CE (outer:List Env) (P:Program) (w:World) (H:Hp) (s:Shared) (Q:VK) (u:Value) (s':Shared):Prop :=
  ∃ v H',s'.os=s.os∧AllBare s'.gens∧Un (frs outer) [] H H' s.heap s'.heap∧HOk P w H' s'.heap∧RelV v u∧Q v H'
def CR (CX:CXT) (outer:List Env) (P:Program) (w:World) (H:Hp) (s:Shared) (Q:VK) (E:XK) (r:Result) (s':Shared):Prop :=
  match r with
  | .ok (.ret u)=>CE outer P w H s Q u s'
  | .ok _=>False
  | .error e=>CX outer H s E e s'
structure FnOk (P:Program) (w:World) (K:PySem.W.Frag) (mg:Str→Option Value) (base:Heap) (CX:CXT) (k:Nat) (f:Addr) (fd:FuncData) (ps:List Str) (sp:Sp):Prop where
  len:∀ vs H Q E,sp vs H Q E→vs.length=ps.length
  run:∀ (A:Around) (outer:List Env) (s:Shared) (H:Hp) (args:Args) (us:List Value) (vs:List V) (Q:VK) (E:XK),Room k A→Env0 P w K mg base A outer s H→BindsTo s fd args (ps.zip us)→Vals vs us→sp vs H Q E →
    codeAny (model P w) A (.call (.ref f) args) (CR CX outer P w H s Q E) s
theorem FnOk.mono {P:Program}{w:World}{K:PySem.W.Frag}{mg:Str→Option Value}{base:Heap}{CX:CXT}{j k:Nat}{f:Addr}{fd:FuncData}{ps:List Str}{sp:Sp} (F:FnOk P w K mg base CX j f fd ps sp) (h:j≤k) :
    FnOk P w K mg base CX k f fd ps sp:=⟨F.len,fun A outer s H args us vs Q E hr=>F.run A outer s H args us vs Q E (hr.mono h)⟩
theorem Env0.make {P:Program}{w:World}{K:PySem.W.Frag}{mg:Str→Option Value}{base:Heap}{A:Around}{outer:List Env}{s:Shared}{H:Hp} (e:Env0 P w K mg base A outer s H) (C:Addr) (us:List Value) (kw:List (Str × Value)) :
    Env0 P w K mg base (A.under (.builtin "type.__call__" ⟨.ref C :: us,kw⟩)) outer s H:=⟨by first | exact e.frames | (simpa [Around.under,Code.envs,Code.isFrame,pushEnvs] using e.frames),e.mod,e.bs,e.bsz,e.funs,e.frf,e.hok,e.bare⟩
section
variable {X:Cx}{pins:List (Addr × Obj)}{σ:St}{H:Hp}{s s':Shared}
theorem Inv.env0 (I:Inv X pins σ H s):Env0 X.prog X.w X.K X.mg X.base X.A X.stack s H :=
  ⟨I.ok.frames,I.ok.mod,I.bs,Nat.le_trans I.ok.bsz I.sz,I.stack,I.stkFree,I.hok,I.bare⟩
theorem Inv.after {Q:VK}{u:Value} (I:Inv X pins σ H s) (h:CE X.stack X.prog X.w H s Q u s'):EP X pins σ Q u s':=by
  obtain ⟨v,H',os,bare,un,hok,r,q⟩:=h
  obtain ⟨hh,g,d,t,os'⟩:=s'
  obtain rfl:os'=s.os:=os
  exact ⟨v,H',I.call (h':=hh) (g':=g) (d':=d) (t':=t) (ch:=[]) un hok bare (fun b z=>absurd z (by simp)),r,q⟩
end
def Zl3 (sp:Sp) (dvs:List V) (E:XK) (t:TA):TE:=fun σ H Q=>t σ H fun vs H1=>sp (vs ++ dvs) H1 Q E
def Zkp (C:Addr) (m:Str) (sp:Sp) (dvs:List V) (E:XK) (ta:TE) (t:TA):TE:=fun σ H Q=>ta σ H fun x H1=>∃ a dx fs,x=.ref a∧H1 a=some (.ins C dx fs)∧fs.lookup m=none ∧
  t σ H1 fun vs H2=>sp (x :: (vs ++ dvs)) H2 Q E
def Zne (C:Addr) (sp:Sp) (dvs:List V) (E:XK) (t:TA):TE:=fun σ H Q=>t σ H fun vs H1=>∀ x dx,H1 x=none→H1 dx=none→dx≠x →
  sp (.ref x :: (vs ++ dvs)) (upd (upd H1 dx (.own x)) x (.ins C dx [])) (fun v H2=>v=.non∧Q (.ref x) H2) E
def Binds (K:PySem.W.Frag) (fd:FuncData) (ps:List Str) (ds:List Value):Prop :=
  ∀ (s:Shared) (us:List Value),K.In s.heap→(us ++ ds).length=ps.length→BindsTo s fd ⟨us,[]⟩ (ps.zip (us ++ ds))
theorem Binds.all {K:PySem.W.Frag}{fd:FuncData}{ps:List Str} (h:∀ us:List Value,us.length=ps.length→bindArgs fd ⟨us,[]⟩=pure (ps.zip us)):Binds K fd ps []:=fun s us _ hl=>by
  rw [List.append_nil] at hl ⊢
  exact .of_eq (h us hl)
def Zew (CX:CXT) (X:Cx) (E:XK):Prop:=∀ (pins:List (Addr × Obj)) (σ:St) (H:Hp) (s:Shared) (e:Value) (s':Shared),Inv X pins σ H s→CX X.stack H s E e s'→X.xe e s'
section
variable {X:Cx}{CX:CXT}{k:Nat}{f C:Addr}{fd:FuncData}{ps:List Str}{sp:Sp}{dvs:List V}{ds:List Value}{E:XK}{x m:Str}{p pos apos:Pos}{e o:Expr}{es:List Expr}{ta:TE}{t:TA}
theorem ZiK {pins:List (Addr × Obj)}{σ:St}{H:Hp}{s:Shared}{Q:VK}{us:List Value}{vs:List V} (F:FnOk X.prog X.w X.K X.mg X.base CX k f fd ps sp) (hr:Room k X.A) (hb:Binds X.K fd ps ds) (hd:Vals dvs ds) (hx:Zew CX X E)
    (I:Inv X pins σ H s) (r:Vals vs us) (h:sp (vs ++ dvs) H Q E):wpAny (model X.prog X.w) X.A (call (.ref f) us) (EP X pins σ Q) X.xe s:=by
  have r2:Vals (vs ++ dvs) (us ++ ds):=r.append hd
  have hl:(us ++ ds).length=ps.length:=by rw [← r2.length];exact F.len _ _ _ _ h
  refine wpAny_call (codeAny_mono (F.run X.A X.stack s H ⟨us,[]⟩ (us ++ ds) (vs ++ dvs) Q E hr I.env0 (hb s us I.kIn hl) r2 h) fun r s' hq=>?_)
  cases r with
  | error e=>exact hx pins σ H s e s' I hq
  | ok fl =>
    cases fl with
    | ret u=>exact I.after hq
    | next=>exact False.elim hq
    | brk=>exact False.elim hq
    | cont=>exact False.elim hq
theorem Zmn (F:FnOk X.prog X.w X.K X.mg X.base CX k f fd ps sp) (hr:Room k X.A) (hg:Gl X x) (hm:X.mg x=some (.ref f)) (hk:PySem.W.keepIn X.K (.ref f)=true) (hb:Binds X.K fd ps ds) (hd:Vals dvs ds) (hx:Zew CX X E)
    (ha:PA X (e :: es) t) (hdb:(x == ("__debug__" : Str))=false:=by decide) (he:starEach (e :: es) X.env=(false,eval e X.env) :: starEach es X.env:=by rfl) (hpl:(backTo pos (starEach es X.env)).any (·.1)=false:=by rfl) :
    PE X (.Call (.Name x p) (e :: es) [] pos) (Zl3 sp dvs E t):=by
  intro pins s σ H Q I h
  refine wpAny_Call_Name_kw (ZcM I hg hm ?_ hdb)
  refine PySem.W.callWith_K (h₀:=X.base) I.ok.mod.kin hk (thn (ha pos pins s σ H _ I h) fun us s1 ⟨vs,H1,I1,r,q⟩=>⟨I1.kIn,?_⟩) he hpl
  exact ZiK F hr hb hd hx I1 r q
theorem Zmk {pl:Sem Bool} (he:PE X o ta) (c:Cls X.K C) (hm:Meth X.K C m f) (F:FnOk X.prog X.w X.K X.mg X.base CX k f fd ps sp) (hr:Room k X.A) (hb:Binds X.K fd ps ds) (hd:Vals dvs ds) (hx:Zew CX X E) (ha:PA X (e :: es) t)
    (hst:starEach (e :: es) X.env=(false,eval e X.env) :: starEach es X.env:=by rfl) (hpl:(backTo pos (starEach es X.env)).any (·.1)=false:=by rfl)
    (ht:eval (.Call (.Attribute o m apos) (e :: es) [] pos) X.env=(do
      let ov ← eval o X.env
      standAt apos.atName
      let (f,first) ← holding [ov] (getMethod ov m pl)
      callWith pos f first (backTo pos (starEach (e :: es) X.env)) (backToKw pos (keywordEach [] X.env))):=by rfl) :
    PE X (.Call (.Attribute o m apos) (e :: es) [] pos) (Zkp C m sp dvs E ta t):=by
  intro pins s σ H Q I h
  refine PySem.W.methodCall_KW (pl:=pl) (thn (he pins s σ H _ I h) fun u s1 ⟨x,H1,I1,rx,a,dx,fs,ex,ea,l,q⟩=>?_) ht
  subst ex
  obtain rfl:u=Value.ref a:=rx
  refine Zcz I1 ea c hm l ?_
  refine PySem.W.callWith_K (first:=[.ref a]) (h₀:=X.base) I.ok.mod.kin hm.kp (thn (ha pos pins s1 σ H1 _ I1 q) fun us s2 ⟨vs,H2,I2,r,q2⟩=>⟨I2.kIn,?_⟩) hst hpl
  exact ZiK (us:=.ref a :: us) (vs:=.ref a :: vs) F hr hb hd hx I2 (.cons rfl r) q2
theorem ZkF {pl:Sem Bool} (he:PE X o ta) (c:Cls X.K C) (hm:Meth X.K C m f) (F:FnOk X.prog X.w X.K X.mg X.base CX k f fd ps sp) (hr:Room k X.A) (hb:Binds X.K fd ps ds) (hd:Vals dvs ds) (hx:Zew CX X E)
    (ht:eval (.Call (.Attribute o m apos) [] [] pos) X.env=(do
      let ov ← eval o X.env
      standAt apos.atName
      let (f,first) ← holding [ov] (getMethod ov m pl)
      callWith pos f first (backTo pos (starEach [] X.env)) (backToKw pos (keywordEach [] X.env))):=by rfl) :
    PE X (.Call (.Attribute o m apos) [] [] pos) (Zkp C m sp dvs E ta tNil):=by
  intro pins s σ H Q I h
  refine PySem.W.methodCall_KW (pl:=pl) (thn (he pins s σ H _ I h) fun u s1 ⟨x,H1,I1,rx,a,dx,fs,ex,ea,l,q⟩=>?_) ht
  subst ex
  obtain rfl:u=Value.ref a:=rx
  refine Zcz I1 ea c hm l ?_
  exact PySem.W.callWith_K0 (first:=[.ref a]) I1.kIn hm.kp (ZiK (us:=[.ref a]) (vs:=[.ref a]) F hr hb hd hx I1 (.cons rfl .nil) q)
structure Mk (K:PySem.W.Frag) (C f:Addr):Prop where
  makes:PySem.W.makesIn K C=true
  init:PySem.W.findIn K (.ref C) "__init__" = some (some (.ref f))
  fn:PySem.W.isFn K (.ref f)=true
  kp:PySem.W.keepIn K (.ref C)=true
theorem Zky {pins:List (Addr × Obj)}{σ:St}{H:Hp}{s:Shared}{Q:VK}{us:List Value}{vs:List V} (M:Mk X.K C f) (F:FnOk X.prog X.w X.K X.mg X.base CX k f fd ps sp) (hr:Room (k+1) X.A) (hb:Binds X.K fd ps ds) (hd:Vals dvs ds)
    (hx:Zew CX X E) (I:Inv X pins σ H s) (r:Vals vs us)
    (h:∀ x dx,H x=none→H dx=none→dx≠x→sp (.ref x :: (vs ++ dvs)) (upd (upd H dx (.own x)) x (.ins C dx [])) (fun v H2=>v=.non∧Q (.ref x) H2) E) :
    wpAny (model X.prog X.w) X.A (call (.ref C) us) (EP X pins σ Q) X.xe s:=by
  have hq:=h (s.heap.objs.size+1) s.heap.objs.size (I.hok.fresh (Nat.le_succ _)) (I.hok.fresh (Nat.le_refl _)) (Nat.ne_of_lt (Nat.lt_succ_self _))
  have I2:=Inv.made (C:=C) I
  have r2:Vals (V.ref (s.heap.objs.size+1) :: (vs ++ dvs)) (Value.ref (s.heap.objs.size+1) :: (us ++ ds)):=.cons rfl (r.append hd)
  have hl:(Value.ref (s.heap.objs.size+1) :: us ++ ds).length=ps.length:=by
    have e:=r2.length
    rw [F.len _ _ _ _ hq] at e
    exact e.symm
  refine wpAny_call (Zhr (f:=f) I.kIn M.makes M.init (beq_iff_eq.mp M.fn) (codeAny_mono (F.run _ X.stack _ _ ⟨Value.ref (s.heap.objs.size+1) :: us,[]⟩ (Value.ref (s.heap.objs.size+1) :: (us ++ ds)) _ _ E (hr.make C us [])
    (I2.env0.make C us []) (hb _ (Value.ref (s.heap.objs.size+1) :: us) I2.kIn hl) r2 hq) fun r s' hq'=>?_))
  cases r with
  | error e=>exact hx pins σ _ _ e s' I2 hq'
  | ok fl =>
    cases fl with
    | ret u =>
      obtain ⟨v,H',I3,rv,ev,q3⟩:=I2.after hq'
      subst ev
      exact ⟨rv,⟨V.ref (s.heap.objs.size+1),H',I3,rfl,q3⟩⟩
    | next=>exact False.elim hq'
    | brk=>exact False.elim hq'
    | cont=>exact False.elim hq'
theorem Zmm (M:Mk X.K C f) (F:FnOk X.prog X.w X.K X.mg X.base CX k f fd ps sp) (hr:Room (k+1) X.A) (hg:Gl X x) (hm:X.mg x=some (.ref C)) (hb:Binds X.K fd ps ds) (hd:Vals dvs ds) (hx:Zew CX X E)
    (ha:PA X (e :: es) t) (hdb:(x == ("__debug__" : Str))=false:=by decide) (he:starEach (e :: es) X.env=(false,eval e X.env) :: starEach es X.env:=by rfl) (hpl:(backTo pos (starEach es X.env)).any (·.1)=false:=by rfl) :
    PE X (.Call (.Name x p) (e :: es) [] pos) (Zne C sp dvs E t):=by
  intro pins s σ H Q I h
  refine wpAny_Call_Name_kw (ZcM I hg hm ?_ hdb)
  refine PySem.W.callWith_K (h₀:=X.base) I.ok.mod.kin M.kp (thn (ha pos pins s σ H _ I h) fun us s1 ⟨vs,H1,I1,r,q⟩=>⟨I1.kIn,?_⟩) he hpl
  exact Zky M F hr hb hd hx I1 r q
end
def PK (X:Cx) (kws:List Keyword) (t:TA):Prop :=
  ∀ (pos:Pos) (pins:List (Addr × Obj)) (s:Shared) (σ:St) (H:Hp) (Q:List V→Hp→Prop),Inv X pins σ H s→t σ H Q→wpAny (model X.prog X.w) X.A (evalAll ((backToKw pos (keywordEach kws X.env)).map (·.2))) (AP X pins σ Q) X.xe s
section
variable {X:Cx}{CX:CXT}{k:Nat}{f C:Addr}{fd:FuncData}{ps ks:List Str}{sp:Sp}{E:XK}{x m:Str}{p pos apos kpos:Pos}{e o:Expr}{es:List Expr}{kws:List Keyword}{te ta:TE}{t tk:TA}{nm:Option Str}
theorem ZlD:PK X [] tNil:=fun _ _ _ _ H Q I h=>wpAny_evalAll_nil ⟨[],H,I,.nil,h⟩
theorem ZiS (ha:PE X e te) (hr:PK X kws t):PK X (⟨nm,e,kpos⟩ :: kws) (ZbL te t):=by
  intro pos pins s σ H Q I h
  show wpAny _ _ (evalAll ((do let v ← eval e X.env;standAt pos;pure v) :: (backToKw pos (keywordEach kws X.env)).map (·.2))) _ _ s
  refine wpAny_evalAll_cons (wpAny_bind (thn (ha pins s σ H _ I h) fun u s1 ⟨x,H1,I1,r1,q1⟩=>wpAny_bind (wpAny_standAt (wpAny_pure ?_))))
  exact thn (hr pos pins s1 σ H1 _ I1 q1) fun us s2 ⟨xs,H2,I2,r2,q2⟩=>⟨x :: xs,H2,I2,.cons r1 r2,q2⟩
variable {g:List Value→List Value→List Value}{gV:List V→List V→List V}
end
structure FnScope (N P:List Str) (sc:Scope):Prop where
  kind:sc.kind=.function
  co:sc.isCoroutine=false
  gen:sc.isGenerator=false
  nd:N.Nodup
  pre:N.take P.length=P
  par:∀ x∈P,sc.names.lookup x=some .local∨sc.names.lookup x=some .cell
  nofree:∀ y∈sc.names,y.2≠.free
theorem Zgm {kindOf:Str→Option NameKind}{x:Str}:∀ {binds:List (Str × Value)}{m:Str→Option Value},(∀ v,(x,v)∉binds)→bindL kindOf binds m x=m x
  | [],_,_=>rfl
  | (n,v) :: r,m,h=>by
    unfold bindL
    rw [Zgm fun w hw=>h w (List.mem_cons_of_mem _ hw)]
    split
    · have:x≠n:=by rintro rfl;exact h v List.mem_cons_self
      simp [this]
    · rfl
theorem Zgo {kindOf:Str→Option NameKind}{x:Str}:∀ {binds:List (Str × Value)}{m:Str→Option Value},(∀ v,(x,v)∉binds)→bindC kindOf binds m x=m x
  | [],_,_=>rfl
  | (n,v) :: r,m,h=>by
    unfold bindC
    rw [Zgo fun w hw=>h w (List.mem_cons_of_mem _ hw)]
    split
    · rfl
    · have:x≠n:=by rintro rfl;exact h v List.mem_cons_self
      simp [this]
theorem Zgn {kindOf:Str→Option NameKind}{x:Str}{v:Value}:∀ {P:List Str}{vs:List Value}{i:Nat}{m:Str→Option Value},P.Nodup→P[i]? = some x→vs[i]? = some v→kindOf x=some .local →
    bindL kindOf (P.zip vs) m x=some v
  | [],_,_,_,_,h,_,_=>by simp at h
  | _ :: _,[],_,_,_,_,h,_=>by simp at h
  | p :: P,w :: vs,0,m,nd,h1,h2,hk=>by
    simp at h1 h2;subst h1;subst h2
    show bindL kindOf ((p,w) :: P.zip vs) m p=_
    unfold bindL
    rw [Zgm fun v hv=>(List.nodup_cons.mp nd).1 (List.of_mem_zip hv).1,if_pos hk]
    simp
  | p :: P,w :: vs,i+1,m,nd,h1,h2,hk=>by
    show bindL kindOf ((p,w) :: P.zip vs) m x=_
    unfold bindL
    exact Zgn (i:=i) (List.nodup_cons.mp nd).2 (by simpa using h1) (by simpa using h2) hk
theorem Zgp {kindOf:Str→Option NameKind}{x:Str}{v:Value}:∀ {P:List Str}{vs:List Value}{i:Nat}{m:Str→Option Value},P.Nodup→P[i]? = some x→vs[i]? = some v→kindOf x≠some .local →
    bindC kindOf (P.zip vs) m x=some v
  | [],_,_,_,_,h,_,_=>by simp at h
  | _ :: _,[],_,_,_,_,h,_=>by simp at h
  | p :: P,w :: vs,0,m,nd,h1,h2,hk=>by
    simp at h1 h2;subst h1;subst h2
    show bindC kindOf ((p,w) :: P.zip vs) m p=_
    unfold bindC
    rw [Zgo fun v hv=>(List.nodup_cons.mp nd).1 (List.of_mem_zip hv).1,if_neg hk]
    simp
  | p :: P,w :: vs,i+1,m,nd,h1,h2,hk=>by
    show bindC kindOf ((p,w) :: P.zip vs) m x=_
    unfold bindC
    exact Zgp (i:=i) (List.nodup_cons.mp nd).2 (by simpa using h1) (by simpa using h2) hk
def Zdb (N:List Str) (vs:List V):St:=vs.map some ++ List.replicate (N.length - vs.length) none
def cxOf (CX:CXT) (P:Program) (w:World) (K:PySem.W.Frag) (mg:Str→Option Value) (base:Heap) (N:List Str) (qual:Str) (scope:Scope) (f:Addr) (cd:Value) (A:Around) (outer:List Env) (s:Shared) (H:Hp) (E:XK):Cx where
  prog:=P
  w:=w
  K:=K
  mg:=mg
  base:=base
  A:=A.deeper (envOfC qual scope s.heap.objs.size f cd)
  N:=N
  s₀:=s
  H₀:=H
  env:=envOfC qual scope s.heap.objs.size f cd
  outer:=outer
  stack:=envOfC qual scope s.heap.objs.size f cd :: outer
  ex:=[]
  calm:=true
  fn:=fun _=>true
  pn:=[]
  xe:=fun e s'=>wpAny (model P w) (A.deeper (envOfC qual scope s.heap.objs.size f cd)) (leaving (envOfC qual scope s.heap.objs.size f cd) e) (fun _ s''=>CX outer H s E e s'') (fun e' s''=>CX outer H s E e' s'') s'
theorem ZhK {sc:Scope}{n:Nat}{x:Str} (h:sc.names.lookup x=some .cell):∃ c,(cellsFrom n sc.names []).lookup x=some c:=by
  have q:=PySem.W.cellsFrom_some sc.names n [] (.inl h)
  exact Option.isSome_iff_exists.mp q
theorem Zjz {CX:CXT}{P:Program}{w:World}{K:PySem.W.Frag}{mg:Str→Option Value}{base:Heap}{N ps:List Str}{qual:Str}{scope:Scope}{f:Addr}{cd:Value}{A:Around}{outer:List Env}{s s1:Shared}{H:Hp}{E:XK}{us:List Value}{vs:List V}
    (S:FnScope N ps scope) (hd:A.handled=none) (e0:Env0 P w K mg base A outer s H) (hl:vs.length=ps.length) (r:Vals vs us)
    (x:InCallC s s.heap.objs.size (bindL (envOfC qual scope s.heap.objs.size f cd).kindOf (ps.zip us) fun _=>none) (cellsFrom (s.heap.objs.size+1) scope.names []) (bindC (envOfC qual scope s.heap.objs.size f cd).kindOf (ps.zip us) fun _=>none) s1) :
    Inv (cxOf CX P w K mg base N qual scope f cd A outer s H E) [] (Zdb N vs) H s1:=by
  have hpl:ps.length≤N.length:=by have:=congrArg List.length S.pre;rw [List.length_take] at this;omega
  obtain ⟨h1,tk,rfl,hk⟩:=x.done
  have noA:∀ b:Addr,b∉(cxOf CX P w K mg base N qual scope f cd A outer s H E).ex:=fun b z=>absurd (show b∈([]:List Addr) from z) (by simp)
  refine ⟨⟨e0.mod,S.kind,rfl,rfl,Nat.le_refl _,fun y z c h1 h2=>?_,fun y hy=>?_,fun y c _ h=>?_,fun _=>hd,Around.frames_deeper e0.frames,.inr ⟨rfl,rfl⟩,fun b z=>absurd z (noA b),e0.bs,e0.bsz,fun b _ _=>noA b,fun b z=>absurd z (noA b),e0.funs,e0.frf⟩,
    rfl,e0.bare,Un.kept hk,⟨_,x.toInCall.ns,fun i y v h1 h2 h3=>?_⟩,fun y c h=>⟨_,x.cell y c h⟩,e0.hok.fresh (Nat.le_refl _),fun y c h=>?_,fun p hp=>absurd (show p∈([]:List (Addr × Obj)) from hp) (by simp),e0.hok.kept hk,?_⟩
  · exact name_of_addr x.apart (PySem.mem_of_lookup h1) (PySem.mem_of_lookup h2)
  · have hy:scope.names.lookup y=some .cell∨scope.names.lookup y=some .free:=hy
    rcases hy with hy | hy
    · exact ZhK hy
    · exact absurd rfl (S.nofree _ (PySem.mem_of_lookup hy))
  · exact Nat.le_of_lt (x.above y c (PySem.mem_of_lookup h))
  · have hi:i<vs.length:=by
      unfold Zdb at h2
      by_cases hi:i<vs.length
      · exact hi
      · rw [List.getElem?_append_right (by simpa using hi)] at h2
        rw [List.getElem?_replicate] at h2
        split at h2 <;> cases h2
    have ha:vs[i]? = some v:=by
      unfold Zdb at h2
      rw [List.getElem?_append_left (by simpa using hi),List.getElem?_map] at h2
      cases e:vs[i]? with
      | none=>rw [e] at h2;cases h2
      | some a=>rw [e] at h2;cases h2;rfl
    obtain ⟨u,hu,rv⟩:=r.get ha
    have hp:ps[i]? = some y:=by
      rw [← S.pre,List.getElem?_take_of_lt (by omega)];exact h1
    have ndP:ps.Nodup:=by rw [← S.pre];exact S.nd.sublist (List.take_sublist _ _)
    refine ⟨u,rv,?_⟩
    rcases S.par y (List.mem_of_getElem? hp) with k | k
    · exact .inl ⟨k,Zgn ndP hp hu k⟩
    · obtain ⟨c,e⟩:=ZhK (n:=s.heap.objs.size+1) k
      refine .inr ⟨.inl k,c,e,?_⟩
      have q:=x.cell y c e
      rw [Zgp ndP hp hu (by show scope.names.lookup y≠_;rw [k];decide)] at q
      exact q
  · exact e0.hok.fresh (Nat.le_of_lt (x.above y c (PySem.mem_of_lookup h)))
  · unfold Zdb
    show _=N.length
    rw [List.length_append,List.length_map,List.length_replicate]
    omega
theorem ZmQ {CX:CXT}{P:Program}{w:World}{K:PySem.W.Frag}{mg:Str→Option Value}{base:Heap}{k:Nat}{f:Addr}{name qual:Str}{params:Arguments}{body:List Stmt}{scope:Scope}{dV kV doc pm cdv ct oc:Value}{an od:Option Addr}
    {osl:Array (Option Value)}{N ps:List Str}{sp:Sp} (lk:K.lookup f=some ⟨oc,od,.func (PySem.W.fnOf name qual params body scope dV kV doc pm an cdv ct),osl⟩) (hcd:PySem.W.codeIn K cdv qual=true) (S:FnScope N ps scope)
    (len:∀ vs H Q E,sp vs H Q E→vs.length=ps.length)
    (hbody:∀ (A:Around) (outer:List Env) (s:Shared) (H:Hp) (vs:List V) (Q:VK) (E:XK),Room k (A.deeper (envOfC qual scope s.heap.objs.size f cdv))→sp vs H Q E →
      ∃ t,PSs (cxOf CX P w K mg base N qual scope f cdv A outer s H E) body t∧t { nx:=fun _ H'=>Q .non H',rt:=Q } (Zdb N vs) H) :
    FnOk P w K mg base CX (k+1) f (PySem.W.fnOf name qual params body scope dV kV doc pm an cdv ct) ps sp:=by
  refine ⟨len,fun A outer s H args us vs Q E hr e0 hb r hsp=>?_⟩
  have hl:=len _ _ _ _ hsp
  have KX:K.In s.heap:=e0.mod.kin.keeps fun b o e=>(e0.bs b o e).1
  have lim:s.heap.NoLimit:=e0.mod.nolimit.keeps fun b o e=>(e0.bs b o e).1
  have hkind:∀ y∈ps.zip us,scope.names.lookup y.1=some .local∨(scope.names.lookup y.1=some .cell∧((cellsFrom (s.heap.objs.size+1) scope.names []).lookup y.1).isSome=true):=fun ⟨n,v⟩ hy=>by
    rcases S.par n (List.of_mem_zip hy).1 with q | q
    · exact .inl q
    · exact .inr ⟨q,PySem.W.cellsFrom_some _ _ _ (.inl q)⟩
  refine codeAny_call_function hr.depth (KX _ _ lk) rfl S.co S.gen rfl (PySem.W.codeRec_of KX hcd) (hb _ _ _ _ ?_)
  refine wpAny_newFunctionEnv_cells S.kind hkind fun env he s1 x=>?_
  subst he
  refine ⟨lim.keeps x.toInCall.keep,codeAny_func ?_⟩
  obtain ⟨t,ht,hq⟩:=hbody A outer s H vs Q E (hr.deeper _) hsp
  have I:Inv (cxOf CX P w K mg base N qual scope f cdv A outer s H E) [] (Zdb N vs) H s1:=Zjz S hr.hd e0 hl r x
  refine wpAny_mono (ht [] s1 (Zdb N vs) H _ I hq) (fun fl s' hs=>?_) fun e s' hs=>hs
  have fin:∀ {σ':St}{H':Hp}{v:V}{u:Value},Inv (cxOf CX P w K mg base N qual scope f cdv A outer s H E) [] σ' H' s'→RelV v u→Q v H'→CE outer P w H s Q u s' :=
    fun {σ' H' v u} J rv q=>⟨v,H',J.os,J.bare,J.base,J.hok,rv,q⟩
  cases fl with
  | ret u =>
    obtain ⟨v,σ',H',J,rv,q⟩:=hs
    exact fin J rv q
  | next =>
    obtain ⟨σ',H',J,q⟩:=hs
    exact fin (v:=V.non) (u:=Value.none) J rfl q
  | brk =>
    obtain ⟨_,_,_,q⟩:=hs
    exact False.elim q
  | cont =>
    obtain ⟨_,_,_,q⟩:=hs
    exact False.elim q
section
variable {X:Cx}{x:Str}{p pos:Pos}{e:Expr}{es:List Expr}{t:TA}{id T:String}{r:List V→Hp→VK→Prop}
def tCB (r:List V→Hp→VK→Prop) (t:TA):TE:=fun σ H Q=>t σ H fun vs H1=>r vs H1 Q
theorem ZkI (hc:Zb4 X (.builtin id) r) (hg:Gl X x) (hm:X.mg x=none) (hv:bootBuiltins x=some (.builtin id)) (ha:PA X (e :: es) t) (hn:x ≠ "__name__" := by decide) (hdb:(x == ("__debug__" : Str))=false:=by decide)
    (he:starEach (e :: es) X.env=(false,eval e X.env) :: starEach es X.env:=by rfl) (hpl:(backTo pos (starEach es X.env)).any (·.1)=false:=by rfl):PE X (.Call (.Name x p) (e :: es) [] pos) (tCB r t):=by
  intro pins s σ H Q I h
  refine wpAny_Call_Name_kw (Zc5 I hg hm hv ?_ hn hdb)
  exact PyProof.Rows.callWith_builtin1 (thn (ha pos pins s σ H _ I h) fun us s1 ⟨vs,H1,I1,r1,q1⟩=>hc pins s1 σ H1 vs us Q I1 r1 q1) he hpl
theorem ZiV (hc:Zb4 X (.type T) r) (hg:Gl X x) (hm:X.mg x=none) (hv:bootBuiltins x=some (.type T)) (ha:PA X (e :: es) t) (hn:x ≠ "__name__" := by decide) (hdb:(x == ("__debug__" : Str))=false:=by decide)
    (he:starEach (e :: es) X.env=(false,eval e X.env) :: starEach es X.env:=by rfl) (hpl:(backTo pos (starEach es X.env)).any (·.1)=false:=by rfl):PE X (.Call (.Name x p) (e :: es) [] pos) (tCB r t):=by
  intro pins s σ H Q I h
  refine wpAny_Call_Name_kw (Zc5 I hg hm hv ?_ hn hdb)
  exact PyProof.Rows.callWith_type1 (thn (ha pos pins s σ H _ I h) fun us s1 ⟨vs,H1,I1,r1,q1⟩=>hc pins s1 σ H1 vs us Q I1 r1 q1) he hpl
end
end L2
namespace HT
open PySem PyProof.Rows
def lexLt:List Int→List Int→Bool
  | [],[]=>false
  | [],_ :: _=>true
  | _ :: _,[]=>false
  | x :: xs,y :: ys=>if x=y then lexLt xs ys else decide (x<y)
theorem lexLt_cons (x y:Int) (xs ys:List Int):lexLt (x :: xs) (y :: ys)=if x=y then lexLt xs ys else decide (x<y):=rfl
theorem lexLt_nil_nil:lexLt [] []=false:=rfl
theorem lexLt_nil_cons (y:Int) (ys:List Int):lexLt [] (y :: ys)=true:=rfl
theorem lexLt_cons_nil (x:Int) (xs:List Int):lexLt (x :: xs) []=false:=rfl
section
open PySem.SeqAt
open PySem.AutoSeq1 (wpAny_loadPart')
open PySem.MeetsSeq PySem.MeetsSeq2 PySem.MeetsSeq3
end
section
variable {prog:Program}{w:World}{A:Around}{E:Value→Shared→Prop}{s:Shared}
def sIx (n d:Nat):Option Int→Nat
  | none=>d
  | some v=>if v<0 then (v+(n:Int)).toNat else min v.toNat n
theorem sIx_none (n d:Nat):sIx n d none=d:=rfl
theorem sIx_nat (n d k:Nat):sIx n d (some (k:Int))=min k n:=by
  show (if (k:Int)<0 then ((k:Int)+(n:Int)).toNat else min (k:Int).toNat n)=min k n
  rw [if_neg (by omega),Int.toNat_natCast]
end
end HT
namespace L2
open PySem PySem.Spec PyProof.Rows
abbrev TO:=St→Hp→(Option Int→Hp→Prop)→Prop
def PO (X:Cx) (e:Option Expr) (t:TO):Prop :=
  ∀ (pins:List (Addr × Obj)) (s:Shared) (σ:St) (H:Hp) (Q:Option Int→Hp→Prop),Inv X pins σ H s→t σ H Q →
    wpAny (model X.prog X.w) X.A (evalPart e X.env) (fun u s'=>∃ o H',Inv X pins σ H' s'∧IsPart u o∧Q o H') X.xe s
def Zl2:TO:=fun _ H Q=>Q none H
def ZnV (t:TE):TO:=fun σ H Q=>t σ H fun x H1=>∃ i,x=.int i∧Q (some i) H1
section
variable {X:Cx}{e:Expr}{te:TE}{lo hi:Option Expr}{tl th:TO}{pos p2:Pos}
theorem Zdh:PO X none Zl2:=by
  intro pins s σ H Q I h
  rw [evalPart_none]
  exact wpAny_pure ⟨none,H,I,.none,h⟩
theorem ZcK (h:PE X e te):PO X (some e) (ZnV te):=by
  intro pins s σ H Q I hw
  rw [evalPart_some]
  refine thn (h pins s σ H _ I hw) fun u s1 ⟨x,H1,I1,r1,q1⟩=>?_
  obtain ⟨i,rfl,q⟩:=q1
  obtain ⟨t,rfl⟩:=r1
  exact ⟨some i,H1,I1,.int i t,q⟩
def SlR (X:Cx) (r:V→Option Int→Option Int→Hp→VK→Prop):Prop :=
  ∀ (pins:List (Addr × Obj)) (s:Shared) (σ:St) (H:Hp) (x:V) (v vl vu:Value) (lo hi:Option Int) (sl:Addr) (Q:VK),Inv X pins σ H s→RelV x v→s.heap.IsSliceOf sl vl vu .none→IsPart vl lo→IsPart vu hi→r x lo hi H Q →
    ∃ T id,typeLookup (.type T) "__getitem__" = pure (some (.builtin id))∧s.TypeIs v T∧wpAny (model X.prog X.w) X.A (getItem v (.ref sl)) (EP X pins σ Q) X.xe s
def tSl (r:V→Option Int→Option Int→Hp→VK→Prop) (te:TE) (tl th:TO):TE:=fun σ H Q=>te σ H fun x H1=>tl σ H1 fun l H2=>th σ H2 fun u H3=>r x l u H3 Q
theorem Zcv {r:V→Option Int→Option Int→Hp→VK→Prop} (hr:SlR X r) (he:PE X e te) (hl:PO X lo tl) (hu:PO X hi th):PE X (.Subscript e (.Slice lo hi none p2) pos) (tSl r te tl th):=by
  intro pins s σ H Q I h
  refine Subscript_ (thn (he pins s σ H _ I h) fun v s1 ⟨x,H1,I1,r1,q1⟩=>?_)
  refine wpAny_Slice (thn (hl pins s1 σ H1 _ I1 q1) fun vl s2 ⟨l,H2,I2,pl,q2⟩=>thn (hu pins s2 σ H2 _ I2 q2) fun vu s3 ⟨u,H3,I3,pu,q3⟩=>?_)
  rw [evalPart_none]
  refine wpAny_pure ?_
  have I4:Inv X pins σ H3 { s3 with heap:=s3.heap.push { cls:=.type "slice",data:=.fields #[vl,vu,.none] } }:=I3.kept (t':=s3.toks) fun b ob q=>Heap.get?_push_of_some _ q
  obtain ⟨T,id,hT,ht,hg⟩:=hr pins { s3 with heap:=s3.heap.push { cls:=.type "slice",data:=.fields #[vl,vu,.none] } } σ H3 x v vl vu l u s3.heap.objs.size Q I4 r1 (Heap.IsSliceOf.new ..) pl pu q3
  show wpAny (model X.prog X.w) X.A (subscriptTail e (.Slice lo hi none p2) v (.ref s3.heap.objs.size)) (EP X pins σ Q) X.xe { s3 with heap:=s3.heap.push { cls:=.type "slice",data:=.fields #[vl,vu,.none] } }
  exact tail_any (ops:=[.ref s3.heap.objs.size,v]) ht hT hg (by with_unfolding_all rfl)
def cutV (xs:List V) (lo hi:Option Int):List V:=(xs.drop (HT.sIx xs.length 0 lo)).take (HT.sIx xs.length xs.length hi - HT.sIx xs.length 0 lo)
theorem ZgS (xs:List V) (lo hi:Option Int):(cutV xs lo hi).length≤xs.length:=by
  unfold cutV
  rw [List.length_take,List.length_drop]
  omega
end
def ixN (n:Nat) (i:Int):Option Nat:=if 0≤i then (if i<n then some i.toNat else none) else if -(n:Int)≤i then some (i+n).toNat else none
def atI {α:Type} (xs:List α) (i:Int):Option α:=(ixN xs.length i).bind fun j=>xs[j]?
theorem Zjx {n:Nat}{i:Int}{j:Nat} (h:ixN n i=some j):seqIndex? i n=some j∧j<n∧-(n:Int)≤i∧i<n:=by
  unfold ixN at h
  by_cases h0:0≤i
  · rw [if_pos h0] at h
    by_cases h1:i<n
    · rw [if_pos h1] at h
      have e:i.toNat=j:=Option.some.inj h
      exact ⟨by rw [seqIndex_of h0 h1,e],by omega,by omega,h1⟩
    · rw [if_neg h1] at h;cases h
  · rw [if_neg h0] at h
    by_cases h1:-(n:Int)≤i
    · rw [if_pos h1] at h
      have e:(i+n).toNat=j:=Option.some.inj h
      exact ⟨by rw [seqIndex_neg (by omega) h1,e],by omega,h1,by omega⟩
    · rw [if_neg h1] at h;cases h
theorem Zkb {α:Type}{xs:List α}{i:Int}{v:α} (h:atI xs i=some v):∃ j,seqIndex? i xs.length=some j∧xs[j]? = some v∧j<xs.length∧-(xs.length:Int)≤i∧i<xs.length:=by
  unfold atI at h
  cases e:ixN xs.length i with
  | none=>rw [e] at h;cases h
  | some j =>
    rw [e] at h
    obtain ⟨h1,h2,h3,h4⟩:=Zjx e
    exact ⟨j,h1,h,h2,h3,h4⟩
theorem ZaB {α:Type}{xs:List α}{j:Nat}{v:α} (h:xs[j]? = some v):atI xs (j:Int)=some v:=by
  have hj:j<xs.length:=(List.getElem?_eq_some_iff.mp h).1
  have e:ixN xs.length (j:Int)=some j:=by
    unfold ixN
    rw [if_pos (by omega),if_pos (by omega)];simp
  unfold atI;rw [e];exact h
def Zev (b:Expr):Prop:=∀ o i,subscripted b false o i=operate [o,i] (getItem o i)
def IxR (X:Cx) (r:R2):Prop :=
  ∀ (value slice:Expr) (pins:List (Addr × Obj)) (s:Shared) (σ:St) (H:Hp) (x y:V) (v u:Value) (Q:VK),Inv X pins σ H s→RelV x v→RelV y u→r x y H Q →
    subscripted slice false v u=operate [v,u] (getItem v u)→wpAny (model X.prog X.w) X.A (subscriptTail value slice v u) (EP X pins σ Q) X.xe s
def MtR (X:Cx) (id:String) (r:V→List V→Hp→VK→Prop):Prop :=
  ∀ (pins:List (Addr × Obj)) (s:Shared) (σ:St) (H:Hp) (x:V) (xs:List V) (v:Value) (us:List Value) (Q:VK),Inv X pins σ H s→RelV x v→Vals xs us→r x xs H Q →
    wpAny (model X.prog X.w) X.A (call (.builtin id) (v :: us)) (EP X pins σ Q) X.xe s
section
variable {X:Cx}{a b:Expr}{ta tb:TE}{pos:Pos}
theorem Zav {r:R2} (hr:IxR X r) (ha:PE X a ta) (hb:PE X b tb) (hs:Zev b):PE X (.Subscript a b pos) (tOp r ta tb):=by
  intro pins s σ H Q I h
  exact Subscript_ (binT ha hb I h fun v u s2 x y H2 I2 rx ry q=>hr a b pins s2 σ H2 x y v u Q I2 rx ry q (hs _ _))
def rIxL (K:PySem.W.Frag):R2:=fun x y H Q=>∃ p xs i v,x=.ref p∧y=.int i∧SqL K H p xs∧atI xs i=some v∧Q v H
def rIxT (K:PySem.W.Frag):R2:=fun x y H Q=>∃ p xs i v,x=.ref p∧y=.int i∧SqT K H p xs∧atI xs i=some v∧Q v H
theorem Zam:IxR X (rIxL X.K):=by
  intro value slice pins s σ H x y v u Q I rx ry h hs
  obtain ⟨p,xs,i,z,rfl,rfl,hq,he,q⟩:=h
  cases rx
  obtain ⟨t,rfl⟩:=ry
  obtain ⟨its,r,pl,hz⟩:=I.list hq
  obtain ⟨j,h1,h2,h3,h4,h5⟩:=Zkb he
  obtain ⟨w,ew,rw'⟩:=r.get h2
  have hl:=r.length
  have hn:=Zhs
  have fin:EP X pins σ Q w s:=⟨z,H,I,rw',q⟩
  by_cases h0:0≤i
  · have hj:i.toNat=j:=by
      rw [seqIndex_of h0 h5] at h1
      exact Option.some.inj h1
    exact item_listR pl.isList h0 (by omega) (by rw [hj];simpa using ew) fin hs
  · have hj:(i+(its.toArray.size:Int)).toNat=j:=by
      rw [seqIndex_neg (by omega) h4] at h1
      rw [List.size_toArray,← hl]
      exact Option.some.inj h1
    exact subscriptTail_builtinR (x:=w) pl.isList.typeIs slot_list_getitem.lookup
      (wpAny_getItem_list_neg (Q:=fun r s'=>r=w∧EP X pins σ Q r s') pl.isList (by omega) (by rw [List.size_toArray] <;> omega) (by omega) (by rw [hj];simpa using ew) ⟨rfl,fin⟩) hs
theorem Zbz:IxR X (rIxT X.K):=by
  intro value slice pins s σ H x y v u Q I rx ry h hs
  obtain ⟨p,xs,i,z,rfl,rfl,hq,he,q⟩:=h
  cases rx
  obtain ⟨t,rfl⟩:=ry
  obtain ⟨its,r,pl,hz⟩:=I.tuple hq
  obtain ⟨j,h1,h2,h3,h4,h5⟩:=Zkb he
  obtain ⟨w,ew,rw'⟩:=r.get h2
  have hl:=r.length
  have hn:=Zhs
  have fin:EP X pins σ Q w s:=⟨z,H,I,rw',q⟩
  exact subscriptTail_builtinR (x:=w) pl.typeIs slot_tuple_getitem.lookup
    (getItem_tuple (j:=j) (Q:=fun r s'=>r=w∧EP X pins σ Q r s') pl (by omega) (by omega) (by rw [List.size_toArray,← hl];exact h1) (by simpa using ew) ⟨rfl,fin⟩) hs
theorem Zh8 (its:List Value) (n j:Nat) (u:Value):Obj.mapSeq (·.setIfInBounds j u) { cls:=.type "list",data:=.seq its.toArray n }={ cls:=.type "list",data:=.seq (its.set j u).toArray n }:=by
  simp [Obj.mapSeq]
theorem Inv.lst {pins:List (Addr × Obj)}{σ:St}{H:Hp}{s:Shared}{p:Addr}{xs:List V} (I:Inv X pins σ H s) (h:H p=some (.lst xs)) :
    ∃ (its:List Value) (n:Nat),Vals xs its∧s.heap.get? p=some { cls:=.type "list",data:=.seq its.toArray n }∧xs.length≤sizeLine:=by
  obtain ⟨z,its,n,r,e⟩:=I.hok p _ h
  exact ⟨its,n,r,e,z⟩
theorem Inv.lstUpd {pins:List (Addr × Obj)}{σ:St}{H:Hp}{s:Shared}{p:Addr}{xs ys:List V}{its its':List Value}{n n':Nat}{f:Obj→Obj} (I:Inv X pins σ H s) (h:H p=some (.lst xs))
    (ho:s.heap.get? p=some { cls:=.type "list",data:=.seq its.toArray n }) (hf:f { cls:=.type "list",data:=.seq its.toArray n }={ cls:=.type "list",data:=.seq its'.toArray n' }) (r:Vals ys its') (hz:ys.length≤sizeLine) (t:Nat) :
    Inv X pins σ (upd H p (.lst ys)) { s with heap:=s.heap.update p f,toks:=t }:=by
  have e:(s.heap.update p f).get? p=some { cls:=.type "list",data:=.seq its'.toArray n' }:=by
    rw [Heap.get?_update_self f ho (by rw [hf] <;> rfl),hf]
  refine I.write (x:=p) (e:=p) (by rw [h];trivial) (.inl rfl) (fun b u hb q=>(Heap.get?_update_other _ _ (Ne.symm hb)).trans q) ⟨_,e⟩ ?_
  exact ⟨hz,its',n',r,e⟩
def Zn4:V→V→V→Hp→(Hp→Prop)→Prop:=fun o i v H Q=>∃ p xs k j,o=.ref p∧i=.int k∧H p=some (.lst xs)∧ixN xs.length k=some j∧Q (upd H p (.lst (xs.set j v)))
theorem Zc0:PSet X Zn4:=by
  intro pins s σ H o i v ov iv u Q I ro ri rv h
  obtain ⟨p,xs,k,j,rfl,rfl,hp,hj,q⟩:=h
  cases ro
  obtain ⟨t,rfl⟩:=ri
  obtain ⟨its,n,r,ho,hz⟩:=I.lst hp
  obtain ⟨h1,h2,h3,h4⟩:=Zjx hj
  have hl:=r.length
  have hn:=Zhs
  have I':Inv X pins σ (upd H p (.lst (xs.set j v))) { s with heap:=s.heap.update p (Obj.mapSeq (·.setIfInBounds j u)) } :=
    I.lstUpd hp ho (Zh8 its n j u) (r.set rv j) (by rw [List.length_set];exact hz) s.toks
  by_cases h0:0≤k
  · have hk:k.toNat=j:=by
      rw [seqIndex_of h0 h4] at h1
      exact Option.some.inj h1
    exact PySem.W.ki_setAt ho h0 (by omega) (by rw [List.size_toArray,← hl];exact h4) (by rw [hk];exact ⟨_,I',q⟩)
  · have hk:(k+(its.toArray.size:Int)).toNat=j:=by
      rw [seqIndex_neg (by omega) h3] at h1
      rw [List.size_toArray,← hl]
      exact Option.some.inj h1
    exact PySem.W.ki_setBack ho (by omega) (by rw [List.size_toArray,← hl];exact h3) (by omega) (by rw [hk];exact ⟨_,I',q⟩)
theorem ZfN (lo hi:Option Int) (n:Nat):(sliceBounds lo hi none n).1=((HT.sIx n 0 lo:Nat):Int)∧(sliceBounds lo hi none n).2.1=((HT.sIx n n hi:Nat):Int)∧(sliceBounds lo hi none n).2.2=1:=by
  refine ⟨?_,?_,rfl⟩
  · cases lo with
    | none=>simp [sliceBounds,HT.sIx]
    | some i =>
      simp only [sliceBounds,HT.sIx,Option.getD_none,show (1:Int) > 0 by decide,if_true]
      by_cases h:i<0
      · simp only [h,if_true] <;> omega
      · simp only [h,if_false] <;> omega
  · cases hi with
    | none=>simp [sliceBounds,HT.sIx]
    | some i =>
      simp only [sliceBounds,HT.sIx,Option.getD_none,show (1:Int) > 0 by decide,if_true]
      by_cases h:i<0
      · simp only [h,if_true] <;> omega
      · simp only [h,if_false] <;> omega
theorem Ze4 (its:List Value) (lo hi:Option Int):slicePick its.toArray lo hi none=((its.drop (HT.sIx its.length 0 lo)).take (HT.sIx its.length its.length hi - HT.sIx its.length 0 lo)).toArray:=by
  obtain ⟨h1,h2,h3⟩:=ZfN lo hi its.toArray.size
  unfold slicePick
  rw [h1,h2,h3]
  simp only [sliceRange_one,pick_run,List.size_toArray] <;> rfl
def rSlL (K:PySem.W.Frag):V→Option Int→Option Int→Hp→VK→Prop:=fun x lo hi H Q=>∃ a xs,x=.ref a∧SqL K H a xs∧∀ p,H p=none→Q (.ref p) (upd H p (.lst (cutV xs lo hi)))
theorem Zdd:SlR X (rSlL X.K):=by
  intro pins s σ H x v vl vu lo hi sl Q I rx hs pl pu h
  obtain ⟨a,xs,rfl,hx,q⟩:=h
  cases rx
  obtain ⟨its,r,ht,hz⟩:=I.list hx
  have hlen:=r.length
  refine ⟨"list", _,slot_list_getitem.lookup,ht.isList.typeIs,?_⟩
  refine wpAny_getItem_list_slice ht.isList hs pl pu .none (by simp) ?_ (by rw [List.size_toArray] <;> omega)
  rw [Ze4,← hlen]
  refine ⟨.ref s.heap.objs.size,_,I.laid (t':=s.toks) (o:=.lst (cutV xs lo hi)) (fun b ob q=>Heap.get?_push_of_some _ q) (Nat.le_refl _) ?_,rfl,q _ (I.hok.fresh (Nat.le_refl _))⟩
  exact ⟨Nat.le_trans (ZgS xs lo hi) hz,_,0,(r.drop (HT.sIx xs.length 0 lo)).take (HT.sIx xs.length xs.length hi - HT.sIx xs.length 0 lo),Heap.get?_push_size _ rfl⟩
theorem Zah:Zb4 X (.builtin "len") (fun xs H Q=>∃ p ys,xs=[.ref p]∧(SqL X.K H p ys∨SqT X.K H p ys)∧Q (.int ys.length) H):=by
  intro pins s σ H xs us Q I r h
  obtain ⟨p,ys,rfl,hq,q⟩:=h
  obtain ⟨u,rfl,rx⟩:=Zik r
  cases rx
  have hn:=Zhs
  rcases hq with hq | hq
  · obtain ⟨its,r',pl,hz⟩:=I.list hq
    have hlen:=r'.length
    exact Calls.call_len_list pl.isList (by simp only [List.size_toArray] <;> omega) ⟨.int ys.length,H,I.tok _,⟨s.toks+1,by rw [List.size_toArray,hlen]⟩,q⟩
  · obtain ⟨its,r',pl,hz⟩:=I.tuple hq
    have hlen:=r'.length
    exact len_tuple pl (by simp only [List.size_toArray] <;> omega) ⟨.int ys.length,H,I.tok _,⟨s.toks+1,by rw [List.size_toArray,hlen]⟩,q⟩
theorem Zgl:Zb4 X (.type "list") (fun xs H Q=>∃ p ys,xs=[.ref p]∧(SqL X.K H p ys∨SqT X.K H p ys)∧∀ l,H l=none→Q (.ref l) (upd H l (.lst ys))):=by
  intro pins s σ H xs us Q I r h
  obtain ⟨p,ys,rfl,hq,q⟩:=h
  obtain ⟨u,rfl,rx⟩:=Zik r
  cases rx
  have fin:∀ (its:List Value),Vals ys its→ys.length≤sizeLine→∀ (h':Heap) (c':Nat),(∀ b o',s.heap.get? b=some o'→h'.get? b=some o') →
      h'.get? s.heap.objs.size=some { cls:=.type "list",dict:=none,data:=.seq its.toArray c',slots:=#[] }→EP X pins σ Q (.ref s.heap.objs.size) { s with heap:=h' }:=fun its r' hz h' c' kp e =>
    ⟨.ref s.heap.objs.size,_,I.laid (t':=s.toks) kp (Nat.le_refl _) (show ObjOk X.prog X.w _ h' _ (.lst ys) from ⟨hz,its,c',r',e⟩),rfl,q _ (I.hok.fresh (Nat.le_refl _))⟩
  rcases hq with hq | hq
  · obtain ⟨its,r',pl,hz⟩:=I.list hq
    have hlen:=r'.length
    obtain ⟨o,ho,hc,n,hd⟩:=pl.isList
    exact call_list_seq p (.inl rfl) ho hc hd (fun h' c' kp e=>fin its r' hz h' c' kp e) (by simp only [List.size_toArray] <;> omega)
  · obtain ⟨its,r',pl,hz⟩:=I.tuple hq
    have hlen:=r'.length
    obtain ⟨o,ho,hc,n,hd⟩:=pl
    exact call_list_seq p (.inr rfl) ho hc hd (fun h' c' kp e=>fin its r' hz h' c' kp e) (by simp only [List.size_toArray] <;> omega)
theorem Zfv:Zb4 X (.type "tuple") (fun xs H Q=>∃ p ys,xs=[.ref p]∧((SqL X.K H p ys∧∀ l,H l=none→Q (.ref l) (upd H l (.tup ys)))∨(SqT X.K H p ys∧Q (.ref p) H))):=by
  intro pins s σ H xs us Q I r h
  obtain ⟨p,ys,rfl,h⟩:=h
  obtain ⟨u,rfl,rx⟩:=Zik r
  cases rx
  rcases h with ⟨hq,q⟩ | ⟨hq,q⟩
  · obtain ⟨its,r',pl,hz⟩:=I.list hq
    have hlen:=r'.length
    refine call_tuple_list pl.isList (fun h' kp=>?_) (by simp only [List.size_toArray] <;> omega)
    have I1:Inv X pins σ H { s with heap:=h' }:=I.kept (t':=s.toks) kp
    have I2:Inv X pins σ (upd H h'.objs.size (.tup ys)) { s with heap:=h'.push { cls:=.type "tuple",data:=.seq its.toArray } } :=
      I1.laid (t':=s.toks) (fun b o e=>Heap.get?_push_of_some _ e) (Nat.le_refl _) (show ObjOk X.prog X.w _ _ _ (.tup ys) from ⟨hz,its,r',IsTup.new _ _⟩)
    exact ⟨.ref h'.objs.size,_,I2,rfl,q _ (I1.hok.fresh (Nat.le_refl _))⟩
  · obtain ⟨its,r',pl,hz⟩:=I.tuple hq
    exact call_tuple_same pl ⟨.ref p,H,I,rfl,q⟩
def tyV (K:PySem.W.Frag) (T:String) (x:V) (H:Hp):Prop:=match x with
  | .str _=>T = "str"
  | .int _=>T = "int"
  | .ref p=>(T = "list" ∧ ∃ xs,SqL K H p xs)∨(T = "tuple" ∧ ∃ o,K.lookup p=some o∧o.cls=.type "tuple" ∧ o.dict=none) ∨
      (T = "dict" ∧ ((∃ kvs,H p=some (.dK kvs))∨∃ kvs,H p=some (.dT kvs)))∨(T = "set" ∧ ∃ S n,H p=some (.set S n))
  | _=>False
theorem Zlo {pins:List (Addr × Obj)}{σ:St}{H:Hp}{s:Shared}{T:String}{x:V}{v:Value} (I:Inv X pins σ H s) (r:RelV x v) (ty:tyV X.K T x H) :
    s.TypeIs v T∧∀ a,v=.ref a→∃ ob,s.heap.get? a=some ob∧ob.dict=none:=by
  cases x with
  | str z =>
    obtain ⟨t,rfl⟩:=r
    cases (show T = "str" from ty)
    exact ⟨typeIs_str s z t,fun _ e=>nomatch e⟩
  | int i =>
    obtain ⟨t,rfl⟩:=r
    cases (show T = "int" from ty)
    exact ⟨typeIs_int s i t,fun _ e=>nomatch e⟩
  | ref p =>
    cases r
    rcases ty with ⟨rfl,xs,hq⟩ | ⟨rfl,o,hk,hc,hd⟩ | ⟨rfl,hk⟩ | ⟨rfl,S,n,hk⟩
    · obtain ⟨its,_,pl,_⟩:=I.list hq
      refine ⟨pl.isList.typeIs,fun a e=>?_⟩
      cases e
      obtain ⟨o,n,e,c,hd,_⟩:=pl
      exact ⟨o,e,hd⟩
    · refine ⟨⟨o,I.kIn p o hk,hc⟩,fun a e=>?_⟩
      cases e
      exact ⟨o,I.kIn _ o hk,hd⟩
    · have z:∃ o,s.heap.get? p=some o∧o.ExactDict:=by
        rcases hk with ⟨kvs,hk⟩ | ⟨kvs,hk⟩
        · obtain ⟨_,_,_,_,o,_,_,e,ex,_⟩:=I.hok p _ hk
          exact ⟨o,e,ex⟩
        · obtain ⟨_,_,_,_,o,_,_,e,ex,_⟩:=I.hok p _ hk
          exact ⟨o,e,ex⟩
      obtain ⟨o,e,ex⟩:=z
      refine ⟨⟨o,e,ex.1⟩,fun a e2=>?_⟩
      cases e2
      exact ⟨o,e,ex.2.1⟩
    · obtain ⟨o,_,_,_,e,ex,_⟩:=I.hok p _ hk
      refine ⟨⟨o,e,ex.1⟩,fun a e2=>?_⟩
      cases e2
      exact ⟨o,e,ex.2.1⟩
  | _=>exact False.elim ty
def tBM0 (K:PySem.W.Frag) (T:String) (r:V→List V→Hp→VK→Prop) (to:TE):TE:=fun σ H Q=>to σ H fun x H1=>tyV K T x H1∧r x [] H1 Q
def tBM (K:PySem.W.Frag) (T:String) (r:V→List V→Hp→VK→Prop) (to:TE) (t:TA):TE:=fun σ H Q=>to σ H fun x H1=>tyV K T x H1∧t σ H1 fun xs H2=>r x xs H2 Q
variable {o e:Expr}{es:List Expr}{to:TE}{t:TA}{name:Str}{apos cpos:Pos}{T id:String}{r:V→List V→Hp→VK→Prop}
theorem Znq (pa:PlainAttrs T) (slot:Slot T name id) (hty:typeOf (.builtin id)=pure (.type "method_descriptor")) (hm:MtR X id r) (ho:PE X o to)
    (hbase:attributeBase o name X.env (eval o X.env)=eval o X.env:=by rfl) (hline:(apos.endLine == cpos.line)=true:=by rfl):PE X (.Call (.Attribute o name apos) [] [] cpos) (tBM0 X.K T r to):=by
  intro pins s σ H Q I h
  refine wpAny_Call_method0_late hbase hline (thn (ho pins s σ H _ I h) fun v s1 ⟨x,H1,I1,r1,ty,q1⟩=>?_)
  obtain ⟨h1,h2⟩:=Zlo I1 r1 ty
  exact ⟨T,id,pa,slot,hty,h1,h2,Calls.callWith_builtin rfl (PySem.evalArgs_none (hm pins s1 σ H1 x [] v [] Q I1 r1 .nil q1))⟩
theorem Zex (pa:PlainAttrs T) (slot:Slot T name id) (hty:typeOf (.builtin id)=pure (.type "method_descriptor")) (hm:MtR X id r) (ho:PE X o to) (ha:PA X (e :: es) t)
    (hbase:attributeBase o name X.env (eval o X.env)=eval o X.env:=by rfl)
    (hfew:((backTo cpos (starEach (e :: es) X.env)).all (fun x=>!x.1) && (backToKw cpos (keywordEach [] X.env)).all (fun x=>x.1.isSome)
      && decide ((e :: es).length+([]:List Keyword).length+(if ([]:List Keyword).isEmpty then 0 else 1)<30))=true:=by rfl)
    (hline:(apos.endLine == cpos.line)=true:=by rfl) (hs:starEach (e :: es) X.env=(false,eval e X.env) :: starEach es X.env:=by rfl) (hplain:(backTo cpos (starEach es X.env)).any (·.1)=false:=by rfl) :
    PE X (.Call (.Attribute o name apos) (e :: es) [] cpos) (tBM X.K T r to t):=by
  intro pins s σ H Q I h
  refine wpAny_Call_method_late hbase hfew hline rfl (thn (ho pins s σ H _ I h) fun v s1 ⟨x,H1,I1,r1,ty,q1⟩=>?_)
  obtain ⟨h1,h2⟩:=Zlo I1 r1 ty
  refine ⟨T,id,pa,slot,hty,h1,h2,?_⟩
  have hA:=ha cpos pins s1 σ H1 _ I1 q1
  rw [hs] at hA ⊢
  refine Calls.callWith_builtin (by show (false || (backTo cpos (starEach es X.env)).any (·.1))=false;rw [hplain] <;> rfl) (Calls.evalArgs_plain ?_)
  exact thn hA fun us s2 ⟨vs,H2,I2,r2,q2⟩=>hm pins s2 σ H2 x vs v us Q I2 r1 r2 q2
end
def MtM (X:Cx) (id:String) (r:V→List V→Hp→VK→Prop):Prop :=
  ∀ (pins:List (Addr × Obj)) (s:Shared) (σ:St) (H:Hp) (x:V) (xs:List V) (v:Value) (us:List Value) (Q:VK),Inv X pins σ H s→RelV x v→Vals xs us→r x xs H Q →
    wpAny (model X.prog X.w) X.A (call (.builtin id) (v :: us)) (EP X pins σ Q) X.xe s
theorem Vals.one:∀ {x:V}{us:List Value},Vals [x] us→∃ u,us=[u]∧RelV x u
  | _,_,.cons r .nil=>⟨_,rfl,r⟩
theorem Vals.two:∀ {x y:V}{us:List Value},Vals [x,y] us→∃ u v,us=[u,v]∧RelV x u∧RelV y v
  | _,_,_,.cons r (.cons q .nil)=>⟨_,_,rfl,r,q⟩
theorem Vals.zero:∀ {us:List Value},Vals [] us→us=[]
  | _,.nil=>rfl
theorem Vals.dropLast {xs:List V}{us:List Value} (h:Vals xs us):Vals xs.dropLast us.dropLast:=by
  induction h with
  | nil=>exact .nil
  | cons r t ih =>
    cases t with
    | nil=>exact .nil
    | cons q t'=>exact .cons r ih
theorem Vals.rep {xs:List V}{us:List Value} (h:Vals xs us):∀ k:Nat,Vals (List.replicate k xs).flatten (List.replicate k us).flatten
  | 0=>.nil
  | k+1=>by
    rw [List.replicate_succ,List.replicate_succ,List.flatten_cons,List.flatten_cons]
    exact Vals.append h (Vals.rep h k)
theorem Zif {α:Type} (l:List α):l.eraseIdx (l.length - 1)=l.dropLast:=by
  induction l with
  | nil=>rfl
  | cons a r ih =>
    cases r with
    | nil=>rfl
    | cons b r =>
      have e:(a :: b :: r).length - 1=((b :: r).length - 1)+1:=by
        have h1:(a :: b :: r).length=r.length+2:=rfl
        have h2:(b :: r).length=r.length+1:=rfl
        omega
      rw [e,List.eraseIdx_cons_succ,ih]
      all_goals rfl
theorem Zgd (its:List Value):∀ (k:Nat) (acc:List Value),
    List.foldl (fun x1 x2=>x1 ++ x2) acc.toArray (List.replicate k its.toArray)=(acc ++ (List.replicate k its).flatten).toArray
  | 0,acc=>by simp
  | k+1,acc=>by
    have e:acc.toArray ++ its.toArray=(acc ++ its).toArray:=by simp
    have e2:(acc ++ its) ++ (List.replicate k its).flatten=acc ++ (List.replicate (k+1) its).flatten:=by
      rw [List.replicate_succ,List.flatten_cons,List.append_assoc]
    rw [← e2,← Zgd its k (acc ++ its),← e,List.replicate_succ,List.foldl_cons]
section
variable {X:Cx}{pins:List (Addr × Obj)}{σ:St}{H:Hp}{s:Shared}{l b:Addr}{xs ys zs:List V}
theorem Inv.lset {its its':List Value}{n:Nat}{f:Array Value→Array Value}{t':Nat} (I:Inv X pins σ H s) (hH:H l=some (.lst xs))
    (e:s.heap.get? l=some { cls:=.type "list",data:=.seq its.toArray n }) (hf:f its.toArray=its'.toArray) (hv:Vals ys its') (hz:ys.length≤sizeLine) :
    Inv X pins σ (upd H l (.lst ys)) { s with heap:=s.heap.update l (Obj.mapSeq f),toks:=t' }:=by
  have q:=PySem.IsL.update e f
  rw [hf] at q
  refine I.write (x:=l) (e:=l) (by rw [hH];exact trivial) (.inl rfl) (fun b' u hb hu=>(Heap.get?_update_other s.heap (Obj.mapSeq f) (Ne.symm hb)).trans hu) ⟨_,q⟩ ?_
  exact ⟨hz,its',_,hv,q⟩
theorem Inv.lnew {its:List Value}{t':Nat} (I:Inv X pins σ H s) (hv:Vals ys its) (hz:ys.length≤sizeLine) :
    Inv X pins σ (upd H s.heap.objs.size (.lst ys)) { s with heap:=s.heap.push { cls:=.type "list",data:=.seq its.toArray },toks:=t' } :=
  I.laid (fun _ _ q=>Heap.get?_push_of_some _ q) (Nat.le_refl _) ⟨hz,its,0,hv,Heap.get?_push_size _ rfl⟩
theorem Inv.fresh (I:Inv X pins σ H s):H s.heap.objs.size=none:=I.hok.fresh (Nat.le_refl _)
theorem Inv.lstM (I:Inv X pins σ H s) (hH:H l=some (.lst xs)):xs.length≤sizeLine∧∃ (its:List Value) (n:Nat),Vals xs its∧xs.length=its.length∧s.heap.get? l=some { cls:=.type "list",data:=.seq its.toArray n }:=by
  obtain ⟨z,its,n,r,e⟩:=I.hok l _ hH
  exact ⟨z,its,n,r,r.length,e⟩
theorem Zhq {n:Nat} (h:n≤sizeLine):Builtin.List.listTooLong n=false:=by
  unfold Builtin.List.listTooLong
  exact decide_eq_false (by omega)
end
section
variable {X:Cx}
def Zme:V→List V→Hp→VK→Prop:=fun x vs H Q=>∃ l xs y,x=.ref l∧vs=[y]∧H l=some (.lst xs)∧xs.length<sizeLine∧Q .non (upd H l (.lst (xs ++ [y])))
theorem Zbl:MtM X "list.append" Zme:=by
  intro pins s σ H x vs v us Q I rx rv h
  obtain ⟨l,xs,y,rfl,rfl,hH,hz,q⟩:=h
  cases rx
  obtain ⟨u,rfl,ru⟩:=rv.one
  obtain ⟨z,its,n,r,hl,e⟩:=I.lstM hH
  refine call_meets F.slot_list_append ⟨_,e,rfl⟩ F.entry_list_append (F.args_list_append_2 _ _) (PySem.list_append l its.toArray n u (by rw [List.size_toArray];omega)) ⟨e,?_⟩
  refine ⟨.non,_,I.lset (its':=its ++ [u]) hH e (by simp) (r.append (.cons ru .nil)) ?_,rfl,q⟩
  rw [List.length_append,List.length_singleton]
  omega
def Zmd:V→List V→Hp→VK→Prop:=fun x vs H Q=>∃ l b xs zs,x=.ref l∧vs=[.ref b]∧H l=some (.lst xs)∧H b=some (.lst zs)∧xs.length+zs.length≤sizeLine∧Q .non (upd H l (.lst (xs ++ zs)))
theorem Zf8:MtM X "list.extend" Zmd:=by
  intro pins s σ H x vs v us Q I rx rv h
  obtain ⟨l,b,xs,zs,rfl,rfl,hH,hB,hz,q⟩:=h
  cases rx
  obtain ⟨u,rfl,ru⟩:=rv.one
  cases ru
  obtain ⟨z,its,n,r,hl,e⟩:=I.lstM hH
  obtain ⟨z2,its2,n2,r2,hl2,e2⟩:=I.lstM hB
  have hsz:its.toArray.size+its2.toArray.size≤sizeLine:=by rw [List.size_toArray,List.size_toArray];omega
  have hlong:¬ (!its.toArray.isEmpty && Builtin.List.listTooLong (its.toArray.size+its2.toArray.size))=true:=by
    rw [Zhq hsz,Bool.and_false]
    exact Bool.false_ne_true
  refine call_meets F.slot_list_extend ⟨_,e,rfl⟩ F.entry_list_extend (F.args_list_extend_2 _ _)
    (AutoSeq1.list_extend_list_list_0 l its.toArray n b its2.toArray n2 hlong (by rw [List.size_toArray];omega) (by omega)) ⟨e,e2,?_⟩
  refine ⟨.non,_,I.lset (its':=its ++ its2) hH e (by simp) (r.append r2) ?_,rfl,q⟩
  rw [List.length_append]
  omega
def rPop:V→List V→Hp→VK→Prop:=fun x vs H Q=>∃ l xs y,x=.ref l∧vs=[]∧H l=some (.lst xs)∧xs[xs.length - 1]? = some y∧Q y (upd H l (.lst xs.dropLast))
theorem ZnB:MtM X "list.pop" rPop:=by
  intro pins s σ H x vs v us Q I rx rv h
  obtain ⟨l,xs,y,rfl,rfl,hH,hy,q⟩:=h
  cases rx
  have hus:=rv.zero
  subst hus
  obtain ⟨z,its,n,r,hl,e⟩:=I.lstM hH
  obtain ⟨u,hu,ru⟩:=r.get hy
  have hy':its.toArray[its.toArray.size - 1]? = some u:=by
    show its.toArray[its.length - 1]? = some u
    rw [← Array.getElem?_toList,← hl]
    exact hu
  refine call_meets F.slot_list_pop ⟨_,e,rfl⟩ F.entry_list_pop (F.args_list_pop_1 _) (MeetsSeq.list_pop_last l its.toArray n u hy' (by rw [List.size_toArray];omega)) ⟨e,?_⟩
  refine ⟨y,_,I.lset (its':=its.dropLast) hH e ?_ r.dropLast ?_,ru,q⟩
  · show its.toArray.eraseIdxIfInBounds (its.toArray.size - 1)=its.dropLast.toArray
    rw [List.size_toArray,List.eraseIdxIfInBounds_toArray,Zif]
  · rw [List.length_dropLast]
    omega
def rCat:R2:=fun x y H Q=>∃ l b xs zs,x=.ref l∧y=.ref b∧H l=some (.lst xs)∧H b=some (.lst zs)∧xs.length+zs.length≤sizeLine∧∀ p,H p=none→Q (.ref p) (upd H p (.lst (xs ++ zs)))
theorem ZbK:OpR X (binaryOp .Add) rCat:=by
  intro pins s σ H x y v u Q I rx ry h
  obtain ⟨l,b,xs,zs,rfl,rfl,hH,hB,hz,q⟩:=h
  cases rx
  cases ry
  obtain ⟨z,its,n,r,hl,e⟩:=I.lstM hH
  obtain ⟨z2,its2,n2,r2,hl2,e2⟩:=I.lstM hB
  refine PySem.P.add_list e e2 ?_ (by rw [List.size_toArray,List.size_toArray];omega)
  have ea:its.toArray ++ its2.toArray=(its ++ its2).toArray:=by simp
  rw [ea]
  exact ⟨.ref _,_,I.lnew (t':=s.toks) (r.append r2) (by rw [List.length_append];omega),rfl,q _ I.fresh⟩
def rRep:R2:=fun x y H Q=>∃ l k xs,x=.ref l∧y=.int k∧H l=some (.lst xs)∧-(2 ^ 63)≤k∧k<2 ^ 63∧xs.length * k.toNat≤sizeLine ∧
  ∀ p,H p=none→Q (.ref p) (upd H p (.lst (List.replicate k.toNat xs).flatten))
theorem ZmH {α:Type} (xs:List α) (k:Nat):(List.replicate k xs).flatten.length=k * xs.length:=by
  induction k with
  | zero=>simp
  | succ k ih=>rw [List.replicate_succ,List.flatten_cons,List.length_append,ih,Nat.succ_mul,Nat.add_comm]
theorem ZfZ:OpR X (binaryOp .Mult) rRep:=by
  intro pins s σ H x y v u Q I rx ry h
  obtain ⟨l,k,xs,rfl,rfl,hH,h1,h2,hz,q⟩:=h
  cases rx
  obtain ⟨t,rfl⟩:=ry
  obtain ⟨z,its,n,r,hl,e⟩:=I.lstM hH
  have hlen:its.toArray.size * k.toNat≤sizeLine:=by rw [List.size_toArray,← hl];exact hz
  have hcap:¬ its.toArray.size * k.toNat > (2 ^ 63 - 1) / 8:=by
    have:(sizeLine:Nat)≤(2 ^ 63 - 1) / 8:=by decide
    omega
  have hfit:¬ (!Builtin.List.listFitsIndex k)=true:=by
    rw [fitsIndex_both h1 h2]
    exact Bool.false_ne_true
  have hlong:¬ Builtin.List.listTooLong (its.toArray.size * k.toNat)=true:=by
    rw [Zhq hlen]
    exact Bool.false_ne_true
  have hnew:List.foldl (fun x1 x2=>x1 ++ x2) #[] (List.replicate (if its.toArray.isEmpty=true then 0 else k.toNat) its.toArray)=(List.replicate k.toNat its).flatten.toArray:=by
    have f0:∀ m:Nat,List.foldl (fun x1 x2=>x1 ++ x2) #[] (List.replicate m its.toArray)=(List.replicate m its).flatten.toArray:=fun m=>by
      have:=Zgd its m []
      rw [List.nil_append] at this
      exact this
    rw [f0]
    cases its with
    | nil=>simp
    | cons a r'=>rw [if_neg (by simp)]
  refine wpAny_binaryOp_repeat_ref (T := "list") (U := "int") (by decide) ⟨_,e,rfl⟩ (fun s'=>typeIs_int s' k t) noFill_list_mul F.fills_int_mul F.slot_int_rmul repeat_list F.slot_int_index.lookup
    (call_meets F.slot_int_rmul (typeIs_int s k t) F.entry_int_rmul (F.args_int_rmul_2 _ _) (int___rmul___int_list k t l its.toArray n)
      ⟨e,rfl,⟨_,e,rfl⟩,call_meets F.slot_list_mul ⟨_,e,rfl⟩ F.entry_list_mul (F.args_list_mul_2 _ _) (AutoListH.list___mul___list_int_3 l its.toArray n k t hfit hcap hlong) ⟨e,?_⟩⟩)
  rw [hnew]
  exact ⟨.ref _,_,I.lnew (t':=s.toks) (r.rep k.toNat) (by rw [ZmH,Nat.mul_comm];exact hz),rfl,q _ I.fresh⟩
end
section
variable {prog:Program}{w:World}{A:Around}{E:Value→Shared→Prop}{s:Shared}
end
section
variable {X:Cx}
end
end L2
namespace Att
open PySem PySem.W PySem.Calls PyProof.Rows
theorem Zee {P:Params}{h:Heap}:∀ (ns:List Int) (vs:List Value),WellAll P h vs (ns.map WData.int)→IntsAre vs ns:=by
  intro ns
  induction ns with
  | nil =>
    intro vs w
    rw [List.map_nil] at w
    cases w
    exact .nil
  | cons n ns ih =>
    intro vs w
    rw [List.map_cons] at w
    cases w with
    | cons a b =>
      cases a
      exact .cons _ _ (ih _ b)
theorem ZiF {l:OpenLaw}{n:Nat} (hn:l.most=some n) {P:Params}{h:Heap}{args:List WData}{vals:List Value}
    (hpre:l.row.toRowW.claim.pre args=true) (hwl:WellAll P h vals args) :
    ∃ a vs ns,vals=[Value.ref a]∧args=[WData.list (ns.map WData.int)]∧h.get? a=some { cls:=.type "list",data:=.seq vs.toArray }∧IntsAre vs ns∧ns.length≤n:=by
  have hsh:WShape.hasAll [] args [.list .int]=true:=(pre_splitW hpre).1
  have hc:l.pre.holds [] { args:=args }=true:=(pre_splitW hpre).2
  obtain ⟨d,r,rfl,h1,h2⟩:=hasAllW_cons hsh
  obtain rfl:=hasAllW_nil h2
  obtain ⟨xs,rfl,h3⟩:=hasW_list h1
  obtain ⟨ns,rfl⟩:=items_int h3
  have hlen:ns.length≤n:=by
    unfold OpenLaw.pre at hc
    have h4:(WTm.not (.lt (.lit (.int (n:Int))) (.len (.arg 0)))).holds [] { args:=[.list (ns.map .int)] }=true:=by
      have h4:=(holds_andW hc).1
      rw [hn] at h4
      exact h4
    have h5:=condW_of h4 (w_not (w_lt w_lit (w_len_list (w_arg rfl))))
    rw [List.length_map] at h5
    refine Nat.le_of_not_lt fun q=>?_
    have q':(n:Int)<((ns.length:Nat):Int):=by omega
    first
      | (rw [decide_eq_true q'] at h5;exact absurd h5 (by decide))
      | (simp at h5;omega)
  cases hwl with
  | cons w1 w2 =>
    cases w2
    cases w1 with
    | list ho hall=>exact ⟨_,_,ns,rfl,rfl,ho,Zee ns _ hall,hlen⟩
theorem ZiR (l:OpenLaw) (args:List WData):l.row.toRowW.claim.post args (.bool true) args=true :=
  postW_of (r:=l.row.toRowW) (X:=(true == true))
    (show WShape.has [] (.bool true) .bool=true by first | rfl | decide | simp [WShape.has,WShape.arms,WShape.armsAll])
    (show (WTm.eq .res (.lit (.bool true))).value [] { args:=args,res:=some (.bool true),after:=args }=some (.bool (true == true)) from w_eq_bool (w_res rfl) w_lit) rfl
theorem attach_call {l:OpenLaw}{n:Nat}{q:Program}{loose:List Str}{XP:(Str→Option Value)→Heap→Prop}{YP:World→Heap→Prop}{d:DefRec}
    (hn:l.most=some n) (hdf:d.params.defaults=[])
    (call:∀ (w:World) (s₀ s₁:Shared) (mg mb:Str→Option Value) (fa:Addr) (o:Obj) (pm cd doc:Value) (a:Addr) (vs:List Value) (ns:List Int),
      Ground q loose [] XP w s₀ mg mb s₁.heap→YP w s₁.heap →
      s₁.heap.get? fa=some o→o.data=.func (docDef d.name d.params d.body d.scope pm cd doc)→s₁.heap.CodeRec cd d.name→mg d.name=some (.ref fa) →
      s₁.heap.get? a=some { cls:=.type "list",data:=.seq vs.toArray }→IntsAre vs ns→ns.length≤n→s₁.gens = #[] →
      codeAny (model l.prog w) callerA (.call (.ref fa) ⟨[.ref a],[]⟩) (fun r s'=>r=.ok (.ret (.bool true))∧OldK s₁.heap s'.heap∧s'.os=s₁.os∧AllBare s'.gens) s₁) :
    WalkO q loose XP YP l.row.toRowW d [] (fun f vs=>PySem.call f vs):=by
  intro w s₀ s₁ mg mb G Y fa o pm cd doc dV kV ho hd hcd hD hmg hg args vals as hpre hlay hrd hwl hlo
  obtain rfl:dV=.none:=Dflts.none hD hdf
  obtain rfl:kV=.none:=Dflts.noKw hD
  obtain ⟨a,vs,ns,rfl,rfl,hobj,hints,hlen⟩:=ZiF hn hpre hwl
  refine enter_call (codeAny_mono (call w s₀ s₁ mg mb fa o pm cd doc a vs ns G Y ho (fd_plain hd) hcd hmg hobj hints hlen hg) fun r s' hq=>?_)
  obtain ⟨rfl,h2,h3,h4⟩:=hq
  exact ⟨.inl ⟨.bool true,.bool true,[],rfl,fun _=>rfl,.bool true,ZiR l _,fun _=>⟨List.Pairwise.nil,fun _ hm=>(nomatch hm)⟩⟩,h2,h3,h4⟩
section
variable {prog:Program}{w:World}{A:Around}{E:Value→Shared→Prop}{s:Shared}{K:Frag}
end
end Att
namespace L2
open PySem PySem.Spec PyProof.Rows
theorem ZdP:∀ {vs:List Value}{ns:List Int},IntsAre vs ns→Vals (ns.map V.int) vs
  | _,_,.nil=>.nil
  | _,_,.cons n t h=>.cons ⟨t,rfl⟩ (ZdP h)
def Only (H:Hp):Prop:=∀ b,H b=none∨∃ o xs,H b=some (.frz o (.lst xs))
theorem Zk3 {P:Program}{w:World}{K:PySem.W.Frag}{mg mb:Str→Option Value}{CX:CXT}{k:Nat}{fa a:Addr}{fd:FuncData}{x:Str}{sp:Sp}{s₁:Shared}{vs:List Value}{ns:List Int}
    (KX:K.In s₁.heap) (hns:s₁.heap.Ns mainGlobals mg) (hb:s₁.heap.Ns builtinsNs mb) (hbb:∀ x:Str,x ≠ "__name__" → mb x=bootBuiltins x) (hlim:s₁.heap.NoLimit) (hg:s₁.gens = #[])
    (ha:s₁.heap.get? a=some { cls:=.type "list",data:=.seq vs.toArray }) (hi:IntsAre vs ns) (hl:ns.length≤sizeLine) (hr:Room k callerA)
    (F:∀ base:Heap,K.In base→base.Ns mainGlobals mg→FnOk P w K mg base CX k fa fd [x] sp) (hbind:∀ (s:Shared) (u:Value),BindsTo s fd ⟨[u],[]⟩ [(x,u)])
    (hsp:∀ H:Hp,Only H→SqL K H a (ns.map V.int)→sp [.ref a] H (fun v _=>v=.bl true) fun _ _ _=>False)
    (hCX:∀ H e s',CX [] H s₁ (fun _ _ _=>False) e s'→False) :
    codeAny (model P w) callerA (.call (.ref fa) ⟨[.ref a],[]⟩) (fun r s'=>r=.ok (.ret (.bool true))∧OldK s₁.heap s'.heap∧s'.os=s₁.os∧AllBare s'.gens) s₁:=by
  have rv:=ZdP hi
  have lenV:=hi.length
  have core:∀ H:Hp,Only H→SqL K H a (ns.map V.int)→HOk P w H s₁.heap→(∀ b,H b≠none→b=a)→(H a≠none→K.lookup a=none) →
      codeAny (model P w) callerA (.call (.ref fa) ⟨[.ref a],[]⟩) (fun r s'=>r=.ok (.ret (.bool true))∧OldK s₁.heap s'.heap∧s'.os=s₁.os∧AllBare s'.gens) s₁:=by
    intro H hO hS hok hA hK
    have base_of:∀ {b:Addr}{o:Obj},s₁.heap.get? b=some o→H b=none→(hidT s₁.heap H).get? b=some o:=fun e n=>Zk4 e n
    have noA:∀ {b:Addr}{o:Obj}{es:Array DictEntry}{ep:Nat},s₁.heap.get? b=some o→o.data=.dict es ep→H b=none:=fun {b o es ep} e d=>by
      cases q:H b with
      | none=>rfl
      | some u =>
        have e':b=a:=hA b (by rw [q];simp)
        subst e'
        rw [ha] at e;cases e
        have d':Data.seq vs.toArray _=Data.dict es ep:=d
        cases d'
    have nsK:∀ {b:Addr}{m:Str→Option Value},s₁.heap.Ns b m→(hidT s₁.heap H).Ns b m:=fun {b m} ⟨o,es,ep,e,d,r⟩=>⟨o,es,ep,base_of e (noA e d),d,r⟩
    have hKb:K.In (hidT s₁.heap H):=fun b o e=>base_of (KX b o e) (by
      cases q:H b with
      | none=>rfl
      | some u =>
        have e':b=a:=hA b (by rw [q];simp)
        subst e'
        rw [hK (by rw [q];simp)] at e;cases e)
    have hM:Mod K mg (hidT s₁.heap H):=⟨hKb,nsK hns,⟨mb,nsK hb,hbb⟩,let ⟨mc,h1,h2⟩:=hlim;⟨mc,nsK h1,h2⟩⟩
    have e0:Env0 P w K mg (hidT s₁.heap H) callerA [] s₁ H:=⟨rfl,hM,fun b o e=>ZmB e,Nat.le_of_eq (ZjA _ _),trivial,fun b hb=>absurd (show b∈([]:List Addr) from hb) (by simp),hok,.of_eq hg⟩
    refine codeAny_mono ((F _ hKb (nsK hns)).run callerA [] s₁ H ⟨[.ref a],[]⟩ [.ref a] [.ref a] _ _ hr e0 (hbind s₁ (.ref a)) (.cons rfl .nil) (hsp H hO hS)) fun r s' h=>?_
    cases r with
    | error e=>exact (hCX H e s' h).elim
    | ok fl =>
      cases fl with
      | next=>exact False.elim h
      | brk=>exact False.elim h
      | cont=>exact False.elim h
      | ret u =>
        obtain ⟨v,H',os,bare,un,hok',r',q⟩:=h
        have q':v=.bl true:=q
        subst q'
        obtain rfl:u=Value.bool true:=r'
        refine ⟨rfl,OldK.of_keep fun b o e=>?_,os,bare⟩
        cases q:H b with
        | none=>exact un.keep b o e q (by intro z;exact absurd (show b∈([]:List Addr) from z) (by simp)) (by simp)
        | some u =>
          rcases hO b with z | ⟨ob,xs,z⟩
          · rw [q] at z;cases z
          · have z2:=un.frzs b ob _ z
            obtain ⟨e1,_⟩:=hok b _ z
            obtain ⟨e2,_⟩:=hok' b _ z2
            rw [e] at e1;cases e1
            exact e2
  cases hk:K.lookup a with
  | some o =>
    have e:=KX a o hk
    rw [ha] at e
    cases e
    refine core (fun _=>none) (fun _=>.inl rfl) (.inr ⟨_,vs.toArray,_,hk,rfl,rfl,rfl,by rw [List.size_toArray,lenV];exact hl,by simpa using rv⟩) (fun b u z=>by have z':(none:Option HO)=some u:=z;cases z') (fun b z=>absurd rfl z) fun z=>absurd rfl z
  | none =>
    refine core (fun b=>if b=a then some (.frz { cls:=.type "list",data:=.seq vs.toArray } (.lst (ns.map V.int))) else none) (fun b=>?_) (.inl (.inr ⟨{ cls:=.type "list",data:=.seq vs.toArray },if_pos rfl⟩)) (fun b u z=>?_) (fun b z=>?_) fun _=>hk
    · by_cases hb:b=a
      · exact .inr ⟨_,_,if_pos hb⟩
      · exact .inl (if_neg hb)
    · by_cases hb:b=a
      · have z':=(if_pos hb).symm.trans z
        cases z'
        subst hb
        exact ⟨ha,by rw [List.length_map];exact hl,vs,_,rv,ha⟩
      · have z':=(if_neg hb).symm.trans z
        cases z'
    · by_cases hb:b=a
      · exact hb
      · exact absurd (if_neg hb) z
theorem Zl0 {l:PySem.W.OpenLaw}{n k:Nat}{q:Program}{loose:List Str}{XP:(Str→Option Value)→Heap→Prop}{YP:World→Heap→Prop}{d:DefRec}{K:Params→PySem.W.Frag}{CX:World→CXT}{sp:World→Sp}{x:Str}
    (hn:l.most=some n) (hn2:n≤sizeLine) (hdf:d.params.defaults=[]) (hr:Room k callerA)
    (hY:∀ (w:World) (h:Heap),YP w h→(K w.params).In h)
    (F:∀ (w:World) (mg:Str→Option Value) (fa:Addr) (h:Heap),(K w.params).In h→h.Ns mainGlobals mg→mg d.name=some (.ref fa) →
      ∃ fd:FuncData,(∀ (s:Shared) (u:Value),BindsTo s fd ⟨[u],[]⟩ [(x,u)]) ∧
        ∀ base:Heap,(K w.params).In base→base.Ns mainGlobals mg→FnOk l.prog w (K w.params) mg base (CX w) k fa fd [x] (sp w))
    (hsp:∀ (w:World) (H:Hp) (a:Addr) (ns:List Int),ns.length≤n→Only H→SqL (K w.params) H a (ns.map V.int)→sp w [.ref a] H (fun v _=>v=.bl true) fun _ _ _=>False)
    (hCX:∀ (w:World) (H:Hp) (s:Shared) (e:Value) (s':Shared),CX w [] H s (fun _ _ _=>False) e s'→False) :
    PySem.W.WalkO q loose XP YP l.row.toRowW d [] (fun f vs=>PySem.call f vs):=by
  refine Att.attach_call hn hdf fun w s₀ s₁ mg mb fa o pm cd doc a vs ns G Y ho hd hcd hmg hobj hints hlen hg=>?_
  have KX:=hY w _ Y
  obtain ⟨fd,hb,hF⟩:=F w mg fa _ KX G.T.g hmg
  exact Zk3 KX G.T.g G.T.b G.T.builtins G.T.nolimit hg hobj hints (Nat.le_trans hlen hn2) hr hF hb (fun H hO hS=>hsp w H a ns hlen hO hS) fun H e s'=>hCX w H s₁ e s'
def Zcl (s:Stmt):Arguments:=match s with
  | .FunctionDef _ a _ _ _ _ _ _ _ _=>a
  | _=>{ posonlyargs:=[],args:=[],vararg:=none,kwonlyargs:=[],kw_defaults:=[],kwarg:=none,defaults:=[] }
def Zar (s:Stmt):List Stmt:=match s with
  | .FunctionDef _ _ b _ _ _ _ _ _ _=>b
  | _=>[]
def Zag (s:Stmt):Scope:=match s with
  | .FunctionDef _ _ _ _ _ _ sc _ _ _=>sc
  | _=>{ kind:=.function,names:=[],isGenerator:=false,isCoroutine:=false }
abbrev CX0:CXT:=fun _ _ _ _ _ _=>False
abbrev E0:XK:=fun _ _ _=>False
theorem ZkJ {X:Cx}:Zew CX0 X E0:=fun _ _ _ _ _ _ _ h=>h.elim
structure Fun (K:PySem.W.Frag) (x qual:Str) (st:Stmt) (f:Addr) (fd:FuncData):Prop where
  ex:∃ (oc:Value) (od:Option Addr) (kV doc pm:Value) (an:Option Addr) (cdv ct:Value) (osl:Array (Option Value)),
    fd=PySem.W.fnOf x qual (Zcl st) (Zar st) (Zag st) .none kV doc pm an cdv ct∧K.lookup f=some ⟨oc,od,.func fd,osl⟩∧PySem.W.codeIn K cdv qual=true
  kp:PySem.W.keepIn K (.ref f)=true
section
variable {P:Program}{w:World}{K:PySem.W.Frag}{mg:Str→Option Value}{base:Heap}
theorem Fun.ok {x qual:Str}{st:Stmt}{f:Addr}{fd:FuncData}{N ps:List Str}{k:Nat}{sp:Sp} (F:Fun K x qual st f fd) (S:FnScope N ps (Zag st)) (len:∀ vs H Q E,sp vs H Q E→vs.length=ps.length)
    (hbody:∀ (cdv:Value) (A:Around) (outer:List Env) (s:Shared) (H:Hp) (vs:List V) (Q:VK) (E:XK),Room k (A.deeper (envOfC qual (Zag st) s.heap.objs.size f cdv))→sp vs H Q E →
      ∃ t,PSs (cxOf CX0 P w K mg base N qual (Zag st) f cdv A outer s H E).nox (Zar st) t∧t { nx:=fun _ H'=>Q .non H',rt:=Q } (Zdb N vs) H):FnOk P w K mg base CX0 (k+1) f fd ps sp:=by
  obtain ⟨oc,od,kV,doc,pm,an,cdv,ct,osl,rfl,lk,hcd⟩:=F.ex
  refine ZmQ lk hcd S len fun A outer s H vs Q E hr hsp=>?_
  obtain ⟨t,h,q⟩:=hbody cdv A outer s H vs Q E hr hsp
  exact ⟨t,h.nox,q⟩
theorem Fun.binds {x qual:Str}{st:Stmt}{f:Addr}{fd:FuncData}{ps:List Str} (F:Fun K x qual st f fd)
    (h:∀ (kV doc pm:Value) (an:Option Addr) (cdv ct:Value) (us:List Value),us.length=ps.length→bindArgs (PySem.W.fnOf x qual (Zcl st) (Zar st) (Zag st) .none kV doc pm an cdv ct) ⟨us,[]⟩=pure (ps.zip us)):Binds K fd ps []:=by
  obtain ⟨oc,od,kV,doc,pm,an,cdv,ct,osl,rfl,lk,hcd⟩:=F.ex
  exact .all (h kV doc pm an cdv ct)
theorem ZlQ {x qual:Str}{st:Stmt}{f:Addr}{oc:Value}{od an:Option Addr}{osl:Array (Option Value)}{kV doc pm cdv ct:Value} (l:K.lookup f=some ⟨oc,od,.func (PySem.W.fnOf x qual (Zcl st) (Zar st) (Zag st) .none kV doc pm an cdv ct),osl⟩)
    (c:PySem.W.codeIn K cdv qual=true) (k:PySem.W.keepIn K (.ref f)=true):Fun K x qual st f (PySem.W.fnOf x qual (Zcl st) (Zar st) (Zag st) .none kV doc pm an cdv ct):=⟨⟨oc,od,kV,doc,pm,an,cdv,ct,osl,rfl,l,c⟩,k⟩
end
theorem ZaZ {n:Nat} (h:n≤1000):n<sizeLine:=Nat.lt_of_le_of_lt h (by decide)
section
variable {X:Cx}
theorem pv (i:Nat) {x:Str}{pos:Pos} (hN:X.N[i]? = some x:=by rfl) (hv:Vis X.env.scope x:=by first | exact Or.inl rfl | exact Or.inr (Or.inl rfl) | exact Or.inr (Or.inr rfl)) (hd:(x == ("__debug__" : Str))=false:=by decide)
    (hcd:(x == ("__classdict__" : Str))=false:=by decide):PE X (.Name x pos) (tVar i):=Znm hN hv hd hcd
end
theorem iteF {A B:Prop} (h:B):if false=true then A else B:=by
  rw [if_neg Bool.false_ne_true]
  exact h
theorem iteT {A B:Prop} (h:A):if true=true then A else B:=by
  rw [if_pos rfl]
  exact h
theorem ite2 {c A B:Prop} [Decidable c] (h1:c→A) (h2:¬ c→B):if c then A else B:=by
  by_cases h:c
  · rw [if_pos h]
    exact h1 h
  · rw [if_neg h]
    exact h2 h
def Same (H H':Hp):Prop:=∀ b o,H b=some o→H' b=some o
theorem Same.refl (H:Hp):Same H H:=fun _ _ h=>h
theorem Same.trans {H H1 H2:Hp} (a:Same H H1) (b:Same H1 H2):Same H H2:=fun c o h=>b c o (a c o h)
theorem Same.free {H H':Hp} (e:Same H H') {l:Addr} (h:H' l=Option.none):H l=Option.none:=by
  cases q:H l with
  | none=>rfl
  | some o =>
    rw [e l o q] at h
    cases h
theorem Same.seq {K:PySem.W.Frag}{H H':Hp}{a:Addr}{xs:List V} (e:Same H H') (h:SqL K H a xs):SqL K H' a xs:=by
  rcases h with (h | ⟨o,h⟩) | h
  · exact .inl (.inl (e _ _ h))
  · exact .inl (.inr ⟨o,e _ _ h⟩)
  · exact .inr h
end L2
set_option Elab.async false
set_option linter.all false
set_option maxRecDepth 100000
set_option maxHeartbeats 4000000
namespace L2
open PySem PySem.Spec PyProof.Rows
def Cx.comp (X:Cx) (N':List Str) (scope:Scope) (cl:List (Str × Addr)) (C:Addr) (s2:Shared) (H2:Hp) (ex:List Addr):Cx :=
  { X with N:=N',s₀:=s2,H₀:=H2,env:=compEnvC scope cl C X.env,outer:=X.stack,ex:=ex,fn:=fun _=>false,pn:=[],xe:=fun _ _=>False }
theorem Zdl {env:Env}:∀ (names:List (Str × NameKind)) (acc:List (Str × Addr)),(∀ y∈names,y.2=.free→∃ c,env.cells.lookup y.1=some c) →
    (∀ x c,acc.lookup x=some c→env.cells.lookup x=some c) →
    ∃ cl,(forIn names acc fun (x:Str × NameKind) (cs:List (Str × Addr))=>(match x with
      | (name,kind)=>if (kind == NameKind.free)=true then do let c ← cellOf env name;pure (ForInStep.yield ((name,c) :: cs)) else pure (ForInStep.yield cs):Sem (ForInStep (List (Str × Addr)))))=pure cl ∧
      (∀ x c,cl.lookup x=some c→env.cells.lookup x=some c)∧(∀ x c,acc.lookup x=some c→cl.lookup x=some c) ∧
      (∀ x,(x,NameKind.free)∈names→∃ c,cl.lookup x=some c)
  | [],acc,_,h2=>⟨acc,rfl,h2,fun _ _ h=>h,fun _ h=>nomatch h⟩
  | (n,k) :: r,acc,h1,h2=>by
    rw [List.forIn_cons]
    dsimp only
    by_cases hk:(k == NameKind.free)=true
    · have hk':k=NameKind.free:=by simpa using hk
      obtain ⟨c,hc⟩:=h1 (n,k) List.mem_cons_self hk'
      have e:cellOf env n=pure c:=by unfold cellOf;rw [hc]
      obtain ⟨cl,e1,e2,e3,e4⟩:=Zdl r ((n,c) :: acc) (fun y hy=>h1 y (List.mem_cons_of_mem _ hy)) (fun x d hd=>by
        rw [List.lookup_cons] at hd
        cases hx:x == n with
        | true =>
          rw [hx] at hd
          have:x=n:=by simpa using hx
          subst this
          cases hd
          exact hc
        | false =>
          rw [hx] at hd
          exact h2 x d hd)
      have self:cl.lookup n=some c:=e3 n c (by rw [List.lookup_cons];simp)
      refine ⟨cl,?_,e2,fun x d hd=>?_,fun x hx=>?_⟩
      · rw [if_pos hk,e,pure_bind,pure_bind]
        exact e1
      · by_cases hx:x=n
        · subst hx
          have:=h2 x d hd
          rw [hc] at this
          cases this
          exact self
        · exact e3 x d (by rw [List.lookup_cons];simp only [show (x == n)=false by simpa using hx];exact hd)
      · rcases List.mem_cons.mp hx with z | z
        · cases z
          exact ⟨c,self⟩
        · exact e4 x z
    · obtain ⟨cl,e1,e2,e3,e4⟩:=Zdl r acc (fun y hy=>h1 y (List.mem_cons_of_mem _ hy)) h2
      refine ⟨cl,?_,e2,e3,fun x hx=>?_⟩
      · rw [if_neg hk,pure_bind]
        exact e1
      · rcases List.mem_cons.mp hx with z | z
        · cases z
          exact absurd rfl hk
        · exact e4 x z
theorem ZeV {scope:Scope}{env:Env} (h:∀ y∈scope.names,y.2=.free→∃ c,env.cells.lookup y.1=some c) :
    ∃ cl,closureFor scope env=pure cl∧(∀ x c,cl.lookup x=some c→env.cells.lookup x=some c)∧(∀ x,(x,NameKind.free)∈scope.names→∃ c,cl.lookup x=some c):=by
  obtain ⟨cl,e1,e2,e3,e4⟩:=Zdl (env:=env) scope.names [] h (fun x c hc=>by simp at hc)
  refine ⟨cl,?_,e2,e4⟩
  unfold closureFor
  simp only [bind_pure]
  exact e1
theorem ZcG {env:Env}{x:Str}{k:NameKind}:∀ {names:List (Str × NameKind)},
    (names.map fun (n,k)=>if (k == NameKind.free && env.scope.kind == .function && env.kindOf n == some .cell) then (n,NameKind.cell) else (n,k)).lookup x=some k →
    ∃ k',names.lookup x=some k'∧(k'=k∨k'=.free∧k=.cell)
  | [],h=>by simp at h
  | (n,j) :: r,h=>by
    rw [List.map_cons] at h
    dsimp only at h
    have ih:=@ZcG env x k r
    by_cases hc:(j == NameKind.free && env.scope.kind == .function && env.kindOf n == some .cell)=true
    · rw [if_pos hc,List.lookup_cons] at h
      rw [List.lookup_cons]
      cases hx:x == n with
      | true =>
        rw [hx] at h
        cases h
        simp only [Bool.and_eq_true] at hc
        exact ⟨j,rfl,.inr ⟨by simpa using hc.1.1,rfl⟩⟩
      | false =>
        rw [hx] at h
        exact ih h
    · rw [if_neg hc,List.lookup_cons] at h
      rw [List.lookup_cons]
      cases hx:x == n with
      | true =>
        rw [hx] at h
        cases h
        exact ⟨_,rfl,.inl rfl⟩
      | false =>
        rw [hx] at h
        exact ih h
theorem Zdp {env:Env}{x:Str}:∀ {names:List (Str × NameKind)},names.lookup x=some .free →
    (names.map fun (n,k)=>if (k == NameKind.free && env.scope.kind == .function && env.kindOf n == some .cell) then (n,NameKind.cell) else (n,k)).lookup x=some .cell ∨
    (names.map fun (n,k)=>if (k == NameKind.free && env.scope.kind == .function && env.kindOf n == some .cell) then (n,NameKind.cell) else (n,k)).lookup x=some .free
  | [],h=>by simp at h
  | (n,j) :: r,h=>by
    rw [List.map_cons]
    dsimp only
    have ih:=@Zdp env x r
    rw [List.lookup_cons] at h
    by_cases hc:(j == NameKind.free && env.scope.kind == .function && env.kindOf n == some .cell)=true
    · rw [if_pos hc,List.lookup_cons]
      cases hx:x == n with
      | true=>exact .inl rfl
      | false=>rw [hx] at h;exact ih h
    · rw [if_neg hc,List.lookup_cons]
      cases hx:x == n with
      | true=>rw [hx] at h;cases h;exact .inr rfl
      | false=>rw [hx] at h;exact ih h
theorem Zgh {prog:Program}{w:World}{A:Around}{R:Result→Shared→Prop}{s:Shared}{elt target iter:Expr}{ifs:List Expr}{scope:Scope}{pos:Pos}{it acc:Value}{env:Env} (I:Nat→Shared→Prop)
    (turn:∀ n s,I n s→wpAny (model prog w) A (pyNext it) (fun r s₁=>match r with
      | none=>R (.ok .next) s₁
      | some v=>wpAny (model prog w) A (letOwnedTupleGo target it v) (fun _ s₁'=>wpAny (model prog w) A (assign target env v) (fun _ s₂ =>
          wpAny (model prog w) A (forIn ifs true fun c r=>if r=true then do let ok ← isTrue c env (eval c env);pure (ForInStep.yield ok) else pure (ForInStep.yield r)) (fun ok s₃ =>
            if ok=true then wpAny (model prog w) A (eval elt env) (fun x s₄ =>
              wpAny (model prog w) A (call (.builtin "list.append") [acc,x]) (fun _ s₅=>∃ m,m<n∧I m s₅) (fun _ _=>False) s₄) (fun _ _=>False) s₃
            else ∃ m,m<n∧I m s₃) (fun _ _=>False) s₂) (fun _ _=>False) s₁') (fun _ _=>False) s₁) (fun _ _=>False) s)
    (n:Nat) (h:I n s) :
    codeAny (model prog w) A (.compLoop (.ListComp elt [⟨target,iter,ifs,0⟩] scope pos) 0 it acc env) R s:=by
  refine codeAny_loop rfl I (fun n s hI=>?_) n h
  show wpAny _ A ((compTurn (.ListComp elt [⟨target,iter,ifs,0⟩] scope pos) 0 it acc env).onRaise (fun x=>do noteFrame x env;theTreesLotGoes x)) _ _ s
  refine wpAny_noted ?_
  rw [compTurn_list]
  refine wpAny_bind (wpAny_standAt (wpAny_bind (wpAny_mono (turn n s hI) (fun r s₁ h₁=>?_) fun _ _ h'=>h'.elim)))
  cases r with
  | none=>exact wpAny_pure h₁
  | some v =>
    refine wpAny_bind (wpAny_mono h₁ (fun _ s₁' h₁'=>?_) fun _ _ h'=>h'.elim)
    refine wpAny_bind (wpAny_mono h₁' (fun _ s₂ h₂=>wpAny_bind (wpAny_mono h₂ (fun ok s₃ h₃=>?_) fun _ _ h'=>h'.elim)) fun _ _ h'=>h'.elim)
    cases ok with
    | false=>exact wpAny_pure ⟨rfl,h₃⟩
    | true =>
      exact wpAny_bind (wpAny_bind (wpAny_mono h₃ (fun x s₄ h₄=>wpAny_bind (wpAny_mono h₄ (fun _ s₅ h₅=>wpAny_pure (wpAny_pure ⟨rfl,h₅⟩)) fun _ _ h'=>h'.elim)) fun _ _ h'=>h'.elim))
end L2
set_option Elab.async false
set_option linter.all false
set_option maxRecDepth 100000
set_option maxHeartbeats 4000000
namespace L2
open PySem PySem.Spec PyProof.Rows
def pick (σ:St):Option Nat→Option V
  | none=>none
  | some i=>(σ[i]?).getD none
theorem ZiT {σ:St}{j:Nat}{v:V} (h:pick σ (some j)=some v):σ[j]? = some (some v):=by
  have h:(σ[j]?).getD none=some v:=h
  cases e:σ[j]? with
  | none=>rw [e] at h;cases h
  | some o=>rw [e] at h;exact congrArg some h
def ZhH (osc scope:Scope) (N Nb:List Str) (ix:List (Option Nat)):Bool :=
  decide (scope.kind=.function) && scope.names.all (fun y=>decide (y.2≠.cell)) &&
  scope.names.all (fun y=>decide (y.2=.local→scope.names.lookup y.1=some .local)) &&
  scope.names.all (fun y=>decide (y.2=.free→osc.names.lookup y.1=some .cell∨osc.names.lookup y.1=some .free)) &&
  decide (ix.length=Nb.length) &&
  (List.range Nb.length).all (fun i=>match ix[i]? with
    | some (some j)=>match Nb[i]? with
      | some x=>decide (N[j]? = some x∧scope.names.lookup x=some .free)
      | none=>true
    | _=>true)
structure CompOk (osc scope:Scope) (N Nb:List Str) (ix:List (Option Nat)):Prop where
  kind:scope.kind=.function
  nocell:∀ y∈scope.names,y.2≠.cell
  names:∀ y∈scope.names,y.2=.local→scope.names.lookup y.1=some .local
  fr:∀ y∈scope.names,y.2=.free→osc.names.lookup y.1=some .cell∨osc.names.lookup y.1=some .free
  len:ix.length=Nb.length
  src:∀ (i j:Nat) (x:Str),Nb[i]? = some x→ix[i]? = some (some j)→N[j]? = some x∧scope.names.lookup x=some .free
theorem Zgg {osc scope:Scope}{N Nb:List Str}{ix:List (Option Nat)} (h:ZhH osc scope N Nb ix=true):CompOk osc scope N Nb ix:=by
  unfold ZhH at h
  simp only [Bool.and_eq_true] at h
  obtain ⟨⟨⟨⟨⟨h1,h2⟩,h3⟩,h4⟩,h5⟩,h6⟩:=h
  refine ⟨of_decide_eq_true h1,fun y hy=>of_decide_eq_true (List.all_eq_true.mp h2 y hy),fun y hy=>of_decide_eq_true (List.all_eq_true.mp h3 y hy),fun y hy=>of_decide_eq_true (List.all_eq_true.mp h4 y hy),of_decide_eq_true h5,fun i j x e1 e2=>?_⟩
  have hi:i<Nb.length:=(List.getElem?_eq_some_iff.mp e1).1
  have q:=List.all_eq_true.mp h6 i (List.mem_range.mpr hi)
  rw [e2] at q
  simp only [e1] at q
  exact of_decide_eq_true q
def PIfs (X:Cx) (ifs:List Expr) (t:TT):Prop :=
  ∀ (pins:List (Addr × Obj)) (s:Shared) (σ:St) (H:Hp) (Q:Bool→Hp→Prop),Inv X pins σ H s→t σ H Q →
    wpAny (model X.prog X.w) X.A (forIn ifs true fun c r=>if r=true then do let ok ← isTrue c X.env (eval c X.env);pure (ForInStep.yield ok) else pure (ForInStep.yield r)) (TP X pins σ Q) X.xe s
def ZcJ:TT:=fun _ H Q=>Q true H
theorem ZaK {X:Cx}:PIfs X [] ZcJ:=fun _ _ _ H _ I h=>wpAny_tests_nil ⟨H,I,h⟩
theorem Zc3 {X:Cx}{c:Expr}{t:TT} (h:PT X c t):PIfs X [c] t:=fun pins s σ H Q I hq=>wpAny_tests_one (h pins s σ H Q I hq)
def Zbw (J:It) (g:TG) (tc:TT) (te:TE) (σ0:St) (H1:Hp) (Q:VK):Prop:=∀ D,H1 D=none →
  ∃ W:Nat→Nat→List V→St→Hp→Prop,(∃ m,W 0 m [] σ0 (upd H1 D (.lst []))) ∧
    ∀ i m ys σ' H',W i m ys σ' H'→H' D=some (.lst ys)∧((J.stop i H'∧Q (.ref D) H')∨(J.go i H'∧∀ x H2,J.yld i H' x H2→g x σ' H2 fun σ2 H3=>tc σ2 H3 fun b H4 =>
      if b=true then te σ2 H4 fun y H5=>H5 D=some (.lst ys)∧ys.length<sizeLine∧∃ m',m'<m∧W (i+1) m' (ys ++ [y]) σ2 (upd H5 D (.lst (ys ++ [y])))
      else ∃ m',m'<m∧W (i+1) m' ys σ2 H4))
def Zng (wi:TI) (g:TG) (tc:TT) (te:TE) (ix:List (Option Nat)):TE:=fun σ H Q=>wi σ H fun J H1=>Zbw J g tc te (ix.map (pick σ)) H1 Q
section
variable {X:Cx}{N':List Str}{scope osc:Scope}{cl:List (Str × Addr)}{C:Addr}{ex:List Addr}{ix:List (Option Nat)}{pins:List (Addr × Obj)}{σ:St}{H2:Hp}{s2:Shared}
theorem Zm0 (I2:Inv X pins σ H2 s2) (K:CompOk X.env.scope scope X.N N' ix) (e2:∀ x c,cl.lookup x=some c→X.env.cells.lookup x=some c) (e3:∀ x,(x,NameKind.free)∈scope.names→∃ c,cl.lookup x=some c)
    (hC:s2.heap.objs.size≤C) (f2:∀ b∈ex,FpOk X pins H2 b) (hex:∀ b∈ex,b<s2.heap.objs.size):(X.comp N' scope cl C s2 H2 ex).Ok where
  mod:=I2.ok.mod
  kind:=K.kind
  glob:=I2.ok.glob
  blt:=I2.ok.blt
  above:=hC
  inj:=fun x y c h1 h2=>I2.ok.inj x y c (e2 x c h1) (e2 y c h2)
  has:=fun x hx=>by
    have key:∀ k,(relabel scope X.env).names.lookup x=some k→k=.cell∨k=.free→∃ c,cl.lookup x=some c:=fun k hk hk2=>by
      obtain ⟨k',h1,h2⟩:=ZcG hk
      have hm:=PySem.mem_of_lookup h1
      rcases h2 with rfl | ⟨rfl,rfl⟩
      · rcases hk2 with rfl | rfl
        · exact absurd rfl (K.nocell _ hm)
        · exact e3 x hm
      · exact e3 x hm
    rcases hx with hx | hx
    · exact key _ hx (.inl rfl)
    · exact key _ hx (.inr rfl)
  cab:=fun x c h=>by cases h
  hd:=I2.ok.hd
  frames:=I2.ok.frames
  stk:=.inl rfl
  exf:=fun b hb=>⟨Nat.ne_of_lt (Nat.lt_of_lt_of_le (hex b hb) hC),fun x c h=>(f2 b hb).2.2.2.2.1 x c (e2 x c h)⟩
  bs:=I2.bs
  bsz:=Nat.le_trans I2.ok.bsz I2.sz
  noex:=fun b o e hb=>by
    rcases (f2 b hb).2.2.2.1 with z | z
    · exact I2.ok.noex b o e z
    · exact absurd (Nat.lt_of_lt_of_le (Heap.lt_size (I2.ok.bs b o e).1) z) (Nat.lt_irrefl _)
  exfs:=fun b hb hf=>by
    rcases List.mem_cons.mp (I2.stkSub b hf) with z | z
    · exact (f2 b hb).2.1 z
    · exact (f2 b hb).2.2.1 z
  funs:=I2.stack
  frf:=I2.stkFree
theorem ZhG (I2:Inv X pins σ H2 s2) (f2:∀ b∈ex,FpOk X pins H2 b) (hC:s2.heap.objs.size≤C) {σ3:St}{H3:Hp}{s4:Shared}{h':Heap}
    (J:Inv (X.comp N' scope cl C s2 H2 ex) [] σ3 H3 s4) (sb:Heap.SameBut C s4.heap h'):Inv X pins σ H3 { s4 with heap:=h' }:=by
  have ne:∀ b o,s2.heap.get? b=some o→b≠C:=fun b o e=>Nat.ne_of_lt (Nat.lt_of_lt_of_le (Heap.lt_size e) hC)
  have B:=J.base
  have fr:H3 C=none:=J.free
  refine I2.call' (s':={ s4 with heap:=h' }) (ch:=ex) J.os ⟨fun b o e n hb hx=>?_,fun b o e n hb hx=>?_,B.free,fun b o e hx=>?_,B.tups,B.frzs,B.tbls⟩ ?_ J.bare fun b hb=>?_
  · exact (sb.2 b (ne b o e)).trans (B.keep b o e n hb hx)
  · obtain ⟨sl,q⟩:=B.slot b o e n hb hx
    exact ⟨sl,(sb.2 b (ne b o e)).trans q⟩
  · obtain ⟨o',q⟩:=B.there b o e hx
    exact ⟨o',(sb.2 b (ne b o e)).trans q⟩
  · intro b ob e
    refine (J.hok b ob e).stay (fun c w' hc q=>(sb.2 c ?_).trans q) (fun _ q=>q) fun _ _ q=>q
    rintro rfl
    rcases hc with rfl | hc
    · rw [fr] at e;cases e
    · rw [fr] at hc;cases hc
  · obtain ⟨_,f1,_,f3,f4,f5⟩:=f2 b hb
    exact ⟨f3,f1,f4,f5⟩
end
theorem ZeU {X:Cx}{tg iter elt:Expr}{ifs:List Expr}{scope:Scope}{pos:Pos}{g:TG}{tc:TT}{te:TE}{N':List Str}{ix:List (Option Nat)}{pins:List (Addr × Obj)}{σ:St}{s2:Shared}{itv:Value}{Q:VK}{cl:List (Str × Addr)}
    {RR:Value→Addr→Result→Shared→Prop} (hc:X.calm=true) (K:CompOk X.env.scope scope X.N N' ix) (e2:∀ x c,cl.lookup x=some c→X.env.cells.lookup x=some c) (e3:∀ x,(x,NameKind.free)∈scope.names→∃ c,cl.lookup x=some c)
    (hg:∀ cl C s2 H2 ex,PG (X.comp N' scope cl C s2 H2 ex) tg g) (ht:∀ cl C s2 H2 ex,PIfs (X.comp N' scope cl C s2 H2 ex) ifs tc) (he:∀ cl C s2 H2 ex,PE (X.comp N' scope cl C s2 H2 ex) elt te)
    (h2:PIE X pins σ tg (fun J H1=>Zbw J g tc te (ix.map (pick σ)) H1 Q) itv s2)
    (hRR:∀ H2 fp C D σ3 H3 s4,Inv X pins σ H2 s2→(∀ b∈fp,FpOk X pins H2 b)→s2.heap.objs.size≤C→Inv (X.comp N' scope cl C s2 H2 fp) [] σ3 H3 s4→Q (.ref D) H3→RR (.ref D) C (.ok .next) s4) :
    wpAny (model X.prog X.w) X.A (newList []) (fun acc s₃=>wpAny (model X.prog X.w) X.A (newFunctionEnv scope X.env.globals cl [] X.env.qual none .none (some X.env)) (fun cenv s₄ =>
      codeAny (model X.prog X.w) X.A (.compStart (.ListComp elt [⟨tg,iter,ifs,0⟩] scope pos) 0 itv acc { cenv with scope:=relabel scope X.env }) (RR acc cenv.locals) s₄) X.xe s₃) X.xe s2:=by
  obtain ⟨it,fp,tn,J,H2,rfl,I2,T,st2,f2,q⟩:=h2
  refine wpAny_newObj_type (wpAny_newFunctionEnv K.nocell (by intro y hy;simp at hy) (fun h1 hns1 hsb1=>?_) K.kind)
  dsimp only at hns1 hsb1 ⊢
  generalize hP:s2.heap.push { cls:=.type "list",dict:=none,data:=.seq ([]:List Value).toArray }=P2 at hns1 hsb1 ⊢
  have hCs:P2.objs.size=s2.heap.objs.size+1:=by rw [← hP,Heap.size_push]
  have hC:s2.heap.objs.size≤P2.objs.size:=by omega
  have hDC:s2.heap.objs.size≠P2.objs.size:=by omega
  have old:∀ b o,s2.heap.get? b=some o→h1.get? b=some o:=fun b o e =>
    hsb1.extBut b o (Nat.ne_of_lt (Nat.lt_of_lt_of_le (Heap.lt_size e) hC)) (Heap.get?_push_of_some _ (hP ▸ Heap.get?_push_of_some _ e))
  have hacc:h1.get? s2.heap.objs.size=some { cls:=.type "list",dict:=none,data:=.seq ([]:List Value).toArray } :=
    hsb1.extBut _ _ hDC (Heap.get?_push_of_some _ (hP ▸ Heap.get?_push_size _ rfl))
  have hD:H2 s2.heap.objs.size=none:=I2.hok.fresh (Nat.le_refl _)
  have hCn:H2 P2.objs.size=none:=I2.hok.fresh hC
  obtain ⟨W,⟨m0,w0⟩,turn⟩:=q s2.heap.objs.size hD
  have hex:∀ b∈fp,b<s2.heap.objs.size:=fun b hb=>by
    obtain ⟨o,e,_⟩:=T.obj 0 _ st2 b hb
    exact Heap.lt_size e
  have YOk:=Zm0 (cl:=cl) (C:=P2.objs.size) (ex:=fp) I2 K e2 e3 hC f2 hex
  have hok1:HOk X.prog X.w (upd H2 s2.heap.objs.size (.lst [])) h1:=I2.hok.laid old (Nat.le_refl _) ⟨Nat.zero_le _,[],0,.nil,hacc⟩
  have IY:Inv (X.comp N' scope cl P2.objs.size s2 H2 fp) [] (ix.map (pick σ)) (upd H2 s2.heap.objs.size (.lst [])) { s2 with heap:=h1,toks:=s2.toks+([]:List (Str × Value)).length }:=by
    refine ⟨YOk,rfl,I2.bare,?_,⟨_,hns1,fun i x v e1 e4 e5=>?_⟩,fun x c e=>?_,?_,fun x c e=>?_,fun p hp=>absurd (show p∈([]:List (Addr × Obj)) from hp) (by simp),hok1,?_⟩
    · exact (Un.laid old (Nat.le_refl _) hD).mono (fun _ z=>z) (fun _ z=>z)
    · rw [List.getElem?_map] at e4
      cases e6:ix[i]? with
      | none=>rw [e6] at e4;cases e4
      | some o =>
        rw [e6] at e4
        cases o with
        | none=>cases (Option.some.inj e4)
        | some j =>
          have e7:σ[j]? = some (some v):=ZiT (Option.some.inj e4)
          obtain ⟨n1,n2⟩:=K.src i j x e1 e6
          have hm:=PySem.mem_of_lookup n2
          have kx:=K.fr _ hm rfl
          obtain ⟨m,hn,hl⟩:=I2.loc
          obtain ⟨u,r,l⟩:=hl j x v n1 e7 (kx.elim (fun z=>.inr (.inl z)) fun z=>.inr (.inr z))
          refine ⟨u,r,.inr ⟨?_,?_⟩⟩
          · exact Zdp n2
          · rcases l with ⟨k1,_⟩ | ⟨_,c,hc1,hc2⟩
            · exfalso
              have k1':X.env.scope.names.lookup x=some .local:=k1
              rcases kx with z | z
              · rw [k1'] at z;cases z
              · rw [k1'] at z;cases z
            · obtain ⟨c',hc'⟩:=e3 x hm
              have e8:=e2 x c' hc'
              rw [hc1] at e8
              cases e8
              obtain ⟨o,ho,hd⟩:=hc2
              exact ⟨c,hc',o,old _ _ ho,hd⟩
    · obtain ⟨v,o,ho,hd⟩:=I2.cell x c (e2 x c e)
      exact ⟨v,o,old _ _ ho,hd⟩
    · show upd H2 s2.heap.objs.size (.lst []) P2.objs.size=none
      rw [Zal (Ne.symm hDC)]
      exact hCn
    · obtain ⟨v,z⟩:=I2.cell x c (e2 x c e)
      rw [Zal (Nat.ne_of_lt z.lt)]
      exact I2.freeC x c (e2 x c e)
    · rw [List.length_map]
      exact K.len
  have hnf:∀ b∈fp,b≠P2.objs.size:=fun b hb=>Nat.ne_of_lt (Nat.lt_of_lt_of_le (hex b hb) hC)
  have stat:∀ {H':Hp},(∀ b∈fp,H' b=none)→∀ b∈fp,FpOk (X.comp N' scope cl P2.objs.size s2 H2 fp) [] H' b:=fun hn b hb =>
    ⟨hn b hb,hnf b hb,YOk.exfs b hb,.inl hb,fun x c e=>(f2 b hb).2.2.2.2.1 x c (e2 x c e),fun p hp=>absurd (show p∈([]:List (Addr × Obj)) from hp) (by simp)⟩
  have loop:∀ s₃:Shared,s₃ = { s2 with heap:=h1,toks:=s2.toks+([]:List (Str × Value)).length } →
      codeAny (model X.prog X.w) X.A (.compLoop (.ListComp elt [⟨tg,iter,ifs,0⟩] scope pos) 0 (.ref it) (.ref s2.heap.objs.size) (compEnvC scope cl P2.objs.size X.env))
        (RR (.ref s2.heap.objs.size) P2.objs.size) s₃:=by
    rintro s₃ rfl
    refine Zgh (fun n s'=>∃ i ys σ' H',Inv (X.comp N' scope cl P2.objs.size s2 H2 fp) [] σ' H' s'∧tn i s'.heap∧(∀ b∈fp,H' b=none)∧W i n ys σ' H') ?_ m0
      ⟨0,[],_,_,IY,T.keep _ _ _ st2 (fun b hb o e=>old b o e),fun b hb=>?_,w0⟩
    · rintro n s3 ⟨i,ys,σ3,H3,I3,st3,fr3,w3⟩
      obtain ⟨hDl,tt⟩:=turn i n ys σ3 H3 w3
      rcases tt with ⟨stop,qn⟩ | ⟨go,step⟩
      · refine thn (T.done (X.comp N' scope cl P2.objs.size s2 H2 fp) rfl rfl rfl hc i [] s3 σ3 H3 (fun _ _=>False) I3 (stat fr3) st3 stop) fun r s4 ⟨hr,I4⟩=>?_
        subst hr
        exact hRR H2 fp P2.objs.size s2.heap.objs.size σ3 H3 s4 I2 f2 hC I4 qn
      · refine thn (T.item (X.comp N' scope cl P2.objs.size s2 H2 fp) rfl rfl rfl hc i [] s3 σ3 H3 (fun _ _=>False) I3 (stat fr3) st3 go) fun r s4 ⟨u,hr,h4⟩=>?_
        subst hr
        refine thn h4 fun _ s5 ⟨x,H5,I5,r5,y5,st5,fr5⟩=>?_
        have I5':=I5.pinned (stat fr5) (T.obj _ _ st5)
        refine thn (hg cl P2.objs.size s2 H2 fp _ s5 σ3 H5 x u _ I5' r5 (step x H5 y5)) fun _ s6 ⟨σ6,H6,I6,q6⟩=>?_
        refine thn (ht cl P2.objs.size s2 H2 fp _ s6 σ6 H6 _ I6 q6) fun b s7 ⟨H7,I7,q7⟩=>?_
        have again:∀ {s8:Shared}{H8:Hp}{ys':List V}{m':Nat},Inv (X.comp N' scope cl P2.objs.size s2 H2 fp) ([] ++ ZfV fp s5.heap) σ6 H8 s8→m'<n→W (i+1) m' ys' σ6 H8 →
            ∃ m,m<n∧∃ i ys σ' H',Inv (X.comp N' scope cl P2.objs.size s2 H2 fp) [] σ' H' s8∧tn i s8.heap∧(∀ b∈fp,H' b=none)∧W i m ys σ' H':=fun {s8 H8 ys' m'} I8 hm w8=>by
          refine ⟨m',hm,i+1,ys',σ6,H8,I8.unpinned,T.keep _ _ _ st5 fun b hb o e=>(I8.pin (b,o) (List.mem_append_right _ (List.mem_append_right _ (Zcw hb e)))).1,fun b hb=>?_,w8⟩
          obtain ⟨o,e,d⟩:=T.obj _ _ st5 b hb
          exact (I8.pin (b,o) (List.mem_append_right _ (List.mem_append_right _ (Zcw hb e)))).2.1
        cases b with
        | false =>
          obtain ⟨m',hm,w7⟩:∃ m',m'<n∧W (i+1) m' ys σ6 H7:=q7
          exact again I7 hm w7
        | true =>
          have q7':te σ6 H7 _:=q7
          show wpAny _ _ (eval elt (compEnvC scope cl P2.objs.size X.env)) _ _ _
          refine thn (he cl P2.objs.size s2 H2 fp _ s7 σ6 H7 _ I7 q7') fun yv s8 ⟨y,H8,I8,r8,hD8,hz8,m',hm,w8⟩=>?_
          refine thn (Zbl (X:=X.comp N' scope cl P2.objs.size s2 H2 fp) _ s8 σ6 H8 (.ref s2.heap.objs.size) [y] (.ref s2.heap.objs.size) [yv] (fun _ H9=>H9=upd H8 s2.heap.objs.size (.lst (ys ++ [y]))) I8 rfl (.cons r8 .nil)
            ⟨_,ys,y,rfl,rfl,hD8,hz8,rfl⟩) fun _ s9 ⟨_,H9,I9,_,e9⟩=>?_
          subst e9
          exact again I9 hm w8
    · show upd H2 s2.heap.objs.size (.lst []) b=none
      rw [Zal (Nat.ne_of_lt (hex b hb))]
      exact (f2 b hb).1
  exact codeAny_compStart_list (loop _ rfl) (T.self X.A 0 _ _ _ (T.keep _ _ _ st2 (fun b hb o e=>old b o e)) (loop _ rfl))
theorem ZaX {X:Cx}{tg iter elt:Expr}{ifs:List Expr}{scope:Scope}{pos:Pos}{wi:TI}{g:TG}{tc:TT}{te:TE} (N':List Str) (ix:List (Option Nat)) (osc:Scope) (N:List Str)
    (hc:X.calm=true) (hi:PI X tg iter wi) (ok:ZhH osc scope N N' ix=true)
    (hg:∀ cl C s2 H2 ex,PG (X.comp N' scope cl C s2 H2 ex) tg g) (ht:∀ cl C s2 H2 ex,PIfs (X.comp N' scope cl C s2 H2 ex) ifs tc) (he:∀ cl C s2 H2 ex,PE (X.comp N' scope cl C s2 H2 ex) elt te)
    (hsc:X.env.scope=osc:=by rfl) (hN:X.N=N:=by rfl) (hs:∀ x,foldedSetIterable iter X.env x=pure x:=by intro _;rfl):PE X (.ListComp elt [⟨tg,iter,ifs,0⟩] scope pos) (Zng wi g tc te ix):=by
  intro pins s σ H Q I h
  have K0:=Zgg ok
  have K:CompOk X.env.scope scope X.N N' ix:=by rw [hsc,hN];exact K0
  obtain ⟨cl,hclos,e2,e3⟩:=ZeV (scope:=scope) (env:=X.env) (fun y hy hf=>I.ok.has y.1 (K.fr y hy hf))
  rw [eval_ListComp]
  refine wpAny_comprehension_free (use:=none) rfl hs hclos K.kind K.names (wpAny_mono (hi pins s σ H _ I h) (fun v s1 h1=>thn h1 fun itv s2 h2=>?_) fun _ _ e=>e)
  refine ZeU hc K e2 e3 hg ht he h2 fun H2 fp C D σ3 H3 s4 I2 f2 hC I4 qn=>?_
  obtain ⟨m,hn,_⟩:=I4.loc
  exact ⟨m,hn,fun h' sb=>⟨.ref D,H3,ZhG I2 f2 hC I4 sb,rfl,qn⟩⟩
theorem Zd6 {X:Cx}{tg iter elt:Expr}{ifs:List Expr}{scope:Scope}{pos spos py:Pos}{y:Str}{wi:TI}{g:TG}{tc:TT}{te:TE} (N':List Str) (ix:List (Option Nat)) (osc:Scope) (N:List Str) {i:Nat} (nd:X.N.Nodup) (hiy:X.N[i]? = some y) (hxy:Loc X.env.scope y)
    (hc:X.calm=true) (hi:PI X tg iter wi) (ok:ZhH osc scope N N' ix=true)
    (hg:∀ cl C s2 H2 ex,PG (X.comp N' scope cl C s2 H2 ex) tg g) (ht:∀ cl C s2 H2 ex,PIfs (X.comp N' scope cl C s2 H2 ex) ifs tc) (he:∀ cl C s2 H2 ex,PE (X.comp N' scope cl C s2 H2 ex) elt te)
    (hsc:X.env.scope=osc:=by rfl) (hN:X.N=N:=by rfl) (hs:∀ x,foldedSetIterable iter X.env x=pure x:=by intro _;rfl)
    (hsw:swapsWith (.ListComp elt [⟨tg,iter,ifs,0⟩] scope pos) (some (.Name y py)) spos.line X.env=pure true:=by rfl) (hf:X.fn y=true∨X.env.scope.names.lookup y=some .local:=by first | exact .inl rfl | exact .inr rfl | assumption) :
    PS X (.Assign [.Name y py] (.ListComp elt [⟨tg,iter,ifs,0⟩] scope pos) spos) (tAsg (Zng wi g tc te ix) (ZaP i)):=by
  intro pins s σ H D I h
  have K0:=Zgg ok
  have K:CompOk X.env.scope scope X.N N' ix:=by rw [hsc,hN];exact K0
  obtain ⟨cl,hclos,e2,e3⟩:=ZeV (scope:=scope) (env:=X.env) (fun y hy hf=>I.ok.has y.1 (K.fr y hy hf))
  rw [exec_Assign_Name_used _ _ _ _ hsw]
  refine wpAny_bind (wpAny_standAt (wpAny_bind ?_))
  show wpAny _ X.A (do let _ ← comprehension (.ListComp elt [⟨tg,iter,ifs,0⟩] scope pos) scope X.env _ (newList []) false (eval iter X.env) (some (assign (.Name y py) X.env))) _ _ s
  refine wpAny_bind (wpAny_mono (wpAny_comprehension_free (use:=some (assign (.Name y py) X.env)) (Q:=fun _ s'=>SP X pins D .next s') rfl hs hclos K.kind K.names
    (wpAny_mono (hi pins s σ H _ I h) (fun v s1 h1=>thn h1 fun itv s2 h2=>?_) fun _ _ e=>e)) (fun _ s' hq=>wpAny_pure (wpAny_pure hq)) fun _ _ e=>e)
  refine ZeU hc K e2 e3 hg ht he h2 fun H2 fp C L σ3 H3 s4 I2 f2 hC I4 qn=>?_
  have I5:Inv X pins σ H3 s4:=ZhG I2 f2 hC I4 (Heap.SameBut.refl ..)
  obtain ⟨m,hn,_⟩:=I4.loc
  have hn:s4.heap.Ns C m:=hn
  have fC:FpOk X pins H3 C:=I2.fpOk hC I4.free
  show wpAny _ X.A (assign (.Name y py) X.env (.ref L)) _ _ s4
  refine wpAny_assign_Name (ZfE I5 nd hiy hxy (v:=.ref L) rfl (fun s5 I6 hch=>?_) hf)
  obtain ⟨a,sb,ha⟩:=hch
  have nCa:C≠a:=by
    rcases ha with rfl | ha
    · exact fC.2.1
    · exact fun z=>fC.2.2.2.2.1 y a ha z.symm
  refine ⟨m,hn.sameBut sb nCa,fun h' sb'=>⟨_,H3,?_,qn⟩⟩
  obtain ⟨f0,f1,f2',f3,f4,f5⟩:=fC
  exact I6.turned (t':=s5.toks) (fun b o hb e=>(sb'.2 b hb).trans e) f0 f1 f3 f4 f5
end L2
set_option Elab.async false
set_option linter.all false
set_option maxRecDepth 100000
set_option maxHeartbeats 4000000
namespace L2
open PySem PySem.Spec PyProof.Rows
section
variable {X:Cx}
theorem ZhL:∀ {bs:List Bool}{us:List Value},Vals (bs.map V.bl) us→LSm.BoolsAre us bs
  | [],_,.nil=>.nil
  | b :: bs,_,.cons r t=>by
    cases r
    exact .cons b (ZhL t)
theorem Zbd (hc:X.calm=true):Zb4 X (.builtin "all") (fun xs H Q=>∃ (p:Addr) (bs:List Bool),xs=[.ref p]∧SqL X.K H p (bs.map V.bl)∧Q (.bl (bs.all id)) H):=by
  intro pins s σ H xs us Q I rv h
  obtain ⟨p,bs,rfl,hq,q⟩:=h
  obtain ⟨u,rfl,ru⟩:=rv.one
  cases ru
  obtain ⟨its,r,pl,hz⟩:=I.list hq
  have hb:=ZhL r
  obtain ⟨m,F⟩:=I.fr
  have hl:=pl.isList
  have hlt:p<s.heap.objs.size:=by obtain ⟨_,e,_⟩:=hl;exact Heap.lt_size e
  have hh:=I.ok.hd hc
  refine call_all_walk (wpAny_pyIter_list hl ?_)
  refine ⟨s.heap.objs.size,[s.heap.objs.size,p],[s.heap.objs.size],its.toArray.size,_,_,fun i=>(bs[i]?).getD true,rfl,Walks.list (A:=X.A.in1) hh _ p (Nat.ne_of_lt hlt) its.toArray,
    ⟨⟨_,Heap.get?_push_size _ rfl,rfl,rfl⟩,hl.push _⟩,fun i v s' Q' E' hP hQ=>?_,fun h' tk hk=>?_⟩
  · obtain ⟨b,e,rfl⟩:=hb.get i v (by simpa using hP)
    simp only [e,Option.getD_some] at hQ
    exact wpAny_truthy_bool hQ
  · have e:((List.range its.toArray.size).all fun i=>(bs[i]?).getD true)=bs.all id:=by
      rw [List.size_toArray,hb.length];exact LSm.range_all bs
    rw [e]
    exact ⟨.bl _,H,I.kept (LSm.kept_iter hk),rfl,q⟩
theorem ZaU:Zb4 X (.builtin "isinstance") (fun xs H Q=>∃ x T t b,xs=[x,.ty T]∧TyOf X.K H x t∧PySem.W.kitOne X.K t (.type T)=some b∧Q (.bl b) H):=by
  intro pins s σ H xs us Q I rv h
  obtain ⟨x,T,t,b,rfl,ty,e,q⟩:=h
  obtain ⟨u,v,rfl,ru,rv⟩:=rv.two
  cases rv
  exact Zjy I ru ty e fun tk=>⟨.bl b,H,I.tok tk,rfl,q⟩
theorem Zb7:∀ {ns:List Int}{us:List Value},Vals (ns.map V.int) us→IntsAre us ns
  | [],_,.nil=>.nil
  | b :: bs,_,.cons r t=>by
    obtain ⟨tk,rfl⟩:=r
    exact .cons _ _ (Zb7 t)
end
mutual
inductive RdD (K:PySem.W.Frag) (H:Hp):V→PyData→Prop
  | non:RdD K H .non .none
  | bl (b:Bool):RdD K H (.bl b) (.bool b)
  | int (i:Int):RdD K H (.int i) (.int i)
  | str (x:Str):RdD K H (.str x) (.str x)
  | lst {a:Addr}{xs:List V}{ds:List PyData}:SqL K H a xs→RdAll K H xs ds→RdD K H (.ref a) (.list ds)
  | tup {a:Addr}{xs:List V}{ds:List PyData}:SqT K H a xs→RdAll K H xs ds→RdD K H (.ref a) (.tuple ds)
inductive RdAll (K:PySem.W.Frag) (H:Hp):List V→List PyData→Prop
  | nil:RdAll K H [] []
  | cons {x:V}{d:PyData}{xs:List V}{ds:List PyData}:RdD K H x d→RdAll K H xs ds→RdAll K H (x :: xs) (d :: ds)
end
section
variable {X:Cx}{pins:List (Addr × Obj)}{σ:St}{H:Hp}{s:Shared}
mutual
theorem Inv.reads (I:Inv X pins σ H s):∀ {x:V}{d:PyData}{u:Value},RdD X.K H x d→RelV x u→∃ as,Reads s.heap u d as
  | _,_,_,.non,r=>by cases r;exact ⟨_,.none⟩
  | _,_,_,.bl b,r=>by cases r;exact ⟨_,.bool b⟩
  | _,_,_,.int i,r=>by obtain ⟨t,rfl⟩:=r;exact ⟨_,.int i t⟩
  | _,_,_,.str x,r=>by obtain ⟨t,rfl⟩:=r;exact ⟨_,.str x t⟩
  | _,_,_,.lst hq ha,r=>by
    cases r
    obtain ⟨its,rv,⟨o,n,e,c,dd,dt⟩,_⟩:=I.list hq
    obtain ⟨as,q⟩:=Inv.readsAll I ha rv
    exact ⟨_,.list e c dt (by simpa using q)⟩
  | _,_,_,.tup hq ha,r=>by
    cases r
    obtain ⟨its,rv,⟨o,e,c,n,dt⟩,_⟩:=I.tuple hq
    obtain ⟨as,q⟩:=Inv.readsAll I ha rv
    exact ⟨_,.tuple e c dt (by simpa using q)⟩
theorem Inv.readsAll (I:Inv X pins σ H s):∀ {xs:List V}{ds:List PyData}{us:List Value},RdAll X.K H xs ds→Vals xs us→∃ as,ReadsAll s.heap us ds as
  | _,_,_,.nil,.nil=>⟨_,.nil⟩
  | _,_,_,.cons h t,.cons r rr=>by
    obtain ⟨as,q⟩:=Inv.reads I h r
    obtain ⟨bs,p⟩:=Inv.readsAll I t rr
    exact ⟨_,.cons q p⟩
end
def rEqD (K:PySem.W.Frag) (neg:Bool):R2:=fun x y H Q=>∃ dx dy,RdD K H x dx∧RdD K H y dy∧SeqAt.shaped dx=true∧SeqAt.shaped dy=true∧Q (.bl (if neg then !PyData.eqv dx dy else PyData.eqv dx dy)) H
theorem ZlG (hu:X.A.units+64<cLine):OpR X (compareOp .Eq) (rEqD X.K false):=by
  intro pins s σ H x y v u Q I rx ry h
  obtain ⟨dx,dy,h1,h2,s1,s2,q⟩:=h
  obtain ⟨as,r1⟩:=I.reads h1 rx
  obtain ⟨bs,r2⟩:=I.reads h2 ry
  exact eq_dataH r1 r2 s1 s2 hu ⟨.bl _,H,I,rfl,q⟩
theorem Zf0 (hu:X.A.units+64<cLine):OpR X (compareOp .NotEq) (rEqD X.K true):=by
  intro pins s σ H x y v u Q I rx ry h
  obtain ⟨dx,dy,h1,h2,s1,s2,q⟩:=h
  obtain ⟨as,r1⟩:=I.reads h1 rx
  obtain ⟨bs,r2⟩:=I.reads h2 ry
  exact ne_dataH r1 r2 s1 s2 hu ⟨.bl _,H,I,rfl,q⟩
end
end L2
set_option Elab.async false
set_option linter.all false
set_option maxRecDepth 100000
set_option maxHeartbeats 4000000
namespace L2
open PySem PySem.Spec PyProof.Rows
def Ite (K:PySem.W.Frag) (a:Addr):It :=
  ⟨fun i H=>∃ xs x,SqL K H a xs∧xs[i]? = some x,fun i H y H'=>∃ T x,y=.ref T∧H T=none∧H'=upd H T (.tup [.int (i:Nat),x])∧∀ xs,SqL K H a xs→xs[i]? = some x,fun i H=>∃ xs,SqL K H a xs∧xs.length≤i⟩
theorem Inv.tupNew {X:Cx}{pins:List (Addr × Obj)}{σ:St}{H:Hp}{s:Shared}{h':Heap}{t':Nat}{fp:List Addr}{T:Addr}{xs:List V}{its:List Value}{n:Nat} (I:Inv X pins σ H s) (hf:∀ b∈fp,FpOk X pins H b)
    (hT:s.heap.objs.size≤T) (k:∀ b o,b∉fp→s.heap.get? b=some o→h'.get? b=some o) (hz:xs.length≤sizeLine) (rv:Vals xs its) (e:h'.get? T=some { cls:=.type "tuple",data:=.seq its.toArray n })
    (tr:∀ b∈fp,∃ o,h'.get? b=some o):Inv X pins σ (upd H T (.tup xs)) { s with heap:=h',toks:=t' }:=by
  have hTn:H T=none:=I.hok.fresh hT
  have nT:∀ b o,s.heap.get? b=some o→b≠T:=fun b o q=>Nat.ne_of_lt (Nat.lt_of_lt_of_le (Heap.lt_size q) hT)
  have nfp:∀ b o,H b=some o→b∉fp:=fun b o q hb=>by have:=(hf b hb).1;rw [q] at this;cases this
  refine I.step (g':=s.gens) (d':=s.drawn) (ch:=fp) (fun b hb=>?_) (fun b o _ _ hc q _=>k b o hc q) (fun b o _ _ hc q _=>⟨o.slots,k b o hc q⟩) (fun b o _ q n=>by rw [Zal (nT b o q)];exact n)
    (fun b o hc q=>⟨o,k b o hc q⟩) (fun b ys q=>by rw [Zal (Zak q hTn)];exact q) (fun b o u q=>by rw [Zal (Zak q hTn)];exact q) (fun b ps q=>⟨#[],by rw [Zal (Zak q hTn),q];simp⟩) (fun m hm=>?_) (fun b u q=>?_) I.bare
  · obtain ⟨_,f1,_,f3,f4,f5⟩:=hf b hb
    exact ⟨f3,f1,f4,f5⟩
  · obtain ⟨o,es,ep,ho,r⟩:=hm
    exact ⟨o,es,ep,k _ o (fun z=>(hf _ z).2.1 rfl) ho,r⟩
  · by_cases hb:b=T
    · subst hb
      rw [Zad] at q
      cases q
      exact ⟨hz,its,rv,_,e,rfl,n,rfl⟩
    · rw [Zal hb] at q
      refine (I.hok b u q).stay (fun c v hc w=>k c v ?_ w) (fun c w=>by rw [Zal (Zak w hTn)];exact w) fun c ys w=>by rw [Zal (Zak w hTn)];exact w
      rcases hc with rfl | hc
      · exact nfp _ _ q
      · exact nfp _ _ hc
theorem Zim {P:Program}{w:World}{K:PySem.W.Frag}{es:List Expr}{k1}{ps:Pos} (a e it:Addr):Turn P w K (.Tuple es k1 ps) (Ite K a) [e,it] e (fun i h=>(∃ old,IsEnum h e it (i:Nat) old)∧h.IsListIter it a i∧e≠it) where
  mem:=by simp
  obj:=fun i h st b hb=>by
    obtain ⟨⟨old,he⟩,hit,hne⟩:=st
    rcases List.mem_cons.mp hb with rfl | hb
    · exact ⟨_,he,fun v z=>by
        have z':Data.fields _=Data.cell v:=z
        cases z'⟩
    · have z:b=it:=by simpa using hb
      subst z
      obtain ⟨o,e,c,d⟩:=hit
      exact ⟨o,e,fun v z=>by rw [d] at z;cases z⟩
  keep:=fun i h h' st k=>by
    obtain ⟨⟨old,he⟩,hit,hne⟩:=st
    exact ⟨⟨old,k e (by simp) _ he⟩,hit.at fun o q=>k it (by simp) o q,hne⟩
  item:=by
    intro X hP hw hK hc i pins s σ H E I hf st hg
    subst hP hw hK
    obtain ⟨⟨old,he⟩,hit,hne⟩:=st
    obtain ⟨xs,x,hq,hx⟩:=hg
    obtain ⟨its,rv,p,hz⟩:=I.list hq
    obtain ⟨u,hu,ru⟩:=rv.get hx
    refine wpAny_pyNext_enum_item he hit p.isList (x:=u) (by simpa using hu) hne fun h' heo hit' hT hsz hk=>?_
    refine ⟨_,rfl,wpAny_letOwnedTupleGo_enum heo fun h2 he2 hs2=>?_⟩
    have elt:e≠s.heap.objs.size:=Nat.ne_of_lt (Heap.lt_size he)
    have ilt:it≠s.heap.objs.size:=by obtain ⟨o,q,_⟩:=hit;exact Nat.ne_of_lt (Heap.lt_size q)
    have hs2':Heap.SameBut e h' h2:=hs2
    have hT2:h2.get? s.heap.objs.size=some { cls:=.type "tuple",data:=.seq #[.int i s.toks,u] }:=(hs2'.2 _ (Ne.symm elt)).trans hT
    have hit2:h2.IsListIter it a (i+1):=hit'.at fun o q=>(hs2'.2 it (Ne.symm hne)).trans q
    have hfr:H s.heap.objs.size=none:=I.hok.fresh (Nat.le_refl _)
    have I2:Inv X pins σ (upd H s.heap.objs.size (.tup [.int (i:Nat),x])) { s with heap:=h2,toks:=s.toks+1 }:=by
      refine I.tupNew (its:=[.int i s.toks,u]) hf (Nat.le_refl _) (fun b o hb q=>?_) (by show 2≤sizeLine;decide) (.cons ⟨_,rfl⟩ (.cons ru .nil)) hT2 (fun b hb=>?_)
      · simp only [List.mem_cons,not_or] at hb
        exact (hs2'.2 b hb.1).trans (hk b o hb.1 hb.2.1 q)
      · rcases List.mem_cons.mp hb with rfl | hb
        · exact ⟨_,he2⟩
        · have z:b=it:=by simpa using hb
          subst z
          obtain ⟨o,q,_⟩:=hit2
          exact ⟨o,q⟩
    refine ⟨.ref s.heap.objs.size,_,I2,rfl,⟨_,x,rfl,hfr,rfl,fun ys hy=>by rw [I.list_inj hy hq];exact hx⟩,⟨⟨_,by simpa using he2⟩,hit2,hne⟩,fun b hb=>?_⟩
    rw [Zal (fun z=>?_)]
    · exact (hf b hb).1
    · rcases List.mem_cons.mp hb with rfl | hb
      · exact elt z
      · have z':b=it:=by simpa using hb
        subst z'
        exact ilt z
  done:=by
    intro X hP hw hK hc i pins s σ H E I hf st hg
    subst hP hw hK
    obtain ⟨⟨old,he⟩,hit,hne⟩:=st
    obtain ⟨xs,hq,hx⟩:=hg
    obtain ⟨its,rv,p,hz⟩:=I.list hq
    obtain ⟨f0,f1,f2,f3,f4,f5⟩:=hf it (by simp)
    have hl:=rv.length
    exact wpAny_pyNext_enum_end (I.ok.hd hc) he hit p.isList (by simp;omega) fun h' eb=>⟨rfl,I.turned (t':=s.toks) (fun b o hb e=>eb b o hb e) f0 f1 f3 f4 f5⟩
  self:=fun _ _ _ _ _ st h=>by
    obtain ⟨⟨old,he⟩,hit,hne⟩:=st
    exact wpAny_pyIter_enum he h
def Zom (K:PySem.W.Frag) (ta:TA):TI:=fun σ H R=>ta σ H fun vs H1=>∃ a,vs=[.ref a]∧(∃ xs,SqL K H1 a xs)∧R (Ite K a) H1
theorem Ze8 {X:Cx}{a:Expr}{ta:TA}{es:List Expr}{k1}{ps p pos:Pos} (hg:Gl X "enumerate") (hm:X.mg "enumerate" = none) (ha:PA X [a] ta) (hs:starEach [a] X.env=[(false,eval a X.env)]:=by rfl) :
    PI X (.Tuple es k1 ps) (.Call (.Name "enumerate" p) [a] [] pos) (Zom X.K ta):=by
  intro pins s σ H R I h
  refine Call_ (Zc5 I hg hm boot_enumerate (PyProof.Rows.callWith_type1 (thn (ha pos pins s σ H _ I h) fun us s1 ⟨vs,H1,I1,r1,q1⟩=>?_) hs rfl))
  obtain ⟨a,e,⟨xs,hq⟩,q⟩:=q1
  subst e
  obtain ⟨u,rfl,ru⟩:=r1.one
  cases ru
  obtain ⟨its,rv,pl,hz⟩:=I1.list hq
  refine call_enumerate_list pl.isList fun h' he hit hsz hk=>wpAny_pyIter_enum he ?_
  have I2:Inv X pins σ H1 { s1 with heap:=h' }:=I1.kept (t':=s1.toks) hk
  refine ⟨s1.heap.objs.size+1,[s1.heap.objs.size+1,s1.heap.objs.size],_,_,H1,rfl,I2,Zim a _ _,⟨⟨_,he⟩,hit,Nat.ne_of_gt (Nat.lt_succ_self _)⟩,fun b hb=>?_,q⟩
  rcases List.mem_cons.mp hb with rfl | hb
  · exact I1.fpOk (Nat.le_succ _) (I1.hok.fresh (Nat.le_succ _))
  · have z:b=s1.heap.objs.size:=by simpa using hb
    subst z
    exact I1.fpOk (Nat.le_refl _) (I1.hok.fresh (Nat.le_refl _))
theorem Zhx {K:PySem.W.Frag}{a:Addr}{xs:List V}{g:TG}{tb:TS}{D:Ends}{σ:St}{H:Hp} (Pv:Nat→St→Hp→Prop) (h0:Pv 0 σ H) (hl:∀ i σ H,i≤xs.length→Pv i σ H→SqL K H a xs)
    (hs:∀ i x σ H T,xs[i]? = some x→Pv i σ H→H T=none→g (.ref T) σ (upd H T (.tup [.int (i:Nat),x])) fun σ2 H2=>tb { D with nx:=Pv (i+1),ct:=Pv (i+1),bk:=D.nx } σ2 H2) (hd:∀ σ H,Pv xs.length σ H→D.nx σ H) :
    ∃ W:Nat→Nat→St→Hp→Prop,(∃ m,W 0 m σ H)∧∀ i m σ H,W i m σ H →
      ((Ite K a).stop i H∧D.nx σ H)∨((Ite K a).go i H∧∃ N:St→Hp→Prop,(∀ σ' H',N σ' H'→∃ m',m'<m∧W (i+1) m' σ' H')∧∀ x H',(Ite K a).yld i H x H'→g x σ H' fun σ2 H2=>tb { D with nx:=N,ct:=N,bk:=D.nx } σ2 H2):=by
  refine ⟨fun i m σ H=>m=xs.length - i∧i≤xs.length∧Pv i σ H,⟨xs.length,by simp,Nat.zero_le _,h0⟩,?_⟩
  rintro i m σ H ⟨rfl,hi,p⟩
  have q:=hl i σ H hi p
  by_cases hlt:i<xs.length
  · refine .inr ⟨⟨xs,xs[i],q,by simp [hlt]⟩,Pv (i+1),fun σ' H' p'=>⟨xs.length - (i+1),by omega,rfl,hlt,p'⟩,fun x H' y=>?_⟩
    obtain ⟨T,z,rfl,hT,rfl,y⟩:=y
    exact hs i z σ _ T (y xs q) p hT
  · have e:i=xs.length:=by omega
    subst e
    exact .inl ⟨⟨xs,q,Nat.le_refl _⟩,hd σ H p⟩
end L2
set_option Elab.async false
set_option linter.all false
set_option maxRecDepth 100000
set_option maxHeartbeats 4000000
namespace L2
open PySem PySem.Spec PyProof.Rows
def Pu (te:TE) (σ:St) (H:Hp) (v:V):Prop:=∀ (H':Hp) (Q:VK),Same H H'→(∀ H'',Same H' H''→Q v H'')→te σ H' Q
def PuT (tc:TT) (σ:St) (H:Hp) (b:Bool):Prop:=∀ (H':Hp) (Q:Bool→Hp→Prop),Same H H'→(∀ H'',Same H' H''→Q b H'')→tc σ H' Q
theorem ZkD {σ:St}{H:Hp}:PuT ZcJ σ H true:=fun H' Q _ q=>q H' (Same.refl _)
theorem Same.upd {H H':Hp}{D:Addr}{o:HO} (e:Same H H') (hD:H D=none):Same H (upd H' D o):=fun b u q=>by
  rw [Zal (Zak q hD)]
  exact e b u q
theorem Same.new {H:Hp}{D:Addr}{o:HO} (hD:H D=none):Same H (L2.upd H D o):=(Same.refl H).upd hD
theorem Same.tup {K:PySem.W.Frag}{H H':Hp}{a:Addr}{xs:List V} (e:Same H H') (h:SqT K H a xs):SqT K H' a xs:=by
  rcases h with (h | ⟨o,h⟩) | h
  · exact .inl (.inl (e _ _ h))
  · exact .inl (.inr ⟨o,e _ _ h⟩)
  · exact .inr h
theorem ZcP {J:It}{n:Nat}{σ0:St}{H1:Hp}{D:Addr}{tc:TT}{te:TE}{Q:VK} (Pv:Nat→List V→Hp→Prop) (h0:Pv 0 [] (upd H1 D (.lst [])))
    (hl:∀ i ys H',i≤n→Pv i ys H'→H' D=some (.lst ys)) (hgo:∀ i ys H',i<n→Pv i ys H'→J.go i H') (hst:∀ ys H',Pv n ys H'→J.stop n H')
    (step:∀ i ys H' x H2,i<n→Pv i ys H'→J.yld i H' x H2→tc (σ0.set 0 (some x)) H2 fun b H4=>if b=true then te (σ0.set 0 (some x)) H4 fun y H5=>H5 D=some (.lst ys)∧ys.length<sizeLine∧Pv (i+1) (ys ++ [y]) (upd H5 D (.lst (ys ++ [y]))) else Pv (i+1) ys H4)
    (fin:∀ ys H',Pv n ys H'→Q (.ref D) H') :
    ∃ W:Nat→Nat→List V→St→Hp→Prop,(∃ m,W 0 m [] σ0 (upd H1 D (.lst []))) ∧
      ∀ i m ys σ' H',W i m ys σ' H'→H' D=some (.lst ys)∧((J.stop i H'∧Q (.ref D) H')∨(J.go i H'∧∀ x H2,J.yld i H' x H2→ZaP 0 x σ' H2 fun σ2 H3=>tc σ2 H3 fun b H4 =>
        if b=true then te σ2 H4 fun y H5=>H5 D=some (.lst ys)∧ys.length<sizeLine∧∃ m',m'<m∧W (i+1) m' (ys ++ [y]) σ2 (upd H5 D (.lst (ys ++ [y])))
        else ∃ m',m'<m∧W (i+1) m' ys σ2 H4)):=by
  refine ⟨fun i m ys σ' H'=>m=n - i∧i≤n∧(∀ x,σ'.set 0 x = σ0.set 0 x)∧Pv i ys H',⟨n,by simp,Nat.zero_le _,fun _=>rfl,h0⟩,?_⟩
  rintro i m ys σ' H' ⟨rfl,hi,es,p⟩
  refine ⟨hl i ys H' hi p,?_⟩
  by_cases hlt:i<n
  · refine .inr ⟨hgo i ys H' hlt p,fun x H2 y=>?_⟩
    have st:=step i ys H' x H2 hlt p y
    show tc (σ'.set 0 (some x)) H2 _
    rw [es]
    have e1:∀ z,(σ0.set 0 (some x)).set 0 z = σ0.set 0 z:=fun z=>by rw [List.set_set]
    have e2:∀ ys' H5,(∃ m',m'<n - i∧m'=n - (i+1)∧i+1≤n∧(∀ z,(σ0.set 0 (some x)).set 0 z = σ0.set 0 z)∧Pv (i+1) ys' H5) ↔ Pv (i+1) ys' H5:=fun ys' H5 =>
      ⟨fun ⟨_,_,_,_,_,q⟩=>q,fun q=>⟨n - (i+1),by omega,rfl,hlt,e1,q⟩⟩
    simp only [e2]
    exact st
  · have e:i=n:=by omega
    subst e
    exact .inl ⟨hst ys H' p,fin ys H' p⟩
theorem ZgT {α:Type}{K:PySem.W.Frag}{a:Addr}{ms:List α}{σ0:St}{H1:Hp}{tc:TT}{te:TE}{Q:VK} (u:α→V) (p:α→Bool) (f:α→V) (hq:SqL K H1 a (ms.map u)) (hn:ms.length≤sizeLine)
    (ht:∀ x∈ms,PuT tc (σ0.set 0 (some (u x))) H1 (p x)) (he:∀ x∈ms,p x=true→Pu te (σ0.set 0 (some (u x))) H1 (f x))
    (fin:∀ D H',H1 D=none→Same H1 H'→H' D=some (.lst ((ms.filter p).map f))→Q (.ref D) H') :
    Zbw (Itl K a) (ZaP 0) tc te σ0 H1 Q:=by
  intro D hD
  refine ZcP (n:=ms.length) (fun i ys H'=>Same H1 H'∧H' D=some (.lst ys)∧ys=((ms.take i).filter p).map f) ⟨Same.new hD,Zad,by simp⟩ (fun i ys H' _ q=>q.2.1) (fun i ys H' hi q=>⟨ms.map u,u ms[i],q.1.seq hq,by simp [hi]⟩)
    (fun ys H' q=>⟨ms.map u,q.1.seq hq,by simp⟩) ?_ (fun ys H' q=>?_)
  · rintro i ys H' x H2 hi ⟨sm,hDl,hys⟩ ⟨rfl,hy⟩
    have hx:(ms.map u)[i]? = some x:=hy _ (sm.seq hq)
    obtain ⟨z,hz,rfl⟩:∃ z,ms[i]? = some z∧u z=x:=by
      rw [List.getElem?_map] at hx
      cases e:ms[i]? with
      | none=>rw [e] at hx;cases hx
      | some z=>rw [e] at hx;exact ⟨z,rfl,Option.some.inj hx⟩
    have hm:z∈ms:=List.mem_of_getElem? hz
    have tk:ms.take (i+1)=ms.take i ++ [z]:=by
      rw [List.take_add_one,hz]
      simp only [Option.toList]
    have hlen:ys.length≤i:=by
      rw [hys,List.length_map]
      exact Nat.le_trans (List.length_filter_le _ _) (by rw [List.length_take];omega)
    refine ht z hm _ _ sm fun H4 s4=>?_
    cases hp:p z with
    | true =>
      refine iteT ?_
      refine he z hm hp _ _ (sm.trans s4) fun H5 s5=>⟨s5 _ _ (s4 _ _ hDl),by omega,((sm.trans s4).trans s5).upd hD,Zad,?_⟩
      rw [tk,List.filter_append,List.map_append,← hys]
      simp [hp]
    | false =>
      refine iteF ⟨sm.trans s4,s4 _ _ hDl,?_⟩
      rw [tk,List.filter_append,List.map_append,← hys]
      simp [hp]
  · obtain ⟨sm,hDl,hys⟩:=q
    rw [List.take_length] at hys
    exact fin D H' hD sm (by rw [← hys];exact hDl)
theorem Zbx {α:Type}{K:PySem.W.Frag}{a:Addr}{ms:List α}{σ0:St}{H1:Hp}{te:TE}{Q:VK} (u:α→V) (f:α→V) (hq:SqL K H1 a (ms.map u)) (hn:ms.length≤sizeLine)
    (he:∀ x∈ms,Pu te (σ0.set 0 (some (u x))) H1 (f x))
    (fin:∀ D H',H1 D=none→Same H1 H'→H' D=some (.lst (ms.map f))→Q (.ref D) H') :
    Zbw (Itl K a) (ZaP 0) ZcJ te σ0 H1 Q :=
  ZgT u (fun _=>true) f hq hn (fun _ _=>ZkD) (fun x hx _=>he x hx) fun D H' hD sm e=>fin D H' hD sm (by rw [List.filter_eq_self.mpr (fun _ _=>rfl)] at e;exact e)
theorem ZeT {lo:Int}{n:Nat}{σ0:St}{H1:Hp}{te:TE}{Q:VK} (f:Nat→V) (hn:n≤sizeLine)
    (he:∀ i,i<n→Pu te (σ0.set 0 (some (.int (lo+i)))) H1 (f i))
    (fin:∀ D H',H1 D=none→Same H1 H'→H' D=some (.lst ((List.range n).map f))→Q (.ref D) H') :
    Zbw (Itr lo n) (ZaP 0) ZcJ te σ0 H1 Q:=by
  intro D hD
  refine ZcP (n:=n) (fun i ys H'=>Same H1 H'∧H' D=some (.lst ys)∧ys=(List.range i).map f) ⟨Same.new hD,Zad,by simp⟩ (fun i ys H' _ q=>q.2.1) (fun i ys H' hi q=>hi)
    (fun ys H' q=>Nat.le_refl _) ?_ (fun ys H' q=>?_)
  · rintro i ys H' x H2 hi ⟨sm,hDl,hys⟩ ⟨rfl,rfl⟩
    unfold ZcJ
    refine iteT ?_
    refine he i hi _ _ sm fun H5 s5=>⟨s5 _ _ hDl,?_,(sm.trans s5).upd hD,Zad,?_⟩
    · rw [hys,List.length_map,List.length_range]
      omega
    · rw [List.range_succ,List.map_append,← hys]
      simp
  · obtain ⟨sm,hDl,hys⟩:=q
    exact fin D H' hD sm (by rw [← hys];exact hDl)
def Zao (K:PySem.W.Frag) (mg:Str→Option Value) (x:Str) (st:Stmt) (ps:List Str):Prop:=∃ f fd,Fun K x x st f fd∧mg x=some (.ref f)∧Binds K fd ps []
def FnAt (P:Program) (w:World) (K:PySem.W.Frag) (mg:Str→Option Value) (base:Heap) (k:Nat) (x:Str) (ps:List Str) (sp:Sp):Prop :=
  ∃ f fd,FnOk P w K mg base CX0 k f fd ps sp∧mg x=some (.ref f)∧PySem.W.keepIn K (.ref f)=true∧Binds K fd ps []
theorem FnAt.of {P:Program}{w:World}{K:PySem.W.Frag}{mg:Str→Option Value}{base:Heap}{k:Nat}{x:Str}{st:Stmt}{N ps:List Str}{sp:Sp} (D:Zao K mg x st ps) (S:FnScope N ps (Zag st)) (len:∀ vs H Q E,sp vs H Q E→vs.length=ps.length)
    (hbody:∀ (f:Addr) (cdv:Value) (A:Around) (outer:List Env) (s:Shared) (H:Hp) (vs:List V) (Q:VK) (E:XK),Room k (A.deeper (envOfC x (Zag st) s.heap.objs.size f cdv))→sp vs H Q E →
      ∃ t,PSs (cxOf CX0 P w K mg base N x (Zag st) f cdv A outer s H E).nox (Zar st) t∧t { nx:=fun _ H'=>Q .non H',rt:=Q } (Zdb N vs) H):FnAt P w K mg base (k+1) x ps sp:=by
  obtain ⟨f,fd,F,hm,hb⟩:=D
  exact ⟨f,fd,F.ok S len fun cdv A outer s H vs Q E hr h=>hbody f cdv A outer s H vs Q E hr h,hm,F.kp,hb⟩
def tF (sp:Sp) (t:TA):TE:=fun σ H Q=>t σ H fun vs H1=>sp vs H1 Q E0
section
variable {X:Cx}{k:Nat}{x:Str}{ps:List Str}{sp:Sp}{e:Expr}{es:List Expr}{t:TA}{p pos:Pos}
theorem pe_f (F:FnAt X.prog X.w X.K X.mg X.base k x ps sp) (hr:Room k X.A) (ha:PA X (e :: es) t) (hg:Gl X x:=by rfl) (hdb:(x == ("__debug__" : Str))=false:=by decide)
    (he:starEach (e :: es) X.env=(false,eval e X.env) :: starEach es X.env:=by rfl) (hpl:(backTo pos (starEach es X.env)).any (·.1)=false:=by rfl):PE X (.Call (.Name x p) (e :: es) [] pos) (tF sp t):=by
  obtain ⟨f,fd,F,hm,hk,hb⟩:=F
  have q:=Zmn (p:=p) (pos:=pos) F hr hg hm hk hb .nil (ZkJ (X:=X)) ha hdb he hpl
  have e:Zl3 sp [] E0 t=tF sp t:=by
    unfold Zl3 tF
    simp only [List.append_nil]
  rw [e] at q
  exact q
theorem pe_b {id:String}{r:List V→Hp→VK→Prop} (hc:Zb4 X (.builtin id) r) (hm:X.mg x=none) (hv:bootBuiltins x=some (.builtin id)) (ha:PA X (e :: es) t) (hg:Gl X x:=by rfl) (hn:x ≠ "__name__" := by decide) (hdb:(x == ("__debug__" : Str))=false:=by decide)
    (he:starEach (e :: es) X.env=(false,eval e X.env) :: starEach es X.env:=by rfl) (hpl:(backTo pos (starEach es X.env)).any (·.1)=false:=by rfl):PE X (.Call (.Name x p) (e :: es) [] pos) (tCB r t):=ZkI hc hg hm hv ha hn hdb he hpl
theorem pe_t {T:String}{r:List V→Hp→VK→Prop} (hc:Zb4 X (.type T) r) (hm:X.mg x=none) (hv:bootBuiltins x=some (.type T)) (ha:PA X (e :: es) t) (hg:Gl X x:=by rfl) (hn:x ≠ "__name__" := by decide) (hdb:(x == ("__debug__" : Str))=false:=by decide)
    (he:starEach (e :: es) X.env=(false,eval e X.env) :: starEach es X.env:=by rfl) (hpl:(backTo pos (starEach es X.env)).any (·.1)=false:=by rfl):PE X (.Call (.Name x p) (e :: es) [] pos) (tCB r t):=ZiV hc hg hm hv ha hn hdb he hpl
theorem Zdy {T:String}{pos:Pos} (hm:X.mg x=none) (hv:bootBuiltins x=some (.type T)) (hg:Gl X x:=by rfl) (hn:x ≠ "__name__" := by decide) (hd:(x == ("__debug__" : Str))=false:=by decide):PE X (.Name x pos) (tC (.ty T)) :=
  Zmo hg hm hv rfl hn hd
theorem pg_c {N':List Str}{scope:Scope}{cl:List (Str × Addr)}{C:Addr}{s2:Shared}{H2:Hp}{ex:List Addr} (i:Nat) {y:Str} (nd:N'.Nodup) (hi:N'[i]? = some y:=by rfl) (hx:(relabel scope X.env).names.lookup y=some .local:=by rfl) :
    PG (X.comp N' scope cl C s2 H2 ex) (.Name y pos) (ZaP i):=ZaM (X:=X.comp N' scope cl C s2 H2 ex) nd hi (.inl hx) (.inr hx)
end
section
variable {X:Cx}
theorem ixL (K:PySem.W.Frag) (hK:X.K=K:=by rfl):IxR X (rIxL K):=by subst hK;exact Zam
theorem lenK (K:PySem.W.Frag) (hK:X.K=K:=by rfl):Zb4 X (.builtin "len") (fun xs H Q=>∃ p ys,xs=[.ref p]∧(SqL K H p ys∨SqT K H p ys)∧Q (.int ys.length) H):=by subst hK;exact Zah
theorem ZmG (K:PySem.W.Frag) (hK:X.K=K:=by rfl):Zb4 X (.type "list") (fun xs H Q=>∃ p ys,xs=[.ref p]∧(SqL K H p ys∨SqT K H p ys)∧∀ l,H l=none→Q (.ref l) (upd H l (.lst ys))):=by subst hK;exact Zgl
end
theorem ZnE (K:PySem.W.Frag):PySem.W.kitOne K (.type "int") (.type "int")=some true:=by kernel_rfl
theorem ZnF (K:PySem.W.Frag):PySem.W.kitOne K (.type "int") (.type "bool")=some false:=by kernel_rfl
theorem ZlP (K:PySem.W.Frag):PySem.W.kitOne K (.type "list") (.type "list")=some true:=by kernel_rfl
theorem ZlO (K:PySem.W.Frag):PySem.W.kitOne K (.type "tuple") (.type "tuple")=some true:=by kernel_rfl
end L2
set_option Elab.async false
set_option linter.all false
set_option maxRecDepth 100000
set_option maxHeartbeats 4000000
namespace L2
open PySem PySem.Spec PyProof.Rows
section
variable {X:Cx}
def Zob:R2:=fun x y H Q=>∃ i j:Int,x=.int i∧y=.int j∧Q (.int (i+j)) H
def Zn3:R2:=fun x y H Q=>∃ i j:Int,x=.int i∧y=.int j∧Q (.int (i - j)) H
def Zn8:R2:=fun x y H Q=>∃ i j:Int,x=.int i∧y=.int j∧CMul i j∧Q (.int (i * j)) H
def Zn9:R2:=fun x y H Q=>∃ i j:Int,x=.int i∧y=.int j∧0<j∧Q (.int (i % j)) H
def Zoa:R2:=fun x y H Q=>∃ i j:Int,x=.int i∧y=.int j∧CDiv i j∧Q (.int (i / j)) H
def Zn6:R2:=fun x y H Q=>∃ i j:Int,x=.int i∧y=.int j∧CPow i j∧Q (.int (i ^ j.toNat)) H
def rLtI:R2:=fun x y H Q=>∃ i j:Int,x=.int i∧y=.int j∧Q (.bl (decide (i<j))) H
def rLeI:R2:=fun x y H Q=>∃ i j:Int,x=.int i∧y=.int j∧Q (.bl (decide (i≤j))) H
def rGtI:R2:=fun x y H Q=>∃ i j:Int,x=.int i∧y=.int j∧Q (.bl (decide (j<i))) H
def rGeI:R2:=fun x y H Q=>∃ i j:Int,x=.int i∧y=.int j∧Q (.bl (decide (j≤i))) H
def Zn7:V→Hp→VK→Prop:=fun x H Q=>∃ i:Int,x=.int i∧Q (.int (-i)) H
theorem Zbt:OpR X (binaryOp .Add) Zob:=Znv
theorem Zc4:OpR X (binaryOp .Sub) Zn3:=ZlF
theorem ZdA:OpR X (binaryOp .Mult) Zn8:=Zns
theorem ZgP:OpR X (binaryOp .Mod) Zn9:=Znt
theorem Zny:OpR X (binaryOp .FloorDiv) Zoa:=Zmp
theorem ZmC:OpR X (binaryOp .Pow) Zn6:=Znr
theorem o_lt:OpR X (compareOp .Lt) rLtI:=Zoe
theorem o_le:OpR X (compareOp .LtE) rLeI:=Zey
theorem o_gt:OpR X (compareOp .Gt) rGtI:=Zof
theorem o_ge:OpR X (compareOp .GtE) rGeI:=Zog
theorem ZgO:UnR X (unaryOp .USub) Zn7:=Zna
end
end L2
set_option Elab.async false
set_option linter.all false
set_option maxRecDepth 100000
set_option maxHeartbeats 4000000
namespace L2
open PySem PySem.Spec PyProof.Rows
theorem Inv.turnedL {X:Cx}{pins:List (Addr × Obj)}{σ:St}{H:Hp}{s:Shared}{h':Heap}{t':Nat}{fp:List Addr} (I:Inv X pins σ H s) (hf:∀ b∈fp,FpOk X pins H b)
    (k:∀ b o,b∉fp→s.heap.get? b=some o→h'.get? b=some o):Inv X pins σ H { s with heap:=h',toks:=t' }:=by
  have nfp:∀ b o,H b=some o→b∉fp:=fun b o q hb=>by have:=(hf b hb).1;rw [q] at this;cases this
  refine I.step (g':=s.gens) (d':=s.drawn) (ch:=fp) (fun b hb=>?_) (fun b o _ _ hc q _=>k b o hc q) (fun b o _ _ hc q _=>⟨o.slots,k b o hc q⟩) (fun b o _ _ n=>n)
    (fun b o hc q=>⟨o,k b o hc q⟩) (fun b ys q=>q) (fun b o u q=>q) (fun b ps q=>⟨#[],by rw [q];simp⟩) (fun m hm=>?_) (fun b u q=>?_) I.bare
  · obtain ⟨_,f1,_,f3,f4,f5⟩:=hf b hb
    exact ⟨f3,f1,f4,f5⟩
  · obtain ⟨o,es,ep,ho,r⟩:=hm
    exact ⟨o,es,ep,k _ o (fun z=>(hf _ z).2.1 rfl) ho,r⟩
  · refine (I.hok b u q).stay (fun c v hc w=>k c v ?_ w) (fun c w=>w) fun c ys w=>w
    rcases hc with rfl | hc
    · exact nfp _ _ q
    · exact nfp _ _ hc
theorem Inv.sq_ne {X:Cx}{pins:List (Addr × Obj)}{σ:St}{H:Hp}{s:Shared}{a b:Addr}{xs:List V} (I:Inv X pins σ H s) (h:SqL X.K H a xs) (f:FpOk X pins H b):a≠b:=by
  rintro rfl
  rcases h with (h | ⟨o,h⟩) | ⟨o,its,n,hk,_⟩
  · rw [f.1] at h
    cases h
  · rw [f.1] at h
    cases h
  · have hb:X.base.get? a=some o:=I.ok.mod.kin a o hk
    rcases f.2.2.2.1 with z | z
    · exact I.ok.noex a o hb z
    · exact absurd (Nat.lt_of_lt_of_le (Heap.lt_size (I.ok.bs a o hb).1) z) (Nat.lt_irrefl _)
def Itz (K:PySem.W.Frag) (a c:Addr):It :=
  ⟨fun i H=>∃ xs ys x y,SqL K H a xs∧SqL K H c ys∧xs[i]? = some x∧ys[i]? = some y,
    fun i H v H'=>∃ T x y,v=.ref T∧H T=none∧H'=upd H T (.tup [x,y])∧(∀ xs,SqL K H a xs→xs[i]? = some x)∧∀ ys,SqL K H c ys→ys[i]? = some y,
    fun i H=>∃ xs ys,SqL K H a xs∧SqL K H c ys∧(xs.length≤i∨ys.length≤i)⟩
structure ZipAt (h:Heap) (z TI TO i1 i2 l1 l2:Addr) (i:Nat):Prop where
  hz:IsZip h z TI TO .none
  hTI:IsPair h TI (.ref i1) (.ref i2)
  hTO:∃ a b,IsPair h TO a b
  h1:h.IsListIter i1 l1 i
  h2:h.IsListIter i2 l2 i
  nd:[z,TI,TO,i1,i2].Nodup
theorem Zko {P:Program}{w:World}{K:PySem.W.Frag}{es:List Expr}{k1}{ps:Pos} (a c z TI TO i1 i2:Addr):Turn P w K (.Tuple es k1 ps) (Itz K a c) [z,TI,TO,i1,i2] z (fun i h=>ZipAt h z TI TO i1 i2 a c i) where
  mem:=by simp
  obj:=fun i h st b hb=>by
    simp only [List.mem_cons,List.not_mem_nil,or_false] at hb
    rcases hb with rfl | rfl | rfl | rfl | rfl
    · exact ⟨_,st.hz,fun v q=>by have q':Data.fields _=Data.cell v:=q;cases q'⟩
    · exact ⟨_,st.hTI,fun v q=>by have q':Data.seq _ _=Data.cell v:=q;cases q'⟩
    · obtain ⟨x,y,e⟩:=st.hTO
      exact ⟨_,e,fun v q=>by have q':Data.seq _ _=Data.cell v:=q;cases q'⟩
    · obtain ⟨o,e,_,d⟩:=st.h1
      exact ⟨o,e,fun v q=>by rw [d] at q;cases q⟩
    · obtain ⟨o,e,_,d⟩:=st.h2
      exact ⟨o,e,fun v q=>by rw [d] at q;cases q⟩
  keep:=fun i h h' st k=>⟨k z (by simp) _ st.hz,k TI (by simp) _ st.hTI,let ⟨x,y,e⟩:=st.hTO;⟨x,y,k TO (by simp) _ e⟩,st.h1.at fun o q=>k i1 (by simp) o q,st.h2.at fun o q=>k i2 (by simp) o q,st.nd⟩
  item:=by
    intro X hP hw hK hc i pins s σ H E I hf st hg
    subst hP hw hK
    obtain ⟨xs,ys,x,y,hq,hq2,hx,hy⟩:=hg
    obtain ⟨its,rv,p,_⟩:=I.list hq
    obtain ⟨its2,rv2,p2,_⟩:=I.list hq2
    obtain ⟨u,hu,ru⟩:=rv.get hx
    obtain ⟨u2,hu2,ru2⟩:=rv2.get hy
    obtain ⟨ta,tb,hTO⟩:=st.hTO
    have nd:=st.nd
    simp only [List.nodup_cons,List.mem_cons,List.not_mem_nil,or_false,not_or,List.nodup_nil,and_true,not_false_eq_true] at nd
    obtain ⟨⟨n1,n2,n3,n4⟩,⟨n5,n6,n7⟩,⟨n8,n9⟩,n10⟩:=nd
    have Dz:ZipApart z TI TO i1 i2 a c:=⟨Ne.symm n1,Ne.symm n2,Ne.symm n3,Ne.symm n4,n5,n6,n7,n8,n9,n10,I.sq_ne hq (hf z (by simp)),I.sq_ne hq (hf TO (by simp)),I.sq_ne hq (hf i1 (by simp)),I.sq_ne hq (hf i2 (by simp)),
      I.sq_ne hq2 (hf z (by simp)),I.sq_ne hq2 (hf TO (by simp)),I.sq_ne hq2 (hf i1 (by simp)),I.sq_ne hq2 (hf i2 (by simp))⟩
    refine wpAny_pyNext_zip_item Dz st.hz st.hTI hTO st.h1 st.h2 p.isList p2.isList (x:=u) (y:=u2) (by simpa using hu) (by simpa using hu2) fun h' z1 z2 z3 z4 z5 z6 z7=>?_
    refine ⟨_,rfl,wpAny_letOwnedTupleGo_zip z1 fun h2 hz2 hs2=>?_⟩
    have hs2':Heap.SameBut z h' h2:=hs2
    have zlt:z≠s.heap.objs.size:=Nat.ne_of_lt (Heap.lt_size st.hz)
    have fresh:∀ b∈[z,TI,TO,i1,i2],b≠s.heap.objs.size:=fun b hb=>by
      simp only [List.mem_cons,List.not_mem_nil,or_false] at hb
      rcases hb with rfl | rfl | rfl | rfl | rfl
      · exact zlt
      · exact Nat.ne_of_lt (Heap.lt_size st.hTI)
      · exact Nat.ne_of_lt (Heap.lt_size hTO)
      · obtain ⟨o,e,_⟩:=st.h1;exact Nat.ne_of_lt (Heap.lt_size e)
      · obtain ⟨o,e,_⟩:=st.h2;exact Nat.ne_of_lt (Heap.lt_size e)
    have hT2:IsPair h2 s.heap.objs.size u u2:=(hs2'.2 _ (Ne.symm zlt)).trans z5
    have st2:ZipAt h2 z TI TO i1 i2 a c (i+1):=⟨hz2,(hs2'.2 TI (Ne.symm n1)).trans (z7 TI _ (Ne.symm n1) n5 n6 n7 st.hTI),⟨_,_,(hs2'.2 TO (Ne.symm n2)).trans z2⟩,z3.at fun o q=>(hs2'.2 i1 (Ne.symm n3)).trans q,z4.at fun o q=>(hs2'.2 i2 (Ne.symm n4)).trans q,st.nd⟩
    have hfr:H s.heap.objs.size=none:=I.hok.fresh (Nat.le_refl _)
    have I2:Inv X pins σ (upd H s.heap.objs.size (.tup [x,y])) { s with heap:=h2,toks:=s.toks }:=by
      refine I.tupNew (its:=[u,u2]) hf (Nat.le_refl _) (fun b o hb q=>?_) (by show 2≤sizeLine;decide) (.cons ru (.cons ru2 .nil)) hT2 (fun b hb=>?_)
      · simp only [List.mem_cons,List.not_mem_nil,or_false,not_or] at hb
        exact (hs2'.2 b hb.1).trans (z7 b o hb.1 hb.2.2.1 hb.2.2.2.1 hb.2.2.2.2 q)
      · simp only [List.mem_cons,List.not_mem_nil,or_false] at hb
        rcases hb with rfl | rfl | rfl | rfl | rfl
        · exact ⟨_,st2.hz⟩
        · exact ⟨_,st2.hTI⟩
        · obtain ⟨_,_,e⟩:=st2.hTO;exact ⟨_,e⟩
        · obtain ⟨o,e,_⟩:=st2.h1;exact ⟨_,e⟩
        · obtain ⟨o,e,_⟩:=st2.h2;exact ⟨_,e⟩
    refine ⟨.ref s.heap.objs.size,_,I2,rfl,⟨_,x,y,rfl,hfr,rfl,fun zs hz=>by rw [I.list_inj hz hq];exact hx,fun zs hz=>by rw [I.list_inj hz hq2];exact hy⟩,st2,fun b hb=>?_⟩
    rw [Zal (fresh b hb)]
    exact (hf b hb).1
  done:=by
    intro X hP hw hK hc i pins s σ H E I hf st hg
    subst hP hw hK
    obtain ⟨xs,ys,hq,hq2,hend⟩:=hg
    obtain ⟨its,rv,p,_⟩:=I.list hq
    obtain ⟨its2,rv2,p2,_⟩:=I.list hq2
    obtain ⟨ta,tb,hTO⟩:=st.hTO
    have nd:=st.nd
    simp only [List.nodup_cons,List.mem_cons,List.not_mem_nil,or_false,not_or,List.nodup_nil,and_true,not_false_eq_true] at nd
    obtain ⟨⟨n1,n2,n3,n4⟩,⟨n5,n6,n7⟩,⟨n8,n9⟩,n10⟩:=nd
    have Dz:ZipApart z TI TO i1 i2 a c:=⟨Ne.symm n1,Ne.symm n2,Ne.symm n3,Ne.symm n4,n5,n6,n7,n8,n9,n10,I.sq_ne hq (hf z (by simp)),I.sq_ne hq (hf TO (by simp)),I.sq_ne hq (hf i1 (by simp)),I.sq_ne hq (hf i2 (by simp)),
      I.sq_ne hq2 (hf z (by simp)),I.sq_ne hq2 (hf TO (by simp)),I.sq_ne hq2 (hf i1 (by simp)),I.sq_ne hq2 (hf i2 (by simp))⟩
    have l1:=rv.length
    have l2:=rv2.length
    refine wpAny_pyNext_zip_end (I.ok.hd hc) Dz st.hz st.hTI hTO st.h1 st.h2 p.isList p2.isList (hend.elim (fun q=>.inl (by simp;omega)) fun q=>.inr (by simp;omega)) fun h' k=>⟨rfl,I.turnedL (t':=s.toks) hf fun b o hb q=>?_⟩
    simp only [List.mem_cons,List.not_mem_nil,or_false,not_or] at hb
    exact k b o hb.1 hb.2.2.1 hb.2.2.2.1 hb.2.2.2.2 q
  self:=fun _ _ _ _ _ st h=>wpAny_pyIter_zip st.hz h
def iZip (K:PySem.W.Frag) (ta:TA):TI:=fun σ H R=>ta σ H fun vs H1=>∃ a c,vs=[.ref a,.ref c]∧(∃ xs,SqL K H1 a xs)∧(∃ ys,SqL K H1 c ys)∧R (Itz K a c) H1
theorem Znl {X:Cx}{a b:Expr}{ta:TA}{es:List Expr}{k1}{ps p pos:Pos} (hg:Gl X "zip") (hm:X.mg "zip" = none) (ha:PA X [a,b] ta) (hs:starEach [a,b] X.env=[(false,eval a X.env),(false,eval b X.env)]:=by rfl) (hs2:starEach [b] X.env=[(false,eval b X.env)]:=by rfl) :
    PI X (.Tuple es k1 ps) (.Call (.Name "zip" p) [a,b] [] pos) (iZip X.K ta):=by
  intro pins s σ H R I h
  refine Call_ (Zc5 I hg hm boot_zip (PyProof.Rows.callWith_type1 (thn (ha pos pins s σ H _ I h) fun us s1 ⟨vs,H1,I1,r1,q1⟩=>?_) (by rw [hs,hs2]) (by rw [hs2];rfl)))
  obtain ⟨a,c,e,⟨xs,hq⟩,⟨ys,hq2⟩,q⟩:=q1
  subst e
  obtain ⟨u,v,rfl,ru,rv⟩:=r1.two
  cases ru
  cases rv
  obtain ⟨its,_,pl,_⟩:=I1.list hq
  obtain ⟨its2,_,pl2,_⟩:=I1.list hq2
  refine call_zip_2 pl.isList pl2.isList fun h' z1 z2 z3 z4 z5 z6 z7=>wpAny_pyIter_zip z1 ?_
  have I2:Inv X pins σ H1 { s1 with heap:=h' }:=I1.kept (t':=s1.toks) z7
  refine ⟨s1.heap.objs.size+4,[s1.heap.objs.size+4,s1.heap.objs.size+2,s1.heap.objs.size+3,s1.heap.objs.size,s1.heap.objs.size+1],_,_,H1,rfl,I2,Zko a c _ _ _ _ _,⟨z1,z2,⟨_,_,z3⟩,z4,z5,?_⟩,fun b hb=>?_,q⟩
  · generalize s1.heap.objs.size=n
    show List.Nodup ([n+4,n+2,n+3,n,n+1]:List Nat)
    simp
  · have hb':s1.heap.objs.size≤b:=by
      simp only [List.mem_cons,List.not_mem_nil,or_false] at hb
      rcases hb with rfl | rfl | rfl | rfl | rfl
      · exact Nat.le_add_right _ _
      · exact Nat.le_add_right _ _
      · exact Nat.le_add_right _ _
      · exact Nat.le_refl _
      · exact Nat.le_add_right _ _
    exact I1.fpOk hb' (I1.hok.fresh hb')
theorem set2 {σ:St}{a b u v:Option V}:((((σ.set 0 a).set 1 b).set 0 u).set 1 v)=(σ.set 0 u).set 1 v:=by
  rw [List.set_comm b u (by decide:(1:Nat)≠0),List.set_set,List.set_set]
theorem Zli {K:PySem.W.Frag}{a:Addr}{xs:List V}{σ0:St}{H1:Hp}{D:Addr}{tc:TT}{te:TE}{Q:VK} (Pv:Nat→List V→Hp→Prop) (h0:Pv 0 [] (upd H1 D (.lst [])))
    (hl:∀ i ys H',i≤xs.length→Pv i ys H'→H' D=some (.lst ys)∧SqL K H' a xs)
    (step:∀ i x ys H' T,xs[i]? = some x→Pv i ys H'→H' T=none→tc ((σ0.set 0 (some (.int (i:Nat)))).set 1 (some x)) (upd H' T (.tup [.int (i:Nat),x])) fun b H4 =>
      if b=true then te ((σ0.set 0 (some (.int (i:Nat)))).set 1 (some x)) H4 fun y H5=>H5 D=some (.lst ys)∧ys.length<sizeLine∧Pv (i+1) (ys ++ [y]) (upd H5 D (.lst (ys ++ [y]))) else Pv (i+1) ys H4)
    (fin:∀ ys H',Pv xs.length ys H'→Q (.ref D) H') :
    ∃ W:Nat→Nat→List V→St→Hp→Prop,(∃ m,W 0 m [] σ0 (upd H1 D (.lst []))) ∧
      ∀ i m ys σ' H',W i m ys σ' H'→H' D=some (.lst ys)∧(((Ite K a).stop i H'∧Q (.ref D) H')∨((Ite K a).go i H'∧∀ x H2,(Ite K a).yld i H' x H2→gTup K 2 (Zeg (ZaP 0) (Zeg (ZaP 1) gNil)) x σ' H2 fun σ2 H3=>tc σ2 H3 fun b H4 =>
        if b=true then te σ2 H4 fun y H5=>H5 D=some (.lst ys)∧ys.length<sizeLine∧∃ m',m'<m∧W (i+1) m' (ys ++ [y]) σ2 (upd H5 D (.lst (ys ++ [y])))
        else ∃ m',m'<m∧W (i+1) m' ys σ2 H4)):=by
  refine ⟨fun i m ys σ' H'=>m=xs.length - i∧i≤xs.length∧(∀ u v,(σ'.set 0 u).set 1 v=(σ0.set 0 u).set 1 v)∧Pv i ys H',⟨xs.length,by simp,Nat.zero_le _,fun _ _=>rfl,h0⟩,?_⟩
  rintro i m ys σ' H' ⟨rfl,hi,es,p⟩
  obtain ⟨hD,hq⟩:=hl i ys H' hi p
  refine ⟨hD,?_⟩
  by_cases hlt:i<xs.length
  · refine .inr ⟨⟨xs,xs[i],hq,by simp [hlt]⟩,fun x H2 y=>?_⟩
    obtain ⟨T,z,rfl,hT,rfl,y⟩:=y
    have st:=step i z ys H' T (y xs hq) p hT
    refine ⟨T,_,rfl,SqT.of Zad,rfl,_,_,rfl,_,_,rfl,rfl,?_⟩
    rw [es]
    have e2:∀ ys' H5,(∃ m',m'<xs.length - i∧m'=xs.length - (i+1)∧i+1≤xs.length∧(∀ u v,((((σ0.set 0 (some (.int (i:Nat)))).set 1 (some z)).set 0 u).set 1 v)=(σ0.set 0 u).set 1 v)∧Pv (i+1) ys' H5) ↔ Pv (i+1) ys' H5:=fun ys' H5 =>
      ⟨fun ⟨_,_,_,_,_,q⟩=>q,fun q=>⟨xs.length - (i+1),by omega,rfl,hlt,fun _ _=>set2,q⟩⟩
    simp only [e2]
    exact st
  · have e:i=xs.length:=by omega
    subst e
    exact .inl ⟨⟨xs,hq,Nat.le_refl _⟩,fin ys H' p⟩
theorem Zgi {K:PySem.W.Frag}{a:Addr}{xs:List V}{σ0:St}{H1:Hp}{tc:TT}{te:TE}{Q:VK} (Pv:Addr→Nat→List V→Hp→Prop) (h0:∀ D,H1 D=none→Pv D 0 [] (upd H1 D (.lst [])))
    (hl:∀ D i ys H',H1 D=none→i≤xs.length→Pv D i ys H'→H' D=some (.lst ys)∧SqL K H' a xs)
    (step:∀ D i x ys H' T,H1 D=none→xs[i]? = some x→Pv D i ys H'→H' T=none→tc ((σ0.set 0 (some (.int (i:Nat)))).set 1 (some x)) (upd H' T (.tup [.int (i:Nat),x])) fun b H4 =>
      if b=true then te ((σ0.set 0 (some (.int (i:Nat)))).set 1 (some x)) H4 fun y H5=>H5 D=some (.lst ys)∧ys.length<sizeLine∧Pv D (i+1) (ys ++ [y]) (upd H5 D (.lst (ys ++ [y]))) else Pv D (i+1) ys H4)
    (fin:∀ D ys H',H1 D=none→Pv D xs.length ys H'→Q (.ref D) H'):Zbw (Ite K a) (gTup K 2 (Zeg (ZaP 0) (Zeg (ZaP 1) gNil))) tc te σ0 H1 Q :=
  fun D hD=>Zli (Pv D) (h0 D hD) (fun i ys H' hi p=>hl D i ys H' hD hi p) (fun i x ys H' T hx p hT=>step D i x ys H' T hD hx p hT) fun ys H' p=>fin D ys H' hD p
theorem Zmh {X:Cx}{N':List Str}{scope:Scope}{cl:List (Str × Addr)}{C:Addr}{s2:Shared}{H2:Hp}{ex:List Addr}{y z:Str}{p1 p2 pos:Pos}{k:Nat} (K:PySem.W.Frag) (hc:X.calm=true) (nd:N'.Nodup) (h0:N'[0]? = some y:=by rfl) (h1:N'[1]? = some z:=by rfl)
    (hy:(relabel scope X.env).names.lookup y=some .local:=by rfl) (hz:(relabel scope X.env).names.lookup z=some .local:=by rfl) (hK:X.K=K:=by rfl) :
    PG (X.comp N' scope cl C s2 H2 ex) (.Tuple [.Name y p1,.Name z p2] k pos) (gTup K 2 (Zeg (ZaP 0) (Zeg (ZaP 1) gNil))):=by
  subst hK
  exact Zd8 (X:=X.comp N' scope cl C s2 H2 ex) hc (ZaY (ZaM (X:=X.comp N' scope cl C s2 H2 ex) nd h0 (.inl hy) (.inr hy)) (ZaY (ZaM (X:=X.comp N' scope cl C s2 H2 ex) nd h1 (.inl hz) (.inr hz)) ZcL))
end L2
set_option Elab.async false
set_option linter.all false
set_option maxRecDepth 100000
set_option maxHeartbeats 4000000
namespace L2
open PySem PySem.Spec PyProof.Rows
theorem Zj2 {X:Cx} (hc:X.calm=true):Zb4 X (.builtin "max") (fun xs H Q=>∃ (p:Addr) (ns:List Int),xs=[.ref p]∧SqL X.K H p (ns.map V.int)∧0<ns.length∧∀ M,M∈ns→(∀ a∈ns,a≤M)→Q (.int M) H):=by
  intro pins s σ H xs us Q I rv h
  obtain ⟨p,ns,rfl,hq,hne,q⟩:=h
  obtain ⟨u,rfl,ru⟩:=rv.one
  cases ru
  obtain ⟨its,r,pl,_⟩:=I.list hq
  have hi:=Zb7 r
  obtain ⟨ys,e⟩:=hi.allInts.items
  have hl:=pl.isList
  have en:ns=ys.toList.map (·.1):=by
    have e1:=hi.numsOf
    have e2:=nums_intItems ys
    rw [← e] at e2
    exact e1.symm.trans e2
  have lz:ys.size=ns.length:=by rw [en];simp
  rw [e] at hl
  refine max_intList (I.ok.hd hc) hl (by omega) fun v h' tk hv hk=>?_
  obtain ⟨t,rfl⟩:=intItems_at hv
  obtain ⟨b1,b2⟩:=argBest_gt (numAt ys) (ys.size - 1)
  refine ⟨.int _,H,I.kept hk,⟨_,rfl⟩,q _ ?_ fun a ha=>?_⟩
  · rw [en,numAt_eq]
    exact getD_mem (by rw [List.length_map,Array.length_toList];omega)
  · rw [en] at ha
    obtain ⟨j,hj,rfl⟩:=mem_getD ha
    rw [List.length_map,Array.length_toList] at hj
    have:=b2 j (by omega)
    rw [numAt_eq ys j] at this
    exact this
theorem Zfu {α:Type}{K:PySem.W.Frag}{a:Addr}{σ0:St}{H1:Hp}{te:TE}{Q:VK} (u:α→V) {ms:List α} (f:α→V) (hq:SqT K H1 a (ms.map u)) (hn:ms.length≤sizeLine)
    (he:∀ x∈ms,Pu te (σ0.set 0 (some (u x))) H1 (f x))
    (fin:∀ D H',H1 D=none→Same H1 H'→H' D=some (.lst (ms.map f))→Q (.ref D) H') :
    Zbw (Itt K a) (ZaP 0) ZcJ te σ0 H1 Q:=by
  intro D hD
  refine ZcP (n:=ms.length) (fun i ys H'=>Same H1 H'∧H' D=some (.lst ys)∧ys=(ms.take i).map f) ⟨Same.new hD,Zad,by simp⟩ (fun i ys H' _ q=>q.2.1) (fun i ys H' hi q=>⟨ms.map u,u ms[i],q.1.tup hq,by simp [hi]⟩)
    (fun ys H' q=>⟨ms.map u,q.1.tup hq,by simp⟩) ?_ (fun ys H' q=>?_)
  · rintro i ys H' x H2 hi ⟨sm,hDl,hys⟩ ⟨rfl,hy⟩
    have hx:=hy _ (sm.tup hq)
    rw [List.getElem?_map,List.getElem?_eq_getElem hi] at hx
    have hx:u ms[i]=x:=Option.some.inj hx
    subst hx
    unfold ZcJ
    refine iteT ?_
    refine he ms[i] (List.getElem_mem hi) _ _ sm fun H5 s5=>⟨s5 _ _ hDl,?_,(sm.trans s5).upd hD,Zad,?_⟩
    · rw [hys,List.length_map,List.length_take]
      omega
    · rw [List.take_add_one,List.getElem?_eq_getElem hi,List.map_append,← hys]
      rfl
  · obtain ⟨sm,hDl,hys⟩:=q
    rw [List.take_length] at hys
    exact fin D H' hD sm (by rw [← hys];exact hDl)
end L2
set_option Elab.async false
set_option linter.all false
set_option maxRecDepth 100000
set_option maxHeartbeats 4000000
namespace SrtT
open PySem PySem.W PyProof.Rows
section
variable {O:KeyOrd}{key:Nat→O.α}{N:Nat}{cmp:Nat→Nat→(Bool→Shared→Prop)→Shared→Prop}{s:Shared}
def kk (key:Nat→O.α) (p:Array Nat) (i:Nat):O.α:=key (p.getD i 0)
def Up (key:Nat→O.α) (p:Array Nat) (k:Nat):Prop:=∀ i j,i≤j→j<k→O.kle (kk key p i) (kk key p j)
def Dn (key:Nat→O.α) (p:Array Nat) (k:Nat):Prop:=∀ i j,i≤j→j<k→O.kle (kk key p j) (kk key p i)
def Fair (key:Nat→O.α) (N:Nat) (cmp:Nat→Nat→(Bool→Shared→Prop)→Shared→Prop) (s:Shared):Prop:=∀ i j C,i<N→j<N→C (O.blt (key i) (key j)) s→cmp i j C s
def Pm (N:Nat) (p:Array Nat):Prop:=p.Perm (List.toArray (List.range N))
theorem Pm.size {p:Array Nat} (h:Pm N p):p.size=N:=by
  have e:=h.size_eq
  simpa using e
theorem Pm.lt {p:Array Nat} (h:Pm N p) {i:Nat} (hi:i<N):p.getD i 0<N:=by
  have hz:=h.size
  have hip:i<p.size:=by omega
  have e:p.getD i 0=p[i]:=by simp [Array.getD,hip]
  rw [e]
  have hm:p[i]∈(List.range N):=by
    have h1:=(Array.perm_iff_toList_perm.mp h).mem_iff (a:=p[i])
    have h2:p[i]∈p.toList:=by simp
    simpa using h1.mp h2
  exact List.mem_range.mp hm
theorem Pm.of {p q:Array Nat} (h:Pm N p) (e:q.Perm p):Pm N q:=e.trans h
theorem Zgb {p q:Array Nat}{i j:Nat} (h:p[i]? = q[j]?):kk key p i=kk key q j:=by
  unfold kk
  have e:p.getD i 0=q.getD j 0:=by
    rw [Array.getD_eq_getD_getElem?,Array.getD_eq_getD_getElem?,h]
  rw [e]
theorem ZlN {p:Array Nat}{a d:Nat} (ha:a<p.size) (hd:d≤a) (k:Nat) :
    kk key (bubble p a d) k=if k=a - d then kk key p a else if a - d<k∧k≤a then kk key p (k - 1) else kk key p k:=by
  have e:=getElem?_bubble ha d hd k
  split at e
  · rename_i h1
    rw [if_pos h1]
    exact Zgb e
  · rename_i h1
    rw [if_neg h1]
    split at e
    · rename_i h2
      rw [if_pos h2]
      exact Zgb e
    · rename_i h2
      rw [if_neg h2]
      exact Zgb e
theorem Zju {p:Array Nat}{i j:Nat} (hj:j≤p.size) (k:Nat):kk key (kas_rev p i j) k=if i≤k∧k<j then kk key p (i+j - 1 - k) else kk key p k:=by
  have e:=getElem?_mirror_all (xs:=p) (i:=i) hj k
  split at e
  · rename_i h1
    rw [if_pos h1]
    exact Zgb e
  · rename_i h1
    rw [if_neg h1]
    exact Zgb e
theorem Zfj {p:Array Nat}{i j:Nat} (hj:j≤p.size) (he:∀ k,i≤k→k<j→kk key p k=kk key p (j - 1)) (k:Nat):kk key (kas_rev p i j) k=kk key p k:=by
  rw [Zju hj]
  by_cases h:i≤k∧k<j
  · rw [if_pos h,he (i+j - 1 - k) (by omega) (by omega),he k h.1 h.2]
  · rw [if_neg h]
theorem ask {α:Type}{p:Array Nat}{i j:Nat}{k:Bool→KasT α}{Q:α→Shared→Prop} (hf:Fair key N cmp s) (hp:Pm N p) (hi:i<N) (hj:j<N)
    (h:(k (O.blt (kk key p i) (kk key p j))).kasWp cmp Q s):(KasT.ask (p.getD i 0) (p.getD j 0) k).kasWp cmp Q s:=hf _ _ _ (hp.lt hi) (hp.lt hj) h
theorem Up.one {p:Array Nat}:Up key p 1:=fun i j hij hj=>by
  have:i=j:=by omega
  subst this
  exact KeyOrd.kle_refl _
theorem Up.more {p:Array Nat}{n:Nat} (h1:1≤n) (h:Up key p n) (hn:O.kle (kk key p (n - 1)) (kk key p n)):Up key p (n+1):=fun i j hij hj=>by
  by_cases hjn:j<n
  · exact h i j hij hjn
  · have e:j=n:=by omega
    subst e
    by_cases hi:i=j
    · subst hi;exact KeyOrd.kle_refl _
    · exact KeyOrd.kle_trans (h i (j - 1) (by omega) (by omega)) hn
theorem Dn.more {p:Array Nat}{n:Nat} (h1:1≤n) (h:Dn key p n) (hn:O.kle (kk key p n) (kk key p (n - 1))):Dn key p (n+1):=fun i j hij hj=>by
  by_cases hjn:j<n
  · exact h i j hij hjn
  · have e:j=n:=by omega
    subst e
    by_cases hi:i=j
    · subst hi;exact KeyOrd.kle_refl _
    · exact KeyOrd.kle_trans hn (h i (j - 1) (by omega) (by omega))
theorem asc {p:Array Nat}{Q:Nat→Shared→Prop} (hf:Fair key N cmp s) (hp:Pm N p):∀ f n,1≤n→n+f≤N→Up key p n →
    (∀ m,n≤m→m≤n+f→Up key p m→(m=n+f∨O.klt (kk key p m) (kk key p (m - 1)))→Q m s)→(kas_asc p f n).kasWp cmp Q s
  | 0,n,_,_,hu,q=>q n (Nat.le_refl _) (Nat.le_refl _) hu (.inl rfl)
  | f+1,n,h1,hN,hu,q=>by
    refine ask hf hp (by omega) (by omega) ?_
    cases hb:O.blt (kk key p n) (kk key p (n - 1)) with
    | true =>
      rw [if_pos rfl]
      exact q n (Nat.le_refl _) (by omega) hu (.inr hb)
    | false =>
      rw [if_neg (by simp)]
      exact asc hf hp f (n+1) (by omega) (by omega) (hu.more h1 hb) fun m a b c d=>q m (by omega) (by omega) c (d.imp (fun z=>by omega) id)
theorem dsc {Q:Array Nat × Nat × Nat→Shared→Prop} (hf:Fair key N cmp s):∀ f p n q,Pm N p→1≤n→n+f≤N→Dn key p n→q+1≤n→(∀ i,n - (q+1)≤i→i<n→kk key p i=kk key p (n - 1)) →
    (∀ p' m q',Pm N p'→n≤m→m≤n+f→Dn key p' m→q'+1≤m→(∀ i,m - (q'+1)≤i→i<m→kk key p' i=kk key p' (m - 1))→Q (p',m,q') s)→(kas_desc f p n q).kasWp cmp Q s
  | 0,p,n,q,hp,h1,hN,hd,hq,he,k=>k p n q hp (Nat.le_refl _) (Nat.le_refl _) hd hq he
  | f+1,p,n,q,hp,h1,hN,hd,hq,he,k=>by
    refine ask hf hp (by omega) (by omega) ?_
    have hz:=hp.size
    have z0:∀ p':Array Nat,∀ i,n+1 - (0+1)≤i→i<n+1→kk key p' i=kk key p' (n+1 - 1):=fun p' i a b=>by
      have:i=n:=by omega
      subst this
      rfl
    cases hb:O.blt (kk key p n) (kk key p (n - 1)) with
    | true =>
      rw [if_pos rfl]
      have hle:=KeyOrd.kle_of_klt (O:=O) hb
      by_cases hq0:q > 0
      · rw [if_pos hq0]
        have ea:=Zfj (key:=key) (p:=p) (i:=n - (q+1)) (j:=n) (by omega) he
        have hd':Dn key (kas_rev p (n - (q+1)) n) (n+1):=fun i j a b=>by
          rw [ea,ea]
          exact (hd.more h1 hle) i j a b
        exact dsc hf f _ (n+1) 0 (hp.of (mirror_perm _ _ _ _)) (by omega) (by omega) hd' (by omega) (z0 _) fun p' m q' a b c d e g=>k p' m q' a (by omega) (by omega) d e g
      · rw [if_neg hq0]
        exact dsc hf f _ (n+1) 0 hp (by omega) (by omega) (hd.more h1 hle) (by omega) (z0 _) fun p' m q' a b c d e g=>k p' m q' a (by omega) (by omega) d e g
    | false =>
      rw [if_neg (by simp)]
      refine ask hf hp (by omega) (by omega) ?_
      cases hb2:O.blt (kk key p (n - 1)) (kk key p n) with
      | true =>
        rw [if_pos rfl]
        exact k p n q hp (Nat.le_refl _) (by omega) hd hq he
      | false =>
        rw [if_neg (by simp)]
        have ex:kk key p n=kk key p (n - 1):=KeyOrd.kle_antisymm hb2 hb
        have hle:O.kle (kk key p n) (kk key p (n - 1)):=by rw [ex];exact KeyOrd.kle_refl _
        refine dsc hf f _ (n+1) (q+1) hp (by omega) (by omega) (hd.more h1 hle) (by omega) (fun i a b=>?_) fun p' m q' a b c d e g=>k p' m q' a (by omega) (by omega) d e g
        show kk key p i=kk key p n
        by_cases hi:i=n
        · rw [hi]
        · rw [ex]
          exact he i (by omega) (by omega)
theorem tl3 {n r:Nat}{p:Array Nat}{Q:Nat × Array Nat→Shared→Prop} (hf:Fair key N cmp s) (hp:Pm N p) (h1:1≤n) (hn:n≤r) (hr:r≤N) (hd:Dn key p n)
    (k:∀ m p',Pm N p'→1≤m→m≤r→Up key p' m→Q (m,p') s):(kas_tail3 n r p).kasWp cmp Q s:=by
  unfold kas_tail3
  rw [KasT.kasWp_bind]
  have hz:=hp.size
  have hp':Pm N (kas_rev p 0 n):=hp.of (mirror_perm _ _ _ _)
  refine asc hf hp' (r - n) n h1 (by omega) (fun i j a b=>?_) fun m a b c _=>k m _ hp' (by omega) (by omega) c
  rw [Zju (by omega),Zju (by omega),if_pos (by omega),if_pos (by omega)]
  exact hd _ _ (by omega) (by omega)
theorem ZnN {n r:Nat}{p:Array Nat}{Q:Nat × Array Nat→Shared→Prop} (hf:Fair key N cmp s) (hp:Pm N p) (hn:n+1≤r) (hr:r≤N) (hd:Dn key p (n+1))
    (k:∀ m p',Pm N p'→1≤m→m≤r→Up key p' m→Q (m,p') s):(kas_descPart n r p).kasWp cmp Q s:=by
  unfold kas_descPart
  rw [KasT.kasWp_bind]
  refine dsc hf (r - (n+1)) p (n+1) 0 hp (by omega) (by omega) hd (by omega) (fun i a b=>?_) fun p' m q hp' a b c d e=>?_
  · have:i=n:=by omega
    subst this
    rfl
  · have hz:=hp'.size
    show (if q > 0 then kas_tail3 m r (kas_rev p' (m - (q+1)) m) else kas_tail3 m r p').kasWp cmp Q s
    by_cases hq:q > 0
    · rw [if_pos hq]
      have ea:=Zfj (key:=key) (p:=p') (i:=m - (q+1)) (j:=m) (by omega) e
      exact tl3 hf (hp'.of (mirror_perm _ _ _ _)) (by omega) (by omega) hr (fun i j x y=>by rw [ea,ea];exact c i j x y) k
    · rw [if_neg hq]
      exact tl3 hf hp' (by omega) (by omega) hr c k
theorem cnt {r:Nat}{p:Array Nat}{Q:Nat × Array Nat→Shared→Prop} (hf:Fair key N cmp s) (hp:Pm N p) (h1:1≤r) (hr:r≤N)
    (k:∀ m p',Pm N p'→1≤m→m≤r→Up key p' m→Q (m,p') s):(kas_count r p).kasWp cmp Q s:=by
  unfold kas_count
  rw [KasT.kasWp_bind]
  have hz:=hp.size
  refine asc hf hp (r - 1) 1 (Nat.le_refl _) (by omega) Up.one fun n a b c d=>?_
  by_cases hn:n=r
  · rw [if_pos (by simpa using hn)]
    exact k n p hp a (by omega) c
  · rw [if_neg (by simpa using hn)]
    have hlt:O.klt (kk key p n) (kk key p (n - 1)):=d.resolve_left (by omega)
    by_cases hg:n > 1
    · rw [if_pos hg]
      refine ask hf hp (by omega) (by omega) ?_
      cases hb:O.blt (kk key p 0) (kk key p (n - 1)) with
      | true =>
        rw [if_pos rfl]
        exact k n p hp a (by omega) c
      | false =>
        rw [if_neg (by simp)]
        have all:∀ i,0≤i→i<n→kk key p i=kk key p (n - 1):=fun i _ hi =>
          KeyOrd.kle_antisymm (c i (n - 1) (by omega) (by omega)) (KeyOrd.kle_trans (show O.kle _ _ from hb) (c 0 i (Nat.zero_le _) hi))
        have ea:=Zfj (key:=key) (p:=p) (i:=0) (j:=n) (by omega) all
        refine ZnN hf (hp.of (mirror_perm _ _ _ _)) (by omega) hr (fun i j x y=>?_) k
        rw [ea,ea]
        refine Dn.more a (fun i j x y=>?_) (KeyOrd.kle_of_klt hlt) i j x y
        rw [all i (by omega) (by omega),all j (by omega) y]
        exact KeyOrd.kle_refl _
    · rw [if_neg hg]
      have e:n=1:=by omega
      subst e
      refine ZnN hf hp (by omega) hr (Dn.more (Nat.le_refl _) (fun i j x y=>?_) (KeyOrd.kle_of_klt hlt)) k
      have:i=j:=by omega
      subst this
      exact KeyOrd.kle_refl _
theorem plc {p:Array Nat}{k:Nat}{Q:Nat→Shared→Prop} (hf:Fair key N cmp s) (hp:Pm N p) (hk:k<N) (hu:Up key p k):∀ f l r,l≤r→r≤k→r - l≤f→(∀ i,i<l→O.kle (kk key p i) (kk key p k))→(∀ i,r≤i→i<k→O.klt (kk key p k) (kk key p i)) →
    (∀ l,l≤k→(∀ i,i<l→O.kle (kk key p i) (kk key p k))→(∀ i,l≤i→i<k→O.klt (kk key p k) (kk key p i))→Q l s)→(kas_place p k f l r).kasWp cmp Q s
  | 0,l,r,h1,h2,h3,lo,hi,q=>by
    have:l=r:=by omega
    subst this
    exact q l h2 lo hi
  | f+1,l,r,h1,h2,h3,lo,hi,q=>by
    unfold kas_place
    by_cases hg:l ≥ r
    · rw [if_pos hg]
      have:l=r:=by omega
      subst this
      exact q l h2 lo hi
    · rw [if_neg hg]
      refine ask hf hp hk (by omega) ?_
      cases hb:O.blt (kk key p k) (kk key p ((l+r) / 2)) with
      | true =>
        rw [if_pos rfl]
        exact plc hf hp hk hu f l _ (by omega) (by omega) (by omega) lo (fun i a b=>KeyOrd.klt_of_klt_of_kle hb (hu _ _ a b)) q
      | false =>
        rw [if_neg (by simp)]
        exact plc hf hp hk hu f _ r (by omega) h2 (by omega) (fun i a=>KeyOrd.kle_trans (hu i ((l+r) / 2) (by omega) (by omega)) (show O.kle _ _ from hb)) hi q
theorem bin {Q:Array Nat→Shared→Prop} (hf:Fair key N cmp s):∀ f p k,Pm N p→k+f≤N→Up key p k→(∀ p',Pm N p'→Up key p' (k+f)→Q p' s)→(kas_bin f p k).kasWp cmp Q s
  | 0,p,k,hp,_,hu,q=>q p hp hu
  | f+1,p,k,hp,hN,hu,q=>by
    unfold kas_bin
    rw [KasT.kasWp_bind]
    refine plc hf hp (by omega) hu k 0 k (Nat.zero_le _) (Nat.le_refl _) (by omega) (fun i z=>by omega) (fun i a b=>by omega) fun l hl lo hi=>?_
    have hz:=hp.size
    refine bin hf f _ (k+1) (hp.of (bubble_perm _ _ _)) (by omega) (fun i j a b=>?_) fun p' hp' hu'=>q p' hp' (by rw [show k+(f+1)=k+1+f by omega];exact hu')
    rw [ZlN (by omega) (by omega),ZlN (by omega) (by omega),show k - (k - l)=l by omega]
    by_cases i1:i=l
    · rw [if_pos i1]
      by_cases j1:j=l
      · rw [if_pos j1];exact KeyOrd.kle_refl _
      · rw [if_neg j1,if_pos (by omega)]
        exact KeyOrd.kle_of_klt (hi _ (by omega) (by omega))
    · rw [if_neg i1]
      by_cases i2:l<i∧i≤k
      · rw [if_pos i2,if_neg (by omega),if_pos (by omega)]
        exact hu _ _ (by omega) (by omega)
      · rw [if_neg i2]
        by_cases j1:j=l
        · rw [if_pos j1];exact lo _ (by omega)
        · rw [if_neg j1]
          by_cases j2:l<j∧j≤k
          · rw [if_pos j2]
            exact hu _ _ (by omega) (by omega)
          · rw [if_neg j2]
            exact hu _ _ a (by omega)
theorem srt {Q:Array Nat→Shared→Prop} (hf:Fair key N cmp s) (h2:1≤N) (q:∀ p,Pm N p→Up key p N→Q p s):(kas_sort N).kasWp cmp Q s:=by
  unfold kas_sort
  rw [KasT.kasWp_bind]
  refine cnt hf (Array.Perm.refl _) h2 (Nat.le_refl _) fun m p hp h1 hm hu=>?_
  show (if m<N then kas_bin (N - max m 1) p (max m 1) else KasT.ret p).kasWp cmp Q s
  have e:max m 1=m:=by omega
  rw [e]
  by_cases hlt:m<N
  · rw [if_pos hlt]
    exact bin hf _ _ _ hp (by omega) hu fun p' a b=>q p' a (by rw [show m+(N - m)=N by omega] at b;exact b)
  · rw [if_neg hlt]
    have:m=N:=by omega
    subst this
    exact q p hp hu
end
end SrtT
set_option Elab.async false
set_option linter.all false
set_option maxRecDepth 100000
set_option maxHeartbeats 4000000
namespace SrtT
open PySem PyProof.Rows
section
open PySem.SeqAt
open PySem.AutoSeq1 (wpAny_loadPart')
open PySem.MeetsSeq PySem.MeetsSeq2 PySem.MeetsSeq3
theorem ints_get:∀ {vs:List Value}{ns:List Int}{i:Nat},IntsAre vs ns→i<ns.length→∃ t,vs[i]? = some (.int (ns.getD i 0) t)
  | _,_,i,.nil,h=>by simp at h
  | _,_,0,.cons n t r,h=>⟨t,by simp⟩
  | _,_,i+1,.cons n t r,h=>by
    obtain ⟨u,e⟩:=ints_get (i:=i) r (by simpa using h)
    exact ⟨u,by simpa using e⟩
end
section
variable {prog:Program}{w:World}{A:Around}{E:Value→Shared→Prop}{s:Shared}
end
end SrtT
set_option Elab.async false
set_option linter.all false
set_option maxRecDepth 100000
set_option maxHeartbeats 4000000
namespace SrtT
open PySem PySem.W PyProof.Rows
def outOf (vs:List Value) (p:Array Nat):List Value:=p.toList.map fun i=>vs.getD i Value.none
section
variable {prog:Program}{w:World}{A:Around}{E:Value→Shared→Prop}{s:Shared}{O:KeyOrd}{key:Nat→O.α}{vs:List Value}
def Look (prog:Program) (w:World) (A:Around) (O:KeyOrd) (key:Nat→O.α) (vs:List Value) (s:Shared):Prop :=
  ∀ h':Heap,(∀ b o,s.heap.get? b=some o→h'.get? b=some o)→∃ κ,(2≤vs.length→∀ (Q:SortKind→Shared→Prop) (E:Value→Shared→Prop),Q κ { s with heap:=h' }→wpAny (model prog w) A (keyKind' vs.toArray) Q E { s with heap:=h' }) ∧
    Fair key vs.length (kas_ask prog w A κ vs) { s with heap:=h' }
theorem Zkn {h:Heap}{a:Addr}{n:Nat} (qa:h.get? a=some (seqObj "list" vs.toArray n)):∃ m,(h.update a (Obj.mapSeq fun _=>(#[]:Array Value))).get? a=some (seqObj "list" #[] m):=⟨_,get?_update_seq qa fun _=>#[]⟩
theorem Zni {a:Addr}{n:Nat}{P:PySem.Fin→Shared→Prop} (qa:s.heap.get? a=some (seqObj "list" vs.toArray n)) (hk:∀ h':Heap,(∀ b o,b≠a→s.heap.get? b=some o→h'.get? b=some o) →
      ∃ κ,(2≤vs.length→∀ (Q:SortKind→Shared→Prop) (E:Value→Shared→Prop),Q κ { s with heap:=h' }→wpAny (model prog w) A (keyKind' vs.toArray) Q E { s with heap:=h' })∧Fair key vs.length (kas_ask prog w A κ vs) { s with heap:=h' }) (h64:vs.length<64)
    (q:∀ p,Pm vs.length p→Up key p vs.length→P (.done (.ret .none)) { s with heap:=sortedHeap s.heap a vs (outOf vs p).toArray }):wpAny (model prog w) A (Builtin.«list.sort» ⟨[.ref a],[]⟩) P E s:=by
  have la:a<s.heap.objs.size:=Heap.lt_size qa
  obtain ⟨m,q1⟩:=Zkn qa
  have q6:(((s.heap.update a (Obj.mapSeq fun _=>(#[]:Array Value))).push (seqObj "tuple" vs.toArray 0)).push (seqObj "list" #[] 0)).get? a=some (seqObj "list" #[] m):=Heap.get?_push_of_some _ (Heap.get?_push_of_some _ q1)
  have keep:∀ b o,b≠a→s.heap.get? b=some o→(((s.heap.update a (Obj.mapSeq fun _=>(#[]:Array Value))).push (seqObj "tuple" vs.toArray 0)).push (seqObj "list" #[] 0)).get? b=some o:=fun b o hb e =>
    Heap.get?_push_of_some _ (Heap.get?_push_of_some _ ((Heap.get?_update_ne _ _ _ _ hb).trans e))
  obtain ⟨κ,k1,k2⟩:=hk _ keep
  rw [list_sort_plain]
  refine wpAny_bind (listItems_at qa rfl ?_)
  refine wpAny_bind (listUpdate_at qa rfl ?_ (by rw [List.size_toArray,sizeLine_eq];omega) (Nat.zero_le _))
  refine wpAny_bind (seqEpoch_at q1 rfl (wpAny_bind (wpAny_newTuple ?_ (by show vs.length≤_;rw [sizeLine_eq];omega))))
  refine wpAny_bind (wpAny_newList (wpAny_holding ?_) (Nat.zero_le _))
  show wpAny (model prog w) A _ P E { s with heap:=(((s.heap.update a (Obj.mapSeq fun _=>(#[]:Array Value))).push (seqObj "tuple" vs.toArray 0)).push (seqObj "list" #[] 0)) }
  dsimp only
  have hout:∀ p,Pm vs.length p→((p.map (kas_item (pairsOf vs))).map (·.2))=(outOf vs p).toArray:=fun p hp=>by
    apply Array.toList_inj.mp
    rw [Array.map_map,Array.toList_map]
    exact List.map_congr_left fun i _=>by show (kas_item (pairsOf vs) i).2=_;rw [kas_item_eq]
  have hlen:∀ p,Pm vs.length p→(outOf vs p).toArray.size≤sizeLine+1:=fun p hp=>by
    have z:=hp.size
    rw [List.size_toArray,outOf,List.length_map,Array.length_toList,z,sizeLine_eq]
    omega
  by_cases h2:vs.toArray.size<2
  · rw [if_pos h2,if_pos h2]
    rw [List.size_toArray] at h2
    refine wpAny_bind (wpAny_pure ?_)
    rw [StateT.run_pure]
    refine wpAny_bind (wpAny_pure ?_)
    dsimp only
    have hp:Pm vs.length (List.toArray (List.range vs.length)):=Array.Perm.refl _
    have e0:(arrOf (SortSt.mk' general' (vs.toArray.zip vs.toArray) #[] 7 none)).map (·.2)=(outOf vs (List.toArray (List.range vs.length))).toArray:=by
      rw [← hout _ hp]
      have e:=kas_range (pairsOf vs)
      rw [pairsOf_size] at e
      rw [e]
      rfl
    rw [e0]
    refine wpAny_bind (seqEpoch_at q6 rfl (wpAny_bind (listUpdate_at q6 rfl ?_ (Nat.zero_le _) (hlen _ hp))))
    simp only [bne_self_eq_false,Bool.false_eq_true,if_false]
    refine wpAny_pure (q _ hp fun i j a b=>?_)
    have:i=j:=by omega
    subst this
    exact KeyOrd.kle_refl _
  · rw [if_neg h2,if_neg h2]
    rw [List.size_toArray] at h2
    refine wpAny_bind (k1 (by omega) _ _ ?_)
    refine wpAny_bind (wpAny_mono (kat_run (κ:=κ) (Q:=fun st s'=>s'={ s with heap:=((s.heap.update a (Obj.mapSeq fun _=>(#[]:Array Value))).push (seqObj "tuple" vs.toArray 0)).push (seqObj "list" #[] 0) } ∧
        ∃ p,Pm vs.length p∧Up key p vs.length∧arrOf st=p.map (kas_item (pairsOf vs))∧failedOf st=none) (G:=fun p s'=>s'={ s with heap:=((s.heap.update a (Obj.mapSeq fun _=>(#[]:Array Value))).push (seqObj "tuple" vs.toArray 0)).push (seqObj "list" #[] 0) }∧Pm vs.length p∧Up key p vs.length)
      rfl (by omega) h64 (fun p st s' _ a1 a2 a3=>⟨a3.1,p,a3.2.1,a3.2.2,a1,a2⟩) (srt k2 (by omega) fun p a b=>⟨rfl,a,b⟩)) ?_ fun _ _ e=>e)
    rintro ⟨⟨⟩,st⟩ s' ⟨rfl,p,hp,hu,har,hfa⟩
    dsimp only
    rw [har,hout p hp]
    refine wpAny_bind (seqEpoch_at q6 rfl (wpAny_bind (listUpdate_at q6 rfl ?_ (Nat.zero_le _) (hlen _ hp))))
    rw [hfa]
    simp only [bne_self_eq_false,Bool.false_eq_true,if_false]
    exact wpAny_pure (q p hp hu)
theorem sortedBy {l:Addr}{Q:Value→Shared→Prop} (hl:s.heap.IsList l vs.toArray) (hk:Look prog w A.in1.in1 O key vs s) (h64:vs.length<64)
    (q:∀ p,Pm vs.length p→Up key p vs.length→Q (.ref (s.heap.objs.size+1)) { s with heap:=sortedAll s.heap vs (outOf vs p).toArray }):wpAny (model prog w) A (call (.builtin "sorted") [.ref l]) Q E s:=by
  refine Calls.call_function_entry kind_sorted plain_sorted entry_sorted (args_sorted1 _) ?_
  unfold Builtin.«sorted»
  refine wpAny_bind (m:=checkCount "sorted" 1 1 _) (wpAny_pure (wpAny_bind (collect_list hl (wpAny_bind (wpAny_newList ?_ (by rw [sizeLine_eq];omega))) (by rw [sizeLine_eq];omega))))
  have z1:((s.heap.push (seqObj "list" #[] 0)).update s.heap.objs.size (Obj.mapSeq (· ++ vs.toArray))).objs.size=s.heap.objs.size+1:=by rw [Heap.size_update,size_push']
  have q1:(((s.heap.push (seqObj "list" #[] 0)).update s.heap.objs.size (Obj.mapSeq (· ++ vs.toArray))).push (seqObj "list" vs.toArray 0)).get? (s.heap.objs.size+1)=some (seqObj "list" vs.toArray 0):=by
    rw [← z1];exact Heap.get?_push_size _ rfl
  have keep:∀ b o,s.heap.get? b=some o→(((s.heap.push (seqObj "list" #[] 0)).update s.heap.objs.size (Obj.mapSeq (· ++ vs.toArray))).push (seqObj "list" vs.toArray 0)).get? b=some o:=fun b o e=>by
    have hlt:b<s.heap.objs.size:=Heap.lt_size e
    have n0:b≠s.heap.objs.size:=Nat.ne_of_lt hlt
    rw [Heap.get?_push_ne _ _ _ (by rw [z1];exact Nat.ne_of_lt (Nat.lt_succ_of_lt hlt)),Heap.get?_update_ne _ _ _ _ n0,Heap.get?_push_ne _ _ _ n0]
    exact e
  show wpAny _ _ _ _ _ { s with heap:=(((s.heap.push (seqObj "list" #[] 0)).update s.heap.objs.size (Obj.mapSeq (· ++ vs.toArray))).push (seqObj "list" vs.toArray 0)) }
  rw [z1]
  refine wpAny_bind (wpAny_holding (wpAny_call_entry slot_list_sort ⟨_,q1,rfl⟩ entry_list_sort (Zni (key:=key) q1 (fun h' k=>hk h' fun b o e=>k b o (Nat.ne_of_lt (Nat.lt_succ_of_lt (Heap.lt_size e))) (keep b o e)) h64 fun p a b=>⟨_,rfl,wpAny_pure ⟨_,rfl,q p a b⟩⟩) (args_list_sort _)))
end
theorem Zjp:∀ a:List Int,HT.lexLt a a=false
  | []=>rfl
  | x :: xs=>by rw [HT.lexLt_cons,if_pos rfl,Zjp xs]
theorem ZlK:∀ a b c:List Int,HT.lexLt a b=true→HT.lexLt b c=true→HT.lexLt a c=true
  | [],[],_,h,_=>by simp [HT.lexLt_nil_nil] at h
  | [],_ :: _,[],_,h=>by simp [HT.lexLt_cons_nil] at h
  | [],_ :: _,_ :: _,_,_=>rfl
  | _ :: _,[],_,h,_=>by simp [HT.lexLt_cons_nil] at h
  | _ :: _,_ :: _,[],_,h=>by simp [HT.lexLt_cons_nil] at h
  | x :: xs,y :: ys,z :: zs,h1,h2=>by
    rw [HT.lexLt_cons] at h1 h2 ⊢
    by_cases e1:x=y
    · subst e1
      rw [if_pos rfl] at h1
      by_cases e2:x=z
      · rw [if_pos e2] at h2 ⊢
        exact ZlK xs ys zs h1 h2
      · rw [if_neg e2] at h2 ⊢
        exact h2
    · rw [if_neg e1] at h1
      by_cases e2:y=z
      · subst e2
        rw [if_neg e1]
        exact h1
      · rw [if_neg e2] at h2
        have a1:=of_decide_eq_true h1
        have a2:=of_decide_eq_true h2
        rw [if_neg (by omega)]
        exact decide_eq_true (by omega)
theorem ZlL:∀ a b c:List Int,HT.lexLt a c=true→HT.lexLt a b=true∨HT.lexLt b c=true
  | [],[],[],h=>by simp [HT.lexLt_nil_nil] at h
  | [],[],_ :: _,_=>.inr rfl
  | [],_ :: _,_,_=>.inl rfl
  | _ :: _,_,[],h=>by simp [HT.lexLt_cons_nil] at h
  | _ :: _,[],_ :: _,_=>.inr rfl
  | x :: xs,y :: ys,z :: zs,h=>by
    rw [HT.lexLt_cons] at h
    rw [HT.lexLt_cons,HT.lexLt_cons]
    by_cases e:x=z
    · subst e
      rw [if_pos rfl] at h
      by_cases e1:x=y
      · subst e1
        rw [if_pos rfl,if_pos rfl]
        exact ZlL xs ys zs h
      · rw [if_neg e1,if_neg (Ne.symm e1)]
        simp only [decide_eq_true_eq]
        omega
    · rw [if_neg e] at h
      have h:=of_decide_eq_true h
      by_cases e1:x=y
      · subst e1
        rw [if_neg e]
        exact .inr (decide_eq_true h)
      · rw [if_neg e1]
        by_cases h2:x<y
        · exact .inl (decide_eq_true h2)
        · right
          rw [if_neg (by omega)]
          exact decide_eq_true (by omega)
theorem lex_tot:∀ a b:List Int,HT.lexLt a b=false→HT.lexLt b a=false→a=b
  | [],[],_,_=>rfl
  | [],_ :: _,h,_=>by simp [HT.lexLt_nil_cons] at h
  | _ :: _,[],_,h=>by simp [HT.lexLt_nil_cons] at h
  | x :: xs,y :: ys,h1,h2=>by
    rw [HT.lexLt_cons] at h1 h2
    by_cases e:x=y
    · subst e
      rw [if_pos rfl] at h1 h2
      rw [lex_tot xs ys h1 h2]
    · rw [if_neg e] at h1
      rw [if_neg (Ne.symm e)] at h2
      have a1:=of_decide_eq_false h1
      have a2:=of_decide_eq_false h2
      omega
def lexO:KeyOrd:=⟨List Int,HT.lexLt,Zjp,ZlK,ZlL,lex_tot⟩
end SrtT
namespace L2
open PySem PySem.Spec PyProof.Rows
section
variable {X:Cx}
def mvd {α:Type} (xs:List α) (d:α) (p:Array Nat):List α:=p.toList.map fun i=>xs.getD i d
theorem Zfn {α:Type}{xs:List α}{i:Nat}{d:α} (h:i<xs.length):xs.getD i d=xs[i]:=by simp [h]
theorem Zg0 {xs:List V}{us:List Value} (r:Vals xs us):∀ is:List Nat,(∀ i∈is,i<xs.length)→Vals (is.map fun i=>xs.getD i .non) (is.map fun i=>us.getD i Value.none)
  | [],_=>.nil
  | i :: is,h=>by
    refine .cons ?_ (Zg0 r is fun j hj=>h j (by simp [hj]))
    have hi:=h i (by simp)
    obtain ⟨u,e,ru⟩:=r.get (i:=i) (x:=xs[i]) (by simp [hi])
    have e2:us.getD i Value.none=u:=by rw [List.getD_eq_getElem?_getD,e];rfl
    show RelV (xs.getD i .non) (us.getD i Value.none)
    rw [Zfn hi,e2]
    exact ru
end
end L2
namespace SrtT
open PySem PySem.W PyProof.Rows
section
variable {prog:Program}{w:World}{A:Around}{E:Value→Shared→Prop}{s:Shared}
theorem lexK {b:Bool}{Q:Bool→Shared→Prop}:∀ {xs ys:List Value}{ns ms:List Int} (fin:Bool) (i:Nat),IntsAre xs ns→IntsAre ys ms→(fin=true ↔ ns.length<ms.length)→Q (HT.lexLt ns ms) s→KatLex prog w A b fin Q (xs.zip ys) i s
  | _,_,_,_,fin,i,.nil,.nil,hf,q=>by
    have:fin=false:=by
      cases fin with
      | false=>rfl
      | true=>simp at hf
    subst this
    exact kat_nil q
  | _,_,_,_,fin,i,.nil,.cons m t r,hf,q=>by
    have:fin=true:=hf.mpr (by simp)
    subst this
    exact kat_nil q
  | _,_,_,_,fin,i,.cons m t r,.nil,hf,q=>by
    have:fin=false:=by
      cases fin with
      | false=>rfl
      | true=>simp at hf
    subst this
    exact kat_nil q
  | _,_,_,_,fin,i,.cons n t r,.cons m u r',hf,q=>by
    rw [HT.lexLt_cons] at q
    refine kat_cons (wpAny_eqBool_int ?_)
    by_cases e:n=m
    · subst e
      rw [if_pos rfl] at q
      rw [show (n == n)=true by simp]
      exact kat_yes (lexK fin (i+1) r r' (by simpa using hf) q)
    · rw [if_neg e] at q
      rw [show (n == m)=false by simp [e]]
      refine kat_no ?_
      cases b && i == 0 with
      | true=>exact oneLt_int q
      | false=>exact kat_one _ _ (lt_int q)
end
end SrtT
namespace L2
open PySem PySem.Spec PyProof.Rows
section
variable {X:Cx}
theorem Zin {h:Heap}:∀ {vs fs:List Value},vs.length=fs.length→(∀ i,i<vs.length→∃ a o xs n,vs.getD i Value.none=.ref a∧h.get? a=some o∧o.cls=.type "tuple" ∧ o.data=.seq xs n∧xs[0]? = some (fs.getD i Value.none))→PySem.W.KatTups h vs fs
  | [],[],_,_=>.nil
  | v :: vs,f :: fs,hl,hg=>by
    obtain ⟨a,o,xs,n,e1,e2,e3,e4,e5⟩:=hg 0 (by simp)
    have e1:v=.ref a:=by simpa using e1
    subst e1
    refine .cons e2 e3 e4 (by simpa using e5) (Zin (by simpa using hl) fun i hi=>?_)
    simpa using hg (i+1) (by simpa using hi)
theorem Zgk (hu:X.A.units+64<cLine):Zb4 X (.builtin "sorted") (fun xs H Q=>∃ (a:Addr) (rs:List (Addr × List Int)),xs=[.ref a]∧SqL X.K H a (rs.map fun r=>V.ref r.1)∧rs.length<64∧(∀ r∈rs,SqT X.K H r.1 (r.2.map V.int)∧0<r.2.length) ∧
    ∀ (D:Addr) (rs':List (Addr × List Int)),H D=none→rs'.Perm rs→rs'.Pairwise (fun r q=>HT.lexLt q.2 r.2=false)→Q (.ref D) (upd H D (.lst (rs'.map fun r=>V.ref r.1)))):=by
  intro pins s σ H xs us Q I rv h
  obtain ⟨a,rs,rfl,hq,h64,hrs,q⟩:=h
  obtain ⟨u,rfl,ru⟩:=rv.one
  cases ru
  obtain ⟨its,r,pl,hz⟩:=I.list hq
  have hlen:its.length=rs.length:=by rw [← r.length,List.length_map]
  have hat:∀ i,i<rs.length→its.getD i Value.none=.ref (rs.getD i (0,[])).1:=fun i hi=>by
    obtain ⟨v,e,rv⟩:=r.get (i:=i) (x:=.ref rs[i].1) (by simp [hi])
    cases rv
    rw [List.getD_eq_getElem?_getD,e,Zfn hi]
    rfl
  have hrow:∀ i,i<rs.length→∃ vs,IsTup s.heap (rs.getD i (0,[])).1 vs.toArray∧IntsAre vs (rs.getD i (0,[])).2∧0<vs.length:=fun i hi=>by
    rw [Zfn hi]
    obtain ⟨h1,h2⟩:=hrs rs[i] (List.getElem_mem hi)
    obtain ⟨vs,r1,p1,_⟩:=I.tuple h1
    exact ⟨vs,p1,Zb7 r1,by rw [← r1.length,List.length_map];exact h2⟩
  refine SrtT.sortedBy (O:=SrtT.lexO) (key:=fun i=>(rs.getD i (0,[])).2) pl.isList (fun h' k=>⟨tuples' (Value.type "int" != Value.type "tuple"),fun h2 Q' E' q'=>?_,fun i j C hi hj c=>?_⟩) (by omega) fun p hp hup=>?_
  · have hf:∀ i,∃ f:Value,i<rs.length→∃ t,f=.int ((rs.getD i (0,[])).2.getD 0 0) t∧∃ a o xs n,its.getD i Value.none=.ref a∧h'.get? a=some o∧o.cls=.type "tuple" ∧ o.data=.seq xs n∧xs[0]? = some f:=fun i=>by
      by_cases hi:i<rs.length
      · obtain ⟨vs,⟨o,e1,e2,n,e3⟩,i2,l2⟩:=hrow i hi
        obtain ⟨t,e4⟩:=SrtT.ints_get (i:=0) i2 (by rw [← i2.length];exact l2)
        exact ⟨_,fun _=>⟨t,rfl,_,o,_,n,hat i hi,k _ _ e1,e2,e3,by simpa using e4⟩⟩
      · exact ⟨.none,fun z=>absurd z hi⟩
    let fs:=(List.range rs.length).map fun i=>Classical.choose (hf i)
    have hfs:∀ i,i<rs.length→fs.getD i Value.none=Classical.choose (hf i):=fun i hi=>by simp [fs,hi]
    refine PySem.W.kat_kind (vs:=its) (fs:=fs) (T:=.type "int") (Zin (by simp [fs,hlen]) fun i hi=>?_) (by simp [fs];omega) (fun v hv=>?_) (by rfl) q'
    · rw [hfs i (by omega)]
      obtain ⟨t,_,z⟩:=Classical.choose_spec (hf i) (by omega)
      exact z
    · obtain ⟨i,hi,rfl⟩:=List.mem_map.mp hv
      obtain ⟨t,e,_⟩:=Classical.choose_spec (hf i) (List.mem_range.mp hi)
      rw [e]
      exact .of_pure rfl
  · unfold PySem.W.kas_ask
    rw [hat i (by omega),hat j (by omega)]
    obtain ⟨vi,⟨o1,a1,b1,n1,c1⟩,ii,_⟩:=hrow i (by omega)
    obtain ⟨vj,⟨o2,a2,b2,n2,c2⟩,ij,_⟩:=hrow j (by omega)
    refine PySem.W.kat_lt (k _ _ a1) c1 (k _ _ a2) c2 (SrtT.lexK _ 0 (by simpa using ii) (by simpa using ij) ?_ c)
    rw [decide_eq_true_eq,List.size_toArray,List.size_toArray,ii.length,ij.length]
  · rw [hlen] at hp hup
    have hin:∀ i∈p.toList,i<rs.length:=fun i hi=>by
      obtain ⟨k,hk,rfl⟩:=List.getElem_of_mem hi
      rw [Array.length_toList,hp.size] at hk
      have e:=hp.lt hk
      simpa [Array.getD,hp.size,hk] using e
    obtain ⟨e,he⟩:=sortedAll_at s.heap its (SrtT.outOf its p).toArray
    refine ⟨.ref _,_,I.laid (t':=s.toks) (o:=.lst ((mvd rs (0,[]) p).map fun r=>V.ref r.1)) (fun b o=>sortedAll_old) (Nat.le_succ _) ⟨?_,SrtT.outOf its p,e,?_,he⟩,rfl,q _ (mvd rs (0,[]) p) (I.hok.fresh (Nat.le_succ _)) ?_ ?_⟩
    · rw [List.length_map,mvd,List.length_map,Array.length_toList,hp.size,sizeLine_eq]
      omega
    · have hv:=Zg0 r p.toList (fun i hi=>by rw [List.length_map];exact hin i hi)
      unfold SrtT.outOf mvd
      rw [List.map_map]
      refine cast (congrArg (fun z=>Vals z _) (List.map_congr_left fun i hi=>?_)) hv
      have:=hin i hi
      simp [this]
    · have h1:=(Array.perm_iff_toList_perm.mp hp).map fun i=>rs.getD i (0,[])
      have h2:(List.range rs.length).map (fun i=>rs.getD i (0,[]))=rs:=by
        apply List.ext_getElem (by simp)
        intro i a b
        simp [b]
      unfold mvd
      rw [show (List.toArray (List.range rs.length)).toList=List.range rs.length from rfl,h2] at h1
      exact h1
    · rw [List.pairwise_iff_getElem]
      intro i j hi hj hij
      unfold mvd at hi hj ⊢
      rw [List.length_map,Array.length_toList,hp.size] at hi hj
      have:=hup i j (by omega) hj
      unfold SrtT.kk at this
      simp [Array.getD,hp.size,hi,hj] at this ⊢
      exact this
end
end L2
set_option Elab.async false
set_option linter.all false
set_option maxRecDepth 100000
set_option maxHeartbeats 4000000
namespace L2
open PySem PySem.Spec PyProof.Rows
theorem ZjV {α:Type}{J:It}{ms:List α}{σ0:St}{H1:Hp}{te:TE}{Q:VK} (u:α→V) (o:α→HO) (hn:ms.length≤1000)
    (hgo:∀ i H',i<ms.length→Same H1 H'→J.go i H') (hst:∀ H',Same H1 H'→J.stop ms.length H') (hy:∀ i H' x H2 (h:i<ms.length),Same H1 H'→J.yld i H' x H2→H2=H'∧x=u ms[i])
    (he:∀ x∈ms,∀ (H':Hp) (Q':VK),Same H1 H'→(∀ l H'',H' l=none→Same H' H''→H'' l=some (o x)→Q' (.ref l) H'')→te (σ0.set 0 (some (u x))) H' Q')
    (fin:∀ (D:Addr) (qs:List (Addr × α)) (H':Hp),H1 D=none→qs.map (·.2)=ms→(qs.map (·.1)).Nodup→(∀ q∈qs,H' q.1=some (o q.2)∧H1 q.1=none∧q.1≠D)→Same H1 H'→H' D=some (.lst (qs.map fun q=>V.ref q.1))→Q (.ref D) H') :
    Zbw J (ZaP 0) ZcJ te σ0 H1 Q:=by
  intro D hD
  refine ZcP (n:=ms.length) (fun i ys H'=>∃ qs:List (Addr × α),Same H1 H'∧H' D=some (.lst ys)∧ys=(qs.map fun q=>V.ref q.1)∧qs.map (·.2)=ms.take i∧(qs.map (·.1)).Nodup∧∀ q∈qs,H' q.1=some (o q.2)∧H1 q.1=none∧q.1≠D)
    ⟨[],Same.new hD,Zad,rfl,by simp,List.nodup_nil,fun q hq=>nomatch hq⟩ (fun i ys H' _ ⟨_,_,e,_⟩=>e) (fun i ys H' hi ⟨_,sm,_⟩=>hgo i H' hi sm) (fun ys H' ⟨_,sm,_⟩=>hst H' sm) ?_ (fun ys H' h=>?_)
  · rintro i ys H' x H2 hi ⟨qs,sm,hDl,hys,hqm,hnd,hq⟩ y
    obtain ⟨rfl,rfl⟩:=hy i H' x H2 hi sm y
    unfold ZcJ
    refine iteT (he ms[i] (List.getElem_mem hi) _ _ sm fun l H5 hl s5 el=>?_)
    have nlD:D≠l:=Zak hDl hl
    have ql:qs.length=i:=by
      have:=congrArg List.length hqm
      rw [List.length_map,List.length_take] at this
      omega
    refine ⟨s5 _ _ hDl,?_,qs ++ [(l,ms[i])],(sm.trans s5).upd hD,Zad,?_,?_,?_,?_⟩
    · rw [hys,List.length_map,ql]
      exact ZaZ (by omega)
    · rw [hys,List.map_append]
      rfl
    · rw [List.map_append,hqm,List.take_add_one,List.getElem?_eq_getElem hi]
      rfl
    · rw [List.map_append,List.nodup_append]
      refine ⟨hnd,by simp,fun a ha b hb e=>?_⟩
      obtain ⟨q,hq1,rfl⟩:=List.mem_map.mp ha
      have hb:b=l:=by simpa using hb
      subst hb
      have:=(hq q hq1).1
      rw [e,hl] at this
      cases this
    · intro q hq1
      rcases List.mem_append.mp hq1 with z | z
      · obtain ⟨z1,z2,z3⟩:=hq q z
        exact ⟨by rw [Zal z3];exact s5 _ _ z1,z2,z3⟩
      · have:q=(l,ms[i]):=by simpa using z
        subst this
        exact ⟨by rw [Zal (Ne.symm nlD)];exact el,sm.free hl,Ne.symm nlD⟩
  · obtain ⟨qs,sm,hDl,hys,hqm,hnd,hq⟩:=h
    rw [List.take_length] at hqm
    exact fin D qs H' hD hqm hnd hq sm (by rw [← hys];exact hDl)
theorem Zdk {α:Type}{K:PySem.W.Frag}{a:Addr}{ms:List α}{σ0:St}{H1:Hp}{te:TE}{Q:VK} (u:α→V) (o:α→HO) (hq:SqL K H1 a (ms.map u)) (hn:ms.length≤1000)
    (he:∀ x∈ms,∀ (H':Hp) (Q':VK),Same H1 H'→(∀ l H'',H' l=none→Same H' H''→H'' l=some (o x)→Q' (.ref l) H'')→te (σ0.set 0 (some (u x))) H' Q')
    (fin:∀ (D:Addr) (qs:List (Addr × α)) (H':Hp),H1 D=none→qs.map (·.2)=ms→(qs.map (·.1)).Nodup→(∀ q∈qs,H' q.1=some (o q.2)∧H1 q.1=none∧q.1≠D)→Same H1 H'→H' D=some (.lst (qs.map fun q=>V.ref q.1))→Q (.ref D) H') :
    Zbw (Itl K a) (ZaP 0) ZcJ te σ0 H1 Q :=
  ZjV u o hn (fun i H' hi sm=>⟨ms.map u,u ms[i],sm.seq hq,by simp [hi]⟩) (fun H' sm=>⟨ms.map u,sm.seq hq,by simp⟩) (fun i H' x H2 hi sm y=>⟨y.1,by
    have:=y.2 _ (sm.seq hq)
    rw [List.getElem?_map,List.getElem?_eq_getElem hi] at this
    exact (Option.some.inj this).symm⟩) he fin
section
variable {X:Cx}
end
end L2
set_option Elab.async false
set_option linter.all false
set_option maxRecDepth 100000
set_option maxHeartbeats 4000000
namespace L2
open PySem PySem.Spec PyProof.Rows
mutual
inductive RdS (S:List Addr) (H:Hp):V→PyData→Prop
  | non:RdS S H .non .none
  | bl (b:Bool):RdS S H (.bl b) (.bool b)
  | int (i:Int):RdS S H (.int i) (.int i)
  | str (x:Str):RdS S H (.str x) (.str x)
  | lst {a:Addr}{xs:List V}{ds:List PyData}:H a=some (.lst xs)→a∉S→RdSs S H xs ds→RdS S H (.ref a) (.list ds)
  | tup {a:Addr}{xs:List V}{ds:List PyData}:H a=some (.tup xs)→a∉S→RdSs S H xs ds→RdS S H (.ref a) (.tuple ds)
  | dct {a:Addr}:H a=some (.dK [])→a∉S→RdS S H (.ref a) (.dict [])
inductive RdSs (S:List Addr) (H:Hp):List V→List PyData→Prop
  | nil:RdSs S H [] []
  | cons {x:V}{d:PyData}{xs:List V}{ds:List PyData}:RdS S H x d→RdSs S H xs ds→RdSs S H (x :: xs) (d :: ds)
end
mutual
theorem RdS.move {S S':List Addr}{H H':Hp} (k:∀ b o,b∉S→H b=some o→H' b=some o) (ss:∀ b,b∉S→b∉S'):∀ {x:V}{d:PyData},RdS S H x d→RdS S' H' x d
  | _,_,.non=>.non
  | _,_,.bl b=>.bl b
  | _,_,.int i=>.int i
  | _,_,.str x=>.str x
  | _,_,.lst e n r=>.lst (k _ _ n e) (ss _ n) (RdSs.move k ss r)
  | _,_,.tup e n r=>.tup (k _ _ n e) (ss _ n) (RdSs.move k ss r)
  | _,_,.dct e n=>.dct (k _ _ n e) (ss _ n)
theorem RdSs.move {S S':List Addr}{H H':Hp} (k:∀ b o,b∉S→H b=some o→H' b=some o) (ss:∀ b,b∉S→b∉S'):∀ {xs:List V}{ds:List PyData},RdSs S H xs ds→RdSs S' H' xs ds
  | _,_,.nil=>.nil
  | _,_,.cons h t=>.cons (RdS.move k ss h) (RdSs.move k ss t)
end
theorem RdS.same {S:List Addr}{H H':Hp}{x:V}{d:PyData} (r:RdS S H x d) (s:Same H H'):RdS S H' x d:=r.move (fun b o _ e=>s b o e) fun _ n=>n
theorem RdSs.same {S:List Addr}{H H':Hp}{xs:List V}{ds:List PyData} (r:RdSs S H xs ds) (s:Same H H'):RdSs S H' xs ds:=r.move (fun b o _ e=>s b o e) fun _ n=>n
theorem RdS.any {S:List Addr}{H:Hp}{x:V}{d:PyData} (r:RdS S H x d):RdS [] H x d:=r.move (fun _ _ _ e=>e) fun _ _=>by simp
theorem RdSs.length {S:List Addr}{H:Hp}:∀ {xs:List V}{ds:List PyData},RdSs S H xs ds→xs.length=ds.length
  | _,_,.nil=>rfl
  | _,_,.cons _ t=>by simp [t.length]
theorem RdSs.pairs {S:List Addr}{H:Hp}:∀ {xs:List V}{ds:List PyData},RdSs S H xs ds→∃ ms:List (V × PyData),xs=ms.map (·.1)∧ds=ms.map (·.2)∧∀ m∈ms,RdS S H m.1 m.2
  | _,_,.nil=>⟨[],rfl,rfl,fun m h=>nomatch h⟩
  | _,_,.cons (x:=x) (d:=d) h t=>by
    obtain ⟨ms,e1,e2,hm⟩:=t.pairs
    refine ⟨(x,d) :: ms,by rw [e1];rfl,by rw [e2];rfl,fun m hmm=>?_⟩
    rcases List.mem_cons.mp hmm with rfl | z
    · exact h
    · exact hm m z
def tyD:PyData→String
  | .none => "NoneType"
  | .bool _ => "bool"
  | .int _ => "int"
  | .str _ => "str"
  | .list _ => "list"
  | .tuple _ => "tuple"
  | .dict _ => "dict"
theorem RdS.ty {S:List Addr}{H:Hp}{K:PySem.W.Frag}:∀ {x:V}{d:PyData},RdS S H x d→TyOf K H x (.type (tyD d))
  | _,_,.non=>.non
  | _,_,.bl b=>.bl b
  | _,_,.int i=>.int i
  | _,_,.str x=>.str x
  | _,_,.lst e _ _=>.lst e
  | _,_,.tup e _ _=>.tup e
  | _,_,.dct e _=>.dK e
def ZaG:PyData→Bool
  | .int _=>true
  | _=>false
theorem ZmK (K:PySem.W.Frag) (d:PyData):PySem.W.kitOne K (.type (tyD d)) (.type "int")=some (match d with | .int _=>true | .bool _=>true | _=>false):=by
  cases d <;> (simp only [tyD];kernel_rfl)
theorem Zhv (K:PySem.W.Frag) (d:PyData):PySem.W.kitOne K (.type (tyD d)) (.type "bool")=some (match d with | .bool _=>true | _=>false):=by
  cases d <;> (simp only [tyD];kernel_rfl)
theorem Zhu (K:PySem.W.Frag) (d:PyData):PySem.W.kitOne K (.type (tyD d)) (.type "list")=some (match d with | .list _=>true | _=>false):=by
  cases d <;> (simp only [tyD];kernel_rfl)
theorem Zjv (K:PySem.W.Frag) (d:PyData):PySem.W.kitOne K (.type (tyD d)) (.type "tuple")=some (match d with | .tuple _=>true | _=>false):=by
  cases d <;> (simp only [tyD];kernel_rfl)
section
variable {P:Program}{w:World}{H:Hp}{h:Heap}{S:List Addr}
theorem ZeS (ok:HOk P w H h) {a:Addr} (e:H a=some (.dK [])):(a == sysModules)=false∧∃ o n,h.get? a=some o∧o.cls=.type "dict" ∧ o.data=.dict #[] n:=by
  obtain ⟨_,y,vs,r,o,es,ep,e1,c,d,_,pr,_⟩:=(show ObjOk P w H h a (.dK []) from ok a _ e)
  cases r
  have hl:es.toList.length=0:=pr.length
  have he:es = #[]:=by
    cases es with
    | mk l =>
      have:l=[]:=List.length_eq_zero_iff.mp hl
      rw [this]
  rw [he] at d
  exact ⟨y,o,ep,e1,c.1,d⟩
mutual
theorem RdS.shows (ok:HOk P w H h):∀ {x:V}{d:PyData}{u:Value},RdS S H x d→RelV x u→d.showable=true→d.shown.length≤sizeLine →
    (∃ as,Reads h u d as)∧∃ bs,ReadAtMost h d.depth bs∧ReprK P w bs h d.depth u d.shown
  | _,_,_,.non,r,_,_=>by cases r;exact ⟨⟨_,.none⟩,[],(fun _ h=>nomatch h),by simp only [PyData.shown];exact .of_is ReprIs.none _ _ _⟩
  | _,_,_,.bl b,r,_,_=>by cases r;exact ⟨⟨_,.bool b⟩,[],(fun _ h=>nomatch h),by simp only [PyData.shown];exact .of_is (ReprIs.bool b) _ _ _⟩
  | _,_,_,.int i,r,hs,_=>by obtain ⟨t,rfl⟩:=r;exact ⟨⟨_,.int i t⟩,[],(fun _ h=>nomatch h),by simp only [PyData.shown];exact .of_is (ReprIs.int t (by simpa [PyData.showable] using hs)) _ _ _⟩
  | _,_,_,.str x,r,_,hz=>by obtain ⟨t,rfl⟩:=r;exact ⟨⟨_,.str x t⟩,[],(fun _ h=>nomatch h),by simp only [PyData.shown];exact .of_is (ReprIs.str x t (by simpa only [PyData.shown] using hz)) _ _ _⟩
  | _,_,_,.lst (a:=a) (ds:=ds) e _ ra,r,hs,hz=>by
    cases r
    obtain ⟨_,its,n,rv,e1⟩:=(show ObjOk P w H h a (.lst _) from ok a _ e)
    have hz':(listText (PyData.shownAll ds)).length≤sizeLine:=by simpa only [PyData.shown] using hz
    obtain ⟨⟨as,rr⟩,bs,hb,hk⟩:=RdSs.shows ok ra rv (by simpa [PyData.showable] using hs) (fun t ht=>Nat.le_trans (listText_mem_le ht) hz')
    have rd:Reads h (.ref a) (.list ds) (a :: as):=.list e1 rfl rfl (by simpa using rr)
    have hna:a∉bs:=not_mem_of_deeper rd (by simp only [PyData.depth];omega) hb
    refine ⟨⟨_,rd⟩,a :: bs,ReadAtMost.cons rd (by simp only [PyData.depth];omega) hb,?_⟩
    simp only [PyData.depth,PyData.shown]
    cases its with
    | nil =>
      cases rr
      simp only [PyData.shownAll,listText_nil]
      exact ReprK.listEmpty e1 rfl rfl
    | cons x l=>exact ReprK.list e1 rfl rfl hna (by simpa using hk.length_eq) (fun i y e=>hk.item i y (by simpa using e))
  | _,_,_,.tup (a:=a) (ds:=ds) e _ ra,r,hs,hz=>by
    cases r
    obtain ⟨_,its,rv,o,e1,c,n,dt⟩:=(show ObjOk P w H h a (.tup _) from ok a _ e)
    have hz':(tupleText (PyData.shownAll ds)).length≤sizeLine:=by simpa only [PyData.shown] using hz
    obtain ⟨⟨as,rr⟩,bs,hb,hk⟩:=RdSs.shows ok ra rv (by simpa [PyData.showable] using hs) (fun t ht=>Nat.le_trans (tupleText_mem_le ht) hz')
    have rd:Reads h (.ref a) (.tuple ds) as:=.tuple e1 c dt (by simpa using rr)
    have hna:a∉bs:=not_mem_of_deeper rd (by simp only [PyData.depth];omega) hb
    refine ⟨⟨_,rd⟩,a :: bs,ReadAtMost.cons rd (by simp only [PyData.depth];omega) hb,?_⟩
    simp only [PyData.depth,PyData.shown]
    exact ReprK.tuple e1 c dt hna (by simpa using hk)
  | _,_,_,.dct (a:=a) e _,r,hs,hz=>by
    cases r
    obtain ⟨hsys,o,n,e1,c,dt⟩:=ZeS ok e
    have rd:Reads h (.ref a) (.dict []) (a :: [] ++ []):=.dict (kvs:=[]) e1 c dt .nil .nil
    refine ⟨⟨_,rd⟩,a :: [],ReadAtMost.cons (n:=0) rd (Nat.zero_le _) (fun _ h=>nomatch h),?_⟩
    simp only [PyData.depth,PyData.depthKv,PyData.shown,PyData.shownKv]
    exact ReprK.dict e1 c dt hsys (by simp) .nil
theorem RdSs.shows (ok:HOk P w H h):∀ {xs:List V}{ds:List PyData}{us:List Value},RdSs S H xs ds→Vals xs us→PyData.showableAll ds=true→(∀ t∈PyData.shownAll ds,t.length≤sizeLine) →
    (∃ as,ReadsAll h us ds as)∧∃ bs,ReadAtMost h (PyData.depthAll ds) bs∧ReprAllK P w bs h (PyData.depthAll ds) us (PyData.shownAll ds)
  | _,_,_,.nil,.nil,_,_=>⟨⟨_,.nil⟩,[],(fun _ h=>nomatch h),by simp only [PyData.shownAll];exact .nil⟩
  | _,_,_,.cons (d:=d) (ds:=ds) r rs,.cons v vs,hs,hz=>by
    have hs':d.showable=true∧PyData.showableAll ds=true:=by simpa [PyData.showableAll] using hs
    obtain ⟨⟨a1,r1⟩,b1,hb1,k1⟩:=RdS.shows ok r v hs'.1 (hz _ (by simp only [PyData.shownAll];exact List.mem_cons_self ..))
    obtain ⟨⟨a2,r2⟩,b2,hb2,k2⟩:=RdSs.shows ok rs vs hs'.2 (fun t ht=>hz t (by simp only [PyData.shownAll];exact List.mem_cons_of_mem _ ht))
    refine ⟨⟨_,.cons r1 r2⟩,b1 ++ b2,?_,?_⟩
    · simp only [PyData.depthAll]
      exact (hb1.mono (Nat.le_max_left _ _)).append (hb2.mono (Nat.le_max_right _ _))
    · simp only [PyData.depthAll,PyData.shownAll]
      exact .cons ((k1.more fun b hb=>List.mem_append_left _ hb).level_le (Nat.le_max_left _ _)) (k2.more_le (fun b hb=>List.mem_append_right _ hb) (Nat.le_max_right _ _))
end
end
section
variable {X:Cx}
theorem Inv.big {pins:List (Addr × Obj)}{σ:St}{H:Hp}{s:Shared} (I:Inv X pins σ H s):sysModules<s.heap.objs.size:=by
  have h:mainGlobals<s.heap.objs.size:=(I.mod.glob.keeps I.bk).lt
  exact Nat.lt_trans (by decide) h
def Zn5:List V→Hp→VK→Prop:=fun xs H Q=>∃ x d,xs=[x]∧RdS [] H x d∧d.showable=true∧d.shown.length≤sizeLine∧d.depth≤60∧Q (.str d.shown) H
theorem ZcD (hg:X.A.guards=some []) (hu:X.A.units+64<cLine):Zb4 X (.builtin "repr") Zn5:=by
  intro pins s σ H xs us Q I rv h
  obtain ⟨x,d,rfl,rd,hs,hz,hdp,q⟩:=h
  obtain ⟨u,rfl,ru⟩:=rv.one
  have fin:∀ (h':Heap) (t:Tok) (tk:Nat),(∀ b o,s.heap.get? b=some o→h'.get? b=some o)→EP X pins σ Q (.str d.shown t) { s with heap:=h',toks:=tk }:=fun h' t tk k=>⟨.str d.shown,H,I.kept k,⟨t,rfl⟩,q⟩
  have hsh:=RdS.shows I.hok rd ru hs hz
  cases rd with
  | non=>cases ru;simp only [PyData.shown] at fin;exact P.repr_of_none (fin s.heap _ _ fun _ _ e=>e)
  | bl b=>cases ru;simp only [PyData.shown] at fin;exact P.repr_of_bool (fin s.heap _ _ fun _ _ e=>e)
  | int i=>obtain ⟨t,rfl⟩:=ru;simp only [PyData.shown] at fin;exact P.repr_of_int (by simpa [PyData.showable] using hs) (fin s.heap _ _ fun _ _ e=>e)
  | str y=>obtain ⟨t,rfl⟩:=ru;simp only [PyData.shown] at fin;exact P.repr_of_str (fin s.heap _ _ fun _ _ e=>e) (by simpa only [PyData.shown] using hz)
  | @lst a xs ds e _ ra =>
    cases ru
    obtain ⟨_,its,n,rv,e1⟩:=(show ObjOk X.prog X.w H s.heap a (.lst _) from I.hok a _ e)
    have hz':(listText (PyData.shownAll ds)).length≤sizeLine:=by simpa only [PyData.shown] using hz
    obtain ⟨⟨as,rr⟩,bs,hb,hk⟩:=RdSs.shows I.hok ra rv (by simpa [PyData.showable] using hs) (fun t ht=>Nat.le_trans (listText_mem_le ht) hz')
    have rd:Reads s.heap (.ref a) (.list ds) (a :: as):=.list e1 rfl rfl (by simpa using rr)
    have hna:a∉bs:=not_mem_of_deeper rd (by simp only [PyData.depth];omega) hb
    simp only [PyData.depth] at hdp
    simp only [PyData.shown] at fin
    refine call_repr_slot (by omega) ⟨_,e1,rfl⟩ F.slot_list_repr.toG ?_
    cases its with
    | nil =>
      cases rr
      simp only [PyData.shownAll,listText_nil] at fin
      exact call_list_repr_empty ⟨_,e1,rfl⟩ e1 rfl ⟨_,_,rfl,fin s.heap _ _ fun _ _ e=>e⟩
    | cons x l=>exact call_list_reprK e1 rfl rfl hna (by simpa using hk.length_eq) (fun i y e=>hk.item i y (by simpa using e)) (A:=X.A.in1) hg (fun b _=>Clear.nil b) (by show X.A.units+1+(PyData.depthAll ds+1)<cLine;omega) (fun _ _ e=>e) (fun h' t tk k=>⟨_,_,rfl,fin h' t tk k⟩) hz'
  | @tup a xs ds e _ ra =>
    cases ru
    obtain ⟨_,its,rv,o,e1,c,n,dt⟩:=(show ObjOk X.prog X.w H s.heap a (.tup _) from I.hok a _ e)
    have hz':(tupleText (PyData.shownAll ds)).length≤sizeLine:=by simpa only [PyData.shown] using hz
    obtain ⟨⟨as,rr⟩,bs,hb,hk⟩:=RdSs.shows I.hok ra rv (by simpa [PyData.showable] using hs) (fun t ht=>Nat.le_trans (tupleText_mem_le ht) hz')
    have rd:Reads s.heap (.ref a) (.tuple ds) as:=.tuple e1 c dt (by simpa using rr)
    have hna:a∉bs:=not_mem_of_deeper rd (by simp only [PyData.depth];omega) hb
    simp only [PyData.depth] at hdp
    simp only [PyData.shown] at fin
    refine call_repr_slot (by omega) ⟨_,e1,c⟩ F.slot_tuple_repr ?_
    exact call_tuple_reprK e1 c dt hna (by simpa using hk) (A:=X.A.in1) hg (fun b _=>Clear.nil b) (by show X.A.units+1+(PyData.depthAll ds+1)<cLine;omega) (fun _ _ e=>e) (fun h' t tk k=>⟨_,_,rfl,fin h' t tk k⟩) hz'
  | @dct a e _ =>
    cases ru
    obtain ⟨hsys,o,n,e1,c,dt⟩:=ZeS I.hok e
    simp only [PyData.shown,PyData.shownKv] at fin hz
    refine call_repr_slot (by omega) ⟨_,e1,c⟩ F.slot_dict_repr ?_
    exact call_dict_reprK (as:=[]) (d:=0) e1 c dt hsys (by simp) .nil (A:=X.A.in1) hg (fun b _=>Clear.nil b) (by show X.A.units+1+(0+1)<cLine;omega) (fun _ _ e=>e) (fun h' t tk k=>⟨_,_,rfl,fin h' t tk k⟩) hz
def Znf:TE:=fun _ H Q=>∀ p,H p=none→Q (.ref p) (upd H p (.dK []))
theorem ZkH {pos:Pos}:PE X (.Dict [] [] pos) Znf:=fun pins s σ H Q I h =>
  wpAny_Dict_empty ⟨.ref s.heap.objs.size,_,I.laid (a:=s.heap.objs.size) (o:=.dK []) (t':=s.toks) (fun _ _ q=>Heap.get?_push_of_some _ q) (Nat.le_refl _)
    ⟨Nat.zero_le _,beq_eq_false_iff_ne.mpr (Ne.symm (Nat.ne_of_lt I.big)),[],.nil,Heap.DictOf.new s.heap⟩,rfl,h _ (I.hok.fresh (Nat.le_refl _))⟩
def tRev (te:TE) (ts:TO):TE:=fun σ H Q=>te σ H fun x H1=>ts σ H1 fun st H2=>∃ a xs,st=some (-1)∧x=.ref a∧H2 a=some (.lst xs)∧∀ p,H2 p=none→Q (.ref p) (upd H2 p (.lst xs.reverse))
theorem Zkm {xs:List V}{us:List Value} (r:Vals xs us):Vals xs.reverse us.reverse:=by
  induction r with
  | nil=>exact .nil
  | cons h t ih =>
    rw [List.reverse_cons,List.reverse_cons]
    exact ih.append (.cons h .nil)
theorem Znn {e se:Expr}{te:TE}{ts:TO}{p2 pos:Pos} (he:PE X e te) (hs:PO X (some se) ts):PE X (.Subscript e (.Slice none none (some se) p2) pos) (tRev te ts):=by
  intro pins s σ H Q I h
  refine Subscript_ (thn (he pins s σ H _ I h) fun v s1 ⟨x,H1,I1,r1,q1⟩=>?_)
  refine wpAny_Slice ?_
  rw [evalPart_none]
  refine wpAny_pure ?_
  refine wpAny_pure ?_
  refine thn (hs pins s1 σ H1 _ I1 q1) fun vs s2 ⟨st,H2,I2,pst,q2⟩=>?_
  obtain ⟨a,xs,rfl,rfl,hx,q⟩:=q2
  cases r1
  have I4:Inv X pins σ H2 { s2 with heap:=s2.heap.push { cls:=.type "slice",data:=.fields #[.none,.none,vs] } }:=I2.kept (t':=s2.toks) fun b ob q=>Heap.get?_push_of_some _ q
  obtain ⟨its,r,ht,hz⟩:=I4.list (SqL.of hx)
  have hlen:=r.length
  show wpAny (model X.prog X.w) X.A (subscriptTail e (.Slice none none (some se) p2) (.ref a) (.ref s2.heap.objs.size)) (EP X pins σ Q) X.xe { s2 with heap:=s2.heap.push { cls:=.type "slice",data:=.fields #[.none,.none,vs] } }
  refine tail_any (ops:=[.ref a,.ref s2.heap.objs.size]) ht.isList.typeIs slot_list_getitem.lookup ?_ rfl
  refine wpAny_getItem_list_slice ht.isList (Heap.IsSliceOf.new ..) .none .none pst (by simp) ?_ (by rw [List.size_toArray] <;> omega)
  rw [PySem.W.krv_pick]
  refine ⟨.ref _,_,I4.laid (t':=s2.toks) (o:=.lst xs.reverse) (fun b ob q=>Heap.get?_push_of_some _ q) (Nat.le_refl _) ?_,rfl,q _ (I4.hok.fresh (Nat.le_refl _))⟩
  have e:its.toArray.toList.reverse.toArray=its.reverse.toArray:=by simp
  rw [e]
  exact ⟨by rw [List.length_reverse];exact hz,its.reverse,0,Zkm r,Heap.get?_push_size _ rfl⟩
end
structure Sz (c k:Nat) (d:PyData):Prop where
  sh:d.showable=true
  le:d.shown.length≤c
  dp:d.depth≤k
theorem Sz.mono {c k c' k':Nat}{d:PyData} (s:Sz c k d) (h1:c≤c') (h2:k≤k'):Sz c' k' d:=⟨s.sh,Nat.le_trans s.le h1,Nat.le_trans s.dp h2⟩
theorem Zit {c k:Nat}:∀ {ds:List PyData},(∀ d∈ds,Sz c k d)→PyData.showableAll ds=true∧((PyData.shownAll ds).map (·.length)).sum≤ds.length * c∧PyData.depthAll ds≤k∧(PyData.shownAll ds).length=ds.length
  | [],_=>by simp [PyData.showableAll,PyData.shownAll,PyData.depthAll]
  | d :: ds,h=>by
    obtain ⟨h1,h2,h3,h4⟩:=Zit (fun e he=>h e (List.mem_cons_of_mem _ he))
    have hd:=h d (by simp)
    have a1:=hd.le
    have a2:=hd.dp
    simp only [PyData.showableAll,PyData.shownAll,PyData.depthAll,List.map_cons,List.sum_cons,List.length_cons,hd.sh,h1,Bool.and_self,h4,true_and,and_true,Nat.succ_mul]
    omega
theorem ZbH {c k n:Nat}{ds:List PyData} (h:∀ d∈ds,Sz c k d) (hn:ds.length≤n):Sz (n * c+2 * n+3) (k+1) (.list ds):=by
  obtain ⟨h1,h2,h3,h4⟩:=Zit h
  have e:=listText_len_le (PyData.shownAll ds)
  rw [h4] at e
  have m:ds.length * c≤n * c:=Nat.mul_le_mul_right _ hn
  exact ⟨by simpa [PyData.showable] using h1,by simp only [PyData.shown];omega,by simp only [PyData.depth];omega⟩
theorem ZcV {c k n:Nat}{ds:List PyData} (h:∀ d∈ds,Sz c k d) (hn:ds.length≤n):Sz (n * c+2 * n+3) (k+1) (.tuple ds):=by
  obtain ⟨h1,h2,h3,h4⟩:=Zit h
  have e:=tupleText_len_le (PyData.shownAll ds)
  rw [h4] at e
  have m:ds.length * c≤n * c:=Nat.mul_le_mul_right _ hn
  exact ⟨by simpa [PyData.showable] using h1,by simp only [PyData.shown];omega,by simp only [PyData.depth];omega⟩
theorem ZnC {i:Int} (h:i.natAbs<10 ^ 40):i.natAbs.log2<1920:=by
  by_cases h0:i.natAbs=0
  · rw [h0];decide
  · exact (Nat.log2_lt h0).mpr (Nat.lt_of_lt_of_le (Nat.lt_trans h (show 10 ^ 40<2 ^ 200 by decide)) (Nat.pow_le_pow_right (by decide) (by decide)))
theorem Zch {i:Int} (h:i.natAbs<10 ^ 40):Sz 41 0 (.int i):=by
  have e:=int_text_length_le10 (k:=40) (by decide) h
  refine ⟨?_,?_,Nat.le_refl _⟩
  · show decide (i.natAbs.log2<1920)=true
    exact decide_eq_true (ZnC h)
  · show (Str.ofString (toString i)).length≤41
    rw [PySem.ofString_length];exact e
end L2
set_option Elab.async false
set_option linter.all false
set_option maxRecDepth 100000
set_option maxHeartbeats 4000000
namespace L2
open PySem PySem.Spec PyProof.Rows
theorem Zlg {α:Type}{K:PySem.W.Frag}{a:Addr}{ms:List α}{σ0:St}{H1:Hp}{tc:TT}{te:TE}{Q:VK} (u:α→V) (p:α→Bool) (f:α→V) (hq:SqT K H1 a (ms.map u)) (hn:ms.length≤sizeLine)
    (ht:∀ x∈ms,PuT tc (σ0.set 0 (some (u x))) H1 (p x)) (he:∀ x∈ms,p x=true→Pu te (σ0.set 0 (some (u x))) H1 (f x))
    (fin:∀ D H',H1 D=none→Same H1 H'→H' D=some (.lst ((ms.filter p).map f))→Q (.ref D) H') :
    Zbw (Itt K a) (ZaP 0) tc te σ0 H1 Q:=by
  intro D hD
  refine ZcP (n:=ms.length) (fun i ys H'=>Same H1 H'∧H' D=some (.lst ys)∧ys=((ms.take i).filter p).map f) ⟨Same.new hD,Zad,by simp⟩ (fun i ys H' _ q=>q.2.1) (fun i ys H' hi q=>⟨ms.map u,u ms[i],q.1.tup hq,by simp [hi]⟩)
    (fun ys H' q=>⟨ms.map u,q.1.tup hq,by simp⟩) ?_ (fun ys H' q=>?_)
  · rintro i ys H' x H2 hi ⟨sm,hDl,hys⟩ ⟨rfl,hy⟩
    have hx:(ms.map u)[i]? = some x:=hy _ (sm.tup hq)
    obtain ⟨z,hz,rfl⟩:∃ z,ms[i]? = some z∧u z=x:=by
      rw [List.getElem?_map] at hx
      cases e:ms[i]? with
      | none=>rw [e] at hx;cases hx
      | some z=>rw [e] at hx;exact ⟨z,rfl,Option.some.inj hx⟩
    have hm:z∈ms:=List.mem_of_getElem? hz
    have tk:ms.take (i+1)=ms.take i ++ [z]:=by
      rw [List.take_add_one,hz]
      simp only [Option.toList]
    have hlen:ys.length≤i:=by
      rw [hys,List.length_map]
      exact Nat.le_trans (List.length_filter_le _ _) (by rw [List.length_take];omega)
    refine ht z hm _ _ sm fun H4 s4=>?_
    cases hp:p z with
    | true =>
      refine iteT ?_
      refine he z hm hp _ _ (sm.trans s4) fun H5 s5=>⟨s5 _ _ (s4 _ _ hDl),by omega,((sm.trans s4).trans s5).upd hD,Zad,?_⟩
      rw [tk,List.filter_append,List.map_append,← hys]
      simp [hp]
    | false =>
      refine iteF ⟨sm.trans s4,s4 _ _ hDl,?_⟩
      rw [tk,List.filter_append,List.map_append,← hys]
      simp [hp]
  · obtain ⟨sm,hDl,hys⟩:=q
    rw [List.take_length] at hys
    exact fin D H' hD sm (by rw [← hys];exact hDl)
end L2
set_option Elab.async false
set_option linter.all false
set_option maxRecDepth 100000
set_option maxHeartbeats 4000000
namespace L2
open PySem PySem.Spec PyProof.Rows PySem.Calls
section
variable {prog:Program}{w:World}{A:Around}{E:Value→Shared→Prop}{s:Shared}
end
theorem Zdv {X:Cx}:Zb4 X (.builtin "sorted") (fun xs H Q=>∃ (a:Addr) (ns:List Int),xs=[.ref a]∧SqL X.K H a (ns.map V.int)∧ns.length<64∧∀ (D:Addr) (ms:List Int),H D=none→ms.Perm ns→ms.Pairwise (·≤·)→Q (.ref D) (upd H D (.lst (ms.map V.int)))):=by
  intro pins s σ H xs us Q I rv h
  obtain ⟨a,ns,rfl,hq,h64,q⟩:=h
  obtain ⟨u,rfl,ru⟩:=rv.one
  cases ru
  obtain ⟨its,r,pl,hz⟩:=I.list hq
  have hlen:=r.length
  rw [List.length_map] at hlen
  refine sorted_ints pl.isList (Zb7 r) (by omega) fun out ms hi hp hs=>?_
  obtain ⟨e,he⟩:=sortedAll_at s.heap its out
  refine ⟨.ref _,_,I.laid (t':=s.toks) (o:=.lst (ms.map V.int)) (fun b o=>sortedAll_old) (Nat.le_succ _) ⟨?_,out.toList,e,ZdP hi,?_⟩,rfl,q _ ms (I.hok.fresh (Nat.le_succ _)) hp hs⟩
  · rw [List.length_map,hp.length_eq]
    exact Nat.le_of_lt (ZaZ (by omega))
  · rw [Array.toArray_toList]
    exact he
theorem Zod {X:Cx}{N':List Str}{scope:Scope}{cl:List (Str × Addr)}{C:Addr}{s2:Shared}{H2:Hp}{ex:List Addr}{y z:Str}{p1 p2 pos:Pos}{k:Nat} (K:PySem.W.Frag) (hc:X.calm=true) (nd:N'.Nodup) (h0:N'[0]? = some y:=by rfl) (h1:N'[1]? = some z:=by rfl)
    (hy:(relabel scope X.env).names.lookup y=some .local:=by rfl) (hz:(relabel scope X.env).names.lookup z=some .local:=by rfl) (hK:X.K=K:=by rfl) :
    PG (X.comp N' scope cl C s2 H2 ex) (.Tuple [.Name y p1,.Name z p2] k pos) (gTup K 2 (Zeg (ZaP 0) (Zeg (ZaP 1) gNil))):=Zmh K hc nd h0 h1 hy hz hK
end L2
set_option Elab.async false
set_option linter.all false
set_option maxRecDepth 100000
set_option maxHeartbeats 4000000
namespace L2
open PySem PySem.Spec PyProof.Rows
end L2
set_option Elab.async false
set_option linter.all false
set_option maxRecDepth 100000
set_option maxHeartbeats 4000000
namespace L2
open PySem PySem.Spec PyProof.Rows
section
variable {X:Cx}{N':List Str}{scope osc:Scope}{cl:List (Str × Addr)}{C:Addr}{ex:List Addr}{ix:List (Option Nat)}{pins:List (Addr × Obj)}{σ:St}{H2:Hp}{s2:Shared}
end
end L2
set_option maxRecDepth 100000
namespace L2
open PySem PySem.Spec PyProof.Rows
theorem ObjOk.get {P:Program}{w:World}{H:Hp}{h:Heap}{a:Addr}{o:HO} (x:ObjOk P w H h a o):∃ u,h.get? a=some u:=by
  cases o with
  | lst xs=>obtain ⟨_,_,_,_,e⟩:=x;exact ⟨_,e⟩
  | tup xs=>obtain ⟨_,_,_,_,e,_⟩:=x;exact ⟨_,e⟩
  | dK kvs=>obtain ⟨_,_,_,_,o,_,_,e,_⟩:=x;exact ⟨_,e⟩
  | dT kvs=>obtain ⟨_,_,_,_,o,_,_,e,_⟩:=x;exact ⟨_,e⟩
  | set S n=>obtain ⟨o,_,_,_,e,_⟩:=x;exact ⟨_,e⟩
  | ins C dx fs=>obtain ⟨_,_,_,e,_⟩:=x;exact ⟨_,e⟩
  | own y=>exact x
  | xd fs=>obtain ⟨_,⟨_,_,_,e,_⟩,_⟩:=x;exact ⟨_,e⟩
  | rng lo hi=>obtain ⟨_,_,_,e⟩:=x;exact ⟨_,e⟩
  | frz ob u=>exact ⟨_,x.1⟩
  | tbl ps=>exact ⟨_,x⟩
  | met f y=>exact ⟨_,x⟩
  | ext φ=>exact x.2.1
def Trc (h:Heap) (H':Hp) (g:Heap) (e:Addr) (cls fl:Value):Prop :=
  ∃ a0 oe vs T oT ts,h.get? e=some oe∧(oe.cls=cls∧vs[0]? = some a0)∧oe.data=.fields vs∧vs[1]? = some (.ref T)∧T≠e∧h.get? T=some oT∧oT.data=.fields ts∧ts[3]? = some fl∧(H' e=none∧H' T=none)∧g.get? e=none∧g.get? T=none
structure Fli (P:Program) (w:World) (l:List Env) (H:Hp) (s:Shared) (e:Addr) (cls fl:Value) (H':Hp) (s':Shared):Prop where
  os:s'.os=s.os
  bare:AllBare s'.gens
  un:Un (frs l) [] H H' s.heap s'.heap
  hok:HOk P w H' s'.heap
  tr:Trc s'.heap H' s.heap e cls fl
section
variable {P:Program}{w:World}{l:List Env}{H H':Hp}{s s1:Shared}{e:Addr}{cls fl:Value}
theorem ZlR {base:Heap} (F:Fli P w l H s e cls fl H' s1) (hfr:s1.heap.FunFrames base l) (hff:∀ b∈frs l,H' b=none) :
    ∃ (B:Heap) (a0:Value),(B.StaysIn s1.heap∧B.get? e=none∧s1.heap.FunFrames B l∧s1.heap.TracedAtW B e cls a0 fl) ∧
      ∀ h' fl',B.StaysIn h'→h'.TracedAtW B e cls a0 fl'→s1.heap.UpToSlots h'→Fli P w l H s e cls fl' H' { s1 with heap:=h' }:=by
  obtain ⟨a0,oe,vs,T,oT,ts,h1,h2,h3,h4,h5,h6,h7,h8,⟨h9,h10⟩,h11,h12⟩:=F.tr
  have none_of:∀ b,b∈e :: T :: frs l→(PySem.W.hideAll s1.heap (e :: T :: frs l)).get? b=none:=fun b hb=>PySem.W.hideAll_none _ hb
  have at_of:∀ b o,s1.heap.get? b=some o→b∉e :: T :: frs l→(PySem.W.hideAll s1.heap (e :: T :: frs l)).get? b=some o:=fun b o q hb=>PySem.W.hideAll_get _ q hb
  have nofld:∀ b∈frs l,∀ o,s1.heap.get? b=some o→∀ vs,o.data≠.fields vs:=fun b hb o q=>by
    obtain ⟨_,o',ho',hn⟩:=hfr.mem hb
    rw [q] at ho';cases ho';exact hn
  have hidT:∀ b,H' b≠none→b∉e :: T :: frs l:=fun b q z=>by
    rcases List.mem_cons.mp z with r | z
    · rw [r] at q;exact q h9
    · rcases List.mem_cons.mp z with r | z
      · rw [r] at q;exact q h10
      · exact q (hff b z)
  refine ⟨PySem.W.hideAll s1.heap (e :: T :: frs l),a0,⟨fun b o q=>PySem.W.of_hideAll _ q,none_of e List.mem_cons_self,PySem.W.funFrames_hide hfr fun env he a ha=>?_,oe,vs,T,oT,ts,h1,h2,h3,h4,none_of T (by simp),h5,h6,h7,h8⟩,fun h' fl' hB ht hu=>?_⟩
  · exact List.mem_cons_of_mem _ (List.mem_cons_of_mem _ (List.mem_filterMap.mpr ⟨env,he,ha⟩))
  · obtain ⟨oe',vs',T',oT',ts',k1,k2,k3,k4,k5,k6,k7,k8,k9⟩:=ht
    have hT':H' T'=none:=by
      cases q:H' T' with
      | none=>rfl
      | some u =>
        obtain ⟨ob,hob⟩:=(F.hok _ _ q).get
        have:=at_of T' ob hob (hidT T' (by rw [q];simp))
        rw [k5] at this;cases this
    have gT':s.heap.get? T'=none:=by
      cases q:s.heap.get? T' with
      | none=>rfl
      | some u =>
        obtain ⟨ob,hob⟩:=F.un.there T' u q (by simp)
        by_cases z:T'∈e :: T :: frs l
        · rcases List.mem_cons.mp z with r | z
          · exact absurd r k6
          · rcases List.mem_cons.mp z with r | z
            · rw [r,h12] at q;cases q
            · obtain ⟨sl,hsl⟩:=hu T' ob hob (nofld T' z ob hob)
              rw [k7] at hsl;cases hsl
              exact absurd k8 (nofld T' z ob hob _)
        · have:=at_of T' ob hob z
          rw [k5] at this;cases this
    have new:∀ b o,s.heap.get? b=some o→b∉frs l→b∉e :: T :: frs l:=fun b o q hb z=>by
      rcases List.mem_cons.mp z with r | z
      · rw [r,h11] at q;cases q
      · rcases List.mem_cons.mp z with r | z
        · rw [r,h12] at q;cases q
        · exact hb z
    refine ⟨F.os,F.bare,⟨fun b o q n hb _=>?_,fun b o q n hb _=>?_,F.un.free,fun b o q _=>?_,F.un.tups,F.un.frzs,F.un.tbls⟩,fun b o q=>?_,a0,oe',vs',T',oT',ts',k1,k2,k3,k4,k6,k7,k8,k9,⟨h9,hT'⟩,h11,gT'⟩
    · exact hB b o (at_of b o (F.un.keep b o q n hb (by simp)) (new b o q hb))
    · obtain ⟨sl,q1⟩:=F.un.slot b o q n hb (by simp)
      obtain ⟨sl',q2⟩:=hu b _ q1 (nofld b hb _ q1)
      exact ⟨sl',q2⟩
    · obtain ⟨o',q1⟩:=F.un.there b o q (by simp)
      by_cases hb:b∈frs l
      · obtain ⟨sl',q2⟩:=hu b _ q1 (nofld b hb _ q1)
        exact ⟨_,q2⟩
      · exact ⟨o',hB b o' (at_of b o' q1 (new b o q hb))⟩
    · refine (F.hok b o q).stay (fun c v hc r=>hB c v (at_of c v r (hidT c ?_))) (fun _ z=>z) fun _ _ z=>z
      rcases hc with z | z
      · rw [z,q];simp
      · rw [z];simp
end
def CXW (P:Program) (w:World):CXT:=fun l H s E ev s'=>∃ e cls H',ev=.ref e∧Fli P w l H s e cls .none H' s'∧E cls none H'
def ZgY (X:Cx) (R:St→Value→Hp→Prop):Prop:=∀ (pins:List (Addr × Obj)) (σ:St) (H:Hp) (s:Shared) (e:Addr) (cls:Value) (H':Hp) (s':Shared),Inv X pins σ H s→Fli X.prog X.w X.stack H s e cls .none H' s'→R σ cls H'→X.xe (.ref e) s'
def ZlY (X:Cx) (R:St→Value→Hp→Prop):Prop:=∀ (pins:List (Addr × Obj)) (σ:St) (H:Hp) (s:Shared) (e:Addr) (cls:Value) (vs:List Value) (h':Heap),Inv X pins σ H s→Heap.MadeExcOf s.heap h' e cls vs→R σ cls H→X.xe (.ref e) { s with heap:=h' }
section
variable {X:Cx}{pins:List (Addr × Obj)}{σ:St}{H H':Hp}{s s':Shared}{e:Addr}{cls fl:Value}
theorem Inv.fly (I:Inv X pins σ H s) (F:Fli X.prog X.w X.stack H s e cls fl H' s'):Inv X pins σ H' s':=I.call' (ch:=[]) F.os F.un F.hok F.bare fun b z=>absurd z (by simp)
theorem Inv.old (I:Inv X pins σ H s) (hex:X.ex=[]) {b:Addr} (h:s.heap.get? b=none):X.s₀.heap.get? b=none:=by
  cases q:X.s₀.heap.get? b with
  | none=>rfl
  | some o =>
    obtain ⟨o',q'⟩:=I.base.there b o q (by rw [hex];simp)
    rw [h] at q';cases q'
theorem Fli.out (I:Inv X pins σ H s) (F:Fli X.prog X.w X.stack H s e cls fl H' s') (hex:X.ex=[]):Fli X.prog X.w X.outer X.H₀ X.s₀ e cls fl H' s':=by
  have J:=I.fly F
  obtain ⟨a0,oe,vs,T,oT,ts,h1,h2,h3,h4,h5,h6,h7,h8,h9,h11,h12⟩:=F.tr
  refine ⟨J.os,J.bare,?_,J.hok,a0,oe,vs,T,oT,ts,h1,h2,h3,h4,h5,h6,h7,h8,h9,I.old hex h11,I.old hex h12⟩
  have:=J.base
  rw [hex] at this
  exact this
theorem Zk8 {B h' h'':Heap}{a0:Value}{vs:List Value} (I:Inv X pins σ H s) (hB:B=PySem.W.hideAll s.heap (frs X.stack)) (hx:Heap.MadeExcOf s.heap h' e cls vs) (ht:h''.TracedW B e cls a0) (hs:B.StaysIn h'') (hu:h'.UpToSlots h'') :
    Fli X.prog X.w X.stack H s e cls .none H { s with heap:=h'' }:=by
  subst hB
  obtain ⟨oe,ws,T,oT,ts,k1,k2,k3,k4,k5,k6,k7,k8,k9⟩:=ht
  have nofld:∀ b∈frs X.stack,∃ o,s.heap.get? b=some o∧∀ vs,o.data≠.fields vs:=fun b hb=>(I.stack.mem hb).2
  have at_of:∀ b o,s.heap.get? b=some o→b∉frs X.stack→h''.get? b=some o:=fun b o q hb=>hs b o (PySem.W.hideAll_get _ q hb)
  have gT:s.heap.get? T=none:=by
    cases q:s.heap.get? T with
    | none=>rfl
    | some u =>
      by_cases z:T∈frs X.stack
      · obtain ⟨o,ho,hn⟩:=nofld T z
        obtain ⟨sl,hsl⟩:=hu T o (hx.keeps T o ho) hn
        rw [k7] at hsl;cases hsl
        exact absurd k8 (hn _)
      · have:=PySem.W.hideAll_get _ q z
        rw [k5] at this;cases this
  have fr:∀ b,s.heap.get? b=none→H b=none:=fun b q=>by
    cases r:H b with
    | none=>rfl
    | some u =>
      obtain ⟨o,ho⟩:=(I.hok b u r).get
      rw [q] at ho;cases ho
  have sl:∀ b o,s.heap.get? b=some o→b∈frs X.stack→∃ sl,h''.get? b=some { o with slots:=sl }:=fun b o q hb=>by
    obtain ⟨o',ho',hn⟩:=nofld b hb
    rw [q] at ho';cases ho'
    exact hu b o (hx.keeps b o q) hn
  refine ⟨rfl,I.bare,⟨fun b o q _ hb _=>at_of b o q hb,fun b o q _ hb _=>sl b o q hb,fun _ _ _ n _=>n,fun b o q _=>?_,fun _ _ q=>q,fun _ _ _ q=>q,fun b ps q=>⟨#[],by rw [q];simp⟩⟩,fun b o q=>?_,a0,oe,ws,T,oT,ts,k1,k2,k3,k4,k6,k7,k8,k9,⟨fr e hx.new,fr T gT⟩,hx.new,gT⟩
  · by_cases hb:b∈frs X.stack
    · obtain ⟨_,z⟩:=sl b o q hb
      exact ⟨_,z⟩
    · exact ⟨o,at_of b o q hb⟩
  · refine (I.hok b o q).stay (fun c v hc r=>at_of c v r fun hb=>?_) (fun _ z=>z) fun _ _ z=>z
    have n:=I.stkFree c hb
    rcases hc with z | z
    · rw [z,q] at n;cases n
    · rw [z] at n;cases n
end
section
variable {P:Program}{w:World}{K:PySem.W.Frag}{mg:Str→Option Value}{base:Heap}{N:List Str}{qual:Str}{scope:Scope}{f:Addr}{cd:Value}{A:Around}{outer:List Env}{s:Shared}{H:Hp}{E:XK}
theorem Za6:ZgY (cxOf (CXW P w) P w K mg base N qual scope f cd A outer s H E) fun _ cls H'=>E cls none H':=by
  intro pins σ H1 s1 e cls H' s' I F r
  have J:=I.fly F
  obtain ⟨B,a0,⟨b1,b2,b3,b4⟩,st⟩:=ZlR F J.stack J.stkFree
  refine wpAny_leaves_onW I.ok.frames rfl ⟨b1,b2,b3,b4⟩ fun h' hf hu=>?_
  exact ⟨e,cls,H',rfl,Fli.out I (st h' .none hf.1 hf.2.2.2 hu) rfl,r⟩
theorem ZbG:ZlY (cxOf (CXW P w) P w K mg base N qual scope f cd A outer s H E) fun _ cls H'=>E cls none H':=by
  intro pins σ H1 s1 e cls vs h' I hx r
  refine wpAny_leaves_madeW (base:=PySem.W.hideAll s1.heap (frs (envOfC qual scope s.heap.objs.size f cd :: outer))) I.ok.frames rfl (fun b o q=>PySem.W.of_hideAll _ q)
    (PySem.W.funFrames_hide I.stack fun env he a ha=>List.mem_filterMap.mpr ⟨env,he,ha⟩) hx fun h'' t hf _ _ hu=>?_
  exact ⟨e,cls,H1,rfl,Fli.out I (Zk8 I rfl hx hf.2.2.2 hf.1 hu) rfl,r⟩
end
def FnAtX (P:Program) (w:World) (K:PySem.W.Frag) (mg:Str→Option Value) (base:Heap) (k:Nat) (x:Str) (ps:List Str) (sp:Sp):Prop :=
  ∃ f,mg x=some (.ref f)∧PySem.W.keepIn K (.ref f)=true∧(∀ vs H Q E,sp vs H Q E→vs.length=ps.length) ∧
    ∀ (A:Around) (outer:List Env) (s:Shared) (H:Hp) (us:List Value) (vs:List V) (Q:VK) (E:XK),Room k A→Env0 P w K mg base A outer s H→Vals vs us→sp vs H Q E→codeAny (model P w) A (.call (.ref f) ⟨us,[]⟩) (CR (CXW P w) outer P w H s Q E) s
section
variable {P:Program}{w:World}{K:PySem.W.Frag}{mg:Str→Option Value}{base:Heap}{j k:Nat}{x:Str}{ps:List Str}{sp sp':Sp}
theorem FnAtX.at {CX:CXT}{f:Addr}{fd:FuncData} (F:FnOk P w K mg base CX k f fd ps sp) (hm:mg x=some (.ref f)) (hk:PySem.W.keepIn K (.ref f)=true) (hb:Binds K fd ps []) (hc:∀ l H s E e s',CX l H s E e s'→CXW P w l H s E e s'):FnAtX P w K mg base k x ps sp:=by
  refine ⟨f,hm,hk,F.len,fun A outer s H us vs Q E hr e0 r q=>?_⟩
  have hl:us.length=ps.length:=by rw [← r.length];exact F.len _ _ _ _ q
  refine codeAny_mono (F.run A outer s H ⟨us,[]⟩ us vs Q E hr e0 (by simpa using hb s us (e0.mod.kin.keeps fun b o z=>(e0.bs b o z).1) (by simpa using hl)) r q) fun res s' hq=>?_
  cases res with
  | error ev=>exact hc _ _ _ _ _ _ hq
  | ok fl=>cases fl <;> exact hq
theorem FnAtX.of {st:Stmt}{N:List Str} (D:Zao K mg x st ps) (S:FnScope N ps (Zag st)) (len:∀ vs H Q E,sp vs H Q E→vs.length=ps.length)
    (hbody:∀ (f:Addr) (cdv:Value) (A:Around) (outer:List Env) (s:Shared) (H:Hp) (vs:List V) (Q:VK) (E:XK),Room k (A.deeper (envOfC x (Zag st) s.heap.objs.size f cdv))→sp vs H Q E →
      ∃ t,PSs (cxOf (CXW P w) P w K mg base N x (Zag st) f cdv A outer s H E) (Zar st) t∧t { nx:=fun _ H'=>Q .non H',rt:=Q } (Zdb N vs) H):FnAtX P w K mg base (k+1) x ps sp:=by
  obtain ⟨f,fd,F,hm,hb⟩:=D
  obtain ⟨oc,od,kV,doc,pm,an,cdv,ct,osl,rfl,lk,hcd⟩:=F.ex
  exact .at (CX:=CXW P w) (ZmQ lk hcd S len fun A outer s H vs Q E hr hsp=>hbody f cdv A outer s H vs Q E hr hsp) hm F.kp hb fun _ _ _ _ _ _ z=>z
end
def tFx (sp:Sp) (R:St→Value→Hp→Prop) (t:TA):TE:=fun σ H Q=>t σ H fun vs H1=>sp vs H1 Q fun cls _ H'=>R σ cls H'
section
variable {X:Cx}{k:Nat}{x:Str}{ps:List Str}{sp:Sp}{e:Expr}{es:List Expr}{t:TA}{p pos:Pos}{R:St→Value→Hp→Prop}
theorem Zdz (F:FnAtX X.prog X.w X.K X.mg X.base k x ps sp) (hr:Room k X.A) (hR:ZgY X R) (ha:PA X (e :: es) t) (hg:Gl X x:=by rfl) (hdb:(x == ("__debug__" : Str))=false:=by decide)
    (he:starEach (e :: es) X.env=(false,eval e X.env) :: starEach es X.env:=by rfl) (hpl:(backTo pos (starEach es X.env)).any (·.1)=false:=by rfl):PE X (.Call (.Name x p) (e :: es) [] pos) (tFx sp R t):=by
  obtain ⟨f,hm,hk,hl,run⟩:=F
  intro pins s σ H Q I h
  refine wpAny_Call_Name_kw (ZcM I hg hm ?_ hdb)
  refine PySem.W.callWith_K (h₀:=X.base) I.ok.mod.kin hk (thn (ha pos pins s σ H _ I h) fun us s1 ⟨vs,H1,I1,r,q⟩=>⟨I1.kIn,?_⟩) he hpl
  refine wpAny_call (codeAny_mono (run X.A X.stack s1 H1 us vs Q _ hr I1.env0 r q) fun res s' hq=>?_)
  cases res with
  | error ev =>
    obtain ⟨e',cls,H',rfl,Fl,rr⟩:=hq
    exact hR pins σ H1 s1 e' cls H' s' I1 Fl rr
  | ok fl =>
    cases fl with
    | ret u=>exact I1.after hq
    | next=>exact False.elim hq
    | brk=>exact False.elim hq
    | cont=>exact False.elim hq
end
end L2
set_option maxRecDepth 100000
namespace L2
open PySem PySem.Spec PySem.Calls PyProof.Rows
open Builtin Builtin.ObjectAttr Builtin.Getset_descriptor
structure ExcK (K:PySem.W.Frag) (C:Addr):Prop where
  exc:PySem.W.excIn K C [.type "ValueError", .type "Exception", .type "BaseException", .type "object"] "ValueError.__new__" = true
  ga:PySem.W.findIn K (.ref C) "__getattribute__" = some (some (.builtin "BaseException.__getattribute__"))
  gt:PySem.W.findIn K (.ref C) "__getattr__" = some none
  cl:PySem.W.findIn K (.ref C) "__class__" = some (some (.builtin "object.__class__"))
  ob:PySem.W.mroIn K C (.type "object")=some true
  bx:PySem.W.mroIn K C (.type "BaseException")=some true
theorem ZjG {K:PySem.W.Frag}{h:Heap}{C:Addr}{nid:String}{bmB:List Value} (Y:K.In h) (q:PySem.W.excIn K C bmB nid=true) :
    ∃ bm N nm qn bs hd sn sub ab col dd k0 k1 k2 k3 k5 mN,h.get? C=some (excClassObj nm qn C N bs bm hd sn sub ab col dd k0 k1 k2 k3 k5 nid)∧h.Ns N mN∧mN "__init__" = none∧OwnTail h bmB bm:=by
  unfold PySem.W.excIn at q
  split at q
  · next dd cdt slt hlk =>
    split at q
    · next C1 bm1 j0 j1 j2 j3 n1 j5 hmro hslots =>
      simp only [Bool.and_eq_true,beq_iff_eq,Bool.not_eq_true'] at q
      obtain ⟨⟨⟨⟨⟨e1,e2⟩,hdl⟩,htl⟩,hns⟩,hin⟩:=q
      subst e1 e2
      obtain ⟨nm,bs,mro,ns,qn,hd,sn,sub,ab,col,del⟩:=cdt
      dsimp only at hmro hdl hns hin
      subst hmro hdl
      obtain ⟨sll⟩:=slt
      have hz:sll=[j0,j1,j2,j3,some (.builtin n1),j5]:=hslots
      subst hz
      exact ⟨bm1,ns,nm,qn,bs,hd,sn,sub,ab,col,dd,j0,j1,j2,j3,j5,_,Y _ _ hlk,.of_isNs (PySem.W.isNs_of_in Y hns),PySem.W.nsMap_none_of_in Y hns hin,PySem.W.tail_of_in Y htl⟩
    · cases q
  · cases q
def Znc (R:St→Value→Hp→Prop) (C:Addr):TS:=fun _ σ H=>R σ (.ref C) H
theorem Zcu {X:Cx}{R:St→Value→Hp→Prop}{x:Str}{C:Addr}{e₀:Expr}{msg:Str}{np cpos pos:Pos} (hx:ZlY X R) (hk:ExcK X.K C) (ha:PE X e₀ (tC (.str msg))) (hm:X.mg x=some (.ref C)) (hg:Gl X x:=by rfl) (hc:X.calm=true:=by rfl)
    (hdb:(x == ("__debug__" : Str))=false:=by decide) (he:starEach [e₀] X.env=(false,eval e₀ X.env) :: starEach [] X.env:=by rfl) (hpl:(backTo cpos (starEach ([]:List Expr) X.env)).any (·.1)=false:=by rfl) :
    PS X (.Raise (some (.Call (.Name x np) [e₀] [] cpos)) none pos) (Znc R C):=by
  intro pins s σ H D I h
  obtain ⟨bm,N,nm,qn,bs,hd,sn,sub,ab,col,dd,k0,k1,k2,k3,k5,mN,hC,hN,hni,T⟩:=ZjG I.ok.mod.kin hk.exc
  have hpa:PA X [e₀] (ZbL (tC (.str msg)) tNil):=Zaa ha Zab he
  refine wpAny_Raise_call_subU (nm:=nm) (q:=qn) (N:=N) (bs:=bs) (hdct:=hd) (sn:=sn) (sub:=sub) (ab:=ab) (col:=col) (dd:=dd) (k0:=k0) (k1:=k1) (k2:=k2) (k3:=k3) (k5:=k5) PySem.F.excBase_ValueError (by decide) PySem.F.excBase_ValueError (T.hasType (b:=true) (by decide)) (I.ok.hd hc) (by rw [he];show (false || (backTo cpos (starEach ([]:List Expr) X.env)).any (·.1))=false;rw [hpl];rfl) hni (ZcM I hg hm ⟨rfl,?_⟩ hdb)
  have z:=hpa cpos pins s σ H (fun vs H1=>vs=[.str msg]∧H1=H) I ⟨rfl,rfl⟩
  rw [he] at z ⊢
  refine Calls.evalArgs_plain (wpAny_mono z (fun us s2 ⟨vs,H1,I2,r,hv,hH⟩=>?_) fun _ _ y=>y)
  subst hv hH
  have hl:us.length=1:=by rw [← r.length];rfl
  refine ⟨rfl,by show us.length≤_;rw [hl];decide,I2.bk _ _ hC,hN.keeps I2.bk,T.keeps I2.bk,fun h' e hx'=>?_⟩
  exact hx pins σ _ s2 e _ _ h' I2 hx' h
theorem ZjH {M:Model}{A:Around}{E:Value→Shared→Prop}{Q:Bool→Shared→Prop}{K:PySem.W.Frag}{e C D:Addr}{oe:Obj}{s:Shared} (Y:K.In s.heap) (hD:ExcK K D) (hm:PySem.W.mroIn K C (.ref D)=some true)
    (he:s.heap.get? e=some oe) (hcls:oe.cls=.ref C) (hq:Q true s):wpAny M A (excMatches (.ref e) (.ref D)) Q E s:=by
  obtain ⟨h,g,d,t,os⟩:=s
  obtain ⟨bm,N,nm,qn,bs,hd,sn,sub,ab,col,dd,k0,k1,k2,k3,k5,mN,hO,hN,hni,T⟩:=ZjG Y hD.exc
  have hcB:(Value.ref D :: bm).contains (.type "BaseException")=true:=by rw [List.contains_cons,T.hasType (b:=true) (by decide),Bool.or_true]
  have L:=PySem.W.looks_mroIn (M:=M) Y hm
  have f:=tc_notTuple
  unfold excMatches
  repeat (first | (with_reducible refine wpAny_loadPart_at he ?_;rw [hcls]) | with_reducible refine wpAny_loadPart_at hO ?_ | (with_reducible refine wpAny_isSubtype_exc hO ?_;rw [hcB]) | with_reducible refine L.at ?_ | wp_step)
  exact hq
def ZfD (e C:Addr) (h:Heap):Prop:=∃ oe vs,h.get? e=some oe∧oe.cls=.ref C∧oe.data=.fields vs
section
variable {K:PySem.W.Frag}{C e:Addr}
theorem Zc6 {h:Heap} (M:Model) (p:ZfD e C h):PySem.W.Looks M h (typeOf (.ref e)) (.ref C):=by
  obtain ⟨oe,vs,h1,h2,_⟩:=p
  exact h2 ▸ (PySem.W.Looks.ld h1).andThen .now
theorem ZjI (k:ExcK K C):∃ c' d' cd sl,K.lookup C=some ⟨c',d',.cls cd,sl⟩:=by
  obtain ⟨cd,a,_⟩:=Option.bind_eq_some_iff.mp k.ob
  unfold PySem.W.clsIn at a
  split at a
  · next z=>exact ⟨_,_,_,_,z⟩
  · cases a
theorem ZjJ {M:Model}{A:Around}{E:Value→Shared→Prop}{h:Heap}{g:Array GenState}{d:Drawn}{t:Nat}{os:OsState}{nv:Value}{Q:Unit→Shared→Prop} (k:ExcK K C) (Y:K.In h) (p:ZfD e C h) (hq:Q () ⟨h,g,d,t,os⟩) :
    wpAny M A (checkBuiltinCall "BaseException.__getattribute__" ⟨[.ref e,nv],[]⟩) Q E ⟨h,g,d,t,os⟩:=by
  have hkd:builtinKind "BaseException.__getattribute__" = some .slot:=by decide +kernel
  have hsp:splitId "BaseException.__getattribute__" = some ("BaseException","__getattribute__"):=by decide +kernel
  have L0:=Zc6 M p
  have L1:=PySem.W.looks_mroIn (M:=M) Y k.bx
  have ha:=F.args_bexc_ga (.ref e) nv
  simp only [checkBuiltinCall,hkd,hsp]
  refine wpAny_bind ?_
  unfold isInstance
  repeat (first | with_reducible refine L0.at ?_ | with_reducible refine L1.at ?_ | wp_step)
  exact hq
theorem Zid {prog:Program}{w:World}{A:Around}{h:Heap}{g:Array GenState}{d:Drawn}{t:Nat}{os:OsState}{tp:Value}{R:Result→Shared→Prop} (k:ExcK K C) (Y:K.In h) (p:ZfD e C h) (hq:R (.ok (.ret (.ref C))) ⟨h,g,d,t,os⟩) :
    codeAny (model prog w) A (.call (.builtin "getset_descriptor.__get__") ⟨[.builtin "object.__class__", .ref e,tp],[]⟩) R ⟨h,g,d,t,os⟩:=by
  have L0:=Zc6 (model prog w) p
  have L1:=PySem.W.looks_mroIn (M:=model prog w) Y k.ob
  refine codeAny_call_builtin PySem.W.KF.slot_gs.plain PySem.W.KF.entry_gs (PySem.W.KF.slot_gs.check _ _ _ _ _ _ _ _ PySem.W.KF.type_class (PySem.W.KF.args_gs _ _ _) ?_)
  unfold Builtin.«getset_descriptor.__get__» descrGet
  rw [PySem.W.dga_obj]
  refine wpAny_bind (wpAny_pure ?_)
  unfold descrGetter descrCheckInstance descrNameAndClass isInstance
  simp only [PySem.W.KF.owner_class]
  repeat lk
  refine ⟨Code.quiet_builtin _ (by decide +kernel),codeAny_builtin PySem.W.KF.entry_class ?_⟩
  unfold Builtin.«object.__class__» shownTypeOf
  repeat lk
  exact hq
theorem Zie {prog:Program}{w:World}{A:Around}{E:Value→Shared→Prop}{h:Heap}{g:Array GenState}{d:Drawn}{t:Nat}{os:OsState}{tk:Tok}{Q:Fin→Shared→Prop} (k:ExcK K C) (Y:K.In h) (p:ZfD e C h) (hq:Q (.done (.ret (.ref C))) ⟨h,g,d,t,os⟩) :
    wpAny (model prog w) A (Builtin.«object.__getattribute__» ⟨[.ref e,.str "__class__" tk],[]⟩) Q E ⟨h,g,d,t,os⟩:=by
  have L0:=Zc6 (model prog w) p
  have L1:=PySem.W.looks_findIn (M:=model prog w) Y k.cl
  have hT5:(⟨h,g,d,t,os⟩:Shared).TypeIs (.builtin "object.__class__") "getset_descriptor" := F.typeOf_object_class
  have f5:=F.typeOf_object_class
  have f6:=F.slot_gs_get.lookup
  have f7:=F.slot_gs_set.lookup
  repeat (any_goals (first | assumption | with_reducible refine L0.at ?_ | with_reducible refine L1.at ?_ | wp_step))
  refine Zid k Y p ?_
  repeat (any_goals (first | assumption | wp_step))
theorem ZgQ {prog:Program}{w:World}{A:Around}{E:Value→Shared→Prop}{Q:Option Value→Shared→Prop}{s:Shared} (k:ExcK K C) (Y:K.In s.heap) (p:ZfD e C s.heap) (hq:Q (some (.ref C)) { s with toks:=s.toks+1 }) :
    wpAny (model prog w) A (getAttr? (.ref e) "__class__") Q E s:=by
  obtain ⟨h,g,d,t,os⟩:=s
  have L0:=Zc6 (model prog w) p
  have L1:=PySem.W.looks_findIn (M:=model prog w) Y k.ga
  have L2:=PySem.W.looks_findIn (M:=model prog w) Y k.gt
  have f3:=F.attr_ValueError.ga.bind (.ref e)
  unfold getAttr? getAttrBy? getAttrBy
  refine wpAny_bind (wpAny_mkText (wpAny_bind (wpAny_attempt (wpAny_holding (wpAny_bind (L0.at (wpAny_bind (L1.at ?_))))))))
  show wpAny _ _ (getAttrByItsOwn (.ref e) _ (.ref C) (.builtin "BaseException.__getattribute__") false false) _ _ _
  unfold getAttrByItsOwn
  refine wpAny_bind (m:=hookBefore (.ref C)) (L2.at ?_)
  refine wpAny_bind (wpAny_attempt (wpAny_holding ?_))
  show wpAny _ _ (boundAndCalled (.builtin "BaseException.__getattribute__") (.ref e) _) _ _ _
  unfold boundAndCalled
  refine wpAny_bind (wpAny_of_eq f3 ?_)
  refine wpAny_call (codeAny_call_builtin F.attr_ValueError.ga.plain F.entry_bexc_ga (ZjJ k Y p (Zie k Y p ?_)))
  show wpAny _ _ (handedOut (.ref C)) _ _ _
  exact wpAny_pure (wpAny_pure hq)
theorem Zht (k:ExcK K C):PySem.W.KitX K (.ref e) (.ref C) (ZfD e C) where
  ty:=fun M _ _ p=>Zc6 M p
  it:=fun _ _ Y _=>by
    obtain ⟨_,_,_,_,z⟩:=ZjI k
    intro A' Q' E' s' kk q
    unfold isType loadHead
    exact wpAny_bind (wpAny_loadPart (kk _ _ (Y _ _ z)) (wpAny_pure q))
  ne:=fun h tp dd its n sl Y htp=>by
    obtain ⟨_,_,_,_,z⟩:=ZjI k
    refine Bool.eq_false_iff.mpr fun q=>?_
    have e':C=tp:=Value.ref.inj (beq_iff_eq.mp q)
    subst e'
    cases (Y _ _ z).symm.trans htp
  ca:=fun Y p kk=>ZgQ k Y p kk
end
end L2
set_option maxRecDepth 100000
namespace L2
open PySem PySem.Spec PySem.Calls PyProof.Rows
def excO (e C:Addr):HO:=.ext (ZfD e C)
theorem ZmR {P:Program}{w:World}{H:Hp}{h:Heap}{e C:Addr} (p:ZfD e C h):ObjOk P w H h e (excO e C) :=
  ⟨p,let ⟨oe,_,h1,_⟩:=p;⟨oe,h1⟩,fun _ _ ⟨oe,vs,h1,h2,h3⟩ kk=>⟨oe,vs,kk _ h1,h2,h3⟩⟩
theorem ZjK {X:Cx}{pins:List (Addr × Obj)}{σ:St}{H:Hp}{s:Shared}{e C:Addr} (I:Inv X pins σ H s) (q:H e=some (excO e C)):ZfD e C s.heap:=(I.hok e _ q).1
abbrev Cx.tryC (X:Cx) (pn:List (Addr × Obj)) (W:Value→Shared→Prop):Cx:={ X with pn:=X.pn ++ pn,xe:=W }
abbrev Cx.hand (X:Cx) (v:Value):Cx:={ X with A:=X.A.mark (some v),calm:=false,xe:=fun _ _=>False }
section
variable {X:Cx}{pins pn:List (Addr × Obj)}{W:Value→Shared→Prop}{σ:St}{H:Hp}{s:Shared}{v:Value}
theorem Cx.Ok.tryC (ok:X.Ok) (pn:List (Addr × Obj)) (W:Value→Shared→Prop):(X.tryC pn W).Ok :=
  ⟨ok.mod,ok.kind,ok.glob,ok.blt,ok.above,ok.inj,ok.has,ok.cab,ok.hd,ok.frames,ok.stk,ok.exf,ok.bs,ok.bsz,ok.noex,ok.exfs,ok.funs,ok.frf⟩
theorem Cx.Ok.unTry (ok:(X.tryC pn W).Ok):X.Ok :=
  ⟨ok.mod,ok.kind,ok.glob,ok.blt,ok.above,ok.inj,ok.has,ok.cab,ok.hd,ok.frames,ok.stk,ok.exf,ok.bs,ok.bsz,ok.noex,ok.exfs,ok.funs,ok.frf⟩
theorem Cx.Ok.hand (ok:X.Ok) (v:Value):(X.hand v).Ok :=
  ⟨ok.mod,ok.kind,ok.glob,ok.blt,ok.above,ok.inj,ok.has,ok.cab,(fun z=>nomatch z),ok.frames,ok.stk,ok.exf,ok.bs,ok.bsz,ok.noex,ok.exfs,ok.funs,ok.frf⟩
theorem Inv.tryIn (I:Inv X pins σ H s) (W:Value→Shared→Prop):Inv (X.tryC pins W) [] σ H s :=
  ⟨I.ok.tryC pins W,I.os,I.bare,I.base,I.loc,I.cell,I.free,I.freeC,fun p hp=>I.pin p (by simpa using hp),I.hok,I.len⟩
theorem Inv.tryOut (I:Inv (X.tryC pn W) pins σ H s):Inv X pn σ H s :=
  ⟨I.ok.unTry,I.os,I.bare,I.base,I.loc,I.cell,I.free,I.freeC,fun p hp=>I.pin p (List.mem_append_left _ hp),I.hok,I.len⟩
theorem Inv.hand (I:Inv X pins σ H s) (v:Value):Inv (X.hand v) pins σ H s :=
  ⟨I.ok.hand v,I.os,I.bare,I.base,I.loc,I.cell,I.free,I.freeC,I.pin,I.hok,I.len⟩
theorem Inv.unhand (I:Inv (X.hand v) pins σ H s) (ok:X.Ok):Inv X pins σ H s :=
  ⟨ok,I.os,I.bare,I.base,I.loc,I.cell,I.free,I.freeC,I.pin,I.hok,I.len⟩
theorem SP.tryOut {D:Ends}{f:Flow}{s':Shared} (h:SP (X.tryC pn W) pins D f s'):SP X pn D f s':=by
  cases f with
  | next=>obtain ⟨σ',H',I,q⟩:=h;exact ⟨σ',H',I.tryOut,q⟩
  | brk=>obtain ⟨σ',H',I,q⟩:=h;exact ⟨σ',H',I.tryOut,q⟩
  | cont=>obtain ⟨σ',H',I,q⟩:=h;exact ⟨σ',H',I.tryOut,q⟩
  | ret u=>obtain ⟨v,σ',H',I,r,q⟩:=h;exact ⟨v,σ',H',I.tryOut,r,q⟩
theorem Inv.gone {i:Nat}{n:Str}{h':Heap}{t':Nat}{v':Option Value}{m:Str→Option Value} (I:Inv X pins σ H s) (hN:X.N.Nodup) (hi:X.N[i]? = some n)
    (hm:∀ (j:Nat) (x:Str) (v:V),X.N[j]? = some x→σ[j]? = some (some v)→Vis X.env.scope x→∃ u,RelV v u∧Look X.env s.heap m x u)
    (hn':h'.Ns X.env.locals (fun x=>if x=n then v' else m x)) (hs:Heap.SameBut X.env.locals s.heap h'):Inv X pins (σ.set i none) H { s with heap:=h',toks:=t' }:=by
  obtain ⟨mm,⟨oL,_,_,hoL,_⟩,_⟩:=id I.loc
  have cne:=I.cne
  refine ⟨I.ok,I.os,I.bare,⟨fun b o e n hb hx=>?_,fun b o e n hb hx=>?_,I.base.free,fun b o e hx=>?_,I.base.tups,I.base.frzs,I.base.tbls⟩,⟨_,hn',fun j y w e1 e2 e3=>?_⟩,fun y c e=>?_,I.free,I.freeC,fun p hp=>?_,fun b ob e=>?_,by simpa using I.len⟩
  · exact (hs.2 b (Nat.ne_of_lt (Nat.lt_of_lt_of_le (Heap.lt_size e) I.ok.above))).trans (I.base.keep b o e n hb hx)
  · obtain ⟨sl,e1⟩:=I.base.slot b o e n hb hx
    exact ⟨sl,(hs.2 b (Nat.ne_of_lt (Nat.lt_of_lt_of_le (Heap.lt_size e) I.ok.above))).trans e1⟩
  · obtain ⟨o',e1⟩:=I.base.there b o e hx
    exact ⟨o',(hs.2 b (Nat.ne_of_lt (Nat.lt_of_lt_of_le (Heap.lt_size e) I.ok.above))).trans e1⟩
  · have hji:j≠i:=by
      rintro rfl
      rw [List.getElem?_set] at e2
      split at e2
      · split at e2 <;> cases e2
      · next z=>exact z rfl
    rw [List.getElem?_set_ne (Ne.symm hji)] at e2
    obtain ⟨u,r,q⟩:=hm j y w e1 e2 e3
    refine ⟨u,r,?_⟩
    rcases q with ⟨kk,q⟩ | ⟨kk,c,q,z⟩
    · refine .inl ⟨kk,?_⟩
      have:y≠n:=fun z=>hji (Zfd hN e1 (z ▸ hi))
      simp [this,q]
    · exact .inr ⟨kk,c,q,z.sameBut hs (cne y c q)⟩
  · obtain ⟨w,z⟩:=I.cell y c e
    exact ⟨w,z.sameBut hs (cne y c e)⟩
  · obtain ⟨e,n,ne,nf,d⟩:=I.pin p hp
    exact ⟨(hs.2 p.1 ne).trans e,n,ne,nf,d⟩
  · refine (I.hok b ob e).stay (fun c w' hc q=>(hs.2 c ?_).trans q) (fun _ q=>q) fun _ _ q=>q
    rintro rfl
    rcases hc with z | hc
    · rw [← z,I.free] at e;cases e
    · rw [I.free] at hc;cases hc
theorem Inv.catch {H':Hp}{s':Shared}{e C:Addr} (I:Inv X pins σ H s) (F:Fli X.prog X.w X.stack H s e (.ref C) .none H' s'):Inv X pins σ (upd H' e (excO e C)) s':=by
  obtain ⟨a0,oe,vs,T,oT,ts,h1,h2,h3,h4,h5,h6,h7,h8,⟨h9,h10⟩,h11,h12⟩:=F.tr
  refine I.call' (ch:=[]) F.os ⟨F.un.keep,F.un.slot,fun b o q n hx=>?_,F.un.there,fun b xs q=>?_,fun b o u q=>?_,fun b ps q=>?_⟩ (fun b o q=>?_) F.bare fun b z=>absurd z (by simp)
  · rw [Zal (fun z=>by rw [z,h11] at q;cases q)]
    exact F.un.free b o q n hx
  · have z:=F.un.tups b xs q
    rw [Zal (Zak z h9)];exact z
  · have z:=F.un.frzs b o u q
    rw [Zal (Zak z h9)];exact z
  · obtain ⟨m,z⟩:=F.un.tbls b ps q
    exact ⟨m,by rw [Zal (Zak z h9)];exact z⟩
  · by_cases hb:b=e
    · subst hb
      rw [Zad] at q;cases q
      exact ZmR ⟨oe,vs,h1,h2.1,h3⟩
    · rw [Zal hb] at q
      exact (F.hok b o q).stay (fun _ _ _ r=>r) (fun c r=>by rw [Zal (Zak r h9)];exact r) fun c xs r=>by rw [Zal (Zak r h9)];exact r
end
def Ends.gone (D:Ends) (i:Nat):Ends:={ nx:=fun σ H=>D.nx (σ.set i none) H,rt:=D.rt,bk:=fun σ H=>D.bk (σ.set i none) H,ct:=fun σ H=>D.ct (σ.set i none) H }
def RTry (K:PySem.W.Frag) (Dc:Addr) (i:Nat) (th:TS) (D:Ends):St→Value→Hp→Prop:=fun σ cls H'=>∃ C,cls=.ref C∧ExcK K C∧PySem.W.mroIn K C (.ref Dc)=some true ∧
  ∀ e,H' e=none→th (D.gone i) (σ.set i (some (.ref e))) (upd H' e (excO e C))
def tTry (K:PySem.W.Frag) (Dc:Addr) (i:Nat) (tb:(St→Value→Hp→Prop)→TS) (th:TS):TS:=fun D σ H=>tb (RTry K Dc i th D) D σ H
section
variable {X:Cx}
theorem ZlB {body hs:List Stmt}{b₀:Stmt}{cn n:Str}{np hpos pos:Pos}{Dc:Addr}{i:Nat}{tb:(St→Value→Hp→Prop)→TS}{th:TS} (hst:X.stack=X.env :: X.outer) (hfr:X.env.frame=some X.env.locals) (hN:X.N.Nodup) (hD:ExcK X.K Dc) (hm:X.mg cn=some (.ref Dc))
    (hb:∀ (pn:List (Addr × Obj)) (W:Value→Shared→Prop) (R:St→Value→Hp→Prop),ZgY (X.tryC pn W) R→PSs (X.tryC pn W) body (tb R)) (hh:∀ v,PSs (X.hand v) (b₀ :: hs) th)
    (hi:X.N[i]? = some n:=by rfl) (hl:X.env.kindOf n=some .local:=by rfl) (hg:Gl X cn:=by rfl) (hdb:(cn == ("__debug__" : Str))=false:=by decide) :
    PS X (.Try body [.ExceptHandler (some (.Name cn np)) (some n) (b₀ :: hs) hpos] [] [] pos) (tTry X.K Dc i tb th):=by
  intro pins s σ H D I h
  refine wpAny_Try_except ?_
  have key:ZgY (X.tryC pins fun e s₁=>wpAny (model X.prog X.w) X.A (noteFrame e X.env) (fun _ s₂=>wpAny (model X.prog X.w) X.A (setFlight e none) (fun _ s₃=>wpAny (model X.prog X.w) X.A (handleBy e X.env [.ExceptHandler (some (.Name cn np)) (some n) (b₀ :: hs) hpos]) (SP X pins D) X.xe s₃) X.xe s₂) X.xe s₁)
      (RTry X.K Dc i th D):=by
    rintro pins' σ' H1 s1 e cls H' s' I0 F ⟨C,rfl,kC,hmC,hth⟩
    have I1:Inv X pins σ' H1 s1:=I0.tryOut
    have F:Fli X.prog X.w X.stack H1 s1 e (.ref C) .none H' s':=F
    have J:=I1.fly F
    obtain ⟨B,a0,fl,st⟩:=ZlR F J.stack J.stkFree
    have frm:X.A.frames=some (X.env :: X.outer):=by rw [← hst];exact I1.ok.frames
    rw [hst] at fl
    refine wpAny_looks_onW frm hfr fl fun h4 g4 u4=>?_
    refine wpAny_landsW g4 fun h5 g5 u5=>?_
    have F5:=st h5 .none g5.1 g5.2.2.2 (u4.trans u5)
    have J5:=I1.fly F5
    obtain ⟨_,oe,_,_,_,_,he,⟨hc,_⟩,_⟩:=F5.tr
    refine wpAny_handleBy_cons (codeAny_handlers_test (ZcM (X:=X.hand (.ref e)) (J5.hand (.ref e)) hg hm ?_ hdb)) (by intro q;cases q)
    refine ZjH J5.kIn hD hmC he hc ?_
    refine codeAny_handlers_suite_as ?_
    refine lands_againW g5 fun h6 g6 u6=>?_
    have F6:=st h6 .none g6.1 g6.2.2.2 ((u4.trans u5).trans u6)
    obtain ⟨_,_,_,_,_,_,_,_,_,_,_,_,_,_,⟨he0,_⟩,_,_⟩:=F6.tr
    have J6:=(I1.catch F6).hand (.ref e)
    refine Ze0 (X:=X.hand (.ref e)) (v:=.ref e) J6 hN hi (.inl hl) rfl (fun s7 J7=>?_) (.inr hl)
    refine wpAny_mono (hh (.ref e) pins s7 _ _ (D.gone i) J7 (hth e he0)) (fun f s8 q8=>?_) fun _ _ z=>False.elim z
    have hp:(X.env.scope.kind == .class || (X.env.scope.kind == .module && X.env.locals != X.env.globals))=false:=by rw [I.ok.kind];rfl
    show wpAny (model X.prog X.w) X.A (do bindName X.env n .none;unbindBehindTheSuite X.env n hpos) (fun _ s₃=>SP X pins D f s₃) X.xe s8
    cases f with
    | next =>
      obtain ⟨σ8,H8,I8,q⟩:=q8
      have I9:=I8.unhand I.ok
      obtain ⟨m,hn,hml⟩:=id I9.loc
      exact wpAny_nameGoes_keeps hl hn hp fun h' v' hn' hs'=>⟨_,H8,I9.gone hN hi hml hn' hs',q⟩
    | brk =>
      obtain ⟨σ8,H8,I8,q⟩:=q8
      have I9:=I8.unhand I.ok
      obtain ⟨m,hn,hml⟩:=id I9.loc
      exact wpAny_nameGoes_keeps hl hn hp fun h' v' hn' hs'=>⟨_,H8,I9.gone hN hi hml hn' hs',q⟩
    | cont =>
      obtain ⟨σ8,H8,I8,q⟩:=q8
      have I9:=I8.unhand I.ok
      obtain ⟨m,hn,hml⟩:=id I9.loc
      exact wpAny_nameGoes_keeps hl hn hp fun h' v' hn' hs'=>⟨_,H8,I9.gone hN hi hml hn' hs',q⟩
    | ret u =>
      obtain ⟨v,σ8,H8,I8,r,q⟩:=q8
      have I9:=I8.unhand I.ok
      obtain ⟨m,hn,hml⟩:=id I9.loc
      exact wpAny_nameGoes_keeps hl hn hp fun h' v' hn' hs'=>⟨v,_,H8,I9.gone hN hi hml hn' hs',r,q⟩
  refine wpAny_mono (hb pins _ _ key [] s σ H D (I.tryIn _) h) (fun f s1 q=>?_) fun _ _ z=>z
  have q:=SP.tryOut q
  cases f with
  | next=>exact wpAny_execs_nil q
  | brk=>exact q
  | cont=>exact q
  | ret u=>exact q
end
end L2
set_option Elab.async false
set_option linter.all false
set_option maxRecDepth 100000
set_option maxHeartbeats 4000000
namespace L2
open PySem PySem.Spec PyProof.Rows
def ZaV (K:PySem.W.Frag) (C:Addr) (m qual:Str) (st:Stmt) (ps:List Str):Prop:=∃ f fd,Fun K m qual st f fd∧Meth K C m f∧Binds K fd ps []
def MtAt (P:Program) (w:World) (K:PySem.W.Frag) (mg:Str→Option Value) (base:Heap) (k:Nat) (C:Addr) (m:Str) (ps:List Str) (sp:Sp):Prop :=
  ∃ f fd,FnOk P w K mg base CX0 k f fd ps sp∧Meth K C m f∧Binds K fd ps []
def MtAtX (P:Program) (w:World) (K:PySem.W.Frag) (mg:Str→Option Value) (base:Heap) (k:Nat) (C:Addr) (m:Str) (ps:List Str) (sp:Sp):Prop :=
  ∃ f,Meth K C m f∧(∀ vs H Q E,sp vs H Q E→vs.length=ps.length) ∧
    ∀ (A:Around) (outer:List Env) (s:Shared) (H:Hp) (us:List Value) (vs:List V) (Q:VK) (E:XK),Room k A→Env0 P w K mg base A outer s H→Vals vs us→sp vs H Q E→codeAny (model P w) A (.call (.ref f) ⟨us,[]⟩) (CR (CXW P w) outer P w H s Q E) s
section
variable {P:Program}{w:World}{K:PySem.W.Frag}{mg:Str→Option Value}{base:Heap}{j k:Nat}{C:Addr}{m qual:Str}{ps:List Str}{sp sp':Sp}
theorem MtAt.of {st:Stmt}{N:List Str} (D:ZaV K C m qual st ps) (S:FnScope N ps (Zag st)) (len:∀ vs H Q E,sp vs H Q E→vs.length=ps.length)
    (hbody:∀ (f:Addr) (cdv:Value) (A:Around) (outer:List Env) (s:Shared) (H:Hp) (vs:List V) (Q:VK) (E:XK),Room k (A.deeper (envOfC qual (Zag st) s.heap.objs.size f cdv))→sp vs H Q E →
      ∃ t,PSs (cxOf CX0 P w K mg base N qual (Zag st) f cdv A outer s H E).nox (Zar st) t∧t { nx:=fun _ H'=>Q .non H',rt:=Q } (Zdb N vs) H):MtAt P w K mg base (k+1) C m ps sp:=by
  obtain ⟨f,fd,F,hm,hb⟩:=D
  exact ⟨f,fd,F.ok S len fun cdv A outer s H vs Q E hr h=>hbody f cdv A outer s H vs Q E hr h,hm,hb⟩
theorem MtAtX.or (F:MtAtX P w K mg base k C m ps sp) (G:MtAtX P w K mg base k C m ps sp'):MtAtX P w K mg base k C m ps (fun vs H Q E=>sp vs H Q E∨sp' vs H Q E):=by
  obtain ⟨f,a,c,d⟩:=F
  obtain ⟨f',a',c',d'⟩:=G
  have e:=a.at_.symm.trans a'.at_
  injection e with e
  injection e with e
  injection e with e
  subst e
  exact ⟨f,a,fun vs H Q E q=>q.elim (c vs H Q E) (c' vs H Q E),fun A outer s H us vs Q E hr e0 r q=>q.elim (d A outer s H us vs Q E hr e0 r) (d' A outer s H us vs Q E hr e0 r)⟩
theorem MtAtX.at {CX:CXT}{f:Addr}{fd:FuncData} (F:FnOk P w K mg base CX k f fd ps sp) (hm:Meth K C m f) (hb:Binds K fd ps []) (hc:∀ l H s E e s',CX l H s E e s'→CXW P w l H s E e s'):MtAtX P w K mg base k C m ps sp:=by
  refine ⟨f,hm,F.len,fun A outer s H us vs Q E hr e0 r q=>?_⟩
  have hl:us.length=ps.length:=by rw [← r.length];exact F.len _ _ _ _ q
  refine codeAny_mono (F.run A outer s H ⟨us,[]⟩ us vs Q E hr e0 (by simpa using hb s us (e0.mod.kin.keeps fun b o z=>(e0.bs b o z).1) (by simpa using hl)) r q) fun res s' hq=>?_
  cases res with
  | error ev=>exact hc _ _ _ _ _ _ hq
  | ok fl=>cases fl <;> exact hq
theorem MtAt.toX (F:MtAt P w K mg base k C m ps sp):MtAtX P w K mg base k C m ps sp :=
  let ⟨_,_,a,b,d⟩:=F
  .at a b d fun _ _ _ _ _ _ z=>z.elim
theorem MtAtX.of {st:Stmt}{N:List Str} (D:ZaV K C m qual st ps) (S:FnScope N ps (Zag st)) (len:∀ vs H Q E,sp vs H Q E→vs.length=ps.length)
    (hbody:∀ (f:Addr) (cdv:Value) (A:Around) (outer:List Env) (s:Shared) (H:Hp) (vs:List V) (Q:VK) (E:XK),Room k (A.deeper (envOfC qual (Zag st) s.heap.objs.size f cdv))→sp vs H Q E →
      ∃ t,PSs (cxOf (CXW P w) P w K mg base N qual (Zag st) f cdv A outer s H E) (Zar st) t∧t { nx:=fun _ H'=>Q .non H',rt:=Q } (Zdb N vs) H):MtAtX P w K mg base (k+1) C m ps sp:=by
  obtain ⟨f,fd,F,hm,hb⟩:=D
  obtain ⟨oc,od,kV,doc,pm,an,cdv,ct,osl,rfl,lk,hcd⟩:=F.ex
  exact .at (CX:=CXW P w) (ZmQ lk hcd S len fun A outer s H vs Q E hr hsp=>hbody f cdv A outer s H vs Q E hr hsp) hm hb fun _ _ _ _ _ _ z=>z
end
def tM (C:Addr) (m:Str) (sp:Sp) (ta:TE) (t:TA):TE:=fun σ H Q=>ta σ H fun x H1=>∃ (a dx:Addr) (fs:List (Str × V)),x=.ref a∧H1 a=some (.ins C dx fs)∧fs.lookup m=none∧t σ H1 fun vs H2=>sp (x :: vs) H2 Q E0
def tMx (C:Addr) (m:Str) (sp:Sp) (R:St→Value→Hp→Prop) (ta:TE) (t:TA):TE:=fun σ H Q=>ta σ H fun x H1=>∃ (a dx:Addr) (fs:List (Str × V)),x=.ref a∧H1 a=some (.ins C dx fs)∧fs.lookup m=none∧t σ H1 fun vs H2=>sp (x :: vs) H2 Q fun cls _ H'=>R σ cls H'
section
variable {X:Cx}{k:Nat}{C:Addr}{m:Str}{ps:List Str}{sp:Sp}{e o:Expr}{es:List Expr}{ta:TE}{t:TA}{apos pos:Pos}{R:St→Value→Hp→Prop}
theorem pe_m {pl:Sem Bool} (F:MtAt X.prog X.w X.K X.mg X.base k C m ps sp) (c:Cls X.K C) (hr:Room k X.A) (he:PE X o ta) (ha:PA X (e :: es) t)
    (hst:starEach (e :: es) X.env=(false,eval e X.env) :: starEach es X.env:=by rfl) (hpl:(backTo pos (starEach es X.env)).any (·.1)=false:=by rfl)
    (ht:eval (.Call (.Attribute o m apos) (e :: es) [] pos) X.env=(do
      let ov ← eval o X.env
      standAt apos.atName
      let (f,first) ← holding [ov] (getMethod ov m pl)
      callWith pos f first (backTo pos (starEach (e :: es) X.env)) (backToKw pos (keywordEach [] X.env))):=by rfl) :
    PE X (.Call (.Attribute o m apos) (e :: es) [] pos) (tM C m sp ta t):=by
  obtain ⟨f,fd,F,hm,hb⟩:=F
  have q:=Zmk (pl:=pl) (apos:=apos) (pos:=pos) he c hm F hr hb .nil (ZkJ (X:=X)) ha hst hpl ht
  intro pins s σ H Q I h
  refine q pins s σ H Q I ?_
  unfold Zkp
  simp only [List.append_nil]
  exact h
theorem ZiU {pl:Sem Bool} (F:MtAt X.prog X.w X.K X.mg X.base k C m ps sp) (c:Cls X.K C) (hr:Room k X.A) (he:PE X o ta)
    (ht:eval (.Call (.Attribute o m apos) [] [] pos) X.env=(do
      let ov ← eval o X.env
      standAt apos.atName
      let (f,first) ← holding [ov] (getMethod ov m pl)
      callWith pos f first (backTo pos (starEach [] X.env)) (backToKw pos (keywordEach [] X.env))):=by rfl) :
    PE X (.Call (.Attribute o m apos) [] [] pos) (tM C m sp ta tNil):=by
  obtain ⟨f,fd,F,hm,hb⟩:=F
  have q:=ZkF (pl:=pl) (apos:=apos) (pos:=pos) he c hm F hr hb .nil (ZkJ (X:=X)) ht
  intro pins s σ H Q I h
  refine q pins s σ H Q I ?_
  unfold Zkp
  simp only [List.append_nil]
  exact h
theorem ZkE {pl:Sem Bool} (F:MtAtX X.prog X.w X.K X.mg X.base k C m ps sp) (c:Cls X.K C) (hr:Room k X.A) (hR:ZgY X R) (he:PE X o ta) (ha:PA X (e :: es) t)
    (hst:starEach (e :: es) X.env=(false,eval e X.env) :: starEach es X.env:=by rfl) (hpl:(backTo pos (starEach es X.env)).any (·.1)=false:=by rfl)
    (ht:eval (.Call (.Attribute o m apos) (e :: es) [] pos) X.env=(do
      let ov ← eval o X.env
      standAt apos.atName
      let (f,first) ← holding [ov] (getMethod ov m pl)
      callWith pos f first (backTo pos (starEach (e :: es) X.env)) (backToKw pos (keywordEach [] X.env))):=by rfl) :
    PE X (.Call (.Attribute o m apos) (e :: es) [] pos) (tMx C m sp R ta t):=by
  obtain ⟨f,hm,hl,run⟩:=F
  intro pins s σ H Q I h
  refine PySem.W.methodCall_KW (pl:=pl) (thn (he pins s σ H _ I h) fun u s1 ⟨x,H1,I1,rx,a,dx,fs,ex,ea,l,q⟩=>?_) ht
  subst ex
  obtain rfl:u=Value.ref a:=rx
  refine Zcz I1 ea c hm l ?_
  refine PySem.W.callWith_K (first:=[.ref a]) (h₀:=X.base) I.ok.mod.kin hm.kp (thn (ha pos pins s1 σ H1 _ I1 q) fun us s2 ⟨vs,H2,I2,r,q2⟩=>⟨I2.kIn,?_⟩) hst hpl
  refine wpAny_call (codeAny_mono (run X.A X.stack s2 H2 (.ref a :: us) (.ref a :: vs) Q _ hr I2.env0 (.cons rfl r) q2) fun res s' hq=>?_)
  cases res with
  | error ev =>
    obtain ⟨e',cls,H',rfl,Fl,rr⟩:=hq
    exact hR pins σ H2 s2 e' cls H' s' I2 Fl rr
  | ok fl =>
    cases fl with
    | ret u=>exact I2.after hq
    | next=>exact False.elim hq
    | brk=>exact False.elim hq
    | cont=>exact False.elim hq
theorem Znp {pl:Sem Bool} (F:MtAtX X.prog X.w X.K X.mg X.base k C m ps sp) (c:Cls X.K C) (hr:Room k X.A) (hR:ZgY X R) (he:PE X o ta)
    (ht:eval (.Call (.Attribute o m apos) [] [] pos) X.env=(do
      let ov ← eval o X.env
      standAt apos.atName
      let (f,first) ← holding [ov] (getMethod ov m pl)
      callWith pos f first (backTo pos (starEach [] X.env)) (backToKw pos (keywordEach [] X.env))):=by rfl) :
    PE X (.Call (.Attribute o m apos) [] [] pos) (tMx C m sp R ta tNil):=by
  obtain ⟨f,hm,hl,run⟩:=F
  intro pins s σ H Q I h
  refine PySem.W.methodCall_KW (pl:=pl) (thn (he pins s σ H _ I h) fun u s1 ⟨x,H1,I1,rx,a,dx,fs,ex,ea,l,q⟩=>?_) ht
  subst ex
  obtain rfl:u=Value.ref a:=rx
  refine Zcz I1 ea c hm l ?_
  refine PySem.W.callWith_K0 (first:=[.ref a]) I1.kIn hm.kp ?_
  refine wpAny_call (codeAny_mono (run X.A X.stack s1 H1 [.ref a] [.ref a] Q _ hr I1.env0 (.cons rfl .nil) q) fun res s' hq=>?_)
  cases res with
  | error ev =>
    obtain ⟨e',cls,H',rfl,Fl,rr⟩:=hq
    exact hR pins σ H1 s1 e' cls H' s' I1 Fl rr
  | ok fl =>
    cases fl with
    | ret u=>exact I1.after hq
    | next=>exact False.elim hq
    | brk=>exact False.elim hq
    | cont=>exact False.elim hq
end
end L2
set_option Elab.async false
set_option linter.all false
set_option maxRecDepth 100000
set_option maxHeartbeats 4000000
namespace L2
open PySem PySem.Spec PyProof.Rows
theorem ZjE {prog:Program}{w:World}{A:Around}{E:Value→Shared→Prop}{s:Shared}{id:String}{b:Builtin}{args:List Value}{kw:List (Str × Value)}{Q:Value→Shared→Prop} (hk:builtinKind id=none) (hp:plainId id=true)
    (hb:entryFor table id=some b) (ha:argsOk id ⟨args,kw⟩)
    (hc:wpAny (model prog w) A.in1 (b ⟨args,kw⟩) (fun fin s'=>match fin with
      | .done f=>(match (Except.ok f:Result) with | .ok (.ret v)=>Q v s' | .ok _=>False | .error e=>E e s')
      | .again c'=>c'.quiet=true∧codeAny (model prog w) A c' (fun r s'=>match r with | .ok (.ret v)=>Q v s' | .ok _=>False | .error e=>E e s') s') E s) :
    wpAny (model prog w) A (call (.builtin id) args kw) Q E s:=by
  refine wpAny_call (codeAny_call_builtin hp hb ?_)
  simp only [checkBuiltinCall,hk]
  cases hsig:Manifest.signature? id with
  | none=>exact wpAny_pure hc
  | some sig =>
    have ha':Bind.checkArgs id sig ⟨args,kw⟩=pure ():=by simpa only [argsOk,hsig] using ha
    simp only [ha']
    exact wpAny_pure hc
theorem Zkd (a v:Value):argsOk "max" ⟨[a],[("default",v)]⟩:=by unfold argsOk;kernel_rfl
def oldS (o:Option Value):Array Value:=match o with | none=>#[] | some v=>#[v,v]
section
variable {prog:Program}{w:World}{A:Around}{R:Result→Shared→Prop}{I:Addr}{fp wr:List Addr}{n:Nat}{P:Nat→Value→Prop}{St:Nat→Heap→Prop}
theorem Zjm (W:Walks prog w A.in1 I fp wr n P St) (bt:Nat→Nat→Bool) (hcmp:CmpOf prog w A.in1 .Gt P bt) (S:Addr) (hSf:S∉fp) (d:Value) :
    ∀ (k j:Nat) (s:Shared) (o:Option Value) (c:Nat),n - j=k→j≤n→St j s.heap→(o=none→j=0)→(∀ v,o=some v→0<j∧P (argBest bt (j - 1)) v) →
    s.heap.get? S=some { cls:=.type "list",dict:=none,data:=.seq (oldS o) c,slots:=#[] } →
    (∀ v h' tk,(n=0→v=d)→(0<n→P (argBest bt (n - 1)) v)→(∀ b o,b∉wr→b≠S→s.heap.get? b=some o→h'.get? b=some o)→R (.ok (.ret v)) { s with heap:=h',toks:=tk }) →
    codeAny (model prog w) A (.builtin "max.loop" ⟨[.ref I,.none,.ref S],[("default",d)]⟩) R s:=by
  have hSw:S∉wr:=fun h=>hSf (W.sub _ h)
  have hname:(toString "max" ++ toString ".loop" : String) = "max.loop" := by decide
  intro k
  induction k with
  | zero =>
    intro j s o c hk hj hst h0 h1 hS hR
    have hin:j=n:=by omega
    refine codeAny_builtin F.entry_max_loop ?_
    rw [Around.under_plainId F.plain_max_loop _]
    show wpAny _ A.in1 (seqItems? (.ref S) >>= _) _ _ s
    refine wpAny_bind (wpAny_seqItems hS rfl ?_)
    show wpAny _ A.in1 (tryCatch (pyNext (.ref I)) _ >>= _) _ _ s
    refine wpAny_bind (wpAny_tryCatch (W.done s _ _ (hin ▸ hst) fun h' tk hk'=>?_))
    have hS':=hk' S _ hSw hS
    cases o with
    | none =>
      refine wpAny_bind (wpAny_rule (wpAny_pure ?_))
      exact hR d _ tk (fun _=>rfl) (fun z=>absurd (h0 rfl) (by omega)) fun b o hbw hbS e=>hk' b o hbw e
    | some vb =>
      obtain ⟨p1,p2⟩:=h1 vb rfl
      show wpAny _ A.in1 (updateSeq S (fun _=>#[]) >>= _) _ _ _
      refine wpAny_bind ?_
      refine wpAny_updateSeq hS' rfl (hz:=(by show 2≤sizeLine;decide)) (wpAny_bind (wpAny_letGo (wpAny_pure ?_)))
      exact hR vb _ tk (fun z=>absurd z (by omega)) (fun _=>by rw [← hin];exact p2) fun b o hbw hbS e=>(Heap.get?_update_other _ _ (Ne.symm hbS)).trans (hk' b o hbw e)
  | succ k ih =>
    intro j s o c hk hj hst h0 h1 hS hR
    have hlt:j<n:=by omega
    refine codeAny_builtin F.entry_max_loop ?_
    rw [Around.under_plainId F.plain_max_loop _]
    show wpAny _ A.in1 (seqItems? (.ref S) >>= _) _ _ s
    refine wpAny_bind (wpAny_seqItems hS rfl ?_)
    show wpAny _ A.in1 (tryCatch (pyNext (.ref I)) _ >>= _) _ _ s
    refine wpAny_bind (wpAny_tryCatch (W.item j s _ _ hlt hst fun v h' tk hP hst' hk'=>?_))
    have hS':=hk' S _ hSw hS
    cases o with
    | none =>
      have hj0:=h0 rfl
      subst hj0
      show wpAny _ A.in1 (updateSeq S (fun _=>#[v,v]) >>= _) _ _ _
      refine wpAny_bind ?_
      refine wpAny_updateSeq hS' rfl ?_
      rw [hname]
      refine wpAny_pure ⟨plainId_quiet F.plain_max_loop _,ih 1 _ (some v) _ (by omega) hlt (W.frame _ _ _ hst' fun b hbf o e=>?_) (fun z=>nomatch z) (fun v' z=>by cases z;exact ⟨by decide,hP⟩) (Heap.get?_update_self _ hS' rfl) fun v' h'' tk'' z1 hP' hk''=>?_⟩
      · exact (Heap.get?_update_other _ _ (fun h:S=b=>hSf (by rw [h];exact hbf))).trans e
      · exact hR v' h'' tk'' z1 hP' fun b o hbw hbS e=>hk'' b o hbw hbS ((Heap.get?_update_other _ _ (Ne.symm hbS)).trans (hk' b o hbw e))
    | some vb =>
      obtain ⟨p1,hPb⟩:=h1 vb rfl
      obtain ⟨j,rfl⟩:∃ i,j=i+1:=⟨j - 1,by omega⟩
      simp only [Nat.add_sub_cancel] at hPb
      show wpAny _ A.in1 (tryCatch (holding [v,v] (richCompare .Gt v vb >>= _)) _ >>= _) _ _ _
      refine wpAny_bind (wpAny_tryCatch (wpAny_holding (wpAny_bind (hcmp (j+1) (argBest bt j) v vb _ _ _ hP hPb ?_))))
      refine wpAny_bind (wpAny_holding (wpAny_truthy_bool ?_))
      refine wpAny_bind (wpAny_letGo (wpAny_pure ?_))
      cases hb:bt (j+1) (argBest bt j) with
      | true =>
        simp only [if_true]
        refine wpAny_bind ?_
        refine wpAny_updateSeq hS' rfl (hz:=(by show 2≤sizeLine;decide)) (wpAny_bind (wpAny_letGo ?_))
        rw [hname]
        refine wpAny_pure ⟨plainId_quiet F.plain_max_loop _,ih (j+2) _ (some v) _ (by omega) hlt (W.frame _ _ _ hst' fun b hbf o e=>?_) (fun z=>nomatch z) (fun v' z=>by cases z;exact ⟨by omega,by show P (argBest bt (j+1)) v;simp only [argBest,hb,if_true];exact hP⟩) (Heap.get?_update_self _ hS' rfl)
          fun v' h'' tk'' z1 hP' hk''=>?_⟩
        · exact (Heap.get?_update_other _ _ (fun h:S=b=>hSf (by rw [h];exact hbf))).trans e
        · exact hR v' h'' tk'' z1 hP' fun b o hbw hbS e=>hk'' b o hbw hbS ((Heap.get?_update_other _ _ (Ne.symm hbS)).trans (hk' b o hbw e))
      | false =>
        simp only [Bool.false_eq_true,if_false]
        refine wpAny_bind (wpAny_letGo ?_)
        rw [hname]
        refine wpAny_pure ⟨plainId_quiet F.plain_max_loop _,ih (j+2) _ (some vb) c (by omega) hlt hst' (fun z=>nomatch z) (fun v' z=>by cases z;exact ⟨by omega,by show P (argBest bt (j+1)) vb;simp only [argBest,hb,Bool.false_eq_true,if_false];exact hPb⟩) hS' fun v' h'' tk'' z1 hP' hk''=>?_⟩
        exact hR v' h'' tk'' z1 hP' fun b o hbw hbS e=>hk'' b o hbw hbS (hk' b o hbw e)
end
theorem Zj3 {X:Cx} (hc:X.calm=true) {pins:List (Addr × Obj)}{s:Shared}{σ:St}{H:Hp}{p:Addr}{ns:List Int}{dv:V}{d:Value}{Q:VK} (I:Inv X pins σ H s) (rd:RelV dv d) (hq:SqL X.K H p (ns.map V.int))
    (q0:ns=[]→Q dv H) (q:ns≠[]→∀ M,M∈ns→(∀ a∈ns,a≤M)→Q (.int M) H):wpAny (model X.prog X.w) X.A (call (.builtin "max") [.ref p] [("default",d)]) (EP X pins σ Q) X.xe s:=by
  have hname:(toString "max" ++ toString ".loop" : String) = "max.loop" := by decide
  obtain ⟨its,r,pl,_⟩:=I.list hq
  have hi:=Zb7 r
  obtain ⟨ys,e⟩:=hi.allInts.items
  have hl:=pl.isList
  have en:ns=ys.toList.map (·.1):=by
    have e1:=hi.numsOf
    have e2:=nums_intItems ys
    rw [← e] at e2
    exact e1.symm.trans e2
  have lz:ys.size=ns.length:=by rw [en];simp
  rw [e] at hl
  refine ZjE F.kind_max F.plain_max F.entry_max (Zkd _ _) ?_
  show wpAny _ _ (Builtin.Builtins.bindParams "max" ["key","default"] 0 ⟨[],[("default",d)]⟩ >>= _) _ _ s
  refine wpAny_bind (wpAny_of_eq (show Builtin.Builtins.bindParams "max" ["key","default"] 0 ⟨[],[("default",d)]⟩=pure [none,some d] from rfl) ?_)
  refine wpAny_bind (wpAny_pure ?_)
  refine wpAny_bind (iter_intList hl fun s₂ e st hfp hlI=>?_)
  subst e
  refine wpAny_bind (wpAny_newObj_type ?_)
  rw [hname]
  have W:=Walks.list (prog:=X.prog) (w:=X.w) (A:=X.A.in1) (I.ok.hd hc) _ p hlI (intItems ys)
  refine wpAny_pure ⟨plainId_quiet F.plain_max_loop _,Zjm W (fun i j=>decide (numAt ys i > numAt ys j)) (CmpOf.ints_gt (numAt ys) (fun _ _=>intItems_at)) _ (fun hm=>Nat.lt_irrefl _ (hfp _ hm)) d _ 0 _ none _ rfl (Nat.zero_le _) (W.frame _ _ _ st fun b _ o e=>Heap.get?_push_of_some _ e) (fun _=>rfl) (fun _ z=>nomatch z) (Heap.get?_push_size _ rfl) fun v h' tk z1 z2 hk=>?_⟩
  have hk0:=old_kept (s:=s) (l:=p) (h':=h') fun b o hbw e=>hk b o hbw (Nat.ne_of_lt (Heap.lt_size e)) (Heap.get?_push_of_some _ e)
  have hsz:(intItems ys).size=ys.size:=by simp [intItems]
  by_cases hn:ns=[]
  · have:v=d:=z1 (by rw [hsz,lz,hn];rfl)
    subst this
    exact ⟨dv,H,I.kept hk0,rd,q0 hn⟩
  · have hpos:0<ns.length:=by
      cases ns with
      | nil=>exact absurd rfl hn
      | cons=>exact Nat.succ_pos _
    have hv:=z2 (by rw [hsz];omega)
    rw [hsz] at hv
    obtain ⟨t,rfl⟩:=intItems_at hv
    obtain ⟨b1,b2⟩:=argBest_gt (numAt ys) (ys.size - 1)
    refine ⟨.int _,H,I.kept hk0,⟨_,rfl⟩,q hn _ ?_ fun a ha=>?_⟩
    · rw [en,numAt_eq]
      exact getD_mem (by rw [List.length_map,Array.length_toList];omega)
    · rw [en] at ha
      obtain ⟨j,hj,rfl⟩:=mem_getD ha
      rw [List.length_map,Array.length_toList] at hj
      have:=b2 j (by omega)
      rw [numAt_eq ys j] at this
      exact this
theorem Zkc (a v:Value):argsOk "min" ⟨[a],[("default",v)]⟩:=by unfold argsOk;kernel_rfl
section
variable {prog:Program}{w:World}{A:Around}{R:Result→Shared→Prop}{I:Addr}{fp wr:List Addr}{n:Nat}{P:Nat→Value→Prop}{St:Nat→Heap→Prop}
theorem Zjk (W:Walks prog w A.in1 I fp wr n P St) (bt:Nat→Nat→Bool) (hcmp:CmpOf prog w A.in1 .Lt P bt) (S:Addr) (hSf:S∉fp) (d:Value) :
    ∀ (k j:Nat) (s:Shared) (o:Option Value) (c:Nat),n - j=k→j≤n→St j s.heap→(o=none→j=0)→(∀ v,o=some v→0<j∧P (argBest bt (j - 1)) v) →
    s.heap.get? S=some { cls:=.type "list",dict:=none,data:=.seq (oldS o) c,slots:=#[] } →
    (∀ v h' tk,(n=0→v=d)→(0<n→P (argBest bt (n - 1)) v)→(∀ b o,b∉wr→b≠S→s.heap.get? b=some o→h'.get? b=some o)→R (.ok (.ret v)) { s with heap:=h',toks:=tk }) →
    codeAny (model prog w) A (.builtin "min.loop" ⟨[.ref I,.none,.ref S],[("default",d)]⟩) R s:=by
  have hSw:S∉wr:=fun h=>hSf (W.sub _ h)
  have hname:(toString "min" ++ toString ".loop" : String) = "min.loop" := by decide
  intro k
  induction k with
  | zero =>
    intro j s o c hk hj hst h0 h1 hS hR
    have hin:j=n:=by omega
    refine codeAny_builtin F.entry_min_loop ?_
    rw [Around.under_plainId F.plain_min_loop _]
    show wpAny _ A.in1 (seqItems? (.ref S) >>= _) _ _ s
    refine wpAny_bind (wpAny_seqItems hS rfl ?_)
    show wpAny _ A.in1 (tryCatch (pyNext (.ref I)) _ >>= _) _ _ s
    refine wpAny_bind (wpAny_tryCatch (W.done s _ _ (hin ▸ hst) fun h' tk hk'=>?_))
    have hS':=hk' S _ hSw hS
    cases o with
    | none =>
      refine wpAny_bind (wpAny_rule (wpAny_pure ?_))
      exact hR d _ tk (fun _=>rfl) (fun z=>absurd (h0 rfl) (by omega)) fun b o hbw hbS e=>hk' b o hbw e
    | some vb =>
      obtain ⟨p1,p2⟩:=h1 vb rfl
      show wpAny _ A.in1 (updateSeq S (fun _=>#[]) >>= _) _ _ _
      refine wpAny_bind ?_
      refine wpAny_updateSeq hS' rfl (hz:=(by show 2≤sizeLine;decide)) (wpAny_bind (wpAny_letGo (wpAny_pure ?_)))
      exact hR vb _ tk (fun z=>absurd z (by omega)) (fun _=>by rw [← hin];exact p2) fun b o hbw hbS e=>(Heap.get?_update_other _ _ (Ne.symm hbS)).trans (hk' b o hbw e)
  | succ k ih =>
    intro j s o c hk hj hst h0 h1 hS hR
    have hlt:j<n:=by omega
    refine codeAny_builtin F.entry_min_loop ?_
    rw [Around.under_plainId F.plain_min_loop _]
    show wpAny _ A.in1 (seqItems? (.ref S) >>= _) _ _ s
    refine wpAny_bind (wpAny_seqItems hS rfl ?_)
    show wpAny _ A.in1 (tryCatch (pyNext (.ref I)) _ >>= _) _ _ s
    refine wpAny_bind (wpAny_tryCatch (W.item j s _ _ hlt hst fun v h' tk hP hst' hk'=>?_))
    have hS':=hk' S _ hSw hS
    cases o with
    | none =>
      have hj0:=h0 rfl
      subst hj0
      show wpAny _ A.in1 (updateSeq S (fun _=>#[v,v]) >>= _) _ _ _
      refine wpAny_bind ?_
      refine wpAny_updateSeq hS' rfl ?_
      rw [hname]
      refine wpAny_pure ⟨plainId_quiet F.plain_min_loop _,ih 1 _ (some v) _ (by omega) hlt (W.frame _ _ _ hst' fun b hbf o e=>?_) (fun z=>nomatch z) (fun v' z=>by cases z;exact ⟨by decide,hP⟩) (Heap.get?_update_self _ hS' rfl) fun v' h'' tk'' z1 hP' hk''=>?_⟩
      · exact (Heap.get?_update_other _ _ (fun h:S=b=>hSf (by rw [h];exact hbf))).trans e
      · exact hR v' h'' tk'' z1 hP' fun b o hbw hbS e=>hk'' b o hbw hbS ((Heap.get?_update_other _ _ (Ne.symm hbS)).trans (hk' b o hbw e))
    | some vb =>
      obtain ⟨p1,hPb⟩:=h1 vb rfl
      obtain ⟨j,rfl⟩:∃ i,j=i+1:=⟨j - 1,by omega⟩
      simp only [Nat.add_sub_cancel] at hPb
      show wpAny _ A.in1 (tryCatch (holding [v,v] (richCompare .Lt v vb >>= _)) _ >>= _) _ _ _
      refine wpAny_bind (wpAny_tryCatch (wpAny_holding (wpAny_bind (hcmp (j+1) (argBest bt j) v vb _ _ _ hP hPb ?_))))
      refine wpAny_bind (wpAny_holding (wpAny_truthy_bool ?_))
      refine wpAny_bind (wpAny_letGo (wpAny_pure ?_))
      cases hb:bt (j+1) (argBest bt j) with
      | true =>
        simp only [if_true]
        refine wpAny_bind ?_
        refine wpAny_updateSeq hS' rfl (hz:=(by show 2≤sizeLine;decide)) (wpAny_bind (wpAny_letGo ?_))
        rw [hname]
        refine wpAny_pure ⟨plainId_quiet F.plain_min_loop _,ih (j+2) _ (some v) _ (by omega) hlt (W.frame _ _ _ hst' fun b hbf o e=>?_) (fun z=>nomatch z) (fun v' z=>by cases z;exact ⟨by omega,by show P (argBest bt (j+1)) v;simp only [argBest,hb,if_true];exact hP⟩) (Heap.get?_update_self _ hS' rfl)
          fun v' h'' tk'' z1 hP' hk''=>?_⟩
        · exact (Heap.get?_update_other _ _ (fun h:S=b=>hSf (by rw [h];exact hbf))).trans e
        · exact hR v' h'' tk'' z1 hP' fun b o hbw hbS e=>hk'' b o hbw hbS ((Heap.get?_update_other _ _ (Ne.symm hbS)).trans (hk' b o hbw e))
      | false =>
        simp only [Bool.false_eq_true,if_false]
        refine wpAny_bind (wpAny_letGo ?_)
        rw [hname]
        refine wpAny_pure ⟨plainId_quiet F.plain_min_loop _,ih (j+2) _ (some vb) c (by omega) hlt hst' (fun z=>nomatch z) (fun v' z=>by cases z;exact ⟨by omega,by show P (argBest bt (j+1)) vb;simp only [argBest,hb,Bool.false_eq_true,if_false];exact hPb⟩) hS' fun v' h'' tk'' z1 hP' hk''=>?_⟩
        exact hR v' h'' tk'' z1 hP' fun b o hbw hbS e=>hk'' b o hbw hbS (hk' b o hbw e)
end
theorem Zj0 {X:Cx} (hc:X.calm=true) {pins:List (Addr × Obj)}{s:Shared}{σ:St}{H:Hp}{p:Addr}{ns:List Int}{dv:V}{d:Value}{Q:VK} (I:Inv X pins σ H s) (rd:RelV dv d) (hq:SqL X.K H p (ns.map V.int))
    (q0:ns=[]→Q dv H) (q:ns≠[]→∀ M,M∈ns→(∀ a∈ns,M≤a)→Q (.int M) H):wpAny (model X.prog X.w) X.A (call (.builtin "min") [.ref p] [("default",d)]) (EP X pins σ Q) X.xe s:=by
  have hname:(toString "min" ++ toString ".loop" : String) = "min.loop" := by decide
  obtain ⟨its,r,pl,_⟩:=I.list hq
  have hi:=Zb7 r
  obtain ⟨ys,e⟩:=hi.allInts.items
  have hl:=pl.isList
  have en:ns=ys.toList.map (·.1):=by
    have e1:=hi.numsOf
    have e2:=nums_intItems ys
    rw [← e] at e2
    exact e1.symm.trans e2
  have lz:ys.size=ns.length:=by rw [en];simp
  rw [e] at hl
  refine ZjE F.kind_min F.plain_min F.entry_min (Zkc _ _) ?_
  show wpAny _ _ (Builtin.Builtins.bindParams "min" ["key","default"] 0 ⟨[],[("default",d)]⟩ >>= _) _ _ s
  refine wpAny_bind (wpAny_of_eq (show Builtin.Builtins.bindParams "min" ["key","default"] 0 ⟨[],[("default",d)]⟩=pure [none,some d] from rfl) ?_)
  refine wpAny_bind (wpAny_pure ?_)
  refine wpAny_bind (iter_intList hl fun s₂ e st hfp hlI=>?_)
  subst e
  refine wpAny_bind (wpAny_newObj_type ?_)
  rw [hname]
  have W:=Walks.list (prog:=X.prog) (w:=X.w) (A:=X.A.in1) (I.ok.hd hc) _ p hlI (intItems ys)
  refine wpAny_pure ⟨plainId_quiet F.plain_min_loop _,Zjk W (fun i j=>decide (numAt ys i<numAt ys j)) (CmpOf.ints_lt (numAt ys) (fun _ _=>intItems_at)) _ (fun hm=>Nat.lt_irrefl _ (hfp _ hm)) d _ 0 _ none _ rfl (Nat.zero_le _) (W.frame _ _ _ st fun b _ o e=>Heap.get?_push_of_some _ e) (fun _=>rfl) (fun _ z=>nomatch z) (Heap.get?_push_size _ rfl) fun v h' tk z1 z2 hk=>?_⟩
  have hk0:=old_kept (s:=s) (l:=p) (h':=h') fun b o hbw e=>hk b o hbw (Nat.ne_of_lt (Heap.lt_size e)) (Heap.get?_push_of_some _ e)
  have hsz:(intItems ys).size=ys.size:=by simp [intItems]
  by_cases hn:ns=[]
  · have:v=d:=z1 (by rw [hsz,lz,hn];rfl)
    subst this
    exact ⟨dv,H,I.kept hk0,rd,q0 hn⟩
  · have hpos:0<ns.length:=by
      cases ns with
      | nil=>exact absurd rfl hn
      | cons=>exact Nat.succ_pos _
    have hv:=z2 (by rw [hsz];omega)
    rw [hsz] at hv
    obtain ⟨t,rfl⟩:=intItems_at hv
    obtain ⟨b1,b2⟩:=argBest_lt (numAt ys) (ys.size - 1)
    refine ⟨.int _,H,I.kept hk0,⟨_,rfl⟩,q hn _ ?_ fun a ha=>?_⟩
    · rw [en,numAt_eq]
      exact getD_mem (by rw [List.length_map,Array.length_toList];omega)
    · rw [en] at ha
      obtain ⟨j,hj,rfl⟩:=mem_getD ha
      rw [List.length_map,Array.length_toList] at hj
      have:=b2 j (by omega)
      rw [numAt_eq ys j] at this
      exact this
def rDef (K:PySem.W.Frag) (R:Int→Int→Prop) (xs zs:List V) (H:Hp) (Q:VK):Prop:=∃ (p:Addr) (ns:List Int) (dv:V),xs=[.ref p]∧zs=[dv]∧SqL K H p (ns.map V.int)∧(ns=[]→Q dv H)∧(ns≠[]→∀ M,M∈ns→(∀ a∈ns,R a M)→Q (.int M) H)
def tDef (K:PySem.W.Frag) (R:Int→Int→Prop) (t tk:TA):TE:=fun σ H Q=>t σ H fun xs H1=>tk σ H1 fun zs H2=>rDef K R xs zs H2 Q
theorem Zml {X:Cx}{p pos kpos:Pos}{e dE:Expr}{te td:TE} (hc:X.calm=true) (hg:Gl X "max") (hm:X.mg "max" = none) (he:PE X e te) (hd:PE X dE td)
    (hst:starEach [e] X.env=(false,eval e X.env) :: starEach [] X.env:=by rfl)
    (hall:(backToKw pos (keywordEach [⟨some "default",dE,kpos⟩] X.env)).all (·.1.isSome)=true:=by rfl) (hks:(backToKw pos (keywordEach [⟨some "default",dE,kpos⟩] X.env)).filterMap (·.1)=[("default" : Str)]:=by rfl)
    (hpl:(backTo pos (starEach [e] X.env)).any (·.1)=false:=by rfl) (hno:(backToKw pos (keywordEach [⟨some "default",dE,kpos⟩] X.env)).any (·.1.isNone)=false:=by rfl)
    (hst2:backTo pos (starEach [e] X.env)=(false,eval e X.env) :: backTo pos (starEach [] X.env):=by rfl) :
    PE X (.Call (.Name "max" p) [e] [⟨some "default",dE,kpos⟩] pos) (tDef X.K (fun a M=>a≤M) (ZbL te tNil) (ZbL td tNil)):=by
  intro pins s σ H Q I h
  refine wpAny_Call_Name_kw (Zc5 (u:=.builtin "max") I hg hm (by kernel_rfl) ?_)
  refine PyProof.Rows.callWith_kw (thn (Zaa he Zab hst pos pins s σ H _ I h) fun us s1 ⟨vs,H1,I1,r,q⟩=>?_) hst2 hpl hall hno
  refine thn (ZiS (kpos:=kpos) (nm:=some "default") hd ZlD pos pins s1 σ H1 _ I1 q) fun ws s2 ⟨zs,H2,I2,rz,q2⟩=>?_
  obtain ⟨p,ns,dv,rfl,rfl,hq,q0,q1⟩:=q2
  obtain ⟨d,rfl,rd⟩:=rz.one
  obtain ⟨u,rfl,ru⟩:=r.one
  cases ru
  rw [hks]
  exact Zj3 hc I2 rd hq q0 q1
theorem Zmj {X:Cx}{p pos kpos:Pos}{e dE:Expr}{te td:TE} (hc:X.calm=true) (hg:Gl X "min") (hm:X.mg "min" = none) (he:PE X e te) (hd:PE X dE td)
    (hst:starEach [e] X.env=(false,eval e X.env) :: starEach [] X.env:=by rfl)
    (hall:(backToKw pos (keywordEach [⟨some "default",dE,kpos⟩] X.env)).all (·.1.isSome)=true:=by rfl) (hks:(backToKw pos (keywordEach [⟨some "default",dE,kpos⟩] X.env)).filterMap (·.1)=[("default" : Str)]:=by rfl)
    (hpl:(backTo pos (starEach [e] X.env)).any (·.1)=false:=by rfl) (hno:(backToKw pos (keywordEach [⟨some "default",dE,kpos⟩] X.env)).any (·.1.isNone)=false:=by rfl)
    (hst2:backTo pos (starEach [e] X.env)=(false,eval e X.env) :: backTo pos (starEach [] X.env):=by rfl) :
    PE X (.Call (.Name "min" p) [e] [⟨some "default",dE,kpos⟩] pos) (tDef X.K (fun a M=>M≤a) (ZbL te tNil) (ZbL td tNil)):=by
  intro pins s σ H Q I h
  refine wpAny_Call_Name_kw (Zc5 (u:=.builtin "min") I hg hm (by kernel_rfl) ?_)
  refine PyProof.Rows.callWith_kw (thn (Zaa he Zab hst pos pins s σ H _ I h) fun us s1 ⟨vs,H1,I1,r,q⟩=>?_) hst2 hpl hall hno
  refine thn (ZiS (kpos:=kpos) (nm:=some "default") hd ZlD pos pins s1 σ H1 _ I1 q) fun ws s2 ⟨zs,H2,I2,rz,q2⟩=>?_
  obtain ⟨p,ns,dv,rfl,rfl,hq,q0,q1⟩:=q2
  obtain ⟨d,rfl,rd⟩:=rz.one
  obtain ⟨u,rfl,ru⟩:=r.one
  cases ru
  rw [hks]
  exact Zj0 hc I2 rd hq q0 q1
end L2
set_option Elab.async false
set_option linter.all false
set_option maxRecDepth 100000
set_option maxHeartbeats 4000000
namespace L2
open PySem PySem.Spec PyProof.Rows
section
variable {prog:Program}{w:World}{A:Around}{E:Value→Shared→Prop}{s:Shared}
end
end L2
set_option Elab.async false
set_option linter.all false
set_option maxRecDepth 100000
set_option maxHeartbeats 4000000
namespace L2
open PySem PySem.Spec PyProof.Rows
section
variable {X:Cx}{tg:Expr}
end
end L2
set_option Elab.async false
set_option linter.all false
set_option maxRecDepth 100000
set_option maxHeartbeats 4000000
namespace Seek
open PySem L2 PyProof.Rows
def top (i:Nat):Stmt:=PySem.Challenge.pw_stairseek_k29_what_a_keeper_refuses.main.body.getD i (.Pass ⟨0,0,0,0⟩)
abbrev ZdJ:Stmt:=top 17
abbrev Za7:Stmt:=top 18
abbrev Zb9:Stmt:=top 19
abbrev ZhE:Stmt:=top 20
abbrev Zdu:Stmt:=top 21
abbrev ZdM:Stmt:=top 22
abbrev Zek:Stmt:=top 23
abbrev ZdK:Stmt:=top 24
abbrev ZcA:Stmt:=top 27
abbrev Zca:Stmt:=top 29
abbrev ZmW:Stmt:=top 47
abbrev ZhB:Stmt:=top 49
abbrev Zld:Stmt:=top 50
abbrev dLaw:Stmt:=top 60
abbrev Zgf:Stmt:=top 31
abbrev Zen:Stmt:=top 26
abbrev Zc8:Stmt:=top 28
abbrev Zel:Stmt:=top 30
abbrev Zb8:Stmt:=top 52
abbrev Zeo:Stmt:=top 25
abbrev ZmX:Stmt:=top 33
abbrev Zfr:Stmt:=top 34
abbrev ZcB:Stmt:=top 35
abbrev Zc7:Stmt:=top 36
abbrev ZjT:Stmt:=top 45
abbrev ZjR:Stmt:=top 46
abbrev dFar:Stmt:=top 48
abbrev Zbf:Stmt:=top 57
abbrev Zfq:Stmt:=top 51
abbrev Zcf:Stmt:=top 53
abbrev Zla:Stmt:=top 55
abbrev Zfs:Stmt:=top 38
abbrev ZmV:Stmt:=top 39
abbrev ZdL:Stmt:=top 40
abbrev Zft:Stmt:=top 41
abbrev Zlb:Stmt:=top 42
abbrev ZjS:Stmt:=top 54
abbrev ZhD:Stmt:=top 59
abbrev Zem:Stmt:=top 56
abbrev Zcm:Stmt:=top 58
abbrev ZaJ:Stmt:=top 43
def Za2 (c:Stmt) (j:Nat):Stmt:=match c with | .ClassDef _ _ _ b _ _ _ _ _ _ _=>b.getD j (.Pass ⟨0,0,0,0⟩) | _=>.Pass ⟨0,0,0,0⟩
def Row (H:Hp) (a:Addr) (ns:List Int):Prop:=H a=some (.lst (ns.map V.int))
def nfB (ns:List Int):Bool:=((List.range (ns.length - 1)).map fun i=>decide (ns.getD i 0≤ns.getD (i+1) 0)).all id
theorem Row.same {H H':Hp}{a:Addr}{ns:List Int} (e:Same H H') (h:Row H a ns):Row H' a ns:=e _ _ h
theorem Row.sq {K:PySem.W.Frag}{H:Hp}{a:Addr}{ns:List Int} (h:Row H a ns):SqL K H a (ns.map V.int):=SqL.of h
structure Blt (mg:Str→Option Value):Prop where
  len:mg "len" = none
  all:mg "all" = none
  isinst:mg "isinstance" = none
  rng:mg "range" = none
  int:mg "int" = none
  bool:mg "bool" = none
  list:mg "list" = none
  enum:mg "enumerate" = none
  abs:mg "abs" = none
  max:mg "max" = none
  mr:∃ t,mg "MOST_ROWS" = some (.int 6 t)
  mp:∃ t,mg "MOST_PLACES" = some (.int 6 t)
theorem sl6 {n:Nat} (h:n≤1000):n≤sizeLine:=Nat.le_of_lt (ZaZ h)
section
variable {P:Program}{w:World}{K:PySem.W.Frag}{mg:Str→Option Value}{base:Heap}
def ZbZ:Sp:=fun vs H Q _=>∃ i:Int,vs=[.int i]∧Q (.bl true) H
theorem ZeH:FnScope ["thing"] ["thing"] (Zag ZdJ):=⟨rfl,rfl,rfl,by decide +kernel,rfl,by decide +kernel,by decide +kernel⟩
theorem Zh0 (T:Blt mg) (D:Zao K mg "is_whole" ZdJ ["thing"]):FnAt P w K mg base 1 "is_whole" ["thing"] ZbZ:=by
  refine FnAt.of D ZeH (fun vs H Q E h=>?_) (fun f cdv A outer s H vs Q E hr h=>?_)
  · obtain ⟨i,rfl,_⟩:=h
    rfl
  · obtain ⟨i,rfl,q⟩:=h
    refine ⟨_,Zaf (Zan (Zb2 (pe_b ZaU T.isinst boot_isinstance (Zaa (pv 0) (Zaa (Zdy T.int boot_int) Zab)))
      (Zcj (ZlE (pe_b ZaU T.isinst boot_isinstance (Zaa (pv 0) (Zaa (Zdy T.bool boot_bool) Zab))))))),?_⟩
    exact ⟨_,rfl,_,_,_,_,rfl,.int i,ZnE _,_,rfl,iteT ⟨_,rfl,_,_,_,_,rfl,.int i,ZnF _,_,rfl,q⟩⟩
def ZeE (K:PySem.W.Frag):Sp:=fun vs H Q _=>∃ (a:Addr) (ns:List Int),vs=[.ref a]∧Row H a ns∧ns.length≤1000∧∀ H',Same H H'→Q (.bl true) H'
theorem ZbI:FnScope ["things"] ["things"] (Zag Za7):=⟨rfl,rfl,rfl,by decide +kernel,rfl,by decide +kernel,by decide +kernel⟩
theorem Zll {α:Type} (xs:List α):(xs.map fun _=>true).all id=true:=by simp
theorem ZgN (T:Blt mg) (D:Zao K mg "all_whole" Za7 ["things"]) (G1:FnAt P w K mg base 1 "is_whole" ["thing"] ZbZ):FnAt P w K mg base 2 "all_whole" ["things"] (ZeE K):=by
  refine FnAt.of D ZbI (fun vs H Q E h=>?_) (fun f cdv A outer s H vs Q E hr h=>?_)
  · obtain ⟨a,ns,rfl,_⟩:=h
    rfl
  · obtain ⟨a,ns,rfl,hR,hn,q⟩:=h
    have nd1:(["thing"]:List Str).Nodup:=by decide +kernel
    refine ⟨_,Zaf (Zan (pe_b (Zbd rfl) T.all boot_all (Zaa (ZaX ["thing"] [none] (Zag Za7) ["things"] rfl (Zba (pv 0)) (by decide +kernel)
      (fun cl C s2 H2 ex=>pg_c 0 nd1) (fun cl C s2 H2 ex=>ZaK) (fun cl C s2 H2 ex=>pe_f G1 hr (Zaa (pv 0) Zab))) Zab))),?_⟩
    refine ⟨_,rfl,a,rfl,⟨_,hR.sq⟩,Zbx V.int (fun _=>.bl true) hR.sq (sl6 hn) (fun i hx H' Q' sm q'=>?_) fun D H' hD sm hDl=>?_⟩
    · exact ⟨_,rfl,i,rfl,q' _ (Same.refl _)⟩
    · refine ⟨D,ns.map fun _=>true,rfl,SqL.of ?_,?_⟩
      · rw [hDl]
        simp [Function.comp]
      · rw [Zll]
        exact q H' sm
def spNF:Sp:=fun vs H Q _=>∃ (a:Addr) (ns:List Int),vs=[.ref a]∧Row H a ns∧ns.length≤1000∧∀ H',Same H H'→Q (.bl (nfB ns)) H'
theorem Zn2:FnScope ["numbers"] ["numbers"] (Zag Zb9):=⟨rfl,rfl,rfl,by decide +kernel,rfl,by decide +kernel,by decide +kernel⟩
theorem Zco {ns:List Int}{i:Nat} (h:i<ns.length):atI (ns.map V.int) (i:Int)=some (.int (ns.getD i 0)):=ZaB (by simp [h])
theorem Zoh (T:Blt mg) (D:Zao K mg "never_falls" Zb9 ["numbers"]):FnAt P w K mg base 1 "never_falls" ["numbers"] spNF:=by
  refine FnAt.of D Zn2 (fun vs H Q E h=>?_) (fun f cdv A outer s H vs Q E hr h=>?_)
  · obtain ⟨a,ns,rfl,_⟩:=h
    rfl
  · obtain ⟨a,ns,rfl,hR,hn,q⟩:=h
    have nd1:(["k","numbers"]:List Str).Nodup:=by decide +kernel
    refine ⟨_,Zaf (Zan (pe_b (Zbd rfl) T.all boot_all (Zaa (ZaX ["k","numbers"] [none,some 0] (Zag Zb9) ["numbers"] rfl
      (ZfW rfl T.rng (Zaa Zae (Zaa (pe_b Zah T.len boot_len (Zaa (pv 0) Zab)) Zab))) (by decide +kernel)
      (fun cl C s2 H2 ex=>pg_c 0 nd1) (fun cl C s2 H2 ex=>ZaK)
      (fun cl C s2 H2 ex=>Zdi Zey (Zav (ixL K) (pv 1) (Zas ZlF (pv 0) Zae) (fun _ _=>rfl)) (Zav (ixL K) (pv 1) (pv 0) (fun _ _=>rfl)) (Zax _))) Zab))),?_⟩
    refine ⟨_,rfl,a,_,rfl,.inl hR.sq,1,_,rfl,⟨by omega,by omega,?_,?_⟩,?_⟩
    · omega
    · rw [List.length_map]
      omega
    · rw [List.length_map,show ((ns.length:Int) - 1).toNat=ns.length - 1 by omega]
      refine ZeT (fun i=>.bl (decide (ns.getD i 0≤ns.getD (i+1) 0))) (sl6 (by omega)) (fun i hi H' Q' sm q'=>?_) fun D H' hD sm hDl=>?_
      · have h1:(1:Int)+(i:Int) - 1=((i:Nat):Int):=by omega
        have h2:(1:Int)+(i:Int)=((i+1:Nat):Int):=by omega
        refine ⟨_,rfl,_,rfl,_,_,rfl,rfl,a,_,_,_,rfl,rfl,(hR.same sm).sq,(by rw [h1];exact Zco (by omega)),_,rfl,_,rfl,a,_,_,_,rfl,rfl,(hR.same sm).sq,(by rw [h2];exact Zco (by omega)),_,_,rfl,rfl,?_⟩
        exact q' _ (Same.refl _)
      · refine ⟨D,(List.range (ns.length - 1)).map fun i=>decide (ns.getD i 0≤ns.getD (i+1) 0),rfl,SqL.of ?_,q H' sm⟩
        rw [hDl]
        simp [Function.comp]
end
abbrev Prs:=List (Addr × List Int)
structure Tab (H:Hp) (t:Addr) (prs:Prs):Prop where
  l:H t=some (.lst (prs.map fun p=>V.ref p.1))
  r:∀ p∈prs,Row H p.1 p.2
theorem Tab.same {H H':Hp}{t:Addr}{prs:Prs} (e:Same H H') (h:Tab H t prs):Tab H' t prs:=⟨e _ _ h.l,fun p hp=>(h.r p hp).same e⟩
theorem Tab.sq {K:PySem.W.Frag}{H:Hp}{t:Addr}{prs:Prs} (h:Tab H t prs):SqL K H t (prs.map fun p=>V.ref p.1):=SqL.of h.l
def Sm (prs:Prs):Prop:=prs.length≤1000∧∀ p∈prs,p.2.length≤1000
def rowB (ns:List Int):Bool:=decide (1≤ns.length) && decide (ns.length≤6)
def w0 (prs:Prs):Nat:=(prs.head?.map (·.2.length)).getD 0
def shB (prs:Prs):Bool:=(decide (1≤prs.length) && decide (prs.length≤6)) && ((prs.map fun p=>rowB p.2).all id && (prs.map fun p=>decide (p.2.length=w0 prs)).all id)
def col (prs:Prs) (j:Nat):List Int:=prs.map fun p=>p.2.getD j 0
def srB (prs:Prs):Bool:=(prs.map fun p=>nfB p.2).all id && ((List.range (w0 prs)).map fun j=>nfB (col prs j)).all id
def tabB (prs:Prs):Bool:=shB prs && srB prs
theorem Zds {α:Type} (xs:List α) (f:α→Bool):xs.map (fun x=>V.bl (f x))=(xs.map f).map V.bl:=by simp [Function.comp]
theorem ZmU {i j:Nat}:decide (V.int (i:Int)=V.int (j:Int))=decide (i=j):=by
  rw [decide_eq_decide]
  constructor
  · intro h
    injection h with h
    omega
  · rintro rfl
    rfl
theorem Zbe {prs:Prs} (h:1≤prs.length):∃ p,prs.head? = some p∧p∈prs∧prs[0]? = some p:=by
  cases prs with
  | nil=>simp at h
  | cons p r=>exact ⟨p,rfl,by simp,rfl⟩
section
variable {P:Program}{w:World}{K:PySem.W.Frag}{mg:Str→Option Value}{base:Heap}
def Ziz:Sp:=fun vs H Q _=>∃ (a:Addr) (ns:List Int),vs=[.ref a]∧Row H a ns∧ns.length≤1000∧∀ H',Same H H'→Q (.bl (rowB ns)) H'
theorem Zhl:FnScope ["thing"] ["thing"] (Zag ZhE):=⟨rfl,rfl,rfl,by decide +kernel,rfl,by decide +kernel,by decide +kernel⟩
theorem ZkU (T:Blt mg) (D:Zao K mg "is_row" ZhE ["thing"]) (G:FnAt P w K mg base 2 "all_whole" ["things"] (ZeE K)):FnAt P w K mg base 3 "is_row" ["thing"] Ziz:=by
  refine FnAt.of D Zhl (fun vs H Q E h=>?_) (fun f cdv A outer s H vs Q E hr h=>?_)
  · obtain ⟨a,ns,rfl,_⟩:=h
    rfl
  · obtain ⟨a,ns,rfl,hR,hn,q⟩:=h
    obtain ⟨tk,mp⟩:=T.mp
    refine ⟨_,Zaf (Zan (Zb2 (pe_b ZaU T.isinst boot_isinstance (Zaa (pv 0) (Zaa (Zdy T.list boot_list) Zab)))
      (Zb2 (ZbN Zey Zey Zae (pe_b Zah T.len boot_len (Zaa (pv 0) Zab)) (Zbc (v:=.int 6) rfl mp ⟨_,rfl⟩))
      (Zcj (pe_f G hr (Zaa (pv 0) Zab)))))),?_⟩
    refine ⟨_,rfl,_,_,_,_,rfl,.lst hR,ZlP _,_,rfl,iteT ⟨_,rfl,a,_,rfl,.inl hR.sq,1,_,rfl,rfl,_,rfl,?_⟩⟩
    rw [List.length_map]
    refine ite2 (fun h1=>?_) (fun h1=>?_)
    · have h1:=of_decide_eq_true h1
      refine ⟨_,_,rfl,rfl,_,rfl,ite2 (fun h2=>?_) (fun h2=>?_)⟩
      · have h2:=of_decide_eq_true h2
        refine ⟨_,rfl,a,ns,rfl,hR,hn,fun H' sm=>?_⟩
        have e:rowB ns=true:=by
          unfold rowB
          rw [decide_eq_true (by omega),decide_eq_true (by omega)]
          rfl
        rw [← e]
        exact q H' sm
      · have e:rowB ns=false:=by
          unfold rowB
          rw [decide_eq_false (p:=ns.length≤6) (by intro z;exact h2 (decide_eq_true (by omega)))]
          simp
        rw [← e]
        exact q H (Same.refl _)
    · refine ⟨_,rfl,iteF ?_⟩
      have e:rowB ns=false:=by
        unfold rowB
        rw [decide_eq_false (p:=1≤ns.length) (by intro z;exact h1 (decide_eq_true (by omega)))]
        simp
      rw [← e]
      exact q H (Same.refl _)
def Ziv:Sp:=fun vs H Q _=>∃ (t:Addr) (prs:Prs),vs=[.ref t]∧Tab H t prs∧Sm prs∧∀ H',Same H H'→Q (.bl (shB prs)) H'
theorem Zhj:FnScope ["thing","row"] ["thing"] (Zag Zdu):=⟨rfl,rfl,rfl,by decide +kernel,rfl,by decide +kernel,by decide +kernel⟩
theorem ZkO (T:Blt mg) (D:Zao K mg "has_table_shape" Zdu ["thing"]) (G:FnAt P w K mg base 3 "is_row" ["thing"] Ziz):FnAt P w K mg base 4 "has_table_shape" ["thing"] Ziv:=by
  refine FnAt.of D Zhj (fun vs H Q E h=>?_) (fun f cdv A outer s H vs Q E hr h=>?_)
  · obtain ⟨t,prs,rfl,_⟩:=h
    rfl
  · obtain ⟨t,prs,rfl,hT,⟨hn,hw⟩,q⟩:=h
    obtain ⟨tk,mr⟩:=T.mr
    have nd1:(["row"]:List Str).Nodup:=by decide +kernel
    have nd2:(["row","thing"]:List Str).Nodup:=by decide +kernel
    refine ⟨_,Zac (ZaO (PW.pt (ZcF (Za0 (Za3 (pe_b ZaU T.isinst boot_isinstance (Zaa (pv 0) (Zaa (Zdy T.list boot_list) Zab)))))
        (Zb1 (Za0 (ZdG Zey Zey Zae (pe_b Zah T.len boot_len (Zaa (pv 0) Zab)) (Zbc (v:=.int 6) rfl mr ⟨_,rfl⟩)))))) (Zaf (Zan Zce)) Zaq)
      (Zac (ZaO (Za0 (Za3 (pe_b (Zbd rfl) T.all boot_all (Zaa (ZaX ["row"] [none] (Zag Zdu) ["thing","row"] rfl (Zba (pv 0)) (by decide +kernel)
        (fun cl C s2 H2 ex=>pg_c 0 nd1) (fun cl C s2 H2 ex=>ZaK) (fun cl C s2 H2 ex=>pe_f G hr (Zaa (pv 0) Zab))) Zab)))) (Zaf (Zan Zce)) Zaq)
      (Zaf (Zan (pe_b (Zbd rfl) T.all boot_all (Zaa (ZaX ["row","thing"] [none,some 0] (Zag Zdu) ["thing","row"] rfl (Zba (pv 0)) (by decide +kernel)
        (fun cl C s2 H2 ex=>pg_c 0 nd2) (fun cl C s2 H2 ex=>ZaK)
        (fun cl C s2 H2 ex=>Zdi Zdj (pe_b (lenK K) T.len boot_len (Zaa (pv 0) Zab)) (pe_b (lenK K) T.len boot_len (Zaa (Zav (ixL K) (pv 1) Zae (fun _ _=>rfl)) Zab)) (Zax _))) Zab))))),?_⟩
    refine ⟨_,rfl,_,_,_,_,rfl,.lst hT.l,ZlP _,_,rfl,iteF ⟨_,rfl,t,_,rfl,.inl hT.sq,1,_,rfl,rfl,_,rfl,?_⟩⟩
    rw [List.length_map]
    have bad:¬ (1≤prs.length∧prs.length≤6)→shB prs=false:=fun z=>by
      unfold shB
      rw [← Bool.decide_and,decide_eq_false z]
      rfl
    refine ite2 (fun h1=>?_) (fun h1=>?_)
    · have h1:=of_decide_eq_true h1
      refine ⟨_,_,rfl,rfl,_,rfl,?_⟩
      by_cases h2:prs.length≤6
      · rw [decide_eq_true (show (prs.length:Int)≤6 by omega)]
        refine iteF ?_
        refine ⟨_,rfl,t,rfl,⟨_,hT.sq⟩,Zbx (fun p=>V.ref p.1) (fun p=>.bl (rowB p.2)) hT.sq (sl6 hn) (fun p hp H' Q' sm q'=>?_) fun D H' hD sm hDl=>?_⟩
        · exact ⟨_,rfl,p.1,p.2,rfl,(hT.r p hp).same sm,hw p hp,q'⟩
        · refine ⟨D,prs.map fun p=>rowB p.2,rfl,SqL.of (by rw [hDl,Zds]),_,rfl,?_⟩
          cases e1:(prs.map fun p=>rowB p.2).all id with
          | false =>
            refine iteT ?_
            have e:shB prs=false:=by
              unfold shB
              rw [e1]
              simp
            have q1:=q H' sm
            rw [e] at q1
            exact q1
          | true =>
            refine iteF ?_
            have hT1:=hT.same sm
            obtain ⟨p0,hp0,hm0,hx0⟩:=Zbe (prs:=prs) (by omega)
            have hw0:w0 prs=p0.2.length:=by
              unfold w0
              rw [hp0]
              rfl
            refine ⟨_,rfl,t,rfl,⟨_,hT1.sq⟩,Zbx (fun p=>V.ref p.1) (fun p=>.bl (decide (p.2.length=w0 prs))) hT1.sq (sl6 hn) (fun p hp H2 Q' sm2 q'=>?_) fun D2 H2 hD2 sm2 hDl2=>?_⟩
            · have hT2:=hT1.same sm2
              refine ⟨_,rfl,p.1,_,rfl,.inl (hT2.r p hp).sq,_,rfl,t,_,0,.ref p0.1,rfl,rfl,hT2.sq,ZaB (j:=0) (by rw [List.getElem?_map,hx0];rfl),p0.1,_,rfl,.inl (hT2.r p0 hm0).sq,rfl,?_⟩
              rw [List.length_map,List.length_map,ZmU,← hw0]
              exact q' _ (Same.refl _)
            · refine ⟨D2,prs.map fun p=>decide (p.2.length=w0 prs),rfl,SqL.of (by rw [hDl2,Zds]),?_⟩
              have q1:=q H2 (sm.trans sm2)
              unfold shB at q1
              rw [e1,decide_eq_true (show 1≤prs.length by omega),decide_eq_true h2] at q1
              exact q1
      · rw [decide_eq_false (show ¬ (prs.length:Int)≤6 by omega)]
        refine iteT ?_
        have q1:=q H (Same.refl _)
        rw [bad (by omega)] at q1
        exact q1
    · refine ⟨_,rfl,iteT ?_⟩
      have q1:=q H (Same.refl _)
      rw [bad (by
        intro z
        exact h1 (decide_eq_true (by omega)))] at q1
      exact q1
def ZfM:Sp:=fun vs H Q _=>∃ (t:Addr) (prs:Prs) (j:Nat),vs=[.ref t,.int j]∧Tab H t prs∧prs.length≤1000∧(∀ p∈prs,j<p.2.length)∧∀ D H',H D=none→Same H H'→Row H' D (col prs j)→Q (.ref D) H'
theorem ZhU:FnScope ["table","place"] ["table","place"] (Zag ZdM):=⟨rfl,rfl,rfl,by decide +kernel,rfl,by decide +kernel,by decide +kernel⟩
theorem Zh7 (D:Zao K mg "numbers_at_place" ZdM ["table","place"]):FnAt P w K mg base 1 "numbers_at_place" ["table","place"] ZfM:=by
  refine FnAt.of D ZhU (fun vs H Q E h=>?_) (fun f cdv A outer s H vs Q E hr h=>?_)
  · obtain ⟨t,prs,j,rfl,_⟩:=h
    rfl
  · obtain ⟨t,prs,j,rfl,hT,hn,hj,q⟩:=h
    have nd1:(["row","place"]:List Str).Nodup:=by decide +kernel
    refine ⟨_,Zaf (Zan (ZaX ["row","place"] [none,some 1] (Zag ZdM) ["table","place"] rfl (Zba (pv 0)) (by decide +kernel)
        (fun cl C s2 H2 ex=>pg_c 0 nd1) (fun cl C s2 H2 ex=>ZaK) (fun cl C s2 H2 ex=>Zav (ixL K) (pv 0) (pv 1) (fun _ _=>rfl)))),?_⟩
    refine ⟨_,rfl,t,rfl,⟨_,hT.sq⟩,Zbx (fun p=>V.ref p.1) (fun p=>.int (p.2.getD j 0)) hT.sq (sl6 hn) (fun p hp H' Q' sm q'=>?_) fun D H' hD sm hDl=>?_⟩
    · exact ⟨_,rfl,_,rfl,p.1,_,_,_,rfl,rfl,((hT.r p hp).same sm).sq,Zco (hj p hp),q' _ (Same.refl _)⟩
    · refine q D H' hD sm ?_
      unfold Row col
      rw [hDl,List.map_map]
      rfl
def Ze1:Sp:=fun vs H Q _=>∃ (t:Addr) (prs:Prs),vs=[.ref t]∧Tab H t prs∧Sm prs∧1≤prs.length∧(∀ p∈prs,p.2.length=w0 prs)∧∀ H',Same H H'→Q (.bl (srB prs)) H'
theorem ZiG:FnScope ["table","row","place"] ["table"] (Zag Zek):=⟨rfl,rfl,rfl,by decide +kernel,rfl,by decide +kernel,by decide +kernel⟩
theorem ZiZ (T:Blt mg) (D:Zao K mg "is_sorted_both_ways" Zek ["table"]) (G:FnAt P w K mg base 1 "never_falls" ["numbers"] spNF) (G2:FnAt P w K mg base 1 "numbers_at_place" ["table","place"] ZfM):FnAt P w K mg base 2 "is_sorted_both_ways" ["table"] Ze1:=by
  refine FnAt.of D ZiG (fun vs H Q E h=>?_) (fun f cdv A outer s H vs Q E hr h=>?_)
  · obtain ⟨t,prs,rfl,_⟩:=h
    rfl
  · obtain ⟨t,prs,rfl,hT,⟨hn,hw⟩,h1,hv,q⟩:=h
    have nd1:(["row"]:List Str).Nodup:=by decide +kernel
    have nd2:(["place","table"]:List Str).Nodup:=by decide +kernel
    obtain ⟨p0,hp0,hm0,hx0⟩:=Zbe (prs:=prs) h1
    have hw0:w0 prs=p0.2.length:=(hv p0 hm0).symm
    refine ⟨_,Zac (ZaO (Za0 (Za3 (pe_b (Zbd rfl) T.all boot_all (Zaa (ZaX ["row"] [none] (Zag Zek) ["table","row","place"] rfl (Zba (pv 0)) (by decide +kernel)
        (fun cl C s2 H2 ex=>pg_c 0 nd1) (fun cl C s2 H2 ex=>ZaK) (fun cl C s2 H2 ex=>pe_f G hr (Zaa (pv 0) Zab))) Zab)))) (Zaf (Zan Zce)) Zaq)
      (Zaf (Zan (pe_b (Zbd rfl) T.all boot_all (Zaa (ZaX ["place","table"] [none,some 0] (Zag Zek) ["table","row","place"] rfl
        (Zbk rfl T.rng (Zaa (pe_b Zah T.len boot_len (Zaa (Zav Zam (pv 0) Zae (fun _ _=>rfl)) Zab)) Zab)) (by decide +kernel)
        (fun cl C s2 H2 ex=>pg_c 0 nd2) (fun cl C s2 H2 ex=>ZaK)
        (fun cl C s2 H2 ex=>pe_f G hr (Zaa (pe_f G2 hr (Zaa (pv 1) (Zaa (pv 0) Zab))) Zab))) Zab)))),?_⟩
    refine ⟨_,rfl,t,rfl,⟨_,hT.sq⟩,Zbx (fun p=>V.ref p.1) (fun p=>.bl (nfB p.2)) hT.sq (sl6 hn) (fun p hp H' Q' sm q'=>?_) fun D H' hD sm hDl=>?_⟩
    · exact ⟨_,rfl,p.1,p.2,rfl,(hT.r p hp).same sm,hw p hp,q'⟩
    · refine ⟨D,prs.map fun p=>nfB p.2,rfl,SqL.of (by rw [hDl,Zds]),_,rfl,?_⟩
      cases e1:(prs.map fun p=>nfB p.2).all id with
      | false =>
        refine iteT ?_
        have q1:=q H' sm
        unfold srB at q1
        rw [e1] at q1
        exact q1
      | true =>
        refine iteF ?_
        have hT1:=hT.same sm
        refine ⟨_,rfl,t,_,0,.ref p0.1,rfl,rfl,hT1.sq,ZaB (j:=0) (by rw [List.getElem?_map,hx0];rfl),p0.1,_,rfl,.inl (hT1.r p0 hm0).sq,_,rfl,?_,?_,?_⟩
        · omega
        · have:=hw p0 hm0
          rw [List.length_map]
          omega
        · rw [List.length_map,← hw0,Int.toNat_natCast]
          have hb:w0 prs≤1000:=by rw [hw0];exact hw p0 hm0
          refine ZeT (fun j=>.bl (nfB (col prs j))) (sl6 hb) (fun j hj H2 Q' sm2 q'=>?_) fun D2 H2 hD2 sm2 hDl2=>?_
          · have hT2:=hT1.same sm2
            refine ⟨_,rfl,_,rfl,t,prs,j,by rw [Int.zero_add],hT2,hn,fun p hp=>by rw [hv p hp];exact hj,fun D3 H3 hD3 sm3 r3=>⟨D3,col prs j,rfl,r3,?_,fun H4 sm4=>q' H4 (sm3.trans sm4)⟩⟩
            unfold col
            rw [List.length_map]
            exact hn
          · refine ⟨D2,(List.range (w0 prs)).map fun j=>nfB (col prs j),rfl,SqL.of (by rw [hDl2,Zds]),?_⟩
            have q1:=q H2 (sm.trans sm2)
            unfold srB at q1
            rw [e1] at q1
            exact q1
def ZcY:Sp:=fun vs H Q _=>∃ (t:Addr) (prs:Prs),vs=[.ref t]∧Tab H t prs∧Sm prs∧∀ H',Same H H'→Q (.bl (tabB prs)) H'
theorem ZeI:FnScope ["thing"] ["thing"] (Zag ZdK):=⟨rfl,rfl,rfl,by decide +kernel,rfl,by decide +kernel,by decide +kernel⟩
theorem Zly {prs:Prs} (h:shB prs=true):1≤prs.length∧prs.length≤6∧(∀ p∈prs,1≤p.2.length∧p.2.length≤6)∧∀ p∈prs,p.2.length=w0 prs:=by
  unfold shB rowB at h
  simp only [Bool.and_eq_true,decide_eq_true_eq,List.all_eq_true,List.mem_map,id] at h
  obtain ⟨⟨h1,h2⟩,h3,h4⟩:=h
  exact ⟨h1,h2,fun p hp=>by simpa using h3 _ ⟨p,hp,rfl⟩,fun p hp=>by simpa using h4 _ ⟨p,hp,rfl⟩⟩
theorem Zh1 (D:Zao K mg "is_table" ZdK ["thing"]) (G:FnAt P w K mg base 4 "has_table_shape" ["thing"] Ziv) (G2:FnAt P w K mg base 2 "is_sorted_both_ways" ["table"] Ze1):FnAt P w K mg base 5 "is_table" ["thing"] ZcY:=by
  refine FnAt.of D ZeI (fun vs H Q E h=>?_) (fun f cdv A outer s H vs Q E hr h=>?_)
  · obtain ⟨t,prs,rfl,_⟩:=h
    rfl
  · obtain ⟨t,prs,rfl,hT,hs,q⟩:=h
    refine ⟨_,Zaf (Zan (Zb2 (pe_f G hr (Zaa (pv 0) Zab)) (Zcj (pe_f G2 (hr.mono (by decide)) (Zaa (pv 0) Zab))))),?_⟩
    refine ⟨_,rfl,t,prs,rfl,hT,hs,fun H' sm=>⟨_,rfl,?_⟩⟩
    cases e:shB prs with
    | false =>
      refine iteF ?_
      have q1:=q H' sm
      unfold tabB at q1
      rw [e] at q1
      exact q1
    | true =>
      obtain ⟨a1,a2,a3,a4⟩:=Zly e
      refine iteT ⟨_,rfl,t,prs,rfl,hT.same sm,hs,a1,a4,fun H2 sm2=>?_⟩
      have q1:=q H2 (sm.trans sm2)
      unfold tabB at q1
      rw [e] at q1
      exact q1
def Zbs:Sp:=fun vs H Q _=>∃ (t:Addr) (prs:Prs),vs=[.ref t]∧Tab H t prs∧Sm prs∧tabB prs=true∧∀ H',Same H H'→Q .non H'
theorem Zdn:FnScope ["thing"] ["thing"] (Zag ZcA):=⟨rfl,rfl,rfl,by decide +kernel,rfl,by decide +kernel,by decide +kernel⟩
theorem Zf3 (D:Zao K mg "need_table" ZcA ["thing"]) (G:FnAt P w K mg base 5 "is_table" ["thing"] ZcY):FnAt P w K mg base 6 "need_table" ["thing"] Zbs:=by
  refine FnAt.of D Zdn (fun vs H Q E h=>?_) (fun f cdv A outer s H vs Q E hr h=>?_)
  · obtain ⟨t,prs,rfl,_⟩:=h
    rfl
  · obtain ⟨t,prs,rfl,hT,hs,hg,q⟩:=h
    refine ⟨_,Zaf (ZaO (Za0 (Za3 (pe_f G hr (Zaa (pv 0) Zab)))) ZaT Zaq),?_⟩
    refine ⟨_,rfl,t,prs,rfl,hT,hs,fun H' sm=>⟨_,rfl,?_⟩⟩
    rw [hg]
    exact iteF (q H' sm)
def ZbM:Sp:=fun vs H Q _=>∃ i:Int,vs=[.int i]∧Q .non H
theorem Zc1:FnScope ["thing"] ["thing"] (Zag Zca):=⟨rfl,rfl,rfl,by decide +kernel,rfl,by decide +kernel,by decide +kernel⟩
theorem Zfa (D:Zao K mg "need_number" Zca ["thing"]) (G:FnAt P w K mg base 1 "is_whole" ["thing"] ZbZ):FnAt P w K mg base 2 "need_number" ["thing"] ZbM:=by
  refine FnAt.of D Zc1 (fun vs H Q E h=>?_) (fun f cdv A outer s H vs Q E hr h=>?_)
  · obtain ⟨i,rfl,_⟩:=h
    rfl
  · obtain ⟨i,rfl,q⟩:=h
    refine ⟨_,Zaf (ZaO (Za0 (Za3 (pe_f G hr (Zaa (pv 0) Zab)))) ZaT Zaq),?_⟩
    exact ⟨_,rfl,i,rfl,_,rfl,iteF q⟩
end
def nfP (ns:List Int):Prop:=∀ i,i+1<ns.length→ns.getD i 0≤ns.getD (i+1) 0
theorem nfB_iff {ns:List Int}:nfB ns=true ↔ nfP ns:=by
  unfold nfB nfP
  simp only [List.all_map,List.all_eq_true,List.mem_range,Function.comp,id,decide_eq_true_eq]
  constructor
  · intro h i hi
    exact h i (by omega)
  · intro h i hi
    exact h i (by omega)
def ZaA (prs:Prs) (i:Nat):List Int:=((prs[i]?).map (·.2)).getD []
theorem ZaE {prs:Prs}{i:Nat} (h:i<prs.length):∃ p∈prs,prs[i]? = some p∧ZaA prs i=p.2:=by
  refine ⟨prs[i],List.getElem_mem h,by simp [h],?_⟩
  unfold ZaA
  rw [List.getElem?_eq_getElem h]
  rfl
theorem ZjX (prs:Prs) (j:Nat):(col prs j).length=prs.length:=by
  unfold col
  rw [List.length_map]
theorem ZhI {prs:Prs}{i j:Nat} (h:i<prs.length):(col prs j).getD i 0=(ZaA prs i).getD j 0:=by
  unfold col ZaA
  rw [List.getD_eq_getElem?_getD,List.getElem?_map,List.getElem?_eq_getElem h]
  rfl
structure GoodP (wide:Nat) (prs:Prs):Prop where
  len:∀ p∈prs,p.2.length=wide
  row:∀ p∈prs,nfP p.2
  down:∀ i,i+1<prs.length→∀ j,j<wide→(ZaA prs i).getD j 0≤(ZaA prs (i+1)).getD j 0
theorem ZnU {wide:Nat}{prs:Prs} (h:1≤prs.length) (hl:∀ p∈prs,p.2.length=wide):w0 prs=wide:=by
  obtain ⟨p,h1,h2,_⟩:=Zbe h
  unfold w0
  rw [h1]
  exact hl p h2
theorem Ziq {wide:Nat}{prs:Prs} (g:GoodP wide prs) (h1:1≤prs.length) (h2:prs.length≤6) (h3:1≤wide) (h4:wide≤6):tabB prs=true:=by
  have hw:=ZnU h1 g.len
  unfold tabB shB srB rowB
  simp only [Bool.and_eq_true,decide_eq_true_eq,List.all_eq_true,List.mem_map,id]
  refine ⟨⟨⟨h1,h2⟩,?_,?_⟩,?_,?_⟩
  · rintro b ⟨p,hp,rfl⟩
    have:=g.len p hp
    simp only [Bool.and_eq_true,decide_eq_true_eq]
    omega
  · rintro b ⟨p,hp,rfl⟩
    rw [decide_eq_true_eq,hw]
    exact g.len p hp
  · rintro b ⟨p,hp,rfl⟩
    exact nfB_iff.mpr (g.row p hp)
  · rintro b ⟨j,hj,rfl⟩
    rw [List.mem_range,hw] at hj
    refine nfB_iff.mpr fun i hi=>?_
    rw [ZjX] at hi
    rw [ZhI (by omega),ZhI hi]
    exact g.down i hi j hj
theorem ZaI {prs:Prs} (h:tabB prs=true):GoodP (w0 prs) prs∧1≤prs.length∧prs.length≤6∧1≤w0 prs∧w0 prs≤6:=by
  unfold tabB at h
  rw [Bool.and_eq_true] at h
  obtain ⟨h1,h2,h3,h4⟩:=Zly h.1
  obtain ⟨p,e1,e2,_⟩:=Zbe h1
  have h5:=h3 p e2
  have h6:=h4 p e2
  have hs:=h.2
  unfold srB at hs
  simp only [Bool.and_eq_true,List.all_eq_true,List.mem_map,id] at hs
  refine ⟨⟨h4,fun p hp=>nfB_iff.mp (hs.1 _ ⟨p,hp,rfl⟩),fun i hi j hj=>?_⟩,h1,h2,by omega,by omega⟩
  have:=nfB_iff.mp (hs.2 _ ⟨j,List.mem_range.mpr hj,rfl⟩) i (by rw [ZjX];exact hi)
  rw [ZhI (by omega),ZhI hi] at this
  exact this
theorem Zef {ns:List Int}{v:Int}{i:Nat}:(ns ++ [v]).getD i 0=if i<ns.length then ns.getD i 0 else if i=ns.length then v else 0:=by
  rw [List.getD_eq_getElem?_getD,List.getD_eq_getElem?_getD]
  by_cases h:i<ns.length
  · rw [if_pos h,List.getElem?_append_left h]
  · rw [if_neg h,List.getElem?_append_right (by omega)]
    by_cases h2:i=ns.length
    · subst h2
      simp
    · rw [if_neg h2,List.getElem?_eq_none (by simp;omega)]
      rfl
theorem ZkX {ns:List Int}{v:Int} (h:nfP ns) (hl:∀ k,k+1=ns.length→ns.getD k 0≤v):nfP (ns ++ [v]):=fun i hi=>by
  rw [List.length_append,List.length_singleton] at hi
  rw [Zef,Zef,if_pos (by omega)]
  by_cases h2:i+1<ns.length
  · rw [if_pos h2]
    exact h i h2
  · rw [if_neg h2,if_pos (by omega)]
    exact hl i (by omega)
theorem ZeK {prs:Prs}{p:Addr × List Int}{i:Nat} (h:i≤prs.length):ZaA (prs ++ [p]) i=if i<prs.length then ZaA prs i else p.2:=by
  unfold ZaA
  by_cases h2:i<prs.length
  · rw [if_pos h2,List.getElem?_append_left h2]
  · have:i=prs.length:=by omega
    subst this
    rw [if_neg h2]
    simp
theorem ZjC {wide:Nat}{prs:Prs}{a:Addr}{cur:List Int} (g:GoodP wide prs) (hl:cur.length=wide) (hn:nfP cur) (hd:prs.length=0∨∀ j,j<wide→(ZaA prs (prs.length - 1)).getD j 0≤cur.getD j 0):GoodP wide (prs ++ [(a,cur)]) where
  len:=fun p hp=>by
    rcases List.mem_append.mp hp with z | z
    · exact g.len p z
    · have:p=(a,cur):=by simpa using z
      subst this
      exact hl
  row:=fun p hp=>by
    rcases List.mem_append.mp hp with z | z
    · exact g.row p z
    · have:p=(a,cur):=by simpa using z
      subst this
      exact hn
  down:=fun i hi j hj=>by
    rw [List.length_append,List.length_singleton] at hi
    rw [ZeK (by omega),ZeK (by omega),if_pos (by omega)]
    by_cases h2:i+1<prs.length
    · rw [if_pos h2]
      exact g.down i h2 j hj
    · rw [if_neg h2]
      rcases hd with z | z
      · omega
      · have:=z j hj
        rw [show prs.length - 1=i by omega] at this
        exact this
theorem ZlU {ns:List Int}{d:Int} (h0:0≤d) (h1:d<ns.length):∃ r∈ns,atI (ns.map V.int) d=some (.int r):=by
  obtain ⟨k,rfl⟩:∃ k:Nat,d=k:=⟨d.toNat,by omega⟩
  have hk:k<ns.length:=by omega
  exact ⟨ns[k],List.getElem_mem hk,ZaB (by simp [hk])⟩
def dRow (ns:List Int):PyData:=.list (ns.map PyData.int)
def dTab (rows:List (List Int)):PyData:=.list (rows.map dRow)
theorem ZeP {K:PySem.W.Frag}{H:Hp}:∀ ns:List Int,RdAll K H (ns.map V.int) (ns.map PyData.int)
  | []=>.nil
  | n :: r=>.cons (.int n) (ZeP r)
theorem Row.rd {K:PySem.W.Frag}{H:Hp}{a:Addr}{ns:List Int} (h:Row H a ns):RdD K H (.ref a) (dRow ns):=.lst h.sq (ZeP ns)
theorem ZeO {K:PySem.W.Frag}{H:Hp}:∀ prs:Prs,(∀ p∈prs,Row H p.1 p.2)→RdAll K H (prs.map fun p=>V.ref p.1) ((prs.map (·.2)).map dRow)
  | [],_=>.nil
  | p :: r,h=>.cons (h p (by simp)).rd (ZeO r fun q hq=>h q (by simp [hq]))
theorem Tab.rd {K:PySem.W.Frag}{H:Hp}{t:Addr}{prs:Prs} (h:Tab H t prs):RdD K H (.ref t) (dTab (prs.map (·.2))):=.lst h.sq (ZeO prs h.r)
theorem Zfi:∀ ns:List Int,PyData.canLayAll0 (ns.map PyData.int)=true∧PyData.depthAll (ns.map PyData.int)≤0
  | []=>by simp [PyData.canLayAll0,PyData.depthAll]
  | n :: r=>by
    have h:=Zfi r
    simp only [List.map_cons,PyData.canLayAll0,PyData.canLay0,PyData.depthAll,PyData.depth,h.1,Bool.and_self,true_and]
    have:=h.2
    omega
theorem Zfh:∀ rows:List (List Int),PyData.canLayAll0 (rows.map dRow)=true∧PyData.depthAll (rows.map dRow)≤1
  | []=>by simp [PyData.canLayAll0,PyData.depthAll]
  | ns :: r=>by
    have h:=Zfh r
    have h2:=Zfi ns
    simp only [List.map_cons,dRow,PyData.canLayAll0,PyData.canLay0,PyData.depthAll,PyData.depth,h2.1]
    have a1:=h.2
    have a2:=h2.2
    refine ⟨by rw [Bool.true_and];exact h.1,?_⟩
    show max (PyData.depthAll (ns.map PyData.int)+1) (PyData.depthAll (r.map dRow))≤1
    omega
theorem ZeF (ns:List Int):SeqAt.shaped (dRow ns)=true:=by
  have h:=Zfi ns
  have h2:=h.2
  show (PyData.canLay0 (.list (ns.map PyData.int)) && decide (PyData.depth (.list (ns.map PyData.int))≤64))=true
  rw [Bool.and_eq_true]
  exact ⟨by simp only [PyData.canLay0];exact h.1,decide_eq_true (by simp only [PyData.depth];omega)⟩
theorem Zcs (rows:List (List Int)):SeqAt.shaped (dTab rows)=true:=by
  have h:=Zfh rows
  have h2:=h.2
  show (PyData.canLay0 (.list (rows.map dRow)) && decide (PyData.depth (.list (rows.map dRow))≤64))=true
  rw [Bool.and_eq_true]
  exact ⟨by simp only [PyData.canLay0];exact h.1,decide_eq_true (by simp only [PyData.depth];omega)⟩
theorem Zhz:∀ ns:List Int,PyData.eqvAll (ns.map PyData.int) (ns.map PyData.int)=true
  | []=>by simp [PyData.eqvAll]
  | n :: r=>by simp [PyData.eqvAll,PyData.eqv,Zhz r]
theorem ZjM (ns:List Int):PyData.eqv (dRow ns) (dRow ns)=true:=by
  unfold dRow
  simp only [PyData.eqv]
  exact Zhz ns
theorem Zhy:∀ rows:List (List Int),PyData.eqvAll (rows.map dRow) (rows.map dRow)=true
  | []=>by simp [PyData.eqvAll]
  | n :: r=>by simp [PyData.eqvAll,ZjM n,Zhy r]
theorem ZjL (rows:List (List Int)):PyData.eqv (dTab rows) (dTab rows)=true:=by
  unfold dTab
  simp only [PyData.eqv]
  exact Zhy rows
theorem ZaN {prs:Prs} (h:tabB prs=true):Sm prs:=by
  obtain ⟨g,h1,h2,h3,h4⟩:=ZaI h
  exact ⟨by omega,fun p hp=>by rw [g.len p hp];omega⟩
theorem Zcg {prs prs':Prs} (h:prs'.map (·.2)=prs.map (·.2)):tabB prs'=tabB prs:=by
  have hl:prs'.length=prs.length:=by
    have:=congrArg List.length h
    simpa using this
  have hm:∀ (f:List Int→Bool),(prs'.map fun p=>f p.2)=(prs.map fun p=>f p.2):=fun f=>by
    have:=congrArg (List.map f) h
    rw [List.map_map,List.map_map] at this
    exact this
  have hm2:∀ (f:List Int→Int),(prs'.map fun p=>f p.2)=(prs.map fun p=>f p.2):=fun f=>by
    have:=congrArg (List.map f) h
    rw [List.map_map,List.map_map] at this
    exact this
  have hw:w0 prs'=w0 prs:=by
    have:=congrArg (fun l:List (List Int)=>(l.head?.map List.length).getD 0) h
    simp only [List.head?_map,Option.map_map] at this
    exact this
  have hc:∀ j,col prs' j=col prs j:=fun j=>hm2 fun ns=>ns.getD j 0
  unfold tabB shB srB
  rw [hl,hw,hm rowB,hm fun ns=>decide (ns.length=w0 prs),hm nfB]
  simp only [hc]
section
variable {P:Program}{w:World}{K:PySem.W.Frag}{mg:Str→Option Value}{base:Heap}
end
def StK (H:Hp) (s:Addr):Prop:=∃ g b c:Int,H s=some (.lst [.int g,.int b,.int c])
def But (s:Addr) (H H':Hp):Prop:=∀ b o,b≠s→H b=some o→H' b=some o
theorem But.refl (s:Addr) (H:Hp):But s H H:=fun _ _ _ e=>e
theorem But.trans {s:Addr}{H H1 H2:Hp} (a:But s H H1) (b:But s H1 H2):But s H H2:=fun c o n e=>b c o n (a c o n e)
theorem Same.but {s:Addr}{H H':Hp} (a:Same H H'):But s H H':=fun c o _ e=>a c o e
theorem StK.same {H H':Hp}{s:Addr} (e:Same H H') (h:StK H s):StK H' s:=let ⟨g,b,c,h⟩:=h;⟨g,b,c,e _ _ h⟩
theorem StK.ne {H:Hp}{s a:Addr} (h:StK H s) (n:H a=none):s≠a:=let ⟨_,_,_,h⟩:=h;Zak h n
theorem But.free {s a:Addr}{H H':Hp} (b:But s H H') (S:StK H' s) (h:H' a=none):H a=none:=by
  cases e:H a with
  | none=>rfl
  | some o =>
    by_cases hz:a=s
    · obtain ⟨_,_,_,z⟩:=S
      rw [hz,z] at h
      cases h
    · rw [b a o hz e] at h
      cases h
theorem Same.but' {s:Addr}{H H1 H2:Hp} (a:Same H H1) (n:H s=none) (b:But s H1 H2):Same H H2:=fun c o e=>b c o (Zak e n) (a c o e)
theorem Row.but {H H':Hp}{s a:Addr}{ns:List Int} (r:Row H a ns) (n:a≠s) (e:But s H H'):Row H' a ns:=e _ _ n r
theorem Tab.but {H H':Hp}{s t:Addr}{prs:Prs} (r:Tab H t prs) (n:t≠s) (ns:∀ p∈prs,p.1≠s) (e:But s H H'):Tab H' t prs:=⟨e _ _ n r.l,fun p hp=>(r.r p hp).but (ns p hp) e⟩
theorem len0:0≤sizeLine:=Nat.zero_le _
theorem len1:1≤sizeLine:=by decide
theorem len2:2≤sizeLine:=by decide
theorem len3:3≤sizeLine:=by decide
theorem len4:4≤sizeLine:=by decide
theorem len5:5≤sizeLine:=by decide
theorem Row.new {H:Hp}{D:Addr}:Row (upd H D (.lst [])) D []:=Zad
theorem Row.push {H:Hp}{D:Addr}{ds:List Int}{v:Int}:Row (upd H D (.lst (ds.map V.int ++ [.int v]))) D (ds ++ [v]):=by
  unfold Row
  rw [Zad,List.map_append]
  rfl
section
variable {P:Program}{w:World}{K:PySem.W.Frag}{mg:Str→Option Value}{base:Heap}
def Zix (K:PySem.W.Frag):Sp:=fun vs H Q _=>∃ (a:Addr) (ns:List Int) (k:Nat),vs=[.ref a,.int (k:Nat)]∧SqL K H a (ns.map V.int)∧k≤100∧∀ c,Q (.int c) H
theorem Zkw:FnScope ["script","k"] ["script","k"] (Zag ZjT):=⟨rfl,rfl,rfl,by decide +kernel,rfl,by decide +kernel,by decide +kernel⟩
theorem ZkP (T:Blt mg) (D:Zao K mg "_law_cell" ZjT ["script","k"]):FnAt P w K mg base 1 "_law_cell" ["script","k"] (Zix K):=by
  refine FnAt.of D Zkw (fun vs H Q E h=>?_) (fun f cdv A outer s H vs Q E hr h=>?_)
  · obtain ⟨a,ns,k,rfl,_⟩:=h
    rfl
  · obtain ⟨a,ns,k,rfl,hS,hk,q⟩:=h
    refine ⟨_,Zac (ZaO (Zat o_lt (pv 1) (pe_b Zah T.len boot_len (Zaa (pv 0) Zab)) (Zax _)) (Zaf (Zan (Zav Zam (pv 0) (pv 1) (fun _ _=>rfl)))) Zaq)
      (Zaf (Zan (Zas Zbt (Zas Zbt (Zas ZdA (Zas ZdA Zae (pv 1)) (pv 1)) (Zas ZdA Zae (pv 1))) Zae))),?_⟩
    refine ⟨_,rfl,_,rfl,a,_,rfl,.inl hS,_,_,rfl,rfl,_,rfl,?_⟩
    rw [List.length_map]
    refine ite2 (fun h1=>?_) (fun h1=>?_)
    · have h1:=of_decide_eq_true h1
      exact ⟨_,rfl,_,rfl,a,_,_,_,rfl,rfl,hS,Zco (by omega),q _⟩
    · exact ⟨_,rfl,_,_,rfl,rfl,.inl ⟨by decide,by decide⟩,_,rfl,_,_,rfl,rfl,.inr ⟨by omega,by omega⟩,_,rfl,_,_,rfl,rfl,.inl ⟨by decide,by decide⟩,_,_,rfl,rfl,_,_,rfl,rfl,q _⟩
def Ziu:Sp:=fun vs H Q _=>∃ c:Int,vs=[.int c]∧∀ s H',H s=none→Same H H'→StK H' s→Q (.ref s) H'
theorem sc_store:FnScope ["cell","great"] ["cell"] (Zag ZjR):=⟨rfl,rfl,rfl,by decide +kernel,rfl,by decide +kernel,by decide +kernel⟩
theorem ZkM (D:Zao K mg "_law_store" ZjR ["cell"]):FnAt P w K mg base 1 "_law_store" ["cell"] Ziu:=by
  refine FnAt.of D sc_store (fun vs H Q E h=>?_) (fun f cdv A outer s H vs Q E hr h=>?_)
  · obtain ⟨c,rfl,_⟩:=h
    rfl
  · obtain ⟨c,rfl,q⟩:=h
    have nd:=sc_store.nd
    refine ⟨_,Zac (Zaj (i:=1) nd rfl (Or.inl rfl) Zae) (Zac (ZaO (Zat o_ge (pv 0) (Zas ZmC Zae Zae) (Zax _)) (Zaf (Zaj (i:=1) nd rfl (Or.inl rfl) (pv 0))) Zaq)
      (Zaf (Zan (ZaF (Zaa (pv 1) (Zaa (Zas ZgP (pv 0) Zae) (Zaa Zae Zab))))))),?_⟩
    refine ⟨_,rfl,_,_,rfl,rfl,⟨by decide,by decide,by decide⟩,_,_,rfl,rfl,_,rfl,ite2 (fun _=>?_) (fun _=>?_)⟩
    · exact ⟨_,rfl,_,rfl,_,rfl,_,_,rfl,rfl,by decide,len3,fun p hp=>q p _ hp (Same.new hp) ⟨_,_,_,Zad⟩⟩
    · exact ⟨_,rfl,_,rfl,_,_,rfl,rfl,by decide,len3,fun p hp=>q p _ hp (Same.new hp) ⟨_,_,_,Zad⟩⟩
def ZaW:Sp:=fun vs H Q _=>∃ (s:Addr) (m:Int),vs=[.ref s,.int m]∧0<m∧m<100000∧StK H s∧∀ d H',0≤d→d<m→But s H H'→StK H' s→Q (.int d) H'
theorem sc_takeK:FnScope ["store","many","told","one"] ["store","many"] (Zag ZmW):=⟨rfl,rfl,rfl,by decide +kernel,rfl,by decide +kernel,by decide +kernel⟩
set_option maxHeartbeats 16000000 in
theorem ZkL (D:Zao K mg "_law_take" ZmW ["store","many"]):FnAt P w K mg base 1 "_law_take" ["store","many"] ZaW:=by
  refine FnAt.of D sc_takeK (fun vs H Q E h=>?_) (fun f cdv A outer s H vs Q E hr h=>?_)
  · obtain ⟨st,m,rfl,_⟩:=h
    rfl
  · obtain ⟨st,m,rfl,hm,hm2,⟨g,b,c,h1⟩,q⟩:=h
    have nd:=sc_takeK.nd
    refine ⟨_,Zac (ZaO (Zat o_gt (Zav Zam (pv 0) Zae (fun _ _=>rfl)) Zae (Zax _))
        (Zac (Zaj (i:=2) nd rfl (Or.inl rfl) (Zas ZgP (Zav Zam (pv 0) Zae (fun _ _=>rfl)) (pv 1)))
        (Zac (Zdr (Zas Zny (Zav Zam (pv 0) Zae (fun _ _=>rfl)) (pv 1)) (ZfX (pv 0) Zae Zc0))
        (Zaf (Zan (pv 2))))) Zaq)
      (Zac (Zdr (Zas Zbt (Zav Zam (pv 0) Zae (fun _ _=>rfl)) Zae) (ZfX (pv 0) Zae Zc0))
      (Zac (Zaj (i:=3) nd rfl (Or.inl rfl) (Zas ZgP (Zas ZdA (Zas Zbt (Zav Zam (pv 0) Zae (fun _ _=>rfl)) (Zas ZdA Zae (Zav Zam (pv 0) Zae (fun _ _=>rfl)))) Zae) Zae))
      (Zac (Zaj (i:=3) nd rfl (Or.inl rfl) (Zas ZgP (Zas ZdA (pv 3) (pv 3)) Zae))
      (Zac (Zaj (i:=3) nd rfl (Or.inl rfl) (Zas ZgP (Zas ZdA (Zas Zbt (pv 3) (Zas ZdA Zae (Zav Zam (pv 0) Zae (fun _ _=>rfl)))) Zae) Zae))
      (Zaf (Zan (Zas ZgP (Zas Zny (pv 3) Zae) (pv 1)))))))),?_⟩
    refine ⟨_,rfl,st,_,0,.int g,rfl,rfl,SqL.of h1,rfl,_,_,rfl,rfl,_,rfl,ite2 (fun _=>?_) (fun _=>?_)⟩
    · refine ⟨_,rfl,st,_,0,.int g,rfl,rfl,SqL.of h1,rfl,_,rfl,_,_,rfl,rfl,hm,?_⟩
      refine ⟨_,rfl,st,_,0,.int g,rfl,rfl,SqL.of h1,rfl,_,rfl,_,_,rfl,rfl,⟨hm,by omega⟩,_,rfl,st,_,0,0,rfl,rfl,h1,rfl,?_⟩
      refine ⟨_,rfl,q _ _ (Int.emod_nonneg _ (by omega)) (Int.emod_lt_of_pos _ hm) (fun b o n e=>by rw [Zal n];exact e) ⟨_,_,_,Zad⟩⟩
    · refine ⟨_,rfl,st,_,2,.int c,rfl,rfl,SqL.of h1,rfl,_,_,rfl,rfl,_,rfl,st,_,2,2,rfl,rfl,h1,rfl,?_⟩
      have e1:(upd H st (.lst ([V.int g,.int b,.int c].set 2 (.int (c+1))))) st=some (.lst [.int g,.int b,.int (c+1)]):=Zad
      have hb:But st H (upd H st (.lst ([V.int g,.int b,.int c].set 2 (.int (c+1))))):=fun b o n e=>by rw [Zal n];exact e
      generalize upd H st (.lst ([V.int g,.int b,.int c].set 2 (.int (c+1))))=H1 at e1 hb ⊢
      refine ⟨_,rfl,st,_,1,.int b,rfl,rfl,SqL.of e1,rfl,_,rfl,st,_,2,.int (c+1),rfl,rfl,SqL.of e1,rfl,_,_,rfl,rfl,.inl ⟨by decide,by decide⟩,_,_,rfl,rfl,_,_,rfl,rfl,.inr ⟨by decide,by decide⟩,_,_,rfl,rfl,(by decide),?_⟩
      generalize (b+7919 * (c+1)) * 48271=z1
      have b1:0≤z1 % 2147483647∧z1 % 2147483647<2147483647:=⟨Int.emod_nonneg _ (by decide),Int.emod_lt_of_pos _ (by decide)⟩
      generalize z1 % 2147483647=o1 at b1 ⊢
      refine ⟨_,rfl,_,rfl,_,_,rfl,rfl,.inl ⟨by omega,by omega⟩,_,_,rfl,rfl,(by decide),?_⟩
      generalize (o1 * o1) % 2147483629=o2
      refine ⟨_,rfl,_,rfl,st,_,2,.int (c+1),rfl,rfl,SqL.of e1,rfl,_,_,rfl,rfl,.inl ⟨by decide,by decide⟩,_,_,rfl,rfl,_,_,rfl,rfl,.inr ⟨by decide,by decide⟩,_,_,rfl,rfl,(by decide),?_⟩
      generalize (o2+40692 * (c+1)) * 69621 % 2147483587=o3
      refine ⟨_,rfl,_,_,rfl,rfl,⟨by decide,by decide⟩,_,rfl,_,_,rfl,rfl,hm,?_⟩
      exact q _ _ (Int.emod_nonneg _ (by omega)) (Int.emod_lt_of_pos _ hm) hb ⟨_,_,_,e1⟩
def Zl5:Sp:=fun vs H Q _=>∃ (s:Addr) (m:Int),vs=[.ref s,.int m]∧0<m∧m<1000∧StK H s∧∀ d H',0≤d→d<10 ^ m.toNat→But s H H'→StK H' s→Q (.int d) H'
theorem sc_far:FnScope ["store","figures","found","k"] ["store","figures"] (Zag dFar):=⟨rfl,rfl,rfl,by decide +kernel,rfl,by decide +kernel,by decide +kernel⟩
theorem Znx (T:Blt mg) (D:Zao K mg "_law_far" dFar ["store","figures"]) (G:FnAt P w K mg base 1 "_law_take" ["store","many"] ZaW):FnAt P w K mg base 2 "_law_far" ["store","figures"] Zl5:=by
  refine FnAt.of D sc_far (fun vs H Q E h=>?_) (fun f cdv A outer s H vs Q E hr h=>?_)
  · obtain ⟨st,m,rfl,_⟩:=h
    rfl
  · obtain ⟨st,m,rfl,hm,hm2,S,q⟩:=h
    have nd:=sc_far.nd
    refine ⟨_,Zac (Zaj (i:=2) nd rfl (Or.inl rfl) Zae)
      (Zac (Zci PassesOwn.never rfl (Zbk rfl T.rng (Zaa (Zas Zbt Zae (pe_f G hr (Zaa (pv 0) (Zaa (pv 1) Zab)))) Zab)) (ZaM (i:=3) nd rfl (Or.inl rfl))
        (Zaf (Zaj (i:=2) nd rfl (Or.inl rfl) (Zas Zbt (Zas ZdA (pv 2) Zae) (pe_f G hr (Zaa (pv 0) (Zaa Zae Zab)))))))
      (Zaf (Zan (pv 2)))),?_⟩
    refine ⟨_,rfl,_,rfl,st,m,rfl,hm,by omega,S,fun d H1 d0 d1 B1 S1=>⟨_,_,rfl,rfl,_,rfl,by omega,by omega,ZbA (fun i σ H2=>∃ (n:Int) (o3:Option V),σ = [some (.ref st),some (.int m),some (.int n),o3]∧0≤n∧n<10 ^ i∧But st H H2∧StK H2 st) ⟨0,none,rfl,by decide,by decide,B1,S1⟩ ?_ ?_⟩⟩
    · rintro i σ H2 hi ⟨n,o3,rfl,hn,hnb,B2,S2⟩
      refine ⟨_,rfl,_,_,rfl,rfl,.inr ⟨by decide,by decide⟩,_,rfl,st,_,rfl,by decide,by decide,S2,fun d H3 d0 d1 B3 S3=>⟨_,_,rfl,rfl,_,_,rfl,by omega,by rw [Int.pow_succ];generalize (10:Int) ^ i=M at *;omega,B2.trans B3,S3⟩⟩
    · rintro σ H2 ⟨n,o3,rfl,hn,hnb,B2,S2⟩
      refine ⟨_,rfl,q n H2 hn (Int.lt_of_lt_of_le hnb ?_) B2 S2⟩
      have h1:(10:Nat) ^ (1+d).toNat≤10 ^ m.toNat:=Nat.pow_le_pow_right (by decide) (by omega)
      have h2:((10:Nat) ^ (1+d).toNat:Int)≤((10:Nat) ^ m.toNat:Int):=by exact_mod_cast h1
      exact h2
end
theorem ZhF {xs:List V}:cutV xs (some (-1)) none=xs.drop (xs.length - 1):=by
  have e:HT.sIx xs.length 0 (some (-1))=xs.length - 1:=by
    show (if (-1:Int)<0 then ((-1:Int)+(xs.length:Int)).toNat else min (-1:Int).toNat xs.length)=xs.length - 1
    rw [if_pos (by decide)]
    omega
  unfold cutV
  rw [e,HT.sIx_none]
  refine List.take_of_length_le ?_
  rw [List.length_drop]
  omega
def ZcN (ns:List Int):List Int:=ns.drop (ns.length - 1)
theorem Zjt {ns:List Int}{k:Nat} (h:k+1=ns.length):ns.getD k 0∈ZcN ns:=by
  unfold ZcN
  rw [show ns.length - 1=k by omega,List.getD_eq_getElem?_getD,List.getElem?_eq_getElem (by omega)]
  exact List.mem_iff_getElem?.mpr ⟨0,by rw [List.getElem?_drop,Nat.add_zero];exact List.getElem?_eq_getElem (by omega)⟩
theorem Zga (ns:List Int):(ZcN ns).length≤1:=by
  unfold ZcN
  rw [List.length_drop]
  omega
theorem ZmS (A:List Int):PyData.eqv (dRow A) (dRow [])=A.isEmpty:=by
  cases A with
  | nil=>exact ZjM []
  | cons a A=>simp [dRow,PyData.eqv,PyData.eqvAll]
theorem ZmL {tc:TT}{t u:TS}{D:Ends}{σ0:L2.St}{H0:Hp} (C:(L2.St→Hp→Prop)→Prop) (h:C (u D)) (hA:C (u D)→tc σ0 H0 (fun b H1=>if b=true then t { D with nx:=u D } σ0 H1 else u D σ0 H1)):tSeq (tIfS tc t Zdx) u D σ0 H0:=hA h
def Bnd (prs:Prs):Prop:=∀ p∈prs,∀ n∈p.2,n.natAbs<10 ^ 38
def Stp (m:Int) (n:Int):Prop:=-10000000000000000000000000≤n∧n≤10000000000000000000000000+m * 1000000000000000000000000
theorem e25:(10:Int) ^ (25:Int).toNat=10000000000000000000000000:=by decide
theorem e24:(10:Int) ^ (24:Int).toNat=1000000000000000000000000:=by decide
section
variable {P:Program}{w:World}{K:PySem.W.Frag}{mg:Str→Option Value}{base:Heap}
def Zg5:Sp:=fun vs H Q _=>∃ (s:Addr),vs=[.ref s]∧StK H s∧∀ t prs H',H t=none→(∀ p∈prs,H p.1=none)→(prs.map (·.1)).Nodup→But s H H'→StK H' s→Tab H' t prs→tabB prs=true→Bnd prs→Q (.ref t) H'
theorem sc_tableK:FnScope ["store","wide","begin","way","found","row","line","place","ahead","more"] ["store"] (Zag ZhB):=⟨rfl,rfl,rfl,by decide +kernel,rfl,by decide +kernel,by decide +kernel⟩
set_option maxHeartbeats 32000000 in
theorem ZiX (T:Blt mg) (D:Zao K mg "_law_table" ZhB ["store"]) (G:FnAt P w K mg base 1 "_law_take" ["store","many"] ZaW) (G2:FnAt P w K mg base 2 "_law_far" ["store","figures"] Zl5):FnAt P w K mg base 3 "_law_table" ["store"] Zg5:=by
  refine FnAt.of D sc_tableK (fun vs H Q E h=>?_) (fun f cdv A outer s H vs Q E hr h=>?_)
  · obtain ⟨st,rfl,_⟩:=h
    rfl
  · obtain ⟨st,rfl,S,q⟩:=h
    have nd:=sc_tableK.nd
    have nd1:(["one","place"]:List Str).Nodup:=by decide +kernel
    have hr1:Room 1 _:=hr.mono (by decide)
    refine ⟨_,Zac (Zaj (i:=1) nd rfl (Or.inl rfl) (Zas Zbt Zae (pe_f G hr1 (Zaa (pv 0) (Zaa Zae Zab)))))
      (Zac (Zaj (i:=2) nd rfl (Or.inl rfl) (Zav Zam (ZaF (Zaa Zae (Zaa (Zas Zc4 (pe_f G hr1 (Zaa (pv 0) (Zaa Zae Zab))) Zae) (Zaa (pe_f G2 hr (Zaa (pv 0) (Zaa Zae Zab))) (Zaa (Zas Zc4 Zae (pe_f G2 hr (Zaa (pv 0) (Zaa Zae Zab)))) Zab)))))
        (pe_f G hr1 (Zaa (pv 0) (Zaa Zae Zab))) (fun _ _=>rfl)))
      (Zac (Zaj (i:=3) nd rfl (Or.inl rfl) (pe_f G hr1 (Zaa (pv 0) (Zaa Zae Zab))))
      (Zac (Zaj (i:=4) nd rfl (Or.inl rfl) (ZaF Zab))
      (Zac (Zci PassesOwn.never rfl (Zbk rfl T.rng (Zaa (Zas Zbt Zae (pe_f G hr1 (Zaa (pv 0) (Zaa Zae Zab)))) Zab)) (ZaM (i:=5) nd rfl (Or.inl rfl))
        (Zac (Zaj (i:=6) nd rfl (Or.inl rfl) (ZaF Zab))
        (Zac (Zci PassesOwn.never rfl (Zbk rfl T.rng (Zaa (pv 1) Zab)) (ZaM (i:=7) nd rfl (Or.inr rfl))
          (Zac (Zaj (i:=8) nd rfl (Or.inl rfl) (Zas ZbK (Zcv Zdd (pv 6) (ZcK (ZgG ZgO Zae)) Zdh) (ZaX ["one","place"] [none,some 7] (Zag ZhB) ["store","wide","begin","way","found","row","line","place","ahead","more"] rfl (Zba (Zcv Zdd (pv 4) (ZcK (ZgG ZgO Zae)) Zdh)) (by decide +kernel)
            (fun cl C s2 H2 ex=>pg_c 0 nd1) (fun cl C s2 H2 ex=>ZaK) (fun cl C s2 H2 ex=>Zav (ixL K) (pv 0) (pv 1) (fun _ _=>rfl)))))
          (Zac (Zaj (i:=9) nd rfl (Or.inl rfl) (pe_f G hr1 (Zaa (pv 0) (Zaa (Zav Zam (ZaF (Zaa Zae (Zaa Zae (Zaa Zae (Zaa Zae (Zaa Zae Zab)))))) (pv 3) (fun _ _=>rfl)) Zab))))
          (Zac (ZaO (PW.pt (Znk (Zat Zdj (pv 3) Zae (Zax _)) (Zmf (Zat Zdj (pv 9) Zae (Zax _))))) (Zaf (Zaj (i:=9) nd rfl (Or.inl rfl) (pe_f G2 hr (Zaa (pv 0) (Zaa Zae Zab))))) Zaq)
          (Zaf (Zau (Zex PySem.F.plainAttrs_list PySem.F.slot_list_append PySem.F.type_list_append Zbl (pv 6) (Zaa (Zas Zbt (pe_b (Zj2 rfl) T.max boot_max (Zaa (Zas ZbK (pv 8) (Zas ZfZ (ZaF (Zaa (pv 2) Zab)) (pe_t Zj5 T.int boot_int (Zaa (Zdi (ZlG hr.units) (pv 8) (ZaF Zab) (Zax _)) Zab)))) Zab)) (pv 9)) Zab))))))))
        (Zaf (Zau (Zex PySem.F.plainAttrs_list PySem.F.slot_list_append PySem.F.type_list_append Zbl (pv 4) (Zaa (pv 6) Zab)))))))
      (Zaf (Zan (pv 4))))))),?_⟩
    refine ⟨_,rfl,st,_,rfl,by decide,by decide,S,fun w1 H1 w10 w11 B1 S1=>⟨_,_,rfl,rfl,?_⟩⟩
    refine ⟨_,rfl,st,_,rfl,by decide,by decide,S1,fun d1 H2 d10 d11 B2 S2=>⟨_,_,rfl,rfl,_,rfl,st,_,rfl,by decide,by decide,S2,fun d2 H3 d20 d2b B3 S3=>⟨_,rfl,st,_,rfl,by decide,by decide,S3,fun d3 H4 d30 d3b B4 S4=>⟨_,_,rfl,rfl,len4,fun l hl=>?_⟩⟩⟩⟩
    have S4':=S4.same (Same.new (o:=.lst [.int 0,.int (d1 - 4),.int d2,.int (0 - d3)]) hl)
    refine ⟨_,rfl,st,_,rfl,by decide,by decide,S4',fun d4 H5 d40 d41 B5 S5=>?_⟩
    obtain ⟨bg,hbg0,ebg⟩:=ZlU (ns:=[0,d1 - 4,d2,0 - d3]) d40 d41
    rw [e25] at d2b d3b
    have hbg:Stp 0 bg:=by
      simp only [List.mem_cons,List.not_mem_nil,or_false] at hbg0
      unfold Stp
      omega
    refine ⟨l,_,_,.int bg,rfl,rfl,SqL.of (B5 _ _ (Ne.symm (S4.ne hl)) Zad),ebg,?_⟩
    have C5:But st H H5:=B1.trans (B2.trans (B3.trans (B4.trans ((Same.but (Same.new hl)).trans B5))))
    clear B1 B2 B3 B4 B5 S1 S2 S3 S4 S4' ebg
    refine ⟨_,rfl,st,_,rfl,by decide,by decide,S5,fun way H6 way0 way1 B6 S6=>?_⟩
    have C6:=C5.trans B6
    clear B6 C5 S5
    refine ⟨len0,fun tb htb=>?_⟩
    have tb0:H tb=none:=C6.free S6 htb
    have C7:=C6.trans (Same.but (Same.new (o:=.lst []) htb))
    have S7:=S6.same (Same.new (o:=.lst []) htb)
    refine ⟨_,rfl,st,_,rfl,by decide,by decide,S7,fun rw1 H8 rw10 rw11 B8 S8=>?_⟩
    have hbt:tb≠st:=Ne.symm (S6.ne htb)
    have t8:H8 tb=some (.lst []):=B8 _ _ hbt Zad
    have C8:=C7.trans B8
    refine ⟨_,_,rfl,rfl,_,rfl,by omega,by omega,ZbA (fun i σ H2=>∃ (prs:Prs) (o5 o6 o7 o8 o9:Option V),σ = [some (.ref st),some (.int (1+w1)),some (.int bg),some (.int way),some (.ref tb),o5,o6,o7,o8,o9] ∧
      But st H H2∧StK H2 st∧Tab H2 tb prs∧prs.length=i∧GoodP (1+w1).toNat prs∧(prs.map (·.1)).Nodup∧(∀ p∈prs,H p.1=none∧p.1≠st)∧∀ p∈prs,∀ n∈p.2,Stp (6 * (i:Nat)) n)
      ⟨[],none,none,none,none,none,rfl,C8,S8,⟨t8,fun p hp=>nomatch hp⟩,rfl,⟨fun p hp=>(nomatch hp),fun p hp=>(nomatch hp),fun i hi=>absurd hi (by simp)⟩,by simp,(fun p hp=>nomatch hp),(fun p hp=>nomatch hp)⟩ ?_ ?_⟩
    · rintro i σ H2 hi ⟨prs,o5,o6,o7,o8,o9,rfl,B,S,hT,hlen,hg,hnd,hfr,hbd⟩
      refine ⟨len0,fun nn hnn=>?_⟩
      have nn0:H nn=none:=B.free S hnn
      have nnt:tb≠nn:=Zak hT.l hnn
      have nnp:∀ p∈prs,p.1≠nn:=fun p hp=>Zak (hT.r p hp) hnn
      have nns:nn≠st:=Ne.symm (S.ne hnn)
      have hps:∀ p∈prs,p.1≠st:=fun p hp=>(hfr p hp).2
      refine ⟨_,rfl,1+w1,rfl,by omega,by omega,ZbA (fun j σ H3=>∃ (cur:List Int) (o7 o8 o9:Option V),σ = [some (.ref st),some (.int (1+w1)),some (.int bg),some (.int way),some (.ref tb),some (.int (0+(i:Nat))),some (.ref nn),o7,o8,o9] ∧
        But st H H3∧StK H3 st∧Tab H3 tb prs∧Row H3 nn cur∧cur.length=j∧nfP cur∧(i=0∨∀ k,k<j→(ZaA prs (i - 1)).getD k 0≤cur.getD k 0)∧∀ n∈cur,Stp (6 * (i:Nat)+(j:Nat)) n)
        ⟨[],o7,o8,o9,rfl,B.trans (Same.but (Same.new hnn)),S.same (Same.new hnn),hT.same (Same.new hnn),Row.new,rfl,fun k hk=>absurd hk (by simp),.inr fun k hk=>absurd hk (by simp),fun n hn=>nomatch hn⟩ ?_ ?_⟩
      · rintro j σ H3 hj ⟨cur,o7,o8,o9,rfl,B3,S3,hT3,hR3,hcl,hnf,hab,hcb⟩
        refine ⟨_,rfl,_,rfl,_,rfl,nn,_,rfl,hR3.sq,fun p1 hp1=>?_⟩
        rw [ZhF]
        have e1:(upd H3 p1 (.lst ((cur.map V.int).drop ((cur.map V.int).length - 1)))) p1=some (.lst ((ZcN cur).map V.int)):=by
          rw [Zad]
          unfold ZcN
          rw [List.map_drop,List.length_map]
        have s1:Same H3 (upd H3 p1 (.lst ((cur.map V.int).drop ((cur.map V.int).length - 1)))):=Same.new hp1
        generalize upd H3 p1 (.lst ((cur.map V.int).drop ((cur.map V.int).length - 1)))=H4 at e1 s1 ⊢
        have hT4:=hT3.same s1
        refine ⟨_,rfl,_,rfl,_,rfl,tb,_,rfl,hT4.sq,fun p2 hp2=>?_⟩
        rw [ZhF]
        have e2:(upd H4 p2 (.lst ((prs.map fun p=>V.ref p.1).drop ((prs.map fun p=>V.ref p.1).length - 1)))) p2=some (.lst ((prs.drop (prs.length - 1)).map fun p=>V.ref p.1)):=by
          rw [Zad,List.map_drop,List.length_map]
        have s2:Same H4 (upd H4 p2 (.lst ((prs.map fun p=>V.ref p.1).drop ((prs.map fun p=>V.ref p.1).length - 1)))):=Same.new hp2
        generalize upd H4 p2 (.lst ((prs.map fun p=>V.ref p.1).drop ((prs.map fun p=>V.ref p.1).length - 1)))=H5 at e2 s2 ⊢
        have hT5:=hT4.same s2
        refine ⟨p2,rfl,⟨_,SqL.of e2⟩,Zbx (ms:=prs.drop (prs.length - 1)) (fun p:Addr × List Int=>V.ref p.1) (fun p=>.int (p.2.getD j 0)) (SqL.of e2) (sl6 (by rw [List.length_drop];omega)) (fun p hp H' Q' sm q'=>?_) fun D1 H6 hD1 s6 hDl=>?_⟩
        · have hpm:=List.mem_of_mem_drop hp
          have hpl:=hg.len p hpm
          exact ⟨_,rfl,_,rfl,p.1,_,_,_,rfl,rfl,((hT5.r p hpm).same sm).sq,by rw [Int.zero_add];exact Zco (by omega),q' _ (Same.refl _)⟩
        have e6:=s6 _ _ (s2 _ _ e1)
        have hDl2:H6 D1=some (.lst (((prs.drop (prs.length - 1)).map fun p=>p.2.getD j 0).map V.int)):=by
          rw [hDl,List.map_map]
          rfl
        refine ⟨p1,D1,_,_,rfl,rfl,e6,hDl2,?_,fun ah hah=>?_⟩
        · rw [List.length_map,List.length_map,List.length_map,List.length_drop]
          have:=Zga cur
          exact sl6 (by omega)
        have eah:Row (upd H6 ah (.lst ((ZcN cur).map V.int ++ ((prs.drop (prs.length - 1)).map fun p=>p.2.getD j 0).map V.int))) ah (ZcN cur ++ (prs.drop (prs.length - 1)).map fun p=>p.2.getD j 0):=by
          unfold Row
          rw [Zad,List.map_append]
        have s7:Same H6 (upd H6 ah (.lst ((ZcN cur).map V.int ++ ((prs.drop (prs.length - 1)).map fun p=>p.2.getD j 0).map V.int))):=Same.new hah
        generalize upd H6 ah (.lst ((ZcN cur).map V.int ++ ((prs.drop (prs.length - 1)).map fun p=>p.2.getD j 0).map V.int))=H7 at eah s7 ⊢
        have ha0:∀ k,k+1=cur.length→cur.getD k 0∈ZcN cur ++ (prs.drop (prs.length - 1)).map fun p=>p.2.getD j 0:=fun k hk=>List.mem_append_left _ (Zjt hk)
        have ha1:i=0∨(ZaA prs (i - 1)).getD j 0∈ZcN cur ++ (prs.drop (prs.length - 1)).map fun p=>p.2.getD j 0:=by
          by_cases z:i=0
          · exact .inl z
          · obtain ⟨p,hp1,hp2,hp3⟩:=ZaE (prs:=prs) (i:=i - 1) (by omega)
            refine .inr (List.mem_append_right _ (List.mem_map.mpr ⟨p,?_,by rw [hp3]⟩))
            exact List.mem_iff_getElem?.mpr ⟨0,by rw [List.getElem?_drop,Nat.add_zero,hlen];exact hp2⟩
        have hal:(ZcN cur ++ (prs.drop (prs.length - 1)).map fun p=>p.2.getD j 0).length≤2:=by
          rw [List.length_append,List.length_map,List.length_drop]
          have:=Zga cur
          omega
        have haB:∀ a∈ZcN cur ++ (prs.drop (prs.length - 1)).map fun p=>p.2.getD j 0,Stp (6 * (i:Nat)+(j:Nat)) a:=fun a ha=>by
          rcases List.mem_append.mp ha with z | z
          · exact hcb a (List.mem_of_mem_drop z)
          · obtain ⟨p,hp,rfl⟩:=List.mem_map.mp z
            have hpm:=List.mem_of_mem_drop hp
            have hpl:=hg.len p hpm
            have:=hbd p hpm (p.2.getD j 0) (by rw [List.getD_eq_getElem?_getD,List.getElem?_eq_getElem (by omega)];exact List.getElem_mem _)
            unfold Stp at this ⊢
            omega
        generalize (ZcN cur ++ (prs.drop (prs.length - 1)).map fun p=>p.2.getD j 0)=aa at eah ha0 ha1 hal haB
        have s37:Same H3 H7:=s1.trans (s2.trans (s6.trans s7))
        have nah:ah≠st:=fun z=>(S3.same (s1.trans (s2.trans s6))).ne hah z.symm
        have nan:ah≠nn:=fun z=>by
          have:=(s1.trans (s2.trans s6)) _ _ hR3
          rw [z,this] at hah
          cases hah
        have S4:=S3.same s37
        have hT8:=hT3.same s37
        have hR8:=hR3.same s37
        have B7:=B3.trans (Same.but s37)
        clear S3 hT3 hR3 B3 s37 s7 s6 s2 s1 e6 hDl hDl2 e1 e2 hT4 hT5 hah hD1 hp1 hp2
        refine ⟨_,rfl,len5,fun lm hlm=>?_⟩
        have slm:Same H7 (upd H7 lm (.lst [.int 1,.int 2,.int 3,.int 9,.int 3])):=Same.new hlm
        have elm:(upd H7 lm (.lst [.int 1,.int 2,.int 3,.int 9,.int 3])) lm=some (.lst ([1,2,3,9,3].map V.int)):=Zad
        generalize upd H7 lm (.lst [.int 1,.int 2,.int 3,.int 9,.int 3])=H8' at slm elm ⊢
        obtain ⟨r,hr1',hr2'⟩:=ZlU (ns:=[1,2,3,9,3]) way0 way1
        have hrb:0<r∧r<100:=by
          simp only [List.mem_cons,List.not_mem_nil,or_false] at hr1'
          omega
        refine ⟨_,rfl,lm,_,_,.int r,rfl,rfl,SqL.of elm,hr2',st,r,rfl,hrb.1,by omega,S4.same slm,fun mo H9 mo0 mo1 B9 S9=>?_⟩
        have moC:mo≤1000000000000000000000000:=by omega
        have hT9:=(hT8.same slm).but hbt hps B9
        have hR9:=(hR8.same slm).but nns B9
        have ea9:=(eah.same slm).but nah B9
        have C9:=B7.trans ((Same.but slm).trans B9)
        clear S4 hT8 hR8 eah B7 B9 slm elm hlm hr1' hr2' hrb mo1
        dsimp only [ZaP]
        refine ZmL (fun N=>∀ (more:Int) (H10:Hp),0≤more→more≤1000000000000000000000000→But st H9 H10→StK H10 st→N [some (.ref st),some (.int (1+w1)),some (.int bg),some (.int way),some (.ref tb),some (.int (0+(i:Nat))),some (.ref nn),some (.int (0+(j:Nat))),some (.ref ah),some (.int more)] H10) (fun mo1 H10 mo0' moB B10 S10=>?_) (fun tail=>?_)
        · have hT10:=hT9.but hbt hps B10
          have hR10:=hR9.but nns B10
          have ea10:=ea9.but nah B10
          have C10:=C9.trans B10
          refine ⟨_,rfl,.inl ⟨rfl,_,hR10.sq⟩,_,rfl,_,rfl,len1,fun l1 hl1=>?_⟩
          have s1:Same H10 (upd H10 l1 (.lst [.int bg])):=Same.new hl1
          have e1:(upd H10 l1 (.lst [.int bg])) l1=some (.lst [.int bg]):=Zad
          generalize upd H10 l1 (.lst [.int bg])=H11 at s1 e1 ⊢
          refine ⟨_,rfl,len0,fun l2 hl2=>?_⟩
          have s2:Same H11 (upd H11 l2 (.lst [])):=Same.new hl2
          have e2:Row (upd H11 l2 (.lst [])) l2 []:=Row.new
          generalize upd H11 l2 (.lst [])=H12 at s2 e2 ⊢
          have s12:=s1.trans s2
          refine ⟨_,_,(ea10.same s12).rd,e2.rd,ZeF _,ZeF _,?_⟩
          rw [show (if false=true then !PyData.eqv (dRow aa) (dRow []) else PyData.eqv (dRow aa) (dRow []))=aa.isEmpty from ZmS aa]
          refine .inr ⟨_,rfl,l1,_,_,rfl,rfl,s2 _ _ e1,?_,?_,?_,fun l3 hl3=>?_⟩
          · split <;> omega
          · split <;> omega
          · cases aa.isEmpty with
            | true=>exact (show 1 * 1≤sizeLine by decide)
            | false=>exact (show 1 * 0≤sizeLine by decide)
          have e3:(upd H12 l3 (.lst (List.replicate (if aa.isEmpty=true then (1:Int) else 0).toNat [V.int bg]).flatten)) l3=some (.lst ((if aa.isEmpty=true then [bg] else []).map V.int)):=by
            rw [Zad]
            cases aa.isEmpty <;> rfl
          have s3:Same H12 (upd H12 l3 (.lst (List.replicate (if aa.isEmpty=true then (1:Int) else 0).toNat [V.int bg]).flatten)):=Same.new hl3
          generalize upd H12 l3 (.lst (List.replicate (if aa.isEmpty=true then (1:Int) else 0).toNat [V.int bg]).flatten)=H13 at e3 s3 ⊢
          have s13:=s12.trans s3
          refine ⟨ah,l3,_,_,rfl,rfl,ea10.same s13,e3,?_,fun l4 hl4=>?_⟩
          · rw [List.length_map,List.length_map]
            refine sl6 ?_
            split
            · rw [List.length_singleton]
              omega
            · rw [List.length_nil]
              omega
          have e4:Row (upd H13 l4 (.lst (aa.map V.int ++ (if aa.isEmpty=true then [bg] else []).map V.int))) l4 (aa ++ (if aa.isEmpty=true then [bg] else [])):=by
            unfold Row
            rw [Zad,List.map_append]
          have s4:Same H13 (upd H13 l4 (.lst (aa.map V.int ++ (if aa.isEmpty=true then [bg] else []).map V.int))):=Same.new hl4
          generalize upd H13 l4 (.lst (aa.map V.int ++ (if aa.isEmpty=true then [bg] else []).map V.int))=H14 at e4 s4 ⊢
          have s14:=s13.trans s4
          refine ⟨l4,_,rfl,e4.sq,?_,fun M hMm hM=>⟨_,rfl,_,_,rfl,rfl,nn,_,_,rfl,rfl,hR10.same s14,?_,?_⟩⟩
          · rw [List.length_append]
            cases aa with
            | nil=>exact Nat.succ_pos _
            | cons a r=>exact Nat.lt_of_lt_of_le (Nat.succ_pos _) (Nat.le_add_right _ _)
          · rw [List.length_map]
            exact ZaZ (by omega)
          · have hM2:∀ a∈aa,a≤M:=fun a ha=>hM a (List.mem_append_left _ ha)
            have hT14:=hT10.same s14
            have S14:=S10.same s14
            have C14:=C10.trans (Same.but s14)
            refine ⟨cur ++ [M+mo1],_,_,_,rfl,?_,?_,?_,Row.push,?_,?_,?_,?_⟩
            · intro b o hb e
              rw [Zal (Zak e nn0)]
              exact C14 b o hb e
            · obtain ⟨g',b',c',z⟩:=S14
              exact ⟨g',b',c',by rw [Zal (Ne.symm nns)];exact z⟩
            · refine ⟨by rw [Zal nnt];exact hT14.l,fun p hp=>?_⟩
              unfold Row
              rw [Zal (nnp p hp)]
              exact hT14.r p hp
            · rw [List.length_append,List.length_singleton,hcl]
            · refine ZkX hnf fun k hk=>?_
              have:=hM2 _ (ha0 k hk)
              omega
            · rcases hab with z | z
              · exact .inl z
              · rcases ha1 with z2 | z2
                · exact .inl z2
                · have z2:=hM2 _ z2
                  refine .inr fun k hk=>?_
                  rw [Zef]
                  by_cases hkj:k<cur.length
                  · rw [if_pos hkj]
                    exact z k (by omega)
                  · rw [if_neg hkj,if_pos (by omega),show k=j by omega]
                    omega
            · have hMb:Stp (6 * (i:Nat)+(j:Nat)) M:=by
                rcases List.mem_append.mp hMm with z | z
                · exact haB M z
                · split at z
                  · rw [List.mem_singleton.mp z]
                    unfold Stp at hbg ⊢
                    omega
                  · nomatch z
              intro n hn
              rcases List.mem_append.mp hn with z | z
              · have:=hcb n z
                unfold Stp at this ⊢
                omega
              · rw [List.mem_singleton.mp z]
                unfold Stp at hMb ⊢
                omega
        · exact ⟨_,rfl,rfl,_,rfl,ite2 (fun _=>⟨_,rfl,rfl,_,rfl,ite2 (fun _=>⟨_,rfl,st,_,rfl,by decide,by decide,S9,fun mo' H10 mo0' mob B10 S10=>tail mo' H10 mo0' (by rw [e24] at mob;omega) B10 S10⟩) (fun _=>tail mo H9 mo0 moC (But.refl _ _) S9)⟩) (fun _=>iteF (tail mo H9 mo0 moC (But.refl _ _) S9))⟩
      ·
        rintro σ H3 ⟨cur,o7,o8,o9,rfl,B3,S3,hT3,hR3,hcl,hnf,hab,hcb⟩
        refine ⟨_,rfl,.inl ⟨rfl,_,hT3.sq⟩,_,rfl,tb,_,_,rfl,rfl,hT3.l,?_,?_⟩
        · rw [List.length_map]
          exact ZaZ (by omega)
        · have key:∀ b o,b≠tb→H3 b=some o→(upd H3 tb (.lst ((prs.map fun p=>V.ref p.1) ++ [.ref nn]))) b=some o:=fun b o hb e=>by
            rw [Zal hb]
            exact e
          have ntb:∀ p∈prs,p.1≠tb:=fun p hp z=>by
            have h1:=hT3.r p hp
            rw [z] at h1
            have h2:=hT3.l
            unfold Row at h1
            rw [h1] at h2
            have h3:=hg.len p hp
            cases hq:p.2 with
            | nil=>rw [hq] at h3;simp at h3;omega
            | cons n ns =>
              rw [hq] at h2
              cases prs with
              | nil=>simp at h2
              | cons p' r'=>simp at h2
          have ntn:nn≠tb:=Ne.symm nnt
          have etb:(upd H3 tb (.lst ((prs.map fun p=>V.ref p.1) ++ [.ref nn]))) tb=some (.lst ((prs ++ [(nn,cur)]).map fun p=>V.ref p.1)):=by
            rw [Zad,List.map_append]
            rfl
          refine ⟨prs ++ [(nn,cur)],_,_,_,_,_,rfl,?_,?_,⟨etb,fun p hp=>?_⟩,?_,?_,?_,fun p hp=>?_,fun p hp=>?_⟩
          · intro b o hb e
            rw [Zal (Zak e tb0)]
            exact B3 b o hb e
          · obtain ⟨g',b',c',z⟩:=S3
            exact ⟨g',b',c',key _ _ (Ne.symm hbt) z⟩
          · rcases List.mem_append.mp hp with z | z
            · exact key _ _ (ntb p z) (hT3.r p z)
            · have:p=(nn,cur):=by simpa using z
              subst this
              exact key _ _ ntn hR3
          · rw [List.length_append,List.length_singleton,hlen]
          · refine ZjC hg hcl hnf ?_
            rcases hab with z | z
            · exact .inl (by omega)
            · rw [hlen]
              exact .inr z
          · rw [List.map_append,List.nodup_append]
            refine ⟨hnd,by simp,fun a ha b hb z=>?_⟩
            obtain ⟨p,hp,rfl⟩:=List.mem_map.mp ha
            have hb:b=nn:=by simpa using hb
            exact nnp p hp (z.trans hb)
          · rcases List.mem_append.mp hp with z | z
            · exact hfr p z
            · have:p=(nn,cur):=by simpa using z
              subst this
              exact ⟨nn0,nns⟩
          · rcases List.mem_append.mp hp with z | z
            · intro n hn
              have:=hbd p z n hn
              unfold Stp at this ⊢
              omega
            · have:p=(nn,cur):=by simpa using z
              subst this
              intro n hn
              have:=hcb n hn
              unfold Stp at this ⊢
              omega
    · rintro σ H2 ⟨prs,o5,o6,o7,o8,o9,rfl,B,S,hT,hlen,hg,hnd,hfr,hbd⟩
      refine ⟨_,rfl,q tb prs H2 tb0 (fun p hp=>(hfr p hp).1) hnd B S hT (Ziq hg (by omega) (by omega) (by omega) (by omega)) fun p hp n hn=>?_⟩
      have:=hbd p hp n hn
      unfold Stp at this
      omega
end
def setR (rows:List (List Int)) (i j:Nat) (x:Int):List (List Int):=rows.set i ((rows.getD i []).set j x)
section
variable {P:Program}{w:World}{K:PySem.W.Frag}{mg:Str→Option Value}{base:Heap}
def ZhQ (H:Hp) (Q:VK) (rows:List (List Int)):Prop:=∀ t' prs' H',H t'=none→(∀ p∈prs',H p.1=none∧p.1≠t')→(prs'.map (·.1)).Nodup→Same H H'→Tab H' t' prs'→prs'.map (·.2)=rows→Q (.ref t') H'
def Zdc:Sp:=fun vs H Q _=>∃ (t:Addr) (prs:Prs),vs=[.ref t]∧Tab H t prs∧Sm prs∧ZhQ H Q (prs.map (·.2))
theorem ZiI:FnScope ["table"] ["table"] (Zag Zfs):=⟨rfl,rfl,rfl,by decide +kernel,rfl,by decide +kernel,by decide +kernel⟩
theorem Zjd (T:Blt mg) (D:Zao K mg "copy_of" Zfs ["table"]):FnAt P w K mg base 1 "copy_of" ["table"] Zdc:=by
  refine FnAt.of D ZiI (fun vs H Q E h=>?_) (fun f cdv A outer s H vs Q E hr h=>?_)
  · obtain ⟨t,prs,rfl,_⟩:=h
    rfl
  · obtain ⟨t,prs,rfl,hT,hs,q⟩:=h
    have nd1:(["row"]:List Str).Nodup:=by decide +kernel
    refine ⟨_,Zaf (Zan (ZaX ["row"] [none] (Zag Zfs) ["table"] rfl (Zba (pv 0)) (by decide +kernel)
      (fun cl C s2 H2 ex=>pg_c 0 nd1) (fun cl C s2 H2 ex=>ZaK) (fun cl C s2 H2 ex=>pe_t (ZmG K) T.list boot_list (Zaa (pv 0) Zab)))),?_⟩
    refine ⟨_,rfl,t,rfl,⟨_,hT.sq⟩,Zdk (fun p:Addr × List Int=>V.ref p.1) (fun p=>.lst (p.2.map V.int)) hT.sq hs.1 (fun p hp H' Q' sm q'=>⟨_,rfl,p.1,_,rfl,.inl ((hT.same sm).r p hp).sq,fun l hl=>q' l _ hl (Same.new hl) Zad⟩) fun M qs H2 hM hqm hnd hq s2 eM=>?_⟩
    refine q M (qs.map fun x=>(x.1,x.2.2)) H2 hM (fun p hp=>?_) ?_ s2 ⟨?_,fun p hp=>?_⟩ ?_
    · obtain ⟨x,hx,rfl⟩:=List.mem_map.mp hp
      exact (hq x hx).2
    · rw [List.map_map]
      exact hnd
    · rw [eM,List.map_map]
      rfl
    · obtain ⟨x,hx,rfl⟩:=List.mem_map.mp hp
      exact (hq x hx).1
    · rw [List.map_map,← hqm,List.map_map]
      rfl
def Zg4:Sp:=fun vs H Q _=>∃ (t c:Addr) (prs:Prs) (i j:Nat) (x:Int),vs=[.ref t,.ref c,.int x]∧Tab H t prs∧Sm prs∧H c=some (.tup [.int (i:Nat),.int (j:Nat)])∧i<prs.length∧j<(ZaA prs i).length∧ZhQ H Q (setR (prs.map (·.2)) i j x)
theorem sc_with:FnScope ["table","cell","x","changed"] ["table","cell","x"] (Zag ZmV):=⟨rfl,rfl,rfl,by decide +kernel,rfl,by decide +kernel,by decide +kernel⟩
set_option maxHeartbeats 16000000 in
theorem Zmq (D:Zao K mg "table_with" ZmV ["table","cell","x"]) (G:FnAt P w K mg base 1 "copy_of" ["table"] Zdc):FnAt P w K mg base 2 "table_with" ["table","cell","x"] Zg4:=by
  refine FnAt.of D sc_with (fun vs H Q E h=>?_) (fun f cdv A outer s H vs Q E hr h=>?_)
  · obtain ⟨t,c,prs,i,j,x,rfl,_⟩:=h
    rfl
  · obtain ⟨t,c,prs,i,j,x,rfl,hT,hs,hc,hi,hj,q⟩:=h
    have nd:=sc_with.nd
    refine ⟨_,Zac (Zaj (i:=3) nd rfl (Or.inl rfl) (pe_f G hr (Zaa (pv 0) Zab)))
      (Zac (Zdr (pv 2) (ZfX (Zav Zam (pv 3) (Zav Zbz (pv 1) Zae (fun _ _=>rfl)) (fun _ _=>rfl)) (Zav Zbz (pv 1) Zae (fun _ _=>rfl)) Zc0))
      (Zaf (Zan (pv 3)))),?_⟩
    refine ⟨_,rfl,t,prs,rfl,hT,hs,fun t' qs H1 ht' hqn hnd s1 hT1 hrows=>?_⟩
    have hc1:=s1 _ _ hc
    have hql:qs.length=prs.length:=by
      have:=congrArg List.length hrows
      simpa using this
    have hiq:i<qs.length:=by omega
    have hqi:qs[i]? = some qs[i]:=List.getElem?_eq_getElem hiq
    have mqi:qs[i]∈qs:=List.getElem_mem hiq
    have hri:qs[i].2=ZaA prs i:=by
      have h1:(qs.map (·.2))[i]? = (prs.map (·.2))[i]?:=by rw [hrows]
      rw [List.getElem?_map,hqi,List.getElem?_map,List.getElem?_eq_getElem hi] at h1
      have h2:qs[i].2=prs[i].2:=by simpa using h1
      rw [h2]
      unfold ZaA
      rw [List.getElem?_eq_getElem hi]
      rfl
    have hR:=hT1.r qs[i] mqi
    refine ⟨_,rfl,_,rfl,_,rfl,c,_,0,.int (i:Nat),rfl,rfl,SqT.of hc1,rfl,t',_,_,.ref qs[i].1,rfl,rfl,hT1.sq,ZaB (by rw [List.getElem?_map,hqi];rfl),_,rfl,c,_,1,.int (j:Nat),rfl,rfl,SqT.of hc1,rfl,qs[i].1,_,_,j,rfl,rfl,hR,?_,_,rfl,?_⟩
    · rw [List.length_map,hri]
      unfold ixN
      rw [if_pos (by omega),if_pos (by omega),Int.toNat_natCast]
    rw [← List.map_set]
    have hn:∀ p∈qs,p.1=qs[i].1→p=qs[i]:=fun p hp e=>by
      obtain ⟨k,hk⟩:=List.mem_iff_getElem?.mp hp
      have hkl:=(List.getElem?_eq_some_iff.mp hk).1
      have:k=i:=(List.getElem?_inj (l:=qs.map (·.1)) (by rw [List.length_map];exact hkl) hnd).mp (by rw [List.getElem?_map,List.getElem?_map,hk,hqi];simp [e])
      subst this
      exact Option.some.inj (hk.symm.trans hqi)
    have key:∀ b o,b≠qs[i].1→H1 b=some o→(upd H1 qs[i].1 (.lst ((qs[i].2.set j x).map V.int))) b=some o:=fun b o n e=>by rw [Zal n];exact e
    refine q t' (qs.set i (qs[i].1,qs[i].2.set j x)) _ ht' (fun p hp=>?_) ?_ (fun b o e=>key b o (fun z=>?_) (s1 _ _ e)) ⟨?_,fun p hp=>?_⟩ ?_
    · rcases List.mem_or_eq_of_mem_set hp with z | z
      · exact hqn p z
      · rw [z]
        exact hqn qs[i] mqi
    · have:(qs.set i (qs[i].1,qs[i].2.set j x)).map (·.1)=qs.map (·.1):=by
        rw [List.map_set]
        refine List.ext_getElem? fun k=>?_
        rw [List.getElem?_set]
        split
        · next h =>
          subst h
          rw [List.length_map,if_pos hiq,List.getElem?_map,hqi]
          rfl
        · rfl
      rw [this]
      exact hnd
    · rw [z,(hqn _ mqi).1] at e
      cases e
    · have:(qs.set i (qs[i].1,qs[i].2.set j x)).map (fun p=>V.ref p.1)=qs.map fun p=>V.ref p.1:=by
        rw [List.map_set]
        refine List.ext_getElem? fun k=>?_
        rw [List.getElem?_set]
        split
        · next h =>
          subst h
          rw [List.length_map,if_pos hiq,List.getElem?_map,hqi]
          rfl
        · rfl
      rw [this]
      exact key _ _ (fun z=>(hqn _ mqi).2 z.symm) hT1.l
    · obtain ⟨k,hk⟩:=List.mem_iff_getElem?.mp hp
      rw [List.getElem?_set] at hk
      by_cases h:i=k
      · rw [if_pos h,if_pos hiq] at hk
        rw [← Option.some.inj hk]
        exact Zad
      · rw [if_neg h] at hk
        have hkl:=(List.getElem?_eq_some_iff.mp hk).1
        refine key _ _ (fun e=>h ?_) (hT1.r p (List.mem_of_getElem? hk))
        exact ((List.getElem?_inj (l:=qs.map (·.1)) (by rw [List.length_map];exact hkl) hnd).mp (by rw [List.getElem?_map,List.getElem?_map,hk,hqi];simp [e])).symm
    · rw [List.map_set,hrows]
      unfold setR
      rw [show (prs.map (·.2)).getD i []=qs[i].2 by
        rw [hri]
        unfold ZaA
        rw [List.getD_eq_getElem?_getD,List.getElem?_map]]
end
def Cell (H:Hp) (c:Addr) (i j:Nat):Prop:=H c=some (.tup [.int (i:Nat),.int (j:Nat)])
section
variable {P:Program}{w:World}{K:PySem.W.Frag}{mg:Str→Option Value}{base:Heap}
def ZdV:Sp:=fun vs H Q _=>∃ (c:Addr) (i j:Nat),vs=[.ref c]∧Cell H c i j∧∀ H',Same H H'→Q (.bl true) H'
theorem Zf5 (T:Blt mg) (D:Zao K mg "all_whole" Za7 ["things"]) (G1:FnAt P w K mg base 1 "is_whole" ["thing"] ZbZ):FnAt P w K mg base 2 "all_whole" ["things"] ZdV:=by
  refine FnAt.of D ZbI (fun vs H Q E h=>?_) (fun f cdv A outer s H vs Q E hr h=>?_)
  · obtain ⟨c,i,j,rfl,_⟩:=h
    rfl
  · obtain ⟨c,i,j,rfl,hC,q⟩:=h
    have nd1:(["thing"]:List Str).Nodup:=by decide +kernel
    refine ⟨_,Zaf (Zan (pe_b (Zbd rfl) T.all boot_all (Zaa (ZaX ["thing"] [none] (Zag Za7) ["things"] rfl (Zhp (pv 0)) (by decide +kernel)
      (fun cl C s2 H2 ex=>pg_c 0 nd1) (fun cl C s2 H2 ex=>ZaK) (fun cl C s2 H2 ex=>pe_f G1 hr (Zaa (pv 0) Zab))) Zab))),?_⟩
    refine ⟨_,rfl,c,rfl,⟨_,SqT.of hC⟩,Zfu V.int (ms:=[(i:Int),(j:Int)]) (fun _=>.bl true) (SqT.of hC) (by show 2≤sizeLine;decide) (fun n _ H' Q' sm q'=>?_) fun L H' hL sm hLl=>?_⟩
    · exact ⟨_,rfl,n,rfl,q' _ (Same.refl _)⟩
    · exact ⟨L,[true,true],rfl,SqL.of hLl,q H' sm⟩
def Zhf:Sp:=fun vs H Q _=>∃ (c:Addr) (r p i j:Nat),vs=[.int (r:Nat),.int (p:Nat),.ref c]∧Cell H c i j∧i<r∧j<p∧∀ H',Same H H'→Q (.bl true) H'
theorem Zd3:FnScope ["rows","places","thing"] ["rows","places","thing"] (Zag Zeo):=⟨rfl,rfl,rfl,by decide +kernel,rfl,by decide +kernel,by decide +kernel⟩
theorem Zje (T:Blt mg) (htup:mg "tuple" = none) (D:Zao K mg "is_cell_of_size" Zeo ["rows","places","thing"]) (G:FnAt P w K mg base 2 "all_whole" ["things"] ZdV):FnAt P w K mg base 3 "is_cell_of_size" ["rows","places","thing"] Zhf:=by
  refine FnAt.of D Zd3 (fun vs H Q E h=>?_) (fun f cdv A outer s H vs Q E hr h=>?_)
  · obtain ⟨c,r,p,i,j,rfl,_⟩:=h
    rfl
  · obtain ⟨c,r,p,i,j,rfl,hC,hi,hj,q⟩:=h
    refine ⟨_,Zac (ZaO (PW.pt (ZcF (Za0 (Za3 (pe_b ZaU T.isinst boot_isinstance (Zaa (pv 2) (Zaa (Zdy htup boot_tuple) Zab))))) (ZcF (Zat Zf1 (pe_b Zah T.len boot_len (Zaa (pv 2) Zab)) Zae (Zax _)) (Zb1 (Za0 (Za3 (pe_f G hr (Zaa (pv 2) Zab)))))))) (Zaf (Zan Zce)) Zaq)
      (Zaf (Zan (Zb2 (ZbN o_le o_lt Zae (Zav Zbz (pv 2) Zae (fun _ _=>rfl)) (pv 0))
        (Zcj (ZbN o_le o_lt Zae (Zav Zbz (pv 2) Zae (fun _ _=>rfl)) (pv 1)))))),?_⟩
    refine ⟨_,rfl,_,_,_,_,rfl,.tup hC,ZlO _,_,rfl,iteF ⟨_,rfl,c,_,rfl,.inr (SqT.of hC),rfl,_,rfl,?_⟩⟩
    refine iteF ⟨_,rfl,c,i,j,rfl,hC,fun H1 s1=>⟨_,rfl,iteF ?_⟩⟩
    have hC1:Cell H1 c i j:=s1 _ _ hC
    refine ⟨_,rfl,c,_,0,.int (i:Nat),rfl,rfl,SqT.of hC1,rfl,_,_,rfl,rfl,_,rfl,?_⟩
    rw [decide_eq_true (show (0:Int)≤(i:Nat) by omega)]
    refine iteT ⟨_,rfl,_,_,rfl,rfl,_,rfl,?_⟩
    rw [decide_eq_true (show ((i:Nat):Int)<(r:Nat) by omega)]
    refine iteT ⟨_,rfl,c,_,1,.int (j:Nat),rfl,rfl,SqT.of hC1,rfl,_,_,rfl,rfl,_,rfl,?_⟩
    rw [decide_eq_true (show (0:Int)≤(j:Nat) by omega)]
    refine iteT ⟨_,rfl,_,_,rfl,rfl,?_⟩
    rw [decide_eq_true (show ((j:Nat):Int)<(p:Nat) by omega)]
    exact q H1 s1
def Zhe:Sp:=fun vs H Q _=>∃ (t c:Addr) (prs:Prs) (i j:Nat),vs=[.ref t,.ref c]∧Tab H t prs∧tabB prs=true∧Cell H c i j∧i<prs.length∧j<w0 prs∧∀ H',Same H H'→Q (.bl true) H'
theorem Zd2:FnScope ["table","thing"] ["table","thing"] (Zag Zen):=⟨rfl,rfl,rfl,by decide +kernel,rfl,by decide +kernel,by decide +kernel⟩
theorem Zjc (T:Blt mg) (D:Zao K mg "is_cell" Zen ["table","thing"]) (G:FnAt P w K mg base 3 "is_cell_of_size" ["rows","places","thing"] Zhf):FnAt P w K mg base 4 "is_cell" ["table","thing"] Zhe:=by
  refine FnAt.of D Zd2 (fun vs H Q E h=>?_) (fun f cdv A outer s H vs Q E hr h=>?_)
  · obtain ⟨t,c,prs,i,j,rfl,_⟩:=h
    rfl
  · obtain ⟨t,c,prs,i,j,rfl,hT,hg,hC,hi,hj,q⟩:=h
    obtain ⟨g,g1,g2,g3,g4⟩:=ZaI hg
    obtain ⟨p0,hp0,hm0,hx0⟩:=Zbe (prs:=prs) g1
    refine ⟨_,Zaf (Zan (pe_f G hr (Zaa (pe_b Zah T.len boot_len (Zaa (pv 0) Zab)) (Zaa (pe_b Zah T.len boot_len (Zaa (Zav Zam (pv 0) Zae (fun _ _=>rfl)) Zab)) (Zaa (pv 1) Zab))))),?_⟩
    exact ⟨_,rfl,t,_,rfl,.inl hT.sq,_,rfl,t,_,0,.ref p0.1,rfl,rfl,hT.sq,ZaB (j:=0) (by rw [List.getElem?_map,hx0];rfl),p0.1,_,rfl,.inl (hT.r p0 hm0).sq,_,rfl,c,prs.length,w0 prs,i,j,by rw [List.length_map,List.length_map,g.len p0 hm0],hC,hi,hj,q⟩
def ZbX:Sp:=fun vs H Q _=>∃ (t c:Addr) (prs:Prs) (i j:Nat),vs=[.ref t,.ref c]∧Tab H t prs∧tabB prs=true∧Cell H c i j∧i<prs.length∧j<w0 prs∧∀ H',Same H H'→Q .non H'
theorem Zd1:FnScope ["table","thing"] ["table","thing"] (Zag Zc8):=⟨rfl,rfl,rfl,by decide +kernel,rfl,by decide +kernel,by decide +kernel⟩
theorem ZgJ (D:Zao K mg "need_cell" Zc8 ["table","thing"]) (G:FnAt P w K mg base 4 "is_cell" ["table","thing"] Zhe):FnAt P w K mg base 5 "need_cell" ["table","thing"] ZbX:=by
  refine FnAt.of D Zd1 (fun vs H Q E h=>?_) (fun f cdv A outer s H vs Q E hr h=>?_)
  · obtain ⟨t,c,prs,i,j,rfl,_⟩:=h
    rfl
  · obtain ⟨t,c,prs,i,j,rfl,hT,hg,hC,hi,hj,q⟩:=h
    refine ⟨_,Zaf (ZaO (Za0 (Za3 (pe_f G hr (Zaa (pv 0) (Zaa (pv 1) Zab))))) ZaT Zaq),?_⟩
    exact ⟨_,rfl,_,rfl,t,c,prs,i,j,rfl,hT,hg,hC,hi,hj,fun H' sm=>⟨_,rfl,iteF (q H' sm)⟩⟩
def Zcr:Sp:=fun vs H Q _=>∃ (t c:Addr) (prs:Prs) (i j:Nat),vs=[.ref t,.ref c]∧Tab H t prs∧tabB prs=true∧Cell H c i j∧i<prs.length∧j<w0 prs∧∀ H',Same H H'→Q (.int ((ZaA prs i).getD j 0)) H'
theorem ZgA:FnScope ["table","cell"] ["table","cell"] (Zag Zel):=⟨rfl,rfl,rfl,by decide +kernel,rfl,by decide +kernel,by decide +kernel⟩
theorem ZgI (D:Zao K mg "number_at" Zel ["table","cell"]) (G1:FnAt P w K mg base 6 "need_table" ["thing"] Zbs) (G2:FnAt P w K mg base 5 "need_cell" ["table","thing"] ZbX):FnAt P w K mg base 7 "number_at" ["table","cell"] Zcr:=by
  refine FnAt.of D ZgA (fun vs H Q E h=>?_) (fun f cdv A outer s H vs Q E hr h=>?_)
  · obtain ⟨t,c,prs,i,j,rfl,_⟩:=h
    rfl
  · obtain ⟨t,c,prs,i,j,rfl,hT,hg,hC,hi,hj,q⟩:=h
    obtain ⟨g,g1,g2,g3,g4⟩:=ZaI hg
    have hsm:Sm prs:=⟨by omega,fun p hp=>by rw [g.len p hp];omega⟩
    refine ⟨_,Zac (Zau (pe_f G1 hr (Zaa (pv 0) Zab))) (Zac (Zau (pe_f G2 (hr.mono (by decide)) (Zaa (pv 0) (Zaa (pv 1) Zab))))
      (Zaf (Zan (Zav Zam (Zav Zam (pv 0) (Zav Zbz (pv 1) Zae (fun _ _=>rfl)) (fun _ _=>rfl)) (Zav Zbz (pv 1) Zae (fun _ _=>rfl)) (fun _ _=>rfl))))),?_⟩
    refine ⟨_,rfl,t,prs,rfl,hT,hsm,hg,fun H1 s1=>⟨_,rfl,_,rfl,t,c,prs,i,j,rfl,hT.same s1,hg,s1 _ _ hC,hi,hj,fun H2 s2=>?_⟩⟩
    have s12:=s1.trans s2
    have hT2:=hT.same s12
    have hC2:Cell H2 c i j:=s12 _ _ hC
    obtain ⟨p,hp1,hp2,hp3⟩:=ZaE hi
    have hpl:=g.len p hp1
    refine ⟨_,rfl,_,rfl,c,_,0,.int (i:Nat),rfl,rfl,SqT.of hC2,rfl,t,_,_,.ref p.1,rfl,rfl,hT2.sq,ZaB (by rw [List.getElem?_map,hp2];rfl),_,rfl,c,_,1,.int (j:Nat),rfl,rfl,SqT.of hC2,rfl,p.1,_,_,.int (p.2.getD j 0),rfl,rfl,(hT2.r p hp1).sq,Zco (by omega),?_⟩
    rw [← hp3]
    exact q H2 s12
end
def Zbj (rows:List (List Int)):Bool:=tabB (rows.map fun r=>((0:Addr),r))
theorem Zb0 {prs:Prs}{rows:List (List Int)} (h:prs.map (·.2)=rows):tabB prs=Zbj rows:=by
  unfold Zbj
  refine Zcg ?_
  rw [h,List.map_map]
  exact (List.map_id _).symm
theorem ZiD {prs:Prs}{rows:List (List Int)}{i j:Nat}{x:Int} (hs:Sm prs) {prs':Prs} (h:prs'.map (·.2)=setR (prs.map (·.2)) i j x):Sm prs':=by
  have hl:prs'.length=prs.length:=by
    have:=congrArg List.length h
    unfold setR at this
    rw [List.length_set] at this
    simpa using this
  refine ⟨by rw [hl];exact hs.1,fun p hp=>?_⟩
  have hm:p.2∈setR (prs.map (·.2)) i j x:=by rw [← h];exact List.mem_map.mpr ⟨p,hp,rfl⟩
  unfold setR at hm
  rcases List.mem_or_eq_of_mem_set hm with z | z
  · obtain ⟨q,hq,e⟩:=List.mem_map.mp z
    rw [← e]
    exact hs.2 q hq
  · rw [z,List.length_set,List.getD_eq_getElem?_getD,List.getElem?_map]
    cases hg:prs[i]? with
    | none=>simp
    | some q=>exact hs.2 q (List.mem_of_getElem? hg)
section
variable {P:Program}{w:World}{K:PySem.W.Frag}{mg:Str→Option Value}{base:Heap}{C:Addr}
def ZfJ:Sp:=fun vs H Q _=>∃ (t c:Addr) (prs:Prs) (i j:Nat) (x:Int),vs=[.ref t,.ref c,.int x]∧Tab H t prs∧tabB prs=true∧Cell H c i j∧i<prs.length∧j<w0 prs∧Zbj (setR (prs.map (·.2)) i j x)=true∧ZhQ H Q (setR (prs.map (·.2)) i j x)
theorem sc_changed:FnScope ["table","cell","x","changed"] ["table","cell","x"] (Zag ZdL):=⟨rfl,rfl,rfl,by decide +kernel,rfl,by decide +kernel,by decide +kernel⟩
theorem Zh4 (D:Zao K mg "changed_table" ZdL ["table","cell","x"]) (G1:FnAt P w K mg base 5 "need_cell" ["table","thing"] ZbX) (G2:FnAt P w K mg base 2 "need_number" ["thing"] ZbM) (G3:FnAt P w K mg base 2 "table_with" ["table","cell","x"] Zg4) (G4:FnAt P w K mg base 5 "is_table" ["thing"] ZcY) :
    FnAt P w K mg base 6 "changed_table" ["table","cell","x"] ZfJ:=by
  refine FnAt.of D sc_changed (fun vs H Q E h=>?_) (fun f cdv A outer s H vs Q E hr h=>?_)
  · obtain ⟨t,c,prs,i,j,x,rfl,_⟩:=h
    rfl
  · obtain ⟨t,c,prs,i,j,x,rfl,hT,hg,hc,hi,hj,ok,q⟩:=h
    have nd:=sc_changed.nd
    obtain ⟨g,g1,g2,g3,g4⟩:=ZaI hg
    have hli:(ZaA prs i).length=w0 prs:=by
      obtain ⟨p,hp,_,e⟩:=ZaE hi
      rw [e]
      exact g.len p hp
    refine ⟨_,Zac (Zau (pe_f G1 hr (Zaa (pv 0) (Zaa (pv 1) Zab)))) (Zac (Zau (pe_f G2 (hr.mono (by decide)) (Zaa (pv 2) Zab)))
      (Zac (Zaj (i:=3) nd rfl (Or.inl rfl) (pe_f G3 (hr.mono (by decide)) (Zaa (pv 0) (Zaa (pv 1) (Zaa (pv 2) Zab)))))
      (Zac (ZaO (Za0 (Za3 (pe_f G4 hr (Zaa (pv 3) Zab)))) ZaT Zaq) (Zaf (Zan (pv 3)))))),?_⟩
    refine ⟨_,rfl,_,rfl,t,c,prs,i,j,rfl,hT,hg,hc,hi,hj,fun H1 s1=>⟨_,rfl,x,rfl,?_⟩⟩
    refine ⟨_,rfl,_,rfl,_,rfl,t,c,prs,i,j,x,rfl,hT.same s1,ZaN hg,s1 _ _ hc,hi,by omega,fun t' prs' H2 ht' hq hnd s2 hT2 hrows=>?_⟩
    refine ⟨_,rfl,t',prs',rfl,hT2,ZiD (rows:=[]) (ZaN hg) hrows,fun H3 s3=>⟨_,rfl,?_⟩⟩
    rw [Zb0 hrows,ok]
    exact iteF ⟨_,rfl,q t' prs' H3 (s1.free ht') (fun p hp=>⟨s1.free (hq p hp).1,(hq p hp).2⟩) hnd (s1.trans (s2.trans s3)) (hT2.same s3) hrows⟩
end
structure KpC (K:PySem.W.Frag) (C:Addr):Prop where
  cls:Cls K C
  nr:NoAttr K C "rows"
  nc:NoAttr K C "changes"
abbrev Ch:=List (Addr × Addr × Nat × Nat × Int)
structure Keep (H:Hp) (C a dx t l:Addr) (prs:Prs) (cs:Ch):Prop where
  ob:H a=some (.ins C dx [("rows", .ref t),("changes", .ref l)])
  T:Tab H t prs
  ok:tabB prs=true
  L:H l=some (.lst (cs.map fun c=>V.ref c.1))
  ch:∀ c∈cs,H c.1=some (.tup [.ref c.2.1,.int c.2.2.2.2])∧Cell H c.2.1 c.2.2.1 c.2.2.2.1∧c.2.2.1<prs.length∧c.2.2.2.1<w0 prs
theorem Keep.same {H H':Hp}{C a dx t l:Addr}{prs:Prs}{cs:Ch} (h:Keep H C a dx t l prs cs) (s:Same H H'):Keep H' C a dx t l prs cs :=
  ⟨s _ _ h.ob,h.T.same s,h.ok,s _ _ h.L,fun c hc=>let ⟨h1,h2,h3⟩:=h.ch c hc;⟨s _ _ h1,s _ _ h2,h3⟩⟩
section
variable {P:Program}{w:World}{K:PySem.W.Frag}{mg:Str→Option Value}{base:Heap}{C:Addr}
theorem sc_kInit:FnScope ["self","table"] ["self","table"] (Zag (Za2 ZaJ 0)):=⟨rfl,rfl,rfl,by decide +kernel,rfl,by decide +kernel,by decide +kernel⟩
def ZiB (C:Addr):Sp:=fun vs H Q _=>∃ (a dx t0:Addr) (prs:Prs),vs=[.ref a,.ref t0]∧H a=some (.ins C dx [])∧Tab H t0 prs∧tabB prs=true ∧
  ∀ t l prs' H',But a H H'→H t=none→H l=none→(∀ p∈prs',H p.1=none)→(prs'.map (·.1)).Nodup→prs'.map (·.2)=prs.map (·.2)→Keep H' C a dx t l prs' []→Q .non H'
set_option maxHeartbeats 16000000 in
theorem ZkT (kc:KpC K C) (D:ZaV K C "__init__" "Keeper.__init__" (Za2 ZaJ 0) ["self","table"]) (G1:FnAt P w K mg base 6 "need_table" ["thing"] Zbs) (G2:FnAt P w K mg base 1 "copy_of" ["table"] Zdc):MtAt P w K mg base 7 C "__init__" ["self","table"] (ZiB C):=by
  refine MtAt.of D sc_kInit (fun vs H Q E h=>?_) (fun f cdv A outer s H vs Q E hr h=>?_)
  · obtain ⟨a,dx,t0,prs,rfl,_⟩:=h
    rfl
  · obtain ⟨a,dx,t0,prs,rfl,ea,hT,hg,q⟩:=h
    have nd:=sc_kInit.nd
    refine ⟨_,Zac (Zau (pe_f G1 hr (Zaa (pv 1) Zab))) (Zac (Zho (pv 0) (pe_f G2 (hr.mono (by decide)) (Zaa (pv 1) Zab)) rfl) (Zaf (Zho (pv 0) (ZaF Zab) rfl))),?_⟩
    refine ⟨_,rfl,t0,prs,rfl,hT,ZaN hg,hg,fun H1 s1=>?_⟩
    have hT1:=hT.same s1
    refine ⟨_,rfl,t0,prs,rfl,hT1,ZaN hg,fun t prs' H2 ht hq hnd s2 hT2 hrows=>?_⟩
    have ea2:=s2 _ _ (s1 _ _ ea)
    refine ⟨_,rfl,a,C,dx,[],rfl,ea2,kc.cls,kc.nr,by decide,?_⟩
    have na:∀ {x:Addr},H1 x=none→x≠a:=fun hx z=>by
      rw [z] at hx
      have:=s1 _ _ ea
      rw [hx] at this
      cases this
    have nat:=na ht
    have nq:∀ p∈prs',p.1≠a:=fun p hp=>na (hq p hp).1
    have k3:∀ b o,b≠a→H2 b=some o→(upd H2 a (.ins C dx (putF "rows" (.ref t) []))) b=some o:=fun b o n e=>by rw [Zal n];exact e
    have e3:(upd H2 a (.ins C dx (putF "rows" (.ref t) []))) a=some (.ins C dx [("rows", .ref t)]):=Zad
    have T3:Tab (upd H2 a (.ins C dx (putF "rows" (.ref t) []))) t prs':=⟨k3 _ _ nat hT2.l,fun p hp=>k3 _ _ (nq p hp) (hT2.r p hp)⟩
    generalize upd H2 a (.ins C dx (putF "rows" (.ref t) []))=H3 at k3 e3 T3 ⊢
    refine ⟨len0,fun l hl=>⟨_,rfl,a,C,dx,_,rfl,(Same.new hl) _ _ e3,kc.cls,kc.nc,(by show 1<1000;decide),?_⟩⟩
    have nla:l≠a:=fun z=>by rw [z,e3] at hl;cases hl
    have k4:∀ b o,b≠a→H3 b=some o→(upd (upd H3 l (.lst [])) a (.ins C dx (putF "changes" (.ref l) [("rows", .ref t)]))) b=some o:=fun b o n e=>by
      rw [Zal n]
      exact (Same.new hl) _ _ e
    refine q t l prs' _ (fun b o n e=>k4 b o n (k3 b o n (s2 _ _ (s1 _ _ e)))) (s1.free ht) ?_ (fun p hp=>s1.free (hq p hp).1) hnd hrows ⟨Zad,⟨k4 _ _ nat T3.l,fun p hp=>k4 _ _ (nq p hp) (T3.r p hp)⟩,?_,?_,fun c hc=>nomatch hc⟩
    · cases e:H l with
      | none=>rfl
      | some o =>
        have:=k3 l o nla (s2 _ _ (s1 _ _ e))
        rw [hl] at this
        cases this
    · rw [Zcg hrows]
      exact hg
    · rw [Zal nla]
      exact Zad
theorem ZiH:FnScope ["self"] ["self"] (Zag (Za2 ZaJ 3)):=⟨rfl,rfl,rfl,by decide +kernel,rfl,by decide +kernel,by decide +kernel⟩
def Ze3 (C:Addr):Sp:=fun vs H Q _=>∃ (a dx t l:Addr) (prs:Prs) (cs:Ch),vs=[.ref a]∧Keep H C a dx t l prs cs∧ZhQ H Q (prs.map (·.2))
theorem Zi8 (kc:KpC K C) (D:ZaV K C "table" "Keeper.table" (Za2 ZaJ 3) ["self"]) (G2:FnAt P w K mg base 1 "copy_of" ["table"] Zdc):MtAt P w K mg base 2 C "table" ["self"] (Ze3 C):=by
  refine MtAt.of D ZiH (fun vs H Q E h=>?_) (fun f cdv A outer s H vs Q E hr h=>?_)
  · obtain ⟨a,dx,t,l,prs,cs,rfl,_⟩:=h
    rfl
  · obtain ⟨a,dx,t,l,prs,cs,rfl,hk,q⟩:=h
    refine ⟨_,Zaf (Zan (pe_f G2 hr (Zaa (ZbE (pv 0) rfl) Zab))),?_⟩
    exact ⟨_,rfl,a,C,dx,_,_,rfl,hk.ob,kc.cls,kc.nr,rfl,t,prs,rfl,hk.T,ZaN hk.ok,q⟩
theorem sc_kChange:FnScope ["self","cell","x","rows","before"] ["self","cell","x"] (Zag (Za2 ZaJ 1)):=⟨rfl,rfl,rfl,by decide +kernel,rfl,by decide +kernel,by decide +kernel⟩
def ZdU (C:Addr):Sp:=fun vs H Q _=>∃ (a dx t l c:Addr) (prs:Prs) (cs:Ch) (i j:Nat) (x:Int),vs=[.ref a,.ref c,.int x]∧Keep H C a dx t l prs cs∧Cell H c i j∧i<prs.length∧j<w0 prs∧cs.length<1000∧Zbj (setR (prs.map (·.2)) i j x)=true ∧
  ∀ t' prs' u r H',H t'=none→(∀ p∈prs',H p.1=none∧p.1≠t')→(prs'.map (·.1)).Nodup→H u=none→H r=none→(∀ b o,b≠a→b≠l→H b=some o→H' b=some o)→prs'.map (·.2)=setR (prs.map (·.2)) i j x→H' r=some (.tup [.int ((ZaA prs i).getD j 0),.int x])→r≠a→r≠l →
    Keep H' C a dx t' l prs' (cs ++ [(u,c,i,j,(ZaA prs i).getD j 0)])→Q (.ref r) H'
theorem ZgZ {prs prs':Prs}{i j:Nat}{x:Int} (h:prs'.map (·.2)=setR (prs.map (·.2)) i j x):prs'.length=prs.length∧w0 prs'=w0 prs:=by
  have hl:prs'.length=prs.length:=by
    have:=congrArg List.length h
    unfold setR at this
    rw [List.length_set] at this
    simpa using this
  refine ⟨hl,?_⟩
  have:=congrArg (fun l:List (List Int)=>(l.head?.map List.length).getD 0) h
  simp only [List.head?_map,Option.map_map] at this
  have e:w0 prs'=((setR (prs.map (·.2)) i j x).head?.map List.length).getD 0:=this
  rw [e]
  unfold setR
  cases prs with
  | nil=>rfl
  | cons p r =>
    cases i with
    | zero=>simp [w0]
    | succ i=>simp [w0]
set_option maxHeartbeats 16000000 in
theorem ZhZ (kc:KpC K C) (D:ZaV K C "change" "Keeper.change" (Za2 ZaJ 1) ["self","cell","x"]) (G1:FnAt P w K mg base 6 "changed_table" ["table","cell","x"] ZfJ) (G2:FnAt P w K mg base 7 "number_at" ["table","cell"] Zcr):MtAt P w K mg base 8 C "change" ["self","cell","x"] (ZdU C):=by
  refine MtAt.of D sc_kChange (fun vs H Q E h=>?_) (fun f cdv A outer s H vs Q E hr h=>?_)
  · obtain ⟨a,dx,t,l,c,prs,cs,i,j,x,rfl,_⟩:=h
    rfl
  · obtain ⟨a,dx,t,l,c,prs,cs,i,j,x,rfl,hk,hc,hi,hj,hcl,ok,q⟩:=h
    have nd:=sc_kChange.nd
    refine ⟨_,Zac (Zaj (i:=3) nd rfl (Or.inl rfl) (pe_f G1 (hr.mono (by decide)) (Zaa (ZbE (pv 0) rfl) (Zaa (pv 1) (Zaa (pv 2) Zab)))))
      (Zac (Zaj (i:=4) nd rfl (Or.inl rfl) (pe_f G2 hr (Zaa (ZbE (pv 0) rfl) (Zaa (pv 1) Zab))))
      (Zac (Zho (pv 0) (pv 3) rfl)
      (Zac (Zau (Zex PySem.F.plainAttrs_list PySem.F.slot_list_append PySem.F.type_list_append Zbl (ZbE (pv 0) rfl) (Zaa (Zbn (Zaa (pv 1) (Zaa (pv 4) Zab))) Zab)))
      (Zaf (Zan (Zbn (Zaa (pv 4) (Zaa (pv 2) Zab)))))))),?_⟩
    refine ⟨_,rfl,a,C,dx,_,_,rfl,hk.ob,kc.cls,kc.nr,rfl,_,rfl,_,rfl,t,c,prs,i,j,x,rfl,hk.T,hk.ok,hc,hi,hj,ok,fun t' prs' H1 ht' hq hnd s1 hT1 hrows=>?_⟩
    have hk1:=hk.same s1
    have hc1:Cell H1 c i j:=s1 _ _ hc
    refine ⟨_,rfl,a,C,dx,_,_,rfl,hk1.ob,kc.cls,kc.nr,rfl,_,rfl,t,c,prs,i,j,rfl,hk1.T,hk1.ok,hc1,hi,hj,fun H2 s2=>?_⟩
    have hk2:=hk1.same s2
    have hc2:Cell H2 c i j:=s2 _ _ hc1
    have hT2:=hT1.same s2
    have nla:l≠a:=fun z=>by
      have h1:=hk.L
      have h2:=hk.ob
      rw [z,h2] at h1
      cases h1
    have nn:∀ {y:Addr},H y=none→y≠a∧y≠l:=fun hy=>⟨(fun z=>by rw [z,hk.ob] at hy;cases hy),(fun z=>by rw [z,hk.L] at hy;cases hy)⟩
    refine ⟨_,rfl,_,rfl,a,C,dx,_,rfl,hk2.ob,kc.cls,kc.nr,(by show 2<1000;decide),?_⟩
    have e3:(upd H2 a (.ins C dx (putF "rows" (.ref t') [("rows", .ref t),("changes", .ref l)]))) a=some (.ins C dx [("rows", .ref t'),("changes", .ref l)]):=Zad
    have k3:∀ b o,b≠a→H2 b=some o→(upd H2 a (.ins C dx (putF "rows" (.ref t') [("rows", .ref t),("changes", .ref l)]))) b=some o:=fun b o n e=>by rw [Zal n];exact e
    generalize upd H2 a (.ins C dx (putF "rows" (.ref t') [("rows", .ref t),("changes", .ref l)]))=H3 at e3 k3 ⊢
    have L3:=k3 _ _ nla hk2.L
    refine ⟨_,rfl,a,C,dx,_,_,rfl,e3,kc.cls,kc.nc,rfl,.inl ⟨rfl,_,SqL.of L3⟩,_,rfl,_,rfl,len2,fun u hu=>?_⟩
    have nu:u≠a∧u≠l:=⟨(fun z=>by rw [z,e3] at hu;cases hu),(fun z=>by rw [z,L3] at hu;cases hu)⟩
    refine ⟨l,_,_,rfl,rfl,(Same.new hu) _ _ L3,(by rw [List.length_map];exact ZaZ (by omega)),?_⟩
    have k5:∀ b o,b≠l→H3 b=some o→(upd (upd H3 u (.tup [.ref c,.int ((ZaA prs i).getD j 0)])) l (.lst ((cs.map fun c=>V.ref c.1) ++ [.ref u]))) b=some o:=fun b o n e=>by
      rw [Zal n]
      exact (Same.new hu) _ _ e
    have eu:(upd (upd H3 u (.tup [.ref c,.int ((ZaA prs i).getD j 0)])) l (.lst ((cs.map fun c=>V.ref c.1) ++ [.ref u]))) u=some (.tup [.ref c,.int ((ZaA prs i).getD j 0)]):=by
      rw [Zal nu.2]
      exact Zad
    have el:(upd (upd H3 u (.tup [.ref c,.int ((ZaA prs i).getD j 0)])) l (.lst ((cs.map fun c=>V.ref c.1) ++ [.ref u]))) l=some (.lst ((cs ++ [(u,c,i,j,(ZaA prs i).getD j 0)]).map fun c=>V.ref c.1)):=by
      rw [Zad,List.map_append]
      rfl
    generalize upd (upd H3 u (.tup [.ref c,.int ((ZaA prs i).getD j 0)])) l (.lst ((cs.map fun c=>V.ref c.1) ++ [.ref u]))=H5 at k5 eu el ⊢
    have up:∀ b o,b≠a→b≠l→H2 b=some o→H5 b=some o:=fun b o n1 n2 e=>k5 b o n2 (k3 b o n1 e)
    have hu0:H u=none:=by
      cases e:H u with
      | none=>rfl
      | some o =>
        have:=k3 u o nu.1 (s2 _ _ (s1 _ _ e))
        rw [hu] at this
        cases this
    refine ⟨_,rfl,_,rfl,len2,fun r hr'=>?_⟩
    have nr:r≠a∧r≠l:=⟨(fun z=>by rw [z,k5 _ _ (Ne.symm nla) e3] at hr';cases hr'),(fun z=>by rw [z,el] at hr';cases hr')⟩
    have hr0:H r=none:=by
      cases e:H r with
      | none=>rfl
      | some o =>
        have:=up r o nr.1 nr.2 (s2 _ _ (s1 _ _ e))
        rw [hr'] at this
        cases this
    have s6:=Same.new (o:=.tup [.int ((ZaA prs i).getD j 0),.int x]) hr'
    obtain ⟨wl,ww⟩:=ZgZ hrows
    refine q t' prs' u r _ ht' hq hnd hu0 hr0 (fun b o n1 n2 e=>s6 _ _ (up b o n1 n2 (s2 _ _ (s1 _ _ e)))) hrows Zad nr.1 nr.2 ⟨s6 _ _ (k5 _ _ (Ne.symm nla) e3),⟨s6 _ _ (up _ _ (nn ht').1 (nn ht').2 hT2.l),fun p hp=>s6 _ _ (up _ _ (nn (hq p hp).1).1 (nn (hq p hp).1).2 (hT2.r p hp))⟩,?_,s6 _ _ el,fun y hy=>?_⟩
    · rw [Zb0 hrows]
      exact ok
    · have cel:∀ {y:Addr}{i' j':Nat},Cell H2 y i' j'→Cell H5 y i' j':=fun {y i' j'} hy=>up _ _ (fun z=>by
          have h1:=hk2.ob
          rw [← z] at h1
          have h2:H2 y=_:=hy
          rw [h2] at h1
          cases h1) (fun z=>by
          have h1:=hk2.L
          rw [← z] at h1
          have h2:H2 y=_:=hy
          rw [h2] at h1
          cases h1) hy
      rcases List.mem_append.mp hy with z | z
      · obtain ⟨z1,z2,z3,z4⟩:=hk2.ch y z
        refine ⟨s6 _ _ (up _ _ (fun e=>?_) (fun e=>?_) z1),s6 _ _ (cel z2),by omega,by omega⟩
        · have h1:=hk2.ob
          rw [← e,z1] at h1
          cases h1
        · have h1:=hk2.L
          rw [← e,z1] at h1
          cases h1
      · have:y=(u,c,i,j,(ZaA prs i).getD j 0):=by simpa using z
        subst this
        exact ⟨s6 _ _ eu,s6 _ _ (cel hc2),by show i<_;omega,by show j<_;omega⟩
end
def Zkl (H:Hp) (c:Addr) (a b:Int):Prop:=H c=some (.tup [.int a,.int b])
def inT (r p:Nat) (a b:Int):Bool:=decide (0≤a∧a<(r:Int)) && decide (0≤b∧b<(p:Int))
section
variable {P:Program}{w:World}{K:PySem.W.Frag}{mg:Str→Option Value}{base:Heap}
def ZdW:Sp:=fun vs H Q _=>∃ (c:Addr) (a b:Int),vs=[.ref c]∧Zkl H c a b∧∀ H',Same H H'→Q (.bl true) H'
theorem Zf6 (T:Blt mg) (D:Zao K mg "all_whole" Za7 ["things"]) (G1:FnAt P w K mg base 1 "is_whole" ["thing"] ZbZ):FnAt P w K mg base 2 "all_whole" ["things"] ZdW:=by
  refine FnAt.of D ZbI (fun vs H Q E h=>?_) (fun f cdv A outer s H vs Q E hr h=>?_)
  · obtain ⟨c,i,j,rfl,_⟩:=h
    rfl
  · obtain ⟨c,i,j,rfl,hC,q⟩:=h
    have nd1:(["thing"]:List Str).Nodup:=by decide +kernel
    refine ⟨_,Zaf (Zan (pe_b (Zbd rfl) T.all boot_all (Zaa (ZaX ["thing"] [none] (Zag Za7) ["things"] rfl (Zhp (pv 0)) (by decide +kernel)
      (fun cl C s2 H2 ex=>pg_c 0 nd1) (fun cl C s2 H2 ex=>ZaK) (fun cl C s2 H2 ex=>pe_f G1 hr (Zaa (pv 0) Zab))) Zab))),?_⟩
    refine ⟨_,rfl,c,rfl,⟨_,SqT.of hC⟩,Zfu V.int (ms:=[i,j]) (fun _=>.bl true) (SqT.of hC) (by show 2≤sizeLine;decide) (fun n _ H' Q' sm q'=>?_) fun L H' hL sm hLl=>?_⟩
    · exact ⟨_,rfl,n,rfl,q' _ (Same.refl _)⟩
    · exact ⟨L,[true,true],rfl,SqL.of hLl,q H' sm⟩
def ZfK:Sp:=fun vs H Q _=>∃ (c:Addr) (r p:Nat) (a b:Int),vs=[.int (r:Nat),.int (p:Nat),.ref c]∧Zkl H c a b∧∀ H',Same H H'→Q (.bl (inT r p a b)) H'
theorem Zh5 (T:Blt mg) (htup:mg "tuple" = none) (D:Zao K mg "is_cell_of_size" Zeo ["rows","places","thing"]) (G:FnAt P w K mg base 2 "all_whole" ["things"] ZdW):FnAt P w K mg base 3 "is_cell_of_size" ["rows","places","thing"] ZfK:=by
  refine FnAt.of D Zd3 (fun vs H Q E h=>?_) (fun f cdv A outer s H vs Q E hr h=>?_)
  · obtain ⟨c,r,p,i,j,rfl,_⟩:=h
    rfl
  · obtain ⟨c,r,p,a,b,rfl,hC,q⟩:=h
    refine ⟨_,Zac (ZaO (PW.pt (ZcF (Za0 (Za3 (pe_b ZaU T.isinst boot_isinstance (Zaa (pv 2) (Zaa (Zdy htup boot_tuple) Zab))))) (ZcF (Zat Zf1 (pe_b Zah T.len boot_len (Zaa (pv 2) Zab)) Zae (Zax _)) (Zb1 (Za0 (Za3 (pe_f G hr (Zaa (pv 2) Zab)))))))) (Zaf (Zan Zce)) Zaq)
      (Zaf (Zan (Zb2 (ZbN o_le o_lt Zae (Zav Zbz (pv 2) Zae (fun _ _=>rfl)) (pv 0))
        (Zcj (ZbN o_le o_lt Zae (Zav Zbz (pv 2) Zae (fun _ _=>rfl)) (pv 1)))))),?_⟩
    refine ⟨_,rfl,_,_,_,_,rfl,.tup hC,ZlO _,_,rfl,iteF ⟨_,rfl,c,_,rfl,.inr (SqT.of hC),rfl,_,rfl,?_⟩⟩
    refine iteF ⟨_,rfl,c,a,b,rfl,hC,fun H1 s1=>⟨_,rfl,iteF ?_⟩⟩
    have hC1:Zkl H1 c a b:=s1 _ _ hC
    have q1:=q H1 s1
    unfold inT at q1
    refine ⟨_,rfl,c,_,0,.int a,rfl,rfl,SqT.of hC1,rfl,_,_,rfl,rfl,_,rfl,?_⟩
    by_cases h1:(0:Int)≤a
    · rw [decide_eq_true h1]
      refine iteT ⟨_,rfl,_,_,rfl,rfl,_,rfl,?_⟩
      by_cases h2:a<(r:Int)
      · rw [decide_eq_true h2]
        refine iteT ⟨_,rfl,c,_,1,.int b,rfl,rfl,SqT.of hC1,rfl,_,_,rfl,rfl,_,rfl,?_⟩
        rw [decide_eq_true (show 0≤a∧a<(r:Int) from ⟨h1,h2⟩),Bool.true_and] at q1
        by_cases h3:(0:Int)≤b
        · rw [decide_eq_true h3]
          refine iteT ⟨_,rfl,_,_,rfl,rfl,?_⟩
          have:decide (0≤b∧b<(p:Int))=decide (b<(p:Int)):=decide_eq_decide.mpr ⟨fun z=>z.2,fun z=>⟨h3,z⟩⟩
          rw [this] at q1
          exact q1
        · rw [decide_eq_false h3]
          refine iteF ?_
          rw [decide_eq_false (show ¬(0≤b∧b<(p:Int)) from fun z=>h3 z.1)] at q1
          exact q1
      · rw [decide_eq_false h2]
        refine iteF ?_
        rw [decide_eq_false (show ¬(0≤a∧a<(r:Int)) from fun z=>h2 z.2),Bool.false_and] at q1
        exact q1
    · rw [decide_eq_false h1]
      refine iteF ⟨_,rfl,iteF ?_⟩
      rw [decide_eq_false (show ¬(0≤a∧a<(r:Int)) from fun z=>h1 z.1),Bool.false_and] at q1
      exact q1
def ZfH:Sp:=fun vs H Q _=>∃ (t c:Addr) (prs:Prs) (a b:Int),vs=[.ref t,.ref c]∧Tab H t prs∧tabB prs=true∧Zkl H c a b∧∀ H',Same H H'→Q (.bl (inT prs.length (w0 prs) a b)) H'
theorem Zh2 (T:Blt mg) (D:Zao K mg "is_cell" Zen ["table","thing"]) (G:FnAt P w K mg base 3 "is_cell_of_size" ["rows","places","thing"] ZfK):FnAt P w K mg base 4 "is_cell" ["table","thing"] ZfH:=by
  refine FnAt.of D Zd2 (fun vs H Q E h=>?_) (fun f cdv A outer s H vs Q E hr h=>?_)
  · obtain ⟨t,c,prs,i,j,rfl,_⟩:=h
    rfl
  · obtain ⟨t,c,prs,i,j,rfl,hT,hg,hC,q⟩:=h
    obtain ⟨g,g1,g2,g3,g4⟩:=ZaI hg
    obtain ⟨p0,hp0,hm0,hx0⟩:=Zbe (prs:=prs) g1
    refine ⟨_,Zaf (Zan (pe_f G hr (Zaa (pe_b Zah T.len boot_len (Zaa (pv 0) Zab)) (Zaa (pe_b Zah T.len boot_len (Zaa (Zav Zam (pv 0) Zae (fun _ _=>rfl)) Zab)) (Zaa (pv 1) Zab))))),?_⟩
    exact ⟨_,rfl,t,_,rfl,.inl hT.sq,_,rfl,t,_,0,.ref p0.1,rfl,rfl,hT.sq,ZaB (j:=0) (by rw [List.getElem?_map,hx0];rfl),p0.1,_,rfl,.inl (hT.r p0 hm0).sq,_,rfl,c,prs.length,w0 prs,i,j,by rw [List.length_map,List.length_map,g.len p0 hm0],hC,q⟩
abbrev CsI:=List (Addr × Int × Int)
def numI (prs:Prs) (c:Addr × Int × Int):Int:=(ZaA prs c.2.1.toNat).getD c.2.2.toNat 0
def Zhg:Sp:=fun vs H Q _=>∃ (t b:Addr) (prs:Prs) (cs:CsI),vs=[.ref t,.ref b]∧Tab H t prs∧tabB prs=true∧H b=some (.lst (cs.map fun c=>V.ref c.1))∧cs.length≤1000∧(∀ c∈cs,Zkl H c.1 c.2.1 c.2.2) ∧
  ∀ L H',H L=none→Same H H'→H' L=some (.lst (((cs.filter fun c=>inT prs.length (w0 prs) c.2.1 c.2.2).map (numI prs)).map V.int))→Q (.ref L) H'
theorem ZiJ:FnScope ["table","beside"] ["table","beside"] (Zag Zft):=⟨rfl,rfl,rfl,by decide +kernel,rfl,by decide +kernel,by decide +kernel⟩
theorem Zjf (D:Zao K mg "numbers_beside" Zft ["table","beside"]) (G1:FnAt P w K mg base 4 "is_cell" ["table","thing"] ZfH) (G2:FnAt P w K mg base 7 "number_at" ["table","cell"] Zcr):FnAt P w K mg base 8 "numbers_beside" ["table","beside"] Zhg:=by
  refine FnAt.of D ZiJ (fun vs H Q E h=>?_) (fun f cdv A outer s H vs Q E hr h=>?_)
  · obtain ⟨t,b,prs,cs,rfl,_⟩:=h
    rfl
  · obtain ⟨t,b,prs,cs,rfl,hT,hg,hb,hl,hc,q⟩:=h
    have nd1:(["cell","table"]:List Str).Nodup:=by decide +kernel
    refine ⟨_,Zaf (Zan (ZaX ["cell","table"] [none,some 0] (Zag Zft) ["table","beside"] rfl (Zba (pv 1)) (by decide +kernel)
      (fun cl C s2 H2 ex=>pg_c 0 nd1) (fun cl C s2 H2 ex=>Zc3 (Za3 (pe_f G1 (hr.mono (by decide)) (Zaa (pv 1) (Zaa (pv 0) Zab))))) (fun cl C s2 H2 ex=>pe_f G2 hr (Zaa (pv 1) (Zaa (pv 0) Zab))))),?_⟩
    refine ⟨_,rfl,b,rfl,⟨_,SqL.of hb⟩,ZgT (fun c:Addr × Int × Int=>V.ref c.1) (fun c=>inT prs.length (w0 prs) c.2.1 c.2.2) (fun c=>.int (numI prs c)) (SqL.of hb) (Nat.le_of_lt (ZaZ hl)) (fun c hcm H' Q' sm q'=>?_) (fun c hcm hin H' Q' sm q'=>?_) fun L H' hL sm hLl=>q L H' hL sm (by rw [List.map_map];exact hLl)⟩
    · exact ⟨_,rfl,_,rfl,t,c.1,prs,c.2.1,c.2.2,rfl,hT.same sm,hg,sm _ _ (hc c hcm),fun H2 s2=>⟨_,rfl,q' H2 s2⟩⟩
    · unfold inT at hin
      rw [Bool.and_eq_true,decide_eq_true_eq,decide_eq_true_eq] at hin
      obtain ⟨⟨h1,h2⟩,h3,h4⟩:=hin
      have e1:((c.2.1.toNat:Nat):Int)=c.2.1:=Int.toNat_of_nonneg h1
      have e2:((c.2.2.toNat:Nat):Int)=c.2.2:=Int.toNat_of_nonneg h3
      refine ⟨_,rfl,_,rfl,t,c.1,prs,c.2.1.toNat,c.2.2.toNat,rfl,hT.same sm,hg,?_,by omega,by omega,q'⟩
      unfold Cell
      rw [e1,e2]
      exact sm _ _ (hc c hcm)
end
def ZaD (rows:List (List Int)) (i j:Nat):Int:=(rows.getD i []).getD j 0
def wR (rows:List (List Int)):Nat:=(rows.getD 0 []).length
def ZaR (rows:List (List Int)) (i j:Nat):List Int:=(if 0<i then [ZaD rows (i - 1) j] else []) ++ (if 0<j then [ZaD rows i (j - 1)] else [])
def Zaz (rows:List (List Int)) (i j:Nat):List Int:=(if i+1<rows.length then [ZaD rows (i+1) j] else []) ++ (if j+1<wR rows then [ZaD rows i (j+1)] else [])
def oV:Option Int→V
  | none=>.non
  | some n=>.int n
theorem Zjn {ns:List Int}{M:Int} (h1:M∈ns) (h2:∀ a∈ns,a≤M):ns.max? = some M:=by
  rw [List.max?_eq_some_iff]
  exact ⟨h1,h2⟩
theorem Zjl {ns:List Int}{M:Int} (h1:M∈ns) (h2:∀ a∈ns,M≤a):ns.min? = some M:=by
  rw [List.min?_eq_some_iff]
  exact ⟨h1,h2⟩
theorem ZeJ (prs:Prs) (i:Nat):ZaA prs i=(prs.map (·.2)).getD i []:=by
  unfold ZaA
  rw [List.getD_eq_getElem?_getD,List.getElem?_map]
theorem ZbF (prs:Prs) (i j:Nat):ZaD (prs.map (·.2)) i j=(ZaA prs i).getD j 0:=by
  unfold ZaD
  rw [ZeJ]
theorem ZcS (prs:Prs):wR (prs.map (·.2))=w0 prs:=by
  cases prs <;> rfl
theorem ZnL {prs:Prs} (a b:Addr) (x1 y1 x2 y2:Int):(([(a,x1,y1),(b,x2,y2)]:CsI).filter fun c=>inT prs.length (w0 prs) c.2.1 c.2.2).map (numI prs) =
    (if inT prs.length (w0 prs) x1 y1=true then [(ZaA prs x1.toNat).getD y1.toNat 0] else []) ++ (if inT prs.length (w0 prs) x2 y2=true then [(ZaA prs x2.toNat).getD y2.toNat 0] else []):=by
  rw [List.filter_cons,List.filter_cons,List.filter_nil]
  cases inT prs.length (w0 prs) x1 y1 <;> cases inT prs.length (w0 prs) x2 y2 <;> rfl
theorem Zlm {prs:Prs} (a b:Addr) {i j:Nat} (hi:i<prs.length) (hj:j<w0 prs) :
    (([(a,(i:Int) - 1,(j:Int)),(b,(i:Int),(j:Int) - 1)]:CsI).filter fun c=>inT prs.length (w0 prs) c.2.1 c.2.2).map (numI prs)=ZaR (prs.map (·.2)) i j:=by
  rw [ZnL]
  unfold ZaR
  rw [ZbF,ZbF]
  have e1:inT prs.length (w0 prs) ((i:Int) - 1) (j:Int)=decide (0<i):=by
    unfold inT
    rw [← Bool.decide_and]
    exact decide_eq_decide.mpr (by omega)
  have e2:inT prs.length (w0 prs) (i:Int) ((j:Int) - 1)=decide (0<j):=by
    unfold inT
    rw [← Bool.decide_and]
    exact decide_eq_decide.mpr (by omega)
  rw [e1,e2]
  simp only [decide_eq_true_eq]
  rw [show ((i:Int) - 1).toNat=i - 1 by omega,show ((j:Int) - 1).toNat=j - 1 by omega,Int.toNat_natCast,Int.toNat_natCast]
theorem Zj7 {prs:Prs} (a b:Addr) {i j:Nat} (hi:i<prs.length) (hj:j<w0 prs) :
    (([(a,(i:Int)+1,(j:Int)),(b,(i:Int),(j:Int)+1)]:CsI).filter fun c=>inT prs.length (w0 prs) c.2.1 c.2.2).map (numI prs)=Zaz (prs.map (·.2)) i j:=by
  rw [ZnL]
  unfold Zaz
  rw [ZbF,ZbF,ZcS,List.length_map]
  have e1:inT prs.length (w0 prs) ((i:Int)+1) (j:Int)=decide (i+1<prs.length):=by
    unfold inT
    rw [← Bool.decide_and]
    exact decide_eq_decide.mpr (by omega)
  have e2:inT prs.length (w0 prs) (i:Int) ((j:Int)+1)=decide (j+1<w0 prs):=by
    unfold inT
    rw [← Bool.decide_and]
    exact decide_eq_decide.mpr (by omega)
  rw [e1,e2]
  simp only [decide_eq_true_eq]
  rw [show ((i:Int)+1).toNat=i+1 by omega,show ((j:Int)+1).toNat=j+1 by omega,Int.toNat_natCast,Int.toNat_natCast]
section
variable {P:Program}{w:World}{K:PySem.W.Frag}{mg:Str→Option Value}{base:Heap}{C:Addr}
def ZlZ (H:Hp) (Q:VK) (rows:List (List Int)) (i j:Nat):Prop:=∀ r H',H r=none→Same H H'→H' r=some (.tup [oV (ZaR rows i j).max?,oV (Zaz rows i j).min?])→Q (.ref r) H'
def Zg7:Sp:=fun vs H Q _=>∃ (t c:Addr) (prs:Prs) (i j:Nat),vs=[.ref t,.ref c]∧Tab H t prs∧tabB prs=true∧Cell H c i j∧i<prs.length∧j<w0 prs∧ZlZ H Q (prs.map (·.2)) i j
theorem sc_span:FnScope ["table","cell","row","place","ahead","behind"] ["table","cell"] (Zag Zlb):=⟨rfl,rfl,rfl,by decide +kernel,rfl,by decide +kernel,by decide +kernel⟩
set_option maxHeartbeats 16000000 in
theorem Zmr (T:Blt mg) (hmin:mg "min" = none) (D:Zao K mg "span_of" Zlb ["table","cell"]) (G1:FnAt P w K mg base 5 "need_cell" ["table","thing"] ZbX) (G2:FnAt P w K mg base 8 "numbers_beside" ["table","beside"] Zhg):FnAt P w K mg base 9 "span_of" ["table","cell"] Zg7:=by
  refine FnAt.of D sc_span (fun vs H Q E h=>?_) (fun f cdv A outer s H vs Q E hr h=>?_)
  · obtain ⟨t,c,prs,i,j,rfl,_⟩:=h
    rfl
  · obtain ⟨t,c,prs,i,j,rfl,hT,hg,hC,hi,hj,q⟩:=h
    have nd:=sc_span.nd
    refine ⟨_,Zac (Zau (pe_f G1 (hr.mono (by decide)) (Zaa (pv 0) (Zaa (pv 1) Zab))))
      (Zac (Zaj (i:=2) nd rfl (Or.inl rfl) (Zav Zbz (pv 1) Zae (fun _ _=>rfl)))
      (Zac (Zaj (i:=3) nd rfl (Or.inl rfl) (Zav Zbz (pv 1) Zae (fun _ _=>rfl)))
      (Zac (Zaj (i:=4) nd rfl (Or.inl rfl) (pe_f G2 hr (Zaa (pv 0) (Zaa (ZaF (Zaa (Zbn (Zaa (Zas Zc4 (pv 2) Zae) (Zaa (pv 3) Zab))) (Zaa (Zbn (Zaa (pv 2) (Zaa (Zas Zc4 (pv 3) Zae) Zab))) Zab))) Zab))))
      (Zac (Zaj (i:=5) nd rfl (Or.inl rfl) (pe_f G2 hr (Zaa (pv 0) (Zaa (ZaF (Zaa (Zbn (Zaa (Zas Zbt (pv 2) Zae) (Zaa (pv 3) Zab))) (Zaa (Zbn (Zaa (pv 2) (Zaa (Zas Zbt (pv 3) Zae) Zab))) Zab))) Zab))))
      (Zaf (Zan (Zbn (Zaa (Zml rfl rfl T.max (pv 4) Zcd) (Zaa (Zmj rfl rfl hmin (pv 5) Zcd) Zab))))))))),?_⟩
    refine ⟨_,rfl,_,rfl,t,c,prs,i,j,rfl,hT,hg,hC,hi,hj,fun H1 s1=>?_⟩
    have hC1:Cell H1 c i j:=s1 _ _ hC
    have hT1:=hT.same s1
    refine ⟨_,rfl,c,_,0,.int (i:Nat),rfl,rfl,SqT.of hC1,rfl,_,rfl,c,_,1,.int (j:Nat),rfl,rfl,SqT.of hC1,rfl,?_⟩
    refine ⟨_,rfl,_,rfl,_,_,rfl,rfl,_,rfl,len2,fun u1 hu1=>⟨_,rfl,_,rfl,_,_,rfl,rfl,len2,fun u2 hu2=>⟨len2,fun l hl=>?_⟩⟩⟩
    have m1:=Same.new (o:=.tup [.int ((i:Int) - 1),.int (j:Nat)]) hu1
    have m2:=Same.new (o:=.tup [.int (i:Nat),.int ((j:Int) - 1)]) hu2
    have m3:=Same.new (o:=.lst [.ref u1,.ref u2]) hl
    refine ⟨t,l,prs,[(u1,(i:Int) - 1,(j:Int)),(u2,(i:Int),(j:Int) - 1)],rfl,((hT1.same m1).same m2).same m3,hg,Zad,(by show 2≤1000;decide),fun c hc=>?_,fun L H2 hL s2 eL=>?_⟩
    · rcases List.mem_cons.mp hc with z | hc
      · rw [z]
        exact m3 _ _ (m2 _ _ Zad)
      · rcases List.mem_cons.mp hc with z | hc
        · rw [z]
          exact m3 _ _ Zad
        · cases hc
    rw [Zlm u1 u2 hi hj] at eL
    have s12:Same H1 H2:=((m1.trans m2).trans m3).trans s2
    generalize hH:upd (upd (upd H1 u1 _) u2 _) l _=Hx at s2 hL
    clear hH m3 m2 m1
    have hT2:=hT1.same s12
    refine ⟨_,rfl,_,rfl,_,_,rfl,rfl,_,rfl,len2,fun u3 hu3=>⟨_,rfl,_,rfl,_,_,rfl,rfl,len2,fun u4 hu4=>⟨len2,fun l2 hl2=>?_⟩⟩⟩
    have m1:=Same.new (o:=.tup [.int ((i:Int)+1),.int (j:Nat)]) hu3
    have m2:=Same.new (o:=.tup [.int (i:Nat),.int ((j:Int)+1)]) hu4
    have m3:=Same.new (o:=.lst [.ref u3,.ref u4]) hl2
    refine ⟨t,l2,prs,[(u3,(i:Int)+1,(j:Int)),(u4,(i:Int),(j:Int)+1)],rfl,((hT2.same m1).same m2).same m3,hg,Zad,(by show 2≤1000;decide),fun c hc=>?_,fun L2 H3 hL2 s3 eL2=>?_⟩
    · rcases List.mem_cons.mp hc with z | hc
      · rw [z]
        exact m3 _ _ (m2 _ _ Zad)
      · rcases List.mem_cons.mp hc with z | hc
        · rw [z]
          exact m3 _ _ Zad
        · cases hc
    rw [Zj7 u3 u4 hi hj] at eL2
    have s23:Same H2 H3:=((m1.trans m2).trans m3).trans s3
    have s13:=s12.trans s23
    have eL3:=s23 _ _ eL
    have fin:∀ r,H3 r=none→Q (.ref r) (upd H3 r (.tup [oV (ZaR (prs.map (·.2)) i j).max?,oV (Zaz (prs.map (·.2)) i j).min?])):=fun r hr=>q r _ ((s1.trans s13).free hr) ((s1.trans s13).trans (Same.new hr)) Zad
    have key:∀ v1,v1=oV (ZaR (prs.map (·.2)) i j).max?→rDef K (fun a M=>M≤a) [.ref L2] [.non] H3 (fun v2 H4=>[v1,v2].length≤sizeLine∧∀ r,H4 r=none→Q (.ref r) (upd H4 r (.tup [v1,v2]))):=by
      intro v1 e1
      subst e1
      refine ⟨L2,_,.non,rfl,rfl,SqL.of eL2,fun z=>⟨len2,fun r hr=>?_⟩,fun _ M h1 h2=>⟨len2,fun r hr=>?_⟩⟩
      · have:=fin r hr
        rw [z] at this
        exact this
      · have:=fin r hr
        rw [Zjl h1 h2] at this
        exact this
    refine ⟨_,rfl,L,_,.non,rfl,rfl,SqL.of eL3,fun z=>⟨_,rfl,?_⟩,fun _ M h1 h2=>⟨_,rfl,?_⟩⟩
    · exact key .non (by rw [z];rfl)
    · exact key (.int M) (by rw [Zjn h1 h2];rfl)
theorem Zhk:FnScope ["self","cell"] ["self","cell"] (Zag (Za2 ZaJ 6)):=⟨rfl,rfl,rfl,by decide +kernel,rfl,by decide +kernel,by decide +kernel⟩
def Zgy (C:Addr):Sp:=fun vs H Q _=>∃ (a dx t l c:Addr) (prs:Prs) (cs:Ch) (i j:Nat),vs=[.ref a,.ref c]∧Keep H C a dx t l prs cs∧Cell H c i j∧i<prs.length∧j<w0 prs∧ZlZ H Q (prs.map (·.2)) i j
theorem ZkS (kc:KpC K C) (D:ZaV K C "span" "Keeper.span" (Za2 ZaJ 6) ["self","cell"]) (G:FnAt P w K mg base 9 "span_of" ["table","cell"] Zg7):MtAt P w K mg base 10 C "span" ["self","cell"] (Zgy C):=by
  refine MtAt.of D Zhk (fun vs H Q E h=>?_) (fun f cdv A outer s H vs Q E hr h=>?_)
  · obtain ⟨a,dx,t,l,c,prs,cs,i,j,rfl,_⟩:=h
    rfl
  · obtain ⟨a,dx,t,l,c,prs,cs,i,j,rfl,hk,hc,hi,hj,q⟩:=h
    refine ⟨_,Zaf (Zan (pe_f G hr (Zaa (ZbE (pv 0) rfl) (Zaa (pv 1) Zab)))),?_⟩
    exact ⟨_,rfl,a,C,dx,_,_,rfl,hk.ob,kc.cls,kc.nr,rfl,_,rfl,t,c,prs,i,j,rfl,hk.T,hk.ok,hc,hi,hj,q⟩
end
def Zez (prs:Prs):List Int:=(prs.map (·.2)).flatten
theorem Zic (p:Addr × List Int) (r:Prs):Zez (p :: r)=p.2 ++ Zez r:=rfl
theorem ZcZ {α:Type}{lt:α→α→Bool} (tot:∀ a b,lt a b=false→lt b a=false→a=b):∀ {xs ys:List α},xs.Perm ys→xs.Pairwise (fun r q=>lt q r=false)→ys.Pairwise (fun r q=>lt q r=false)→xs=ys
  | [],ys,h,_,_=>(List.nil_perm.mp h).symm
  | a :: xs,[],h,_,_=>by have:=h.length_eq;simp at this
  | a :: xs,b :: ys,h,h1,h2=>by
    rw [List.pairwise_cons] at h1 h2
    have e:a=b:=by
      have ha:a∈b :: ys:=h.subset (by simp)
      have hb:b∈a :: xs:=h.symm.subset (by simp)
      rcases List.mem_cons.mp ha with z | z
      · exact z
      · rcases List.mem_cons.mp hb with y | y
        · exact y.symm
        · exact tot a b (h2.1 a z) (h1.1 b y)
    subst e
    rw [ZcZ tot (List.perm_cons a |>.mp h) h1.2 h2.2]
def entR (i:Nat) (ns:List Int) (k:Nat):List (List Int):=(List.range k).map fun j=>[ns.getD j 0,(i:Int),(j:Int)]
def ZbQ (prs:Prs):Nat→List (List Int)
  | 0=>[]
  | i+1=>ZbQ prs i ++ entR i (ZaA prs i) (ZaA prs i).length
theorem ZjN (i:Nat) (ns:List Int) (k:Nat):entR i ns (k+1)=entR i ns k ++ [[ns.getD k 0,(i:Int),(k:Int)]]:=by
  unfold entR
  rw [List.range_succ,List.map_append]
  rfl
theorem ZhA (i:Nat) (ns:List Int) (k:Nat):(entR i ns k).length=k:=by
  unfold entR
  rw [List.length_map,List.length_range]
theorem Zb3 {prs:Prs}{e:List Int}:∀ {i:Nat},e∈ZbQ prs i→∃ n r p:Int,e=[n,r,p]
  | 0,h=>nomatch h
  | i+1,h=>by
    rcases List.mem_append.mp h with z | z
    · exact Zb3 z
    · obtain ⟨j,_,rfl⟩:=List.mem_map.mp z
      exact ⟨_,_,_,rfl⟩
def hdI (e:List Int):Int:=e.getD 0 0
theorem ZhV:∀ ns:List Int,(List.range ns.length).map (fun j=>ns.getD j 0)=ns:=fun ns=>by
  apply List.ext_getElem (by simp)
  intro i h1 h2
  simp [h2]
theorem Zig (i:Nat) (ns:List Int):(entR i ns ns.length).map hdI=ns:=by
  unfold entR
  rw [List.map_map]
  exact ZhV ns
theorem Zdt (prs:Prs):∀ i,i≤prs.length→(ZbQ prs i).map hdI=Zez (prs.take i)
  | 0,_=>by simp [ZbQ,Zez]
  | i+1,h=>by
    have ih:=Zdt prs i (by omega)
    show (ZbQ prs i ++ _).map hdI=_
    rw [List.map_append,ih,Zig]
    unfold Zez ZaA
    rw [List.take_add_one,List.getElem?_eq_getElem (by omega),List.map_append,List.flatten_append]
    simp
theorem ZgR (prs:Prs):(ZbQ prs prs.length).map hdI=Zez prs:=by
  rw [Zdt prs _ (Nat.le_refl _),List.take_length]
theorem Zjq {e f:List Int} (he:∃ n r p:Int,e=[n,r,p]) (hf:∃ n r p:Int,f=[n,r,p]) (h:HT.lexLt f e=false):hdI e≤hdI f:=by
  obtain ⟨n,r,p,rfl⟩:=he
  obtain ⟨m,r',p',rfl⟩:=hf
  rw [HT.lexLt_cons] at h
  show n≤m
  by_cases z:m=n
  · omega
  · rw [if_neg z] at h
    have:=of_decide_eq_false h
    omega
structure Sorted (prs:Prs) (fs:List (List Int)):Prop where
  pm:fs.Perm (ZbQ prs prs.length)
  up:fs.Pairwise (fun r q=>HT.lexLt q r=false)
theorem Sorted.heads {prs:Prs}{fs:List (List Int)} (h:Sorted prs fs):(fs.map hdI).Perm (Zez prs)∧(fs.map hdI).Pairwise (·≤·):=by
  refine ⟨?_,?_⟩
  · rw [← ZgR]
    exact h.pm.map hdI
  · rw [List.pairwise_map]
    refine List.Pairwise.imp_of_mem (fun {a b} ha hb z=>?_) h.up
    exact Zjq (Zb3 (h.pm.subset ha)) (Zb3 (h.pm.subset hb)) z
theorem Sorted.same {prs:Prs}{fs gs:List (List Int)} (h:Sorted prs fs) (g:Sorted prs gs):fs=gs:=ZcZ SrtT.lex_tot (h.pm.trans g.pm.symm) h.up g.up
theorem Zej {prs qs:Prs} (h:qs.map (·.2)=prs.map (·.2)):∀ i,ZbQ qs i=ZbQ prs i
  | 0=>rfl
  | i+1=>by
    have e:ZaA qs i=ZaA prs i:=by
      unfold ZaA
      rw [← List.getElem?_map,← List.getElem?_map,h]
    show ZbQ qs i ++ _=ZbQ prs i ++ _
    rw [Zej h i,e]
theorem Sorted.rows {prs qs:Prs}{fs:List (List Int)} (h:qs.map (·.2)=prs.map (·.2)) (s:Sorted qs fs):Sorted prs fs:=by
  have hl:qs.length=prs.length:=by
    have:=congrArg List.length h
    simpa using this
  refine ⟨?_,s.up⟩
  have:=s.pm
  rw [Zej h,hl] at this
  exact this
theorem ZjF {prs:Prs}{wide:Nat} (h:∀ p∈prs,p.2.length=wide):(Zez prs).length=prs.length * wide:=by
  induction prs with
  | nil=>simp [Zez]
  | cons p r ih =>
    rw [Zic,List.length_append,h p (by simp),ih fun q hq=>h q (by simp [hq]),List.length_cons,Nat.add_mul,Nat.one_mul,Nat.add_comm]
theorem Sorted.len {prs:Prs}{fs:List (List Int)} (s:Sorted prs fs):fs.length=(Zez prs).length:=by
  have:=s.heads.1.length_eq
  rw [List.length_map] at this
  exact this
abbrev Es:=List (Addr × List Int)
def ZeA (H:Hp) (e:Addr × List Int):Prop:=H e.1=some (.tup (e.2.map V.int))
section
variable {P:Program}{w:World}{K:PySem.W.Frag}{mg:Str→Option Value}{base:Heap}
def Ziw:Sp:=fun vs H Q _=>∃ (t:Addr) (prs:Prs),vs=[.ref t]∧Tab H t prs∧tabB prs=true∧Q (.int ((prs.length:Int) * (w0 prs:Int))) H
theorem Zl9:FnScope ["table"] ["table"] (Zag ZmX):=⟨rfl,rfl,rfl,by decide +kernel,rfl,by decide +kernel,by decide +kernel⟩
theorem Zmt (T:Blt mg) (D:Zao K mg "how_many_cells" ZmX ["table"]):FnAt P w K mg base 1 "how_many_cells" ["table"] Ziw:=by
  refine FnAt.of D Zl9 (fun vs H Q E h=>?_) (fun f cdv A outer s H vs Q E hr h=>?_)
  · obtain ⟨t,prs,rfl,_⟩:=h
    rfl
  · obtain ⟨t,prs,rfl,hT,hg,q⟩:=h
    obtain ⟨g,g1,g2,g3,g4⟩:=ZaI hg
    obtain ⟨p0,hp0,hm0,hx0⟩:=Zbe (prs:=prs) g1
    refine ⟨_,Zaf (Zan (Zas ZdA (pe_b Zah T.len boot_len (Zaa (pv 0) Zab)) (pe_b Zah T.len boot_len (Zaa (Zav Zam (pv 0) Zae (fun _ _=>rfl)) Zab)))),?_⟩
    refine ⟨_,rfl,t,_,rfl,.inl hT.sq,_,rfl,t,_,0,.ref p0.1,rfl,rfl,hT.sq,ZaB (j:=0) (by rw [List.getElem?_map,hx0];rfl),p0.1,_,rfl,.inl (hT.r p0 hm0).sq,_,_,rfl,rfl,.inl ⟨by omega,by rw [List.length_map];omega⟩,?_⟩
    rw [List.length_map,List.length_map,g.len p0 hm0]
    exact q
def Zhb:Sp:=fun vs H Q _=>∃ (t:Addr) (prs:Prs),vs=[.ref t]∧Tab H t prs∧tabB prs=true ∧
  ∀ L (es:Es) H',H L=none→Same H H'→H' L=some (.lst (es.map fun e=>V.ref e.1))→(∀ e∈es,ZeA H' e∧H e.1=none)→Sorted prs (es.map (·.2))→Q (.ref L) H'
theorem sc_merged:FnScope ["table","entries","row","numbers"] ["table"] (Zag Zfr):=⟨rfl,rfl,rfl,by decide +kernel,rfl,by decide +kernel,by decide +kernel⟩
set_option maxHeartbeats 16000000 in
theorem Zi7 (T:Blt mg) (hso:mg "sorted" = none) (D:Zao K mg "merged" Zfr ["table"]) (G1:FnAt P w K mg base 6 "need_table" ["thing"] Zbs):FnAt P w K mg base 7 "merged" ["table"] Zhb:=by
  refine FnAt.of D sc_merged (fun vs H Q E h=>?_) (fun f cdv A outer s H vs Q E hr h=>?_)
  · obtain ⟨t,prs,rfl,_⟩:=h
    rfl
  · obtain ⟨t,prs,rfl,hT,hg,q⟩:=h
    obtain ⟨g,g1,g2,g3,g4⟩:=ZaI hg
    have hs:=ZaN hg
    have nd:=sc_merged.nd
    have nd1:(["place","number","row"]:List Str).Nodup:=by decide +kernel
    refine ⟨_,Zac (Zau (pe_f G1 hr (Zaa (pv 0) Zab)))
      (Zac (Zaj (i:=1) nd rfl (Or.inl rfl) (ZaF Zab))
      (Zac (Zci PassesOwn.never rfl (Ze8 rfl T.enum (Zaa (pv 0) Zab)) (Zd8 rfl (ZaY (ZaM (i:=2) nd rfl (Or.inr rfl)) (ZaY (ZaM (i:=3) nd rfl (Or.inl rfl)) ZcL)))
        (Zaf (Zau (Zex PySem.F.plainAttrs_list PySem.F.slot_list_extend PySem.F.type_list_extend Zf8 (pv 1) (Zaa
          (ZaX ["place","number","row"] [none,none,some 2] (Zag Zfr) ["table","entries","row","numbers"] rfl (Ze8 rfl T.enum (Zaa (pv 3) Zab)) (by decide +kernel)
            (fun cl C s2 H2 ex=>Zmh K rfl nd1) (fun cl C s2 H2 ex=>ZaK) (fun cl C s2 H2 ex=>Zbn (Zaa (pv 1) (Zaa (pv 2) (Zaa (pv 0) Zab))))) Zab)))))
      (Zaf (Zan (pe_b (Zgk hr.units) hso boot_sorted (Zaa (pv 1) Zab)))))),?_⟩
    refine ⟨_,rfl,t,prs,rfl,hT,hs,hg,fun H1 s1=>⟨len0,fun L hL=>?_⟩⟩
    have L0:H L=none:=s1.free hL
    have s2:Same H (upd H1 L (.lst [])):=s1.trans (Same.new hL)
    refine ⟨_,rfl,t,rfl,⟨_,(hT.same s2).sq⟩,Zhx (K:=K) (a:=t) (xs:=prs.map fun p=>V.ref p.1) (fun i σ H2=>∃ (cs:Es) (o2 o3:Option V),σ = [some (.ref t),some (.ref L),o2,o3]∧Same H H2∧H2 L=some (.lst (cs.map fun e=>V.ref e.1)) ∧
      (∀ c∈cs,ZeA H2 c∧H c.1=none)∧cs.map (·.2)=ZbQ prs i∧cs.length≤6 * i)
      ⟨[],none,none,rfl,s2,Zad,fun c hc=>(nomatch hc),rfl,by simp⟩ (fun i σ H2 _ ⟨_,_,_,_,sm,_⟩=>(hT.same sm).sq) ?_ ?_⟩
    · rintro i y σ H2 T1 hi ⟨cs,o2,o3,rfl,sm,hLl,hcs,hcm,hcl⟩ hT1
      have hil:i<prs.length:=by
        have:=(List.getElem?_eq_some_iff.mp hi).1
        rw [List.length_map] at this
        exact this
      obtain ⟨p,hp1,hp2,hp3⟩:=ZaE hil
      rw [List.getElem?_map,hp2] at hi
      have hy:V.ref p.1=y:=Option.some.inj hi
      subst hy
      have hpl:=g.len p hp1
      have smT:Same H2 (upd H2 T1 (.tup [.int (i:Nat),.ref p.1])):=Same.new hT1
      have eT:(upd H2 T1 (.tup [.int (i:Nat),.ref p.1])) T1=some (.tup [.int (i:Nat),.ref p.1]):=Zad
      generalize upd H2 T1 (.tup [.int (i:Nat),.ref p.1])=H3 at smT eT ⊢
      refine ⟨T1,_,rfl,SqT.of eT,rfl,_,_,rfl,_,_,rfl,rfl,?_⟩
      have sm3:=sm.trans smT
      have hR3:=(hT.same sm3).r p hp1
      have hL3:=smT _ _ hLl
      refine ⟨_,rfl,.inl ⟨rfl,_,SqL.of hL3⟩,_,rfl,p.1,rfl,⟨_,hR3.sq⟩,?_⟩
      refine Zgi (xs:=p.2.map V.int) (fun D2 k ys H'=>∃ qs:Es,Same H3 H'∧H' D2=some (.lst ys)∧ys=(qs.map fun e=>V.ref e.1)∧(∀ c∈qs,ZeA H' c∧H3 c.1=none∧c.1≠D2)∧qs.map (·.2)=entR i p.2 k)
        (fun D2 hD2=>⟨[],Same.new hD2,Zad,rfl,fun c hc=>(nomatch hc),rfl⟩) (fun D2 k ys H' _ _ ⟨_,sm',e,_⟩=>⟨e,(hR3.same sm').sq⟩) ?_ ?_
      · rintro D2 k z ys H' T2 hD2 hz ⟨qs,sm',eD,hys,hqs,hqm⟩ hT2
        have hkl:k<p.2.length:=by
          have:=(List.getElem?_eq_some_iff.mp hz).1
          rw [List.length_map] at this
          exact this
        have ez:z=.int (p.2.getD k 0):=by
          rw [List.getElem?_map,List.getElem?_eq_getElem hkl] at hz
          rw [List.getD_eq_getElem?_getD,List.getElem?_eq_getElem hkl]
          exact (Option.some.inj hz).symm
        subst ez
        have smT2:Same H' (upd H' T2 (.tup [.int (k:Nat),.int (p.2.getD k 0)])):=Same.new hT2
        generalize upd H' T2 (.tup [.int (k:Nat),.int (p.2.getD k 0)])=H4 at smT2 ⊢
        have ql:qs.length=k:=by
          have:=congrArg List.length hqm
          rw [List.length_map,ZhA] at this
          exact this
        unfold ZcJ
        refine iteT ⟨_,rfl,_,rfl,_,rfl,len3,fun T3 hT3=>?_⟩
        have nT3:D2≠T3:=Zak (smT2 _ _ eD) hT3
        have s3T:Same H4 (upd H4 T3 (.tup [.int (p.2.getD k 0),.int (i:Nat),.int (k:Nat)])):=Same.new hT3
        refine ⟨s3T _ _ (smT2 _ _ eD),?_,qs ++ [(T3,[p.2.getD k 0,(i:Int),(k:Int)])],((sm'.trans smT2).trans s3T).upd hD2,Zad,?_,fun c hc=>?_,?_⟩
        · rw [hys,List.length_map]
          exact ZaZ (by omega)
        · rw [hys,List.map_append]
          rfl
        · rcases List.mem_append.mp hc with z | z
          · obtain ⟨z1,z2,z3⟩:=hqs c z
            refine ⟨?_,z2,z3⟩
            unfold ZeA
            rw [Zal z3]
            exact s3T _ _ (smT2 _ _ z1)
          · have:c=(T3,[p.2.getD k 0,(i:Int),(k:Int)]):=by simpa using z
            subst this
            refine ⟨?_,(sm'.trans smT2).free hT3,Ne.symm nT3⟩
            unfold ZeA
            rw [Zal (Ne.symm nT3)]
            exact Zad
        · rw [List.map_append,hqm,ZjN]
          rfl
      · rintro D2 ys H' hD2 ⟨qs,sm',eD,hys,hqs,hqm⟩
        rw [List.length_map] at hqm
        have ql:qs.length=p.2.length:=by
          have:=congrArg List.length hqm
          rw [List.length_map,ZhA] at this
          exact this
        have hL4:=sm' _ _ hL3
        refine ⟨L,D2,_,_,rfl,rfl,hL4,eD,?_,?_⟩
        · rw [List.length_map,hys,List.length_map]
          exact sl6 (by omega)
        · refine ⟨cs ++ qs,_,_,rfl,(sm3.trans sm').upd L0,?_,fun c hc=>?_,?_,?_⟩
          · rw [Zad,hys,List.map_append]
          · have nL:∀ c:Addr × List Int,ZeA H' c→c.1≠L:=fun c h=>ZnA h hL4 (by intro z;cases z)
            rcases List.mem_append.mp hc with z | z
            · obtain ⟨z1,z2⟩:=hcs c z
              have z3:ZeA H' c:=sm' _ _ (smT _ _ z1)
              refine ⟨?_,z2⟩
              unfold ZeA
              rw [Zal (nL c z3)]
              exact z3
            · obtain ⟨z1,z2,z3⟩:=hqs c z
              refine ⟨?_,sm3.free z2⟩
              unfold ZeA
              rw [Zal (nL c z1)]
              exact z1
          · rw [List.map_append,hcm,hqm]
            show _=ZbQ prs i ++ _
            rw [hp3]
          · rw [List.length_append]
            omega
    · rintro σ H2 ⟨cs,o2,o3,rfl,sm,hLl,hcs,hcm,hcl⟩
      rw [List.length_map] at hcm hcl
      refine ⟨_,rfl,L,cs,rfl,SqL.of hLl,by omega,fun c hc=>⟨SqT.of (hcs c hc).1,?_⟩,fun D rs' hD hpm hup=>?_⟩
      · have:c.2∈ZbQ prs prs.length:=by
          rw [← hcm]
          exact List.mem_map.mpr ⟨c,hc,rfl⟩
        obtain ⟨n,r,p,e⟩:=Zb3 this
        rw [e]
        exact Nat.succ_pos _
      · refine q D rs' _ (sm.free hD) (sm.trans (Same.new hD)) Zad (fun e he=>?_) ⟨?_,?_⟩
        · obtain ⟨z1,z2⟩:=hcs e (hpm.subset he)
          exact ⟨(Same.new hD) _ _ z1,z2⟩
        · rw [← hcm]
          exact hpm.map _
        · rw [List.pairwise_map]
          exact hup
def ZdT:Sp:=fun vs H Q _=>∃ (t:Addr) (prs:Prs) (k:Nat),vs=[.ref t,.int (k:Nat)]∧Tab H t prs∧tabB prs=true∧k<prs.length * w0 prs∧Q .non H
theorem Zdo:FnScope ["table","thing"] ["table","thing"] (Zag ZcB):=⟨rfl,rfl,rfl,by decide +kernel,rfl,by decide +kernel,by decide +kernel⟩
theorem Zf4 (D:Zao K mg "need_place" ZcB ["table","thing"]) (G1:FnAt P w K mg base 1 "is_whole" ["thing"] ZbZ) (G2:FnAt P w K mg base 1 "how_many_cells" ["table"] Ziw):FnAt P w K mg base 2 "need_place" ["table","thing"] ZdT:=by
  refine FnAt.of D Zdo (fun vs H Q E h=>?_) (fun f cdv A outer s H vs Q E hr h=>?_)
  · obtain ⟨t,prs,k,rfl,_⟩:=h
    rfl
  · obtain ⟨t,prs,k,rfl,hT,hg,hk,q⟩:=h
    refine ⟨_,Zaf (ZaO (PW.pt (ZcF (Za0 (Za3 (pe_f G1 hr (Zaa (pv 1) Zab)))) (Zb1 (Za0 (ZdG o_le o_lt Zae (pv 1) (pe_f G2 hr (Zaa (pv 0) Zab))))))) ZaT Zaq),?_⟩
    refine ⟨_,rfl,_,rfl,_,rfl,iteF ⟨_,rfl,_,_,rfl,rfl,_,rfl,?_⟩⟩
    rw [decide_eq_true (show (0:Int)≤(k:Nat) by omega)]
    refine iteT ⟨_,rfl,t,prs,rfl,hT,hg,_,_,rfl,rfl,_,rfl,?_⟩
    rw [decide_eq_true (show ((k:Nat):Int)<(prs.length:Int) * (w0 prs:Int) by rw [← Int.natCast_mul];omega)]
    exact iteF q
def ZeB:Sp:=fun vs H Q _=>∃ (t:Addr) (prs:Prs) (k:Nat),vs=[.ref t,.int (k:Nat)]∧Tab H t prs∧tabB prs=true∧k<prs.length * w0 prs∧∀ fs H',Same H H'→Sorted prs fs→Q (.int (hdI (fs.getD k []))) H'
theorem Zd0:FnScope ["table","k"] ["table","k"] (Zag Zc7):=⟨rfl,rfl,rfl,by decide +kernel,rfl,by decide +kernel,by decide +kernel⟩
theorem ZgH (D:Zao K mg "number_by" Zc7 ["table","k"]) (G1:FnAt P w K mg base 6 "need_table" ["thing"] Zbs) (G2:FnAt P w K mg base 2 "need_place" ["table","thing"] ZdT) (G3:FnAt P w K mg base 7 "merged" ["table"] Zhb):FnAt P w K mg base 8 "number_by" ["table","k"] ZeB:=by
  refine FnAt.of D Zd0 (fun vs H Q E h=>?_) (fun f cdv A outer s H vs Q E hr h=>?_)
  · obtain ⟨t,prs,k,rfl,_⟩:=h
    rfl
  · obtain ⟨t,prs,k,rfl,hT,hg,hk,q⟩:=h
    obtain ⟨g,g1,g2,g3,g4⟩:=ZaI hg
    refine ⟨_,Zac (Zau (pe_f G1 (hr.mono (by decide)) (Zaa (pv 0) Zab))) (Zac (Zau (pe_f G2 (hr.mono (by decide)) (Zaa (pv 0) (Zaa (pv 1) Zab))))
      (Zaf (Zan (Zav Zbz (Zav Zam (pe_f G3 hr (Zaa (pv 0) Zab)) (pv 1) (fun _ _=>rfl)) Zae (fun _ _=>rfl))))),?_⟩
    refine ⟨_,rfl,t,prs,rfl,hT,ZaN hg,hg,fun H1 s1=>⟨_,rfl,_,rfl,t,prs,k,rfl,hT.same s1,hg,hk,?_⟩⟩
    refine ⟨_,rfl,t,prs,rfl,hT.same s1,hg,fun L es H2 hL s2 hLl hes hso=>?_⟩
    have hl:es.length=prs.length * w0 prs:=by
      have:=hso.len
      rw [List.length_map,ZjF g.len] at this
      exact this
    have hk2:k<es.length:=by omega
    have he:=(hes es[k] (List.getElem_mem hk2)).1
    obtain ⟨n,r,p,e3⟩:∃ n r p:Int,es[k].2=[n,r,p]:=Zb3 (hso.pm.subset (List.mem_map.mpr ⟨es[k],List.getElem_mem hk2,rfl⟩))
    unfold ZeA at he
    rw [e3] at he
    refine ⟨_,rfl,L,_,_,.ref es[k].1,rfl,rfl,SqL.of hLl,ZaB (by simp [hk2]),es[k].1,_,0,.int n,rfl,rfl,SqT.of he,rfl,?_⟩
    have:=q (es.map (·.2)) H2 (s1.trans s2) hso
    have e4:hdI ((es.map (·.2)).getD k [])=n:=by
      rw [List.getD_eq_getElem?_getD,List.getElem?_map,List.getElem?_eq_getElem hk2]
      show hdI es[k].2=n
      rw [e3]
      rfl
    rw [e4] at this
    exact this
end
def prs0 (rows:List (List Int)):Prs:=rows.map fun r=>((0:Addr),r)
theorem Zd7 (rows:List (List Int)):(prs0 rows).map (·.2)=rows:=by
  unfold prs0
  rw [List.map_map]
  exact List.map_id _
def NumIs (rows:List (List Int)) (k:Nat) (n:Int):Prop:=∃ fs,Sorted (prs0 rows) fs∧n=hdI (fs.getD k [])
theorem NumIs.same {rows:List (List Int)}{k:Nat}{n m:Int} (h:NumIs rows k n) (g:NumIs rows k m):n=m:=by
  obtain ⟨fs,h1,rfl⟩:=h
  obtain ⟨gs,g1,rfl⟩:=g
  rw [h1.same g1]
theorem NumIs.of {prs:Prs}{k:Nat}{fs:List (List Int)} (h:Sorted prs fs):NumIs (prs.map (·.2)) k (hdI (fs.getD k [])):=⟨fs,h.rows (by rw [Zd7]),rfl⟩
theorem ZdB {c A B:Prop} [Decidable c] (hc:¬ c) (h:B):if decide c=true then A else B:=by
  rw [decide_eq_false hc]
  exact iteF h
theorem Zgc {c A B:Prop} [Decidable c] (hc:c) (h:A):if decide c=true then A else B:=by
  rw [decide_eq_true hc]
  exact iteT h
section
variable {P:Program}{w:World}{K:PySem.W.Frag}{mg:Str→Option Value}{base:Heap}{C:Addr}
theorem ZeG:FnScope ["self","k"] ["self","k"] (Zag (Za2 ZaJ 5)):=⟨rfl,rfl,rfl,by decide +kernel,rfl,by decide +kernel,by decide +kernel⟩
def ZfG (C:Addr):Sp:=fun vs H Q _=>∃ (a dx t l:Addr) (prs:Prs) (cs:Ch) (k:Nat),vs=[.ref a,.int (k:Nat)]∧Keep H C a dx t l prs cs∧k<prs.length * w0 prs∧∀ n H',Same H H'→NumIs (prs.map (·.2)) k n→Q (.int n) H'
theorem ZhY (kc:KpC K C) (D:ZaV K C "number" "Keeper.number" (Za2 ZaJ 5) ["self","k"]) (G:FnAt P w K mg base 8 "number_by" ["table","k"] ZeB):MtAt P w K mg base 9 C "number" ["self","k"] (ZfG C):=by
  refine MtAt.of D ZeG (fun vs H Q E h=>?_) (fun f cdv A outer s H vs Q E hr h=>?_)
  · obtain ⟨a,dx,t,l,prs,cs,k,rfl,_⟩:=h
    rfl
  · obtain ⟨a,dx,t,l,prs,cs,k,rfl,hk,hl,q⟩:=h
    refine ⟨_,Zaf (Zan (pe_f G hr (Zaa (ZbE (pv 0) rfl) (Zaa (pv 1) Zab)))),?_⟩
    exact ⟨_,rfl,a,C,dx,_,_,rfl,hk.ob,kc.cls,kc.nr,rfl,_,rfl,t,prs,k,rfl,hk.T,hk.ok,hl,fun fs H' sm so=>q _ H' sm (.of so)⟩
theorem sc_kUndo:FnScope ["self","last","before"] ["self"] (Zag (Za2 ZaJ 2)):=⟨rfl,rfl,rfl,by decide +kernel,rfl,by decide +kernel,by decide +kernel⟩
def Zgx (C:Addr):Sp:=fun vs H Q _=>∃ (a dx t l u c:Addr) (prs:Prs) (cs:Ch) (i j:Nat) (x:Int),vs=[.ref a]∧Keep H C a dx t l prs (cs ++ [(u,c,i,j,x)])∧cs.length<1000∧Zbj (setR (prs.map (·.2)) i j x)=true ∧
  ∀ t' prs' r H',H t'=none→(∀ p∈prs',H p.1=none∧p.1≠t')→(prs'.map (·.1)).Nodup→H r=none→(∀ b o,b≠a→b≠l→H b=some o→H' b=some o)→prs'.map (·.2)=setR (prs.map (·.2)) i j x→H' r=some (.tup [.int ((ZaA prs i).getD j 0),.int x])→r≠a→r≠l →
    Keep H' C a dx t' l prs' cs→Q (.ref r) H'
set_option maxHeartbeats 16000000 in
theorem ZkR (T:Blt mg) (kc:KpC K C) (D:ZaV K C "undo" "Keeper.undo" (Za2 ZaJ 2) ["self"]) (G1:FnAt P w K mg base 2 "table_with" ["table","cell","x"] Zg4) (G2:FnAt P w K mg base 7 "number_at" ["table","cell"] Zcr):MtAt P w K mg base 8 C "undo" ["self"] (Zgx C):=by
  refine MtAt.of D sc_kUndo (fun vs H Q E h=>?_) (fun f cdv A outer s H vs Q E hr h=>?_)
  · obtain ⟨a,dx,t,l,u,c,prs,cs,i,j,x,rfl,_⟩:=h
    rfl
  · obtain ⟨a,dx,t,l,u,c,prs,cs,i,j,x,rfl,hk,hcl,ok,q⟩:=h
    have nd:=sc_kUndo.nd
    obtain ⟨hu,hc,hi,hj⟩:=hk.ch (u,c,i,j,x) (List.mem_append_right _ (.head _))
    have hi:i<prs.length:=hi
    have hj:j<w0 prs:=hj
    have hu:H u=some (.tup [.ref c,.int x]):=hu
    have hc:Cell H c i j:=hc
    obtain ⟨g,g1,g2,g3,g4⟩:=ZaI hk.ok
    have hli:(ZaA prs i).length=w0 prs:=by
      obtain ⟨p,hp,_,e⟩:=ZaE hi
      rw [e]
      exact g.len p hp
    refine ⟨_,Zac (ZaO (Zat Zdj (pe_b Zah T.len boot_len (Zaa (ZbE (pv 0) rfl) Zab)) Zae (Zax _)) ZaT Zaq)
      (Zac (Zaj (i:=1) nd rfl (Or.inl rfl) (Znq PySem.F.plainAttrs_list PySem.F.slot_list_pop PySem.F.type_list_pop ZnB (ZbE (pv 0) rfl)))
      (Zac (Zaj (i:=2) nd rfl (Or.inl rfl) (pe_f G2 hr (Zaa (ZbE (pv 0) rfl) (Zaa (Zav Zbz (pv 1) Zae (fun _ _=>rfl)) Zab))))
      (Zac (Zho (pv 0) (pe_f G1 (hr.mono (by decide)) (Zaa (ZbE (pv 0) rfl) (Zaa (Zav Zbz (pv 1) Zae (fun _ _=>rfl)) (Zaa (Zav Zbz (pv 1) Zae (fun _ _=>rfl)) Zab)))) rfl)
      (Zaf (Zan (Zbn (Zaa (pv 2) (Zaa (Zav Zbz (pv 1) Zae (fun _ _=>rfl)) Zab)))))))),?_⟩
    refine ⟨_,rfl,a,C,dx,_,_,rfl,hk.ob,kc.cls,kc.nc,rfl,l,_,rfl,.inl (SqL.of hk.L),rfl,_,rfl,?_⟩
    have hz:¬ (V.int (((cs ++ [(u,c,i,j,x)]).map fun c=>V.ref c.1).length:Nat)=V.int 0):=by
      intro z
      injection z with z
      simp at z
      omega
    refine ZdB hz ?_
    refine ⟨_,rfl,a,C,dx,_,_,rfl,hk.ob,kc.cls,kc.nc,rfl,.inl ⟨rfl,_,SqL.of hk.L⟩,l,_,.ref u,rfl,rfl,hk.L,by simp,?_⟩
    have hmu:V.ref u∈(cs ++ [(u,c,i,j,x)]).map fun c=>V.ref c.1:=List.mem_map.mpr ⟨_,List.mem_append_right _ (.head _),rfl⟩
    have nla:a≠l:=fun z=>by
      have h1:=hk.L
      rw [← z,hk.ob] at h1
      cases h1
    have nul:u≠l:=fun z=>by
      have h1:=hk.L
      rw [← z,hu] at h1
      cases h1
    have ntl:t≠l:=fun z=>by
      have h1:=hk.T.l
      rw [z,hk.L] at h1
      injection h1 with h1
      injection h1 with h1
      rw [h1] at hmu
      obtain ⟨p,hp,e⟩:=List.mem_map.mp hmu
      injection e with e
      have h2:H p.1=_:=hk.T.r p hp
      rw [e,hu] at h2
      cases h2
    have npl:∀ p∈prs,p.1≠l:=fun p hp z=>by
      have h1:H p.1=_:=hk.T.r p hp
      rw [z,hk.L] at h1
      injection h1 with h1
      injection h1 with h1
      rw [h1] at hmu
      obtain ⟨n,_,e⟩:=List.mem_map.mp hmu
      cases e
    have ncl:∀ {y:Addr}{i' j':Nat},Cell H y i' j'→y≠l:=fun {y i' j'} h z=>by
      have h1:H y=_:=h
      rw [z,hk.L] at h1
      cases h1
    have nca:∀ {y:Addr}{i' j':Nat},Cell H y i' j'→y≠a:=fun {y i' j'} h z=>by
      have h1:H y=_:=h
      rw [z,hk.ob] at h1
      cases h1
    have eL:(upd H l (.lst ((cs ++ [(u,c,i,j,x)]).map fun c=>V.ref c.1).dropLast)) l=some (.lst (cs.map fun c=>V.ref c.1)):=by
      rw [Zad,List.map_append]
      simp
    have k1:∀ b o,b≠l→H b=some o→(upd H l (.lst ((cs ++ [(u,c,i,j,x)]).map fun c=>V.ref c.1).dropLast)) b=some o:=fun b o n e=>by rw [Zal n];exact e
    generalize upd H l (.lst ((cs ++ [(u,c,i,j,x)]).map fun c=>V.ref c.1).dropLast)=H1 at eL k1 ⊢
    have hT1:Tab H1 t prs:=⟨k1 _ _ ntl hk.T.l,fun p hp=>k1 _ _ (npl p hp) (hk.T.r p hp)⟩
    have ob1:=k1 _ _ nla hk.ob
    have hu1:=k1 _ _ nul hu
    have hc1:Cell H1 c i j:=k1 _ _ (ncl hc) hc
    refine ⟨_,rfl,a,C,dx,_,_,rfl,ob1,kc.cls,kc.nr,rfl,_,rfl,u,_,0,.ref c,rfl,rfl,SqT.of hu1,rfl,t,c,prs,i,j,rfl,hT1,hk.ok,hc1,hi,hj,fun H2 s2=>?_⟩
    refine ⟨_,rfl,a,C,dx,_,_,rfl,s2 _ _ ob1,kc.cls,kc.nr,rfl,_,rfl,u,_,0,.ref c,rfl,rfl,SqT.of (s2 _ _ hu1),rfl,_,rfl,u,_,1,.int x,rfl,rfl,SqT.of (s2 _ _ hu1),rfl,t,c,prs,i,j,x,rfl,hT1.same s2,ZaN hk.ok,s2 _ _ hc1,hi,by omega,fun t' prs' H3 ht' hq hnd s3 hT3 hrows=>?_⟩
    have s13:=s2.trans s3
    refine ⟨_,rfl,a,C,dx,_,rfl,s13 _ _ ob1,kc.cls,kc.nr,(by show 2<1000;decide),?_⟩
    have k4:∀ b o,b≠a→H3 b=some o→(upd H3 a (.ins C dx (putF "rows" (.ref t') [("rows", .ref t),("changes", .ref l)]))) b=some o:=fun b o n e=>by rw [Zal n];exact e
    have e4:(upd H3 a (.ins C dx (putF "rows" (.ref t') [("rows", .ref t),("changes", .ref l)]))) a=some (.ins C dx [("rows", .ref t'),("changes", .ref l)]):=Zad
    generalize upd H3 a (.ins C dx (putF "rows" (.ref t') [("rows", .ref t),("changes", .ref l)]))=H4 at k4 e4 ⊢
    have nua:u≠a:=fun z=>by
      rw [z,hk.ob] at hu
      cases hu
    have hu4:=k4 _ _ nua (s13 _ _ hu1)
    have up:∀ b o,b≠a→b≠l→H b=some o→H4 b=some o:=fun b o n1 n2 e=>k4 b o n1 (s13 _ _ (k1 b o n2 e))
    have fr:∀ {y:Addr},H1 y=none→H y=none∧y≠a∧y≠l:=fun {y} hy=>by
      have n1:y≠l:=fun z=>by rw [z,eL] at hy;cases hy
      refine ⟨?_,(fun z=>by rw [z,ob1] at hy;cases hy),n1⟩
      cases e:H y with
      | none=>rfl
      | some o =>
        rw [k1 y o n1 e] at hy
        cases hy
    refine ⟨_,rfl,_,rfl,u,_,1,.int x,rfl,rfl,SqT.of hu4,rfl,len2,fun r hr'=>?_⟩
    have nra:r≠a:=fun z=>by rw [z,e4] at hr';cases hr'
    have L4:=k4 _ _ nla.symm (s13 _ _ eL)
    have nrl:r≠l:=fun z=>by rw [z,L4] at hr';cases hr'
    have hr0:H r=none:=by
      cases e:H r with
      | none=>rfl
      | some o =>
        rw [up r o nra nrl e] at hr'
        cases hr'
    have s5:=Same.new (o:=.tup [.int ((ZaA prs i).getD j 0),.int x]) hr'
    obtain ⟨wl,ww⟩:=ZgZ hrows
    have ft:=fr (s2.free ht')
    refine q t' prs' r _ ft.1 (fun p hp=>⟨(fr (s2.free (hq p hp).1)).1,(hq p hp).2⟩) hnd hr0 (fun b o n1 n2 e=>s5 _ _ (up b o n1 n2 e)) hrows Zad nra nrl ⟨s5 _ _ e4,⟨s5 _ _ (k4 _ _ ft.2.1 hT3.l),fun p hp=>s5 _ _ (k4 _ _ (fr (s2.free (hq p hp).1)).2.1 (hT3.r p hp))⟩,?_,s5 _ _ L4,fun y hy=>?_⟩
    · rw [Zb0 hrows]
      exact ok
    · obtain ⟨z1,z2,z3,z4⟩:=hk.ch y (List.mem_append_left _ hy)
      refine ⟨s5 _ _ (up _ _ (fun e=>?_) (fun e=>?_) z1),s5 _ _ (up _ _ (nca z2) (ncl z2) z2),by omega,by omega⟩
      · have h1:=hk.ob
        rw [← e,z1] at h1
        cases h1
      · have h1:=hk.L
        rw [← e,z1] at h1
        cases h1
end
end Seek
namespace L2
open PySem PySem.Spec PyProof.Rows
def tNew (C:Addr) (sp:Sp) (t:TA):TE:=fun σ H Q=>t σ H fun vs H1=>∀ x dx,H1 x=none→H1 dx=none→dx≠x→sp (.ref x :: vs) (upd (upd H1 dx (.own x)) x (.ins C dx [])) (fun v H2=>v=.non∧Q (.ref x) H2) E0
theorem Zno {X:Cx}{k:Nat}{C:Addr}{ps:List Str}{sp:Sp}{e:Expr}{es:List Expr}{x:Str}{p pos:Pos}{t:TA} (F:MtAt X.prog X.w X.K X.mg X.base k C "__init__" ps sp) (hmk:PySem.W.makesIn X.K C=true) (hkp:PySem.W.keepIn X.K (.ref C)=true) (hr:Room (k+1) X.A) (hg:Gl X x) (hm:X.mg x=some (.ref C))
    (ha:PA X (e :: es) t) (hdb:(x == ("__debug__" : Str))=false:=by decide) (he:starEach (e :: es) X.env=(false,eval e X.env) :: starEach es X.env:=by rfl) (hpl:(backTo pos (starEach es X.env)).any (·.1)=false:=by rfl) :
    PE X (.Call (.Name x p) (e :: es) [] pos) (tNew C sp t):=by
  obtain ⟨f,fd,F,hmt,hb⟩:=F
  have q:=Zmm (p:=p) (pos:=pos) ⟨hmk,hmt.at_,hmt.fn,hkp⟩ F hr hg hm hb .nil (ZkJ (X:=X)) ha hdb he hpl
  intro pins s σ H Q I h
  refine q pins s σ H Q I ?_
  unfold Zne
  simp only [List.append_nil]
  exact h
theorem Zbu {K:PySem.W.Frag}{C f:Addr}{m qual:Str}{st:Stmt}{ps:List Str}{od an:Option Addr}{sl:Array (Option Value)}{oc kV dc pm cd ct:Value}
    (a:PySem.W.findIn K (.ref C) m=some (some (.ref f))) (i:PySem.W.isFn K (.ref f)=true) (l:K.lookup f=some ⟨oc,od,.func (PySem.W.fnOf m qual (Zcl st) (Zar st) (Zag st) .none kV dc pm an cd ct),sl⟩) (c:PySem.W.codeIn K cd qual=true) (k:PySem.W.keepIn K (.ref f)=true)
    (b:∀ (kV doc pm:Value) (an:Option Addr) (cdv ct:Value) (us:List Value),us.length=ps.length→bindArgs (PySem.W.fnOf m qual (Zcl st) (Zar st) (Zag st) .none kV doc pm an cdv ct) ⟨us,[]⟩=pure (ps.zip us)):ZaV K C m qual st ps:=by
  have F:=ZlQ (st:=st) l c k
  exact ⟨f,_,F,⟨a,i,k⟩,F.binds b⟩
end L2
namespace Seek
open PySem L2 PyProof.Rows
structure KpM (K:PySem.W.Frag) (mg:Str→Option Value) (C:Addr):Prop where
  c:KpC K C
  gl:mg "Keeper" = some (.ref C)
  mks:PySem.W.makesIn K C=true
  kp:PySem.W.keepIn K (.ref C)=true
theorem ZnD {K:PySem.W.Frag}{h:Heap}{mg:Str→Option Value}{C:Addr} (X:K.In h) (G:h.Ns mainGlobals mg) (aC:PySem.W.nsIn K mainGlobals "Keeper" = some (some (.ref C)))
    (pg:PySem.W.plainGet K C Str.empty=true) (hd:PySem.W.hasDictIn K C=true) (po:PySem.W.plainOver K C=true) (sa:PySem.W.findIn K (.ref C) "__setattr__" = some (some (.builtin "object.__setattr__"))) (mk:PySem.W.makesIn K C=true) (kc:PySem.W.keepIn K (.ref C)=true)
    (nr:PySem.W.findIn K (.ref C) "rows" = some none) (nc:PySem.W.findIn K (.ref C) "changes" = some none):KpM K mg C:=⟨⟨⟨pg,hd,po,sa⟩,nr,nc⟩,PySem.W.mg_of X G aC,mk,kc⟩
structure Rok (rows:List (List Int)):Prop where
  n1:1≤rows.length
  n6:rows.length≤6
  w1:1≤wR rows
  w6:wR rows≤6
  len:∀ i,i<rows.length→(rows.getD i []).length=wR rows
  row:∀ i j,i<rows.length→j+1<wR rows→ZaD rows i j≤ZaD rows i (j+1)
  down:∀ i j,i+1<rows.length→j<wR rows→ZaD rows i j≤ZaD rows (i+1) j
theorem ZeQ (rows:List (List Int)) (i:Nat):ZaA (prs0 rows) i=rows.getD i []:=by rw [ZeJ,Zd7]
theorem Zl1 (rows:List (List Int)):w0 (prs0 rows)=wR rows:=by rw [← ZcS,Zd7]
theorem ZiN {rows:List (List Int)} (h:Zbj rows=true):Rok rows:=by
  obtain ⟨g,g1,g2,g3,g4⟩:=ZaI (prs:=prs0 rows) h
  have hl:(prs0 rows).length=rows.length:=List.length_map ..
  rw [Zl1] at g g3 g4
  rw [hl] at g1 g2
  have hlen:∀ i,i<rows.length→(rows.getD i []).length=wR rows:=fun i hi=>by
    obtain ⟨p,hp,_,e⟩:=ZaE (prs:=prs0 rows) (i:=i) (by omega)
    rw [← ZeQ,e]
    exact g.len p hp
  refine ⟨g1,g2,g3,g4,hlen,fun i j hi hj=>?_,fun i j hi hj=>?_⟩
  · obtain ⟨p,hp,_,e⟩:=ZaE (prs:=prs0 rows) (i:=i) (by omega)
    have:=g.row p hp j (by rw [g.len p hp];omega)
    unfold ZaD
    rw [← ZeQ,e]
    exact this
  · have:=g.down i (by omega) j hj
    unfold ZaD
    rw [← ZeQ,← ZeQ]
    exact this
theorem Zhm {rows:List (List Int)} (h:Rok rows):Zbj rows=true:=by
  have hl:(prs0 rows).length=rows.length:=List.length_map ..
  have hm:∀ p∈prs0 rows,∃ i,i<rows.length∧p.2=rows.getD i []:=fun p hp=>by
    obtain ⟨r,hr,rfl⟩:=List.mem_map.mp hp
    obtain ⟨i,hi,e⟩:=List.getElem_of_mem hr
    exact ⟨i,hi,by rw [List.getD_eq_getElem?_getD,List.getElem?_eq_getElem hi,e];rfl⟩
  refine Ziq (wide:=wR rows) (prs:=prs0 rows) ⟨fun p hp=>?_,fun p hp j hj=>?_,fun i hi j hj=>?_⟩ (by rw [hl];exact h.n1) (by rw [hl];exact h.n6) h.w1 h.w6
  · obtain ⟨i,hi,e⟩:=hm p hp
    rw [e]
    exact h.len i hi
  · obtain ⟨i,hi,e⟩:=hm p hp
    rw [e] at hj ⊢
    rw [h.len i hi] at hj
    exact h.row i j hi (by omega)
  · rw [ZeQ,ZeQ]
    exact h.down i j (by omega) hj
theorem Ze5 (rows:List (List Int)) (i j:Nat) (x:Int):(setR rows i j x).length=rows.length:=by
  unfold setR
  rw [List.length_set]
theorem ZdE {rows:List (List Int)}{i:Nat} (j:Nat) (x:Int) (hi:i<rows.length) (k:Nat):(setR rows i j x).getD k []=if k=i then (rows.getD i []).set j x else rows.getD k []:=by
  unfold setR
  rw [List.getD_eq_getElem?_getD,List.getElem?_set]
  by_cases h:k=i
  · rw [if_pos h,if_pos h.symm,if_pos hi]
    rfl
  · rw [if_neg h,if_neg (Ne.symm h),List.getD_eq_getElem?_getD]
theorem ZfO {rows:List (List Int)}{i:Nat} (j:Nat) (x:Int) (hi:i<rows.length) (k:Nat):((setR rows i j x).getD k []).length=(rows.getD k []).length:=by
  rw [ZdE j x hi]
  split
  · next h=>rw [List.length_set,h]
  · rfl
theorem Zgz {rows:List (List Int)}{i:Nat} (j:Nat) (x:Int) (hi:i<rows.length):wR (setR rows i j x)=wR rows:=ZfO j x hi 0
theorem Zbm {rows:List (List Int)}{i j:Nat} (x:Int) (hi:i<rows.length) (hj:j<(rows.getD i []).length) (k m:Nat):ZaD (setR rows i j x) k m=if k=i∧m=j then x else ZaD rows k m:=by
  unfold ZaD
  rw [ZdE j x hi]
  by_cases h:k=i
  · rw [if_pos h,List.getD_eq_getElem?_getD,List.getElem?_set]
    by_cases h2:m=j
    · rw [if_pos h2.symm,if_pos hj,if_pos ⟨h,h2⟩]
      rfl
    · rw [if_neg (Ne.symm h2),if_neg (fun z=>h2 z.2),h,← List.getD_eq_getElem?_getD]
  · rw [if_neg h,if_neg (fun z=>h z.1)]
theorem fits {rows:List (List Int)}{i j:Nat}{x:Int} (h:Rok rows) (hi:i<rows.length) (hj:j<wR rows) (lo:∀ a∈ZaR rows i j,a≤x) (hi':∀ b∈Zaz rows i j,x≤b):Rok (setR rows i j x):=by
  have hjl:j<(rows.getD i []).length:=by rw [h.len i hi];exact hj
  have ew:=Zgz j x hi
  have el:=Ze5 rows i j x
  refine ⟨by rw [el];exact h.n1,by rw [el];exact h.n6,by rw [ew];exact h.w1,by rw [ew];exact h.w6,fun k hk=>?_,fun k m hk hm=>?_,fun k m hk hm=>?_⟩
  · rw [ZfO j x hi,ew]
    exact h.len k (by omega)
  · rw [Zbm x hi hjl,Zbm x hi hjl]
    rw [el] at hk
    rw [ew] at hm
    split
    · next z =>
      rw [if_neg (fun y=>by omega)]
      obtain ⟨rfl,rfl⟩:=z
      refine hi' _ ?_
      unfold Zaz
      rw [if_pos (show m+1<wR rows from hm)]
      exact List.mem_append_right _ (.head _)
    · split
      · next z =>
        obtain ⟨rfl,rfl⟩:=z
        refine lo _ ?_
        unfold ZaR
        rw [if_pos (show 0<m+1 from Nat.succ_pos _)]
        exact List.mem_append_right _ (.head _)
      · exact h.row k m hk hm
  · rw [Zbm x hi hjl,Zbm x hi hjl]
    rw [el] at hk
    rw [ew] at hm
    split
    · next z =>
      rw [if_neg (fun y=>by omega)]
      obtain ⟨rfl,rfl⟩:=z
      refine hi' _ ?_
      unfold Zaz
      rw [if_pos (show k+1<rows.length from hk)]
      exact List.mem_append_left _ (.head _)
    · split
      · next z =>
        obtain ⟨rfl,rfl⟩:=z
        refine lo _ ?_
        unfold ZaR
        rw [if_pos (show 0<k+1 from Nat.succ_pos _)]
        exact List.mem_append_left _ (.head _)
      · exact h.down k m hk hm
theorem Zku (r:List Int) (j:Nat) (x:Int):(r.set j x).set j (r.getD j 0)=r:=by
  rw [List.set_set]
  refine List.ext_getElem? fun k=>?_
  rw [List.getElem?_set]
  split
  · next h =>
    subst h
    split
    · next h2=>rw [List.getD_eq_getElem?_getD,List.getElem?_eq_getElem h2];rfl
    · next h2=>rw [List.getElem?_eq_none (by omega)]
  · rfl
theorem ZdZ {rows:List (List Int)}{i:Nat} (j:Nat) (x:Int) (hi:i<rows.length):setR (setR rows i j x) i j (ZaD rows i j)=rows:=by
  show (setR rows i j x).set i (((setR rows i j x).getD i []).set j (ZaD rows i j))=rows
  rw [ZdE j x hi,if_pos rfl]
  unfold setR
  rw [List.set_set]
  have:((rows.getD i []).set j x).set j (ZaD rows i j)=rows.getD i []:=Zku _ j x
  rw [this]
  refine List.ext_getElem? fun k=>?_
  rw [List.getElem?_set]
  split
  · next h =>
    subst h
    simp [hi]
  · rfl
theorem ZiE {rows:List (List Int)}{i:Nat} (j:Nat) (hi:i<rows.length):setR rows i j (ZaD rows i j)=rows:=by
  have:=ZdZ j (ZaD rows i j) hi
  have e:setR (setR rows i j (ZaD rows i j)) i j (ZaD rows i j)=setR rows i j (ZaD rows i j):=by
    show (setR rows i j (ZaD rows i j)).set i (((setR rows i j (ZaD rows i j)).getD i []).set j (ZaD rows i j))=_
    rw [ZdE j _ hi,if_pos rfl,List.set_set]
    unfold setR
    rw [List.set_set]
  rw [← e]
  exact this
theorem ZhN {rows:List (List Int)}{i j:Nat} (h:Rok rows) (hi:i<rows.length) (hj:j<wR rows) {a:Int} (ha:a∈ZaR rows i j):a≤ZaD rows i j:=by
  unfold ZaR at ha
  rcases List.mem_append.mp ha with z | z
  · split at z
    · next h0 =>
      have:a=ZaD rows (i - 1) j:=by simpa using z
      rw [this]
      have:=h.down (i - 1) j (by omega) hj
      rw [show i - 1+1=i by omega] at this
      exact this
    · cases z
  · split at z
    · next h0 =>
      have:a=ZaD rows i (j - 1):=by simpa using z
      rw [this]
      have:=h.row i (j - 1) hi (by omega)
      rw [show j - 1+1=j by omega] at this
      exact this
    · cases z
theorem Zgr {rows:List (List Int)}{i j:Nat} (h:Rok rows) (hi:i<rows.length) (hj:j<wR rows) {b:Int} (hb:b∈Zaz rows i j):ZaD rows i j≤b:=by
  unfold Zaz at hb
  rcases List.mem_append.mp hb with z | z
  · split at z
    · next h0 =>
      have:b=ZaD rows (i+1) j:=by simpa using z
      rw [this]
      exact h.down i j h0 hj
    · cases z
  · split at z
    · next h0 =>
      have:b=ZaD rows i (j+1):=by simpa using z
      rw [this]
      exact h.row i j hi h0
    · cases z
def Betw (lo hi:Option Int) (x:Int):Prop:=(∀ m,lo=some m→m≤x)∧∀ m,hi=some m→x≤m
theorem Zgq {rows:List (List Int)}{i j:Nat}{x:Int} (h:Rok rows) (hi:i<rows.length) (hj:j<wR rows) (b:Betw (ZaR rows i j).max? (Zaz rows i j).min? x):Rok (setR rows i j x):=by
  refine fits h hi hj (fun a ha=>?_) fun c hc=>?_
  · cases e:(ZaR rows i j).max? with
    | none=>rw [List.max?_eq_none_iff] at e;rw [e] at ha;cases ha
    | some m=>exact Int.le_trans ((List.max?_eq_some_iff.mp e).2 a ha) (b.1 m e)
  · cases e:(Zaz rows i j).min? with
    | none=>rw [List.min?_eq_none_iff] at e;rw [e] at hc;cases hc
    | some m=>exact Int.le_trans (b.2 m e) ((List.min?_eq_some_iff.mp e).2 c hc)
theorem ZmT {rows:List (List Int)}{i j:Nat}{m n:Int} (h:Rok rows) (hi:i<rows.length) (hj:j<wR rows) (e1:(ZaR rows i j).max? = some m) (e2:(Zaz rows i j).min? = some n):m≤n :=
  Int.le_trans (ZhN h hi hj (List.max?_eq_some_iff.mp e1).1) (Zgr h hi hj (List.min?_eq_some_iff.mp e2).1)
theorem Zma {ms ns:List Int} (h:ms.Perm ns) (s:ms.Pairwise (·≤·)):atI ((ms.map V.int).reverse ++ [.non]) 0=some (oV ns.max?):=by
  cases hr:ms.reverse with
  | nil =>
    have e:ms=[]:=List.reverse_eq_nil_iff.mp hr
    subst e
    rw [List.nil_perm.mp h]
    rfl
  | cons m r =>
    have e:ms=r.reverse ++ [m]:=by
      have:=congrArg List.reverse hr
      rw [List.reverse_reverse,List.reverse_cons] at this
      exact this
    have hm:ns.max? = some m:=by
      refine Zjn (h.mem_iff.mp (by rw [e];simp)) fun a ha=>?_
      have ha:=h.mem_iff.mpr ha
      rw [e] at ha s
      rcases List.mem_append.mp ha with z | z
      · exact (List.pairwise_append.mp s).2.2 a z m (.head _)
      · rw [List.mem_singleton.mp z]
        exact Int.le_refl _
    rw [← List.map_reverse,hr,hm]
    exact ZaB (j:=0) rfl
theorem ZmO {ms ns:List Int} (h:ms.Perm ns) (s:ms.Pairwise (·≤·)):atI (ms.map V.int ++ [.non]) 0=some (oV ns.min?):=by
  cases ms with
  | nil =>
    rw [List.nil_perm.mp h]
    rfl
  | cons m r =>
    have hm:ns.min? = some m:=by
      refine Zjl (h.mem_iff.mp (.head _)) fun a ha=>?_
      rcases List.mem_cons.mp (h.mem_iff.mpr ha) with z | z
      · rw [z]
        exact Int.le_refl _
      · exact (List.pairwise_cons.mp s).1 a z
    rw [hm]
    exact ZaB (j:=0) rfl
theorem Zk0 (xs ys:List Int):(xs ++ ys).max? = (ys ++ xs).max?:=by
  cases e:(xs ++ ys).max? with
  | none =>
    rw [List.max?_eq_none_iff] at e
    obtain ⟨rfl,rfl⟩:=List.append_eq_nil_iff.mp e
    rfl
  | some m =>
    obtain ⟨h1,h2⟩:=List.max?_eq_some_iff.mp e
    exact (Zjn (by rw [List.mem_append] at h1 ⊢;exact h1.symm) fun a ha=>h2 a (by rw [List.mem_append] at ha ⊢;exact ha.symm)).symm
theorem ZkZ (xs ys:List Int):(xs ++ ys).min? = (ys ++ xs).min?:=by
  cases e:(xs ++ ys).min? with
  | none =>
    rw [List.min?_eq_none_iff] at e
    obtain ⟨rfl,rfl⟩:=List.append_eq_nil_iff.mp e
    rfl
  | some m =>
    obtain ⟨h1,h2⟩:=List.min?_eq_some_iff.mp e
    exact (Zjl (by rw [List.mem_append] at h1 ⊢;exact h1.symm) fun a ha=>h2 a (by rw [List.mem_append] at ha ⊢;exact ha.symm)).symm
theorem Zfl {c:Bool}{t:TS}{D:Ends}{σ0:L2.St}{H0:Hp} (C:(L2.St→Hp→Prop)→Prop) (h:C D.nx) (hA:C D.nx→c=true→t D σ0 H0) (hB:C D.nx→¬ c=true→D.nx σ0 H0):if c=true then t D σ0 H0 else Zdx D σ0 H0:=by
  by_cases hc:c=true
  · rw [if_pos hc]
    exact hA h hc
  · rw [if_neg hc]
    exact hB h hc
section
variable {P:Program}{w:World}{K:PySem.W.Frag}{mg:Str→Option Value}{base:Heap}{C:Addr}
theorem Zkx:FnScope ["table"] ["table"] (Zag Zld):=⟨rfl,rfl,rfl,by decide +kernel,rfl,by decide +kernel,by decide +kernel⟩
theorem ZkV (T:Blt mg) (D:Zao K mg "_law_copy" Zld ["table"]):FnAt P w K mg base 1 "_law_copy" ["table"] Zdc:=by
  refine FnAt.of D Zkx (fun vs H Q E h=>?_) (fun f cdv A outer s H vs Q E hr h=>?_)
  · obtain ⟨t,prs,rfl,_⟩:=h
    rfl
  · obtain ⟨t,prs,rfl,hT,hs,q⟩:=h
    have nd1:(["row"]:List Str).Nodup:=by decide +kernel
    refine ⟨_,Zaf (Zan (ZaX ["row"] [none] (Zag Zld) ["table"] rfl (Zba (pv 0)) (by decide +kernel)
      (fun cl C s2 H2 ex=>pg_c 0 nd1) (fun cl C s2 H2 ex=>ZaK) (fun cl C s2 H2 ex=>pe_t (ZmG K) T.list boot_list (Zaa (pv 0) Zab)))),?_⟩
    refine ⟨_,rfl,t,rfl,⟨_,hT.sq⟩,Zdk (fun p:Addr × List Int=>V.ref p.1) (fun p=>.lst (p.2.map V.int)) hT.sq hs.1 (fun p hp H' Q' sm q'=>⟨_,rfl,p.1,_,rfl,.inl ((hT.same sm).r p hp).sq,fun l hl=>q' l _ hl (Same.new hl) Zad⟩) fun M qs H2 hM hqm hnd hq s2 eM=>?_⟩
    refine q M (qs.map fun x=>(x.1,x.2.2)) H2 hM (fun p hp=>?_) ?_ s2 ⟨?_,fun p hp=>?_⟩ ?_
    · obtain ⟨x,hx,rfl⟩:=List.mem_map.mp hp
      exact (hq x hx).2
    · rw [List.map_map]
      exact hnd
    · rw [eM,List.map_map]
      rfl
    · obtain ⟨x,hx,rfl⟩:=List.mem_map.mp hp
      exact (hq x hx).1
    · rw [List.map_map,← hqm,List.map_map]
      rfl
theorem sc_lSpan:FnScope ["table","cell","row","place","low","high"] ["table","cell"] (Zag ZjS):=⟨rfl,rfl,rfl,by decide +kernel,rfl,by decide +kernel,by decide +kernel⟩
set_option maxHeartbeats 16000000 in
theorem ZkQ (T:Blt mg) (hso:mg "sorted" = none) (D:Zao K mg "_law_span" ZjS ["table","cell"]):FnAt P w K mg base 1 "_law_span" ["table","cell"] Zg7:=by
  refine FnAt.of D sc_lSpan (fun vs H Q E h=>?_) (fun f cdv A outer s H vs Q E hr h=>?_)
  · obtain ⟨t,c,prs,i,j,rfl,_⟩:=h
    rfl
  · obtain ⟨t,c,prs,i,j,rfl,hT,hg,hC,hi,hj,q⟩:=h
    have nd:=sc_lSpan.nd
    obtain ⟨g,g1,g2,g3,g4⟩:=ZaI hg
    have hrow:∀ k,k<prs.length→∃ p∈prs,prs[k]? = some p∧ZaA prs k=p.2∧p.2.length=w0 prs:=fun k hk=>by
      obtain ⟨p,hp,h2,e⟩:=ZaE hk
      exact ⟨p,hp,h2,e,g.len p hp⟩
    refine ⟨_,Zac (Zdr (pv 1) (Zd8 rfl (ZaY (ZaM (i:=2) nd rfl (Or.inl rfl)) (ZaY (ZaM (i:=3) nd rfl (Or.inl rfl)) ZcL))))
      (Zac (Zaj (i:=4) nd rfl (Or.inl rfl) (ZaF Zab))
      (Zac (Zaj (i:=5) nd rfl (Or.inl rfl) (ZaF Zab))
      (Zac (ZaO (Zat o_gt (pv 3) Zae (Zax _)) (Zaf (Zau (Zex PySem.F.plainAttrs_list PySem.F.slot_list_append PySem.F.type_list_append Zbl (pv 4) (Zaa (Zav Zam (Zav Zam (pv 0) (pv 2) (fun _ _=>rfl)) (Zas Zc4 (pv 3) Zae) (fun _ _=>rfl)) Zab)))) Zaq)
      (Zac (ZaO (Zat o_gt (pv 2) Zae (Zax _)) (Zaf (Zau (Zex PySem.F.plainAttrs_list PySem.F.slot_list_append PySem.F.type_list_append Zbl (pv 4) (Zaa (Zav Zam (Zav Zam (pv 0) (Zas Zc4 (pv 2) Zae) (fun _ _=>rfl)) (pv 3) (fun _ _=>rfl)) Zab)))) Zaq)
      (Zac (ZaO (Zat o_lt (Zas Zbt (pv 3) Zae) (pe_b Zah T.len boot_len (Zaa (Zav Zam (pv 0) Zae (fun _ _=>rfl)) Zab)) (Zax _)) (Zaf (Zau (Zex PySem.F.plainAttrs_list PySem.F.slot_list_append PySem.F.type_list_append Zbl (pv 5) (Zaa (Zav Zam (Zav Zam (pv 0) (pv 2) (fun _ _=>rfl)) (Zas Zbt (pv 3) Zae) (fun _ _=>rfl)) Zab)))) Zaq)
      (Zac (ZaO (Zat o_lt (Zas Zbt (pv 2) Zae) (pe_b Zah T.len boot_len (Zaa (pv 0) Zab)) (Zax _)) (Zaf (Zau (Zex PySem.F.plainAttrs_list PySem.F.slot_list_append PySem.F.type_list_append Zbl (pv 5) (Zaa (Zav Zam (Zav Zam (pv 0) (Zas Zbt (pv 2) Zae) (fun _ _=>rfl)) (pv 3) (fun _ _=>rfl)) Zab)))) Zaq)
      (Zaf (Zan (Zbn (Zaa (Zav Zam (Zas ZbK (Znn (pe_b Zdv hso boot_sorted (Zaa (pv 4) Zab)) (ZcK (ZgG ZgO Zae))) (ZaF (Zaa Zcd Zab))) Zae (fun _ _=>rfl)) (Zaa (Zav Zam (Zas ZbK (pe_b Zdv hso boot_sorted (Zaa (pv 5) Zab)) (ZaF (Zaa Zcd Zab))) Zae (fun _ _=>rfl)) Zab))))))))))),?_⟩
    refine ⟨_,rfl,c,_,rfl,SqT.of hC,rfl,_,_,rfl,_,_,rfl,rfl,?_⟩
    refine ⟨len0,fun L1 hL1=>?_⟩
    have s1:Same H (upd H L1 (.lst [])):=Same.new hL1
    have r1:Row (upd H L1 (.lst [])) L1 []:=Row.new
    generalize upd H L1 (.lst [])=H1 at s1 r1 ⊢
    refine ⟨len0,fun L2 hL2=>?_⟩
    have n12:L1≠L2:=Zak r1 hL2
    have s2:Same H1 (upd H1 L2 (.lst [])):=Same.new hL2
    have r2:Row (upd H1 L2 (.lst [])) L2 []:=Row.new
    generalize upd H1 L2 (.lst [])=H2 at s2 r2 ⊢
    have r1:Row H2 L1 []:=s2 _ _ r1
    have hL2':H L2=none:=s1.free hL2
    have s02:=s1.trans s2
    clear s1 s2 hL2
    have hcell:∀ {H':Hp}{k m:Nat}{vi vj:Int},Same H H'→vi=(k:Nat)→vj=(m:Nat)→k<prs.length→m<w0 prs→∃ p∈prs,atI (prs.map fun p=>V.ref p.1) vi=some (.ref p.1)∧SqL K H' p.1 (p.2.map V.int)∧atI (p.2.map V.int) vj=some (.int (ZaD (prs.map (·.2)) k m)):=fun {H' k m vi vj} sm ei ej hk hm=>by
      obtain ⟨p,hp,h2,e,hl⟩:=hrow k hk
      subst ei ej
      refine ⟨p,hp,ZaB (by rw [List.getElem?_map,h2];rfl),((hT.same sm).r p hp).sq,?_⟩
      rw [ZbF,e]
      exact Zco (by omega)
    have pushed:∀ {H':Hp}{L L':Addr}{ns ms:List Int}{x:Int},L≠L'→H L=none→Same H H'→Row H' L ns→Row H' L' ms→Same H (upd H' L (.lst (ns.map V.int ++ [.int x])))∧Row (upd H' L (.lst (ns.map V.int ++ [.int x]))) L (ns ++ [x])∧Row (upd H' L (.lst (ns.map V.int ++ [.int x]))) L' ms:=fun {H' L L' ns ms x} n hL sm r r'=>⟨sm.upd hL,Row.push,by
      unfold Row
      rw [Zal n.symm]
      exact r'⟩
    refine ⟨_,rfl,_,_,rfl,rfl,_,rfl,?_⟩
    refine Zfl (fun N=>∀ H3,Same H H3→Row H3 L1 (if 0<j then [ZaD (prs.map (·.2)) i (j - 1)] else [])→Row H3 L2 []→N [some (.ref t),some (.ref c),some (.int (i:Nat)),some (.int (j:Nat)),some (.ref L1),some (.ref L2)] H3) (fun H3 s3 ra3 rb3=>?_) (fun key hc=>?_) (fun key hc=>?_)
    · clear r1 r2 s02
      have la3:(if 0<j then [ZaD (prs.map (·.2)) i (j - 1)] else []).length≤1:=by split <;> simp
      generalize hA1:(if 0<j then [ZaD (prs.map (·.2)) i (j - 1)] else [])=A1 at ra3 la3
      refine ⟨_,rfl,_,_,rfl,rfl,_,rfl,?_⟩
      refine Zfl (fun N=>∀ H4,Same H H4→Row H4 L1 (A1 ++ if 0<i then [ZaD (prs.map (·.2)) (i - 1) j] else [])→Row H4 L2 []→N [some (.ref t),some (.ref c),some (.int (i:Nat)),some (.int (j:Nat)),some (.ref L1),some (.ref L2)] H4) (fun H4 s4 ra4 rb4=>?_) (fun key hc=>?_) (fun key hc=>?_)
      · clear ra3 rb3 s3
        have la4:(A1 ++ if 0<i then [ZaD (prs.map (·.2)) (i - 1) j] else []).length≤2:=by
          rw [List.length_append]
          split <;> simp <;> omega
        have ea:(A1 ++ if 0<i then [ZaD (prs.map (·.2)) (i - 1) j] else []).max? = (ZaR (prs.map (·.2)) i j).max?:=by
          rw [Zk0,← hA1]
          rfl
        generalize (A1 ++ if 0<i then [ZaD (prs.map (·.2)) (i - 1) j] else [])=A2 at ra4 la4 ea
        clear hA1 la3
        obtain ⟨p0,hp0,hm0,hx0⟩:=Zbe (prs:=prs) (by omega)
        refine ⟨_,rfl,_,_,rfl,rfl,_,rfl,t,_,0,.ref p0.1,rfl,rfl,(hT.same s4).sq,ZaB (j:=0) (by rw [List.getElem?_map,hx0];rfl),p0.1,_,rfl,.inl ((hT.same s4).r p0 hm0).sq,_,_,rfl,rfl,_,rfl,?_⟩
        rw [List.length_map,g.len p0 hm0]
        refine Zfl (fun N=>∀ H5,Same H H5→Row H5 L1 A2→Row H5 L2 (if j+1<w0 prs then [ZaD (prs.map (·.2)) i (j+1)] else [])→N [some (.ref t),some (.ref c),some (.int (i:Nat)),some (.int (j:Nat)),some (.ref L1),some (.ref L2)] H5) (fun H5 s5 ra5 rb5=>?_) (fun key hc=>?_) (fun key hc=>?_)
        · clear ra4 rb4 s4
          have lb5:(if j+1<w0 prs then [ZaD (prs.map (·.2)) i (j+1)] else []).length≤1:=by split <;> simp
          generalize hB1:(if j+1<w0 prs then [ZaD (prs.map (·.2)) i (j+1)] else [])=B1 at rb5 lb5
          refine ⟨_,rfl,_,_,rfl,rfl,_,rfl,t,_,rfl,.inl (hT.same s5).sq,_,_,rfl,rfl,_,rfl,?_⟩
          rw [List.length_map]
          refine Zfl (fun N=>∀ H6,Same H H6→Row H6 L1 A2→Row H6 L2 (B1 ++ if i+1<prs.length then [ZaD (prs.map (·.2)) (i+1) j] else [])→N [some (.ref t),some (.ref c),some (.int (i:Nat)),some (.int (j:Nat)),some (.ref L1),some (.ref L2)] H6) (fun H6 s6 ra6 rb6=>?_) (fun key hc=>?_) (fun key hc=>?_)
          · clear ra5 rb5 s5
            have lb6:(B1 ++ if i+1<prs.length then [ZaD (prs.map (·.2)) (i+1) j] else []).length≤2:=by
              rw [List.length_append]
              split <;> simp <;> omega
            have eb:(B1 ++ if i+1<prs.length then [ZaD (prs.map (·.2)) (i+1) j] else []).min? = (Zaz (prs.map (·.2)) i j).min?:=by
              rw [ZkZ,← hB1]
              unfold Zaz
              rw [ZcS,List.length_map]
            generalize (B1 ++ if i+1<prs.length then [ZaD (prs.map (·.2)) (i+1) j] else [])=B2 at rb6 lb6 eb
            refine ⟨_,rfl,L1,A2,rfl,ra6.sq,by omega,fun D1 ms1 hD1 pm1 sd1=>?_⟩
            have m1:Same H6 (upd H6 D1 (.lst (ms1.map V.int))):=Same.new hD1
            refine ⟨_,rfl,_,rfl,D1,_,rfl,rfl,Zad,fun D2 hD2=>?_⟩
            have m2:Same H6 (upd (upd H6 D1 (.lst (ms1.map V.int))) D2 (.lst (ms1.map V.int).reverse)):=m1.trans (Same.new hD2)
            have e2:(upd (upd H6 D1 (.lst (ms1.map V.int))) D2 (.lst (ms1.map V.int).reverse)) D2=some (.lst (ms1.map V.int).reverse):=Zad
            generalize upd (upd H6 D1 (.lst (ms1.map V.int))) D2 (.lst (ms1.map V.int).reverse)=H7 at m2 e2 ⊢
            refine ⟨len1,fun D3 hD3=>⟨D2,D3,_,_,rfl,rfl,(Same.new hD3) _ _ e2,Zad,?_,fun D4 hD4=>?_⟩⟩
            · rw [List.length_reverse,List.length_map,pm1.length_eq,sizeLine_eq]
              simp
              omega
            have m4:Same H6 (upd (upd H7 D3 (.lst [.non])) D4 (.lst ((ms1.map V.int).reverse ++ [.non]))):=(m2.trans (Same.new hD3)).trans (Same.new hD4)
            have e4:(upd (upd H7 D3 (.lst [.non])) D4 (.lst ((ms1.map V.int).reverse ++ [.non]))) D4=some (.lst ((ms1.map V.int).reverse ++ [.non])):=Zad
            generalize upd (upd H7 D3 (.lst [.non])) D4 (.lst ((ms1.map V.int).reverse ++ [.non]))=H8 at m4 e4 ⊢
            refine ⟨D4,_,0,_,rfl,rfl,SqL.of e4,Zma pm1 sd1,?_⟩
            have rb8:Row H8 L2 B2:=m4 _ _ rb6
            refine ⟨_,rfl,L2,B2,rfl,rb8.sq,by omega,fun D5 ms2 hD5 pm2 sd2=>?_⟩
            have m5:Same H8 (upd H8 D5 (.lst (ms2.map V.int))):=Same.new hD5
            have e5:(upd H8 D5 (.lst (ms2.map V.int))) D5=some (.lst (ms2.map V.int)):=Zad
            generalize upd H8 D5 (.lst (ms2.map V.int))=H9 at m5 e5 ⊢
            refine ⟨len1,fun D6 hD6=>⟨D5,D6,_,_,rfl,rfl,(Same.new hD6) _ _ e5,Zad,?_,fun D7 hD7=>?_⟩⟩
            · rw [List.length_map,pm2.length_eq,sizeLine_eq]
              simp
              omega
            have m7:Same H8 (upd (upd H9 D6 (.lst [.non])) D7 (.lst (ms2.map V.int ++ [.non]))):=(m5.trans (Same.new hD6)).trans (Same.new hD7)
            have e7:(upd (upd H9 D6 (.lst [.non])) D7 (.lst (ms2.map V.int ++ [.non]))) D7=some (.lst (ms2.map V.int ++ [.non])):=Zad
            generalize upd (upd H9 D6 (.lst [.non])) D7 (.lst (ms2.map V.int ++ [.non]))=H10 at m7 e7 ⊢
            refine ⟨D7,_,0,_,rfl,rfl,SqL.of e7,ZmO pm2 sd2,len2,fun r hr'=>?_⟩
            have s10:=s6.trans (m4.trans m7)
            rw [ea,eb]
            exact q r _ (s10.free hr') (s10.trans (Same.new hr')) Zad
          · have hc:i+1<prs.length:=by have:=of_decide_eq_true hc;omega
            obtain ⟨p,hp,a1,a2,a3⟩:=hcell (k:=i+1) (m:=j) (vi:=(i:Int)+1) (vj:=(j:Int)) s5 (by omega) rfl hc hj
            obtain ⟨b1,b2,b3⟩:=pushed (x:=ZaD (prs.map (·.2)) (i+1) j) n12.symm hL2' s5 rb5 ra5
            refine ⟨_,rfl,.inl ⟨rfl,_,rb5.sq⟩,_,rfl,_,rfl,_,_,rfl,rfl,t,_,_,_,rfl,rfl,(hT.same s5).sq,a1,_,rfl,p.1,_,_,_,rfl,rfl,a2,a3,L2,_,_,rfl,rfl,rb5,?_,?_⟩
            · rw [List.length_map]
              exact ZaZ (by omega)
            · refine key _ b1 b3 ?_
              rw [if_pos hc]
              exact b2
          · refine key H5 s5 ra5 ?_
            rw [if_neg (fun z=>hc (decide_eq_true (by omega))),List.append_nil]
            exact rb5
        · have hc:j+1<w0 prs:=by have:=of_decide_eq_true hc;omega
          obtain ⟨p,hp,a1,a2,a3⟩:=hcell (k:=i) (m:=j+1) (vi:=(i:Int)) (vj:=(j:Int)+1) s4 rfl (by omega) hi hc
          obtain ⟨b1,b2,b3⟩:=pushed (x:=ZaD (prs.map (·.2)) i (j+1)) n12.symm hL2' s4 rb4 ra4
          refine ⟨_,rfl,.inl ⟨rfl,_,rb4.sq⟩,_,rfl,_,rfl,t,_,_,_,rfl,rfl,(hT.same s4).sq,a1,_,rfl,_,_,rfl,rfl,p.1,_,_,_,rfl,rfl,a2,a3,L2,_,_,rfl,rfl,rb4,(by decide),?_⟩
          refine key _ b1 b3 ?_
          rw [if_pos hc]
          exact b2
        · refine key H4 s4 ra4 ?_
          rw [if_neg (fun z=>hc (decide_eq_true (by omega)))]
          exact rb4
      · have hc:0<i:=by have:=of_decide_eq_true hc;omega
        obtain ⟨p,hp,a1,a2,a3⟩:=hcell (k:=i - 1) (m:=j) (vi:=(i:Int) - 1) (vj:=(j:Int)) s3 (by omega) rfl (by omega) hj
        obtain ⟨b1,b2,b3⟩:=pushed (x:=ZaD (prs.map (·.2)) (i - 1) j) n12 hL1 s3 ra3 rb3
        refine ⟨_,rfl,.inl ⟨rfl,_,ra3.sq⟩,_,rfl,_,rfl,_,_,rfl,rfl,t,_,_,_,rfl,rfl,(hT.same s3).sq,a1,_,rfl,p.1,_,_,_,rfl,rfl,a2,a3,L1,_,_,rfl,rfl,ra3,?_,?_⟩
        · rw [List.length_map]
          exact ZaZ (by omega)
        · refine key _ b1 ?_ b3
          rw [if_pos hc]
          exact b2
      · refine key H3 s3 ?_ rb3
        rw [if_neg (fun z=>hc (decide_eq_true (by omega))),List.append_nil]
        exact ra3
    · have hc:0<j:=by have:=of_decide_eq_true hc;omega
      obtain ⟨p,hp,a1,a2,a3⟩:=hcell (k:=i) (m:=j - 1) (vi:=(i:Int)) (vj:=(j:Int) - 1) s02 rfl (by omega) hi (by omega)
      obtain ⟨b1,b2,b3⟩:=pushed (x:=ZaD (prs.map (·.2)) i (j - 1)) n12 hL1 s02 r1 r2
      refine ⟨_,rfl,.inl ⟨rfl,_,r1.sq⟩,_,rfl,_,rfl,t,_,_,_,rfl,rfl,(hT.same s02).sq,a1,_,rfl,_,_,rfl,rfl,p.1,_,_,_,rfl,rfl,a2,a3,L1,_,_,rfl,rfl,r1,(by decide),?_⟩
      refine key _ b1 ?_ b3
      rw [if_pos hc]
      exact b2
    · refine key H2 s02 ?_ r2
      rw [if_neg (fun z=>hc (decide_eq_true (by omega)))]
      exact r1
end
theorem Keep.rok {H:Hp}{C a dx t l:Addr}{prs:Prs}{cs:Ch} (h:Keep H C a dx t l prs cs):Rok (prs.map (·.2)):=ZiN (by rw [← Zb0 rfl];exact h.ok)
section
variable {P:Program}{w:World}{K:PySem.W.Frag}{mg:Str→Option Value}{base:Heap}{C:Addr}
theorem ZkY {H1:Hp}{t0 a dx:Addr}{prs:Prs}{W:VK} (ha:H1 a=none) (hdx:H1 dx=none) (nd:dx≠a) (hT:Tab H1 t0 prs) (hg:tabB prs=true)
    (q:∀ t l prs' H2,Same H1 H2→H1 t=none→H1 l=none→a≠l→a≠t→(∀ p∈prs',H1 p.1=none)→(prs'.map (·.1)).Nodup→prs'.map (·.2)=prs.map (·.2)→Keep H2 C a dx t l prs' []→W .non H2) :
    ZiB C [.ref a,.ref t0] (upd (upd H1 dx (.own a)) a (.ins C dx [])) W E0:=by
  have s1:Same H1 (upd (upd H1 dx (.own a)) a (.ins C dx [])):=(Same.new hdx).trans (Same.new (by rw [Zal (Ne.symm nd)];exact ha))
  have ex:(upd (upd H1 dx (.own a)) a (.ins C dx [])) a=some (.ins C dx []):=Zad
  generalize upd (upd H1 dx (.own a)) a (.ins C dx [])=H2 at s1 ex
  refine ⟨a,dx,t0,prs,rfl,ex,hT.same s1,hg,fun t l prs' H' b ht hl hp hnd hrows hk=>q t l prs' H' (fun c o e=>b c o (fun z=>by rw [z,ha] at e;cases e) (s1 _ _ e)) (s1.free ht) (s1.free hl) (Zak ex hl) (Zak ex ht) (fun p h=>s1.free (hp p h)) hnd hrows hk⟩
end
def rowD:PyData→Bool
  | .list ds=>(decide (1≤ds.length) && decide (ds.length≤6)) && ds.all ZaG
  | _=>false
theorem ZbJ (ds:List PyData):rowD (.list ds)=((decide (1≤ds.length) && decide (ds.length≤6)) && ds.all ZaG):=rfl
def GoodD (d:PyData):Prop:=∃ rows:List (List Int),d=dTab rows∧tabB (rows.map fun r=>((0:Addr),r))=true
theorem Zb7 {H:Hp}{S:List Addr}:∀ {xs:List V}{ds:List PyData},RdSs S H xs ds→ds.all ZaG=true→∃ ns:List Int,xs=ns.map V.int∧ds=ns.map PyData.int
  | _,_,.nil,_=>⟨[],rfl,rfl⟩
  | _,_,.cons (x:=x) (d:=d) h t,ha=>by
    simp only [List.all_cons,Bool.and_eq_true] at ha
    obtain ⟨ns,e1,e2⟩:=Zb7 t ha.2
    cases h with
    | int i=>exact ⟨i :: ns,by rw [e1];rfl,by rw [e2];rfl⟩
    | _=>exact absurd ha.1 (by simp [ZaG])
theorem Znj {H:Hp}{S:List Addr}{x:V}{d:PyData} (r:RdS S H x d) (h:rowD d=true):∃ (a:Addr) (ns:List Int),x=.ref a∧d=dRow ns∧Row H a ns∧rowB ns=true∧a∉S:=by
  cases r with
  | @lst a xs ds e n ra =>
    unfold rowD at h
    rw [Bool.and_eq_true] at h
    obtain ⟨ns,e1,e2⟩:=Zb7 ra h.2
    refine ⟨a,ns,rfl,by rw [e2];rfl,by rw [e1] at e;exact e,?_,n⟩
    have hl:ds.length=ns.length:=by rw [e2,List.length_map]
    unfold rowB
    rw [← hl]
    exact h.1
  | _=>exact absurd h (by simp [rowD])
theorem ZiL {H:Hp}{S:List Addr}:∀ {ms:List (V × PyData)},(∀ m∈ms,RdS S H m.1 m.2)→(∀ m∈ms,rowD m.2=true)→∃ prs:Prs,ms.map (·.1)=(prs.map fun p=>V.ref p.1)∧ms.map (·.2)=(prs.map (·.2)).map dRow∧∀ p∈prs,Row H p.1 p.2∧rowB p.2=true∧p.1∉S
  | [],_,_=>⟨[],rfl,rfl,fun p h=>nomatch h⟩
  | m :: ms,h1,h2=>by
    obtain ⟨prs,e1,e2,hp⟩:=ZiL (fun x hx=>h1 x (List.mem_cons_of_mem _ hx)) (fun x hx=>h2 x (List.mem_cons_of_mem _ hx))
    obtain ⟨a,ns,ea,ed,hr,hb,hn⟩:=Znj (h1 m (by simp)) (h2 m (by simp))
    refine ⟨(a,ns) :: prs,by rw [List.map_cons,ea,e1];rfl,by rw [List.map_cons,ed,e2];rfl,fun p hpp=>?_⟩
    rcases List.mem_cons.mp hpp with rfl | z
    · exact ⟨hr,hb,hn⟩
    · exact hp p z
theorem Zlc {a b:List Int} (h:dRow a=dRow b):a=b:=by
  unfold dRow at h
  injection h with h
  exact List.map_inj_right (fun x y e=>by injection e) |>.mp h
theorem ZhC {a b:List (List Int)} (h:dTab a=dTab b):a=b:=by
  unfold dTab at h
  injection h with h
  exact List.map_inj_right (fun x y e=>Zlc e) |>.mp h
theorem Zkz (ns:List Int):rowD (dRow ns)=rowB ns:=by
  unfold dRow rowB
  rw [ZbJ,List.length_map,List.all_map]
  have:(ns.all (ZaG ∘ PyData.int))=true:=by simp [ZaG]
  rw [this,Bool.and_true]
theorem goodD_tab {prs:Prs}:GoodD (dTab (prs.map (·.2))) ↔ tabB prs=true:=by
  have e:∀ p:Prs,tabB ((p.map (·.2)).map fun r=>((0:Addr),r))=tabB p:=fun p=>Zcg (by rw [List.map_map,List.map_map];exact List.map_congr_left fun _ _=>rfl)
  constructor
  · rintro ⟨rows,h1,h2⟩
    rw [← ZhC h1,e] at h2
    exact h2
  · intro h
    exact ⟨_,rfl,by rw [e];exact h⟩
theorem GoodD.rows {ds:List PyData} (h:GoodD (.list ds)):(1≤ds.length∧ds.length≤6)∧∀ d∈ds,rowD d=true:=by
  obtain ⟨rows,h1,h2⟩:=h
  obtain ⟨g,g1,g2,g3,g4⟩:=ZaI h2
  unfold dTab at h1
  injection h1 with h1
  rw [List.length_map] at g1 g2
  refine ⟨by rw [h1,List.length_map];exact ⟨g1,g2⟩,fun d hd=>?_⟩
  rw [h1] at hd
  obtain ⟨r,hr,rfl⟩:=List.mem_map.mp hd
  have hl:=g.len (0,r) (List.mem_map.mpr ⟨r,hr,rfl⟩)
  rw [Zkz]
  unfold rowB
  have hl:r.length=_:=hl
  rw [decide_eq_true (by omega),decide_eq_true (by omega)]
  rfl
theorem GoodD.list {d:PyData} (h:GoodD d):∃ ds,d=.list ds:=let ⟨_,h1,_⟩:=h;⟨_,h1⟩
section
variable {P:Program}{w:World}{K:PySem.W.Frag}{mg:Str→Option Value}{base:Heap}
def ZbY:Sp:=fun vs H Q _=>∃ (x:V) (d:PyData),vs=[x]∧RdS [] H x d∧Q (.bl (ZaG d)) H
theorem ZgK (T:Blt mg) (D:Zao K mg "is_whole" ZdJ ["thing"]):FnAt P w K mg base 1 "is_whole" ["thing"] ZbY:=by
  refine FnAt.of D ZeH (fun vs H Q E h=>?_) (fun f cdv A outer s H vs Q E hr h=>?_)
  · obtain ⟨x,d,rfl,_⟩:=h
    rfl
  · obtain ⟨x,d,rfl,rd,q⟩:=h
    refine ⟨_,Zaf (Zan (Zb2 (pe_b ZaU T.isinst boot_isinstance (Zaa (pv 0) (Zaa (Zdy T.int boot_int) Zab)))
      (Zcj (ZlE (pe_b ZaU T.isinst boot_isinstance (Zaa (pv 0) (Zaa (Zdy T.bool boot_bool) Zab))))))),?_⟩
    refine ⟨_,rfl,_,_,_,_,rfl,rd.ty,ZmK _ d,_,rfl,?_⟩
    cases d with
    | int i=>exact iteT ⟨_,rfl,_,_,_,_,rfl,rd.ty,Zhv _ _,_,rfl,q⟩
    | bool b=>exact iteT ⟨_,rfl,_,_,_,_,rfl,rd.ty,Zhv _ _,_,rfl,q⟩
    | _=>exact iteF q
def ZdX:Sp:=fun vs H Q _=>∃ (a:Addr) (xs:List V) (ds:List PyData),vs=[.ref a]∧H a=some (.lst xs)∧RdSs [] H xs ds∧ds.length≤1000∧∀ H',Same H H'→Q (.bl (ds.all ZaG)) H'
theorem Zf7 (T:Blt mg) (D:Zao K mg "all_whole" Za7 ["things"]) (G1:FnAt P w K mg base 1 "is_whole" ["thing"] ZbY):FnAt P w K mg base 2 "all_whole" ["things"] ZdX:=by
  refine FnAt.of D ZbI (fun vs H Q E h=>?_) (fun f cdv A outer s H vs Q E hr h=>?_)
  · obtain ⟨a,xs,ds,rfl,_⟩:=h
    rfl
  · obtain ⟨a,xs,ds,rfl,hl,rs,hn,q⟩:=h
    obtain ⟨ms,e1,e2,hm⟩:=rs.pairs
    subst e1 e2
    rw [List.length_map] at hn
    have nd1:(["thing"]:List Str).Nodup:=by decide +kernel
    refine ⟨_,Zaf (Zan (pe_b (Zbd rfl) T.all boot_all (Zaa (ZaX ["thing"] [none] (Zag Za7) ["things"] rfl (Zba (pv 0)) (by decide +kernel)
      (fun cl C s2 H2 ex=>pg_c 0 nd1) (fun cl C s2 H2 ex=>ZaK) (fun cl C s2 H2 ex=>pe_f G1 hr (Zaa (pv 0) Zab))) Zab))),?_⟩
    refine ⟨_,rfl,a,rfl,⟨_,SqL.of hl⟩,Zbx (fun m:V × PyData=>m.1) (fun m=>.bl (ZaG m.2)) (SqL.of hl) (sl6 hn) (fun m hx H' Q' sm q'=>?_) fun D H' hD sm hDl=>?_⟩
    · exact ⟨_,rfl,m.1,m.2,rfl,(hm m hx).same sm,q' _ (Same.refl _)⟩
    · refine ⟨D,ms.map fun m=>ZaG m.2,rfl,SqL.of (by rw [hDl,Zds]),?_⟩
      have q1:=q H' sm
      rw [List.all_map] at q1 ⊢
      exact q1
def Zhd:Sp:=fun vs H Q _=>∃ (x:V) (d:PyData),vs=[x]∧RdS [] H x d∧∀ H',Same H H'→Q (.bl (rowD d)) H'
theorem Zjb (T:Blt mg) (D:Zao K mg "is_row" ZhE ["thing"]) (G:FnAt P w K mg base 2 "all_whole" ["things"] ZdX):FnAt P w K mg base 3 "is_row" ["thing"] Zhd:=by
  refine FnAt.of D Zhl (fun vs H Q E h=>?_) (fun f cdv A outer s H vs Q E hr h=>?_)
  · obtain ⟨x,d,rfl,_⟩:=h
    rfl
  · obtain ⟨x,d,rfl,rd,q⟩:=h
    obtain ⟨tk,mp⟩:=T.mp
    refine ⟨_,Zaf (Zan (Zb2 (pe_b ZaU T.isinst boot_isinstance (Zaa (pv 0) (Zaa (Zdy T.list boot_list) Zab)))
      (Zb2 (ZbN Zey Zey Zae (pe_b Zah T.len boot_len (Zaa (pv 0) Zab)) (Zbc (v:=.int 6) rfl mp ⟨_,rfl⟩))
      (Zcj (pe_f G hr (Zaa (pv 0) Zab)))))),?_⟩
    refine ⟨_,rfl,_,_,_,_,rfl,rd.ty,Zhu _ d,_,rfl,?_⟩
    cases rd with
    | @lst a xs ds e n ra =>
      have hlen:=ra.length
      refine iteT ⟨_,rfl,a,_,rfl,.inl (SqL.of e),1,_,rfl,rfl,_,rfl,?_⟩
      rw [hlen]
      refine ite2 (fun h1=>?_) (fun h1=>?_)
      · have h1:=of_decide_eq_true h1
        refine ⟨_,_,rfl,rfl,_,rfl,ite2 (fun h2=>?_) (fun h2=>?_)⟩
        · have h2:=of_decide_eq_true h2
          refine ⟨_,rfl,a,xs,ds,rfl,e,ra,by omega,fun H' sm=>?_⟩
          have q1:=q H' sm
          rw [ZbJ,decide_eq_true (by omega),decide_eq_true (by omega)] at q1
          exact q1
        · have e:rowD (.list ds)=false:=by
            rw [ZbJ,decide_eq_false (p:=ds.length≤6) (by intro z;exact h2 (decide_eq_true (by omega)))]
            simp
          rw [← e]
          exact q H (Same.refl _)
      · refine ⟨_,rfl,iteF ?_⟩
        have e:rowD (.list ds)=false:=by
          rw [ZbJ,decide_eq_false (p:=1≤ds.length) (by intro z;exact h1 (decide_eq_true (by omega)))]
          simp
        rw [← e]
        exact q H (Same.refl _)
    | _=>exact iteF (q H (Same.refl _))
def Zg8:Sp:=fun vs H Q _=>∃ (x:V) (d:PyData),vs=[x]∧RdS [] H x d∧∀ b H',(b=true→∃ (t:Addr) (prs:Prs),x=.ref t∧d=dTab (prs.map (·.2))∧Tab H t prs∧1≤prs.length∧prs.length≤6∧(∀ p∈prs,p.2.length=w0 prs∧rowB p.2=true))→(b=false→¬ GoodD d)→Same H H'→Q (.bl b) H'
theorem Zi0 (T:Blt mg) (D:Zao K mg "has_table_shape" Zdu ["thing"]) (G:FnAt P w K mg base 3 "is_row" ["thing"] Zhd):FnAt P w K mg base 4 "has_table_shape" ["thing"] Zg8:=by
  refine FnAt.of D Zhj (fun vs H Q E h=>?_) (fun f cdv A outer s H vs Q E hr h=>?_)
  · obtain ⟨x,d,rfl,_⟩:=h
    rfl
  · obtain ⟨x,d,rfl,rd,q⟩:=h
    obtain ⟨tk,mr⟩:=T.mr
    have nd1:(["row"]:List Str).Nodup:=by decide +kernel
    have nd2:(["row","thing"]:List Str).Nodup:=by decide +kernel
    refine ⟨_,Zac (ZaO (PW.pt (ZcF (Za0 (Za3 (pe_b ZaU T.isinst boot_isinstance (Zaa (pv 0) (Zaa (Zdy T.list boot_list) Zab)))))
        (Zb1 (Za0 (ZdG Zey Zey Zae (pe_b Zah T.len boot_len (Zaa (pv 0) Zab)) (Zbc (v:=.int 6) rfl mr ⟨_,rfl⟩)))))) (Zaf (Zan Zce)) Zaq)
      (Zac (ZaO (Za0 (Za3 (pe_b (Zbd rfl) T.all boot_all (Zaa (ZaX ["row"] [none] (Zag Zdu) ["thing","row"] rfl (Zba (pv 0)) (by decide +kernel)
        (fun cl C s2 H2 ex=>pg_c 0 nd1) (fun cl C s2 H2 ex=>ZaK) (fun cl C s2 H2 ex=>pe_f G hr (Zaa (pv 0) Zab))) Zab)))) (Zaf (Zan Zce)) Zaq)
      (Zaf (Zan (pe_b (Zbd rfl) T.all boot_all (Zaa (ZaX ["row","thing"] [none,some 0] (Zag Zdu) ["thing","row"] rfl (Zba (pv 0)) (by decide +kernel)
        (fun cl C s2 H2 ex=>pg_c 0 nd2) (fun cl C s2 H2 ex=>ZaK)
        (fun cl C s2 H2 ex=>Zdi Zdj (pe_b (lenK K) T.len boot_len (Zaa (pv 0) Zab)) (pe_b (lenK K) T.len boot_len (Zaa (Zav (ixL K) (pv 1) Zae (fun _ _=>rfl)) Zab)) (Zax _))) Zab))))),?_⟩
    refine ⟨_,rfl,_,_,_,_,rfl,rd.ty,Zhu _ d,_,rfl,?_⟩
    have notl:(∀ ds,d≠.list ds)→¬ GoodD d:=fun h g=>by
      obtain ⟨ds,e⟩:=g.list
      exact h ds e
    cases rd with
    | @lst t xs ds e n ra =>
      obtain ⟨ms,e1,e2,hm⟩:=ra.pairs
      subst e1 e2
      refine iteF ⟨_,rfl,t,_,rfl,.inl (SqL.of e),1,_,rfl,rfl,_,rfl,?_⟩
      rw [List.length_map]
      have bad:¬ (1≤ms.length∧ms.length≤6)→¬ GoodD (.list (ms.map (·.2))):=fun z g=>z (by
        have:=g.rows.1
        rw [List.length_map] at this
        exact this)
      refine ite2 (fun h1=>?_) (fun h1=>?_)
      · have h1:=of_decide_eq_true h1
        refine ⟨_,_,rfl,rfl,_,rfl,?_⟩
        by_cases h2:ms.length≤6
        · rw [decide_eq_true (show (ms.length:Int)≤6 by omega)]
          refine iteF ?_
          refine ⟨_,rfl,t,rfl,⟨_,SqL.of e⟩,Zbx (fun m:V × PyData=>m.1) (fun m=>.bl (rowD m.2)) (SqL.of e) (sl6 (by omega)) (fun m hx H' Q' sm q'=>?_) fun D H' hD sm hDl=>?_⟩
          · exact ⟨_,rfl,m.1,m.2,rfl,(hm m hx).same sm,q'⟩
          · refine ⟨D,ms.map fun m=>rowD m.2,rfl,SqL.of (by rw [hDl,Zds]),_,rfl,?_⟩
            cases e1:(ms.map fun m=>rowD m.2).all id with
            | false =>
              refine iteT (q false H' (fun z=>by cases z) (fun _ g=>?_) sm)
              have:(ms.map fun m=>rowD m.2).all id=true:=by
                rw [List.all_map,List.all_eq_true]
                exact fun m hmm=>g.rows.2 m.2 (List.mem_map.mpr ⟨m,hmm,rfl⟩)
              rw [e1] at this
              cases this
            | true =>
              refine iteF ?_
              rw [List.all_map,List.all_eq_true] at e1
              obtain ⟨prs,p1,p2,hp⟩:=ZiL hm e1
              have hT:Tab H t prs:=⟨by rw [← p1];exact e,fun p hpp=>(hp p hpp).1⟩
              have hT1:=hT.same sm
              have hlp:ms.length=prs.length:=by
                have:=congrArg List.length p1
                rw [List.length_map,List.length_map] at this
                exact this
              have ed:PyData.list (ms.map (·.2))=dTab (prs.map (·.2)):=by rw [p2];rfl
              obtain ⟨p0,hp0,hm0,hx0⟩:=Zbe (prs:=prs) (by omega)
              have hw0:w0 prs=p0.2.length:=by
                unfold w0
                rw [hp0]
                rfl
              refine ⟨_,rfl,t,rfl,⟨_,hT1.sq⟩,Zbx (fun p:Addr × List Int=>V.ref p.1) (fun p=>.bl (decide (p.2.length=w0 prs))) hT1.sq (sl6 (by omega)) (fun p hpp H2 Q' sm2 q'=>?_) fun D2 H2 hD2 sm2 hDl2=>?_⟩
              · have hT2:=hT1.same sm2
                refine ⟨_,rfl,p.1,_,rfl,.inl (hT2.r p hpp).sq,_,rfl,t,_,0,.ref p0.1,rfl,rfl,hT2.sq,ZaB (j:=0) (by rw [List.getElem?_map,hx0];rfl),p0.1,_,rfl,.inl (hT2.r p0 hm0).sq,rfl,?_⟩
                rw [List.length_map,List.length_map,← hw0]
                have e5:decide (V.int (p.2.length:Nat)=V.int (w0 prs:Nat))=decide (p.2.length=w0 prs):=decide_eq_decide.mpr ⟨fun h=>by injection h with h;omega,fun h=>by rw [h]⟩
                rw [e5]
                exact q' _ (Same.refl _)
              · refine ⟨D2,prs.map fun p=>decide (p.2.length=w0 prs),rfl,SqL.of (by rw [hDl2,Zds]),?_⟩
                refine q _ H2 (fun hb=>⟨t,prs,rfl,ed,hT,by omega,by omega,fun p hpp=>⟨?_,(hp p hpp).2.1⟩⟩) (fun hb g=>?_) (sm.trans sm2)
                · rw [List.all_map,List.all_eq_true] at hb
                  exact of_decide_eq_true (hb p hpp)
                · rw [ed,goodD_tab] at g
                  have gl:=(ZaI g).1.len
                  have:((prs.map fun p=>decide (p.2.length=w0 prs)).all id)=true:=by
                    rw [List.all_map,List.all_eq_true]
                    exact fun p hpp=>decide_eq_true (gl p hpp)
                  rw [hb] at this
                  cases this
        · rw [decide_eq_false (show ¬ (ms.length:Int)≤6 by omega)]
          exact iteT (q false H (fun z=>by cases z) (fun _=>bad (fun z=>h2 z.2)) (Same.refl _))
      · refine ⟨_,rfl,?_⟩
        exact iteT (q false H (fun z=>by cases z) (fun _=>bad (fun z=>h1 (decide_eq_true (by omega)))) (Same.refl _))
    | _=>exact iteT (q false H (fun z=>by cases z) (fun _=>notl (fun ds z=>by cases z)) (Same.refl _))
def ZeC:Sp:=fun vs H Q _=>∃ (x:V) (d:PyData),vs=[x]∧RdS [] H x d∧∀ b H',(b=true ↔ GoodD d)→Same H H'→Q (.bl b) H'
theorem ZgL (D:Zao K mg "is_table" ZdK ["thing"]) (G:FnAt P w K mg base 4 "has_table_shape" ["thing"] Zg8) (G2:FnAt P w K mg base 2 "is_sorted_both_ways" ["table"] Ze1):FnAt P w K mg base 5 "is_table" ["thing"] ZeC:=by
  refine FnAt.of D ZeI (fun vs H Q E h=>?_) (fun f cdv A outer s H vs Q E hr h=>?_)
  · obtain ⟨x,d,rfl,_⟩:=h
    rfl
  · obtain ⟨x,d,rfl,rd,q⟩:=h
    refine ⟨_,Zaf (Zan (Zb2 (pe_f G hr (Zaa (pv 0) Zab)) (Zcj (pe_f G2 (hr.mono (by decide)) (Zaa (pv 0) Zab))))),?_⟩
    refine ⟨_,rfl,x,d,rfl,rd,fun b H1 ht hf s1=>⟨_,rfl,?_⟩⟩
    cases b with
    | false=>exact iteF (q false H1 ⟨fun z=>(by cases z),fun g=>absurd g (hf rfl)⟩ s1)
    | true =>
      obtain ⟨t,prs,rfl,rfl,hT,h1,h6,hp⟩:=ht rfl
      refine iteT ⟨_,rfl,t,prs,rfl,hT.same s1,⟨by omega,fun p hpp=>?_⟩,h1,fun p hpp=>(hp p hpp).1,fun H2 s2=>q _ H2 ?_ (s1.trans s2)⟩
      · have:=(hp p hpp).2
        unfold rowB at this
        rw [Bool.and_eq_true,decide_eq_true_eq,decide_eq_true_eq] at this
        omega
      · rw [goodD_tab]
        unfold tabB
        have:shB prs=true:=by
          unfold shB
          rw [decide_eq_true h1,decide_eq_true h6,Bool.true_and,List.all_map,List.all_map,Bool.true_and,Bool.and_eq_true,List.all_eq_true,List.all_eq_true]
          exact ⟨fun p hpp=>(hp p hpp).2,fun p hpp=>decide_eq_true (hp p hpp).1⟩
        rw [this,Bool.true_and]
end
theorem ZmD {ns:List Int} (h:nfP ns):∀ (k i:Nat),i+k<ns.length→ns.getD i 0≤ns.getD (i+k) 0
  | 0,i,_=>Int.le_refl _
  | k+1,i,hk=>Int.le_trans (ZmD h k i (by omega)) (h (i+k) (by omega))
structure GoodR (W:Nat) (rows:List (List Int)):Prop where
  n:1≤rows.length∧rows.length≤6
  w:1≤W∧W≤6
  len:∀ i,i<rows.length→(rows.getD i []).length=W
  row:∀ i,i<rows.length→nfP (rows.getD i [])
  down:∀ i,i+1<rows.length→∀ j,j<W→(rows.getD i []).getD j 0≤(rows.getD (i+1) []).getD j 0
theorem ZaL {prs:Prs} (h:tabB prs=true):GoodR (w0 prs) (prs.map (·.2)):=by
  obtain ⟨g,g1,g2,g3,g4⟩:=ZaI h
  have e:∀ i,(prs.map (·.2)).getD i []=ZaA prs i:=fun i=>by
    unfold ZaA
    rw [List.getD_eq_getElem?_getD,List.getElem?_map]
  refine ⟨by rw [List.length_map];exact ⟨g1,g2⟩,⟨g3,g4⟩,fun i hi=>?_,fun i hi=>?_,fun i hi j hj=>?_⟩
  · rw [List.length_map] at hi
    obtain ⟨p,hp,_,e2⟩:=ZaE hi
    rw [e,e2]
    exact g.len p hp
  · rw [List.length_map] at hi
    obtain ⟨p,hp,_,e2⟩:=ZaE hi
    rw [e,e2]
    exact g.row p hp
  · rw [List.length_map] at hi
    rw [e,e]
    exact g.down i hi j hj
theorem GoodD.goodR {rows:List (List Int)} (h:GoodD (dTab rows)):∃ W,GoodR W rows:=by
  obtain ⟨rs,e,ht⟩:=h
  have e:=ZhC e
  subst e
  have g:=ZaL ht
  rw [List.map_map] at g
  have:((fun x:Addr × List Int=>x.2) ∘ fun r=>((0:Addr),r))=id:=rfl
  rw [this,List.map_id] at g
  exact ⟨_,g⟩
theorem GoodR.le {W:Nat}{rows:List (List Int)} (g:GoodR W rows) {j:Nat} (hj:j<W):∀ (k i:Nat),i+k<rows.length→(rows.getD i []).getD j 0≤(rows.getD (i+k) []).getD j 0
  | 0,i,_=>Int.le_refl _
  | k+1,i,hk=>Int.le_trans (g.le hj k i (by omega)) (g.down (i+k) (by omega) j hj)
def putD (rows:List (List Int)) (r:Nat) (d:PyData):PyData:=.list ((rows.take r).map dRow ++ [d] ++ (rows.drop (r+1)).map dRow)
theorem ZkC {rows:List (List Int)}{r:Nat}{x:List Int} (hr:r<rows.length):putD rows r (dRow x)=dTab (rows.set r x):=by
  unfold putD dTab
  rw [List.set_eq_take_append_cons_drop,if_pos hr]
  simp
theorem ZdY {rows:List (List Int)}{r i:Nat}{x:List Int} (hr:r<rows.length):(rows.set r x).getD i []=if i=r then x else rows.getD i []:=by
  rw [List.getD_eq_getElem?_getD,List.getElem?_set]
  by_cases h:r=i
  · subst h
    rw [if_pos rfl,if_pos hr,if_pos rfl]
    rfl
  · rw [if_neg h,if_neg (Ne.symm h),List.getD_eq_getElem?_getD]
theorem Zj9 {rows:List (List Int)}{r:Nat}{d:PyData} (h:rowD d=false):¬ GoodD (putD rows r d):=fun g=>by
  have:=g.rows.2 d (by simp)
  rw [h] at this
  cases this
theorem ZcE {W:Nat}{rows:List (List Int)}{r:Nat}{x:List Int} (g:GoodR W rows) (hr:r<rows.length)
    (h:(x.length≠W∧∃ i,i<rows.length∧i≠r)∨(∃ i k,i<k∧k<x.length∧x.getD k 0<x.getD i 0) ∨
      (∃ i j,j<W∧x.length=W∧((i<r∧x.getD j 0<(rows.getD i []).getD j 0)∨(r<i∧i<rows.length∧(rows.getD i []).getD j 0<x.getD j 0)))):¬ GoodD (putD rows r (dRow x)):=fun gd=>by
  rw [ZkC hr] at gd
  obtain ⟨V,q⟩:=gd.goodR
  have hlen:(rows.set r x).length=rows.length:=List.length_set
  have lx:=q.len r (by omega)
  rw [ZdY hr,if_pos rfl] at lx
  rcases h with ⟨h1,i,hi,hir⟩ | ⟨i,k,hik,hk,hlt⟩ | ⟨i,j,hj,hxl,h⟩
  · have li:=q.len i (by omega)
    rw [ZdY hr,if_neg hir,g.len i hi] at li
    exact h1 (by omega)
  · have nx:=q.row r (by omega)
    rw [ZdY hr,if_pos rfl] at nx
    have:=ZmD nx (k - i) i (by omega)
    rw [show i+(k - i)=k by omega] at this
    omega
  · have hV:V=W:=by omega
    subst hV
    rcases h with ⟨hi,hlt⟩ | ⟨hi,hi2,hlt⟩
    · have:=q.le hj (r - i) i (by omega)
      rw [show i+(r - i)=r by omega,ZdY hr,ZdY hr,if_pos rfl,if_neg (by omega)] at this
      omega
    · have:=q.le hj (i - r) r (by omega)
      rw [show r+(i - r)=i by omega,ZdY hr,ZdY hr,if_pos rfl,if_neg (by omega)] at this
      omega
theorem Zde {h:List Int}{p k:Nat}{v:Int} (hp:p<h.length):(h.set p v).getD k 0=if k=p then v else h.getD k 0:=by
  rw [List.getD_eq_getElem?_getD,List.getElem?_set]
  by_cases e:p=k
  · subst e
    rw [if_pos rfl,if_pos hp,if_pos rfl]
    rfl
  · rw [if_neg e,if_neg (Ne.symm e),List.getD_eq_getElem?_getD]
section
variable {W:Nat}{rows:List (List Int)}{r p:Nat}
theorem Zm3 {x:List Int} (g:GoodR W rows) (hr:r<rows.length) (h2:2≤rows.length) (h:x.length≠W):¬ GoodD (putD rows r (dRow x)) :=
  ZcE g hr (.inl ⟨h,if r=0 then 1 else 0,by split <;> omega,by split <;> omega⟩)
theorem Zj8 {v:Int} (g:GoodR W rows) (hr:r<rows.length) (hp:p<W)
    (h:(∃ i,i<p∧v<(rows.getD r []).getD i 0)∨(∃ i,p<i∧i<W∧(rows.getD r []).getD i 0<v)∨(∃ i,i<r∧v<(rows.getD i []).getD p 0)∨(∃ i,r<i∧i<rows.length∧(rows.getD i []).getD p 0<v)):¬ GoodD (putD rows r (dRow ((rows.getD r []).set p v))):=by
  have hl:=g.len r hr
  have hp':p<(rows.getD r []).length:=by omega
  rcases h with ⟨i,hi,hv⟩ | ⟨i,hi,hi2,hv⟩ | ⟨i,hi,hv⟩ | ⟨i,hi,hi2,hv⟩
  · exact ZcE g hr (.inr (.inl ⟨i,p,hi,by rw [List.length_set];omega,by rw [Zde hp',Zde hp',if_pos rfl,if_neg (by omega)];exact hv⟩))
  · exact ZcE g hr (.inr (.inl ⟨p,i,hi,by rw [List.length_set];omega,by rw [Zde hp',Zde hp',if_pos rfl,if_neg (by omega)];exact hv⟩))
  · exact ZcE g hr (.inr (.inr ⟨i,p,hp,by rw [List.length_set];exact hl,.inl ⟨hi,by rw [Zde hp',if_pos rfl];exact hv⟩⟩))
  · exact ZcE g hr (.inr (.inr ⟨i,p,hp,by rw [List.length_set];exact hl,.inr ⟨hi,hi2,by rw [Zde hp',if_pos rfl];exact hv⟩⟩))
end
theorem Zgs {ds:List PyData} (h:ds.length=0∨6<ds.length):¬ GoodD (.list ds):=fun g=>by
  have:=g.rows.1
  omega
theorem ZgW {ds:List PyData}{d:PyData} (hd:d∈ds) (h:rowD d=false):¬ GoodD (.list ds):=fun g=>by
  have:=g.rows.2 d hd
  rw [h] at this
  cases this
theorem ZhM {d:PyData} (h:∀ ds,d≠.list ds):¬ GoodD d:=fun g=>by
  obtain ⟨ds,e⟩:=g.list
  exact h ds e
theorem Zlk {rows:List (List Int)}{i k:Nat} (hi:i<rows.length) (hk:k<rows.length) (h:(rows.getD i []).length≠(rows.getD k []).length):¬ GoodD (dTab rows):=fun g=>by
  obtain ⟨W,q⟩:=g.goodR
  exact h ((q.len i hi).trans (q.len k hk).symm)
def ButS (S:List Addr) (H H':Hp):Prop:=∀ b o,b∉S→H b=some o→H' b=some o
theorem ButS.refl (S:List Addr) (H:Hp):ButS S H H:=fun _ _ _ e=>e
theorem ButS.trans {S:List Addr}{H H1 H2:Hp} (a:ButS S H H1) (b:ButS S H1 H2):ButS S H H2:=fun c o n e=>b c o n (a c o n e)
theorem Same.butS {S:List Addr}{H H':Hp} (a:Same H H'):ButS S H H':=fun c o _ e=>a c o e
theorem But.butS {s:Addr}{H H':Hp} (a:But s H H'):ButS [s] H H':=fun c o n e=>a c o (fun z=>n (by rw [z];exact List.mem_cons_self)) e
theorem ButS.but {s:Addr}{H H':Hp} (a:ButS [s] H H'):But s H H':=fun c o n e=>a c o (fun z=>n (by simpa using z)) e
structure Ab where
  S:List Addr
  J:Hp→Prop
  same:∀ {H H':Hp},J H→Same H H'→J H'
  fresh:∀ {H:Hp}{a:Addr},J H→H a=none→a∉S
abbrev Ty:=V→Hp→Prop
abbrev TyB:=Ab→Ty
abbrev EnB:=Ab→L2.St→Hp→Prop
def Stb (A:TyB):Prop:=∀ B v H H',A B v H→ButS B.S H H'→A B v H'
def StbE (Γ:EnB):Prop:=∀ B σ H H',Γ B σ H→ButS B.S H H'→Γ B σ H'
def tA (Γ:EnB) (A:TyB):TE:=fun σ H Q=>∃ B:Ab,Γ B σ H∧B.J H∧∀ v H',ButS B.S H H'→B.J H'→A B v H'→Q v H'
structure AE (X:Cx) (Γ:EnB) (e:Expr) (A:TyB):Prop where
  pe:PE X e (tA Γ A)
section
variable {X:Cx}{Γ:EnB}{e e1 e2:Expr}{es:List Expr}{A A':TyB}{pos:Pos}{n:Nat}
theorem Za1 {t t':TE} (h:PE X e t) (i:∀ σ H Q,t' σ H Q→t σ H Q):PE X e t':=fun pins s σ H Q I q=>h pins s σ H Q I (i σ H Q q)
theorem ZfY {t t':TA} (h:PA X es t) (i:∀ σ H Q,t' σ H Q→t σ H Q):PA X es t':=fun p pins s σ H Q I q=>h p pins s σ H Q I (i σ H Q q)
theorem ZlW (h:AE X Γ e A) (s:∀ B v H,A B v H→A' B v H):AE X Γ e A':=⟨Za1 h.pe fun _ _ _ ⟨B,g,j,q⟩=>⟨B,g,j,fun v H' b j' a=>q v H' b j' (s _ v H' a)⟩⟩
theorem ZlV {i:Nat} (h:PE X e (tVar i)) (g:∀ B σ H,Γ B σ H→∃ v,σ[i]? = some (some v)∧A B v H):AE X Γ e A:=⟨Za1 h fun σ H Q ⟨B,hg,j,q⟩=>by
  obtain ⟨v,ev,a⟩:=g _ σ H hg
  exact ⟨v,ev,q v H (ButS.refl _ _) j a⟩⟩
theorem ae_c {v:V} (h:PE X e (tC v)) (a:∀ B H,A B v H):AE X Γ e A:=⟨Za1 h fun σ H Q ⟨B,hg,j,q⟩=>q v H (ButS.refl _ _) j (a _ H)⟩
theorem ZlC {o:Option Expr}{t t':TO} (h:PO X o t) (i:∀ σ H Q,t' σ H Q→t σ H Q):PO X o t':=fun pins s σ H Q I q=>h pins s σ H Q I (i σ H Q q)
end
section
variable {X:Cx}{Γ:EnB}{es:List Expr}{A:TyB}{n:Nat}{e1 e2 e3 e4:Expr}
mutual
def Zfg:Nat→Expr→Option PyData
  | 0,_=>none
  | n+1,e=>match e with
    | .Constant .none _ _=>some .none
    | .Constant (.bool b) _ _=>some (.bool b)
    | .Constant (.int i) _ _=>some (.int i)
    | .Constant (.str x) _ _=>some (.str x)
    | .List es _=>(ZbP n es).map .list
    | .Tuple es _ _=>(ZbP n es).map .tuple
    | .Dict [] [] _=>some (.dict [])
    | _=>none
def ZbP:Nat→List Expr→Option (List PyData)
  | 0,_=>none
  | _+1,[]=>some []
  | n+1,e :: es=>match Zfg n e,ZbP n es with
    | some d,some ds=>some (d :: ds)
    | _,_=>none
end
abbrev tRd (d:PyData):TyB:=fun B v H=>RdS B.S H v d
theorem Zn0 {d:PyData}:Stb (tRd d):=fun B v H H' r b=>r.move (fun c o n e=>b c o n e) fun _ n=>n
theorem Zk1 {n:Nat}{e:Expr}{d:PyData}{env:Env} (h:Zfg n e=some d):starEach (e :: es) env=(false,eval e env) :: starEach es env:=by
  cases n with
  | zero=>simp [Zfg] at h
  | succ n=>cases e <;> first | rfl | (simp [Zfg] at h)
theorem Zcx:∀ (n:Nat) {es:List Expr}{ds:List PyData},ZbP n es=some ds→ds.length≤n
  | 0,es,ds,h=>by simp [ZbP] at h
  | n+1,[],ds,h=>by
    simp only [ZbP,Option.some.injEq] at h
    subst h
    exact Nat.zero_le _
  | n+1,e :: es,ds,h=>by
    unfold ZbP at h
    split at h
    · rename_i d0 ds0 he hes
      cases h
      have:=Zcx n hes
      simp only [List.length_cons]
      omega
    · cases h
mutual
theorem ZlJ (sg:StbE Γ):∀ (n:Nat) {e:Expr}{d:PyData},n≤1000→Zfg n e=some d→AE X Γ e (tRd d)
  | 0,e,d,_,h=>by simp [Zfg] at h
  | n+1,e,d,hn,h=>by
    unfold Zfg at h
    split at h
    · cases h;exact ae_c Zcd fun _ _=>.non
    · cases h;exact ae_c Zce fun _ _=>.bl _
    · cases h;exact ae_c Zae fun _ _=>.int _
    · cases h;exact ae_c Zbh fun _ _=>.str _
    · rename_i es p
      cases hl:ZbP n es with
      | none=>rw [hl] at h;cases h
      | some ds =>
        rw [hl] at h
        simp only [Option.map_some,Option.some.injEq] at h
        subst h
        exact ⟨Za1 (ZaF (Zff sg n (by omega) hl)) fun σ H Q ⟨B,hg,j,q⟩=>⟨B,hg,j,fun vs H1 b1 j1 r1=>⟨sl6 (by have:=Zcx n hl;have:=r1.length;omega),fun p hp=>q _ _ (b1.trans (Same.butS (Same.new hp))) (B.same j1 (Same.new hp)) (.lst Zad (B.fresh j1 hp) (r1.same (Same.new hp)))⟩⟩⟩
    · rename_i es x p
      cases hl:ZbP n es with
      | none=>rw [hl] at h;cases h
      | some ds =>
        rw [hl] at h
        simp only [Option.map_some,Option.some.injEq] at h
        subst h
        exact ⟨Za1 (Zbn (Zff sg n (by omega) hl)) fun σ H Q ⟨B,hg,j,q⟩=>⟨B,hg,j,fun vs H1 b1 j1 r1=>⟨sl6 (by have:=Zcx n hl;have:=r1.length;omega),fun p hp=>q _ _ (b1.trans (Same.butS (Same.new hp))) (B.same j1 (Same.new hp)) (.tup Zad (B.fresh j1 hp) (r1.same (Same.new hp)))⟩⟩⟩
    · cases h
      exact ⟨Za1 ZkH fun σ H Q ⟨B,hg,j,q⟩ p hp=>q _ _ (Same.butS (Same.new hp)) (B.same j (Same.new hp)) (.dct Zad (B.fresh j hp))⟩
    · cases h
theorem Zff (sg:StbE Γ):∀ (n:Nat) {es:List Expr}{ds:List PyData},n≤1000→ZbP n es=some ds→PA X es (fun σ H Q=>∃ B:Ab,Γ B σ H∧B.J H∧∀ vs H',ButS B.S H H'→B.J H'→RdSs B.S H' vs ds→Q vs H')
  | 0,es,ds,_,h=>by simp [ZbP] at h
  | n+1,[],ds,_,h=>by
    simp only [ZbP,Option.some.injEq] at h
    subst h
    exact ZfY Zab fun σ H Q ⟨B,hg,j,q⟩=>q [] H (ButS.refl _ _) j .nil
  | n+1,e :: es,ds,hn,h=>by
    unfold ZbP at h
    split at h
    · rename_i d0 ds0 he hes
      cases h
      exact ZfY (Zaa (ZlJ sg n (by omega) he).pe (Zff sg n (by omega) hes) (Zk1 he)) fun σ H Q ⟨B,hg,j,q⟩=>⟨B,hg,j,fun v H1 b1 j1 a1=>⟨B,sg _ _ _ _ hg b1,j1,fun vs H2 b2 j2 r2=>q (v :: vs) H2 (b1.trans b2) j2 (.cons (Zn0 _ _ _ _ a1 b2) r2)⟩⟩
    · cases h
end
theorem Zbr {c k:Nat}{d:PyData} (h:(d.showable && decide (d.shown.length≤c) && decide (d.depth≤k))=true):Sz c k d:=by
  simp only [Bool.and_eq_true,decide_eq_true_eq] at h
  exact ⟨h.1.1,h.1.2,h.2⟩
end
theorem Zer {xs:List V}{v:Int} (h0:0≤v) (h1:v<xs.length):∃ x∈xs,atI xs v=some x:=by
  obtain ⟨k,rfl⟩:∃ k:Nat,v=k:=⟨v.toNat,by omega⟩
  have hk:k<xs.length:=by omega
  exact ⟨xs[k],List.getElem_mem hk,ZaB (by simp [hk])⟩
mutual
theorem ZfT {S:List Addr}{H:Hp}{a:Addr} (ha:H a=none):∀ {x:V}{d:PyData},RdS S H x d→RdS (a :: S) H x d
  | _,_,.non=>.non
  | _,_,.bl b=>.bl b
  | _,_,.int i=>.int i
  | _,_,.str x=>.str x
  | _,_,.lst e n r=>.lst e (by simp only [List.mem_cons,not_or];exact ⟨Zak e ha,n⟩) (Zdg ha r)
  | _,_,.tup e n r=>.tup e (by simp only [List.mem_cons,not_or];exact ⟨Zak e ha,n⟩) (Zdg ha r)
  | _,_,.dct e n=>.dct e (by simp only [List.mem_cons,not_or];exact ⟨Zak e ha,n⟩)
theorem Zdg {S:List Addr}{H:Hp}{a:Addr} (ha:H a=none):∀ {xs:List V}{ds:List PyData},RdSs S H xs ds→RdSs (a :: S) H xs ds
  | _,_,.nil=>.nil
  | _,_,.cons h t=>.cons (ZfT ha h) (Zdg ha t)
end
abbrev tD (φ:PyData→Prop):TyB:=fun B v H=>∃ d,RdS B.S H v d∧φ d
theorem st_d {φ:PyData→Prop}:Stb (tD φ):=fun B v H H' ⟨d,r,s⟩ b=>⟨d,r.move (fun c o n e=>b c o n e) fun _ n=>n,s⟩
theorem ZdF {S:List Addr}{H H':Hp}{xs:List V}{ds:List PyData} (r:RdSs S H xs ds) (b:ButS S H H'):RdSs S H' xs ds:=r.move (fun c o n e=>b c o n e) fun _ n=>n
def IP (p:Int→Prop):PyData→Prop:=fun d=>∃ n:Int,d=.int n∧p n
def LP (φ:PyData→Prop) (lo hi:Nat):PyData→Prop:=fun d=>∃ ds,d=.list ds∧lo≤ds.length∧ds.length≤hi∧∀ e∈ds,φ e
structure AX (X:Cx) (Γ:EnB) (es:List Expr) (ψ:List PyData→Prop):Prop where
  pa:PA X es fun σ H Q=>∃ B:Ab,Γ B σ H∧B.J H∧∀ vs ds H',ButS B.S H H'→B.J H'→RdSs B.S H' vs ds→ψ ds→Q vs H'
abbrev AU (X:Cx) (Γ:EnB) (es:List Expr) (n:Nat) (φ:PyData→Prop):Prop:=AX X Γ es fun ds=>ds.length=n∧∀ e∈ds,φ e
section
variable {X:Cx}{Γ:EnB}{e e1 e2:Expr}{es:List Expr}{φ φ':PyData→Prop}{ψ:List PyData→Prop}{pos:Pos}{n:Nat}
theorem Za4 (h:AE X Γ e (tD φ)) (i:∀ d,φ d→φ' d):AE X Γ e (tD φ'):=ZlW h fun _ _ _ ⟨d,r,q⟩=>⟨d,r,i d q⟩
theorem Zka {ψ':List PyData→Prop} (h:AX X Γ es ψ) (i:∀ d,ψ d→ψ' d):AX X Γ es ψ':=⟨ZfY h.pa fun _ _ _ ⟨B,g,j,q⟩=>⟨B,g,j,fun vs ds H' b j' r z=>q vs ds H' b j' r (i ds z)⟩⟩
theorem Zcn:AX X Γ [] (· = []):=⟨ZfY Zab fun σ H Q ⟨B,hg,j,q⟩=>q [] [] H (ButS.refl _ _) j .nil rfl⟩
theorem Zbg (sg:StbE Γ) (h:AE X Γ e (tD φ)) (hr:AX X Γ es ψ) (hs:starEach (e :: es) X.env=(false,eval e X.env) :: starEach es X.env:=by rfl):AX X Γ (e :: es) (fun ds=>∃ d r,ds=d :: r∧φ d∧ψ r) :=
  ⟨ZfY (Zaa h.pe hr.pa hs) fun σ H Q ⟨B,hg,j,q⟩=>⟨B,hg,j,fun v H1 b1 j1 a1=>⟨B,sg _ _ _ _ hg b1,j1,fun vs ds H2 b2 j2 r2 z2=>by
    obtain ⟨d,r,p⟩:=st_d _ _ _ _ a1 b2
    exact q (v :: vs) (d :: ds) H2 (b1.trans b2) j2 (.cons r r2) ⟨d,ds,rfl,p,z2⟩⟩⟩⟩
theorem ZbC:AU X Γ [] 0 φ:=Zka Zcn fun d e=>by subst e;exact ⟨rfl,fun x h=>nomatch h⟩
theorem Zai (sg:StbE Γ) (h:AE X Γ e (tD φ)) (hr:AU X Γ es n φ) (hs:starEach (e :: es) X.env=(false,eval e X.env) :: starEach es X.env:=by rfl):AU X Γ (e :: es) (n+1) φ :=
  Zka (Zbg sg h hr hs) fun ds ⟨d,r,e,p,l,f⟩=>by
    subst e
    refine ⟨by rw [List.length_cons,l],fun x hx=>?_⟩
    rcases List.mem_cons.mp hx with z | z
    · rw [z];exact p
    · exact f x z
theorem ZhO {x1} (h:AX X Γ es ψ) (hn:∀ ds,ψ ds→ds.length≤1000) (hφ:∀ ds,ψ ds→φ (.tuple ds)):AE X Γ (.Tuple es x1 pos) (tD φ) :=
  ⟨Za1 (Zbn h.pa) fun σ H Q ⟨B,hg,j,q⟩=>⟨B,hg,j,fun vs ds H1 b1 j1 r1 z1=>⟨by rw [r1.length];exact sl6 (hn ds z1),fun p hp =>
    q _ _ (b1.trans (Same.butS (Same.new hp))) (B.same j1 (Same.new hp)) ⟨.tuple ds,.tup Zad (B.fresh j1 hp) (r1.same (Same.new hp)),hφ ds z1⟩⟩⟩⟩
theorem ZhP (h:AX X Γ es ψ) (hn:∀ ds,ψ ds→ds.length≤1000) (hφ:∀ ds,ψ ds→φ (.list ds)):AE X Γ (.List es pos) (tD φ) :=
  ⟨Za1 (ZaF h.pa) fun σ H Q ⟨B,hg,j,q⟩=>⟨B,hg,j,fun vs ds H1 b1 j1 r1 z1=>⟨by rw [r1.length];exact sl6 (hn ds z1),fun p hp =>
    q _ _ (b1.trans (Same.butS (Same.new hp))) (B.same j1 (Same.new hp)) ⟨.list ds,.lst Zad (B.fresh j1 hp) (r1.same (Same.new hp)),hφ ds z1⟩⟩⟩⟩
theorem Zbb (h:AU X Γ es n φ) (hn:n≤1000:=by decide):AE X Γ (.List es pos) (tD (LP φ n n)):=ZhP h (fun ds z=>by rw [z.1];exact hn) fun ds z=>⟨ds,rfl,by rw [z.1];exact Nat.le_refl _,by rw [z.1];exact Nat.le_refl _,z.2⟩
theorem Zb5 {S:List Addr}{H:Hp}:∀ {xs ys:List V}{ds es:List PyData},RdSs S H xs ds→RdSs S H ys es→RdSs S H (xs ++ ys) (ds ++ es)
  | _,_,_,_,.nil,h=>h
  | _,_,_,_,.cons r t,h=>.cons r (Zb5 t h)
theorem ZeZ {φ1 φ2:PyData→Prop} (sg:StbE Γ) (h1:AE X Γ e1 (tD φ1)) (h2:AE X Γ e2 (tD φ2)) (i1:∀ d,φ1 d→∃ ds,d=.list ds∧ds.length≤500) (i2:∀ d,φ2 d→∃ ds,d=.list ds∧ds.length≤500) (i:∀ a b,φ1 (.list a)→φ2 (.list b)→φ (.list (a ++ b))):AE X Γ (.BinOp e1 .Add e2 pos) (tD φ) :=
  ⟨Za1 (Zas ZbK h1.pe h2.pe) fun σ H Q ⟨B,hg,j,q⟩=>⟨B,hg,j,fun v H1 b1 j1 a1=>⟨B,sg _ _ _ _ hg b1,j1,fun u H2 b2 j2 a2=>by
    obtain ⟨d,r,p⟩:=st_d _ _ _ _ a1 b2
    obtain ⟨d2,r2,p2⟩:=a2
    obtain ⟨ds,rfl,n1⟩:=i1 d p
    obtain ⟨ds2,rfl,n2⟩:=i2 d2 p2
    cases r with
    | @lst a xs _ ea na ra =>
      cases r2 with
      | @lst b ys _ eb nb rb =>
        refine ⟨a,b,xs,ys,rfl,rfl,ea,eb,sl6 (by rw [ra.length,rb.length];omega),fun p hp=>?_⟩
        exact q _ _ ((b1.trans b2).trans (Same.butS (Same.new hp))) (B.same j2 (Same.new hp)) ⟨.list (ds ++ ds2),.lst Zad (B.fresh j2 hp) ((Zb5 ra rb).same (Same.new hp)),i _ _ ‹_› ‹_›⟩⟩⟩⟩
theorem ZbW {lo1 hi1 lo2 hi2:Nat} (sg:StbE Γ) (h1:AE X Γ e1 (tD (LP φ lo1 hi1))) (h2:AE X Γ e2 (tD (LP φ lo2 hi2))) (k1:hi1≤500:=by decide) (k2:hi2≤500:=by decide):AE X Γ (.BinOp e1 .Add e2 pos) (tD (LP φ (lo1+lo2) (hi1+hi2))) :=
  ZeZ sg h1 h2 (fun d ⟨ds,e,_,l,_⟩=>⟨ds,e,by omega⟩) (fun d ⟨ds,e,_,l,_⟩=>⟨ds,e,by omega⟩) fun a b ⟨ds,e,l1,l2,f⟩ ⟨ds2,e2,m1,m2,g⟩=>by
    injection e with e
    injection e2 with e2
    subst e e2
    refine ⟨_,rfl,by rw [List.length_append];omega,by rw [List.length_append];omega,fun x hx=>?_⟩
    rcases List.mem_append.mp hx with z | z
    · exact f x z
    · exact g x z
theorem Za9 {i:Nat} (h:PE X e (tVar i)) (g:∀ B σ H,Γ B σ H→∃ v,σ[i]? = some (some v)∧tD φ B v H):AE X Γ e (tD φ):=ZlV h g
theorem Zay (d:PyData) (sg:StbE Γ) (h:Zfg 40 e=some d) (hz:φ d):AE X Γ e (tD φ):=ZlW (ZlJ sg 40 (by decide) h) fun B v H r=>⟨d,r,hz⟩
theorem Zkk {p q:Int→Prop} (sg:StbE Γ) (h1:AE X Γ e1 (tD (IP p))) (h2:AE X Γ e2 (tD (IP q))):AE X Γ (.BinOp e1 .Add e2 pos) (tD (IP fun z=>∃ a b,p a∧q b∧z=a+b)) :=
  ⟨Za1 (Zas Zbt h1.pe h2.pe) fun σ H Q ⟨B,hg,j,q⟩=>⟨B,hg,j,fun v H1 b1 j1 a1=>⟨B,sg _ _ _ _ hg b1,j1,fun u H2 b2 j2 a2=>by
    obtain ⟨_,r1,i,rfl,p1⟩:=a1
    obtain ⟨_,r2,k,rfl,p2⟩:=a2
    cases r1
    cases r2
    exact ⟨i,k,rfl,rfl,q _ _ (b1.trans b2) j2 ⟨_,.int _,_,rfl,i,k,p1,p2,rfl⟩⟩⟩⟩⟩
theorem Zdw {p q:Int→Prop} (sg:StbE Γ) (h1:AE X Γ e1 (tD (IP p))) (h2:AE X Γ e2 (tD (IP q))):AE X Γ (.BinOp e1 .Sub e2 pos) (tD (IP fun z=>∃ a b,p a∧q b∧z=a - b)) :=
  ⟨Za1 (Zas Zc4 h1.pe h2.pe) fun σ H Q ⟨B,hg,j,q⟩=>⟨B,hg,j,fun v H1 b1 j1 a1=>⟨B,sg _ _ _ _ hg b1,j1,fun u H2 b2 j2 a2=>by
    obtain ⟨_,r1,i,rfl,p1⟩:=a1
    obtain ⟨_,r2,k,rfl,p2⟩:=a2
    cases r1
    cases r2
    exact ⟨i,k,rfl,rfl,q _ _ (b1.trans b2) j2 ⟨_,.int _,_,rfl,i,k,p1,p2,rfl⟩⟩⟩⟩⟩
theorem ZlX {i:Int} (h:PE X e (tC (.int i))):AE X Γ e (tD (IP (· = i))):=ae_c h fun _ _=>⟨_,.int i,i,rfl,rfl⟩
theorem ZfB {lo hi:Nat} (h1:AE X Γ e1 (tD (LP φ lo hi))) {t2:TE} (h2:PE X e2 t2) (pl:Zev e2) (g:∀ B σ H Q,Γ B σ H→B.J H→(∀ (i:Int) H',0≤i→i<lo→ButS B.S H H'→B.J H'→Q (.int i) H')→t2 σ H Q) (sg:StbE Γ):AE X Γ (.Subscript e1 e2 pos) (tD φ) :=
  ⟨Za1 (Zav Zam h1.pe h2 pl) fun σ H Q ⟨B,hg,j,q⟩=>⟨B,hg,j,fun v H1 b1 j1 a1=>g B σ H1 _ (sg _ _ _ _ hg b1) j1 fun i H2 i0 i1 b2 j2=>by
    obtain ⟨_,r,ds,rfl,l1,l2,f⟩:=st_d _ _ _ _ a1 b2
    cases r with
    | @lst a xs _ ea na ra =>
      obtain ⟨x,hx,hat⟩:=Zer (xs:=xs) i0 (by rw [ra.length];omega)
      obtain ⟨ms,e1,e2,hm⟩:=ra.pairs
      subst e1 e2
      obtain ⟨m,hm1,hm2⟩:=List.mem_map.mp hx
      subst hm2
      exact ⟨a,_,i,m.1,rfl,rfl,SqL.of ea,hat,q _ _ (b1.trans b2) j2 ⟨m.2,hm m hm1,f m.2 (List.mem_map.mpr ⟨m,hm1,rfl⟩)⟩⟩⟩⟩
end
abbrev tE (d:PyData):TyB:=tD (· = d)
def cutD (xs:List PyData) (lo hi:Option Int):List PyData:=(xs.drop (HT.sIx xs.length 0 lo)).take (HT.sIx xs.length xs.length hi - HT.sIx xs.length 0 lo)
theorem Zd5 {S:List Addr}{H:Hp}:∀ {xs:List V}{ds:List PyData} (n:Nat),RdSs S H xs ds→RdSs S H (xs.drop n) (ds.drop n)
  | _,_,0,h=>h
  | _,_,n+1,.nil=>.nil
  | _,_,n+1,.cons r t=>Zd5 n t
theorem Zd4 {S:List Addr}{H:Hp}:∀ {xs:List V}{ds:List PyData} (n:Nat),RdSs S H xs ds→RdSs S H (xs.take n) (ds.take n)
  | _,_,0,h=>.nil
  | _,_,n+1,.nil=>.nil
  | _,_,n+1,.cons r t=>.cons r (Zd4 n t)
theorem ZkA {S:List Addr}{H:Hp}{xs:List V}{ds:List PyData} (r:RdSs S H xs ds) (lo hi:Option Int):RdSs S H (cutV xs lo hi) (cutD ds lo hi):=by
  unfold cutV cutD
  rw [r.length]
  exact Zd4 _ (Zd5 _ r)
theorem ZiO {S:List Addr}{H:Hp}:∀ {xs:List V}{ds:List PyData},RdSs S H xs ds→∀ {k:Nat}{d:PyData},ds[k]? = some d→∃ x,xs[k]? = some x∧RdS S H x d
  | _,_,.nil,k,d,h=>by simp at h
  | _,_,.cons r t,0,d,h=>by
    simp only [List.getElem?_cons_zero,Option.some.injEq] at h
    subst h
    exact ⟨_,rfl,r⟩
  | _,_,.cons r t,k+1,d,h=>ZiO t (by simpa using h)
structure AOx (X:Cx) (Γ:EnB) (o:Option Expr) (i:Option Int):Prop where
  po:PO X o fun σ H Q=>∃ B:Ab,Γ B σ H∧B.J H∧∀ H',ButS B.S H H'→B.J H'→Q i H'
section
variable {X:Cx}{Γ:EnB}{e e1 e2:Expr}{es:List Expr}{φ φ':PyData→Prop}{pos:Pos}{n:Nat}{d d1 d2:PyData}{ds es':List PyData}
theorem ZbV:AOx X Γ none none:=⟨ZlC Zdh fun σ H Q ⟨B,hg,j,q⟩=>q H (ButS.refl _ _) j⟩
theorem ZbU {i:Int} (h:AE X Γ e (tE (.int i))):AOx X Γ (some e) (some i):=⟨ZlC (ZcK h.pe) fun σ H Q ⟨B,hg,j,q⟩=>⟨B,hg,j,fun v H1 b1 j1 a1=>by
  obtain ⟨_,r,rfl⟩:=a1
  cases r
  exact ⟨i,rfl,q H1 b1 j1⟩⟩⟩
theorem Zby {a b:Option Expr}{lo hi:Option Int}{p2:Pos} (sg:StbE Γ) (h:AE X Γ e (tE (.list ds))) (ha:AOx X Γ a lo) (hb:AOx X Γ b hi):AE X Γ (.Subscript e (.Slice a b none p2) pos) (tE (.list (cutD ds lo hi))) :=
  ⟨Za1 (Zcv Zdd h.pe ha.po hb.po) fun σ H Q ⟨B,hg,j,q⟩=>⟨B,hg,j,fun v H1 b1 j1 a1=>⟨B,sg _ _ _ _ hg b1,j1,fun H2 b2 j2=>⟨B,sg _ _ _ _ hg (b1.trans b2),j2,fun H3 b3 j3=>by
    obtain ⟨_,r,rfl⟩:=st_d _ _ _ _ a1 (b2.trans b3)
    cases r with
    | @lst a xs _ ea na ra =>
      refine ⟨a,xs,rfl,SqL.of ea,fun p hp=>?_⟩
      exact q _ _ ((b1.trans (b2.trans b3)).trans (Same.butS (Same.new hp))) (B.same j3 (Same.new hp)) ⟨_,.lst Zad (B.fresh j3 hp) ((ZkA ra lo hi).same (Same.new hp)),rfl⟩⟩⟩⟩⟩
theorem ZcR (sg:StbE Γ) (h1:AE X Γ e1 (tE (.list ds))) (h2:AE X Γ e2 (tE (.list es'))) (n1:ds.length≤500) (n2:es'.length≤500):AE X Γ (.BinOp e1 .Add e2 pos) (tE (.list (ds ++ es'))) :=
  ZeZ sg h1 h2 (fun d h=>⟨ds,h,n1⟩) (fun d h=>⟨es',h,n2⟩) fun a b ha hb=>by
    injection ha with ha
    injection hb with hb
    rw [ha,hb]
theorem Zet {i:Int}{k:Nat} (sg:StbE Γ) (h1:AE X Γ e1 (tE (.list ds))) (h2:AE X Γ e2 (tE (.int i))) (pl:Zev e2) (hk:ixN ds.length i=some k) (hd:ds[k]? = some d):AE X Γ (.Subscript e1 e2 pos) (tE d) :=
  ⟨Za1 (Zav Zam h1.pe h2.pe pl) fun σ H Q ⟨B,hg,j,q⟩=>⟨B,hg,j,fun v H1 b1 j1 a1=>⟨B,sg _ _ _ _ hg b1,j1,fun u H2 b2 j2 a2=>by
    obtain ⟨_,r,rfl⟩:=st_d _ _ _ _ a1 b2
    obtain ⟨_,r2,rfl⟩:=a2
    cases r2
    cases r with
    | @lst a xs _ ea na ra =>
      obtain ⟨x,hx,rx⟩:=ZiO ra hd
      refine ⟨a,xs,i,x,rfl,rfl,SqL.of ea,?_,q _ _ (b1.trans b2) j2 ⟨_,rx,rfl⟩⟩
      unfold atI
      rw [ra.length,hk]
      exact hx⟩⟩⟩
theorem ZeY (h:AE X Γ e (tE (.list ds))) {p1:Pos} (htu:X.mg "tuple" = none) (hg:Gl X "tuple" := by rfl) (he:starEach [e] X.env=(false,eval e X.env) :: starEach [] X.env:=by rfl) (hpl:(backTo pos (starEach ([]:List Expr) X.env)).any (·.1)=false:=by rfl):AE X Γ (.Call (.Name "tuple" p1) [e] [] pos) (tE (.tuple ds)) :=
  ⟨Za1 (pe_t Zfv htu boot_tuple (Zaa h.pe Zab he) hg (by decide) (by decide) he hpl) fun σ H Q ⟨B,hg,j,q⟩=>⟨B,hg,j,fun v H1 b1 j1 a1=>by
    obtain ⟨_,r,rfl⟩:=a1
    cases r with
    | @lst a xs _ ea na ra=>exact ⟨a,xs,rfl,.inl ⟨SqL.of ea,fun l hl=>q _ _ (b1.trans (Same.butS (Same.new hl))) (B.same j1 (Same.new hl)) ⟨_,.tup Zad (B.fresh j1 hl) (ra.same (Same.new hl)),rfl⟩⟩⟩⟩⟩
theorem Zaw {i:Int} (h:PE X e (tC (.int i))):AE X Γ e (tE (.int i)):=ae_c h fun _ _=>⟨_,.int i,rfl⟩
theorem Zeu {i k:Int} (sg:StbE Γ) (h1:AE X Γ e1 (tE (.int i))) (h2:AE X Γ e2 (tE (.int k))):AE X Γ (.BinOp e1 .Add e2 pos) (tE (.int (i+k))) :=
  ⟨Za1 (Zas Zbt h1.pe h2.pe) fun σ H Q ⟨B,hg,j,q⟩=>⟨B,hg,j,fun v H1 b1 j1 a1=>⟨B,sg _ _ _ _ hg b1,j1,fun u H2 b2 j2 a2=>by
    obtain ⟨_,r1,rfl⟩:=a1
    obtain ⟨_,r2,rfl⟩:=a2
    cases r1
    cases r2
    exact ⟨i,k,rfl,rfl,q _ _ (b1.trans b2) j2 ⟨_,.int _,rfl⟩⟩⟩⟩⟩
theorem Zcc {i k:Int} (sg:StbE Γ) (h1:AE X Γ e1 (tE (.int i))) (h2:AE X Γ e2 (tE (.int k))):AE X Γ (.BinOp e1 .Sub e2 pos) (tE (.int (i - k))) :=
  ⟨Za1 (Zas Zc4 h1.pe h2.pe) fun σ H Q ⟨B,hg,j,q⟩=>⟨B,hg,j,fun v H1 b1 j1 a1=>⟨B,sg _ _ _ _ hg b1,j1,fun u H2 b2 j2 a2=>by
    obtain ⟨_,r1,rfl⟩:=a1
    obtain ⟨_,r2,rfl⟩:=a2
    cases r1
    cases r2
    exact ⟨i,k,rfl,rfl,q _ _ (b1.trans b2) j2 ⟨_,.int _,rfl⟩⟩⟩⟩⟩
theorem ZcQ {i:Int} (h:AE X Γ e (tE (.int i))):AE X Γ (.UnaryOp .USub e pos) (tE (.int (-i))):=⟨Za1 (ZgG ZgO h.pe) fun σ H Q ⟨B,hg,j,q⟩=>⟨B,hg,j,fun v H1 b1 j1 a1=>by
  obtain ⟨_,r1,rfl⟩:=a1
  cases r1
  exact ⟨i,rfl,q _ _ b1 j1 ⟨_,.int _,rfl⟩⟩⟩⟩
theorem Zes {i:Int} (sg:StbE Γ) (h1:AE X Γ e1 (tD (LP φ 1 1))) (h2:AE X Γ e2 (tE (.int i))) (h0:0≤i) (hm:i≤100):AE X Γ (.BinOp e1 .Mult e2 pos) (tD (LP φ i.toNat i.toNat)) :=
  ⟨Za1 (Zas ZfZ h1.pe h2.pe) fun σ H Q ⟨B,hg,j,q⟩=>⟨B,hg,j,fun v H1 b1 j1 a1=>⟨B,sg _ _ _ _ hg b1,j1,fun u H2 b2 j2 a2=>by
    obtain ⟨_,r,ds,rfl,l1,l2,f⟩:=st_d _ _ _ _ a1 b2
    obtain ⟨_,r2,rfl⟩:=a2
    cases r2
    cases r with
    | @lst a xs _ ea na ra =>
      have hl:=ra.length
      match xs,ds,ra with
      | [x],[d],.cons rx .nil =>
        refine ⟨a,i,_,rfl,rfl,ea,by omega,by omega,by simp only [List.length_singleton,Nat.one_mul];exact sl6 (by omega),fun p hp=>?_⟩
        have hfl:∀ m:Nat,RdSs B.S H2 ((List.replicate m [x]).flatten) (List.replicate m d):=fun m=>by
          induction m with
          | zero=>exact .nil
          | succ m ih=>exact .cons rx ih
        refine q _ _ ((b1.trans b2).trans (Same.butS (Same.new hp))) (B.same j2 (Same.new hp)) ⟨_,.lst Zad (B.fresh j2 hp) ((hfl i.toNat).same (Same.new hp)),_,rfl,by simp,by simp,fun e he=>?_⟩
        rw [List.eq_of_mem_replicate he]
        exact f d (by simp)
      | [],[],_=>simp at l1
      | _ :: _ :: _,_ :: _ :: _,_=>simp at l2⟩⟩⟩
end
def Vr (B:Ab) (σ:L2.St) (H:Hp) (i:Nat) (d:PyData):Prop:=∃ v,σ[i]? = some (some v)∧RdS B.S H v d
theorem Vr.but {B:Ab}{σ:L2.St}{H H':Hp}{i:Nat}{d:PyData} (h:Vr B σ H i d) (b:ButS B.S H H'):Vr B σ H' i d:=let ⟨v,e,r⟩:=h;⟨v,e,r.move (fun c o n e=>b c o n e) fun _ n=>n⟩
theorem ZdC {X:Cx}{Γ:EnB}{e:Expr}{i:Nat}{d:PyData} (h:PE X e (tVar i)) (g:∀ B σ H,Γ B σ H→Vr B σ H i d):AE X Γ e (tE d):=ZlV h fun B σ H q=>let ⟨v,ev,r⟩:=g B σ H q;⟨v,ev,d,r,rfl⟩
def abS (s D:Addr):Ab:=⟨[s],fun H=>StK H s,fun h sm=>h.same sm,fun h n=>by
  simp only [List.mem_singleton]
  exact fun z=>h.ne n z.symm⟩
def EnvD (st D:Addr) (l:List (Nat × PyData)):EnB:=fun B σ H=>B=abS st D∧σ[0]? = some (some (.ref st))∧∀ x∈l,Vr B σ H x.1 x.2
theorem ZaC {st D:Addr}{l:List (Nat × PyData)}:StbE (EnvD st D l):=fun _ _ _ _ ⟨h1,h2,h3⟩ b=>⟨h1,h2,fun x hx=>(h3 x hx).but b⟩
section
variable {X:Cx}{Γ:EnB}{st D:Addr}{l:List (Nat × PyData)}{e:Expr}{es:List Expr}{pos:Pos}{d:PyData}{ds:List PyData}{i:Nat}
theorem Zbp (h:PE X e (tVar i)) (hm:(i,d)∈l):AE X (EnvD st D l) e (tE d):=ZdC h fun B σ H q=>q.2.2 _ hm
theorem ZdO (sg:StbE Γ) (h:AE X Γ e (tE d)) (hr:AX X Γ es (· = ds)) (hs:starEach (e :: es) X.env=(false,eval e X.env) :: starEach es X.env:=by rfl):AX X Γ (e :: es) (· = d :: ds):=Zka (Zbg sg h hr hs) fun z ⟨a,b,e1,e2,e3⟩=>by rw [e1,e2,e3]
theorem ZfA (h:AX X Γ es (· = ds)) (hn:ds.length≤1000):AE X Γ (.List es pos) (tE (.list ds)):=ZhP h (fun z e=>by rw [e];exact hn) fun z e=>by rw [e]
end
theorem ZbS {ds:List PyData}{p:Nat} (h:p≤ds.length):cutD ds none (some (p:Int))=ds.take p:=by
  unfold cutD
  rw [HT.sIx_none,HT.sIx_nat,List.drop_zero,Nat.sub_zero,Nat.min_eq_left h]
theorem ZbB {ds:List PyData}{p:Nat}:cutD ds (some (p:Int)) none=ds.drop p:=by
  unfold cutD
  rw [HT.sIx_none,HT.sIx_nat]
  by_cases h:p≤ds.length
  · rw [Nat.min_eq_left h,List.take_of_length_le (by rw [List.length_drop];omega)]
  · rw [Nat.min_eq_right (by omega),List.drop_of_length_le (Nat.le_refl _),List.drop_of_length_le (by omega)]
    simp
def setD (h:List Int) (p:Nat) (d:PyData):PyData:=.list (((h.map PyData.int).take p ++ [d]) ++ (h.map PyData.int).drop (p+1))
theorem Zhi {h:List Int}{p:Nat}{v:Int} (hp:p<h.length):setD h p (.int v)=dRow (h.set p v):=by
  unfold setD dRow
  rw [List.set_eq_take_append_cons_drop,if_pos hp]
  simp
theorem Zkv {h:List Int}{p:Nat}{d:PyData} (hd:ZaG d=false):rowD (setD h p d)=false:=by
  unfold setD
  rw [ZbJ]
  have:(((h.map PyData.int).take p ++ [d]) ++ (h.map PyData.int).drop (p+1)).all ZaG=false:=by
    rw [List.all_eq_false]
    exact ⟨d,by simp,by rw [hd];simp⟩
  rw [this,Bool.and_false]
theorem ZdR {h:List Int} (hl:h.length≤8) (hb:∀ n∈h,n.natAbs<10 ^ 40):Sz 400 1 (dRow h):=by
  refine (ZbH (c:=41) (k:=0) (n:=8) (fun e he=>?_) (by rw [List.length_map];exact hl)).mono (by decide) (by decide)
  obtain ⟨n,hn,rfl⟩:=List.mem_map.mp he
  exact Zch (hb n hn)
theorem Zis {h:List Int}{p:Nat}{d:PyData} (hl:h.length≤6) (hb:∀ n∈h,n.natAbs<10 ^ 40) (hd:Sz 41 1 d):Sz 400 2 (setD h p d):=by
  refine (ZbH (c:=41) (k:=1) (n:=8) (fun e he=>?_) ?_).mono (by decide) (by decide)
  · simp only [List.mem_append,List.mem_singleton] at he
    have:∀ e∈h.map PyData.int,Sz 41 1 e:=fun e he=>by
      obtain ⟨n,hn,rfl⟩:=List.mem_map.mp he
      exact (Zch (hb n hn)).mono (by decide) (by decide)
    rcases he with (h1 | h1) | h1
    · exact this e (List.mem_of_mem_take h1)
    · rw [h1];exact hd
    · exact this e (List.mem_of_mem_drop h1)
  · simp only [List.length_append,List.length_take,List.length_drop,List.length_map,List.length_singleton]
    omega
theorem Zm7 {X:Cx}{Γ:EnB}{eN eN' eP eP' eO e1:Expr}{h:List Int}{p:Nat}{o:PyData}{q1 q2 q3 q4 q6 q7 q8 q9:Pos} (sg:StbE Γ) (hN:AE X Γ eN (tE (dRow h))) (hP:AE X Γ eP (tE (.int (p:Nat)))) (hO:AE X Γ eO (tE o)) (hN':AE X Γ eN' (tE (dRow h))) (hP':AE X Γ eP' (tE (.int (p:Nat)))) (h1:PE X e1 (tC (.int 1))) (hl:h.length≤6) (hp:p<h.length)
    (hs:starEach [eO] X.env=(false,eval eO X.env) :: starEach [] X.env:=by rfl) :
    AE X Γ (.BinOp (.BinOp (.Subscript eN (.Slice none (some eP) none q1) q2) .Add (.List [eO] q3) q4) .Add (.Subscript eN' (.Slice (some (.BinOp eP' .Add e1 q6)) none none q7) q8) q9) (tE (setD h p o)):=by
  have z:=ZcR (pos:=q9) sg (ZcR (pos:=q4) sg (Zby (pos:=q2) (p2:=q1) sg hN ZbV (ZbU hP)) (ZfA (pos:=q3) (ZdO sg hO Zcn hs) (by simp)) (by
    rw [ZbS (by rw [List.length_map];omega),List.length_take,List.length_map];omega) (by simp)) (Zby (pos:=q8) (p2:=q7) sg hN' (ZbU (Zeu (pos:=q6) sg hP' (Zaw h1))) ZbV) (by
    rw [ZbS (by rw [List.length_map];omega),List.length_append,List.length_take,List.length_map,List.length_singleton];omega) (by
    rw [show ((p:Nat):Int)+1=((p+1:Nat):Int) by omega,ZbB,List.length_drop,List.length_map];omega)
  rw [ZbS (by rw [List.length_map];omega),show ((p:Nat):Int)+1=((p+1:Nat):Int) by omega,ZbB] at z
  exact z
def BL (rows:List (List Int)) (r:Nat) (d:PyData):Prop:=¬ GoodD (putD rows r d)∧Sz 1000 4 d
theorem ZgB {S:List Addr}{H H':Hp}{x:V}{d:PyData} (r:RdS S H x d) (b:ButS S H H'):RdS S H' x d:=r.move (fun c o n e=>b c o n e) fun _ n=>n
theorem ZkG {X:Cx}{Γ:EnB}{es:List Expr}{ei:Expr}{te:TE}{p1 p2:Pos}{n:Nat} (sg:StbE Γ) (hi:PE X ei te) (pl:Zev ei) (g:∀ B σ H Q,Γ B σ H→B.J H→(∀ (i:Int) H',0≤i→i<n→ButS B.S H H'→B.J H'→Q (.int i) H')→te σ H Q):PE X (.Subscript (.List es p1) ei p2)
    (fun σ H Q=>∃ (B:Ab) (ds:List PyData),Γ B σ H∧B.J H∧ZbP 40 es=some ds∧n≤ds.length∧∀ v d H',d∈ds→RdS B.S H' v d→ButS B.S H H'→B.J H'→Q v H'):=fun pins s σ H Q I ⟨B,ds,hg,j,hl,hn,q⟩=>by
  refine Zav Zam (ZaF (Zff (Γ:=fun B' _ _=>B'=B) (fun _ _ _ _ g _=>g) 40 (by decide) hl)) hi pl pins s σ H Q I ⟨B,rfl,j,fun vs H1 b1 j1 r1=>⟨sl6 (by have:=Zcx 40 hl;have:=r1.length;omega),fun p hp=>?_⟩⟩
  have sp:Same H1 (upd H1 p (.lst vs)):=Same.new hp
  have nB:=B.fresh j1 hp
  have b2:=b1.trans (Same.butS sp)
  refine g B σ _ _ (sg _ _ _ _ hg b2) (B.same j1 sp) fun i H3 i0 i1 b3 j3=>?_
  have r3:=ZdF (r1.same sp) b3
  obtain ⟨x,hx,hat⟩:=Zer (xs:=vs) i0 (by rw [r1.length];omega)
  obtain ⟨ms,e1,e2,hm⟩:=r3.pairs
  subst e1 e2
  obtain ⟨m,hm1,hm2⟩:=List.mem_map.mp hx
  subst hm2
  exact ⟨p,_,i,m.1,rfl,rfl,SqL.of (b3 _ _ nB Zad),hat,q _ m.2 _ (List.mem_map.mpr ⟨m,hm1,rfl⟩) (hm m hm1) (b2.trans b3) j3⟩
def oddD:List PyData:=[.bool true,.bool false,.none,.str "1", .list [.int 1],.tuple [.int 1],.dict [],.str ""]
theorem ZdH {n:Nat} (h:1≤n):ixN n (-1)=some (n - 1):=by
  unfold ixN
  rw [if_neg (by decide),if_pos (by omega)]
  congr 1
  omega
theorem ZcO {n k:Nat} (h:k<n):ixN n (k:Int)=some k:=by
  unfold ixN
  rw [if_pos (by omega),if_pos (by omega)]
  congr 1
theorem ZfC {X:Cx}{Γ:EnB}{e:Expr}{d d':PyData} (h:AE X Γ e (tE d)) (q:d=d'):AE X Γ e (tE d'):=by subst q;exact h
theorem ZgE {X:Cx}{s:Stmt}{α:Type}{C:α→Prop}{t:α→TS} (h:∀ a,C a→PS X s (t a)):PS X s (fun E σ H=>∃ a,C a∧t a E σ H):=fun pins s' σ H D I ⟨a,c,q⟩=>h a c pins s' σ H D I q
theorem ZhW {X:Cx}{s:Stmt}{α β:Type}{C:α→β→Prop}{t:α→β→TS} (h:∀ a b,C a b→PS X s (t a b)):PS X s (fun E σ H=>∃ a b,C a b∧t a b E σ H):=fun pins s' σ H D I ⟨a,b,c,q⟩=>h a b c pins s' σ H D I q
theorem Zoc {X:Cx}{s:Stmt}{α β γ:Type}{C:α→β→γ→Prop}{t:α→β→γ→TS} (h:∀ a b c,C a b c→PS X s (t a b c)):PS X s (fun E σ H=>∃ a b c,C a b c∧t a b c E σ H):=fun pins s' σ H D I ⟨a,b,c,z,q⟩=>h a b c z pins s' σ H D I q
theorem Zfm {rows:List (List Int)}{r:Nat} (h:r<rows.length):(rows.map dRow)[r]? = some (dRow (rows.getD r [])):=by
  rw [List.getElem?_map,List.getElem?_eq_getElem h,List.getD_eq_getElem?_getD,List.getElem?_eq_getElem h]
  rfl
theorem ZdI {h:List Int}{k:Nat} (hk:k<h.length):(h.map PyData.int)[k]? = some (.int (h.getD k 0)):=by
  rw [List.getElem?_map,List.getElem?_eq_getElem hk,List.getD_eq_getElem?_getD,List.getElem?_eq_getElem hk]
  rfl
def tTr (N N':L2.St→Hp→Prop):TS:=fun E σ H=>N σ H∧∀ σ' H',N' σ' H'→E.nx σ' H'
theorem Zdq {X:Cx}{s:Stmt}{t t':TS} (h:PS X s t) (i:∀ E σ H,t' E σ H→t E σ H):PS X s t':=fun pins s' σ H D I q=>h pins s' σ H D I (i D σ H q)
theorem ZcU {X:Cx}{s:Stmt}{i:Nat}{te:TE}{N N':L2.St→Hp→Prop} (h:PS X s (tAsg te (ZaP i))) (hN:∀ σ H (Q:VK),N σ H→(∀ v H',N' (σ.set i (some v)) H'→Q v H')→te σ H Q):PS X s (tTr N N') :=
  Zdq h fun E σ H ⟨n,q⟩=>hN σ H _ n fun v H' z=>q _ _ z
def VP (B:Ab) (σ:L2.St) (H:Hp) (i:Nat) (φ:PyData→Prop):Prop:=∃ v,σ[i]? = some (some v)∧tD φ B v H
section
variable {B:Ab}{σ:L2.St}{H H':Hp}{i k:Nat}{φ φ':PyData→Prop}{d:PyData}{v:V}{x:Option V}
theorem Zbo (h:σ[i]? = some x) (n:k≠i) {y:Option V}:(σ.set k y)[i]? = some x:=by rw [List.getElem?_set_ne n];exact h
theorem Za8 (h:i < σ.length) {y:Option V}:(σ.set i y)[i]? = some y:=by rw [List.getElem?_set,if_pos rfl,if_pos h]
theorem VP.but (h:VP B σ H i φ) (b:ButS B.S H H'):VP B σ H' i φ:=let ⟨v,e,r⟩:=h;⟨v,e,st_d _ _ _ _ r b⟩
theorem VP.ne (h:VP B σ H i φ) (n:k≠i):VP B (σ.set k x) H i φ:=let ⟨v,e,r⟩:=h;⟨v,Zbo e n,r⟩
theorem VP.imp (h:VP B σ H i φ) (f:∀ d,φ d→φ' d):VP B σ H i φ':=let ⟨v,e,d,r,z⟩:=h;⟨v,e,d,r,f d z⟩
theorem Vr.vp (h:Vr B σ H i d) (z:φ d):VP B σ H i φ:=let ⟨v,e,r⟩:=h;⟨v,e,d,r,z⟩
theorem Vr.ne (h:Vr B σ H i d) (n:k≠i):Vr B (σ.set k x) H i d:=let ⟨v,e,r⟩:=h;⟨v,Zbo e n,r⟩
theorem ZcT {n:Int} (h:σ[i]? = some (some (.int n))):Vr B σ H i (.int n):=⟨_,h,.int n⟩
end
structure NtC (st D t:Addr) (prs:Prs) (H0:Hp) (L:Nat) (σ:L2.St) (H:Hp):Prop where
  len:σ.length=L
  s0:σ[0]? = some (some (.ref st))
  s1:σ[1]? = some (some (.ref t))
  b:But st H0 H
  S:StK H st
  T:Tab H t prs
  nt:t≠st
  np:∀ p∈prs,p.1≠st
section
variable {st D t:Addr}{prs:Prs}{H0 H H':Hp}{L:Nat}{σ:L2.St}{i:Nat}{v:V}
theorem NtC.set (h:NtC st D t prs H0 L σ H) (hi:2≤i):NtC st D t prs H0 L (σ.set i (some v)) H:=⟨by rw [List.length_set];exact h.len,Zbo h.s0 (by omega),Zbo h.s1 (by omega),h.b,h.S,h.T,h.nt,h.np⟩
theorem NtC.but (h:NtC st D t prs H0 L σ H) (b:But st H H') (S:StK H' st):NtC st D t prs H0 L σ H':=⟨h.len,h.s0,h.s1,h.b.trans b,S,h.T.but h.nt h.np b,h.nt,h.np⟩
theorem NtC.same (h:NtC st D t prs H0 L σ H) (s:Same H H'):NtC st D t prs H0 L σ H':=h.but (Same.but s) (h.S.same s)
theorem Zg2 {S:List Addr} (hT:Tab H t prs) (h1:t∉S) (h2:∀ p∈prs,p.1∉S):RdS S H (.ref t) (dTab (prs.map (·.2))):=by
  refine .lst hT.l h1 ?_
  have:∀ ps:Prs,(∀ p∈ps,Row H p.1 p.2∧p.1∉S)→RdSs S H (ps.map fun p=>V.ref p.1) ((ps.map (·.2)).map dRow):=fun ps=>by
    induction ps with
    | nil=>exact fun _=>.nil
    | cons p ps ih =>
      intro h
      have hp:=h p (by simp)
      refine .cons (.lst hp.1 hp.2 ?_) (ih fun q hq=>h q (by simp [hq]))
      have hi:∀ ns:List Int,RdSs S H (ns.map V.int) (ns.map PyData.int):=fun ns=>by
        induction ns with
        | nil=>exact .nil
        | cons n ns ih=>exact .cons (.int n) ih
      exact hi p.2
  exact this prs fun p hp=>⟨hT.r p hp,h2 p hp⟩
theorem NtC.v1 (h:NtC st D t prs H0 L σ H):Vr (abS st D) σ H 1 (dTab (prs.map (·.2))) :=
  ⟨_,h.s1,Zg2 h.T (by simpa [abS] using h.nt) fun p hp=>by simpa [abS] using h.np p hp⟩
theorem NtC.rows (h:NtC st D t prs H0 L σ H):RdSs (abS st D).S H (prs.map fun p=>V.ref p.1) ((prs.map (·.2)).map dRow):=by
  have z:=Zg2 (S:=(abS st D).S) h.T (by simpa [abS] using h.nt) fun p hp=>by simpa [abS] using h.np p hp
  cases z with
  | @lst _ xs _ ea na ra =>
    have:=h.T.l.symm.trans ea
    injection this with this
    injection this with this
    rw [this]
    exact ra
end
theorem Zdf (prs:Prs) (i:Nat):(prs.map (·.2)).getD i []=ZaA prs i:=by
  unfold ZaA
  rw [List.getD_eq_getElem?_getD,List.getElem?_map]
abbrev rws (prs:Prs):List (List Int):=prs.map (·.2)
abbrev rwD (prs:Prs) (r:Nat):List Int:=(rws prs).getD r []
theorem ZcH {prs:Prs} (hg:tabB prs=true) (hb:Bnd prs) {i:Nat} (hi:i<prs.length):∀ n∈rwD prs i,n.natAbs<10 ^ 38:=by
  obtain ⟨pr,hp1,hp2,hp3⟩:=ZaE hi
  rw [rwD,Zdf,hp3]
  exact hb pr hp1
theorem Zfx {prs:Prs} (hg:tabB prs=true) (hb:Bnd prs) {i j:Nat} (hi:i<prs.length) (hj:j<w0 prs):((rwD prs i).getD j 0).natAbs<10 ^ 38:=by
  refine ZcH hg hb hi _ ?_
  have:=(ZaL hg).len i (by rw [List.length_map];exact hi)
  have hl:j<(rwD prs i).length:=by unfold rwD rws;omega
  rw [List.getD_eq_getElem?_getD,List.getElem?_eq_getElem hl]
  exact List.getElem_mem _
theorem ZnR {prs:Prs} (hg:tabB prs=true) (hb:Bnd prs) {r p:Nat} (hr:r<prs.length) {o:PyData} (ho:ZaG o=false) (hz:Sz 41 1 o):BL (rws prs) r (setD (rwD prs r) p o):=by
  have g:=ZaL hg
  have hl:=g.len r (by rw [List.length_map];exact hr)
  have hw:=g.w
  refine ⟨Zj9 (Zkv ho),(Zis (by unfold rwD rws;omega) (fun n hn=>Nat.lt_of_lt_of_le (ZcH hg hb hr n hn) (by decide)) hz).mono (by decide) (by decide)⟩
theorem Zir {prs:Prs} (hg:tabB prs=true) (hb:Bnd prs) {r p:Nat} (hr:r<prs.length) {v:Int} (hv:v.natAbs<10 ^ 40):Sz 1000 4 (setD (rwD prs r) p (.int v)):=by
  have g:=ZaL hg
  have hl:=g.len r (by rw [List.length_map];exact hr)
  have hw:=g.w
  exact (Zis (by unfold rwD rws;omega) (fun n hn=>Nat.lt_of_lt_of_le (ZcH hg hb hr n hn) (by decide)) ((Zch hv).mono (by decide) (by decide))).mono (by decide) (by decide)
theorem Zmb {S:List Addr}{H:Hp}{a:Addr}{o:HO}{x:V}{d:PyData} (r:RdS (a :: S) H x d):RdS (a :: S) (upd H a o) x d:=r.move (fun b o' n e=>by rw [Zal (fun z=>n (by rw [z];exact .head _))];exact e) fun _ n=>n
theorem ZkB {S:List Addr}{H:Hp}{a:Addr}{x:V}{d:PyData} (r:RdS (a :: S) H x d):RdS S H x d:=r.move (fun _ _ _ e=>e) fun b n z=>n (.tail _ z)
theorem Zda {rows:List (List Int)}{r:Nat}{d:PyData} (h:rowD d=false) (hz:Sz 1000 4 d):BL rows r d:=⟨Zj9 h,hz⟩
theorem ZmF {φ:PyData→Prop}{ds:List PyData}{lo hi:Nat} (h1:lo≤ds.length) (h2:ds.length≤hi) (h:∀ d∈ds,φ d):LP φ lo hi (.list ds):=⟨ds,rfl,h1,h2,h⟩
theorem ZlT {prs:Prs}{r:Nat} (hg:tabB prs=true) (hb:Bnd prs) (hr:r<prs.length) (h2:2≤prs.length) {x:List Int} (hx:x.length≠w0 prs) (hl:x.length≤8) (hn:∀ n∈x,n.natAbs<10 ^ 40):BL (rws prs) r (dRow x) :=
  ⟨Zm3 (ZaL hg) (by rw [List.length_map];exact hr) (by rw [List.length_map];exact h2) hx,(ZdR hl hn).mono (by decide) (by decide)⟩
theorem Zmc {K:PySem.W.Frag}{H:Hp}{x:Addr}{a b:Int} (e:H x=some (.tup [.int a,.int b])):RdD K H (.ref x) (.tuple [.int a,.int b]):=.tup (SqT.of e) (.cons (.int a) (.cons (.int b) .nil))
abbrev EnvL (st D:Addr) (l:List (Nat × PyData)) (i:Nat) (φ:PyData→Prop):EnB:=fun B σ H=>EnvD st D l B σ H∧VP B σ H i φ
theorem ZaS {st D:Addr}{l:List (Nat × PyData)}{i:Nat}{φ:PyData→Prop}:StbE (EnvL st D l i φ):=fun _ _ _ _ ⟨h1,h2⟩ b=>⟨ZaC _ _ _ _ h1 b,h2.but b⟩
theorem Zbv {X:Cx}{st D:Addr}{l:List (Nat × PyData)}{i k:Nat}{φ:PyData→Prop}{e:Expr}{d:PyData} (h:PE X e (tVar k)) (hm:(k,d)∈l):AE X (EnvL st D l i φ) e (tE d):=ZdC h fun B σ H q=>q.1.2.2 _ hm
theorem Zfz {X:Cx}{st D:Addr}{l:List (Nat × PyData)}{i:Nat}{φ:PyData→Prop}{e:Expr} (h:PE X e (tVar i)):AE X (EnvL st D l i φ) e (tD φ):=Za9 h fun B σ H q=>q.2
theorem Zb6 {φ:PyData→Prop}{lo hi lo' hi':Nat}{d:PyData} (h:LP φ lo hi d) (h1:lo'≤lo) (h2:hi≤hi'):LP φ lo' hi' d:=let ⟨ds,e,a,b,c⟩:=h;⟨ds,e,by omega,by omega,c⟩
def BT (d:PyData):Prop:=¬ GoodD d∧Sz 100000 8 d
theorem ZeM {S:List Addr}{H:Hp}:∀ ns:List Int,RdSs S H (ns.map V.int) (ns.map PyData.int)
  | []=>.nil
  | n :: ns=>.cons (.int n) (ZeM ns)
theorem Ze7 {S:List Addr}{H:Hp}{a:Addr}{ns:List Int} (h:Row H a ns) (n:a∉S):RdS S H (.ref a) (dRow ns):=.lst h n (ZeM ns)
theorem ZeL {S:List Addr}{H:Hp}:∀ {as:List Addr}{rows:List (List Int)},as.length=rows.length→(∀ (i:Nat) a x,as[i]? = some a→rows[i]? = some x→Row H a x∧a∉S)→RdSs S H (as.map V.ref) (rows.map dRow)
  | [],[],_,_=>.nil
  | a :: as,x :: xs,hl,h=>.cons (Ze7 (h 0 a x rfl rfl).1 (h 0 a x rfl rfl).2) (ZeL (by simpa using hl) fun i b y e1 e2=>h (i+1) b y e1 e2)
  | [],_ :: _,hl,_=>by simp at hl
  | _ :: _,[],hl,_=>by simp at hl
theorem Zl4 {rows:List (List Int)} (hn:rows.length≤6) (hr:∀ x∈rows,x.length≤8∧∀ n∈x,n.natAbs<10 ^ 40):Sz 100000 8 (dTab rows):=by
  refine (ZbH (c:=400) (k:=1) (n:=6) (fun d hd=>?_) (by rw [List.length_map];exact hn)).mono (by decide) (by decide)
  obtain ⟨x,hx,rfl⟩:=List.mem_map.mp hd
  exact ZdR (hr x hx).1 (hr x hx).2
theorem Ze6 {S:List Addr}{H:Hp}:∀ {xs:List V}{ds:List PyData},RdSs S H xs ds→∀ {x:V},x∈xs→∃ d,d∈ds∧RdS S H x d
  | _,_,.cons r t,x,h=>by
    rcases List.mem_cons.mp h with z | z
    · subst z
      exact ⟨_,.head _,r⟩
    · obtain ⟨d,hd,rd⟩:=Ze6 t z
      exact ⟨d,.tail _ hd,rd⟩
  | _,_,.nil,x,h=>nomatch h
theorem ZmY {xs:List V}{k:Nat} (h:k≤xs.length):cutV xs none (some (k:Int))=xs.take k:=by
  unfold cutV
  rw [HT.sIx_none,HT.sIx_nat,List.drop_zero,Nat.sub_zero,Nat.min_eq_left h]
theorem ZmZ {xs:List V}{k:Nat}:cutV xs (some (k:Int)) none=xs.drop k:=by
  unfold cutV
  rw [HT.sIx_none,HT.sIx_nat]
  by_cases h:k≤xs.length
  · rw [Nat.min_eq_left h,List.take_of_length_le (by rw [List.length_drop];omega)]
  · rw [Nat.min_eq_right (by omega),List.drop_of_length_le (Nat.le_refl _),List.drop_of_length_le (by omega)]
    simp
theorem Zj6 {prs:Prs} (hg:tabB prs=true) (hb:Bnd prs) {r:Nat} (hr:r<prs.length) {d:PyData} (h:BL (rws prs) r d):BT (putD (rws prs) r d):=by
  have gR:=ZaL hg
  have hn:=gR.n
  rw [List.length_map] at hn
  refine ⟨h.1,(ZbH (c:=1000) (k:=4) (n:=6) (fun e he=>?_) ?_).mono (by decide) (by decide)⟩
  · have row:∀ x∈rws prs,Sz 1000 4 (dRow x):=fun x hx=>by
      obtain ⟨i,hi⟩:=List.mem_iff_getElem?.mp hx
      have hil:=(List.getElem?_eq_some_iff.mp hi).1
      have hx:x=rwD prs i:=by unfold rwD;rw [List.getD_eq_getElem?_getD,hi];rfl
      have hl:=gR.len i hil
      rw [List.length_map] at hil
      have hw:=gR.w
      rw [hx]
      exact (ZdR (by unfold rwD rws;omega) fun n hn=>Nat.lt_of_lt_of_le (ZcH hg hb hil n hn) (by decide)).mono (by decide) (by decide)
    rcases List.mem_append.mp he with z | z
    · rcases List.mem_append.mp z with z | z
      · obtain ⟨x,hx,rfl⟩:=List.mem_map.mp z
        exact row x (List.mem_of_mem_take hx)
      · rw [List.mem_singleton.mp z]
        exact h.2
    · obtain ⟨x,hx,rfl⟩:=List.mem_map.mp z
      exact row x (List.mem_of_mem_drop hx)
  · simp only [List.length_append,List.length_map,List.length_take,List.length_drop,List.length_singleton]
    omega
theorem ZiM {ds:List PyData} (h:6<ds.length):rowD (.list ds)=false:=by
  rw [ZbJ]
  have:decide (ds.length≤6)=false:=decide_eq_false (by omega)
  simp [this]
theorem ZeW {d:PyData} (h:∀ ds,d≠.list ds) (hz:(d.showable && decide (d.shown.length≤1000) && decide (d.depth≤4))=true):BT d:=⟨ZhM h,(Zbr hz).mono (by decide) (by decide)⟩
theorem Zfo {n:Nat}{x:V}:(List.replicate n [x]).flatten=List.replicate n x:=by
  induction n with
  | zero=>rfl
  | succ n ih=>rw [List.replicate_succ,List.flatten_cons,ih,List.replicate_succ];rfl
theorem ZjU {ds:List PyData} (h:1≤ds.length):cutD ds (some (-1)) none=ds.drop (ds.length - 1):=by
  unfold cutD
  have e:HT.sIx ds.length 0 (some (-1))=ds.length - 1:=by
    unfold HT.sIx
    simp
    omega
  rw [e,HT.sIx_none,List.take_of_length_le (by rw [List.length_drop];omega)]
theorem ZdQ {prs:Prs} (hg:tabB prs=true) (hb:Bnd prs):∀ x∈rws prs,Sz 400 1 (dRow x)∧1≤x.length:=by
  obtain ⟨g,g1,g2,g3,g4⟩:=ZaI hg
  intro x hx
  obtain ⟨p,hp,rfl⟩:=List.mem_map.mp hx
  exact ⟨ZdR (by rw [g.len p hp];omega) fun n hn=>Nat.lt_of_lt_of_le (hb p hp n hn) (by decide),by rw [g.len p hp];omega⟩
def tEnd (N N':L2.St→Hp→Prop) (t:TS):TS:=fun E σ H=>N σ H∧∀ σ' H',N' σ' H'→t E σ' H'
theorem ZbD {X:Cx}{S:Stmt}{ss:List Stmt}{N N1 N':L2.St→Hp→Prop}{t:TS} (h:PS X S (tTr N N1)) (h2:PSs X ss (tEnd N1 N' t)):PSs X (S :: ss) (tEnd N N' t):=fun pins s σ H D I ⟨n,q⟩=>Zac h h2 pins s σ H D I ⟨n,fun _ _ z=>⟨z,q⟩⟩
theorem Zmg {X:Cx}{ss:List Stmt}{N:L2.St→Hp→Prop}{t:TS} (h:PSs X ss t):PSs X ss (tEnd N N t):=fun pins s σ H D I ⟨n,q⟩=>h pins s σ H D I (q _ _ n)
theorem Zkf {X:Cx}{Γ:EnB}{e:Expr}{m:Int} (h:PE X e (tF ZaW (ZbL (tVar 0) (ZbL (tC (.int m)) tNil)))) (h0:0<m) (hm:m<100000) (g:∀ B σ H,Γ B σ H→∃ st D,B=abS st D∧σ[0]? = some (some (.ref st))):AE X Γ e (tD (IP fun n=>0≤n∧n<m)) :=
  ⟨Za1 h fun σ H Q ⟨B,hg,j,q⟩=>by
    obtain ⟨st,D,rfl,e0⟩:=g B σ H hg
    exact ⟨_,e0,st,m,rfl,h0,hm,j,fun v H' v0 v1 b S=>q _ H' b.butS S ⟨_,.int v,v,rfl,v0,v1⟩⟩⟩
theorem Zkj {X:Cx}{Γ:EnB}{e:Expr}{i:Int} (h:AE X Γ e (tE (.int i))):AE X Γ e (tD (IP (· = i))):=Za4 h fun d e=>⟨i,e,rfl⟩
def rc (i:Nat) (ns:List Int) (x:Int) (k:Nat):List (Nat × Nat):=((List.range k).filter fun j=>decide (ns.getD j 0=x)).map fun j=>(i,j)
def Zcb (prs:Prs) (x:Int) (n:Nat):List (Nat × Nat):=(List.range n).flatMap fun i=>rc i (ZaA prs i) x (ZaA prs i).length
theorem ZiQ (i:Nat) (ns:List Int) (x:Int) (k:Nat):rc i ns x (k+1)=rc i ns x k ++ (if ns.getD k 0=x then [(i,k)] else []):=by
  unfold rc
  rw [List.range_succ,List.filter_append,List.map_append]
  by_cases h:ns.getD k 0=x
  · rw [if_pos h,List.filter_cons,decide_eq_true h]
    rfl
  · rw [if_neg h,List.filter_cons,decide_eq_false h]
    rfl
theorem ZlA (i:Nat) (ns:List Int) (x:Int) (k:Nat):(rc i ns x k).length≤k:=by
  unfold rc
  rw [List.length_map]
  exact Nat.le_trans (List.length_filter_le _ _) (by rw [List.length_range];omega)
theorem Zgj (prs:Prs) (x:Int) (n:Nat):Zcb prs x (n+1)=Zcb prs x n ++ rc n (ZaA prs n) x (ZaA prs n).length:=by
  unfold Zcb
  rw [List.range_succ,List.flatMap_append]
  simp
theorem Zon {i j:Int}:decide (V.int i=V.int j)=decide (i=j):=by
  rw [decide_eq_decide]
  constructor
  · intro h
    injection h
  · rintro rfl
    rfl
abbrev Cs:=List (Addr × Nat × Nat)
def ZjY (c:Addr × Nat × Nat):V:=.ref c.1
def Zcq (H:Hp) (c:Addr × Nat × Nat):Prop:=H c.1=some (.tup [.int (c.2.1:Nat),.int (c.2.2:Nat)])
section
variable {P:Program}{w:World}{K:PySem.W.Frag}{mg:Str→Option Value}{base:Heap}
def ZiC:Sp:=fun vs H Q _=>∃ (t:Addr) (prs:Prs) (x:Int),vs=[.ref t,.int x]∧Tab H t prs∧tabB prs=true ∧
  ∀ L (cs:Cs) H',H L=none→Same H H'→H' L=some (.lst (cs.map ZjY))→(∀ c∈cs,Zcq H' c∧H c.1=none)→cs.map (·.2)=Zcb prs x prs.length→cs.length≤36→Q (.ref L) H'
theorem sc_cells:FnScope ["table","x","cells","row","numbers"] ["table","x"] (Zag Zgf):=⟨rfl,rfl,rfl,by decide +kernel,rfl,by decide +kernel,by decide +kernel⟩
set_option maxHeartbeats 16000000 in
theorem ZkW (T:Blt mg) (D:Zao K mg "cells_of" Zgf ["table","x"]) (G1:FnAt P w K mg base 6 "need_table" ["thing"] Zbs) (G2:FnAt P w K mg base 2 "need_number" ["thing"] ZbM):FnAt P w K mg base 7 "cells_of" ["table","x"] ZiC:=by
  refine FnAt.of D sc_cells (fun vs H Q E h=>?_) (fun f cdv A outer s H vs Q E hr h=>?_)
  · obtain ⟨t,prs,x,rfl,_⟩:=h
    rfl
  · obtain ⟨t,prs,x,rfl,hT,hg,q⟩:=h
    obtain ⟨g,g1,g2,g3,g4⟩:=ZaI hg
    have hs:=ZaN hg
    have nd:=sc_cells.nd
    have nd1:(["place","number","row","x"]:List Str).Nodup:=by decide +kernel
    refine ⟨_,Zac (Zau (pe_f G1 hr (Zaa (pv 0) Zab))) (Zac (Zau (pe_f G2 (hr.mono (by decide)) (Zaa (pv 1) Zab)))
      (Zac (Zaj (i:=2) nd rfl (Or.inl rfl) (ZaF Zab))
      (Zac (Zci PassesOwn.never rfl (Ze8 rfl T.enum (Zaa (pv 0) Zab)) (Zd8 rfl (ZaY (ZaM (i:=3) nd rfl (Or.inr rfl)) (ZaY (ZaM (i:=4) nd rfl (Or.inl rfl)) ZcL)))
        (Zaf (Zau (Zex PySem.F.plainAttrs_list PySem.F.slot_list_extend PySem.F.type_list_extend Zf8 (pv 2) (Zaa
          (ZaX ["place","number","row","x"] [none,none,some 3,some 1] (Zag Zgf) ["table","x","cells","row","numbers"] rfl (Ze8 rfl T.enum (Zaa (pv 4) Zab)) (by decide +kernel)
            (fun cl C s2 H2 ex=>Zmh K rfl nd1) (fun cl C s2 H2 ex=>Zc3 (Zat Zdj (pv 1) (pv 3) (Zax _))) (fun cl C s2 H2 ex=>Zbn (Zaa (pv 2) (Zaa (pv 0) Zab)))) Zab)))))
      (Zaf (Zan (pv 2)))))),?_⟩
    refine ⟨_,rfl,t,prs,rfl,hT,hs,hg,fun H1 s1=>⟨_,rfl,x,rfl,len0,fun L hL=>?_⟩⟩
    have L0:H L=none:=s1.free hL
    have s2:Same H (upd H1 L (.lst [])):=s1.trans (Same.new hL)
    refine ⟨_,rfl,t,rfl,⟨_,(hT.same s2).sq⟩,Zhx (K:=K) (a:=t) (xs:=prs.map fun p=>V.ref p.1) (fun i σ H2=>∃ (cs:Cs) (o3 o4:Option V),σ = [some (.ref t),some (.int x),some (.ref L),o3,o4]∧Same H H2∧H2 L=some (.lst (cs.map ZjY)) ∧
      (∀ c∈cs,Zcq H2 c∧H c.1=none)∧cs.map (·.2)=Zcb prs x i∧cs.length≤6 * i)
      ⟨[],none,none,rfl,s2,Zad,fun c hc=>(nomatch hc),rfl,by simp⟩ (fun i σ H2 _ ⟨_,_,_,_,sm,_⟩=>(hT.same sm).sq) ?_ ?_⟩
    · rintro i y σ H2 T1 hi ⟨cs,o3,o4,rfl,sm,hLl,hcs,hcm,hcl⟩ hT1
      have hil:i<prs.length:=by
        have:=(List.getElem?_eq_some_iff.mp hi).1
        rw [List.length_map] at this
        exact this
      obtain ⟨p,hp1,hp2,hp3⟩:=ZaE hil
      rw [List.getElem?_map,hp2] at hi
      have hy:V.ref p.1=y:=Option.some.inj hi
      subst hy
      have hpl:=g.len p hp1
      have smT:Same H2 (upd H2 T1 (.tup [.int (i:Nat),.ref p.1])):=Same.new hT1
      have eT:(upd H2 T1 (.tup [.int (i:Nat),.ref p.1])) T1=some (.tup [.int (i:Nat),.ref p.1]):=Zad
      generalize upd H2 T1 (.tup [.int (i:Nat),.ref p.1])=H3 at smT eT ⊢
      refine ⟨T1,_,rfl,SqT.of eT,rfl,_,_,rfl,_,_,rfl,rfl,?_⟩
      have sm3:=sm.trans smT
      have hR3:=(hT.same sm3).r p hp1
      have hL3:=smT _ _ hLl
      refine ⟨_,rfl,.inl ⟨rfl,_,SqL.of hL3⟩,_,rfl,p.1,rfl,⟨_,hR3.sq⟩,?_⟩
      refine Zgi (xs:=p.2.map V.int) (fun D2 k ys H'=>∃ qs:Cs,Same H3 H'∧H' D2=some (.lst ys)∧ys=qs.map ZjY∧(∀ c∈qs,Zcq H' c∧H3 c.1=none∧c.1≠D2)∧qs.map (·.2)=rc i p.2 x k)
        (fun D2 hD2=>⟨[],Same.new hD2,Zad,rfl,fun c hc=>(nomatch hc),rfl⟩) (fun D2 k ys H' _ _ ⟨_,sm',e,_⟩=>⟨e,(hR3.same sm').sq⟩) ?_ ?_
      · rintro D2 k z ys H' T2 hD2 hz ⟨qs,sm',eD,hys,hqs,hqm⟩ hT2
        have hkl:k<p.2.length:=by
          have:=(List.getElem?_eq_some_iff.mp hz).1
          rw [List.length_map] at this
          exact this
        have ez:z=.int (p.2.getD k 0):=by
          rw [List.getElem?_map,List.getElem?_eq_getElem hkl] at hz
          rw [List.getD_eq_getElem?_getD,List.getElem?_eq_getElem hkl]
          exact (Option.some.inj hz).symm
        subst ez
        have smT2:Same H' (upd H' T2 (.tup [.int (k:Nat),.int (p.2.getD k 0)])):=Same.new hT2
        generalize upd H' T2 (.tup [.int (k:Nat),.int (p.2.getD k 0)])=H4 at smT2 ⊢
        have ql:qs.length≤k:=by
          have:=congrArg List.length hqm
          rw [List.length_map] at this
          rw [this]
          exact ZlA _ _ _ _
        refine ⟨_,rfl,_,rfl,rfl,_,rfl,?_⟩
        rw [Zon]
        by_cases hx:p.2.getD k 0=x
        · rw [decide_eq_true hx]
          refine iteT ⟨_,rfl,_,rfl,len2,fun T3 hT3=>?_⟩
          have nT3:D2≠T3:=Zak (smT2 _ _ eD) hT3
          have s3T:Same H4 (upd H4 T3 (.tup [.int (i:Nat),.int (k:Nat)])):=Same.new hT3
          refine ⟨s3T _ _ (smT2 _ _ eD),?_,qs ++ [(T3,i,k)],((sm'.trans smT2).trans s3T).upd hD2,Zad,?_,fun c hc=>?_,?_⟩
          · rw [hys,List.length_map]
            exact ZaZ (by omega)
          · rw [hys,List.map_append]
            rfl
          · rcases List.mem_append.mp hc with z | z
            · obtain ⟨z1,z2,z3⟩:=hqs c z
              refine ⟨?_,z2,z3⟩
              unfold Zcq
              rw [Zal z3]
              exact s3T _ _ (smT2 _ _ z1)
            · have:c=(T3,i,k):=by simpa using z
              subst this
              refine ⟨?_,(sm'.trans smT2).free hT3,Ne.symm nT3⟩
              unfold Zcq
              rw [Zal (Ne.symm nT3)]
              exact Zad
          · rw [List.map_append,hqm,ZiQ,if_pos hx]
            rfl
        · rw [decide_eq_false hx]
          refine iteF ⟨qs,sm'.trans smT2,smT2 _ _ eD,hys,fun c hc=>?_,?_⟩
          · obtain ⟨z1,z2,z3⟩:=hqs c hc
            exact ⟨smT2 _ _ z1,z2,z3⟩
          · rw [hqm,ZiQ,if_neg hx,List.append_nil]
      · rintro D2 ys H' hD2 ⟨qs,sm',eD,hys,hqs,hqm⟩
        rw [List.length_map] at hqm
        have ql:qs.length≤p.2.length:=by
          have:=congrArg List.length hqm
          rw [List.length_map] at this
          rw [this]
          exact ZlA _ _ _ _
        have hL4:=sm' _ _ hL3
        refine ⟨L,D2,_,_,rfl,rfl,hL4,eD,?_,?_⟩
        · rw [List.length_map,hys,List.length_map]
          exact sl6 (by omega)
        · refine ⟨cs ++ qs,_,_,rfl,(sm3.trans sm').upd L0,?_,fun c hc=>?_,?_,?_⟩
          · rw [Zad,hys,List.map_append]
          · have nL:∀ c:Addr × Nat × Nat,Zcq H' c→c.1≠L:=fun c h=>ZnA h hL4 (by intro z;cases z)
            rcases List.mem_append.mp hc with z | z
            · obtain ⟨z1,z2⟩:=hcs c z
              have z3:Zcq H' c:=sm' _ _ (smT _ _ z1)
              refine ⟨?_,z2⟩
              unfold Zcq
              rw [Zal (nL c z3)]
              exact z3
            · obtain ⟨z1,z2,z3⟩:=hqs c z
              refine ⟨?_,sm3.free z2⟩
              unfold Zcq
              rw [Zal (nL c z1)]
              exact z1
          · rw [List.map_append,hcm,hqm,Zgj,hp3]
          · rw [List.length_append]
            omega
    · rintro σ H2 ⟨cs,o3,o4,rfl,sm,hLl,hcs,hcm,hcl⟩
      rw [List.length_map] at hcm hcl
      exact ⟨_,rfl,q L cs H2 L0 sm hLl hcs hcm (by omega)⟩
end
structure Err (K:PySem.W.Frag) (S:Addr) (cs:List Addr) (i:Nat) (C:Addr):Prop where
  k:ExcK K C
  sk:PySem.W.mroIn K C (.ref S)=some true
  kv:PySem.W.kitOne K (.ref C) (.type "ValueError")=some true
  ks:∀ j D,cs[j]? = some D→PySem.W.kitOne K (.ref C) (.ref D)=some (decide (j=i))
theorem ZfS {S:List Addr}{H:Hp}:∀ ns:List Int,RdSs S H (ns.map V.int) (ns.map PyData.int)
  | []=>.nil
  | n :: r=>.cons (.int n) (ZfS r)
theorem ZfR {H:Hp}:∀ prs:Prs,(∀ p∈prs,Row H p.1 p.2)→RdSs [] H (prs.map fun p=>V.ref p.1) ((prs.map (·.2)).map dRow)
  | [],_=>.nil
  | p :: r,h=>.cons (.lst (h p (by simp)) (by simp) (ZfS p.2)) (ZfR r fun q hq=>h q (by simp [hq]))
theorem Zip {H:Hp}{t:Addr}{prs:Prs} (hT:Tab H t prs):RdS [] H (.ref t) (dTab (prs.map (·.2))):=.lst hT.l (by simp) (ZfR prs hT.r)
section
variable {P:Program}{w:World}{K:PySem.W.Frag}{mg:Str→Option Value}{base:Heap}{c c0 c1 c2:Addr}
def ZdD (c:Addr):Sp:=fun vs H Q E=>∃ (x:V) (d:PyData),vs=[x]∧RdS [] H x d∧(GoodD d→∀ H',Same H H'→Q .non H')∧(¬ GoodD d→∀ H',Same H H'→E (.ref c) none H')
theorem Zi3 (hk:ExcK K c) (hm:mg "NoTable" = some (.ref c)) (D:Zao K mg "need_table" ZcA ["thing"]) (G:FnAt P w K mg base 5 "is_table" ["thing"] ZeC):FnAtX P w K mg base 6 "need_table" ["thing"] (ZdD c):=by
  refine FnAtX.of D Zdn (fun vs H Q E h=>?_) (fun f cdv A outer s H vs Q E hr h=>?_)
  · obtain ⟨x,d,rfl,_⟩:=h
    rfl
  · obtain ⟨x,d,rfl,rd,hq,he⟩:=h
    refine ⟨_,Zaf (ZaO (Za0 (Za3 (pe_f G hr (Zaa (pv 0) Zab)))) (Zaf (Zcu ZbG hk Zbh hm)) Zaq),?_⟩
    refine ⟨_,rfl,x,d,rfl,rd,fun b H1 hb s1=>⟨_,rfl,?_⟩⟩
    cases b with
    | false=>exact iteT (he (fun g=>by have:=hb.mpr g;cases this) H1 s1)
    | true=>exact iteF (hq (hb.mp rfl) H1 s1)
def Ze2 (c:Addr):Sp:=fun vs H Q E=>∃ (x:V) (d:PyData),vs=[x]∧RdS [] H x d∧(ZaG d=true→Q .non H)∧(ZaG d=false→E (.ref c) none H)
theorem Zi5 (hk:ExcK K c) (hm:mg "NoNumber" = some (.ref c)) (D:Zao K mg "need_number" Zca ["thing"]) (G:FnAt P w K mg base 1 "is_whole" ["thing"] ZbY):FnAtX P w K mg base 2 "need_number" ["thing"] (Ze2 c):=by
  refine FnAtX.of D Zc1 (fun vs H Q E h=>?_) (fun f cdv A outer s H vs Q E hr h=>?_)
  · obtain ⟨x,d,rfl,_⟩:=h
    rfl
  · obtain ⟨x,d,rfl,rd,hq,he⟩:=h
    refine ⟨_,Zaf (ZaO (Za0 (Za3 (pe_f G hr (Zaa (pv 0) Zab)))) (Zaf (Zcu ZbG hk Zbh hm)) Zaq),?_⟩
    refine ⟨_,rfl,x,d,rfl,rd,_,rfl,?_⟩
    cases e:ZaG d with
    | false=>exact iteT (he e)
    | true=>exact iteF (hq e)
end
def ZbT (r p:Nat):PyData→Bool
  | .tuple [.int a,.int b]=>(decide (0≤a) && decide (a<(r:Int))) && (decide (0≤b) && decide (b<(p:Int)))
  | _=>false
theorem ZjZ {r p:Nat}{i j:Int} (h:(0≤i∧i<r)∧0≤j∧j<p):ZbT r p (.tuple [.int i,.int j])=true:=by
  obtain ⟨⟨h1,h2⟩,h3,h4⟩:=h
  simp [ZbT,h1,h2,h3,h4]
theorem ZcC {r p:Nat}{i j:Int} (h:¬ ((0≤i∧i<r)∧0≤j∧j<p)):ZbT r p (.tuple [.int i,.int j])=false:=by
  cases e:ZbT r p (.tuple [.int i,.int j]) with
  | false=>rfl
  | true =>
    simp only [ZbT,Bool.and_eq_true,decide_eq_true_eq] at e
    exact absurd e h
section
variable {P:Program}{w:World}{K:PySem.W.Frag}{mg:Str→Option Value}{base:Heap}{c c0 c1 c2:Addr}
def Zdm:Sp:=fun vs H Q _=>∃ (a:Addr) (xs:List V) (ds:List PyData),vs=[.ref a]∧H a=some (.tup xs)∧RdSs [] H xs ds∧ds.length≤1000∧∀ H',Same H H'→Q (.bl (ds.all ZaG)) H'
theorem Zfb (T:Blt mg) (D:Zao K mg "all_whole" Za7 ["things"]) (G1:FnAt P w K mg base 1 "is_whole" ["thing"] ZbY):FnAt P w K mg base 2 "all_whole" ["things"] Zdm:=by
  refine FnAt.of D ZbI (fun vs H Q E h=>?_) (fun f cdv A outer s H vs Q E hr h=>?_)
  · obtain ⟨a,xs,ds,rfl,_⟩:=h
    rfl
  · obtain ⟨a,xs,ds,rfl,hl,rs,hn,q⟩:=h
    obtain ⟨ms,e1,e2,hm⟩:=rs.pairs
    subst e1 e2
    rw [List.length_map] at hn
    have nd1:(["thing"]:List Str).Nodup:=by decide +kernel
    refine ⟨_,Zaf (Zan (pe_b (Zbd rfl) T.all boot_all (Zaa (ZaX ["thing"] [none] (Zag Za7) ["things"] rfl (Zhp (pv 0)) (by decide +kernel)
      (fun cl C s2 H2 ex=>pg_c 0 nd1) (fun cl C s2 H2 ex=>ZaK) (fun cl C s2 H2 ex=>pe_f G1 hr (Zaa (pv 0) Zab))) Zab))),?_⟩
    refine ⟨_,rfl,a,rfl,⟨_,SqT.of hl⟩,Zfu (fun m:V × PyData=>m.1) (fun m=>.bl (ZaG m.2)) (SqT.of hl) (sl6 hn) (fun m hx H' Q' sm q'=>?_) fun D H' hD sm hDl=>?_⟩
    · exact ⟨_,rfl,m.1,m.2,rfl,(hm m hx).same sm,q' _ (Same.refl _)⟩
    · refine ⟨D,ms.map fun m=>ZaG m.2,rfl,SqL.of (by rw [hDl,Zds]),?_⟩
      have q1:=q H' sm
      rw [List.all_map] at q1 ⊢
      exact q1
def ZfL:Sp:=fun vs H Q _=>∃ (x:V) (d:PyData) (r p:Nat),vs=[.int (r:Nat),.int (p:Nat),x]∧RdS [] H x d∧Sz 1000000 60 d∧∀ H',Same H H'→Q (.bl (ZbT r p d)) H'
theorem Zh6 (T:Blt mg) (htup:mg "tuple" = none) (D:Zao K mg "is_cell_of_size" Zeo ["rows","places","thing"]) (G:FnAt P w K mg base 2 "all_whole" ["things"] Zdm):FnAt P w K mg base 3 "is_cell_of_size" ["rows","places","thing"] ZfL:=by
  refine FnAt.of D Zd3 (fun vs H Q E h=>?_) (fun f cdv A outer s H vs Q E hr h=>?_)
  · obtain ⟨x,d,r,p,rfl,_⟩:=h
    rfl
  · obtain ⟨x,d,r,p,rfl,rd,sz,q⟩:=h
    refine ⟨_,Zac (ZaO (PW.pt (ZcF (Za0 (Za3 (pe_b ZaU T.isinst boot_isinstance (Zaa (pv 2) (Zaa (Zdy htup boot_tuple) Zab))))) (ZcF (Zat Zf1 (pe_b Zah T.len boot_len (Zaa (pv 2) Zab)) Zae (Zax _)) (Zb1 (Za0 (Za3 (pe_f G hr (Zaa (pv 2) Zab)))))))) (Zaf (Zan Zce)) Zaq)
      (Zaf (Zan (Zb2 (ZbN o_le o_lt Zae (Zav Zbz (pv 2) Zae (fun _ _=>rfl)) (pv 0))
        (Zcj (ZbN o_le o_lt Zae (Zav Zbz (pv 2) Zae (fun _ _=>rfl)) (pv 1)))))),?_⟩
    refine ⟨_,rfl,_,_,_,_,rfl,rd.ty,Zjv _ d,_,rfl,?_⟩
    cases rd with
    | @tup a xs ds e n ra =>
      have hlen:=ra.length
      refine iteF ⟨_,rfl,a,_,rfl,.inr (SqT.of e),rfl,_,rfl,?_⟩
      by_cases h2:ds.length=2
      · rw [hlen,h2]
        refine iteF ⟨_,rfl,a,xs,ds,rfl,e,ra,by omega,fun H1 s1=>⟨_,rfl,?_⟩⟩
        match ds,h2,ra,q with
        | [d1,d2],_,.cons (x:=x1) r1 (.cons (x:=x2) r2 .nil),q =>
          cases e1:([d1,d2].all ZaG) with
          | false =>
            have ec:ZbT r p (.tuple [d1,d2])=false:=by
              cases d1 <;> cases d2 <;> first | rfl | (simp [ZaG] at e1)
            have q1:=q H1 s1
            rw [ec] at q1
            exact iteT q1
          | true =>
            have e1':ZaG d1=true∧ZaG d2=true:=by simpa using e1
            cases r1 with
            | int i =>
              cases r2 with
              | int j =>
                refine iteF ?_
                have hC1:H1 a=some (.tup [.int i,.int j]):=s1 _ _ e
                refine ⟨_,rfl,a,_,0,.int i,rfl,rfl,SqT.of hC1,rfl,_,_,rfl,rfl,_,rfl,?_⟩
                refine ite2 (fun k1=>?_) (fun k1=>⟨_,rfl,iteF ?_⟩)
                · refine ⟨_,rfl,_,_,rfl,rfl,_,rfl,?_⟩
                  refine ite2 (fun k2=>?_) (fun k2=>?_)
                  · refine ⟨_,rfl,a,_,1,.int j,rfl,rfl,SqT.of hC1,rfl,_,_,rfl,rfl,_,rfl,?_⟩
                    refine ite2 (fun k3=>?_) (fun k3=>?_)
                    · refine ⟨_,rfl,_,_,rfl,rfl,?_⟩
                      have k1:=of_decide_eq_true k1
                      have k2:=of_decide_eq_true k2
                      have k3:=of_decide_eq_true k3
                      have q1:=q H1 s1
                      by_cases k4:j<(p:Nat)
                      · rw [decide_eq_true k4]
                        rw [ZjZ ⟨⟨k1,k2⟩,k3,k4⟩] at q1
                        exact q1
                      · rw [decide_eq_false k4]
                        rw [ZcC fun z=>k4 z.2.2] at q1
                        exact q1
                    · have q1:=q H1 s1
                      rw [ZcC fun z=>k3 (decide_eq_true z.2.1)] at q1
                      exact q1
                  · have q1:=q H1 s1
                    rw [ZcC fun z=>k2 (decide_eq_true z.1.2)] at q1
                    exact q1
                · have q1:=q H1 s1
                  rw [ZcC fun z=>k1 (decide_eq_true z.1.1)] at q1
                  exact q1
              | _=>exact absurd e1'.2 (by simp [ZaG])
            | _=>exact absurd e1'.1 (by simp [ZaG])
      · have ed:(!decide (V.int (xs.length:Nat)=V.int 2))=true:=by
          rw [decide_eq_false (by intro z;injection z with z;omega)]
          rfl
        rw [ed]
        have ec:ZbT r p (.tuple ds)=false:=by
          unfold ZbT
          split
          · next z =>
            injection z with z
            subst z
            exact absurd rfl h2
          · rfl
        have q1:=q H (Same.refl _)
        rw [ec] at q1
        exact iteT q1
    | _=>exact iteT (q H (Same.refl _))
def ZfI:Sp:=fun vs H Q _=>∃ (t:Addr) (prs:Prs) (x:V) (d:PyData),vs=[.ref t,x]∧Tab H t prs∧tabB prs=true∧RdS [] H x d∧Sz 1000000 60 d∧∀ H',Same H H'→Q (.bl (ZbT prs.length (w0 prs) d)) H'
theorem Zh3 (T:Blt mg) (D:Zao K mg "is_cell" Zen ["table","thing"]) (G:FnAt P w K mg base 3 "is_cell_of_size" ["rows","places","thing"] ZfL):FnAt P w K mg base 4 "is_cell" ["table","thing"] ZfI:=by
  refine FnAt.of D Zd2 (fun vs H Q E h=>?_) (fun f cdv A outer s H vs Q E hr h=>?_)
  · obtain ⟨t,prs,x,d,rfl,_⟩:=h
    rfl
  · obtain ⟨t,prs,x,d,rfl,hT,hg,rd,sz,q⟩:=h
    obtain ⟨g,g1,g2,g3,g4⟩:=ZaI hg
    obtain ⟨p0,hp0,hm0,hx0⟩:=Zbe (prs:=prs) g1
    refine ⟨_,Zaf (Zan (pe_f G hr (Zaa (pe_b Zah T.len boot_len (Zaa (pv 0) Zab)) (Zaa (pe_b Zah T.len boot_len (Zaa (Zav Zam (pv 0) Zae (fun _ _=>rfl)) Zab)) (Zaa (pv 1) Zab))))),?_⟩
    exact ⟨_,rfl,t,_,rfl,.inl hT.sq,_,rfl,t,_,0,.ref p0.1,rfl,rfl,hT.sq,ZaB (j:=0) (by rw [List.getElem?_map,hx0];rfl),p0.1,_,rfl,.inl (hT.r p0 hm0).sq,_,rfl,x,d,prs.length,w0 prs,by rw [List.length_map,List.length_map,g.len p0 hm0],rd,sz,q⟩
def ZcX (c:Addr):Sp:=fun vs H Q E=>∃ (t:Addr) (prs:Prs) (x:V) (d:PyData),vs=[.ref t,x]∧Tab H t prs∧tabB prs=true∧RdS [] H x d∧Sz 1000000 60 d∧ZbT prs.length (w0 prs) d=false∧∀ H',Same H H'→E (.ref c) none H'
theorem Zi6 (hk:ExcK K c) (hm:mg "NoCell" = some (.ref c)) (D:Zao K mg "need_cell" Zc8 ["table","thing"]) (G:FnAt P w K mg base 4 "is_cell" ["table","thing"] ZfI):FnAtX P w K mg base 5 "need_cell" ["table","thing"] (ZcX c):=by
  refine FnAtX.of D Zd1 (fun vs H Q E h=>?_) (fun f cdv A outer s H vs Q E hr h=>?_)
  · obtain ⟨t,prs,x,d,rfl,_⟩:=h
    rfl
  · obtain ⟨t,prs,x,d,rfl,hT,hg,rd,sz,hc,q⟩:=h
    refine ⟨_,Zaf (ZaO (Za0 (Za3 (pe_f G hr (Zaa (pv 0) (Zaa (pv 1) Zab))))) (Zaf (Zcu ZbG hk Zbh hm)) Zaq),?_⟩
    refine ⟨_,rfl,_,rfl,t,prs,x,d,rfl,hT,hg,rd,sz,fun H1 s1=>⟨_,rfl,?_⟩⟩
    rw [hc]
    exact iteT (q H1 s1)
def Zlx (c0 c2:Addr):Sp:=fun vs H Q E=>∃ (x y:V),vs=[x,y]∧((∃ d,RdS [] H x d∧¬ GoodD d∧∀ H',Same H H'→E (.ref c0) none H') ∨
  ∃ (t:Addr) (prs:Prs) (e:PyData),x=.ref t∧Tab H t prs∧tabB prs=true∧RdS [] H y e∧ZaG e=false∧∀ H',Same H H'→E (.ref c2) none H')
theorem ZmA (D:Zao K mg "cells_of" Zgf ["table","x"]) (G1:FnAtX P w K mg base 6 "need_table" ["thing"] (ZdD c0)) (G2:FnAtX P w K mg base 2 "need_number" ["thing"] (Ze2 c2)):FnAtX P w K mg base 7 "cells_of" ["table","x"] (Zlx c0 c2):=by
  refine FnAtX.of D sc_cells (fun vs H Q E h=>?_) (fun f cdv A outer s H vs Q E hr h=>?_)
  · obtain ⟨x,y,rfl,_⟩:=h
    rfl
  · obtain ⟨x,y,rfl,h⟩:=h
    refine ⟨_,Zac (Zau (Zdz G1 hr Za6 (Zaa (pv 0) Zab))) (Zac (Zau (Zdz G2 (hr.mono (by decide)) Za6 (Zaa (pv 1) Zab))) ZaT),?_⟩
    rcases h with ⟨d,rd,hn,he⟩ | ⟨t,prs,e,rfl,hT,hg,re,hc,he⟩
    · exact ⟨_,rfl,x,d,rfl,rd,fun g=>absurd g hn,fun _=>he⟩
    · exact ⟨_,rfl,_,_,rfl,Zip hT,fun _ H1 s1=>⟨_,rfl,y,e,rfl,re.same s1,(fun z=>by rw [hc] at z;cases z),fun _=>he H1 s1⟩,fun z=>absurd (goodD_tab.mpr hg) z⟩
end
end Seek
namespace L2
open PySem PySem.Spec PyProof.Rows
theorem Zeq:bootBuiltins "ValueError" = some (.type "ValueError"):=by kernel_rfl
section
variable {X:Cx}
theorem ZaH (K:PySem.W.Frag) (hK:X.K=K:=by rfl):Zb4 X (.builtin "isinstance") (fun xs H Q=>∃ e C D b,xs=[.ref e,.ref D]∧H e=some (excO e C)∧ExcK K C∧PySem.W.kitOne K (.ref C) (.ref D)=some b∧Q (.bl b) H):=by
  subst hK
  intro pins s σ H xs us Q I rv h
  obtain ⟨e,C,D,b,rfl,he,kC,hk,q⟩:=h
  obtain ⟨u,v,rfl,r1,r2⟩:=rv.two
  obtain rfl:u=.ref e:=r1
  obtain rfl:v=.ref D:=r2
  exact PySem.W.kia_one (Zht kC) I.kIn (ZjK I he) hk (fun z=>nomatch z) fun tk=>⟨.bl b,H,I.tok tk,rfl,q⟩
theorem Zfw (K:PySem.W.Frag) (hK:X.K=K:=by rfl):Zb4 X (.builtin "isinstance") (fun xs H Q=>∃ e C T b,xs=[.ref e,.ty T]∧H e=some (excO e C)∧ExcK K C∧PySem.W.kitOne K (.ref C) (.type T)=some b∧Q (.bl b) H):=by
  subst hK
  intro pins s σ H xs us Q I rv h
  obtain ⟨e,C,T,b,rfl,he,kC,hk,q⟩:=h
  obtain ⟨u,v,rfl,r1,r2⟩:=rv.two
  obtain rfl:u=.ref e:=r1
  obtain rfl:v=.type T:=r2
  exact PySem.W.kia_one (Zht kC) I.kIn (ZjK I he) hk (fun z=>nomatch z) fun tk=>⟨.bl b,H,I.tok tk,rfl,q⟩
end
theorem Zlh {K:PySem.W.Frag}{a c:Addr}{xs zs:List V}{σ0:St}{H1:Hp}{tc:TT}{te:TE}{Q:VK} (p:Nat→Bool) (f:Nat→V) (hq:SqL K H1 a xs) (hq2:SqL K H1 c zs) (hlen:xs.length=zs.length) (hn:xs.length≤1000)
    (hc:∀ i x z,xs[i]? = some x→zs[i]? = some z→∀ H' (Q':Bool→Hp→Prop),Same H1 H'→Q' (p i) H'→tc ((σ0.set 0 (some x)).set 1 (some z)) H' Q')
    (he:∀ i x z,xs[i]? = some x→zs[i]? = some z→∀ H' (Q':VK),Same H1 H'→Q' (f i) H'→te ((σ0.set 0 (some x)).set 1 (some z)) H' Q')
    (fin:∀ D H',H1 D=none→Same H1 H'→H' D=some (.lst (((List.range xs.length).filter p).map f))→Q (.ref D) H') :
    Zbw (Itz K a c) (gTup K 2 (Zeg (ZaP 0) (Zeg (ZaP 1) gNil))) tc te σ0 H1 Q:=by
  intro D hD
  refine ⟨fun i m ys σ' H'=>m=xs.length - i∧i≤xs.length∧(∀ u v,(σ'.set 0 u).set 1 v=(σ0.set 0 u).set 1 v)∧Same H1 H'∧H' D=some (.lst ys)∧ys=((List.range i).filter p).map f,⟨xs.length,by simp,Nat.zero_le _,fun _ _=>rfl,Same.new hD,Zad,by simp⟩,?_⟩
  rintro i m ys σ' H' ⟨rfl,hi,es,sm,hDl,hys⟩
  refine ⟨hDl,?_⟩
  have q:=sm.seq hq
  have q2:=sm.seq hq2
  by_cases hlt:i<xs.length
  · refine .inr ⟨⟨_,_,xs[i],zs[i]'(by omega),q,q2,by simp [hlt],by simp⟩,fun x H2 y=>?_⟩
    obtain ⟨T,z,z2,rfl,hT,rfl,y,y2⟩:=y
    have y:=y _ q
    have y2:=y2 _ q2
    have smT:Same H' (upd H' T (.tup [z,z2])):=Same.new hT
    refine ⟨T,_,rfl,SqT.of Zad,rfl,_,_,rfl,_,_,rfl,rfl,?_⟩
    rw [es]
    refine hc i _ _ y y2 _ _ (sm.trans smT) ?_
    cases hp:p i with
    | true =>
      refine iteT (he i _ _ y y2 _ _ (sm.trans smT) ⟨smT _ _ hDl,?_,xs.length - (i+1),by omega,rfl,hlt,fun _ _=>set2,(sm.trans smT).upd hD,Zad,?_⟩)
      · rw [hys,List.length_map]
        have:=List.length_filter_le p (List.range i)
        rw [List.length_range] at this
        exact ZaZ (by omega)
      · rw [List.range_succ,List.filter_append,List.map_append,← hys]
        simp [hp]
    | false =>
      refine iteF ⟨xs.length - (i+1),by omega,rfl,hlt,fun _ _=>set2,sm.trans smT,smT _ _ hDl,?_⟩
      rw [List.range_succ,List.filter_append,List.map_append,← hys]
      simp [hp]
  · have e:i=xs.length:=by omega
    subst e
    exact .inl ⟨⟨_,_,q,q2,.inl (Nat.le_refl _)⟩,fin D H' hD sm (by rw [hDl,hys])⟩
end L2
namespace Seek
open PySem L2 PyProof.Rows
structure Nms (mg:Str→Option Value) (S:Addr) (cs:List Addr):Prop where
  len:cs.length=12
  seek:mg "SeekError" = some (.ref S)
  n0:mg "NoTable" = some (.ref (cs.getD 0 0))
  n1:mg "NoCell" = some (.ref (cs.getD 1 0))
  n2:mg "NoNumber" = some (.ref (cs.getD 2 0))
  n3:mg "NoSize" = some (.ref (cs.getD 3 0))
  n4:mg "NoStair" = some (.ref (cs.getD 4 0))
  n5:mg "NoLook" = some (.ref (cs.getD 5 0))
  n6:mg "NoPlace" = some (.ref (cs.getD 6 0))
  n7:mg "NoFit" = some (.ref (cs.getD 7 0))
  n8:mg "NoChange" = some (.ref (cs.getD 8 0))
  n9:mg "NoText" = some (.ref (cs.getD 9 0))
  n10:mg "NoName" = some (.ref (cs.getD 10 0))
  n11:mg "NoRow" = some (.ref (cs.getD 11 0))
theorem Err.kit {K:PySem.W.Frag}{S:Addr}{cs:List Addr}{i:Nat}{C:Addr} (h:Err K S cs i C) (hl:cs.length=12) (j:Nat) (hj:j<12):PySem.W.kitOne K (.ref C) (.ref (cs.getD j 0))=some (decide (j=i)) :=
  h.ks j _ (by rw [List.getD_eq_getElem?_getD,List.getElem?_eq_getElem (by omega)];rfl)
def abT:Ab:=⟨[],fun _=>True,fun _ _=>trivial,fun _ _=>by simp⟩
def wdL:List Str:=["table","cell","number","size","stair","look","place","fit","change","text","name","row"]
theorem ZfQ {S:List Addr}{H:Hp}:∀ {xs:List V}{ws:List Str},RdSs S H xs (ws.map PyData.str)→xs=ws.map V.str
  | _,[],.nil=>rfl
  | _,_ :: _,.cons r t=>by
    cases r
    rw [List.map_cons,ZfQ t]
theorem Zk9 (a b:Str):PyData.eqv (.list [.str a]) (.list [.str b])=decide (a=b):=by
  by_cases h:a=b <;> simp [PyData.eqv,PyData.eqvAll,h]
section
variable {P:Program}{w:World}{K:PySem.W.Frag}{mg:Str→Option Value}{base:Heap}{S:Addr}{cs:List Addr}
def Ziy (K:PySem.W.Frag) (S:Addr) (cs:List Addr):Sp:=fun vs H Q _=>∃ (e C:Addr) (i:Nat) (wd:Str),vs=[.ref e,.str wd]∧H e=some (excO e C)∧Err K S cs i C∧i<12∧SeqAt.shaped (.list [.str wd])=true∧∀ H',Same H H'→Q (.bl (decide (wdL.getD i "" = wd))) H'
abbrev kdN:List Str:=["e","due","kinds","words","found"]
theorem sc_kind:FnScope kdN ["e","due"] (Zag Zcf):=⟨rfl,rfl,rfl,by decide +kernel,rfl,by decide +kernel,by decide +kernel⟩
def kb (i m:Nat):List Bool:=(List.range m).map fun c=>decide (c=i)
theorem Zoi {i m j:Nat} (h:j<m):((kb i m).map V.bl)[j]? = some (.bl (decide (j=i))):=by
  unfold kb
  rw [List.map_map,List.getElem?_map,List.getElem?_range h]
  rfl
theorem Zm8 {i:Nat} (h:i<12):((List.range 12).filter fun j=>decide (j=i)).map (fun j=>V.str (wdL.getD j ""))=[V.str (wdL.getD i "")]:=by
  have:(List.range 12).filter (fun j=>decide (j=i))=[i]:=by
    have:∀ i:Fin 12,(List.range 12).filter (fun j=>decide (j=i.1))=[i.1]:=by decide
    exact this ⟨i,h⟩
  rw [this]
  rfl
theorem Zn1 {i:Nat} (h:i<12):SeqAt.shaped (.list [.str (wdL.getD i "")])=true:=by
  have:∀ i:Fin 12,SeqAt.shaped (.list [.str (wdL.getD i.1 "")])=true:=by decide +kernel
  exact this ⟨i,h⟩
set_option maxHeartbeats 16000000 in
theorem Zmu (T:Blt mg) (hzip:mg "zip" = none) (hve:mg "ValueError" = none) (N:Nms mg S cs) (Df:Zao K mg "_law_kind" Zcf ["e","due"]):FnAt P w K mg base 1 "_law_kind" ["e","due"] (Ziy K S cs):=by
  refine FnAt.of Df sc_kind (fun vs H Q E h=>?_) (fun f cdv A outer s H vs Q E hr h=>?_)
  · obtain ⟨e,C,i,wd,rfl,_⟩:=h
    rfl
  · obtain ⟨e,C,i,wd,rfl,he,er,hi,hw,q⟩:=h
    have nd:=sc_kind.nd
    have nd1:(["word","kind"]:List Str).Nodup:=by decide +kernel
    let X:Cx:=(cxOf CX0 P w K mg base kdN "_law_kind" (Zag Zcf) f cdv A outer s H E).nox
    have A0:PS X ((Zar Zcf).getD 0 (.Pass ⟨0,0,0,0⟩)) _:=Zaj (i:=2) nd rfl (Or.inl rfl) (ZaF (Zaa (pe_b (ZaH K) T.isinst boot_isinstance (Zaa (pv 0) (Zaa (Zbc (v:=.ref _) rfl N.n0 rfl) Zab))) (Zaa (pe_b (ZaH K) T.isinst boot_isinstance (Zaa (pv 0) (Zaa (Zbc (v:=.ref _) rfl N.n1 rfl) Zab))) (Zaa (pe_b (ZaH K) T.isinst boot_isinstance (Zaa (pv 0) (Zaa (Zbc (v:=.ref _) rfl N.n2 rfl) Zab))) (Zaa (pe_b (ZaH K) T.isinst boot_isinstance (Zaa (pv 0) (Zaa (Zbc (v:=.ref _) rfl N.n3 rfl) Zab))) Zab)))))
    have A1:PS X ((Zar Zcf).getD 1 (.Pass ⟨0,0,0,0⟩)) _:=Zaj (i:=2) nd rfl (Or.inl rfl) (Zas ZbK (pv 2) (ZaF (Zaa (pe_b (ZaH K) T.isinst boot_isinstance (Zaa (pv 0) (Zaa (Zbc (v:=.ref _) rfl N.n4 rfl) Zab))) (Zaa (pe_b (ZaH K) T.isinst boot_isinstance (Zaa (pv 0) (Zaa (Zbc (v:=.ref _) rfl N.n5 rfl) Zab))) (Zaa (pe_b (ZaH K) T.isinst boot_isinstance (Zaa (pv 0) (Zaa (Zbc (v:=.ref _) rfl N.n6 rfl) Zab))) (Zaa (pe_b (ZaH K) T.isinst boot_isinstance (Zaa (pv 0) (Zaa (Zbc (v:=.ref _) rfl N.n7 rfl) Zab))) Zab))))))
    have A2:PS X ((Zar Zcf).getD 2 (.Pass ⟨0,0,0,0⟩)) _:=Zaj (i:=2) nd rfl (Or.inl rfl) (Zas ZbK (pv 2) (ZaF (Zaa (pe_b (ZaH K) T.isinst boot_isinstance (Zaa (pv 0) (Zaa (Zbc (v:=.ref _) rfl N.n8 rfl) Zab))) (Zaa (pe_b (ZaH K) T.isinst boot_isinstance (Zaa (pv 0) (Zaa (Zbc (v:=.ref _) rfl N.n9 rfl) Zab))) (Zaa (pe_b (ZaH K) T.isinst boot_isinstance (Zaa (pv 0) (Zaa (Zbc (v:=.ref _) rfl N.n10 rfl) Zab))) (Zaa (pe_b (ZaH K) T.isinst boot_isinstance (Zaa (pv 0) (Zaa (Zbc (v:=.ref _) rfl N.n11 rfl) Zab))) Zab))))))
    have L3:=fun (es:List Expr) (p1 p2 p3:Pos)=>ZgE (X:=X) (C:=fun d=>Zfg 40 (.List es p1)=some d) fun d h=>Zaj (X:=X) (pos:=p2) (pos':=p3) (i:=3) nd rfl (Or.inl rfl) (Zay (φ:=(· = d)) (Γ:=fun B _ _=>B=abT) d (fun _ _ _ _ h _=>h) h rfl).pe
    have A3:PS X ((Zar Zcf).getD 3 (.Pass ⟨0,0,0,0⟩)) _:=L3 _ _ _ _
    have A4:PS X ((Zar Zcf).getD 4 (.Pass ⟨0,0,0,0⟩)) _:=Zd6 ["word","kind"] [none,none] (Zag Zcf) kdN (i:=4) nd rfl (Or.inl rfl) rfl (Znl rfl hzip (Zaa (pv 3) (Zaa (pv 2) Zab))) (by decide +kernel) (fun cl C s2 H2 ex=>Zod K rfl nd1) (fun cl C s2 H2 ex=>Zc3 (Za3 (pv 1))) (fun cl C s2 H2 ex=>pv 0)
    have A5:PS X ((Zar Zcf).getD 5 (.Pass ⟨0,0,0,0⟩)) _:=Zan (Zb2 (pe_b (Zfw K) T.isinst boot_isinstance (Zaa (pv 0) (Zaa (Zdy hve Zeq) Zab))) (Zcj (Zdi (ZlG hr.units) (pv 4) (ZaF (Zaa (pv 1) Zab)) (Zax _))))
    obtain ⟨B0,e0⟩:∃ S,S=(Zar Zcf).getD 0 (.Pass ⟨0,0,0,0⟩):=⟨_,rfl⟩
    rw [← e0] at A0
    obtain ⟨B1,e1⟩:∃ S,S=(Zar Zcf).getD 1 (.Pass ⟨0,0,0,0⟩):=⟨_,rfl⟩
    rw [← e1] at A1
    obtain ⟨B2,e2⟩:∃ S,S=(Zar Zcf).getD 2 (.Pass ⟨0,0,0,0⟩):=⟨_,rfl⟩
    rw [← e2] at A2
    obtain ⟨B3,e3⟩:∃ S,S=(Zar Zcf).getD 3 (.Pass ⟨0,0,0,0⟩):=⟨_,rfl⟩
    rw [← e3] at A3
    obtain ⟨B4,e4⟩:∃ S,S=(Zar Zcf).getD 4 (.Pass ⟨0,0,0,0⟩):=⟨_,rfl⟩
    rw [← e4] at A4
    obtain ⟨B5,e5⟩:∃ S,S=(Zar Zcf).getD 5 (.Pass ⟨0,0,0,0⟩):=⟨_,rfl⟩
    rw [← e5] at A5
    have hbd:Zar Zcf=[B0,B1,B2,B3,B4,B5]:=by
      rw [e0,e1,e2,e3,e4,e5]
      kernel_rfl
    rw [hbd]
    clear hbd e0 e1 e2 e3 e4 e5 L3
    have kk:=er.kit N.len
    refine ⟨_,Zac A0 (Zac A1 (Zac A2 (Zac A3 (Zac A4 (Zaf A5))))),?_⟩
    refine ⟨_,rfl,e,C,_,_,rfl,he,er.k,kk 0 (by decide),_,rfl,e,C,_,_,rfl,he,er.k,kk 1 (by decide),_,rfl,e,C,_,_,rfl,he,er.k,kk 2 (by decide),_,rfl,e,C,_,_,rfl,he,er.k,kk 3 (by decide),len4,fun l1 h1=>?_⟩
    have s1:=Same.new (o:=.lst [.bl (decide (0=i)),.bl (decide (1=i)),.bl (decide (2=i)),.bl (decide (3=i))]) h1
    have e1:(upd H l1 (.lst [.bl (decide (0=i)),.bl (decide (1=i)),.bl (decide (2=i)),.bl (decide (3=i))])) l1=some (.lst ((kb i 4).map V.bl)):=Zad
    generalize upd H l1 (.lst [.bl (decide (0=i)),.bl (decide (1=i)),.bl (decide (2=i)),.bl (decide (3=i))])=H1 at s1 e1 ⊢
    have he1:=s1 _ _ he
    refine ⟨_,rfl,_,rfl,e,C,_,_,rfl,he1,er.k,kk 4 (by decide),_,rfl,e,C,_,_,rfl,he1,er.k,kk 5 (by decide),_,rfl,e,C,_,_,rfl,he1,er.k,kk 6 (by decide),_,rfl,e,C,_,_,rfl,he1,er.k,kk 7 (by decide),len4,fun l2 h2=>⟨l1,l2,_,_,rfl,rfl,Same.new h2 _ _ e1,Zad,(show 8≤sizeLine by decide),fun l3 h3=>?_⟩⟩
    have s3:=s1.trans ((Same.new (o:=.lst [.bl (decide (4=i)),.bl (decide (5=i)),.bl (decide (6=i)),.bl (decide (7=i))]) h2).trans (Same.new (o:=.lst ((kb i 4).map V.bl ++ [.bl (decide (4=i)),.bl (decide (5=i)),.bl (decide (6=i)),.bl (decide (7=i))])) h3))
    have e3:(upd (upd H1 l2 (.lst [.bl (decide (4=i)),.bl (decide (5=i)),.bl (decide (6=i)),.bl (decide (7=i))])) l3 (.lst ((kb i 4).map V.bl ++ [.bl (decide (4=i)),.bl (decide (5=i)),.bl (decide (6=i)),.bl (decide (7=i))]))) l3=some (.lst ((kb i 8).map V.bl)):=Zad
    generalize upd (upd H1 l2 (.lst [.bl (decide (4=i)),.bl (decide (5=i)),.bl (decide (6=i)),.bl (decide (7=i))])) l3 (.lst ((kb i 4).map V.bl ++ [.bl (decide (4=i)),.bl (decide (5=i)),.bl (decide (6=i)),.bl (decide (7=i))]))=H3 at s3 e3 ⊢
    have he3:=s3 _ _ he
    refine ⟨_,rfl,_,rfl,e,C,_,_,rfl,he3,er.k,kk 8 (by decide),_,rfl,e,C,_,_,rfl,he3,er.k,kk 9 (by decide),_,rfl,e,C,_,_,rfl,he3,er.k,kk 10 (by decide),_,rfl,e,C,_,_,rfl,he3,er.k,kk 11 (by decide),len4,fun l4 h4=>⟨l3,l4,_,_,rfl,rfl,Same.new h4 _ _ e3,Zad,(show 12≤sizeLine by decide),fun l5 h5=>?_⟩⟩
    have s5:=s3.trans ((Same.new (o:=.lst [.bl (decide (8=i)),.bl (decide (9=i)),.bl (decide (10=i)),.bl (decide (11=i))]) h4).trans (Same.new (o:=.lst ((kb i 8).map V.bl ++ [.bl (decide (8=i)),.bl (decide (9=i)),.bl (decide (10=i)),.bl (decide (11=i))])) h5))
    have e5:(upd (upd H3 l4 (.lst [.bl (decide (8=i)),.bl (decide (9=i)),.bl (decide (10=i)),.bl (decide (11=i))])) l5 (.lst ((kb i 8).map V.bl ++ [.bl (decide (8=i)),.bl (decide (9=i)),.bl (decide (10=i)),.bl (decide (11=i))]))) l5=some (.lst ((kb i 12).map V.bl)):=Zad
    generalize upd (upd H3 l4 (.lst [.bl (decide (8=i)),.bl (decide (9=i)),.bl (decide (10=i)),.bl (decide (11=i))])) l5 (.lst ((kb i 8).map V.bl ++ [.bl (decide (8=i)),.bl (decide (9=i)),.bl (decide (10=i)),.bl (decide (11=i))]))=H5 at s5 e5 ⊢
    refine ⟨.list (wdL.map PyData.str),by kernel_rfl,abT,rfl,trivial,fun v6 H6 b6 _ ⟨d6,r6,e6⟩=>?_⟩
    subst e6
    have s6:Same H H6:=fun b o e=>b6 b o (by simp [abT]) (s5 _ _ e)
    have e56:H6 l5=some (.lst ((kb i 12).map V.bl)):=b6 _ _ (by simp [abT]) e5
    cases r6 with
    | @lst a6 xs6 _ ea6 na6 ra6 =>
      have hx6:=ZfQ ra6
      subst hx6
      refine ⟨_,rfl,_,rfl,a6,l5,rfl,⟨_,SqL.of ea6⟩,⟨_,SqL.of e56⟩,Zlh (fun j=>decide (j=i)) (fun j=>V.str (wdL.getD j "")) (SqL.of ea6) (SqL.of e56) rfl (show 12≤1000 by decide) (fun j x z hx hz H' Q' sm q'=>?_) (fun j x z hx hz H' Q' sm q'=>?_) fun D7 H7 hD7 s7 eD7=>?_⟩
      · have hj:j<12:=by
          have:=(List.getElem?_eq_some_iff.mp hx).1
          rw [List.length_map] at this
          exact this
        rw [Zoi hj] at hz
        rw [← Option.some.inj hz]
        exact ⟨_,rfl,_,rfl,q'⟩
      · have hj:j<12:=by
          have:=(List.getElem?_eq_some_iff.mp hx).1
          rw [List.length_map] at this
          exact this
        refine ⟨x,rfl,?_⟩
        rw [List.getElem?_map] at hx
        obtain ⟨w',h1',h2'⟩:=Option.map_eq_some_iff.mp hx
        have:wdL.getD j "" = w':=by rw [List.getD_eq_getElem?_getD,h1'];rfl
        rw [← h2',← this]
        exact q'
      · rw [show (wdL.map V.str).length=12 from rfl,Zm8 hi] at eD7
        have he7:=s7 _ _ (s6 _ _ he)
        refine ⟨_,rfl,e,C,_,_,rfl,he7,er.k,er.kv,_,rfl,iteT ⟨_,rfl,_,rfl,len1,fun l8 h8=>?_⟩⟩
        have s8:=Same.new (o:=.lst [.str wd]) h8
        refine ⟨_,_,.lst (SqL.of (s8 _ _ eD7)) (.cons (.str _) .nil),.lst (SqL.of Zad) (.cons (.str wd) .nil),Zn1 hi,hw,?_⟩
        rw [show (if false=true then !PyData.eqv (.list [.str (wdL.getD i "")]) (.list [.str wd]) else PyData.eqv (.list [.str (wdL.getD i "")]) (.list [.str wd]))=_ from Zk9 _ _]
        exact q _ ((s6.trans s7).trans s8)
end
section
variable {P:Program}{w:World}{K:PySem.W.Frag}{mg:Str→Option Value}{base:Heap}{C c1 c2 c7 c8:Addr}
def ChX (c1 c2 c7:Addr) (H:Hp) (E:Addr→Hp→Prop) (prs:Prs) (y z:V):Prop :=
  (∃ d,RdS [] H y d∧Sz 1000000 60 d∧ZbT prs.length (w0 prs) d=false∧∀ H',Same H H'→E c1 H') ∨
  (∃ c i j d,y=.ref c∧Cell H c i j∧i<prs.length∧j<w0 prs∧RdS [] H z d∧ZaG d=false∧∀ H',Same H H'→E c2 H') ∨
  (∃ c i j x,y=.ref c∧Cell H c i j∧i<prs.length∧j<w0 prs∧z=.int x∧Zbj (setR (prs.map (·.2)) i j x)=false∧∀ H',Same H H'→E c7 H')
def ZeD (c1 c2 c7:Addr):Sp:=fun vs H _ E=>∃ (t:Addr) (prs:Prs) (y z:V),vs=[.ref t,y,z]∧Tab H t prs∧tabB prs=true∧ChX c1 c2 c7 H (fun c H'=>E (.ref c) none H') prs y z
set_option maxHeartbeats 16000000 in
theorem ZgM (hk:ExcK K c7) (hm:mg "NoFit" = some (.ref c7)) (D:Zao K mg "changed_table" ZdL ["table","cell","x"]) (G1:FnAt P w K mg base 5 "need_cell" ["table","thing"] ZbX) (G1X:FnAtX P w K mg base 5 "need_cell" ["table","thing"] (ZcX c1))
    (G2:FnAt P w K mg base 2 "need_number" ["thing"] ZbM) (G2X:FnAtX P w K mg base 2 "need_number" ["thing"] (Ze2 c2)) (G3:FnAt P w K mg base 2 "table_with" ["table","cell","x"] Zg4) (G4:FnAt P w K mg base 5 "is_table" ["thing"] ZcY) :
    FnAtX P w K mg base 6 "changed_table" ["table","cell","x"] (ZeD c1 c2 c7):=by
  refine FnAtX.of D sc_changed (fun vs H Q E h=>?_) (fun f cdv A outer s H vs Q E hr h=>?_)
  · obtain ⟨t,prs,y,z,rfl,_⟩:=h
    rfl
  · obtain ⟨t,prs,y,z,rfl,hT,hg,h⟩:=h
    have nd:=sc_changed.nd
    rcases h with ⟨d,rd,sz,hc,he⟩ | ⟨c,i,j,d,rfl,hc,hi,hj,rd,hn,he⟩ | ⟨c,i,j,x,rfl,hc,hi,hj,rfl,ok,he⟩
    · refine ⟨_,Zac (Zau (Zdz G1X hr Za6 (Zaa (pv 0) (Zaa (pv 1) Zab)))) ZaT,?_⟩
      exact ⟨_,rfl,_,rfl,t,prs,y,d,rfl,hT,hg,rd,sz,hc,he⟩
    · refine ⟨_,Zac (Zau (pe_f G1 hr (Zaa (pv 0) (Zaa (pv 1) Zab)))) (Zac (Zau (Zdz G2X (hr.mono (by decide)) Za6 (Zaa (pv 2) Zab))) ZaT),?_⟩
      exact ⟨_,rfl,_,rfl,t,c,prs,i,j,rfl,hT,hg,hc,hi,hj,fun H1 s1=>⟨_,rfl,z,d,rfl,rd.same s1,(fun e=>by rw [hn] at e;cases e),fun _=>he H1 s1⟩⟩
    · obtain ⟨g,g1,g2,g3,g4⟩:=ZaI hg
      have hli:(ZaA prs i).length=w0 prs:=by
        obtain ⟨p,hp,_,e⟩:=ZaE hi
        rw [e]
        exact g.len p hp
      refine ⟨_,Zac (Zau (pe_f G1 hr (Zaa (pv 0) (Zaa (pv 1) Zab)))) (Zac (Zau (pe_f G2 (hr.mono (by decide)) (Zaa (pv 2) Zab)))
        (Zac (Zaj (i:=3) nd rfl (Or.inl rfl) (pe_f G3 (hr.mono (by decide)) (Zaa (pv 0) (Zaa (pv 1) (Zaa (pv 2) Zab)))))
        (Zac (ZaO (Za0 (Za3 (pe_f G4 hr (Zaa (pv 3) Zab)))) (Zaf (Zcu ZbG hk Zbh hm)) Zaq) ZaT))),?_⟩
      refine ⟨_,rfl,_,rfl,t,c,prs,i,j,rfl,hT,hg,hc,hi,hj,fun H1 s1=>⟨_,rfl,x,rfl,?_⟩⟩
      refine ⟨_,rfl,_,rfl,_,rfl,t,c,prs,i,j,x,rfl,hT.same s1,ZaN hg,s1 _ _ hc,hi,by omega,fun t' prs' H2 ht' hq hnd s2 hT2 hrows=>?_⟩
      refine ⟨_,rfl,t',prs',rfl,hT2,ZiD (rows:=[]) (ZaN hg) hrows,fun H3 s3=>⟨_,rfl,?_⟩⟩
      rw [Zb0 hrows,ok]
      exact iteT (he H3 (s1.trans (s2.trans s3)))
def Zlv (C c1 c2 c7:Addr):Sp:=fun vs H _ E=>∃ (a dx t l:Addr) (prs:Prs) (cs:Ch) (y z:V),vs=[.ref a,y,z]∧Keep H C a dx t l prs cs∧ChX c1 c2 c7 H (fun c H'=>E (.ref c) none H') prs y z
theorem Zmy (kc:KpC K C) (D:ZaV K C "change" "Keeper.change" (Za2 ZaJ 1) ["self","cell","x"]) (G1:FnAtX P w K mg base 6 "changed_table" ["table","cell","x"] (ZeD c1 c2 c7)):MtAtX P w K mg base 8 C "change" ["self","cell","x"] (Zlv C c1 c2 c7):=by
  refine MtAtX.of D sc_kChange (fun vs H Q E h=>?_) (fun f cdv A outer s H vs Q E hr h=>?_)
  · obtain ⟨a,dx,t,l,prs,cs,y,z,rfl,_⟩:=h
    rfl
  · obtain ⟨a,dx,t,l,prs,cs,y,z,rfl,hk,h⟩:=h
    have nd:=sc_kChange.nd
    refine ⟨_,Zac (Zaj (i:=3) nd rfl (Or.inl rfl) (Zdz G1 (hr.mono (by decide)) Za6 (Zaa (ZbE (pv 0) rfl) (Zaa (pv 1) (Zaa (pv 2) Zab))))) ZaT,?_⟩
    exact ⟨_,rfl,a,C,dx,_,_,rfl,hk.ob,kc.cls,kc.nr,rfl,_,rfl,_,rfl,t,prs,y,z,rfl,hk.T,hk.ok,h⟩
def Zls (C c8:Addr):Sp:=fun vs H _ E=>∃ (a dx t l:Addr) (prs:Prs),vs=[.ref a]∧Keep H C a dx t l prs []∧∀ H',Same H H'→E (.ref c8) none H'
theorem Zmv (T:Blt mg) (kc:KpC K C) (hk8:ExcK K c8) (hm:mg "NoChange" = some (.ref c8)) (D:ZaV K C "undo" "Keeper.undo" (Za2 ZaJ 2) ["self"]):MtAtX P w K mg base 8 C "undo" ["self"] (Zls C c8):=by
  refine MtAtX.of D sc_kUndo (fun vs H Q E h=>?_) (fun f cdv A outer s H vs Q E hr h=>?_)
  · obtain ⟨a,dx,t,l,prs,rfl,_⟩:=h
    rfl
  · obtain ⟨a,dx,t,l,prs,rfl,hk,he⟩:=h
    refine ⟨_,Zac (ZaO (Zat Zdj (pe_b Zah T.len boot_len (Zaa (ZbE (pv 0) rfl) Zab)) Zae (Zax _)) (Zaf (Zcu ZbG hk8 Zbh hm)) Zaq) ZaT,?_⟩
    exact ⟨_,rfl,a,C,dx,_,_,rfl,hk.ob,kc.cls,kc.nc,rfl,l,_,rfl,.inl (SqL.of hk.L),rfl,_,rfl,iteT (he H (Same.refl _))⟩
theorem ZfP:FnScope ["self","x"] ["self","x"] (Zag (Za2 ZaJ 4)):=⟨rfl,rfl,rfl,by decide +kernel,rfl,by decide +kernel,by decide +kernel⟩
def Zhc (C:Addr):Sp:=fun vs H Q _=>∃ (a dx t l:Addr) (prs:Prs) (cs:Ch) (x:Int),vs=[.ref a,.int x]∧Keep H C a dx t l prs cs ∧
  ∀ L (es:Cs) H',H L=none→Same H H'→H' L=some (.lst (es.map ZjY))→(∀ c∈es,Zcq H' c∧H c.1=none)→es.map (·.2)=Zcb prs x prs.length→es.length≤36→Q (.ref L) H'
theorem Zja (kc:KpC K C) (D:ZaV K C "cells" "Keeper.cells" (Za2 ZaJ 4) ["self","x"]) (G:FnAt P w K mg base 7 "cells_of" ["table","x"] ZiC):MtAt P w K mg base 8 C "cells" ["self","x"] (Zhc C):=by
  refine MtAt.of D ZfP (fun vs H Q E h=>?_) (fun f cdv A outer s H vs Q E hr h=>?_)
  · obtain ⟨a,dx,t,l,prs,cs,x,rfl,_⟩:=h
    rfl
  · obtain ⟨a,dx,t,l,prs,cs,x,rfl,hk,q⟩:=h
    refine ⟨_,Zaf (Zan (pe_f G hr (Zaa (ZbE (pv 0) rfl) (Zaa (pv 1) Zab)))),?_⟩
    exact ⟨_,rfl,a,C,dx,_,_,rfl,hk.ob,kc.cls,kc.nr,rfl,_,rfl,t,prs,x,rfl,hk.T,hk.ok,q⟩
end
section
variable {P:Program}{w:World}{K:PySem.W.Frag}{mg:Str→Option Value}{base:Heap}{c0 c2 c6:Addr}
def Zc2 (n:Nat):PyData→Bool
  | .int k=>decide (0≤k) && decide (k<(n:Int))
  | _=>false
def Zha (c6:Addr):Sp:=fun vs H Q E=>∃ (t:Addr) (prs:Prs) (x:V) (d:PyData),vs=[.ref t,x]∧Tab H t prs∧tabB prs=true∧RdS [] H x d∧Zc2 (prs.length * w0 prs) d=false∧E (.ref c6) none H
theorem Zi4 (hk:ExcK K c6) (hm:mg "NoPlace" = some (.ref c6)) (D:Zao K mg "need_place" ZcB ["table","thing"]) (G1:FnAt P w K mg base 1 "is_whole" ["thing"] ZbY) (G2:FnAt P w K mg base 1 "how_many_cells" ["table"] Ziw):FnAtX P w K mg base 2 "need_place" ["table","thing"] (Zha c6):=by
  refine FnAtX.of D Zdo (fun vs H Q E h=>?_) (fun f cdv A outer s H vs Q E hr h=>?_)
  · obtain ⟨t,prs,x,d,rfl,_⟩:=h
    rfl
  · obtain ⟨t,prs,x,d,rfl,hT,hg,rd,hp,he⟩:=h
    refine ⟨_,Zaf (ZaO (PW.pt (ZcF (Za0 (Za3 (pe_f G1 hr (Zaa (pv 1) Zab)))) (Zb1 (Za0 (ZdG o_le o_lt Zae (pv 1) (pe_f G2 hr (Zaa (pv 0) Zab))))))) (Zaf (Zcu ZbG hk Zbh hm)) Zaq),?_⟩
    refine ⟨_,rfl,x,d,rfl,rd,_,rfl,?_⟩
    cases rd with
    | int k =>
      refine iteF ⟨_,rfl,_,_,rfl,rfl,_,rfl,?_⟩
      by_cases h0:(0:Int)≤k
      · rw [decide_eq_true h0]
        refine iteT ⟨_,rfl,t,prs,rfl,hT,hg,_,_,rfl,rfl,_,rfl,?_⟩
        have h1:¬ k<(prs.length:Int) * (w0 prs:Int):=fun z=>by
          have hp':(decide (0≤k) && decide (k<((prs.length * w0 prs:Nat):Int)))=false:=hp
          rw [decide_eq_true h0,Int.natCast_mul,decide_eq_true z] at hp'
          cases hp'
        rw [decide_eq_false h1]
        exact iteT he
      · rw [decide_eq_false h0]
        exact iteF ⟨_,rfl,iteT he⟩
    | _=>exact iteT he
def Znh (c0 c6:Addr):Sp:=fun vs H Q E=>∃ (x y:V),vs=[x,y]∧((∃ d,RdS [] H x d∧¬ GoodD d∧∀ H',Same H H'→E (.ref c0) none H') ∨
  ∃ (t:Addr) (prs:Prs) (e:PyData),x=.ref t∧Tab H t prs∧tabB prs=true∧RdS [] H y e∧Zc2 (prs.length * w0 prs) e=false∧∀ H',Same H H'→E (.ref c6) none H')
theorem Zf2 (D:Zao K mg "number_by" Zc7 ["table","k"]) (G1:FnAtX P w K mg base 6 "need_table" ["thing"] (ZdD c0)) (G2:FnAtX P w K mg base 2 "need_place" ["table","thing"] (Zha c6)):FnAtX P w K mg base 7 "number_by" ["table","k"] (Znh c0 c6):=by
  refine FnAtX.of D Zd0 (fun vs H Q E h=>?_) (fun f cdv A outer s H vs Q E hr h=>?_)
  · obtain ⟨x,y,rfl,_⟩:=h
    rfl
  · obtain ⟨x,y,rfl,h⟩:=h
    refine ⟨_,Zac (Zau (Zdz G1 hr Za6 (Zaa (pv 0) Zab))) (Zac (Zau (Zdz G2 (hr.mono (by decide)) Za6 (Zaa (pv 0) (Zaa (pv 1) Zab)))) ZaT),?_⟩
    rcases h with ⟨d,rd,hn,he⟩ | ⟨t,prs,e,rfl,hT,hg,re,hc,he⟩
    · exact ⟨_,rfl,x,d,rfl,rd,fun g=>absurd g hn,fun _=>he⟩
    · exact ⟨_,rfl,_,_,rfl,Zip hT,fun _ H1 s1=>⟨_,rfl,_,rfl,t,prs,y,e,rfl,hT.same s1,hg,re.same s1,hc,he H1 s1⟩,fun z=>absurd (goodD_tab.mpr hg) z⟩
end
end Seek
namespace L2
open PySem PySem.Spec PyProof.Rows
def ZnX (C:Addr) (sp:Sp) (R:St→Value→Hp→Prop) (t:TA):TE:=fun σ H Q=>t σ H fun vs H1=>∀ x dx,H1 x=none→H1 dx=none→dx≠x→sp (.ref x :: vs) (upd (upd H1 dx (.own x)) x (.ins C dx [])) (fun v H2=>v=.non∧Q (.ref x) H2) fun cls _ H'=>R σ cls H'
theorem Zmi {X:Cx}{k:Nat}{C:Addr}{ps:List Str}{sp:Sp}{e:Expr}{es:List Expr}{x:Str}{p pos:Pos}{t:TA}{R:St→Value→Hp→Prop} (F:MtAtX X.prog X.w X.K X.mg X.base k C "__init__" ps sp) (hmk:PySem.W.makesIn X.K C=true) (hkp:PySem.W.keepIn X.K (.ref C)=true) (hr:Room (k+1) X.A) (hR:ZgY X R) (hg:Gl X x) (hm:X.mg x=some (.ref C))
    (ha:PA X (e :: es) t) (hdb:(x == ("__debug__" : Str))=false:=by decide) (he:starEach (e :: es) X.env=(false,eval e X.env) :: starEach es X.env:=by rfl) (hpl:(backTo pos (starEach es X.env)).any (·.1)=false:=by rfl) :
    PE X (.Call (.Name x p) (e :: es) [] pos) (ZnX C sp R t):=by
  obtain ⟨f,hmt,hl,run⟩:=F
  intro pins s σ H Q I h
  refine wpAny_Call_Name_kw (ZcM I hg hm ?_ hdb)
  refine PySem.W.callWith_K (h₀:=X.base) I.ok.mod.kin hkp (thn (ha pos pins s σ H _ I h) fun us s1 ⟨vs,H1,I1,r,q⟩=>⟨I1.kIn,?_⟩) he hpl
  have hq:=q (s1.heap.objs.size+1) s1.heap.objs.size (I1.hok.fresh (Nat.le_succ _)) (I1.hok.fresh (Nat.le_refl _)) (Nat.ne_of_lt (Nat.lt_succ_self _))
  have I2:=Inv.made (C:=C) I1
  refine wpAny_call (Zhr (f:=f) I1.kIn hmk hmt.at_ (beq_iff_eq.mp hmt.fn) (codeAny_mono (run _ X.stack _ _ (Value.ref (s1.heap.objs.size+1) :: us) (V.ref (s1.heap.objs.size+1) :: vs) _ _ (hr.make C us []) (I2.env0.make C us []) (.cons rfl r) hq) fun res s' hq'=>?_))
  cases res with
  | error ev =>
    obtain ⟨e',cls,H',rfl,Fl,rr⟩:=hq'
    exact hR pins σ _ _ e' cls H' s' I2 Fl rr
  | ok fl =>
    cases fl with
    | ret u =>
      obtain ⟨v,H',I3,rv,ev,q3⟩:=I2.after hq'
      subst ev
      exact ⟨rv,⟨V.ref (s1.heap.objs.size+1),H',I3,rfl,q3⟩⟩
    | next=>exact False.elim hq'
    | brk=>exact False.elim hq'
    | cont=>exact False.elim hq'
theorem Zl8 {v:V}{i:Nat}{u:TS}{D:Ends}{σ:St}{H:Hp} (h:u D (σ.set i (some v)) H):tSeq (tAsg (tC v) (ZaP i)) u D σ H:=h
theorem Zio {t u:TS}{D:Ends}{σ0:St}{H0:Hp} (C:(St→Hp→Prop)→Prop) (h:C (u D)) (hA:C (u D)→t { D with nx:=u D } σ0 H0):tSeq t u D σ0 H0:=hA h
end L2
namespace Seek
open PySem L2 PyProof.Rows
section
variable {P:Program}{w:World}{K:PySem.W.Frag}{mg:Str→Option Value}{base:Heap}{C c0 c1 c2 c6 c7 c8:Addr}
theorem ZkN (D:Zao K mg "span_of" Zlb ["table","cell"]) (G:FnAtX P w K mg base 5 "need_cell" ["table","thing"] (ZcX c1)):FnAtX P w K mg base 6 "span_of" ["table","cell"] (ZcX c1):=by
  refine FnAtX.of D sc_span (fun vs H Q E h=>?_) (fun f cdv A outer s H vs Q E hr h=>?_)
  · obtain ⟨t,prs,x,d,rfl,_⟩:=h
    rfl
  · obtain ⟨t,prs,x,d,rfl,h⟩:=h
    exact ⟨_,Zac (Zau (Zdz G hr Za6 (Zaa (pv 0) (Zaa (pv 1) Zab)))) ZaT,_,rfl,_,rfl,t,prs,x,d,rfl,h⟩
def Zlt (C c1:Addr):Sp:=fun vs H _ E=>∃ (a dx t l:Addr) (prs:Prs) (cs:Ch) (y:V) (d:PyData),vs=[.ref a,y]∧Keep H C a dx t l prs cs∧RdS [] H y d∧Sz 1000000 60 d∧ZbT prs.length (w0 prs) d=false∧∀ H',Same H H'→E (.ref c1) none H'
theorem Zmw (kc:KpC K C) (D:ZaV K C "span" "Keeper.span" (Za2 ZaJ 6) ["self","cell"]) (G:FnAtX P w K mg base 6 "span_of" ["table","cell"] (ZcX c1)):MtAtX P w K mg base 8 C "span" ["self","cell"] (Zlt C c1):=by
  refine MtAtX.of D Zhk (fun vs H Q E h=>?_) (fun f cdv A outer s H vs Q E hr h=>?_)
  · obtain ⟨a,dx,t,l,prs,cs,y,d,rfl,_⟩:=h
    rfl
  · obtain ⟨a,dx,t,l,prs,cs,y,d,rfl,hk,rd,sz,hc,he⟩:=h
    refine ⟨_,Zaf (Zan (Zdz G (hr.mono (by decide)) Za6 (Zaa (ZbE (pv 0) rfl) (Zaa (pv 1) Zab)))),?_⟩
    exact ⟨_,rfl,a,C,dx,_,_,rfl,hk.ob,kc.cls,kc.nr,rfl,_,rfl,t,prs,y,d,rfl,hk.T,hk.ok,rd,sz,hc,he⟩
def Zlw (C c2:Addr):Sp:=fun vs H _ E=>∃ (a dx t l:Addr) (prs:Prs) (cs:Ch) (y:V) (d:PyData),vs=[.ref a,y]∧Keep H C a dx t l prs cs∧RdS [] H y d∧ZaG d=false∧∀ H',Same H H'→E (.ref c2) none H'
theorem Zmz (kc:KpC K C) (D:ZaV K C "cells" "Keeper.cells" (Za2 ZaJ 4) ["self","x"]) (G:FnAtX P w K mg base 7 "cells_of" ["table","x"] (Zlx c0 c2)):MtAtX P w K mg base 8 C "cells" ["self","x"] (Zlw C c2):=by
  refine MtAtX.of D ZfP (fun vs H Q E h=>?_) (fun f cdv A outer s H vs Q E hr h=>?_)
  · obtain ⟨a,dx,t,l,prs,cs,y,d,rfl,_⟩:=h
    rfl
  · obtain ⟨a,dx,t,l,prs,cs,y,d,rfl,hk,rd,hc,he⟩:=h
    refine ⟨_,Zaf (Zan (Zdz G hr Za6 (Zaa (ZbE (pv 0) rfl) (Zaa (pv 1) Zab)))),?_⟩
    exact ⟨_,rfl,a,C,dx,_,_,rfl,hk.ob,kc.cls,kc.nr,rfl,_,rfl,_,y,rfl,.inr ⟨t,prs,d,rfl,hk.T,hk.ok,rd,hc,he⟩⟩
def Zlu (C c6:Addr):Sp:=fun vs H _ E=>∃ (a dx t l:Addr) (prs:Prs) (cs:Ch) (y:V) (d:PyData),vs=[.ref a,y]∧Keep H C a dx t l prs cs∧RdS [] H y d∧Zc2 (prs.length * w0 prs) d=false∧∀ H',Same H H'→E (.ref c6) none H'
theorem Zmx (kc:KpC K C) (D:ZaV K C "number" "Keeper.number" (Za2 ZaJ 5) ["self","k"]) (G:FnAtX P w K mg base 7 "number_by" ["table","k"] (Znh c0 c6)):MtAtX P w K mg base 8 C "number" ["self","k"] (Zlu C c6):=by
  refine MtAtX.of D ZeG (fun vs H Q E h=>?_) (fun f cdv A outer s H vs Q E hr h=>?_)
  · obtain ⟨a,dx,t,l,prs,cs,y,d,rfl,_⟩:=h
    rfl
  · obtain ⟨a,dx,t,l,prs,cs,y,d,rfl,hk,rd,hc,he⟩:=h
    refine ⟨_,Zaf (Zan (Zdz G hr Za6 (Zaa (ZbE (pv 0) rfl) (Zaa (pv 1) Zab)))),?_⟩
    exact ⟨_,rfl,a,C,dx,_,_,rfl,hk.ob,kc.cls,kc.nr,rfl,_,rfl,_,y,rfl,.inr ⟨t,prs,d,rfl,hk.T,hk.ok,rd,hc,he⟩⟩
def ZiA (c0:Addr):Sp:=fun vs H _ E=>∃ (a:Addr) (y:V) (d:PyData),vs=[.ref a,y]∧RdS [] H y d∧¬ GoodD d∧∀ H',Same H H'→E (.ref c0) none H'
theorem Zi9 (D:ZaV K C "__init__" "Keeper.__init__" (Za2 ZaJ 0) ["self","table"]) (G:FnAtX P w K mg base 6 "need_table" ["thing"] (ZdD c0)):MtAtX P w K mg base 7 C "__init__" ["self","table"] (ZiA c0):=by
  refine MtAtX.of D sc_kInit (fun vs H Q E h=>?_) (fun f cdv A outer s H vs Q E hr h=>?_)
  · obtain ⟨a,y,d,rfl,_⟩:=h
    rfl
  · obtain ⟨a,y,d,rfl,rd,hn,he⟩:=h
    exact ⟨_,Zac (Zau (Zdz G hr Za6 (Zaa (pv 1) Zab))) ZaT,_,rfl,y,d,rfl,rd,fun g=>absurd g hn,fun _=>he⟩
end
inductive RefD (n m:Nat) (rows:List (List Int)):Int→PyData→PyData→Nat→Str→Prop
  | cell0 {d1 d2:PyData}:Sz 1000000 60 d1→ZbT n m d1=false→RefD n m rows 0 d1 d2 1 "cell"
  | cell4 {d1 d2:PyData}:Sz 1000000 60 d1→ZbT n m d1=false→RefD n m rows 4 d1 d2 1 "cell"
  | num0 {i j:Nat}{d2:PyData}:i<n→j<m→ZaG d2=false→RefD n m rows 0 (.tuple [.int (i:Nat),.int (j:Nat)]) d2 2 "number"
  | num2 {d1 d2:PyData}:ZaG d1=false→RefD n m rows 2 d1 d2 2 "number"
  | fit {i j:Nat}{x:Int}:i<n→j<m→Zbj (setR rows i j x)=false→RefD n m rows 0 (.tuple [.int (i:Nat),.int (j:Nat)]) (.int x) 7 "fit"
  | place {d1 d2:PyData}:Zc2 (n * m) d1=false→RefD n m rows 3 d1 d2 6 "place"
theorem ZhJ {H:Hp}{y:V}{i j:Nat} (r:RdS [] H y (.tuple [.int (i:Nat),.int (j:Nat)])):∃ c,y=.ref c∧Cell H c i j:=by
  cases r with
  | @tup a xs ds e n ra =>
    cases ra with
    | cons r1 r2 =>
      cases r2 with
      | cons r3 r4 =>
        cases r1
        cases r3
        cases r4
        exact ⟨a,rfl,e⟩
section
variable {P:Program}{w:World}{K:PySem.W.Frag}{mg:Str→Option Value}{base:Heap}{C S c1 c2 c6 c7 c8:Addr}{cs:List Addr}
def ZnT (H:Hp) (Q:VK) (C a dx l:Addr) (rows:List (List Int)) (W:Ch→Prop):Prop:=∀ t' prs' chs' H',H t'=none→(∀ p∈prs',H p.1=none)→(∀ b o,b≠a→b≠l→H b=some o→H' b=some o)→prs'.map (·.2)=rows→W chs'→Keep H' C a dx t' l prs' chs'→Q (.str "") H'
def Zgw (C:Addr):Sp:=fun vs H Q _=>∃ (a dx t l:Addr) (prs:Prs) (chs:Ch) (door:Int) (y z:V),vs=[.ref a,.int door,y,z]∧Keep H C a dx t l prs chs∧chs.length<1000 ∧
  ((∃ d1 d2 i wd,RdS [] H y d1∧RdS [] H z d2∧RefD prs.length (w0 prs) (prs.map (·.2)) door d1 d2 i wd∧∀ H',Same H H'→Q (.str wd) H') ∨
  (door=1∧chs=[]∧∀ H',Same H H'→Q (.str "change") H') ∨
  (door=1∧∃ c0 u c i j x,chs=c0 ++ [(u,c,i,j,x)]∧Zbj (setR (prs.map (·.2)) i j x)=true∧ZnT H Q C a dx l (setR (prs.map (·.2)) i j x) (· = c0)) ∨
  (door=0∧∃ c i j x,y=.ref c∧z=.int x∧Cell H c i j∧i<prs.length∧j<w0 prs∧Zbj (setR (prs.map (·.2)) i j x)=true∧ZnT H Q C a dx l (setR (prs.map (·.2)) i j x) (fun e=>∃ u,H u=none∧e=chs ++ [(u,c,i,j,ZaD (prs.map (·.2)) i j)])))
abbrev w9N:List Str:=["keeper","door","one","other","caught","e","words"]
abbrev w9L:List Str:=["cell","number","fit","change","place"]
theorem sc_word9:FnScope w9N ["keeper","door","one","other"] (Zag Zla):=⟨rfl,rfl,rfl,by decide +kernel,rfl,by decide +kernel,by decide +kernel⟩
set_option maxHeartbeats 16000000 in
theorem ZkK (N:Nms mg S cs) (kS:ExcK K S) (E1:Err K S cs 1 c1) (E2:Err K S cs 2 c2) (E6:Err K S cs 6 c6) (E7:Err K S cs 7 c7) (E8:Err K S cs 8 c8) (kc:KpC K C) (Df:Zao K mg "_law_word" Zla ["keeper","door","one","other"])
    (M1:MtAt P w K mg base 8 C "undo" ["self"] (Zgx C)) (M1X:MtAtX P w K mg base 8 C "undo" ["self"] (Zls C c8)) (M2:MtAt P w K mg base 8 C "change" ["self","cell","x"] (ZdU C)) (M2X:MtAtX P w K mg base 8 C "change" ["self","cell","x"] (Zlv C c1 c2 c7))
    (M3:MtAtX P w K mg base 8 C "cells" ["self","x"] (Zlw C c2)) (M4:MtAtX P w K mg base 8 C "number" ["self","k"] (Zlu C c6)) (M5:MtAtX P w K mg base 8 C "span" ["self","cell"] (Zlt C c1))
    (G3:FnAt P w K mg base 1 "_law_kind" ["e","due"] (Ziy K S cs)):FnAt P w K mg base 9 "_law_word" ["keeper","door","one","other"] (Zgw C):=by
  refine FnAt.of Df sc_word9 (fun vs H Q E h=>?_) (fun f cdv A outer s H vs Q E hr h=>?_)
  · obtain ⟨a,dx,t,l,prs,chs,door,y,z,rfl,_⟩:=h
    rfl
  · obtain ⟨a,dx,t,l,prs,chs,door,y,z,rfl,hk,hcl,h⟩:=h
    have nd:=sc_word9.nd
    have nd1:(["word","caught"]:List Str).Nodup:=by decide +kernel
    have gU:=M1.toX.or M1X
    have gC:=M2.toX.or M2X
    have hr1:Room 1 _:=hr.mono (show 1≤8 by decide)
    refine ⟨_,Zac (Zaj (i:=4) nd rfl (Or.inr rfl) Zcd)
      (Zac (ZlB (i:=5) rfl rfl nd kS N.seek (fun pn W R hR=>Zaf (ZaO (Zat Zdj (pv 1) Zae (Zax _)) (Zaf (Zau (ZkE gC kc.cls hr hR (pv 0) (Zaa (pv 2) (Zaa (pv 3) Zab)))))
          (Zaf (ZaO (Zat Zdj (pv 1) Zae (Zax _)) (Zaf (Zau (Znp gU kc.cls hr hR (pv 0))))
          (Zaf (ZaO (Zat Zdj (pv 1) Zae (Zax _)) (Zaf (Zau (ZkE M3 kc.cls hr hR (pv 0) (Zaa (pv 2) Zab))))
          (Zaf (ZaO (Zat Zdj (pv 1) Zae (Zax _)) (Zaf (Zau (ZkE M4 kc.cls hr hR (pv 0) (Zaa (pv 2) Zab)))) (Zaf (Zau (ZkE M5 kc.cls hr hR (pv 0) (Zaa (pv 2) Zab))))))))))))
        (fun v=>Zaf (Zaj (i:=4) nd rfl (Or.inr rfl) (pv 5))))
      (Zac (ZaO (Zat Znu (pv 4) Zcd (Zax _)) (Zaf (Zan Zbh)) Zaq)
      (Zac (Zaj (i:=6) nd rfl (Or.inl rfl) (ZaF (Zaa Zbh (Zaa Zbh (Zaa Zbh (Zaa Zbh (Zaa Zbh Zab)))))))
      (Zaf (Zan (Zav Zam (Zas ZbK (ZaX ["word","caught"] [none,some 4] (Zag Zla) w9N rfl (Zba (pv 6)) (by decide +kernel)
        (fun cl C s2 H2 ex=>pg_c 0 nd1) (fun cl C s2 H2 ex=>Zc3 (Za3 (pe_f G3 hr1 (Zaa (pv 1) (Zaa (pv 0) Zab))))) (fun cl C s2 H2 ex=>pv 0)) (ZaF (Zaa Zbh Zab))) Zae (fun _ _=>rfl))))))),?_⟩
    refine Zl8 ?_
    refine Zio (fun N'=>(∀ H1,Q (.str "") H1→N' [some (.ref a),some (.int door),some y,some z,some .non,none,none] H1) ∧
      ∀ H1 e c i wd,H1 e=some (excO e c)→Err K S cs i c→i<12→w9L.filter (fun x=>decide (wdL.getD i "" = x))=[wd]→(∀ H',Same H1 H'→Q (.str wd) H')→N' [some (.ref a),some (.int door),some y,some z,some (.ref e),none,none] H1) ⟨fun H1 q=>?_,fun H1 e c i wd ee er hi hw q=>?_⟩ (fun ⟨kN,kE⟩=>?_)
    · exact ⟨_,rfl,rfl,_,rfl,iteT q⟩
    · refine ⟨_,rfl,rfl,_,rfl,iteF ⟨(show 5≤sizeLine by decide),fun l5 hl5=>?_⟩⟩
      have s3:=Same.new (o:=.lst (w9L.map V.str)) hl5
      have e3:(upd H1 l5 (.lst (w9L.map V.str))) l5=some (.lst (w9L.map V.str)):=Zad
      show _
      refine ⟨_,rfl,l5,rfl,⟨_,SqL.of e3⟩,ZgT (ms:=w9L) V.str (fun x=>decide (wdL.getD i "" = x)) V.str (SqL.of e3) (show 5≤sizeLine by decide) (fun wd hx H' Q' sm q'=>?_) (fun wd hx _ H' Q' sm q'=>⟨_,rfl,q' _ (Same.refl _)⟩) fun D6 H6 hD6 sm6 hDl6=>?_⟩
      · refine ⟨_,rfl,_,rfl,e,c,i,wd,rfl,sm _ _ (s3 _ _ ee),er,hi,?_,fun H'' s''=>⟨_,rfl,q' _ s''⟩⟩
        simp only [List.mem_cons,List.not_mem_nil,or_false] at hx
        rcases hx with rfl | rfl | rfl | rfl | rfl <;> decide +kernel
      · rw [hw] at hDl6
        refine ⟨len1,fun l7 hl7=>⟨D6,l7,_,_,rfl,rfl,(Same.new hl7) _ _ hDl6,Zad,(show 2≤sizeLine by decide),fun l8 hl8=>⟨l8,_,0,.str wd,rfl,rfl,SqL.of Zad,rfl,q _ (s3.trans (sm6.trans ((Same.new hl7).trans (Same.new hl8))))⟩⟩⟩
    have fl:∀ (H1:Hp) (e c:Addr) (i:Nat) (wd:Str),H1 e=none→Same H H1→Err K S cs i c→i<12→w9L.filter (fun x=>decide (wdL.getD i "" = x))=[wd]→(∀ H',Same H H'→Q (.str wd) H')→_:=fun H1 e c i wd he s1 er hi hw q=>kE (upd H1 e (excO e c)) e c i wd Zad er hi hw fun H' s'=>q H' ((s1.trans (Same.new he)).trans s')
    refine ⟨_,rfl,rfl,_,rfl,?_⟩
    rcases h with ⟨d1,d2,i,wd,r1,r2,hrf,q⟩ | ⟨rfl,rfl,q⟩ | ⟨rfl,c0,u,c,i,j,x,rfl,ok,q⟩ | ⟨rfl,c,i,j,x,rfl,rfl,hc,hi,hj,ok,q⟩
    · cases hrf with
      | cell0 sz hc=>exact Zgc rfl ⟨_,rfl,a,dx,_,rfl,hk.ob,rfl,_,rfl,_,rfl,.inr ⟨a,dx,t,l,prs,chs,y,z,rfl,hk,.inl ⟨d1,r1,sz,hc,fun H1 s1=>⟨c1,rfl,E1.k,E1.sk,fun e he=>⟨_,rfl,fl H1 e c1 1 _ he s1 E1 (by decide) (by decide +kernel) q⟩⟩⟩⟩⟩
      | cell4 sz hc=>exact ZdB (by decide) ⟨_,rfl,rfl,_,rfl,ZdB (by decide) ⟨_,rfl,rfl,_,rfl,ZdB (by decide) ⟨_,rfl,rfl,_,rfl,ZdB (by decide) ⟨_,rfl,a,dx,_,rfl,hk.ob,rfl,_,rfl,a,dx,t,l,prs,chs,y,d1,rfl,hk,r1,sz,hc,fun H1 s1=>⟨c1,rfl,E1.k,E1.sk,fun e he=>⟨_,rfl,fl H1 e c1 1 _ he s1 E1 (by decide) (by decide +kernel) q⟩⟩⟩⟩⟩⟩
      | @num0 i j _ hi hj hn =>
        obtain ⟨c,rfl,hc⟩:=ZhJ r1
        exact Zgc rfl ⟨_,rfl,a,dx,_,rfl,hk.ob,rfl,_,rfl,_,rfl,.inr ⟨a,dx,t,l,prs,chs,_,z,rfl,hk,.inr (.inl ⟨c,i,j,d2,rfl,hc,hi,hj,r2,hn,fun H1 s1=>⟨c2,rfl,E2.k,E2.sk,fun e he=>⟨_,rfl,fl H1 e c2 2 _ he s1 E2 (by decide) (by decide +kernel) q⟩⟩⟩)⟩⟩
      | num2 hn=>exact ZdB (by decide) ⟨_,rfl,rfl,_,rfl,ZdB (by decide) ⟨_,rfl,rfl,_,rfl,Zgc rfl ⟨_,rfl,a,dx,_,rfl,hk.ob,rfl,_,rfl,a,dx,t,l,prs,chs,y,d1,rfl,hk,r1,hn,fun H1 s1=>⟨c2,rfl,E2.k,E2.sk,fun e he=>⟨_,rfl,fl H1 e c2 2 _ he s1 E2 (by decide) (by decide +kernel) q⟩⟩⟩⟩⟩
      | @fit i j x hi hj ok =>
        obtain ⟨c,rfl,hc⟩:=ZhJ r1
        cases r2
        exact Zgc rfl ⟨_,rfl,a,dx,_,rfl,hk.ob,rfl,_,rfl,_,rfl,.inr ⟨a,dx,t,l,prs,chs,_,_,rfl,hk,.inr (.inr ⟨c,i,j,x,rfl,hc,hi,hj,rfl,ok,fun H1 s1=>⟨c7,rfl,E7.k,E7.sk,fun e he=>⟨_,rfl,fl H1 e c7 7 _ he s1 E7 (by decide) (by decide +kernel) q⟩⟩⟩)⟩⟩
      | place hp=>exact ZdB (by decide) ⟨_,rfl,rfl,_,rfl,ZdB (by decide) ⟨_,rfl,rfl,_,rfl,ZdB (by decide) ⟨_,rfl,rfl,_,rfl,Zgc rfl ⟨_,rfl,a,dx,_,rfl,hk.ob,rfl,_,rfl,a,dx,t,l,prs,chs,y,d1,rfl,hk,r1,hp,fun H1 s1=>⟨c6,rfl,E6.k,E6.sk,fun e he=>⟨_,rfl,fl H1 e c6 6 _ he s1 E6 (by decide) (by decide +kernel) q⟩⟩⟩⟩⟩⟩
    · exact ZdB (by decide) ⟨_,rfl,rfl,_,rfl,Zgc rfl ⟨_,rfl,a,dx,_,rfl,hk.ob,rfl,.inr ⟨a,dx,t,l,prs,rfl,hk,fun H1 s1=>⟨c8,rfl,E8.k,E8.sk,fun e he=>⟨_,rfl,fl H1 e c8 8 _ he s1 E8 (by decide) (by decide +kernel) q⟩⟩⟩⟩⟩
    · exact ZdB (by decide) ⟨_,rfl,rfl,_,rfl,Zgc rfl ⟨_,rfl,a,dx,_,rfl,hk.ob,rfl,.inl ⟨a,dx,t,l,u,c,prs,c0,i,j,x,rfl,hk,(by rw [List.length_append] at hcl;omega),ok,fun t' prs' r H1 ht' hq hnd hr' fr hrows er nra nrl hk1=>kN H1 (q t' prs' c0 H1 ht' (fun p hp=>(hq p hp).1) fr hrows rfl hk1)⟩⟩⟩
    · exact Zgc rfl ⟨_,rfl,a,dx,_,rfl,hk.ob,rfl,_,rfl,_,rfl,.inl ⟨a,dx,t,l,c,prs,chs,i,j,x,rfl,hk,hc,hi,hj,hcl,ok,fun t' prs' u r H1 ht' hq hnd hu hr' fr hrows er nra nrl hk1=>kN H1 (q t' prs' _ H1 ht' (fun p hp=>(hq p hp).1) fr hrows ⟨u,hu,rfl⟩ (by rw [ZbF];exact hk1))⟩⟩
end
theorem Zhw {tc:TT}{t u:TS}{D:Ends}{σ0:L2.St}{H0:Hp} (C:(L2.St→Hp→Prop)→Prop) (h:C (u D)) (hA:C (u D)→tc σ0 H0 (fun b H1=>if b=true then t { D with nx:=u D } σ0 H1 else u D σ0 H1)):tSeq (tIfS tc t Zdx) u D σ0 H0:=hA h
def abQ (st:Addr) (S0:List Addr) (H0:Hp):Ab:=⟨S0,fun H=>StK H st∧But st H0 H∧∀ b∈S0,H b≠none,fun h sm=>⟨h.1.same sm,h.2.1.trans (Same.but sm),fun b hb z=>h.2.2 b hb (sm.free z)⟩,fun h n z=>h.2.2 _ z n⟩
theorem abQ.step {st:Addr}{S0:List Addr}{H0 H H':Hp} (h:(abQ st S0 H0).J H) (b:But st H H') (s:StK H' st):(abQ st S0 H0).J H':=⟨s,h.2.1.trans b,fun c hc z=>by
  by_cases e:c=st
  · obtain ⟨_,_,_,es⟩:=s
    rw [e,es] at z
    cases z
  · cases ec:H c with
    | none=>exact h.2.2 c hc ec
    | some o =>
      rw [b c o e ec] at z
      cases z⟩
theorem Zg1 {st:Addr}{S0:List Addr}{H0:Hp}{σ:L2.St}{H:Hp}{Q:VK}{m:Int} (hst:σ[0]? = some (some (.ref st))) (hJ:(abQ st S0 H0).J H) (hS:st∈S0) (h0:0<m) (h1:m<100000)
    (k:∀ i H',0≤i→i<m→ButS S0 H H'→(abQ st S0 H0).J H'→Q (.int i) H'):tF ZaW (ZbL (tVar 0) (ZbL (tC (.int m)) tNil)) σ H Q :=
  ⟨_,hst,st,m,rfl,h0,h1,hJ.1,fun d H' d0 d1 b s=>k d H' d0 d1 (fun c o n e=>b c o (fun z=>n (by rw [z];exact hS)) e) (abQ.step hJ b s)⟩
def BadC (n w:Nat) (d:PyData):Prop:=ZbT n w d=false∧Sz 3000 6 d
theorem ZgV {n w:Nat}{a b:PyData} (h:∀ i,a=.int i→¬ (0≤i∧i<n)):ZbT n w (.tuple [a,b])=false:=by
  cases a <;> first | rfl | skip
  cases b <;> first | rfl | skip
  exact ZcC fun z=>h _ rfl z.1
theorem ZgU {n w:Nat}{a b:PyData} (h:∀ i,b=.int i→¬ (0≤i∧i<w)):ZbT n w (.tuple [a,b])=false:=by
  cases a <;> first | rfl | skip
  cases b <;> first | rfl | skip
  exact ZcC fun z=>h _ rfl z.2
theorem Zcy {i:Nat}{v:V}{σ:L2.St}{H:Hp}{F:L2.St→Hp→Prop} (h:F (σ.set i (some v)) H):ZaP i v σ H F:=h
def asgE:Stmt→Expr
  | .Assign _ e _=>e
  | _=>.Constant .none 0 ⟨0,0,0,0⟩
theorem ZgF {X:Cx}{Γ:EnB}{A:TyB}{i:Nat}{x:Str} (s s':Stmt) {p1 p2:Pos} (h0:s=s') (h:s=.Assign [.Name x p1] (asgE s) p2) (hN:X.N.Nodup) (hi:X.N[i]? = some x) (hx:Loc X.env.scope x) (hs:swapsWith (asgE s) (some (.Name x p1)) p2.line X.env=pure false) (he:AE X Γ (asgE s) A)
    (hf:X.fn x=true∨X.env.scope.names.lookup x=some .local:=by first | exact .inl rfl | exact .inr rfl | assumption):PS X s' (tAsg (tA Γ A) (ZaP i)):=by
  subst h0
  rw [h]
  exact Zaj hN hi hx he.pe hs hf
theorem ZdS {a b:Expr}{p:Pos}{t:Option Expr}{l:Nat}{env:Env}:swapsWith (.Subscript a b p) t l env=pure false:=rfl
theorem Zlq {d e:PyData}{c k:Nat} (h1:Sz c k d) (h2:Sz c k e):Sz (2 * c+7) (k+1) (.tuple [d,e]):=(ZcV (n:=2) (fun x hx=>by
  rcases List.mem_cons.mp hx with z | z
  · rw [z];exact h1
  · rw [List.mem_singleton.mp z];exact h2) (show [d,e].length≤2 from Nat.le_refl 2)).mono (by omega) (by omega)
theorem Zoo {n w:Nat}{a b c:PyData}:ZbT n w (.tuple [a,b,c])=false:=by
  cases a <;> first | rfl | (cases b <;> rfl)
theorem Zop {n w:Nat}{a:PyData}:ZbT n w (.tuple [a])=false:=by
  cases a <;> rfl
theorem Zkq {z:Int}{n:Nat} (h:0≤z∧z<n) (hn:n≤6):Sz 41 0 (.int z):=Zch (Nat.lt_of_lt_of_le (show z.natAbs<10 by omega) (by decide))
theorem Zcp {X:Cx}{Γ:EnB}{e1 e2:Expr}{φ1 φ2 φ:PyData→Prop}{pos:Pos}{x1} (sg:StbE Γ) (h1:AE X Γ e1 (tD φ1)) (h2:AE X Γ e2 (tD φ2)) (hφ:∀ a b,φ1 a→φ2 b→φ (.tuple [a,b])) (hs1:starEach [e1,e2] X.env=(false,eval e1 X.env) :: starEach [e2] X.env:=by rfl) (hs2:starEach [e2] X.env=(false,eval e2 X.env) :: starEach [] X.env:=by rfl) :
    AE X Γ (.Tuple [e1,e2] x1 pos) (tD φ):=ZhO (Zbg sg h1 (Zbg sg h2 Zcn hs2) hs1) (fun ds ⟨a,r,e,_,b,r2,e2,_,e3⟩=>by rw [e,e2,e3];exact (by decide:2≤1000)) fun ds ⟨a,r,e,pa,b,r2,e2,pb,e3⟩=>by
  subst e e2 e3
  exact hφ a b pa pb
theorem ZdN {qs:Prs}{B:Nat} (hg:tabB qs=true) (h:∀ p∈qs,∀ n∈p.2,n.natAbs≤B) {i j:Nat} (hi:i<qs.length) (hj:j<w0 qs):(ZaD (qs.map (·.2)) i j).natAbs≤B:=by
  obtain ⟨g,_⟩:=ZaI hg
  obtain ⟨p,hp,_,e⟩:=ZaE hi
  have hl:j<p.2.length:=by rw [g.len p hp];exact hj
  rw [ZbF,e,List.getD_eq_getElem?_getD,List.getElem?_eq_getElem hl]
  exact h p hp _ (List.getElem_mem hl)
theorem Zgt {qs:Prs}{B:Nat} (hg:tabB qs=true) (h:∀ p∈qs,∀ n∈p.2,n.natAbs≤B) {i j:Nat} (hi:i<qs.length) (hj:j<w0 qs) {m:Int} (hm:(ZaR (qs.map (·.2)) i j).max? = some m):m.natAbs≤B:=by
  have hm:=(List.max?_eq_some_iff.mp hm).1
  unfold ZaR at hm
  rcases List.mem_append.mp hm with z | z
  · split at z
    · rw [List.mem_singleton.mp z]
      exact ZdN hg h (by omega) hj
    · cases z
  · split at z
    · rw [List.mem_singleton.mp z]
      exact ZdN hg h hi (by omega)
    · cases z
theorem ZeX {qs:Prs}{B:Nat} (hg:tabB qs=true) (h:∀ p∈qs,∀ n∈p.2,n.natAbs≤B) {i j:Nat} (hi:i<qs.length) (hj:j<w0 qs) {m:Int} (hm:(Zaz (qs.map (·.2)) i j).min? = some m):m.natAbs≤B:=by
  have hm:=(List.min?_eq_some_iff.mp hm).1
  unfold Zaz at hm
  rw [ZcS,List.length_map] at hm
  rcases List.mem_append.mp hm with z | z
  · split at z
    · rw [List.mem_singleton.mp z]
      exact ZdN hg h (by omega) hj
    · cases z
  · split at z
    · rw [List.mem_singleton.mp z]
      exact ZdN hg h hi (by omega)
    · cases z
section
variable {P:Program}{w:World}{K:PySem.W.Frag}{mg:Str→Option Value}{base:Heap}{C S c0:Addr}{cs:List Addr}
def Zlr:Sp:=fun vs H Q _=>∃ (x:V) (d:PyData),vs=[x]∧RdS [] H x d∧¬ GoodD d∧∀ H',Same H H'→Q (.bl true) H'
theorem sc_noKp:FnScope ["bad","caught","e"] ["bad"] (Zag Zem):=⟨rfl,rfl,rfl,by decide +kernel,rfl,by decide +kernel,by decide +kernel⟩
theorem Zms (N:Nms mg S cs) (kS:ExcK K S) (E0:Err K S cs 0 c0) (kM:KpM K mg C) (Df:Zao K mg "_law_no_keeper" Zem ["bad"]) (M:MtAtX P w K mg base 7 C "__init__" ["self","table"] (ZiA c0)) (G3:FnAt P w K mg base 1 "_law_kind" ["e","due"] (Ziy K S cs)):FnAt P w K mg base 9 "_law_no_keeper" ["bad"] Zlr:=by
  refine FnAt.of Df sc_noKp (fun vs H Q E h=>?_) (fun f cdv A outer s H vs Q E hr h=>?_)
  · obtain ⟨x,d,rfl,_⟩:=h
    rfl
  · obtain ⟨x,d,rfl,rd,hn,q⟩:=h
    have nd:=sc_noKp.nd
    have hr1:Room 1 _:=hr.mono (show 1≤8 by decide)
    refine ⟨_,Zac (Zaj (i:=1) nd rfl (Or.inl rfl) Zcd) (Zac (ZlB (i:=2) rfl rfl nd kS N.seek (fun pn W R hR=>Zaf (Zau (Zmi M kM.mks kM.kp hr hR rfl kM.gl (Zaa (pv 0) Zab))))
      (fun v=>Zaf (Zaj (i:=1) nd rfl (Or.inl rfl) (pv 2)))) (Zaf (Zan (Zb2 (Zdi Ze9 (pv 1) Zcd (Zax _)) (Zcj (pe_f G3 hr1 (Zaa (pv 1) (Zaa Zbh Zab)))))))),?_⟩
    refine ⟨_,rfl,fun a dx ha hdx ne=>?_⟩
    have s1:Same H (upd (upd H dx (.own a)) a (.ins C dx [])):=(Same.new hdx).trans (Same.new (by rw [Zal (Ne.symm ne)];exact ha))
    generalize upd (upd H dx (.own a)) a (.ins C dx [])=H1 at s1 ⊢
    refine ⟨a,x,d,rfl,rd.same s1,hn,fun H2 s2=>⟨c0,rfl,E0.k,E0.sk,fun e he=>?_⟩⟩
    have s3:=(s1.trans s2).trans (Same.new (o:=excO e c0) he)
    have e3:(upd H2 e (excO e c0)) e=some (excO e c0):=Zad
    generalize upd H2 e (excO e c0)=H3 at s3 e3 ⊢
    exact ⟨_,rfl,_,rfl,rfl,_,rfl,iteT ⟨_,rfl,e,c0,0, "table",rfl,e3,E0,by decide,by decide +kernel,fun H4 s4=>q H4 (s3.trans s4)⟩⟩
def OddC (d:PyData):Prop:=(∀ i,d=.int i→i<0∨6≤i)∧Sz 400 3 d
theorem Zji {d:PyData} (h:OddC d) {n:Nat} (hn:n≤6):∀ i,d=.int i→¬ (0≤i∧i<n):=fun i e z=>by
  have:=h.1 i e
  omega
theorem ZbO {d:PyData} (h:ZaG d=false) (z:Sz 400 3 d):OddC d:=⟨fun i e=>(by rw [e] at h;cases h),z⟩
def Zg9:Sp:=fun vs H Q _=>∃ (st t:Addr) (prs:Prs),vs=[.ref st,.ref t]∧StK H st∧Tab H t prs∧t≠st∧(∀ p∈prs,p.1≠st)∧tabB prs=true∧∀ v d H',But st H H'→StK H' st→RdS [st] H' v d→BadC prs.length (w0 prs) d→Q v H'
abbrev ncN:List Str:=["store","table","row","place","odd","some"]
theorem sc_noCell:FnScope ncN ["store","table"] (Zag Zbf):=⟨rfl,rfl,rfl,by decide +kernel,rfl,by decide +kernel,by decide +kernel⟩
set_option maxHeartbeats 4000000 in
theorem Zi2 (T:Blt mg) (D:Zao K mg "_law_no_cell" Zbf ["store","table"]) (G3:FnAt P w K mg base 1 "_law_take" ["store","many"] ZaW):FnAt P w K mg base 2 "_law_no_cell" ["store","table"] Zg9:=by
  refine FnAt.of D sc_noCell (fun vs H Q E h=>?_) (fun f cdv A outer s H vs Q E hr h=>?_)
  · obtain ⟨st,t,prs,rfl,_⟩:=h
    rfl
  · obtain ⟨st,t,prs,rfl,hst,hT,nt,np,hg,q⟩:=h
    have nd:=sc_noCell.nd
    have hr1:Room 1 _:=hr
    obtain ⟨g,g1,g2,g3,g4⟩:=ZaI hg
    obtain ⟨p0,hp0,hm0,hx0⟩:=Zbe (prs:=prs) g1
    have hS:st∈[st]:=.head _
    have hTS:t∉[st]:=fun z=>nt (List.mem_singleton.mp z)
    have hpS:∀ p∈prs,p.1∉[st]:=fun p hp z=>np p hp (List.mem_singleton.mp z)
    let X:Cx:=(cxOf CX0 P w K mg base ncN "_law_no_cell" (Zag Zbf) f cdv A outer s H E).nox
    let Γ0:EnB:=fun B1 σ H1=>B1=abQ st [st] H∧σ[0]? = some (some (.ref st))
    let Γ8:EnB:=fun B1 σ H1=>Γ0 B1 σ H1∧(σ[1]? = some (some (.ref t))∧Tab H1 t prs)∧VP B1 σ H1 2 (IP fun z=>0≤z∧z<prs.length)∧VP B1 σ H1 3 (IP fun z=>0≤z∧z<w0 prs)∧VP B1 σ H1 4 OddC
    let ΓC:Nat→EnB:=fun k B1 σ H1=>Γ8 B1 σ H1∧VP B1 σ H1 5 (LP (BadC prs.length (w0 prs)) k k)
    have s0:StbE Γ0:=fun _ _ _ _ h b=>h
    have s8:StbE Γ8:=fun B1 σ H1 H2 ⟨⟨e,z0⟩,⟨z1,z2⟩,z3,z4,z5⟩ b=>by
      subst e
      exact ⟨⟨rfl,z0⟩,⟨z1,b _ _ hTS z2.l,fun p hp=>b _ _ (hpS p hp) (z2.r p hp)⟩,z3.but b,z4.but b,z5.but b⟩
    have sC:∀ k,StbE (ΓC k):=fun k B1 σ H1 H2 ⟨h1,h2⟩ b=>⟨s8 _ _ _ _ h1 b,h2.but b⟩
    have takeE:∀ {Γ:EnB}{e:Expr}{m:Int},(∀ B σ H1,Γ B σ H1→Γ0 B σ H1)→0<m→m<100000→PE X e (tF ZaW (ZbL (tVar 0) (ZbL (tC (.int m)) tNil)))→AE X Γ e (tD (IP fun z=>0≤z∧z<m)):=fun hΓ h0 h1 he=>⟨Za1 he fun σ H1 Q1 ⟨B1,hg1,j1,q1⟩=>by
      obtain ⟨e,z⟩:=hΓ _ _ _ hg1
      subst e
      exact Zg1 z j1 hS h0 h1 fun i H' i0 i1 b j'=>q1 _ H' b j' ⟨_,.int i,i,rfl,i0,i1⟩⟩
    have takeQ:∀ {Γ:EnB}{m:Int},(∀ B σ H1,Γ B σ H1→Γ0 B σ H1)→0<m→m<100000→∀ (B1:Ab) (σ:L2.St) (H1:Hp) (Q1:VK),Γ B1 σ H1→B1.J H1→(∀ (i:Int) H',0≤i→i<m→ButS B1.S H1 H'→B1.J H'→Q1 (.int i) H')→tF ZaW (ZbL (tVar 0) (ZbL (tC (.int m)) tNil)) σ H1 Q1:=fun hΓ h0 h1 B1 σ H1 Q1 h j k=>by
      obtain ⟨e,z⟩:=hΓ _ _ _ h
      subst e
      exact Zg1 z j hS h0 h1 fun i H' i0 i1 b j'=>k i H' i0 i1 b j'
    obtain ⟨S2,e2⟩:∃ S,S=(Zar Zbf).getD 2 (.Pass ⟨0,0,0,0⟩):=⟨_,rfl⟩
    have E2:AE X Γ0 (asgE ((Zar Zbf).getD 2 (.Pass ⟨0,0,0,0⟩))) (tD OddC):=ZfB (lo:=10) (hi:=10) (Zbb (Zai s0 (Zay (.bool true) s0 rfl (ZbO rfl (Zbr (by decide +kernel)))) (Zai s0 (Zay (.bool false) s0 rfl (ZbO rfl (Zbr (by decide +kernel)))) (Zai s0 (Zay .none s0 rfl (ZbO rfl (Zbr (by decide +kernel))))
      (Zai s0 (Zay (.str "0") s0 rfl (ZbO rfl (Zbr (by decide +kernel)))) (Zai s0 (Zay (.list [.int 0]) s0 rfl (ZbO rfl (Zbr (by decide +kernel)))) (Zai s0 (Zay (.tuple [.int 0]) s0 rfl (ZbO rfl (Zbr (by decide +kernel)))) (Zai s0 (Zay (.dict []) s0 rfl (ZbO rfl (Zbr (by decide +kernel))))
      (Zai s0 ⟨Za1 (Zas ZmC Zae Zae) fun σ H1 Q1 ⟨B1,hg1,j1,q1⟩=>⟨_,_,rfl,rfl,⟨by decide,by decide,by decide⟩,q1 _ H1 (ButS.refl _ _) j1 ⟨.int (10 ^ 25),.int _,(fun i e=>by injection e with e;omega),Zbr (by decide +kernel)⟩⟩⟩ (Zai s0 (Zay (.str "") s0 rfl (ZbO rfl (Zbr (by decide +kernel))))
      (Zai s0 (Za4 (Zdw (p:=(· = -1)) s0 (Za4 (ZcQ (Zaw Zae)) fun d e=>⟨-1,e,rfl⟩) (takeE (m:=40) (fun _ _ _ h=>h) (by decide) (by decide) (pe_f G3 hr1 (Zaa (pv 0) (Zaa Zae Zab))))) fun d ⟨z,e,a,b,ha,hb,hz⟩=>by
        subst e
        exact ⟨fun i e=>(by injection e with e;omega),(Zch (Nat.lt_of_lt_of_le (show z.natAbs<100 by omega) (by decide))).mono (by decide) (by decide)⟩) ZbC)))))))))))
      (pe_f G3 hr1 (Zaa (pv 0) (Zaa Zae Zab))) (fun _ _=>rfl) (takeQ (m:=10) (fun _ _ _ h=>h) (by decide) (by decide)) s0
    have A2:PS X S2 (tAsg (tA Γ0 (tD OddC)) (ZaP 4)):=ZgF _ _ e2.symm rfl nd rfl (Or.inl rfl) ZdS E2
    clear E2
    have vR:∀ {e:Expr},PE X e (tVar 2)→AE X Γ8 e (tD (IP fun z=>0≤z∧z<prs.length)):=fun h=>Za9 h fun B1 σ H1 h=>h.2.2.1
    have vP:∀ {e:Expr},PE X e (tVar 3)→AE X Γ8 e (tD (IP fun z=>0≤z∧z<w0 prs)):=fun h=>Za9 h fun B1 σ H1 h=>h.2.2.2.1
    have uR:∀ {e:Expr},PE X e (tVar 2)→AE X (ΓC 4) e (tD (IP fun z=>0≤z∧z<prs.length)):=fun h=>Za9 h fun B1 σ H1 h=>h.1.2.2.1
    have uP:∀ {e:Expr},PE X e (tVar 3)→AE X (ΓC 4) e (tD (IP fun z=>0≤z∧z<w0 prs)):=fun h=>Za9 h fun B1 σ H1 h=>h.1.2.2.2.1
    have uO:∀ {e:Expr},PE X e (tVar 4)→AE X (ΓC 4) e (tD OddC):=fun h=>Za9 h fun B1 σ H1 h=>h.1.2.2.2.2
    have szR:∀ {d:PyData}{m:Nat},m≤6→IP (fun z=>0≤z∧z<(m:Nat)) d→Sz 400 3 d:=fun {d m} hm h=>by
      obtain ⟨z,rfl,hz⟩:=h
      exact (Zkq hz hm).mono (by decide) (by decide)
    have szI:∀ {z:Int},z.natAbs<100→Sz 400 3 (.int z):=fun h=>(Zch (Nat.lt_of_lt_of_le h (by decide))).mono (by decide) (by decide)
    have bad2:∀ {a b:PyData},ZbT prs.length (w0 prs) (.tuple [a,b])=false→Sz 400 3 a→Sz 400 3 b→BadC prs.length (w0 prs) (.tuple [a,b]):=fun h h1 h2=>⟨h,(Zlq h1 h2).mono (by decide) (by decide)⟩
    have neg1:∀ {Γ:EnB}{e:Expr},PE X e (tC (.int 1))→∀ {pos:Pos},AE X Γ (.UnaryOp .USub e pos) (tD (IP (· = -1))):=fun he _=>Za4 (ZcQ (Zaw he)) fun d e=>⟨-1,e,rfl⟩
    obtain ⟨S3,e3⟩:∃ S,S=(Zar Zbf).getD 3 (.Pass ⟨0,0,0,0⟩):=⟨_,rfl⟩
    have A3:PS X ((Zar Zbf).getD 3 (.Pass ⟨0,0,0,0⟩)) _:=Zaj (i:=5) nd rfl (Or.inl rfl) (AE.pe (A:=tD (LP (BadC prs.length (w0 prs)) 4 4)) (Γ:=Γ8) (Zbb
      (Zai s8 (Zcp s8 (Zkk (p:=(· = (prs.length:Int))) s8 ⟨Za1 (pe_b Zah T.len boot_len (Zaa (pv 1) Zab)) fun σ H1 Q1 ⟨B1,hg1,j1,q1⟩=>⟨_,hg1.2.1.1,t,_,rfl,.inl hg1.2.1.2.sq,by rw [List.length_map];exact q1 _ H1 (ButS.refl _ _) j1 ⟨_,.int _,_,rfl,rfl⟩⟩⟩ (takeE (m:=9) (fun _ _ _ h=>h.1) (by decide) (by decide) (pe_f G3 hr1 (Zaa (pv 0) (Zaa Zae Zab))))) (vP (pv 3)) fun a b ⟨z,ez,x,y,hx,hy,hz⟩ hb=>by
          subst ez
          exact bad2 (ZgV fun i e z'=>by injection e with e;omega) (szI (by omega)) (szR g4 hb))
      (Zai s8 (Zcp s8 (φ2:=(· = .int (w0 prs:Nat))) (vR (pv 2)) ⟨Za1 (pe_b Zah T.len boot_len (Zaa (Zav Zam (pv 1) Zae (fun _ _=>rfl)) Zab)) fun σ H1 Q1 ⟨B1,hg1,j1,q1⟩=>⟨_,hg1.2.1.1,t,_,0,.ref p0.1,rfl,rfl,hg1.2.1.2.sq,ZaB (j:=0) (by rw [List.getElem?_map,hx0];rfl),p0.1,_,rfl,.inl (hg1.2.1.2.r p0 hm0).sq,by rw [List.length_map,g.len p0 hm0];exact q1 _ H1 (ButS.refl _ _) j1 ⟨_,.int _,rfl⟩⟩⟩ fun a b ha hb=>by
          subst hb
          exact bad2 (ZgU fun i e z=>by injection e with e;omega) (szR g2 ha) (szI (by omega)))
      (Zai s8 (Zcp s8 (Zdw s8 (neg1 Zae) (vR (pv 2))) (vP (pv 3)) fun a b ⟨z,ez,x,y,hx,hy,hz⟩ hb=>by
          subst ez
          exact bad2 (ZgV fun i e z'=>by injection e with e;omega) (szI (by omega)) (szR g4 hb))
      (Zai s8 (Zcp s8 (vR (pv 2)) (Zdw s8 (neg1 Zae) (vP (pv 3))) fun a b ha ⟨z,ez,x,y,hx,hy,hz⟩=>by
          subst ez
          exact bad2 (ZgU fun i e z'=>by injection e with e;omega) (szR g2 ha) (szI (by omega))) ZbC))))))
    rw [← e3] at A3
    obtain ⟨S4,e4⟩:∃ S,S=(Zar Zbf).getD 4 (.Pass ⟨0,0,0,0⟩):=⟨_,rfl⟩
    have oP:∀ {a b:PyData},OddC a→IP (fun z=>0≤z∧z<(w0 prs:Nat)) b→BadC prs.length (w0 prs) (.tuple [a,b]):=fun ha hb=>bad2 (ZgV (Zji ha g2)) ha.2 (szR g4 hb)
    have oR:∀ {a b:PyData},IP (fun z=>0≤z∧z<(prs.length:Nat)) a→OddC b→BadC prs.length (w0 prs) (.tuple [a,b]):=fun ha hb=>bad2 (ZgU (Zji hb g4)) (szR g2 ha) hb.2
    have A4:PS X ((Zar Zbf).getD 4 (.Pass ⟨0,0,0,0⟩)) _:=Zaj (i:=5) nd rfl (Or.inl rfl) (AE.pe (A:=tD (LP (BadC prs.length (w0 prs)) (4+8) (4+8))) (Γ:=ΓC 4) (ZbW (sC 4) (Za9 (pv 5) fun B1 σ H1 h=>h.2) (Zbb
      (Zai (sC 4) (Zcp (sC 4) (uO (pv 4)) (uP (pv 3)) fun a b=>oP) (Zai (sC 4) (Zcp (sC 4) (uO (pv 4)) (uP (pv 3)) fun a b=>oP) (Zai (sC 4) (Zcp (sC 4) (uR (pv 2)) (uO (pv 4)) fun a b=>oR) (Zai (sC 4) (Zcp (sC 4) (uR (pv 2)) (uO (pv 4)) fun a b=>oR)
      (Zai (sC 4) (ZhO (Zbg (sC 4) (uR (pv 2)) Zcn) (fun ds ⟨d,r,e,_,e2⟩=>by rw [e,e2];exact (by decide:1≤1000)) fun ds ⟨d,r,e,h1,e2⟩=>by
          subst e e2
          exact ⟨Zop,(ZcV (n:=1) (fun x hx=>by rw [List.mem_singleton.mp hx];exact szR g2 h1) (show [d].length≤1 from Nat.le_refl 1)).mono (by decide) (by decide)⟩)
      (Zai (sC 4) (ZhO (Zbg (sC 4) (uR (pv 2)) (Zbg (sC 4) (uP (pv 3)) (Zbg (sC 4) (ZlX Zae) Zcn))) (fun ds ⟨d,r,e,_,d2,r2,e2,_,d3,r3,e3,_,e4⟩=>by rw [e,e2,e3,e4];exact (by decide:3≤1000)) fun ds ⟨d,r,e,h1,d2,r2,e2,h2,d3,r3,e3,⟨z,ez,hz⟩,e4⟩=>by
          subst e e2 e3 e4 ez hz
          exact ⟨Zoo,(ZcV (n:=3) (fun x hx=>by
            rcases List.mem_cons.mp hx with y | y
            · rw [y];exact szR g2 h1
            · rcases List.mem_cons.mp y with y | y
              · rw [y];exact szR g4 h2
              · rw [List.mem_singleton.mp y];exact szI (by decide)) (show [d,d2,.int 0].length≤3 from Nat.le_refl 3)).mono (by decide) (by decide)⟩)
      (Zai (sC 4) (ZhP (Zbg (sC 4) (uR (pv 2)) (Zbg (sC 4) (uP (pv 3)) Zcn)) (fun ds ⟨d,r,e,_,d2,r2,e2,_,e3⟩=>by rw [e,e2,e3];exact (by decide:2≤1000)) fun ds ⟨d,r,e,h1,d2,r2,e2,h2,e3⟩=>by
          subst e e2 e3
          exact ⟨rfl,(ZbH (n:=2) (fun x hx=>by
            rcases List.mem_cons.mp hx with y | y
            · rw [y];exact szR g2 h1
            · rw [List.mem_singleton.mp y];exact szR g4 h2) (show [d,d2].length≤2 from Nat.le_refl 2)).mono (by decide) (by decide)⟩)
      (Zai (sC 4) (Za4 (uR (pv 2)) fun d h=>⟨by obtain ⟨z,rfl,_⟩:=h;rfl,(szR g2 h).mono (by decide) (by decide)⟩) ZbC)))))))))))
    rw [← e4] at A4
    obtain ⟨S5,e5⟩:∃ S,S=(Zar Zbf).getD 5 (.Pass ⟨0,0,0,0⟩):=⟨_,rfl⟩
    have A5:PS X ((Zar Zbf).getD 5 (.Pass ⟨0,0,0,0⟩)) _:=Zan (AE.pe (A:=tD (BadC prs.length (w0 prs))) (Γ:=ΓC 12) (ZfB (lo:=12+5) (hi:=12+5) (ZbW (sC 12) (Za9 (pv 5) fun B1 σ H1 h=>h.2) (Zbb
      (Zai (sC 12) (Zay .none (sC 12) rfl ⟨rfl,Zbr (by decide +kernel)⟩) (Zai (sC 12) (Zay (.str "") (sC 12) rfl ⟨rfl,Zbr (by decide +kernel)⟩) (Zai (sC 12) (Zay (.tuple []) (sC 12) rfl ⟨rfl,Zbr (by decide +kernel)⟩) (Zai (sC 12) (Zay (.dict []) (sC 12) rfl ⟨rfl,Zbr (by decide +kernel)⟩) (Zai (sC 12) (Zay (.bool true) (sC 12) rfl ⟨rfl,Zbr (by decide +kernel)⟩) ZbC)))))))
      (pe_f G3 hr1 (Zaa (pv 0) (Zaa Zae Zab))) (fun _ _=>rfl) (takeQ (m:=17) (fun _ _ _ h=>h.1.1) (by decide) (by decide)) (sC 12)))
    rw [← e5] at A5
    have hbd:Zar Zbf=[(Zar Zbf).getD 0 (.Pass ⟨0,0,0,0⟩),(Zar Zbf).getD 1 (.Pass ⟨0,0,0,0⟩),S2,S3,S4,S5]:=by
      rw [e2,e3,e4,e5]
      kernel_rfl
    rw [hbd]
    clear hbd e2 e3 e4 e5
    refine ⟨_,Zac (Zaj (i:=2) nd rfl (Or.inl rfl) (pe_f G3 hr1 (Zaa (pv 0) (Zaa (pe_b Zah T.len boot_len (Zaa (pv 1) Zab)) Zab))))
      (Zac (Zaj (i:=3) nd rfl (Or.inl rfl) (pe_f G3 hr1 (Zaa (pv 0) (Zaa (pe_b Zah T.len boot_len (Zaa (Zav Zam (pv 1) Zae (fun _ _=>rfl)) Zab)) Zab))))
      (Zac A2 (Zac A3 (Zac A4 (Zaf A5))))),?_⟩
    clear A2 A3 A4 A5
    refine ⟨_,rfl,_,rfl,t,_,rfl,.inl hT.sq,st,_,rfl,?_,?_,hst,fun r H1 r0 r1 b1 st1=>?_⟩
    · rw [List.length_map];omega
    · rw [List.length_map];omega
    rw [List.length_map] at r1
    have hT1:=hT.but nt np b1
    refine ⟨_,rfl,_,rfl,t,_,0,.ref p0.1,rfl,rfl,hT1.sq,ZaB (j:=0) (by rw [List.getElem?_map,hx0];rfl),p0.1,_,rfl,.inl (hT1.r p0 hm0).sq,st,_,rfl,?_,?_,st1,fun p H2 p10 p11 b2 st2=>?_⟩
    · rw [List.length_map,g.len p0 hm0];omega
    · rw [List.length_map,g.len p0 hm0];omega
    rw [List.length_map,g.len p0 hm0] at p11
    have hT2:=hT1.but nt np b2
    have j2:(abQ st [st] H).J H2:=abQ.step (abQ.step ⟨hst,But.refl _ _,fun b hb=>by
      rw [List.mem_singleton.mp hb]
      obtain ⟨_,_,_,e⟩:=hst
      rw [e]
      exact fun z=>nomatch z⟩ b1 st1) b2 st2
    refine ⟨abQ st [st] H,⟨rfl,rfl⟩,j2,fun ov H3 b3 j3 ho=>?_⟩
    refine Zcy ?_
    dsimp only
    have tm:∀ {H' H'':Hp},Tab H' t prs→ButS [st] H' H''→Tab H'' t prs:=fun h b=>⟨b _ _ hTS h.l,fun p hp=>b _ _ (hpS p hp) (h.r p hp)⟩
    have vi:∀ {H':Hp}{k m:Int},0≤k→k<m→tD (IP fun z=>0≤z∧z<m) (abQ st [st] H) (.int k) H':=fun h1 h2=>⟨_,.int _,_,rfl,h1,h2⟩
    have hT3:=tm hT2 b3
    refine ⟨abQ st [st] H,⟨⟨rfl,rfl⟩,⟨rfl,hT3⟩,⟨_,rfl,vi r0 r1⟩,⟨_,rfl,vi p10 p11⟩,⟨ov,rfl,ho⟩⟩,j3,fun v4 H4 b4 j4 h4=>?_⟩
    have hT4:=tm hT3 b4
    have ho4:=st_d _ _ _ _ ho b4
    refine ⟨abQ st [st] H,⟨⟨⟨rfl,rfl⟩,⟨rfl,hT4⟩,⟨_,rfl,vi r0 r1⟩,⟨_,rfl,vi p10 p11⟩,⟨ov,rfl,ho4⟩⟩,⟨v4,rfl,h4⟩⟩,j4,fun v5 H5 b5 j5 h5=>?_⟩
    have hT5:=tm hT4 b5
    have ho5:=st_d _ _ _ _ ho4 b5
    refine ⟨abQ st [st] H,⟨⟨⟨rfl,rfl⟩,⟨rfl,hT5⟩,⟨_,rfl,vi r0 r1⟩,⟨_,rfl,vi p10 p11⟩,⟨ov,rfl,ho5⟩⟩,⟨v5,rfl,h5⟩⟩,j5,fun v6 H6 b6 j6 ⟨d,rd,hd⟩=>?_⟩
    exact q v6 d H6 j6.2.1 j6.1 rd hd
end
theorem Zke {rows:List (List Int)}{i j:Nat} (x:Int) (h:Rok rows) (hi:i<rows.length) (hj:j<wR rows):ZaR (setR rows i j x) i j=ZaR rows i j:=by
  have hjl:j<(rows.getD i []).length:=by rw [h.len i hi];exact hj
  unfold ZaR
  rw [Zbm x hi hjl,Zbm x hi hjl]
  by_cases h1:0<i <;> by_cases h2:0<j <;> simp [h1,h2] <;> omega
theorem Zih {rows:List (List Int)}{i j:Nat} (x:Int) (h:Rok rows) (hi:i<rows.length) (hj:j<wR rows):Zaz (setR rows i j x) i j=Zaz rows i j:=by
  have hjl:j<(rows.getD i []).length:=by rw [h.len i hi];exact hj
  unfold Zaz
  rw [Zbm x hi hjl,Zbm x hi hjl,Ze5,Zgz j x hi]
  by_cases h1:i+1<rows.length <;> by_cases h2:j+1<wR rows <;> simp [h1,h2]
theorem Zge {rows:List (List Int)}{i j:Nat}{x:Int} (h:Rok rows) (hi:i<rows.length) (hj:j<wR rows) (g:Rok (setR rows i j x)):Betw (ZaR rows i j).max? (Zaz rows i j).min? x:=by
  have hjl:j<(rows.getD i []).length:=by rw [h.len i hi];exact hj
  have ex:ZaD (setR rows i j x) i j=x:=by rw [Zbm x hi hjl,if_pos ⟨rfl,rfl⟩]
  have hi':i<(setR rows i j x).length:=by rw [Ze5];exact hi
  have hj':j<wR (setR rows i j x):=by rw [Zgz j x hi];exact hj
  refine ⟨fun m hm=>?_,fun m hm=>?_⟩
  · have:=ZhN g hi' hj' (by rw [Zke x h hi hj];exact (List.max?_eq_some_iff.mp hm).1)
    rw [ex] at this
    exact this
  · have:=Zgr g hi' hj' (by rw [Zih x h hi hj];exact (List.min?_eq_some_iff.mp hm).1)
    rw [ex] at this
    exact this
theorem ZlI {rows:List (List Int)}{i j:Nat}{x:Int} (h:Rok rows) (hi:i<rows.length) (hj:j<wR rows) (b:¬ Betw (ZaR rows i j).max? (Zaz rows i j).min? x):Zbj (setR rows i j x)=false:=by
  cases e:Zbj (setR rows i j x) with
  | false=>rfl
  | true=>exact absurd (Zge h hi hj (ZiN e)) b
def forT:Stmt→Expr
  | .For t _ _ _ _=>t
  | _=>.Constant .none 0 ⟨0,0,0,0⟩
def forI:Stmt→Expr
  | .For _ i _ _ _=>i
  | _=>.Constant .none 0 ⟨0,0,0,0⟩
def forB:Stmt→List Stmt
  | .For _ _ b _ _=>b
  | _=>[]
def forP:Stmt→Pos
  | .For _ _ _ _ p=>p
  | _=>⟨0,0,0,0⟩
def OddN (d:PyData):Prop:=ZaG d=false∧Sz 400 3 d
def LowD (N:Nat) (d:PyData):Prop:=Zc2 N d=false∧Sz 400 3 d
theorem ZfU {N:Nat}{k:Int} (h:¬ (0≤k∧k<N)):Zc2 N (.int k)=false:=by
  cases e:Zc2 N (.int k) with
  | false=>rfl
  | true =>
    simp only [Zc2,Bool.and_eq_true,decide_eq_true_eq] at e
    exact absurd e h
theorem ZhX {N:Nat}{d:PyData} (h:ZaG d=false):Zc2 N d=false:=by
  cases d <;> first | rfl | cases h
def RowD (n m:Nat) (rows:List (List Int)) (d:PyData):Prop:=∃ door d1 d2 i wd,d=.tuple [.int door,d1,d2,.str wd]∧RefD n m rows door d1 d2 i wd∧Sz 10000 20 d1∧Sz 10000 20 d2
theorem ZcI {X:Cx}{Γ:EnB}{e1 e2 e3 e4:Expr}{φ1 φ2 φ:PyData→Prop}{pos:Pos}{x1}{door:Int}{wd:Str} (sg:StbE Γ) (h1:AE X Γ e1 (tE (.int door))) (h2:AE X Γ e2 (tD φ1)) (h3:AE X Γ e3 (tD φ2)) (h4:AE X Γ e4 (tE (.str wd))) (hφ:∀ a b,φ1 a→φ2 b→φ (.tuple [.int door,a,b,.str wd]))
    (hs1:starEach [e1,e2,e3,e4] X.env=(false,eval e1 X.env) :: starEach [e2,e3,e4] X.env:=by rfl) (hs2:starEach [e2,e3,e4] X.env=(false,eval e2 X.env) :: starEach [e3,e4] X.env:=by rfl) (hs3:starEach [e3,e4] X.env=(false,eval e3 X.env) :: starEach [e4] X.env:=by rfl) (hs4:starEach [e4] X.env=(false,eval e4 X.env) :: starEach [] X.env:=by rfl) :
    AE X Γ (.Tuple [e1,e2,e3,e4] x1 pos) (tD φ):=ZhO (Zbg sg h1 (Zbg sg h2 (Zbg sg h3 (Zbg sg h4 Zcn hs4) hs3) hs2) hs1) (fun ds ⟨a,r,e,_,b,r2,e2,_,c,r3,e3,_,d,r4,e4,_,e5⟩=>by rw [e,e2,e3,e4,e5];exact (by decide:4≤1000)) fun ds ⟨a,r,e,pa,b,r2,e2,pb,c,r3,e3,pc,d,r4,e4,pd,e5⟩=>by
  subst e e2 e3 e4 e5 pa pd
  exact hφ b c pb pc
section
variable {P:Program}{w:World}{K:PySem.W.Frag}{mg:Str→Option Value}{base:Heap}{C:Addr}
def Zhh (C:Addr):Sp:=fun vs H Q _=>∃ (st a dx t l T:Addr) (prs qs:Prs) (chs:Ch),vs=[.ref st,.ref a,.ref T]∧StK H st∧(∀ H',But st H H'→Keep H' C a dx t l prs chs)∧chs.length<1000∧Tab H T qs∧T≠st∧(∀ p∈qs,p.1≠st)∧tabB qs=true∧prs.map (·.2)=qs.map (·.2)∧Bnd qs∧∀ H',But st H H'→StK H' st→Q (.bl true) H'
abbrev arN:List Str:=["store","keeper","table","size","turn","bad","odd","low","cell","least","greatest","rows","far","door","one","other","due","kept"]
theorem sc_allRef:FnScope arN ["store","keeper","table"] (Zag Zcm):=⟨rfl,rfl,rfl,by decide +kernel,rfl,by decide +kernel,by decide +kernel⟩
abbrev arF:Stmt:=(Zar Zcm).getD 1 (.Pass ⟨0,0,0,0⟩)
abbrev arB (k:Nat):Stmt:=(forB arF).getD k (.Pass ⟨0,0,0,0⟩)
end
theorem Zc9:bootBuiltins "repr" = some (.builtin "repr"):=by kernel_rfl
theorem Zkt {n:Nat} (h:n≤1000000):n≤sizeLine:=Nat.le_trans h (by decide)
theorem Zd9 (v:V):(!decide (v=v))=false:=by rw [decide_eq_true rfl];rfl
theorem st_w {φ:PyData→Prop}{lo hi lo' hi':Nat}{B:Ab}{v:V}{H:Hp} (h:tD (LP φ lo hi) B v H) (h1:lo'≤lo) (h2:hi≤hi'):tD (LP φ lo' hi') B v H:=let ⟨d,r,ds,e,l1,l2,f⟩:=h;⟨d,r,ds,e,Nat.le_trans h1 l1,Nat.le_trans l2 h2,f⟩
section
variable {P:Program}{w:World}{K:PySem.W.Frag}{mg:Str→Option Value}{base:Heap}{C:Addr}
set_option maxHeartbeats 8000000 in
theorem Zjg (T0:Blt mg) (hre:mg "repr" = none) (Df:Zao K mg "_law_all_refused" Zcm ["store","keeper","table"]) (G3:FnAt P w K mg base 1 "_law_take" ["store","many"] ZaW) (G4:FnAt P w K mg base 2 "_law_no_cell" ["store","table"] Zg9) (G5:FnAt P w K mg base 1 "_law_span" ["table","cell"] Zg7) (G6:FnAt P w K mg base 2 "_law_far" ["store","figures"] Zl5) (G8:FnAt P w K mg base 9 "_law_word" ["keeper","door","one","other"] (Zgw C)) :
    FnAt P w K mg base 10 "_law_all_refused" ["store","keeper","table"] (Zhh C):=by
  refine FnAt.of Df sc_allRef (fun vs H Q E h=>?_) (fun f cdv A outer s H vs Q E hr h=>?_)
  · obtain ⟨st,a,dx,t,l,T,prs,qs,chs,rfl,_⟩:=h
    rfl
  · obtain ⟨st,a,dx,t,l,T,prs,qs,chs,rfl,hst,hK,hcl,hT,nT,np,hg,hrows,hb,q⟩:=h
    have nd:=sc_allRef.nd
    have hr1:Room 1 _:=hr.mono (show 1≤9 by decide)
    have hr2:Room 2 _:=hr.mono (show 2≤9 by decide)
    obtain ⟨g,g1,g2,g3,g4⟩:=ZaI hg
    obtain ⟨p0,hp0,hm0,hx0⟩:=Zbe (prs:=qs) g1
    have hS:st∈[st]:=.head _
    have hTS:T∉[st]:=fun z=>nT (List.mem_singleton.mp z)
    have hpS:∀ p∈qs,p.1∉[st]:=fun p hp z=>np p hp (List.mem_singleton.mp z)
    have hw1:1≤w0 qs:=g3
    have hN1:1≤qs.length * w0 qs:=Nat.mul_pos g1 g3
    have hN2:qs.length * w0 qs≤36:=Nat.le_trans (Nat.mul_le_mul g2 g4) (by decide)
    have hpn:prs.length=qs.length:=by
      have:=congrArg List.length hrows
      simpa using this
    have hpw:w0 prs=w0 qs:=by rw [← ZcS,hrows,ZcS]
    have hrok:Rok (qs.map (·.2)):=ZiN (by rw [← Zb0 rfl];exact hg)
    have hb':∀ p∈qs,∀ n∈p.2,n.natAbs≤10 ^ 38:=fun p hp n hn=>Nat.le_of_lt (hb p hp n hn)
    obtain ⟨N,hN⟩:∃ N,N=qs.length * w0 qs:=⟨_,rfl⟩
    rw [← hN] at hN1 hN2
    let X:Cx:=(cxOf CX0 P w K mg base arN "_law_all_refused" (Zag Zcm) f cdv A outer s H E).nox
    let Γ0:EnB:=fun B1 σ H1=>B1=abQ st [st] H∧σ[0]? = some (some (.ref st))
    let Γ2:EnB:=fun B1 σ H1=>Γ0 B1 σ H1∧VP B1 σ H1 3 (IP (· = (N:Int)))∧VP B1 σ H1 6 OddN
    let Γ5:Nat × Nat→EnB:=fun c B1 σ H1=>Γ0 B1 σ H1∧VP B1 σ H1 5 (BadC qs.length (w0 qs))∧VP B1 σ H1 6 OddN∧VP B1 σ H1 7 (LowD N)∧Vr B1 σ H1 8 (.tuple [.int (c.1:Nat),.int (c.2:Nat)])
    let RD:PyData→Prop:=RowD qs.length (w0 qs) (qs.map (·.2))
    let Γ6:Nat × Nat→EnB:=fun c B1 σ H1=>Γ5 c B1 σ H1∧VP B1 σ H1 11 (LP RD 4 4)
    let Γ8:Nat→Nat→Nat × Nat × Int→EnB:=fun k hi c B1 σ H1=>Γ0 B1 σ H1∧Vr B1 σ H1 8 (.tuple [.int (c.1:Nat),.int (c.2.1:Nat)])∧Vr B1 σ H1 k (.int c.2.2)∧VP B1 σ H1 12 (IP fun z=>1≤z∧z<10 ^ 30)∧VP B1 σ H1 11 (LP RD 6 hi)
    have s0:StbE Γ0:=fun _ _ _ _ h b=>h
    have s2:StbE Γ2:=fun _ _ _ _ ⟨h1,h2,h3⟩ b=>⟨h1,h2.but b,h3.but b⟩
    have s5:∀ c,StbE (Γ5 c):=fun c _ _ _ _ ⟨h1,h2,h3,h4,h5⟩ b=>⟨h1,h2.but b,h3.but b,h4.but b,h5.but b⟩
    have s6:∀ c,StbE (Γ6 c):=fun c _ _ _ _ ⟨h1,h2⟩ b=>⟨s5 c _ _ _ _ h1 b,h2.but b⟩
    have s8:∀ k hi c,StbE (Γ8 k hi c):=fun k hi c _ _ _ _ ⟨h1,h2,h3,h4,h5⟩ b=>⟨h1,h2.but b,h3.but b,h4.but b,h5.but b⟩
    have takeE:∀ {Γ:EnB}{e:Expr}{m:Int},(∀ B σ H1,Γ B σ H1→Γ0 B σ H1)→0<m→m<100000→PE X e (tF ZaW (ZbL (tVar 0) (ZbL (tC (.int m)) tNil)))→AE X Γ e (tD (IP fun z=>0≤z∧z<m)):=fun hΓ h0 h1 he=>⟨Za1 he fun σ H1 Q1 ⟨B1,hg1,j1,q1⟩=>by
      obtain ⟨e,z⟩:=hΓ _ _ _ hg1
      subst e
      exact Zg1 z j1 hS h0 h1 fun i H' i0 i1 b j'=>q1 _ H' b j' ⟨_,.int i,i,rfl,i0,i1⟩⟩
    have takeQ:∀ {Γ:EnB}{m:Int},(∀ B σ H1,Γ B σ H1→Γ0 B σ H1)→0<m→m<100000→∀ (B1:Ab) (σ:L2.St) (H1:Hp) (Q1:VK),Γ B1 σ H1→B1.J H1→(∀ (i:Int) H',0≤i→i<m→ButS B1.S H1 H'→B1.J H'→Q1 (.int i) H')→tF ZaW (ZbL (tVar 0) (ZbL (tC (.int m)) tNil)) σ H1 Q1:=fun hΓ h0 h1 B1 σ H1 Q1 h j k=>by
      obtain ⟨e,z⟩:=hΓ _ _ _ h
      subst e
      exact Zg1 z j hS h0 h1 fun i H' i0 i1 b j'=>k i H' i0 i1 b j'
    have oN:∀ {d:PyData},ZaG d=false→(d.showable && decide (d.shown.length≤400) && decide (d.depth≤3))=true→OddN d:=fun h z=>⟨h,Zbr z⟩
    have szI:∀ {z:Int},z.natAbs<100→Sz 400 3 (.int z):=fun h=>(Zch (Nat.lt_of_lt_of_le h (by decide))).mono (by decide) (by decide)
    have szB:∀ {z:Int},z.natAbs<10 ^ 40→Sz 10000 20 (.int z):=fun h=>(Zch h).mono (by decide) (by decide)
    obtain ⟨S1,e1⟩:∃ S,S=arB 1:=⟨_,rfl⟩
    have E1:AE X Γ0 (asgE (arB 1)) (tD OddN):=ZfB (lo:=9) (hi:=9) (Zbb (Zai s0 (Zay (.bool true) s0 rfl (oN rfl (by decide +kernel))) (Zai s0 (Zay (.bool false) s0 rfl (oN rfl (by decide +kernel))) (Zai s0 (Zay .none s0 rfl (oN rfl (by decide +kernel))) (Zai s0 (Zay (.str "1") s0 rfl (oN rfl (by decide +kernel)))
      (Zai s0 (Zay (.list [.int 1]) s0 rfl (oN rfl (by decide +kernel))) (Zai s0 (Zay (.tuple [.int 1]) s0 rfl (oN rfl (by decide +kernel))) (Zai s0 (Zay (.dict []) s0 rfl (oN rfl (by decide +kernel))) (Zai s0 (Zay (.str "") s0 rfl (oN rfl (by decide +kernel))) (Zai s0 (Zay (.list []) s0 rfl (oN rfl (by decide +kernel))) ZbC))))))))))
      (pe_f G3 hr1 (Zaa (pv 0) (Zaa Zae Zab))) (fun _ _=>rfl) (takeQ (m:=9) (fun _ _ _ h=>h) (by decide) (by decide)) s0
    have A1:PS X S1 (tAsg (tA Γ0 (tD OddN)) (ZaP 6)):=ZgF _ _ e1.symm rfl nd rfl (Or.inl rfl) ZdS E1
    clear E1
    obtain ⟨S2,e2⟩:∃ S,S=arB 2:=⟨_,rfl⟩
    have lowI:∀ {z:Int},¬ (0≤z∧z<N)→z.natAbs<100→LowD N (.int z):=fun h1 h2=>⟨ZfU h1,szI h2⟩
    have vS:∀ {e:Expr},PE X e (tVar 3)→AE X Γ2 e (tD (IP (· = (N:Int)))):=fun h=>Za9 h fun B1 σ H1 h=>h.2.1
    have vO:∀ {e:Expr},PE X e (tVar 6)→AE X Γ2 e (tD (LowD N)):=fun h=>Za4 (Za9 h fun B1 σ H1 h=>h.2.2) fun d h=>⟨ZhX h.1,h.2⟩
    have E2:AE X Γ2 (asgE (arB 2)) (tD (LowD N)):=ZfB (lo:=7) (hi:=7) (Zbb
      (Zai s2 (Za4 (ZcQ (Zaw Zae)) fun d e=>by rw [e];exact lowI (by omega) (by decide))
      (Zai s2 (Za4 (vS (pv 3)) fun d ⟨z,e,hz⟩=>by rw [e];exact lowI (by omega) (by omega))
      (Zai s2 (Za4 (Zkk s2 (vS (pv 3)) (takeE (m:=40) (fun _ _ _ h=>h.1) (by decide) (by decide) (pe_f G3 hr1 (Zaa (pv 0) (Zaa Zae Zab))))) fun d ⟨z,e,x,y,hx,hy,hz⟩=>by rw [e];exact lowI (by omega) (by omega))
      (Zai s2 (Za4 (Zdw (p:=(· = 0)) s2 (ZlX Zae) (vS (pv 3))) fun d ⟨z,e,x,y,hx,hy,hz⟩=>by rw [e];exact lowI (by omega) (by omega))
      (Zai s2 (vO (pv 6)) (Zai s2 (vO (pv 6))
      (Zai s2 ⟨Za1 (Zas ZmC Zae Zae) fun σ H1 Q1 ⟨B1,hg1,j1,q1⟩=>⟨_,_,rfl,rfl,⟨by decide,by decide,by decide⟩,q1 _ H1 (ButS.refl _ _) j1 ⟨.int (10 ^ 25),.int _,ZfU (by omega),Zbr (by decide +kernel)⟩⟩⟩ ZbC))))))))
      (pe_f G3 hr1 (Zaa (pv 0) (Zaa Zae Zab))) (fun _ _=>rfl) (takeQ (m:=7) (fun _ _ _ h=>h.1) (by decide) (by decide)) s2
    have A2:PS X S2 (tAsg (tA Γ2 (tD (LowD N))) (ZaP 7)):=ZgF _ _ e2.symm rfl nd rfl (Or.inl rfl) ZdS E2
    clear E2
    have badZ:∀ {d:PyData},BadC qs.length (w0 qs) d→Sz 10000 20 d:=fun h=>h.2.mono (by decide) (by decide)
    have oddZ:∀ {d:PyData},OddN d→Sz 10000 20 d:=fun h=>h.2.mono (by decide) (by decide)
    have cellZ:∀ {i j:Nat},i<qs.length→j<w0 qs→Sz 10000 20 (.tuple [.int (i:Nat),.int (j:Nat)]):=fun hi hj=>(Zlq (szI (by omega):Sz 400 3 _) (szI (by omega))).mono (by decide) (by decide)
    obtain ⟨S5,e5⟩:∃ S,S=arB 5:=⟨_,rfl⟩
    have A5:PS X (arB 5) _:=ZgE (C:=fun c:Nat × Nat=>c.1<qs.length∧c.2<w0 qs) (t:=fun c=>tAsg (tA (Γ5 c) (tD (LP RD 4 4))) (ZaP 11)) fun c hc=>Zaj (i:=11) nd rfl (Or.inl rfl) (AE.pe (A:=tD (LP RD 4 4)) (Γ:=Γ5 c) (Zbb
      (Zai (s5 c) (ZcI (s5 c) (Zaw Zae) (Za9 (pv 5) fun B1 σ H1 h=>h.2.1) (Zaw Zae) (Zay (.str "cell") (s5 c) rfl rfl) fun a b ha hb=>by
        subst hb
        exact ⟨_,_,_,_,_,rfl,.cell0 (ha.2.mono (by decide) (by decide)) ha.1,badZ ha,szB (by decide)⟩)
      (Zai (s5 c) (ZcI (s5 c) (Zaw Zae) (Za9 (pv 5) fun B1 σ H1 h=>h.2.1) (Za9 (pv 6) fun B1 σ H1 h=>h.2.2.1) (Zay (.str "cell") (s5 c) rfl rfl) fun a b ha hb=>⟨_,_,_,_,_,rfl,.cell0 (ha.2.mono (by decide) (by decide)) ha.1,badZ ha,oddZ hb⟩)
      (Zai (s5 c) (ZcI (s5 c) (Zaw Zae) (ZdC (pv 8) fun B1 σ H1 h=>h.2.2.2.2) (Za9 (pv 6) fun B1 σ H1 h=>h.2.2.1) (Zay (.str "number") (s5 c) rfl rfl) fun a b ha hb=>by
        subst ha
        exact ⟨_,_,_,_,_,rfl,.num0 hc.1 hc.2 hb.1,cellZ hc.1 hc.2,oddZ hb⟩)
      (Zai (s5 c) (ZcI (s5 c) (Zaw Zae) (Za9 (pv 6) fun B1 σ H1 h=>h.2.2.1) (Zay .none (s5 c) rfl (rfl:PyData.none=.none)) (Zay (.str "number") (s5 c) rfl rfl) fun a b ha hb=>by
        have hb:b=.none:=hb.symm
        subst hb
        exact ⟨_,_,_,_,_,rfl,.num2 ha.1,oddZ ha,Zbr (by decide +kernel)⟩) ZbC))))))
    rw [← e5] at A5
    obtain ⟨S6,e6⟩:∃ S,S=arB 6:=⟨_,rfl⟩
    have A6:PS X (arB 6) _:=ZgE (C:=fun c:Nat × Nat=>c.1<qs.length∧c.2<w0 qs) (t:=fun c=>tAsg (tA (Γ6 c) (tD (LP RD (4+2) (4+2)))) (ZaP 11)) fun c hc=>Zaj (i:=11) nd rfl (Or.inl rfl) (AE.pe (A:=tD (LP RD (4+2) (4+2))) (Γ:=Γ6 c) (ZbW (s6 c) (Za9 (pv 11) fun B1 σ H1 h=>h.2) (Zbb
      (Zai (s6 c) (ZcI (s6 c) (Zaw Zae) (Za9 (pv 7) fun B1 σ H1 h=>h.1.2.2.2.1) (Zay (φ:=(· = .none)) .none (s6 c) rfl rfl) (Zay (.str "place") (s6 c) rfl rfl) fun a b ha hb=>by
        subst hb
        exact ⟨_,_,_,_,_,rfl,.place (by rw [← hN];exact ha.1),ha.2.mono (by decide) (by decide),Zbr (by decide +kernel)⟩)
      (Zai (s6 c) (ZcI (s6 c) (Zaw Zae) (Za9 (pv 5) fun B1 σ H1 h=>h.1.2.1) (Zay (φ:=(· = .none)) .none (s6 c) rfl rfl) (Zay (.str "cell") (s6 c) rfl rfl) fun a b ha hb=>by
        subst hb
        exact ⟨_,_,_,_,_,rfl,.cell4 (ha.2.mono (by decide) (by decide)) ha.1,badZ ha,Zbr (by decide +kernel)⟩) ZbC)))))
    rw [← e6] at A6
    have lowF:∀ {i j:Nat}{x z:Int},i<qs.length→j<w0 qs→(ZaR (qs.map (·.2)) i j).max? = some x→z<x→Zbj (setR (qs.map (·.2)) i j z)=false:=fun hi hj e hz=>ZlI hrok (by rw [List.length_map];exact hi) (by rw [ZcS];exact hj) fun b=>by
      have:=b.1 _ e
      omega
    have highF:∀ {i j:Nat}{x z:Int},i<qs.length→j<w0 qs→(Zaz (qs.map (·.2)) i j).min? = some x→x<z→Zbj (setR (qs.map (·.2)) i j z)=false:=fun hi hj e hz=>ZlI hrok (by rw [List.length_map];exact hi) (by rw [ZcS];exact hj) fun b=>by
      have:=b.2 _ e
      omega
    obtain ⟨S8,e8⟩:∃ S,S=arB 8:=⟨_,rfl⟩
    have A8:PS X (arB 8) _:=ZaO (Zat Ze9 (pv 9) Zcd (Zax _)) (Zaf (ZgE (C:=fun c:Nat × Nat × Int=>(c.1<qs.length∧c.2.1<w0 qs)∧(ZaR (qs.map (·.2)) c.1 c.2.1).max? = some c.2.2∧c.2.2.natAbs≤10 ^ 38) (t:=fun c=>tAsg (tA (Γ8 9 6 c) (tD (LP RD (6+2) (6+2)))) (ZaP 11)) fun c hc=>Zaj (i:=11) nd rfl (Or.inl rfl) (AE.pe (A:=tD (LP RD (6+2) (6+2))) (Γ:=Γ8 9 6 c) (ZbW (s8 9 6 c) (Za9 (pv 11) fun B1 σ H1 h=>h.2.2.2.2) (Zbb
      (Zai (s8 9 6 c) (ZcI (s8 9 6 c) (Zaw Zae) (ZdC (pv 8) fun B1 σ H1 h=>h.2.1) (Zcc (s8 9 6 c) (ZdC (pv 9) fun B1 σ H1 h=>h.2.2.1) (Zaw Zae)) (Zay (.str "fit") (s8 9 6 c) rfl rfl) fun a b ha hb=>by
        subst ha hb
        exact ⟨_,_,_,_,_,rfl,.fit hc.1.1 hc.1.2 (lowF hc.1.1 hc.1.2 hc.2.1 (by omega)),cellZ hc.1.1 hc.1.2,szB (by have:=hc.2.2;omega)⟩)
      (Zai (s8 9 6 c) (ZcI (s8 9 6 c) (Zaw Zae) (ZdC (pv 8) fun B1 σ H1 h=>h.2.1) (Zdw (p:=(· = c.2.2)) (s8 9 6 c) (Za4 (ZdC (pv 9) fun B1 σ H1 h=>h.2.2.1) fun d e=>⟨_,e,rfl⟩) (Za9 (pv 12) fun B1 σ H1 h=>h.2.2.2.1)) (Zay (.str "fit") (s8 9 6 c) rfl rfl) fun a b ha ⟨z,ez,x,y,hx,hy,hz⟩=>by
        subst ha ez
        exact ⟨_,_,_,_,_,rfl,.fit hc.1.1 hc.1.2 (lowF hc.1.1 hc.1.2 hc.2.1 (by omega)),cellZ hc.1.1 hc.1.2,szB (by have:=hc.2.2;omega)⟩) ZbC))))))) Zaq
    rw [← e8] at A8
    obtain ⟨S9,e9⟩:∃ S,S=arB 9:=⟨_,rfl⟩
    have A9:PS X (arB 9) _:=ZaO (Zat Ze9 (pv 10) Zcd (Zax _)) (Zaf (ZgE (C:=fun c:Nat × Nat × Int=>(c.1<qs.length∧c.2.1<w0 qs)∧(Zaz (qs.map (·.2)) c.1 c.2.1).min? = some c.2.2∧c.2.2.natAbs≤10 ^ 38) (t:=fun c=>tAsg (tA (Γ8 10 8 c) (tD (LP RD (6+2) (8+2)))) (ZaP 11)) fun c hc=>Zaj (i:=11) nd rfl (Or.inl rfl) (AE.pe (A:=tD (LP RD (6+2) (8+2))) (Γ:=Γ8 10 8 c) (ZbW (s8 10 8 c) (Za9 (pv 11) fun B1 σ H1 h=>h.2.2.2.2) (Zbb
      (Zai (s8 10 8 c) (ZcI (s8 10 8 c) (Zaw Zae) (ZdC (pv 8) fun B1 σ H1 h=>h.2.1) (Zeu (s8 10 8 c) (ZdC (pv 10) fun B1 σ H1 h=>h.2.2.1) (Zaw Zae)) (Zay (.str "fit") (s8 10 8 c) rfl rfl) fun a b ha hb=>by
        subst ha hb
        exact ⟨_,_,_,_,_,rfl,.fit hc.1.1 hc.1.2 (highF hc.1.1 hc.1.2 hc.2.1 (by omega)),cellZ hc.1.1 hc.1.2,szB (by have:=hc.2.2;omega)⟩)
      (Zai (s8 10 8 c) (ZcI (s8 10 8 c) (Zaw Zae) (ZdC (pv 8) fun B1 σ H1 h=>h.2.1) (Zkk (p:=(· = c.2.2)) (s8 10 8 c) (Za4 (ZdC (pv 10) fun B1 σ H1 h=>h.2.2.1) fun d e=>⟨_,e,rfl⟩) (Za9 (pv 12) fun B1 σ H1 h=>h.2.2.2.1)) (Zay (.str "fit") (s8 10 8 c) rfl rfl) fun a b ha ⟨z,ez,x,y,hx,hy,hz⟩=>by
        subst ha ez
        exact ⟨_,_,_,_,_,rfl,.fit hc.1.1 hc.1.2 (highF hc.1.1 hc.1.2 hc.2.1 (by omega)),cellZ hc.1.1 hc.1.2,szB (by have:=hc.2.2;omega)⟩) ZbC))))))) Zaq
    rw [← e9] at A9
    have hfor:arF=.For (forT arF) (forI arF) [arB 0,S1,S2,arB 3,arB 4,S5,S6,arB 7,S8,S9,arB 10] [] (forP arF):=by
      rw [e1,e2,e5,e6,e8,e9]
      kernel_rfl
    have hbd:Zar Zcm=[(Zar Zcm).getD 0 (.Pass ⟨0,0,0,0⟩),.For (forT arF) (forI arF) [arB 0,S1,S2,arB 3,arB 4,S5,S6,arB 7,S8,S9,arB 10] [] (forP arF),(Zar Zcm).getD 2 (.Pass ⟨0,0,0,0⟩)]:=by
      rw [← hfor]
      kernel_rfl
    rw [hbd]
    clear hbd hfor e1 e2 e5 e6 e8 e9
    refine ⟨_,Zac (Zaj (i:=3) nd rfl (Or.inl rfl) (Zas ZdA (pe_b Zah T0.len boot_len (Zaa (pv 2) Zab)) (pe_b Zah T0.len boot_len (Zaa (Zav Zam (pv 2) Zae (fun _ _=>rfl)) Zab))))
      (Zac (Zci PassesOwn.never rfl (Zbk rfl T0.rng (Zaa Zae Zab)) (ZaM (i:=4) nd rfl (Or.inl rfl))
        (Zac (Zaj (i:=5) nd rfl (Or.inl rfl) (pe_f G4 hr2 (Zaa (pv 0) (Zaa (pv 2) Zab))))
        (Zac A1 (Zac A2
        (Zac (Zaj (i:=8) nd rfl (Or.inl rfl) (Zbn (Zaa (pe_f G3 hr1 (Zaa (pv 0) (Zaa (pe_b Zah T0.len boot_len (Zaa (pv 2) Zab)) Zab)))
          (Zaa (pe_f G3 hr1 (Zaa (pv 0) (Zaa (pe_b Zah T0.len boot_len (Zaa (Zav Zam (pv 2) Zae (fun _ _=>rfl)) Zab)) Zab))) Zab))))
        (Zac (Zdr (pe_f G5 hr1 (Zaa (pv 2) (Zaa (pv 8) Zab))) (Zd8 rfl (ZaY (ZaM (i:=9) nd rfl (Or.inl rfl)) (ZaY (ZaM (i:=10) nd rfl (Or.inl rfl)) ZcL))))
        (Zac A5 (Zac A6
        (Zac (Zaj (i:=12) nd rfl (Or.inl rfl) (Zas Zbt Zae (Zas ZdA (pe_f G6 hr2 (Zaa (pv 0) (Zaa Zae Zab))) (pe_f G3 hr1 (Zaa (pv 0) (Zaa Zae Zab))))))
        (Zac A8 (Zac A9
        (Zaf (Zci PassesOwn.never rfl (Zba (pv 11)) (Zd8 rfl (ZaY (ZaM (i:=13) nd rfl (Or.inl rfl)) (ZaY (ZaM (i:=14) nd rfl (Or.inl rfl)) (ZaY (ZaM (i:=15) nd rfl (Or.inl rfl)) (ZaY (ZaM (i:=16) nd rfl (Or.inl rfl)) ZcL)))))
          (Zac (Zaj (i:=17) nd rfl (Or.inl rfl) (pe_b (ZcD hr.gd hr.units) hre Zc9 (Zaa (ZaF (Zaa (pv 14) (Zaa (pv 15) Zab))) Zab)))
          (Zaf (ZaO (PW.pt (ZcF (Zat Zf1 (pe_f G8 hr (Zaa (pv 1) (Zaa (pv 13) (Zaa (pv 14) (Zaa (pv 15) Zab))))) (pv 16) (Zax _)) (Zb1 (Zat Zf1 (pe_b (ZcD hr.gd hr.units) hre Zc9 (Zaa (ZaF (Zaa (pv 14) (Zaa (pv 15) Zab))) Zab)) (pv 17) (Zax _))))) (Zaf (Zan Zce)) Zaq))))))))))))))))
      (Zaf (Zan Zce))),?_⟩
    clear A1 A2 A5 A6 A8 A9
    have tm:∀ {H' H'':Hp},Tab H' T qs→ButS [st] H' H''→Tab H'' T qs:=fun h b=>⟨b _ _ hTS h.l,fun p hp=>b _ _ (hpS p hp) (h.r p hp)⟩
    have bs:∀ {H' H'':Hp},But st H' H''→ButS [st] H' H'':=fun b y o n e=>b y o (fun z=>n (by rw [z];exact hS)) e
    have j0:(abQ st [st] H).J H:=⟨hst,But.refl _ _,fun b hb=>by
      rw [List.mem_singleton.mp hb]
      obtain ⟨_,_,_,e⟩:=hst
      rw [e]
      exact fun z=>nomatch z⟩
    refine ⟨_,rfl,T,_,rfl,.inl hT.sq,_,rfl,T,_,0,.ref p0.1,rfl,rfl,hT.sq,ZaB (j:=0) (by rw [List.getElem?_map,hx0];rfl),p0.1,_,rfl,.inl (hT.r p0 hm0).sq,_,_,rfl,rfl,.inl ⟨by omega,by rw [List.length_map];omega⟩,?_⟩
    rw [List.length_map,List.length_map,g.len p0 hm0,← Int.natCast_mul,← hN]
    refine ⟨8,rfl,by decide,by decide,ZbA (fun i σ H1=>∃ o4 o5 o6 o7 o8 o9 o10 o11 o12 o13 o14 o15 o16 o17:Option V,σ = [some (.ref st),some (.ref a),some (.ref T),some (.int (N:Nat)),o4,o5,o6,o7,o8,o9,o10,o11,o12,o13,o14,o15,o16,o17]∧(abQ st [st] H).J H1) ⟨_,_,_,_,_,_,_,_,_,_,_,_,_,_,rfl,j0⟩ ?_ ?_⟩
    case refine_2 =>
      rintro σ H1 ⟨_,_,_,_,_,_,_,_,_,_,_,_,_,_,rfl,j1⟩
      exact q H1 j1.2.1 j1.1
    rintro i0 σ H1 hi0 ⟨o4,o5,o6,o7,o8,o9,o10,o11,o12,o13,o14,o15,o16,o17,rfl,j1⟩
    have hT1:Tab H1 T qs:=hT.but nT np j1.2.1
    refine ⟨_,rfl,_,rfl,st,T,qs,rfl,j1.1,hT1,nT,np,hg,fun bv bd H2 b2 S2 rb hb2=>?_⟩
    have j2:=abQ.step j1 b2 S2
    have hT2:=hT1.but nT np b2
    have hbad:tD (BadC qs.length (w0 qs)) (abQ st [st] H) bv H2:=⟨bd,rb,hb2⟩
    refine ⟨abQ st [st] H,⟨rfl,rfl⟩,j2,fun ov H3 b3 j3 ho=>?_⟩
    refine Zcy ?_
    dsimp only
    replace hbad:=st_d _ _ _ _ hbad b3
    have hT3:=tm hT2 b3
    refine ⟨abQ st [st] H,⟨⟨rfl,rfl⟩,⟨_,rfl,_,.int _,_,rfl,rfl⟩,⟨ov,rfl,ho⟩⟩,j3,fun lv H4 b4 j4 hlv=>?_⟩
    refine Zcy ?_
    dsimp only
    replace hbad:=st_d _ _ _ _ hbad b4
    replace ho:=st_d _ _ _ _ ho b4
    have hT4:=tm hT3 b4
    refine ⟨_,rfl,_,rfl,T,_,rfl,.inl hT4.sq,st,_,rfl,?_,?_,j4.1,fun d1 H5 d10 d11 b5 st5=>?_⟩
    · rw [List.length_map];omega
    · rw [List.length_map];omega
    rw [List.length_map] at d11
    have hT5:=hT4.but nT np b5
    refine ⟨_,rfl,_,rfl,T,_,0,.ref p0.1,rfl,rfl,hT5.sq,ZaB (j:=0) (by rw [List.getElem?_map,hx0];rfl),p0.1,_,rfl,.inl (hT5.r p0 hm0).sq,st,_,rfl,?_,?_,st5,fun d2 H6 d20 d21 b6 st6=>?_⟩
    · rw [List.length_map,g.len p0 hm0];omega
    · rw [List.length_map,g.len p0 hm0];omega
    rw [List.length_map,g.len p0 hm0] at d21
    refine ⟨len2,fun c hc=>?_⟩
    obtain ⟨i,rfl⟩:∃ i:Nat,d1=(i:Int):=⟨d1.toNat,(Int.toNat_of_nonneg d10).symm⟩
    obtain ⟨j,rfl⟩:∃ j:Nat,d2=(j:Int):=⟨d2.toNat,(Int.toNat_of_nonneg d20).symm⟩
    have hi:i<qs.length:=by omega
    have hj:j<w0 qs:=by omega
    have j6:(abQ st [st] H).J H6:=abQ.step (abQ.step j4 b5 st5) b6 st6
    have ncS:c∉[st]:=fun z=>j6.2.2 c z hc
    have s7:=Same.new (o:=.tup [.int (i:Nat),.int (j:Nat)]) hc
    have hc7:Cell (upd H6 c (.tup [.int (i:Nat),.int (j:Nat)])) c i j:=Zad
    generalize upd H6 c (.tup [.int (i:Nat),.int (j:Nat)])=H7 at s7 hc7 ⊢
    have j7:=(abQ st [st] H).same j6 s7
    have b47:ButS [st] H4 H7:=(bs b5).trans ((bs b6).trans (Same.butS s7))
    have hT7:=tm hT4 b47
    replace hbad:=st_d _ _ _ _ hbad b47
    replace ho:=st_d _ _ _ _ ho b47
    replace hlv:=st_d _ _ _ _ hlv b47
    clear hT1 hT2 hT3 hT4 hT5 b2 b3 b4 b5 b6 b47 j2 j3 j4 j6 S2 st5 st6
    refine ⟨_,rfl,_,rfl,T,c,qs,i,j,rfl,hT7,hg,hc7,hi,hj,fun r H8 hr8 s8' er=>?_⟩
    refine ⟨r,_,rfl,SqT.of er,rfl,_,_,rfl,_,_,rfl,rfl,?_⟩
    have lob:∀ m,(ZaR (qs.map (·.2)) i j).max? = some m→m.natAbs≤10 ^ 38:=fun m hm=>Zgt hg hb' hi hj hm
    have hib:∀ m,(Zaz (qs.map (·.2)) i j).min? = some m→m.natAbs≤10 ^ 38:=fun m hm=>ZeX hg hb' hi hj hm
    obtain ⟨lo,elo⟩:∃ lo,(ZaR (qs.map (·.2)) i j).max? = lo:=⟨_,rfl⟩
    obtain ⟨ho',eho⟩:∃ hi,(Zaz (qs.map (·.2)) i j).min? = hi:=⟨_,rfl⟩
    rw [elo,eho]
    clear er
    have j8:=(abQ st [st] H).same j7 s8'
    have b78:ButS [st] H7 H8:=Same.butS s8'
    replace hbad:=st_d _ _ _ _ hbad b78
    replace ho:=st_d _ _ _ _ ho b78
    replace hlv:=st_d _ _ _ _ hlv b78
    have hc8:Cell H8 c i j:=s8' _ _ hc7
    have rc:∀ {H':Hp},ButS [st] H8 H'→RdS [st] H' (.ref c) (.tuple [.int (i:Nat),.int (j:Nat)]):=fun b=>.tup (b _ _ ncS hc8) ncS (.cons (.int _) (.cons (.int _) .nil))
    refine ⟨(i,j),⟨hi,hj⟩,abQ st [st] H,⟨⟨rfl,rfl⟩,⟨bv,rfl,hbad⟩,⟨ov,rfl,ho⟩,⟨lv,rfl,hlv⟩,⟨.ref c,rfl,rc (ButS.refl _ _)⟩⟩,j8,fun r5 H9 b9 j9 h5=>?_⟩
    refine Zcy ?_
    dsimp only
    replace hbad:=st_d _ _ _ _ hbad b9
    replace ho:=st_d _ _ _ _ ho b9
    replace hlv:=st_d _ _ _ _ hlv b9
    refine ⟨(i,j),⟨hi,hj⟩,abQ st [st] H,⟨⟨⟨rfl,rfl⟩,⟨bv,rfl,hbad⟩,⟨ov,rfl,ho⟩,⟨lv,rfl,hlv⟩,⟨.ref c,rfl,rc b9⟩⟩,⟨r5,rfl,h5⟩⟩,j9,fun r6 H10 b10 j10 h6=>?_⟩
    refine Zcy ?_
    dsimp only
    refine ⟨_,rfl,st,24,rfl,by decide,by decide,j10.1,fun fd H11 fd0 fd1 b11 S11=>⟨_,rfl,st,2,rfl,by decide,by decide,S11,fun fe H12 fe0 fe1 b12 S12=>⟨fd,fe,rfl,rfl,.inr ⟨by omega,by omega⟩,1,fd * fe,rfl,rfl,?_⟩⟩⟩
    rw [e24] at fd1
    have hfar:1≤1+fd * fe∧1+fd * fe<10 ^ 30:=by
      have:fe=0∨fe=1:=by omega
      rcases this with rfl | rfl
      · rw [Int.mul_zero];omega
      · rw [Int.mul_one];omega
    generalize 1+fd * fe=far at hfar ⊢
    have j12:=abQ.step (abQ.step j10 b11 S11) b12 S12
    have b912:ButS [st] H10 H12:=(bs b11).trans (bs b12)
    have b812:ButS [st] H8 H12:=b9.trans (b10.trans b912)
    replace h6:=st_d _ _ _ _ h6 b912
    replace hbad:=st_d _ _ _ _ hbad (b10.trans b912)
    clear h5 b78 b9 b10 b11 b12 b912 S11 S12 j9 j10
    refine Zcy ?_
    dsimp only
    refine Zhw (fun N'=>∀ H13 rv,(abQ st [st] H).J H13→ButS [st] H12 H13→tD (LP RD 6 8) (abQ st [st] H) rv H13→N' [some (.ref st),some (.ref a),some (.ref T),some (.int (N:Nat)),some (.int (0+(i0:Nat))),some bv,some ov,some lv,some (.ref c),some (oV lo),some (oV ho'),some rv,some (.int far),o13,o14,o15,o16,o17] H13) (fun H13 rv j13 b13 h13=>?_) (fun key=>?_)
    case refine_2 =>
      refine ⟨_,rfl,rfl,_,rfl,?_⟩
      cases lo with
      | none=>exact iteF (key H12 r6 j12 (ButS.refl _ _) (st_w h6 (by decide) (by decide)))
      | some x=>exact iteT ⟨(i,j,x),⟨⟨hi,hj⟩,elo,lob x elo⟩,abQ st [st] H,⟨⟨rfl,rfl⟩,⟨.ref c,rfl,rc b812⟩,⟨_,rfl,.int x⟩,⟨_,rfl,_,.int _,_,rfl,hfar⟩,⟨r6,rfl,h6⟩⟩,j12,fun v H13 b13 j13 h13=>key H13 v j13 b13 (st_w h13 (by decide) (by decide))⟩
    refine Zhw (fun N'=>∀ H14 rv,(abQ st [st] H).J H14→tD (LP RD 6 10) (abQ st [st] H) rv H14→N' [some (.ref st),some (.ref a),some (.ref T),some (.int (N:Nat)),some (.int (0+(i0:Nat))),some bv,some ov,some lv,some (.ref c),some (oV lo),some (oV ho'),some rv,some (.int far),o13,o14,o15,o16,o17] H14) (fun H14 rv j14 h14=>?_) (fun key=>?_)
    case refine_2 =>
      refine ⟨_,rfl,rfl,_,rfl,?_⟩
      cases ho' with
      | none=>exact iteF (key H13 rv j13 (st_w h13 (by decide) (by decide)))
      | some x=>exact iteT ⟨(i,j,x),⟨⟨hi,hj⟩,eho,hib x eho⟩,abQ st [st] H,⟨⟨rfl,rfl⟩,⟨.ref c,rfl,rc (b812.trans b13)⟩,⟨_,rfl,.int x⟩,⟨_,rfl,_,.int _,_,rfl,hfar⟩,⟨rv,rfl,h13⟩⟩,j13,fun v H14 b14 j14 h14=>key H14 v j14 (st_w h14 (by decide) (by decide))⟩
    obtain ⟨_,rr,ds,rfl,l1,l2,hall⟩:=h14
    cases rr with
    | @lst L xs _ eL nL ra =>
      obtain ⟨ms,ex,ed,hm⟩:=ra.pairs
      subst ex ed
      refine ⟨_,rfl,L,rfl,⟨_,SqL.of eL⟩,Zk7 (xs:=ms.map (·.1)) (fun k σ Hk=>∃ o13 o14 o15 o16 o17:Option V,σ = [some (.ref st),some (.ref a),some (.ref T),some (.int (N:Nat)),some (.int (0+(i0:Nat))),some bv,some ov,some lv,some (.ref c),some (oV lo),some (oV ho'),some (.ref L),some (.int far),o13,o14,o15,o16,o17]∧Same H14 Hk) ⟨_,_,_,_,_,rfl,Same.refl _⟩ ?_ ?_ ?_⟩
      · rintro k σ Hk _ ⟨_,_,_,_,_,_,sk⟩
        exact SqL.of (sk _ _ eL)
      · rintro k x σ Hk hx ⟨p13,p14,p15,p16,p17,rfl,sk⟩
        rw [List.getElem?_map] at hx
        obtain ⟨mm,hm1,rfl⟩:=Option.map_eq_some_iff.mp hx
        have hmm:=List.mem_of_getElem? hm1
        obtain ⟨door,d1,d2,ci,wd,ed,hrf,z1,z2⟩:=hall mm.2 (List.mem_map.mpr ⟨mm,hmm,rfl⟩)
        have rx:=hm mm hmm
        rw [ed] at rx
        obtain ⟨v0,dd⟩:=mm
        cases rx with
        | @tup R ys _ eR nR rs =>
          cases rs with
          | cons ra1 rs =>
            cases rs with
            | @cons one _ _ _ ra2 rs =>
              cases rs with
              | @cons other _ _ _ ra3 rs =>
                cases rs with
                | cons ra4 rs =>
                  cases rs
                  cases ra1
                  cases ra4
                  have q1:RdS [] H14 one d1:=ra2.any
                  have q2:RdS [] H14 other d2:=ra3.any
                  have sz:Sz 1000000 60 (.list [d1,d2]):=(ZbH (n:=2) (fun z hz=>by
                    simp only [List.mem_cons,List.not_mem_nil,or_false] at hz
                    rcases hz with h | h
                    · rw [h];exact z1
                    · rw [h];exact z2) (Nat.le_refl _)).mono (by decide) (by decide)
                  refine ⟨R,_,rfl,SqT.of (sk _ _ eR),rfl,_,_,rfl,_,_,rfl,_,_,rfl,_,_,rfl,rfl,?_⟩
                  refine ⟨_,rfl,_,rfl,len2,fun m1 hm1=>⟨_,_,rfl,.lst Zad (by simp) (.cons (q1.same (sk.trans (Same.new hm1))) (.cons (q2.same (sk.trans (Same.new hm1))) .nil)),sz.sh,Zkt sz.le,sz.dp,?_⟩⟩
                  have sk1:=sk.trans (Same.new (o:=.lst [one,other]) hm1)
                  generalize upd Hk m1 (.lst [one,other])=Hk1 at sk1 ⊢
                  have jk1:=(abQ st [st] H).same j14 sk1
                  refine ⟨_,rfl,_,rfl,_,rfl,_,rfl,a,dx,t,l,prs,chs,door,one,other,rfl,hK _ jk1.2.1,hcl,.inl ⟨d1,d2,ci,wd,q1.same sk1,q2.same sk1,(by rw [hpn,hpw,hrows];exact hrf),fun H' s'=>⟨_,rfl,rfl,_,rfl,?_⟩⟩⟩
                  rw [Zd9]
                  have sk2:=sk1.trans s'
                  refine iteF ⟨_,rfl,_,rfl,len2,fun m2 hm2=>⟨_,_,rfl,.lst Zad (by simp) (.cons (q1.same (sk2.trans (Same.new hm2))) (.cons (q2.same (sk2.trans (Same.new hm2))) .nil)),sz.sh,Zkt sz.le,sz.dp,_,rfl,rfl,_,rfl,?_⟩⟩
                  rw [Zd9]
                  exact iteF ⟨_,_,_,_,_,rfl,sk2.trans (Same.new hm2)⟩
      · rintro σ Hk ⟨p13,p14,p15,p16,p17,rfl,sk⟩
        exact ⟨_,_,_,_,_,_,_,_,_,_,_,_,_,_,rfl,(abQ st [st] H).same j14 sk⟩
end
def oD:Option Int→PyData
  | none=>.none
  | some n=>.int n
def Zkr (rows:List (List Int)) (i j:Nat):PyData:=.tuple [oD (ZaR rows i j).max?,oD (Zaz rows i j).min?]
theorem ZlM (o:Option Int):(oD o).canLay0=true∧(oD o).depth=0:=by
  cases o with
  | none=>exact ⟨rfl,rfl⟩
  | some n=>exact ⟨rfl,rfl⟩
theorem Zk2 (rows:List (List Int)) (i j:Nat):(Zkr rows i j).canLay0=true∧(Zkr rows i j).depth≤1:=by
  obtain ⟨a1,a2⟩:=ZlM (ZaR rows i j).max?
  obtain ⟨b1,b2⟩:=ZlM (Zaz rows i j).min?
  unfold Zkr
  simp only [PyData.canLayAll0,PyData.canLay0,PyData.depthAll,PyData.depth,a1,b1,a2,b2,Bool.and_self,true_and]
  decide
def dCl (k:Nat × Nat):PyData:=.tuple [.int k.1,.int k.2]
theorem Zjs:∀ ks:List (Nat × Nat),PyData.canLayAll0 (ks.map dCl)=true∧PyData.depthAll (ks.map dCl)≤1
  | []=>⟨rfl,Nat.zero_le _⟩
  | c :: r=>by
    have h:=Zjs r
    refine ⟨?_,?_⟩
    · rw [List.map_cons]
      simp only [dCl,PyData.canLayAll0,PyData.canLay0,h.1,Bool.and_self]
    · have h2:=h.2
      show max 1 (PyData.depthAll (r.map dCl))≤1
      omega
end Seek
namespace L2
open PySem PySem.Spec PyProof.Rows
theorem Zjw {X:Cx} (K:PySem.W.Frag) (hK:X.K=K:=by rfl):IxR X (rIxL K):=by subst hK;exact Zam
end L2
namespace Seek
open PySem L2 PyProof.Rows
mutual
theorem Zfp:∀ d:PyData,d.canLay0=true→PyData.eqv d d=true
  | .none,_=>rfl
  | .bool b,_=>by simp [PyData.eqv]
  | .int i,_=>by simp [PyData.eqv]
  | .str x,_=>by simp [PyData.eqv]
  | .list xs,h=>by
    simp only [PyData.canLay0] at h
    simp only [PyData.eqv]
    exact Zei xs h
  | .tuple xs,h=>by
    simp only [PyData.canLay0] at h
    simp only [PyData.eqv]
    exact Zei xs h
  | .dict _,h=>by simp [PyData.canLay0] at h
theorem Zei:∀ ds:List PyData,PyData.canLayAll0 ds=true→PyData.eqvAll ds ds=true
  | [],_=>rfl
  | d :: ds,h=>by
    simp only [PyData.canLayAll0,Bool.and_eq_true] at h
    simp only [PyData.eqvAll,Zfp d h.1,Zei ds h.2,Bool.and_self]
end
mutual
theorem ZiP {K:PySem.W.Frag}{S:List Addr}{H:Hp}:∀ {v:V}{d:PyData},RdS S H v d→d.canLay0=true→RdD K H v d
  | _,_,.non,_=>.non
  | _,_,.bl b,_=>.bl b
  | _,_,.int i,_=>.int i
  | _,_,.str x,_=>.str x
  | _,_,.lst e _ r,h=>.lst (SqL.of e) (ZgC r (by simpa only [PyData.canLay0] using h))
  | _,_,.tup e _ r,h=>.tup (SqT.of e) (ZgC r (by simpa only [PyData.canLay0] using h))
  | _,_,.dct e n,h=>by simp [PyData.canLay0] at h
theorem ZgC {K:PySem.W.Frag}{S:List Addr}{H:Hp}:∀ {vs:List V}{ds:List PyData},RdSs S H vs ds→PyData.canLayAll0 ds=true→RdAll K H vs ds
  | _,_,.nil,_=>.nil
  | _,_,.cons r t,h=>by
    simp only [PyData.canLayAll0,Bool.and_eq_true] at h
    exact .cons (ZiP r h.1) (ZgC t h.2)
end
theorem Zlf {K:PySem.W.Frag}{a:Addr}{α:Type}{ms:List α}{σ0:L2.St}{H1:Hp}{te:TE}{Q:VK} (u:α→V) (f:α→PyData) (S:List Addr) (hS:∀ b∈S,H1 b≠none) (hq:SqL K H1 a (ms.map u)) (hn:ms.length≤1000)
    (he:∀ m∈ms,∀ (H':Hp) (Q':VK) (S':List Addr),Same H1 H'→(∀ b∈S',H' b≠none)→(∀ v H'',Same H' H''→RdS S' H'' v (f m)→Q' v H'')→te (σ0.set 0 (some (u m))) H' Q')
    (fin:∀ L xs H',H1 L=none→Same H1 H'→H' L=some (.lst xs)→RdSs S H' xs (ms.map f)→Q (.ref L) H'):Zbw (Itl K a) (ZaP 0) ZcJ te σ0 H1 Q:=by
  intro D hD
  refine ZcP (n:=ms.length) (fun i ys H'=>Same H1 H'∧H' D=some (.lst ys)∧RdSs (D :: S) H' ys ((ms.take i).map f)∧ys.length=i) ⟨Same.new hD,Zad,by simp only [List.take_zero,List.map_nil];exact .nil,rfl⟩ (fun i ys H' _ q=>q.2.1) (fun i ys H' hi q=>⟨_,u ms[i],q.1.seq hq,by simp [hi]⟩) (fun ys H' q=>⟨_,q.1.seq hq,by simp⟩) ?_ ?_
  · rintro i ys H' x H2 hi ⟨s1,eD,rs,hl⟩ ⟨rfl,hy⟩
    have hx:=hy _ (s1.seq hq)
    rw [List.getElem?_map,List.getElem?_eq_getElem hi] at hx
    have hx:u ms[i]=x:=Option.some.inj hx
    subst hx
    unfold ZcJ
    refine iteT ?_
    refine he ms[i] (List.getElem_mem hi) _ _ (D :: S) s1 (fun b hb=>?_) fun v H'' s2 rv=>?_
    · rcases List.mem_cons.mp hb with rfl | hb
      · rw [eD];exact fun z=>nomatch z
      · exact fun z=>hS b hb (s1.free z)
    · have b:ButS (D :: S) H'' (upd H'' D (.lst (ys ++ [v]))):=fun y o n e=>by
        rw [Zal (fun z=>n (by rw [z];exact .head _))]
        exact e
      refine ⟨s2 _ _ eD,sl6 (by omega),(s1.trans s2).upd hD,Zad,?_,by rw [List.length_append,hl];rfl⟩
      rw [List.take_add_one,List.getElem?_eq_getElem hi,List.map_append]
      exact Zb5 (ZdF (rs.same s2) b) (.cons (ZgB rv b) .nil)
  · rintro ys H' ⟨s1,eD,rs,hl⟩
    rw [List.take_length] at rs
    exact fin D ys H' hD s1 eD (rs.move (fun c o _ e=>e) fun b n z=>n (.tail _ z))
def Zep (prs:Prs) (q:Addr × List Int):PyData:=.list ((Zcb prs (q.2.getD 0 0) prs.length).map dCl)
def ZfF (prs qs:Prs) (n:Int):PyData:=.list [dTab (prs.map (·.2)),.list (qs.map (Zep prs)),.int n,Zkr (prs.map (·.2)) 0 0]
theorem Zf9 (prs:Prs):∀ qs:Prs,PyData.canLayAll0 (qs.map (Zep prs))=true∧PyData.depthAll (qs.map (Zep prs))≤2
  | []=>⟨rfl,Nat.zero_le _⟩
  | c :: r=>by
    have h:=Zf9 prs r
    have g:=Zjs (Zcb prs (c.2.getD 0 0) prs.length)
    have h2:=h.2
    have g2:=g.2
    refine ⟨?_,?_⟩
    · rw [List.map_cons]
      simp only [Zep,PyData.canLayAll0,PyData.canLay0,g.1,Bool.true_and]
      exact h.1
    · show max (PyData.depthAll ((Zcb prs (c.2.getD 0 0) prs.length).map dCl)+1) (PyData.depthAll (r.map (Zep prs)))≤2
      omega
theorem Zck (prs qs:Prs) (n:Int):(ZfF prs qs n).canLay0=true∧(ZfF prs qs n).depth≤64:=by
  have h1:=Zfh (prs.map (·.2))
  have h2:=Zf9 prs qs
  have h3:=Zk2 (prs.map (·.2)) 0 0
  have a1:=h1.2
  have a2:=h2.2
  have a3:=h3.2
  refine ⟨?_,?_⟩
  · simp only [ZfF,PyData.canLay0,PyData.canLayAll0,dTab,h1.1,h2.1,h3.1,Bool.and_self]
  · simp only [ZfF,PyData.depth,PyData.depthAll,dTab]
    omega
theorem Zct {d:PyData} (h:d.canLay0=true∧d.depth≤64):SeqAt.shaped d=true:=by
  show (PyData.canLay0 d && decide (PyData.depth d≤64))=true
  rw [Bool.and_eq_true]
  exact ⟨h.1,decide_eq_true h.2⟩
theorem ZeN {S:List Addr}{H:Hp}:∀ {es:Cs},(∀ c∈es,Zcq H c∧c.1∉S)→RdSs S H (es.map ZjY) ((es.map (·.2)).map dCl)
  | [],_=>.nil
  | c :: r,h=>.cons (.tup (h c (.head _)).1 (h c (.head _)).2 (.cons (.int _) (.cons (.int _) .nil))) (ZeN fun d hd=>h d (.tail _ hd))
theorem ZlH {S:List Addr}{H:Hp} (o:Option Int):RdS S H (oV o) (oD o):=by
  cases o with
  | none=>exact .non
  | some n=>exact .int n
section
variable {P:Program}{w:World}{K:PySem.W.Frag}{mg:Str→Option Value}{base:Heap}{C:Addr}
def Zg6 (C:Addr):Sp:=fun vs H Q _=>∃ (a dx t l T:Addr) (prs qs:Prs) (chs:Ch) (S:List Addr),vs=[.ref a,.ref T]∧Keep H C a dx t l prs chs∧Tab H T qs∧tabB qs=true∧(∀ b∈S,H b≠none)∧∀ v n H',Same H H'→NumIs (prs.map (·.2)) 0 n→RdS S H' v (ZfF prs qs n)→Q v H'
theorem sc_stand9:FnScope ["keeper","table","cells"] ["keeper","table"] (Zag ZhD):=⟨rfl,rfl,rfl,by decide +kernel,rfl,by decide +kernel,by decide +kernel⟩
set_option maxHeartbeats 8000000 in
theorem ZiY (kc:KpC K C) (Df:Zao K mg "_law_stand" ZhD ["keeper","table"]) (M1:MtAt P w K mg base 2 C "table" ["self"] (Ze3 C)) (M2:MtAt P w K mg base 10 C "span" ["self","cell"] (Zgy C)) (M3:MtAt P w K mg base 8 C "cells" ["self","x"] (Zhc C)) (M4:MtAt P w K mg base 9 C "number" ["self","k"] (ZfG C)) :
    FnAt P w K mg base 11 "_law_stand" ["keeper","table"] (Zg6 C):=by
  refine FnAt.of Df sc_stand9 (fun vs H Q E h=>?_) (fun f cdv A outer s H vs Q E hr h=>?_)
  · obtain ⟨a,dx,t,l,T,prs,qs,chs,S,rfl,_⟩:=h
    rfl
  · obtain ⟨a,dx,t,l,T,prs,qs,chs,S,rfl,hk,hT,hg,hS,q⟩:=h
    have nd:=sc_stand9.nd
    have nd1:(["row","keeper"]:List Str).Nodup:=by decide +kernel
    have hr8:Room 8 _:=hr.mono (show 8≤10 by decide)
    have hr9:Room 9 _:=hr.mono (show 9≤10 by decide)
    have hr2:Room 2 _:=hr.mono (show 2≤10 by decide)
    obtain ⟨g,g1,g2,g3,g4⟩:=ZaI hg
    obtain ⟨k,k1,k2,k3,k4⟩:=ZaI hk.ok
    refine ⟨_,Zac (Zd6 (i:=2) ["row","keeper"] [none,some 0] (Zag ZhD) ["keeper","table","cells"] nd rfl (Or.inl rfl) rfl (Zba (pv 1)) (by decide +kernel)
        (fun cl C s2 H2 ex=>pg_c 0 nd1) (fun cl C s2 H2 ex=>ZaK) (fun cl C s2 H2 ex=>pe_m M3 kc.cls hr8 (pv 1) (Zaa (Zav (Zjw K) (pv 0) Zae (fun _ _=>rfl)) Zab)))
      (Zaf (Zan (ZaF (Zaa (ZiU M1 kc.cls hr2 (pv 0)) (Zaa (pv 2) (Zaa (pe_m M4 kc.cls hr9 (pv 0) (Zaa Zae Zab)) (Zaa (pe_m M2 kc.cls hr (pv 0) (Zaa (Zbn (Zaa Zae (Zaa Zae Zab))) Zab)) Zab))))))),?_⟩
    refine ⟨_,rfl,T,rfl,⟨_,hT.sq⟩,Zlf (fun p:Addr × List Int=>V.ref p.1) (Zep prs) S hS hT.sq (by omega) (fun p hp H1 Q1 S1 s1 hS1 q1=>?_) fun L xs H2 hL s2 eL rL=>?_⟩
    · have hk1:=hk.same s1
      have hT1:=hT.same s1
      refine ⟨_,rfl,a,dx,_,rfl,hk1.ob,rfl,_,rfl,p.1,_,((0:Nat):Int),.int (p.2.getD 0 0),rfl,rfl,(hT1.r p hp).sq,Zco (by rw [g.len p hp];omega),a,dx,t,l,prs,chs,_,rfl,hk1,fun L1 es H' hL1 s' eL1 hes hcells hlen=>q1 _ H' s' ?_⟩
      unfold Zep
      rw [← hcells]
      exact .lst eL1 (fun z=>hS1 _ z hL1) (ZeN fun c hc=>⟨(hes c hc).1,fun z=>hS1 _ z (hes c hc).2⟩)
    · have hk2:=hk.same s2
      refine ⟨_,rfl,a,dx,_,rfl,hk2.ob,rfl,a,dx,t,l,prs,chs,rfl,hk2,fun t4 qs4 H3 ht4 hq4 hnd4 s3 hT4 hr4=>?_⟩
      have hk3:=hk2.same s3
      refine ⟨_,rfl,_,rfl,a,dx,_,rfl,hk3.ob,rfl,a,dx,t,l,prs,chs,0,rfl,hk3,Nat.mul_pos k1 k3,fun n H4 s4 hn=>?_⟩
      have hk4:=hk3.same s4
      refine ⟨_,rfl,a,dx,_,rfl,hk4.ob,rfl,len2,fun c hc=>?_⟩
      have s5:=Same.new (o:=.tup [.int 0,.int 0]) hc
      have hc5:Cell (upd H4 c (.tup [.int 0,.int 0])) c 0 0:=Zad
      generalize upd H4 c (.tup [.int 0,.int 0])=H5 at s5 hc5 ⊢
      refine ⟨a,dx,t,l,c,prs,chs,0,0,rfl,hk4.same s5,hc5,by omega,by omega,fun r H6 hr6 s6 er=>⟨len4,fun L8 hL8=>?_⟩⟩
      have s26:=s3.trans (s4.trans (s5.trans s6))
      have s8:=Same.new (o:=.lst [.ref t4,.ref L,.int n,.ref r]) hL8
      have s38:=(s4.trans (s5.trans s6)).trans s8
      have s05:=s2.trans (s3.trans (s4.trans s5))
      refine q _ n _ (s2.trans (s26.trans s8)) hn (.lst Zad (fun z=>hS _ z ((s2.trans s26).free hL8)) ?_)
      refine .cons ?_ (.cons (.lst ((s26.trans s8) _ _ eL) (fun z=>hS _ z hL) (rL.same (s26.trans s8))) (.cons (.int n) (.cons (.tup (s8 _ _ er) (fun z=>hS _ z (s05.free hr6)) (.cons (ZlH _) (.cons (ZlH _) .nil))) .nil)))
      rw [← hr4]
      exact Zg2 (hT4.same s38) (fun z=>hS _ z (s2.free ht4)) fun p hp=>fun z=>hS _ z (s2.free (hq4 p hp).1)
end
theorem Zki {X:Cx}{Γ:EnB}{e:Expr}{ds:List PyData}{pos p1:Pos} (h:AE X Γ e (tE (.list ds))) (hln:X.mg "len" = none) (hg:Gl X "len" := by rfl) (he:starEach [e] X.env=(false,eval e X.env) :: starEach [] X.env:=by rfl) (hpl:(backTo pos (starEach ([]:List Expr) X.env)).any (·.1)=false:=by rfl):AE X Γ (.Call (.Name "len" p1) [e] [] pos) (tE (.int (ds.length:Nat))) :=
  ⟨Za1 (pe_b Zah hln boot_len (Zaa h.pe Zab he) hg (by decide) (by decide) he hpl) fun σ H Q ⟨B,hg,j,q⟩=>⟨B,hg,j,fun v H1 b1 j1 a1=>by
    obtain ⟨_,r,rfl⟩:=a1
    cases r with
    | @lst a xs _ ea na ra=>exact ⟨a,xs,rfl,.inl (SqL.of ea),by rw [ra.length];exact q _ _ b1 j1 ⟨_,.int _,rfl⟩⟩⟩⟩
theorem Zm6 {X:Cx}{Γ:EnB}{eN eN' eP eP' eO e1:Expr}{h:List Int}{p:Nat}{ψ:PyData→Prop}{q1 q2 q3 q4 q6 q7 q8 q9:Pos} (sg:StbE Γ) (hN:AE X Γ eN (tE (dRow h))) (hP:AE X Γ eP (tE (.int (p:Nat)))) (hO:AE X Γ eO (tD ψ)) (hN':AE X Γ eN' (tE (dRow h))) (hP':AE X Γ eP' (tE (.int (p:Nat)))) (h1:PE X e1 (tC (.int 1))) (hl:h.length≤6) (hp:p<h.length)
    (hs:starEach [eO] X.env=(false,eval eO X.env) :: starEach [] X.env:=by rfl) :
    AE X Γ (.BinOp (.BinOp (.Subscript eN (.Slice none (some eP) none q1) q2) .Add (.List [eO] q3) q4) .Add (.Subscript eN' (.Slice (some (.BinOp eP' .Add e1 q6)) none none q7) q8) q9) (tD fun d=>∃ o,ψ o∧d=setD h p o):=by
  refine ZeZ (φ1:=fun d=>∃ o,ψ o∧d=.list ((h.map PyData.int).take p ++ [o])) sg (ZeZ (φ2:=fun d=>∃ o,ψ o∧d=.list [o]) sg (Zby sg hN ZbV (ZbU hP)) (ZhP (Zbg sg hO Zcn hs) (fun ds ⟨d,r,e,_,e2⟩=>by subst e e2;simp) fun ds ⟨d,r,e,hd,e2⟩=>by subst e e2;exact ⟨d,hd,rfl⟩) (fun d e=>⟨_,e,by rw [ZbS (by rw [List.length_map];omega),List.length_take,List.length_map];omega⟩) (fun d ⟨o,_,e⟩=>⟨_,e,by simp⟩) fun a b ha ⟨o,ho,hb⟩=>?_) (Zby sg hN' (ZbU (Zeu sg hP' (Zaw h1))) ZbV) (fun d ⟨o,_,e⟩=>⟨_,e,by rw [List.length_append,List.length_take,List.length_map,List.length_singleton];omega⟩) (fun d e=>⟨_,e,by rw [show ((p:Nat):Int)+1=((p+1:Nat):Int) by omega,ZbB,List.length_drop,List.length_map];omega⟩) fun a b ⟨o,ho,ha⟩ hb=>?_
  · injection ha with ha
    injection hb with hb
    rw [ha,hb,ZbS (by rw [List.length_map];omega)]
    exact ⟨o,ho,rfl⟩
  · injection ha with ha
    injection hb with hb
    rw [ha,hb,show ((p:Nat):Int)+1=((p+1:Nat):Int) by omega,ZbB]
    exact ⟨o,ho,rfl⟩
abbrev ktN:List Str:=["store","table","row","place","odd","here","bent","lines","at","some","down","low","spots","k","line","long"]
theorem sc_noTab:FnScope ktN ["store","table"] (Zag Zb8):=⟨rfl,rfl,rfl,by decide +kernel,rfl,by decide +kernel,by decide +kernel⟩
abbrev ktX (P:Program) (w:World) (K:PySem.W.Frag) (mg:Str→Option Value) (base:Heap) (f:Addr) (cdv:Value) (A:Around) (outer:List Env) (s:Shared) (H:Hp) (E:XK):Cx:=(cxOf CX0 P w K mg base ktN "_law_no_table" (Zag Zb8) f cdv A outer s H E).nox
def ktS (k:Nat):Stmt:=(Zar Zb8).getD k (.Pass ⟨0,0,0,0⟩)
structure KR (st D t:Addr) (prs:Prs) (H0:Hp) (r:Nat) (σ:L2.St) (H:Hp):Prop where
  c:NtC st D t prs H0 16 σ H
  hr:r<prs.length
  v2:σ[2]? = some (some (.int (r:Nat)))
  v5:∃ a,σ[5]? = some (some (.ref a))∧prs[r]? = some (a,ZaA prs r)
section
variable {st D t:Addr}{prs:Prs}{H0 H H':Hp}{r:Nat}{σ:L2.St}{i:Nat}{v:V}
theorem KR.set (h:KR st D t prs H0 r σ H) (hi:6≤i):KR st D t prs H0 r (σ.set i (some v)) H :=
  ⟨h.c.set (by omega),h.hr,Zbo h.v2 (by omega),let ⟨a,e,q⟩:=h.v5;⟨a,Zbo e (by omega),q⟩⟩
theorem KR.but (h:KR st D t prs H0 r σ H) (b:But st H H') (S:StK H' st):KR st D t prs H0 r σ H':=⟨h.c.but b S,h.hr,h.v2,h.v5⟩
theorem KR.same (h:KR st D t prs H0 r σ H) (s:Same H H'):KR st D t prs H0 r σ H':=h.but (Same.but s) (h.c.S.same s)
theorem KR.row (h:KR st D t prs H0 r σ H):∃ a,σ[5]? = some (some (.ref a))∧Row H a (ZaA prs r)∧a≠st:=let ⟨a,e,q⟩:=h.v5;⟨a,e,h.c.T.r _ (List.mem_of_getElem? q),h.c.np _ (List.mem_of_getElem? q)⟩
theorem KR.d5 (h:KR st D t prs H0 r σ H):Vr (abS st D) σ H 5 (dRow (rwD prs r)):=by
  obtain ⟨a,e,hR,n⟩:=h.row
  refine ⟨_,e,?_⟩
  unfold rwD rws
  rw [Zdf]
  exact Ze7 hR (by simpa [abS] using n)
theorem KR.env (h:KR st D t prs H0 r σ H) {l:List (Nat × PyData)} (hl:∀ x∈l,Vr (abS st D) σ H x.1 x.2):EnvD st D l (abS st D) σ H:=⟨rfl,h.c.s0,hl⟩
end
section
variable (st D t:Addr) (prs:Prs) (H0:Hp)
abbrev K0 (σ:L2.St) (H:Hp):Prop:=NtC st D t prs H0 16 σ H
def K1 (σ:L2.St) (H:Hp):Prop:=K0 st D t prs H0 σ H∧∃ r:Nat,r<prs.length∧σ[2]? = some (some (.int (r:Nat)))
def K2 (σ:L2.St) (H:Hp):Prop:=K0 st D t prs H0 σ H∧∃ r p:Nat,r<prs.length∧p<w0 prs∧σ[2]? = some (some (.int (r:Nat)))∧σ[3]? = some (some (.int (p:Nat)))
def K3 (σ:L2.St) (H:Hp):Prop:=K0 st D t prs H0 σ H∧∃ (r p:Nat) (o:PyData),r<prs.length∧p<w0 prs∧σ[2]? = some (some (.int (r:Nat)))∧σ[3]? = some (some (.int (p:Nat)))∧ZaG o=false∧Sz 41 1 o∧Vr (abS st D) σ H 4 o
def K4 (σ:L2.St) (H:Hp):Prop:=∃ (r p:Nat) (o:PyData),KR st D t prs H0 r σ H∧p<w0 prs∧σ[3]? = some (some (.int (p:Nat)))∧ZaG o=false∧Sz 41 1 o∧Vr (abS st D) σ H 4 o
def K5 (σ:L2.St) (H:Hp):Prop:=∃ r b,KR st D t prs H0 r σ H∧BL (rws prs) r b∧Vr (abS st D) σ H 6 b
def K6 (hi:Nat) (σ:L2.St) (H:Hp):Prop:=∃ r,KR st D t prs H0 r σ H∧VP (abS st D) σ H 7 (LP (BL (rws prs) r) 8 hi)
end
section
variable {P:Program}{w:World}{K:PySem.W.Frag}{mg:Str→Option Value}{base:Heap}{f:Addr}{cdv:Value}{A:Around}{outer:List Env}{s:Shared}{Hs H0:Hp}{E:XK}{st D t:Addr}{prs:Prs}
theorem kr0 (T:Blt mg) (G:FnAt P w K mg base 1 "_law_take" ["store","many"] ZaW) (hr:Room 1 (ktX P w K mg base f cdv A outer s Hs E).A) (hg:tabB prs=true):PS (ktX P w K mg base f cdv A outer s Hs E) (ktS 0) (tTr (K0 st D t prs H0) (K1 st D t prs H0)):=by
  have nd:=sc_noTab.nd
  have Z:PS (ktX P w K mg base f cdv A outer s Hs E) (ktS 0) _:=Zaj (i:=2) nd rfl (Or.inl rfl) (pe_f G hr (Zaa (pv 0) (Zaa (pe_b Zah T.len boot_len (Zaa (pv 1) Zab)) Zab)))
  generalize ktS 0=S0 at Z ⊢
  refine ZcU (i:=2) Z fun σ H Q h q=>?_
  obtain ⟨g,g1,g2,g3,g4⟩:=ZaI hg
  refine ⟨_,h.s0,_,h.s1,t,_,rfl,.inl h.T.sq,st,_,rfl,by rw [List.length_map];omega,by rw [List.length_map];omega,h.S,fun d H' d0 d1 b S=>q _ _ ⟨(h.but b S).set (by decide),d.toNat,?_,?_⟩⟩
  · rw [List.length_map] at d1
    omega
  · rw [Za8 (by rw [h.len];decide),show ((d.toNat:Nat):Int)=d by omega]
theorem kr1 (T:Blt mg) (G:FnAt P w K mg base 1 "_law_take" ["store","many"] ZaW) (hr:Room 1 (ktX P w K mg base f cdv A outer s Hs E).A) (hg:tabB prs=true):PS (ktX P w K mg base f cdv A outer s Hs E) (ktS 1) (tTr (K1 st D t prs H0) (K2 st D t prs H0)):=by
  have nd:=sc_noTab.nd
  have Z:PS (ktX P w K mg base f cdv A outer s Hs E) (ktS 1) _:=Zaj (i:=3) nd rfl (Or.inl rfl) (pe_f G hr (Zaa (pv 0) (Zaa (pe_b Zah T.len boot_len (Zaa (Zav Zam (pv 1) Zae (fun _ _=>rfl)) Zab)) Zab)))
  generalize ktS 1=S0 at Z ⊢
  refine ZcU (i:=3) Z fun σ H Q hh q=>?_
  obtain ⟨h,r,hr,e2⟩:=hh
  obtain ⟨g,g1,g2,g3,g4⟩:=ZaI hg
  obtain ⟨p0,hp0,hm0,hx0⟩:=Zbe (prs:=prs) g1
  refine ⟨_,h.s0,_,h.s1,t,_,0,.ref p0.1,rfl,rfl,h.T.sq,ZaB (j:=0) (by rw [List.getElem?_map,hx0];rfl),p0.1,_,rfl,.inl (h.T.r p0 hm0).sq,st,_,rfl,by rw [List.length_map,g.len p0 hm0];omega,by rw [List.length_map,g.len p0 hm0];omega,h.S,fun d H' d0 d1 b S=>q _ _ ⟨(h.but b S).set (by decide),r,d.toNat,hr,?_,Zbo e2 (by decide),?_⟩⟩
  · rw [List.length_map,g.len p0 hm0] at d1
    omega
  · rw [Za8 (by rw [h.len];decide),show ((d.toNat:Nat):Int)=d by omega]
theorem kr2 (G:FnAt P w K mg base 1 "_law_take" ["store","many"] ZaW) (hr:Room 1 (ktX P w K mg base f cdv A outer s Hs E).A):PS (ktX P w K mg base f cdv A outer s Hs E) (ktS 2) (tTr (K2 st D t prs H0) (K3 st D t prs H0)):=by
  have nd:=sc_noTab.nd
  have hi:∀ (q1 q2 q3 q5:Pos) (j),PE (ktX P w K mg base f cdv A outer s Hs E) (.Call (.Name "_law_take" q1) [.Name "store" q2,.Constant (.int 8) j q3] [] q5) (tF ZaW (ZbL (tVar 0) (ZbL (tC (.int 8)) tNil))):=fun q1 q2 q3 q5 j=>pe_f G hr (Zaa (pv 0) (Zaa Zae Zab))
  have L:=fun (es:List Expr) (p1 p2 p3:Pos) (p4:Pos) (q1 q2 q3 q5:Pos) (j)=>Zaj (X:=ktX P w K mg base f cdv A outer s Hs E) (pos:=p3) (pos':=p4) (i:=4) nd rfl (Or.inl rfl) (ZkG (es:=es) (p1:=p1) (p2:=p2) (Γ:=fun B' σ H=>B'=abS st D∧σ[0]? = some (some (.ref st))) (n:=8) (fun _ _ _ _ h _=>h) (hi q1 q2 q3 q5 j) (fun _ _=>rfl) (fun B' σ H Q hg j q=>by
        obtain ⟨e1,e2⟩:=hg
        subst e1
        exact ⟨_,e2,st,8,rfl,by decide,by decide,j,fun v H' v0 v1 b S=>q v H' v0 v1 b.butS S⟩))
  have X0:PS (ktX P w K mg base f cdv A outer s Hs E) (ktS 2) _:=L _ _ _ _ _ _ _ _ _ _
  obtain ⟨S3,e3⟩:∃ S,S=ktS 2:=⟨_,rfl⟩
  rw [← e3] at X0 ⊢
  clear e3 L hi
  refine ZcU (i:=4) X0 fun σ H Q hh q=>?_
  obtain ⟨h,r,p,hr,hp,e2,e3⟩:=hh
  refine ⟨abS st D,oddD,⟨rfl,h.s0⟩,h.S,by kernel_rfl,by decide,fun v e H' he re b S=>q _ _ ⟨(h.but b.but S).set (by decide),r,p,e,hr,hp,Zbo e2 (by decide),Zbo e3 (by decide),?_,?_,⟨_,Za8 (by rw [h.len];decide),re⟩⟩⟩
  all_goals
    have hz:oddD.all (fun z=>(z.showable && decide (z.shown.length≤41) && decide (z.depth≤1)) && !ZaG z)=true:=by decide +kernel
    have z:=List.all_eq_true.mp hz e he
    rw [Bool.and_eq_true] at z
  · simpa using z.2
  · exact Zbr z.1
theorem kr3:PS (ktX P w K mg base f cdv A outer s Hs E) (ktS 3) (tTr (K3 st D t prs H0) (K4 st D t prs H0)):=by
  have nd:=sc_noTab.nd
  have Z:PS (ktX P w K mg base f cdv A outer s Hs E) (ktS 3) _:=Zaj (i:=5) nd rfl (Or.inl rfl) (Zav Zam (pv 1) (pv 2) (fun _ _=>rfl))
  generalize ktS 3=S0 at Z ⊢
  refine ZcU (i:=5) Z fun σ H Q hh q=>?_
  obtain ⟨h,r,p,o,hr,hp,e2,e3,ho,hz,v4⟩:=hh
  obtain ⟨pr,hp1,hp2,hp3⟩:=ZaE hr
  refine ⟨_,h.s1,_,e2,t,_,_,.ref pr.1,rfl,rfl,h.T.sq,ZaB (by rw [List.getElem?_map,hp2];rfl),q _ _ ⟨r,p,o,⟨h.set (by decide),hr,Zbo e2 (by decide),pr.1,Za8 (by rw [h.len];decide),?_⟩,hp,Zbo e3 (by decide),ho,hz,v4.ne (by decide)⟩⟩
  rw [hp2,hp3]
theorem Zbi (hg:tabB prs=true) {r:Nat} (hr:r<prs.length):(rwD prs r).length=w0 prs:=(ZaL hg).len r (by rw [List.length_map];exact hr)
theorem kr4 (hg:tabB prs=true) (hb:Bnd prs):PS (ktX P w K mg base f cdv A outer s Hs E) (ktS 4) (tTr (K4 st D t prs H0) (K5 st D t prs H0)):=by
  have nd:=sc_noTab.nd
  have hw:=(ZaL hg).w
  have Z:PS (ktX P w K mg base f cdv A outer s Hs E) (ktS 4) (fun E σ H=>∃ (r p:Nat) (o:PyData),(r<prs.length∧p<w0 prs)∧tAsg (tA (EnvD st D [(3,.int (p:Nat)),(4,o),(5,dRow (rwD prs r))]) (tE (setD (rwD prs r) p o))) (ZaP 6) E σ H):=Zoc fun r p o hc=>by
    have hl:=Zbi hg hc.1
    exact Zaj (i:=6) nd rfl (Or.inl rfl) (Zm7 ZaC (Zbp (pv 5) (.tail _ (.tail _ (.head _)))) (Zbp (pv 3) (.head _)) (Zbp (pv 4) (.tail _ (.head _))) (Zbp (pv 5) (.tail _ (.tail _ (.head _)))) (Zbp (pv 3) (.head _)) Zae (by omega) (by omega)).pe
  generalize ktS 4=S0 at Z ⊢
  refine Zdq Z fun Ee σ H ⟨⟨r,p,o,h,hp,e3,ho,hz,v4⟩,q⟩=>⟨r,p,o,⟨h.hr,hp⟩,abS st D,h.env ?_,h.c.S,fun v H' b S ⟨d,rd,e⟩=>q _ _ ⟨r,d,(h.but b.but S).set (by decide),by rw [e];exact ZnR hg hb h.hr ho hz,⟨_,Za8 (by rw [h.c.len];decide),rd⟩⟩⟩
  intro x hx
  simp only [List.mem_cons,List.not_mem_nil,or_false] at hx
  rcases hx with rfl | rfl | rfl
  · exact ZcT e3
  · exact v4
  · exact h.d5
theorem Zkg {X:Cx}{Γ:EnB}{e:Expr}{h:List Int}{j1}{p2 p3 p4 p5:Pos} (sg:StbE Γ) (hN:AE X Γ e (tE (dRow h))) (h1:1≤h.length):AE X Γ (.Subscript e (.Slice (some (.UnaryOp .USub (.Constant (.int 1) j1 p2) p3)) none none p4) p5) (tE (dRow (h.drop (h.length - 1)))) :=
  ZfC (Zby sg hN (ZbU (ZcQ (Zaw Zae))) ZbV) (by
    show PyData.list (cutD _ (some (-1)) none)=_
    rw [ZjU (by rw [List.length_map];exact h1),List.length_map]
    unfold dRow
    rw [List.map_drop])
set_option maxHeartbeats 16000000 in
theorem kr5 (T:Blt mg) (htu:mg "tuple" = none) (hg:tabB prs=true) (hb:Bnd prs):PS (ktX P w K mg base f cdv A outer s Hs E) (ktS 5) (tTr (K5 st D t prs H0) (K6 st D t prs H0 8)):=by
  have nd:=sc_noTab.nd
  have hw:=(ZaL hg).w
  have Z:PS (ktX P w K mg base f cdv A outer s Hs E) (ktS 5) (fun E σ H=>∃ (r:Nat) (b:PyData),(r<prs.length∧BL (rws prs) r b)∧tAsg (tA (EnvD st D [(5,dRow (rwD prs r)),(6,b)]) (tD (LP (BL (rws prs) r) 8 8))) (ZaP 7) E σ H):=ZhW fun r b hc=>by
    have hl:=Zbi hg hc.1
    have hB:∀ {p:Pos},AE (ktX P w K mg base f cdv A outer s Hs E) (EnvD st D [(5,dRow (rwD prs r)),(6,b)]) (.Name "bent" p) (tD (BL (rws prs) r)):=fun {p}=>Za4 (Zbp (pv 6) (.tail _ (.head _))) fun z e=>by rw [e];exact hc.2
    have hH:∀ {p:Pos},AE (ktX P w K mg base f cdv A outer s Hs E) (EnvD st D [(5,dRow (rwD prs r)),(6,b)]) (.Name "here" p) (tE (dRow (rwD prs r))):=fun {p}=>Zbp (pv 5) (.head _)
    have bn:∀ n∈rwD prs r,n.natAbs<10 ^ 40:=fun n hn=>Nat.lt_of_lt_of_le (ZcH hg hb hc.1 n hn) (by decide)
    have hT:∀ {p1 p2:Pos},AE (ktX P w K mg base f cdv A outer s Hs E) (EnvD st D [(5,dRow (rwD prs r)),(6,b)]) (.Call (.Name "tuple" p1) [.Name "here" p2] [] p1) (tE (.tuple ((rwD prs r).map PyData.int)))→True:=fun _=>trivial
    clear hT
    have hL:∀ {p1 p2 p3 p4 p5 p6 p7 p8 p9 p10 p11 p12:Pos}{j1 j2},AE (ktX P w K mg base f cdv A outer s Hs E) (EnvD st D [(5,dRow (rwD prs r)),(6,b)]) (.BinOp (.Name "here" p1) .Add (.BinOp (.Subscript (.Name "here" p2) (.Slice (some (.UnaryOp .USub (.Constant (.int 1) j1 p3) p4)) none none p5) p6) .Mult (.BinOp (.Constant (.int 7) j2 p7) .Sub (.Call (.Name "len" p8) [.Name "here" p9] [] p10) p11) p12) p12) (tD (BL (rws prs) r))→True:=fun _=>trivial
    clear hL
    have hL:∀ {p1 p2 p3 p4 p5 p6 p7 p8 p9 p10 p11 p12 p13:Pos}{j1 j2},AE (ktX P w K mg base f cdv A outer s Hs E) (EnvD st D [(5,dRow (rwD prs r)),(6,b)]) (.BinOp (.Name "here" p1) .Add (.BinOp (.Subscript (.Name "here" p2) (.Slice (some (.UnaryOp .USub (.Constant (.int 1) j1 p3) p4)) none none p5) p6) .Mult (.BinOp (.Constant (.int 7) j2 p7) .Sub (.Call (.Name "len" p8) [.Name "here" p9] [] p10) p11) p12) p13) (tD (BL (rws prs) r)):=fun {p1 p2 p3 p4 p5 p6 p7 p8 p9 p10 p11 p12 p13 j1 j2}=>by
      refine ZeZ ZaC hH (Zes (φ:=IP fun n=>n.natAbs<10 ^ 40) (i:=7 - (((rwD prs r).map PyData.int).length:Nat)) ZaC (Za4 (Zkg ZaC hH (by omega)) fun z e=>?_) (Zcc ZaC (Zaw Zae) (Zki hH T.len)) (by rw [List.length_map];omega) (by omega)) (fun d e=>⟨_,e,by rw [List.length_map];omega⟩) (fun d ⟨ds,e,l1,l2,_⟩=>⟨ds,e,by rw [List.length_map] at l2;omega⟩) fun a c ha ⟨ds,e,l1,l2,hz⟩=>?_
      · rw [e]
        refine ZmF (by rw [List.length_map,List.length_drop];omega) (by rw [List.length_map,List.length_drop];omega) fun d hd=>?_
        obtain ⟨n,hn,rfl⟩:=List.mem_map.mp hd
        exact ⟨n,rfl,bn n (List.mem_of_mem_drop hn)⟩
      · injection ha with ha
        injection e with e
        subst ha e
        rw [List.length_map] at l1 l2
        refine Zda (ZiM ?_) ((ZbH (c:=41) (k:=0) (n:=8) (fun d hd=>?_) ?_).mono (by decide) (by decide))
        · rw [List.length_append,List.length_map];omega
        · rcases List.mem_append.mp hd with z | z
          · obtain ⟨n,hn,rfl⟩:=List.mem_map.mp z
            exact Zch (bn n hn)
          · obtain ⟨n,rfl,hn⟩:=hz d z
            exact Zch hn
        · rw [List.length_append,List.length_map];omega
    exact Zaj (i:=7) nd rfl (Or.inl rfl) (Zbb (Zai ZaC hB (Zai ZaC hB (Zai ZaC hB (Zai ZaC (Za4 (ZeY hH htu) fun z e=>by
        rw [e]
        refine Zda rfl ((ZcV (c:=41) (k:=0) (n:=8) (fun e he=>?_) (by rw [List.length_map];omega)).mono (by decide) (by decide))
        obtain ⟨n,hn,rfl⟩:=List.mem_map.mp he
        exact Zch (bn n hn)) (Zai ZaC (Zay .none ZaC (by kernel_rfl) (Zda rfl (Zbr (by decide +kernel)))) (Zai ZaC (Zay (.list []) ZaC (by kernel_rfl) (Zda rfl (Zbr (by decide +kernel)))) (Zai ZaC hL (Zai ZaC (Zay (.int 5) ZaC (by kernel_rfl) (Zda rfl (Zbr (by decide +kernel)))) ZbC))))))))).pe
  generalize ktS 5=S0 at Z ⊢
  refine Zdq Z fun Ee σ H ⟨⟨r,b,h,hbb,v6⟩,q⟩=>⟨r,b,⟨h.hr,hbb⟩,abS st D,h.env ?_,h.c.S,fun v H' bb S a=>q _ _ ⟨r,(h.but bb.but S).set (by decide),_,Za8 (by rw [h.c.len];decide),a⟩⟩
  intro x hx
  simp only [List.mem_cons,List.not_mem_nil,or_false] at hx
  rcases hx with rfl | rfl
  · exact h.d5
  · exact v6
end
theorem Zle {ds:List PyData} (h:1≤ds.length):cutD ds none (some (-1))=ds.dropLast:=by
  unfold cutD
  have e:HT.sIx ds.length ds.length (some (-1))=ds.length - 1:=by
    unfold HT.sIx
    simp
    omega
  rw [e,HT.sIx_none,List.drop_zero,Nat.sub_zero,List.dropLast_eq_take]
section
variable (st D t:Addr) (prs:Prs) (H0:Hp)
def K9 (lo hi:Nat) (σ:L2.St) (H:Hp):Prop:=∃ r,KR st D t prs H0 r σ H∧VP (abS st D) σ H 9 (LP BT lo hi)
end
section
variable {P:Program}{w:World}{K:PySem.W.Frag}{mg:Str→Option Value}{base:Heap}{f:Addr}{cdv:Value}{A:Around}{outer:List Env}{s:Shared}{Hs H0:Hp}{E:XK}{st D t:Addr}{prs:Prs}
set_option maxHeartbeats 16000000 in
theorem kr6 (T:Blt mg) (hg:tabB prs=true) (hb:Bnd prs):PS (ktX P w K mg base f cdv A outer s Hs E) (ktS 6) (tTr (K6 st D t prs H0 8) (K6 st D t prs H0 10)):=by
  have nd:=sc_noTab.nd
  have hw:=(ZaL hg).w
  have Z:PS (ktX P w K mg base f cdv A outer s Hs E) (ktS 6) (fun E σ H=>∃ (r:Nat),r<prs.length∧tIfS _ (tSeq (tAsg (tA (EnvL st D [(5,dRow (rwD prs r))] 7 (LP (BL (rws prs) r) 8 8)) (tD (fun z=>2≤prs.length→LP (BL (rws prs) r) (8+2) (8+2) z))) (ZaP 7)) Zdx) Zdx E σ H):=ZgE fun r hc=>by
    have hl:=Zbi hg hc
    have bn:∀ n∈rwD prs r,n.natAbs<10 ^ 40:=fun n hn=>Nat.lt_of_lt_of_le (ZcH hg hb hc n hn) (by decide)
    have hH:∀ {p:Pos},AE (ktX P w K mg base f cdv A outer s Hs E) (EnvL st D [(5,dRow (rwD prs r))] 7 (LP (BL (rws prs) r) 8 8)) (.Name "here" p) (tE (dRow (rwD prs r))):=fun {p}=>Zbv (pv 5) (.head _)
    let φ:PyData→Prop:=fun z=>2≤prs.length→BL (rws prs) r z
    refine ZaO (Zat o_gt (pe_b Zah T.len boot_len (Zaa (pv 1) Zab)) Zae (Zax _)) (Zaf (Zaj (i:=7) nd rfl (Or.inl rfl) (Za4 (ZbW (φ:=φ) ZaS (Za4 (Zfz (pv 7)) fun z ⟨ds,e,l1,l2,hz⟩=>⟨ds,e,l1,l2,fun d hd _=>hz d hd⟩) (Zbb (Zai ZaS (Za4 (ZcR ZaS hH (Zkg ZaS hH (by omega)) (by rw [List.length_map];omega) (by rw [List.length_map,List.length_drop];omega)) fun z e h2=>?_) (Zai ZaS (Za4 (Zby ZaS hH ZbV (ZbU (ZcQ (Zaw Zae)))) fun z e h2=>?_) ZbC)))) fun z ⟨ds,e,l1,l2,hz⟩ h2=>⟨ds,e,l1,l2,fun d hd=>hz d hd h2⟩).pe)) Zaq
    · rw [e,← List.map_append]
      refine ZlT hg hb hc h2 (by rw [List.length_append,List.length_drop];omega) (by rw [List.length_append,List.length_drop];omega) fun n hn=>?_
      rcases List.mem_append.mp hn with z | z
      · exact bn n z
      · exact bn n (List.mem_of_mem_drop z)
    · rw [e]
      have:PyData.list (cutD ((rwD prs r).map PyData.int) none (some (-1)))=dRow (rwD prs r).dropLast:=by
        rw [Zle (by rw [List.length_map];omega)]
        unfold dRow
        rw [List.map_dropLast]
      rw [this]
      exact ZlT hg hb hc h2 (by rw [List.length_dropLast];omega) (by rw [List.length_dropLast];omega) fun n hn=>bn n (List.dropLast_subset _ hn)
  generalize ktS 6=S0 at Z ⊢
  refine Zdq Z fun Ee σ H ⟨⟨r,h,v7⟩,q⟩=>?_
  refine ⟨r,h.hr,_,h.c.s1,t,_,rfl,.inl h.c.T.sq,_,_,rfl,rfl,_,rfl,?_⟩
  rw [List.length_map]
  by_cases c:((prs.length:Nat):Int) > 1
  · rw [decide_eq_true c]
    refine iteT ⟨abS st D,⟨h.env ?_,v7⟩,h.c.S,fun v H' bb S ⟨d,rd,e⟩=>q _ _ ⟨r,(h.but bb.but S).set (by decide),_,Za8 (by rw [h.c.len];decide),d,rd,Zb6 (e (by omega)) (by decide) (by decide)⟩⟩
    intro x hx
    simp only [List.mem_cons,List.not_mem_nil,or_false] at hx
    rcases hx with rfl
    exact h.d5
  · rw [decide_eq_false c]
    exact iteF (q _ _ ⟨r,h,v7.imp fun z hz=>Zb6 hz (by decide) (by decide)⟩)
theorem Zm2 (hg:tabB prs=true) (hb:Bnd prs) {r p:Nat} (hr:r<prs.length) (hp0:0<p) (hp:p<w0 prs) {v:Int} (hv:v<(rwD prs r).getD (p - 1) 0) (hz:v.natAbs<10 ^ 40):BL (rws prs) r (setD (rwD prs r) p (.int v)):=by
  have gR:=ZaL hg
  refine ⟨?_,Zir hg hb hr hz⟩
  rw [Zhi (by have:=Zbi hg hr;omega)]
  exact Zj8 gR (by rw [List.length_map];exact hr) hp (.inl ⟨p - 1,by omega,hv⟩)
set_option maxHeartbeats 16000000 in
theorem kr7 (T:Blt mg) (G:FnAt P w K mg base 1 "_law_take" ["store","many"] ZaW) (hr1:Room 1 (ktX P w K mg base f cdv A outer s Hs E).A) (hg:tabB prs=true) (hb:Bnd prs):PS (ktX P w K mg base f cdv A outer s Hs E) (ktS 7) (tTr (K6 st D t prs H0 10) (K6 st D t prs H0 14)):=by
  have nd:=sc_noTab.nd
  have hw:=(ZaL hg).w
  have Z:PS (ktX P w K mg base f cdv A outer s Hs E) (ktS 7) (tIfS _ (tSeq (tAsg _ (ZaP 8)) (tSeq (fun E σ H=>∃ (r p:Nat),(r<prs.length∧0<p∧p<w0 prs)∧tAsg (tA (EnvL st D [(5,dRow (rwD prs r)),(8,.int (p:Nat))] 7 (LP (BL (rws prs) r) 8 10)) (tD (LP (BL (rws prs) r) (8+4) (10+4)))) (ZaP 7) E σ H) Zdx)) Zdx) :=
    ZaO (Zat o_gt (pe_b Zah T.len boot_len (Zaa (pv 5) Zab)) Zae (Zax _)) (Zac (Zaj (i:=8) nd rfl (Or.inl rfl) (Zas Zbt Zae (pe_f G hr1 (Zaa (pv 0) (Zaa (Zas Zc4 (pe_b Zah T.len boot_len (Zaa (pv 5) Zab)) Zae) Zab)))))
      (Zaf (ZhW fun r p hc=>by
        have hl:=Zbi hg hc.1
        have hH:∀ {p':Pos},AE (ktX P w K mg base f cdv A outer s Hs E) (EnvL st D [(5,dRow (rwD prs r)),(8,.int (p:Nat))] 7 (LP (BL (rws prs) r) 8 10)) (.Name "here" p') (tE (dRow (rwD prs r))):=fun {p'}=>Zbv (pv 5) (.head _)
        have hA:∀ {p':Pos},AE (ktX P w K mg base f cdv A outer s Hs E) (EnvL st D [(5,dRow (rwD prs r)),(8,.int (p:Nat))] 7 (LP (BL (rws prs) r) 8 10)) (.Name "at" p') (tE (.int (p:Nat))):=fun {p'}=>Zbv (pv 8) (.tail _ (.head _))
        have hI:∀ {p1 p2 p3 p4 p5:Pos}{j},AE (ktX P w K mg base f cdv A outer s Hs E) (EnvL st D [(5,dRow (rwD prs r)),(8,.int (p:Nat))] 7 (LP (BL (rws prs) r) 8 10)) (.Subscript (.Name "here" p1) (.BinOp (.Name "at" p2) .Sub (.Constant (.int 1) j p3) p4) p5) (tE (.int ((rwD prs r).getD (p - 1) 0))):=fun {p1 p2 p3 p4 p5 j}=>Zet (k:=p - 1) ZaS hH (Zcc ZaS hA (Zaw Zae)) (fun _ _=>rfl) (by rw [List.length_map,show ((p:Nat):Int) - 1=((p - 1:Nat):Int) by omega];exact ZcO (by omega)) (ZdI (by omega))
        have hv:=Zfx hg hb hc.1 (j:=p - 1) (by omega)
        exact Zaj (i:=7) nd rfl (Or.inl rfl) (ZbW (φ:=BL (rws prs) r) ZaS (Zfz (pv 7)) (Zes ZaS (Zbb (Zai ZaS (Za4 (Zm6 ZaS hH hA (Zdw ZaS (Zdw ZaS (Zkj hI) (Zkj (Zaw Zae))) (Zkf (pe_f G hr1 (Zaa (pv 0) (Zaa Zae Zab))) (by decide) (by decide) fun B σ H h=>⟨st,D,h.1.1,h.1.2.1⟩)) hH hA Zae (by omega) (by omega)) fun z ⟨o,⟨k,e,a,b,⟨a1,b1,ha1,hb1,hk1⟩,hb2,hk⟩,ez⟩=>by
          rw [ez,e]
          have e38:(10:Nat) ^ 40=100 * 10 ^ 38:=by decide
          refine Zm2 hg hb hc.1 hc.2.1 hc.2.2 (by omega) ?_
          rw [e38]
          generalize (10:Nat) ^ 38=M at *
          omega) ZbC)) (Zaw Zae) (by decide) (by decide)) (by decide) (by decide)).pe))) Zaq
  generalize ktS 7=S0 at Z ⊢
  refine Zdq Z fun Ee σ H ⟨⟨r,h,v7⟩,q⟩=>?_
  obtain ⟨a5,e5,hR5,n5⟩:=h.row
  have hl5:(ZaA prs r).length=w0 prs:=by rw [← Zdf];exact Zbi hg h.hr
  refine ⟨_,e5,a5,_,rfl,.inl hR5.sq,_,_,rfl,rfl,_,rfl,?_⟩
  rw [List.length_map,hl5]
  by_cases c:((w0 prs:Nat):Int) > 1
  · rw [decide_eq_true c]
    refine iteT ⟨_,h.c.s0,_,e5,a5,_,rfl,.inl hR5.sq,_,_,rfl,rfl,st,_,rfl,by rw [List.length_map,hl5];omega,by rw [List.length_map,hl5];omega,h.c.S,fun d H1 d0 d1 b1 S1=>⟨_,_,rfl,rfl,?_⟩⟩
    rw [List.length_map,hl5] at d1
    have h1:=(h.but b1 S1).set (i:=8) (v:=.int (1+d)) (by decide)
    refine ⟨r,(1+d).toNat,⟨h.hr,by omega,by omega⟩,abS st D,⟨h1.env ?_,(v7.but b1.butS).ne (by decide)⟩,h1.c.S,fun v H' bb S ⟨z,rd,e⟩=>q _ _ ⟨r,(h1.but bb.but S).set (by decide),_,Za8 (by rw [h1.c.len];decide),z,rd,Zb6 e (by decide) (by decide)⟩⟩
    intro x hx
    simp only [List.mem_cons,List.not_mem_nil,or_false] at hx
    rcases hx with rfl | rfl
    · exact h1.d5
    · refine ZcT ?_
      rw [Za8 (by rw [h.c.len];decide)]
      congr 3
      omega
  · rw [decide_eq_false c]
    exact iteF (q _ _ ⟨r,h,v7.imp fun z hz=>Zb6 hz (by decide) (by decide)⟩)
set_option maxHeartbeats 16000000 in
theorem kr8 (T:Blt mg) (G:FnAt P w K mg base 1 "_law_take" ["store","many"] ZaW) (hr1:Room 1 (ktX P w K mg base f cdv A outer s Hs E).A) (hg:tabB prs=true) (hb:Bnd prs):PS (ktX P w K mg base f cdv A outer s Hs E) (ktS 8) (tTr (K6 st D t prs H0 14) (K9 st D t prs H0 6 6)):=by
  have nd:=sc_noTab.nd
  have gR:=ZaL hg
  have Z:PS (ktX P w K mg base f cdv A outer s Hs E) (ktS 8) _:=Zaj (i:=9) nd rfl (Or.inl rfl) (Zas ZfZ (ZaF (Zaa (Zas ZbK (Zas ZbK (Zcv Zdd (pv 1) Zdh (ZcK (pv 2))) (ZaF (Zaa (Zav Zam (pv 7) (pe_f G hr1 (Zaa (pv 0) (Zaa (pe_b Zah T.len boot_len (Zaa (pv 7) Zab)) Zab))) (fun _ _=>rfl)) Zab))) (Zcv Zdd (pv 1) (ZcK (Zas Zbt (pv 2) Zae)) Zdh)) Zab)) Zae)
  generalize ktS 8=S16 at Z ⊢
  refine ZcU (i:=9) Z fun σ H Q ⟨r,h,v9⟩ q=>?_
  have hn:=gR.n
  rw [List.length_map] at hn
  refine ⟨_,h.c.s1,_,h.v2,_,rfl,t,_,rfl,h.c.T.sq,fun l1 hl1=>?_⟩
  rw [ZmY (by rw [List.length_map];exact Nat.le_of_lt h.hr)]
  have s1:Same H (upd H l1 (.lst ((prs.map fun p=>V.ref p.1).take r))):=Same.new hl1
  have e1:(upd H l1 (.lst ((prs.map fun p=>V.ref p.1).take r))) l1=_:=Zad
  have h1:=h.same s1
  have nu1:l1≠st:=(h.c.S.ne hl1).symm
  have v91:=v9.but (Same.butS s1)
  generalize upd H l1 (.lst ((prs.map fun p=>V.ref p.1).take r))=H1 at s1 e1 h1 v91 ⊢
  obtain ⟨v,e9,d9,r9,ds,rfl,hd1,hd2,hds⟩:=v91
  cases r9 with
  | @lst a9 xs _ ea na ra =>
    refine ⟨_,e9,_,h1.c.s0,_,e9,a9,_,rfl,.inl (SqL.of ea),st,_,rfl,by rw [ra.length];omega,by rw [ra.length];omega,h1.c.S,fun d H2 d0 d1 b2 S2=>?_⟩
    have h2:=h1.but b2 S2
    have ra2:=ZdF ra b2.butS
    have ea2:=b2.butS _ _ na ea
    obtain ⟨x,hx,hat⟩:=Zer (xs:=xs) d0 d1
    obtain ⟨dx,hdx,rx⟩:=Ze6 ra2 hx
    refine ⟨a9,xs,d,x,rfl,rfl,SqL.of ea2,hat,len1,fun l2 hl2=>⟨l1,l2,_,_,rfl,rfl,(Same.new hl2) _ _ (b2 _ _ nu1 e1),Zad,sl6 (by
      rw [List.length_take,List.length_map]
      simp only [List.length_singleton]
      omega),fun l3 hl3=>?_⟩⟩
    have s3:=(Same.new (o:=.lst [x]) hl2).trans (Same.new (o:=.lst ((prs.map fun p=>V.ref p.1).take r ++ [x])) hl3)
    have e3:(upd (upd H2 l2 (.lst [x])) l3 (.lst ((prs.map fun p=>V.ref p.1).take r ++ [x]))) l3=_:=Zad
    have h3:=h2.same s3
    generalize upd (upd H2 l2 (.lst [x])) l3 (.lst ((prs.map fun p=>V.ref p.1).take r ++ [x]))=H3 at s3 e3 h3 ⊢
    refine ⟨_,h3.c.s1,_,h3.v2,_,_,rfl,rfl,_,rfl,t,_,rfl,h3.c.T.sq,fun l4 hl4=>?_⟩
    rw [show ((r:Nat):Int)+1=((r+1:Nat):Int) by omega,ZmZ]
    refine ⟨l3,l4,_,_,rfl,rfl,(Same.new hl4) _ _ e3,Zad,sl6 (by
      rw [List.length_append,List.length_take,List.length_drop,List.length_map]
      simp only [List.length_singleton]
      omega),fun l5 hl5=>?_⟩
    have s5:=(Same.new (o:=.lst ((prs.map fun p=>V.ref p.1).drop (r+1))) hl4).trans (Same.new (o:=.lst (((prs.map fun p=>V.ref p.1).take r ++ [x]) ++ (prs.map fun p=>V.ref p.1).drop (r+1))) hl5)
    have h5:=h3.same s5
    have r5:RdS (abS st D).S (upd (upd H3 l4 (.lst ((prs.map fun p=>V.ref p.1).drop (r+1)))) l5 (.lst (((prs.map fun p=>V.ref p.1).take r ++ [x]) ++ (prs.map fun p=>V.ref p.1).drop (r+1)))) (.ref l5) (putD (rws prs) r dx):=by
      have rr:=h5.c.rows
      have:=RdS.lst (S:=(abS st D).S) (H:=upd (upd H3 l4 (.lst ((prs.map fun p=>V.ref p.1).drop (r+1)))) l5 (.lst (((prs.map fun p=>V.ref p.1).take r ++ [x]) ++ (prs.map fun p=>V.ref p.1).drop (r+1)))) (a:=l5) Zad ((abS st D).fresh (h3.c.S.same (Same.new hl4)) hl5) (Zb5 (Zb5 (Zd4 r rr) (.cons (rx.same (s3.trans s5)) .nil)) (Zd5 (r+1) rr))
      unfold putD
      rw [List.map_take,List.map_drop]
      exact this
    generalize upd (upd H3 l4 (.lst ((prs.map fun p=>V.ref p.1).drop (r+1)))) l5 (.lst (((prs.map fun p=>V.ref p.1).take r ++ [x]) ++ (prs.map fun p=>V.ref p.1).drop (r+1)))=H5 at s5 h5 r5 ⊢
    refine ⟨len1,fun l6 hl6=>⟨l6,6,_,rfl,rfl,Zad,by decide,by decide,sl6 (show 6≤1000 by decide),fun l7 hl7=>q _ _ ?_⟩⟩
    have s7:=(Same.new (o:=.lst [.ref l5]) hl6).trans (Same.new (o:=.lst ((List.replicate (6:Int).toNat [V.ref l5]).flatten)) hl7)
    refine ⟨r,(h5.same s7).set (by decide),_,Za8 (by rw [h.c.len];decide),.list (List.replicate 6 (putD (rws prs) r dx)),.lst Zad ((abS st D).fresh (h5.c.S.same (Same.new hl6)) hl7) ?_,ZmF (by simp) (by simp) fun z hz=>by rw [List.eq_of_mem_replicate hz];exact Zj6 hg hb h.hr (hds dx hdx)⟩
    rw [Zfo]
    have r7:=r5.same s7
    exact .cons r7 (.cons r7 (.cons r7 (.cons r7 (.cons r7 (.cons r7 .nil)))))
end
theorem Zkh {X:Cx}{Γ:EnB}{eN eN' eP eP' eO e1:Expr}{rows:List (List Int)}{k:Nat}{o:PyData}{q1 q2 q3 q4 q6 q7 q8 q9:Pos} (sg:StbE Γ) (hN:AE X Γ eN (tE (.list (rows.map dRow)))) (hP:AE X Γ eP (tE (.int (k:Nat)))) (hO:AE X Γ eO (tE o)) (hN':AE X Γ eN' (tE (.list (rows.map dRow)))) (hP':AE X Γ eP' (tE (.int (k:Nat)))) (h1:PE X e1 (tC (.int 1))) (hl:rows.length≤6) (hp:k<rows.length)
    (hs:starEach [eO] X.env=(false,eval eO X.env) :: starEach [] X.env:=by rfl) :
    AE X Γ (.BinOp (.BinOp (.Subscript eN (.Slice none (some eP) none q1) q2) .Add (.List [eO] q3) q4) .Add (.Subscript eN' (.Slice (some (.BinOp eP' .Add e1 q6)) none none q7) q8) q9) (tE (putD rows k o)):=by
  have z:=ZcR (pos:=q9) sg (ZcR (pos:=q4) sg (Zby (pos:=q2) (p2:=q1) sg hN ZbV (ZbU hP)) (ZfA (pos:=q3) (ZdO sg hO Zcn hs) (by simp)) (by
    rw [ZbS (by rw [List.length_map];omega),List.length_take,List.length_map];omega) (by simp)) (Zby (pos:=q8) (p2:=q7) sg hN' (ZbU (Zeu (pos:=q6) sg hP' (Zaw h1))) ZbV) (by
    rw [ZbS (by rw [List.length_map];omega),List.length_append,List.length_take,List.length_map,List.length_singleton];omega) (by
    rw [show ((k:Nat):Int)+1=((k+1:Nat):Int) by omega,ZbB,List.length_drop,List.length_map];omega)
  rw [ZbS (by rw [List.length_map];omega),show ((k:Nat):Int)+1=((k+1:Nat):Int) by omega,ZbB] at z
  unfold putD
  rw [List.map_take,List.map_drop]
  exact z
theorem ZnP {prs:Prs} (hg:tabB prs=true) (hb:Bnd prs) {r:Nat} (hr:r<prs.length) (h0:0<r) {d:Int} (d0:0≤d) (d1:d<9):BT (putD (rws prs) r (dRow ((rwD prs r).map (· + ((rwD prs (r - 1)).getD 0 0 - (rwD prs r).getD (w0 prs - 1) 0 - 1 - d))))):=by
  have gR:=ZaL hg
  have hw:=gR.w
  have hrr:r<(rws prs).length:=by rw [List.length_map];exact hr
  have hl:(rwD prs r).length=w0 prs:=gR.len r hrr
  have b1:=Zfx hg hb (i:=r - 1) (j:=0) (by omega) (by omega)
  have b2:=Zfx hg hb (i:=r) (j:=w0 prs - 1) hr (by omega)
  have mono:(rwD prs r).getD 0 0≤(rwD prs r).getD (w0 prs - 1) 0:=by
    have:=ZmD (gR.row r hrr) (w0 prs - 1) 0 (by unfold rwD rws at hl;omega)
    rw [Nat.zero_add] at this
    exact this
  refine Zj6 hg hb hr ⟨ZcE gR hrr (.inr (.inr ⟨r - 1,0,by omega,by rw [List.length_map];exact hl,.inl ⟨by omega,?_⟩⟩)),(ZdR (by rw [List.length_map];omega) fun n hn=>?_).mono (by decide) (by decide)⟩
  · have:((rwD prs r).map (· + ((rwD prs (r - 1)).getD 0 0 - (rwD prs r).getD (w0 prs - 1) 0 - 1 - d))).getD 0 0=(rwD prs r).getD 0 0+((rwD prs (r - 1)).getD 0 0 - (rwD prs r).getD (w0 prs - 1) 0 - 1 - d):=by
      rw [List.getD_eq_getElem?_getD,List.getElem?_map,List.getD_eq_getElem?_getD (l:=rwD prs r) (i:=0),List.getElem?_eq_getElem (by omega)]
      rfl
    rw [this]
    show _<(rwD prs (r - 1)).getD 0 0
    omega
  · obtain ⟨m,hm,rfl⟩:=List.mem_map.mp hn
    have b3:=ZcH hg hb hr m hm
    have e38:(10:Nat) ^ 40=100 * 10 ^ 38:=by decide
    rw [e38]
    generalize (10:Nat) ^ 38=M at *
    omega
section
variable {P:Program}{w:World}{K:PySem.W.Frag}{mg:Str→Option Value}{base:Heap}{f:Addr}{cdv:Value}{A:Around}{outer:List Env}{s:Shared}{Hs H0:Hp}{E:XK}{st D t:Addr}{prs:Prs}
set_option maxHeartbeats 32000000 in
theorem kr9 (G:FnAt P w K mg base 1 "_law_take" ["store","many"] ZaW) (hr1:Room 1 (ktX P w K mg base f cdv A outer s Hs E).A) (hg:tabB prs=true) (hb:Bnd prs):PS (ktX P w K mg base f cdv A outer s Hs E) (ktS 9) (tTr (K9 st D t prs H0 6 6) (K9 st D t prs H0 6 9)):=by
  have nd:=sc_noTab.nd
  have nd1:(["number","down"]:List Str).Nodup:=by decide +kernel
  have gR:=ZaL hg
  have hw:=gR.w
  have hn:1≤prs.length∧prs.length≤6:=by
    have:=gR.n
    rwa [List.length_map] at this
  have Z1:∀ r:Nat,0<r∧r<prs.length→∀ {p1 p2 p3 p4 p5 p6 p7 p8 p9 p10 p11 p12 p13 p14 q1 q2 q3 q5 p15:Pos}{j1 j2 j3 j4 j},AE (ktX P w K mg base f cdv A outer s Hs E) (EnvD st D [(1,dTab (rws prs)),(2,.int (r:Nat)),(5,dRow (rwD prs r))]) (.BinOp (.BinOp (.BinOp (.Subscript (.Subscript (.Name "table" p1) (.BinOp (.Name "row" p2) .Sub (.Constant (.int 1) j1 p3) p4) p5) (.Constant (.int 0) j2 p6) p7) .Sub (.Subscript (.Name "here" p8) (.UnaryOp .USub (.Constant (.int 1) j3 p9) p10) p11) p12) .Sub (.Constant (.int 1) j4 p13) p14) .Sub (.Call (.Name "_law_take" q1) [.Name "store" q2,.Constant (.int 9) j q3] [] q5) p15)
      (tD (IP fun z=>∃ d:Int,0≤d∧d<9∧z=(rwD prs (r - 1)).getD 0 0 - (rwD prs r).getD (w0 prs - 1) 0 - 1 - d)):=fun r hc {p1 p2 p3 p4 p5 p6 p7 p8 p9 p10 p11 p12 p13 p14 q1 q2 q3 q5 p15 j1 j2 j3 j4 j}=>by
    have hl:=Zbi hg hc.2
    have hl1:=Zbi hg (r:=r - 1) (by omega)
    refine Za4 (Zdw ZaC (Zkj (Zcc ZaC (Zcc ZaC (Zet (k:=0) ZaC (Zet (k:=r - 1) ZaC (Zbp (pv 1) (.head _)) (Zcc ZaC (Zbp (pv 2) (.tail _ (.head _))) (Zaw Zae)) (fun _ _=>rfl) (by rw [List.length_map,List.length_map,show ((r:Nat):Int) - 1=((r - 1:Nat):Int) by omega];exact ZcO (by omega)) (Zfm (by rw [List.length_map];omega))) (Zaw Zae) (fun _ _=>rfl) (by rw [List.length_map];exact ZcO (show 0<(rwD prs (r - 1)).length by omega)) (ZdI (show 0<(rwD prs (r - 1)).length by omega))) (Zet (k:=w0 prs - 1) ZaC (Zbp (pv 5) (.tail _ (.tail _ (.head _)))) (ZcQ (Zaw Zae)) (fun _ _=>rfl) (by rw [List.length_map,hl];exact ZdH (by omega)) (ZdI (by omega)))) (Zaw Zae))) (Zkf (pe_f G hr1 (Zaa (pv 0) (Zaa Zae Zab))) (by decide) (by decide) fun B σ H h=>⟨st,D,h.1,h.2.1⟩)) fun z ⟨k,e,a,b,ha,hb,hk⟩=>⟨k,e,b,hb.1,hb.2,by rw [hk,ha]⟩
  have Z:PS (ktX P w K mg base f cdv A outer s Hs E) (ktS 9) (tIfS _ (tSeq (fun E σ H=>∃ r:Nat,(0<r∧r<prs.length)∧tAsg (tA (EnvD st D [(1,dTab (rws prs)),(2,.int (r:Nat)),(5,dRow (rwD prs r))]) (tD (IP fun z=>∃ d:Int,0≤d∧d<9∧z=(rwD prs (r - 1)).getD 0 0 - (rwD prs r).getD (w0 prs - 1) 0 - 1 - d))) (ZaP 10) E σ H) (tSeq (tAsg _ (ZaP 11)) (tSeq (fun E σ H=>∃ (r:Nat) (o:PyData),(r<prs.length∧BT (putD (rws prs) r o))∧tAsg (tA (EnvL st D [(1,dTab (rws prs)),(2,.int (r:Nat)),(11,o)] 9 (LP BT 6 6)) (tD (LP BT (6+3) (6+3)))) (ZaP 9) E σ H) Zdx))) Zdx) :=
    ZaO (Zat o_gt (pv 2) Zae (Zax _)) (Zac (ZgE fun r hc=>Zaj (i:=10) nd rfl (Or.inr rfl) (Z1 r hc).pe)
      (Zac (Zd6 ["number","down"] [none,some 10] (Zag Zb8) ktN (i:=11) nd rfl (Or.inl rfl) rfl (Zba (pv 5)) (by decide +kernel) (fun cl C s2 H2 ex=>pg_c 0 nd1) (fun cl C s2 H2 ex=>ZaK) (fun cl C s2 H2 ex=>Zas Zbt (pv 0) (pv 1)))
      (Zaf (ZhW fun r o hc=>Zaj (i:=9) nd rfl (Or.inl rfl) (ZbW (φ:=BT) ZaS (Zfz (pv 9)) (Zes ZaS (Zbb (Zai ZaS (Za4 (Zkh ZaS (Zbv (pv 1) (.head _)) (Zbv (pv 2) (.tail _ (.head _))) (Zbv (pv 11) (.tail _ (.tail _ (.head _)))) (Zbv (pv 1) (.head _)) (Zbv (pv 2) (.tail _ (.head _))) Zae (by rw [List.length_map];omega) (by rw [List.length_map];exact hc.1)) fun z e=>by rw [e];exact hc.2) ZbC)) (Zaw Zae) (by decide) (by decide)) (by decide) (by decide)).pe)))) Zaq
  clear Z1
  generalize ktS 9=S0 at Z ⊢
  refine Zdq Z fun Ee σ H ⟨⟨r,h,v9⟩,q⟩=>?_
  refine ⟨_,h.v2,_,_,rfl,rfl,_,rfl,?_⟩
  by_cases c:((r:Nat):Int) > 0
  · rw [decide_eq_true c]
    refine iteT ⟨r,⟨by omega,h.hr⟩,abS st D,h.env ?_,h.c.S,fun v H1 b1 S1 ⟨z,rd,dv,ez,d,d0,d1,edv⟩=>?_⟩
    · intro x hx
      simp only [List.mem_cons,List.not_mem_nil,or_false] at hx
      rcases hx with rfl | rfl | rfl
      · exact h.c.v1
      · exact ZcT h.v2
      · exact h.d5
    · subst ez
      cases rd
      have h1:=(h.but b1.but S1).set (i:=10) (v:=.int dv) (by decide)
      obtain ⟨a5,e5,hR5,n5⟩:=h1.row
      have hl5:(ZaA prs r).length=w0 prs:=by rw [← Zdf];exact Zbi hg h.hr
      refine ⟨_,e5,a5,rfl,⟨_,hR5.sq⟩,Zbx V.int (fun n=>.int (n+dv)) hR5.sq (sl6 (by omega)) (fun n hn H' Q' sm q'=>⟨_,rfl,_,?_,_,_,rfl,rfl,q' _ (Same.refl _)⟩) fun L H2 hL s2 eL=>?_⟩
      · show ((_:L2.St).set 0 _)[1]? = _
        rw [List.getElem?_set_ne (by decide)]
        show ([none,some 10].map _:List (Option V))[1]? = _
        simp only [List.map_cons,List.map_nil,List.getElem?_cons_succ,List.getElem?_cons_zero]
        unfold pick
        simp only [Za8 (show 10 < σ.length by rw [h.c.len];decide)]
        rfl
      · have h2:=(h1.same s2).set (i:=11) (v:=.ref L) (by decide)
        have rL:Row H2 L ((ZaA prs r).map (· + dv)):=by
          unfold Row
          rw [eL,List.map_map]
          rfl
        have nL:L≠st:=(h1.c.S.ne hL).symm
        refine ⟨r,dRow ((ZaA prs r).map (· + dv)),⟨h.hr,?_⟩,abS st D,⟨h2.env ?_,(((v9.but b1).ne (by decide)).but (Same.butS s2)).ne (by decide)⟩,h2.c.S,fun v H' bb S ⟨z,rz,ez⟩=>q _ _ ⟨r,(h2.but bb.but S).set (by decide),_,Za8 (by rw [h2.c.len];decide),z,rz,Zb6 ez (by decide) (by decide)⟩⟩
        · have:=ZnP hg hb h.hr (by omega) d0 d1
          rw [← edv] at this
          unfold rwD rws at this
          rw [Zdf] at this
          exact this
        · intro x hx
          simp only [List.mem_cons,List.not_mem_nil,or_false] at hx
          rcases hx with rfl | rfl | rfl
          · exact h2.c.v1
          · exact ZcT h2.v2
          · exact ⟨_,Za8 (by rw [h1.c.len];decide),Ze7 rL (by simpa [abS] using nL)⟩
  · rw [decide_eq_false c]
    exact iteF (q _ _ ⟨r,h,v9.imp fun z hz=>Zb6 hz (by decide) (by decide)⟩)
end
abbrev Cs3:=List (Addr × Nat × Nat)
theorem Zjr:∀ cs:Cs3,PyData.canLayAll0 (cs.map fun c=>PyData.tuple [.int (c.2.1:Nat),.int (c.2.2:Nat)])=true∧PyData.depthAll (cs.map fun c=>PyData.tuple [.int (c.2.1:Nat),.int (c.2.2:Nat)])≤1
  | []=>by simp [PyData.canLayAll0,PyData.depthAll]
  | c :: r=>by
    have h:=Zjr r
    simp only [List.map_cons,PyData.canLayAll0,PyData.canLay0,PyData.depthAll,PyData.depth,h.1,Bool.and_self,true_and]
    have:=h.2
    omega
theorem Zl6 (cs:Cs3):SeqAt.shaped (.list (cs.map fun c=>PyData.tuple [.int (c.2.1:Nat),.int (c.2.2:Nat)]))=true:=by
  have h:=Zjr cs
  have h2:=h.2
  show (PyData.canLay0 (.list _) && decide (PyData.depth (.list _)≤64))=true
  rw [Bool.and_eq_true]
  exact ⟨by simp only [PyData.canLay0];exact h.1,decide_eq_true (by simp only [PyData.depth];omega)⟩
theorem Zlz {K:PySem.W.Frag}{H:Hp}:∀ cs:Cs3,(∀ c∈cs,H c.1=some (.tup [.int (c.2.1:Nat),.int (c.2.2:Nat)]))→RdAll K H (cs.map fun c=>V.ref c.1) (cs.map fun c=>PyData.tuple [.int (c.2.1:Nat),.int (c.2.2:Nat)])
  | [],_=>.nil
  | c :: r,h=>.cons (Zmc (h c (.head _))) (Zlz r fun d hd=>h d (.tail _ hd))
theorem ZnM (ds:List PyData):PyData.eqv (.list ds) (.list [])=ds.isEmpty:=by
  cases ds <;> simp [PyData.eqv,PyData.eqvAll]
structure Nw (st t:Addr) (prs:Prs) (H0:Hp) (a:Addr):Prop where
  h0:H0 a=none
  n1:a≠st
  n3:a≠t
  n4:∀ q∈prs,q.1≠a
section
variable {st D t a:Addr}{prs:Prs}{H0 H H':Hp}{L r:Nat}{σ:L2.St}{o:HO}
theorem NtC.nw (h:NtC st D t prs H0 L σ H) (n:H a=none):Nw st t prs H0 a:=⟨h.b.free h.S n,(h.S.ne n).symm,(Zak h.T.l n).symm,fun q hq=>Zak (h.T.r q hq) n⟩
theorem NtC.upd (h:NtC st D t prs H0 L σ H) (n:Nw st t prs H0 a):NtC st D t prs H0 L σ (upd H a o):=by
  refine ⟨h.len,h.s0,h.s1,fun b o' nb e=>?_,?_,⟨?_,fun q hq=>?_⟩,h.nt,h.np⟩
  · rw [Zal (fun z=>by rw [z,n.h0] at e;cases e)]
    exact h.b b o' nb e
  · obtain ⟨g,b,c,h1⟩:=h.S
    exact ⟨g,b,c,by rw [Zal n.n1.symm];exact h1⟩
  · rw [Zal n.n3.symm]
    exact h.T.l
  · unfold Row
    rw [Zal (n.n4 q hq)]
    exact h.T.r q hq
theorem KR.upd (h:KR st D t prs H0 r σ H) (n:Nw st t prs H0 a):KR st D t prs H0 r σ (upd H a o):=⟨h.c.upd n,h.hr,h.v2,h.v5⟩
end
def VQ (S:List Addr) (σ:L2.St) (H:Hp) (i:Nat) (φ:PyData→Prop):Prop:=∃ v d,σ[i]? = some (some v)∧RdS S H v d∧φ d
section
variable {S:List Addr}{σ:L2.St}{H H':Hp}{i k:Nat}{φ:PyData→Prop}{x:Option V}{a st D:Addr}{o:HO}
theorem VQ.ne (h:VQ S σ H i φ) (n:k≠i):VQ S (σ.set k x) H i φ:=let ⟨v,d,e,r,z⟩:=h;⟨v,d,Zbo e n,r,z⟩
theorem VQ.same (h:VQ S σ H i φ) (s:Same H H'):VQ S σ H' i φ:=let ⟨v,d,e,r,z⟩:=h;⟨v,d,e,r.same s,z⟩
theorem VQ.upd (h:VQ (a :: S) σ H i φ):VQ (a :: S) σ (upd H a o) i φ:=let ⟨v,d,e,r,z⟩:=h;⟨v,d,e,Zmb r,z⟩
theorem VQ.vp (h:VQ [a,st] σ H i φ):VP (abS st D) σ H i φ:=let ⟨v,d,e,r,z⟩:=h;⟨v,e,d,ZkB r,z⟩
theorem VP.vq (h:VP (abS st D) σ H i φ) (n:H a=none):VQ [a,st] σ H i φ:=let ⟨v,e,d,r,z⟩:=h;⟨v,d,e,ZfT n r,z⟩
end
structure KS (st D t:Addr) (prs:Prs) (H0:Hp) (r:Nat) (sp:Addr) (m:Nat) (σ:L2.St) (H:Hp):Prop where
  kr:KR st D t prs H0 r σ H
  nw:Nw st t prs H0 sp
  v12:σ[12]? = some (some (.ref sp))
  v9:VQ [sp,st] σ H 9 (LP BT 6 9)
  cs:∃ cs:Cs3,H sp=some (.lst (cs.map fun c=>V.ref c.1))∧cs.length≤m∧∀ c∈cs,H c.1=some (.tup [.int (c.2.1:Nat),.int (c.2.2:Nat)])∧c.1≠sp∧c.1≠st∧1≤c.2.1∧c.2.1<prs.length∧c.2.2<w0 prs
section
variable {st D t sp:Addr}{prs:Prs}{H0 H H':Hp}{r m m':Nat}{σ:L2.St}{i:Nat}{v:V}
theorem KS.set (h:KS st D t prs H0 r sp m σ H) (hi:6≤i) (n1:i≠12) (n2:i≠9):KS st D t prs H0 r sp m (σ.set i (some v)) H:=⟨h.kr.set hi,h.nw,Zbo h.v12 n1,h.v9.ne n2,h.cs⟩
theorem KS.mono (h:KS st D t prs H0 r sp m σ H) (hm:m≤m'):KS st D t prs H0 r sp m' σ H:=⟨h.kr,h.nw,h.v12,h.v9,let ⟨cs,e,l,f⟩:=h.cs;⟨cs,e,by omega,f⟩⟩
end
section
variable (st D t:Addr) (prs:Prs) (H0:Hp)
def K11 (m:Nat) (σ:L2.St) (H:Hp):Prop:=∃ r sp,KS st D t prs H0 r sp m σ H
def K13 (lo hi:Nat) (σ:L2.St) (H:Hp):Prop:=NtC st D t prs H0 16 σ H∧VP (abS st D) σ H 9 (LP BT lo hi)
end
section
variable {P:Program}{w:World}{K:PySem.W.Frag}{mg:Str→Option Value}{base:Heap}{f:Addr}{cdv:Value}{A:Around}{outer:List Env}{s:Shared}{Hs H0:Hp}{E:XK}{st D t:Addr}{prs:Prs}
theorem kr10:PS (ktX P w K mg base f cdv A outer s Hs E) (ktS 10) (tTr (K9 st D t prs H0 6 9) (K11 st D t prs H0 0)):=by
  have nd:=sc_noTab.nd
  have Z:PS (ktX P w K mg base f cdv A outer s Hs E) (ktS 10) _:=Zaj (i:=12) nd rfl (Or.inl rfl) (ZaF Zab)
  generalize ktS 10=S0 at Z ⊢
  refine ZcU (i:=12) Z fun σ H Q ⟨r,h,v9⟩ q=>?_
  refine ⟨len0,fun l hl=>q _ _ ?_⟩
  have s1:Same H (upd H l (.lst [])):=Same.new hl
  exact ⟨r,l,(h.same s1).set (by decide),h.c.nw hl,Za8 (by rw [h.c.len];decide),((v9.vq hl).same s1).ne (by decide),[],Zad,Nat.le_refl _,fun c hc=>nomatch hc⟩
set_option maxHeartbeats 16000000 in
theorem kr11 (T:Blt mg) (hg:tabB prs=true):PS (ktX P w K mg base f cdv A outer s Hs E) (ktS 11) (tTr (K11 st D t prs H0 0) (K11 st D t prs H0 36)):=by
  have nd:=sc_noTab.nd
  have Z:PS (ktX P w K mg base f cdv A outer s Hs E) (ktS 11) _:=Zci PassesOwn.never rfl (ZfW rfl T.rng (Zaa Zae (Zaa (pe_b Zah T.len boot_len (Zaa (pv 1) Zab)) Zab))) (ZaM (i:=13) nd rfl (Or.inl rfl))
    (Zaf (Zci PassesOwn.never rfl (Zbk rfl T.rng (Zaa (pe_b Zah T.len boot_len (Zaa (pv 5) Zab)) Zab)) (ZaM (i:=8) nd rfl (Or.inl rfl))
      (Zaf (ZaO (PW.pt (ZcF (Zat Zdj (pv 8) Zae (Zax _)) (Zb1 (Zat o_gt (Zav Zam (Zav Zam (pv 1) (Zas Zc4 (pv 13) Zae) (fun _ _=>rfl)) (pv 8) (fun _ _=>rfl)) (Zav Zam (Zav Zam (pv 1) (pv 13) (fun _ _=>rfl)) (Zas Zc4 (pv 8) Zae) (fun _ _=>rfl)) (Zax _)))))
        (Zaf (Zau (Zex PySem.F.plainAttrs_list PySem.F.slot_list_append PySem.F.type_list_append Zbl (pv 12) (Zaa (Zbn (Zaa (pv 13) (Zaa (pv 8) Zab))) Zab)))) Zaq))))
  generalize ktS 11=S0 at Z ⊢
  refine Zdq Z fun Ee σ H ⟨⟨r,sp,h⟩,q⟩=>?_
  obtain ⟨g,g1,g2,g3,g4⟩:=ZaI hg
  refine ⟨_,h.kr.c.s1,t,_,rfl,.inl h.kr.c.T.sq,1,_,rfl,⟨by decide,by decide,by omega,by rw [List.length_map];omega⟩,ZbA (fun i σ' H'=>KS st D t prs H0 r sp (6 * i) σ' H') h ?_ ?_⟩
  · rintro i σ' H' hi h'
    rw [List.length_map] at hi
    have hi':i+1<prs.length:=by omega
    have h1:=h'.set (i:=13) (v:=.int (1+(i:Nat))) (by decide) (by decide) (by decide)
    obtain ⟨a5,e5,hR5,n5⟩:=h1.kr.row
    have hl5:(ZaA prs r).length=w0 prs:=by rw [← Zdf];exact Zbi hg h.kr.hr
    refine ⟨_,e5,a5,_,rfl,.inl hR5.sq,_,rfl,by omega,by rw [List.length_map];omega,ZbA (fun j σ' H'=>KS st D t prs H0 r sp (6 * i+j) σ' H'∧σ'[13]? = some (some (.int (1+(i:Nat))))) ⟨h1,Za8 (by rw [h'.kr.c.len];decide)⟩ ?_ ?_⟩
    · rintro j σ2 H2 hj ⟨h2,e13⟩
      rw [List.length_map,hl5] at hj
      have hj':j<w0 prs:=by simpa using hj
      have h3:=h2.set (i:=8) (v:=.int (0+(j:Nat))) (by decide) (by decide) (by decide)
      have e8:(σ2.set 8 (some (.int (0+(j:Nat)))))[8]? = some (some (.int (0+(j:Nat)))):=Za8 (by rw [h2.kr.c.len];decide)
      have e13':(σ2.set 8 (some (.int (0+(j:Nat)))))[13]? = some (some (.int (1+(i:Nat)))):=Zbo e13 (by decide)
      have out:KS st D t prs H0 r sp (6 * i+(j+1)) (σ2.set 8 (some (.int (0+(j:Nat))))) H2:=h3.mono (by omega)
      obtain ⟨cs,esp,hcl,hcs⟩:=h3.cs
      obtain ⟨pa,pa1,pa2,pa3⟩:=ZaE (prs:=prs) (i:=i) (by omega)
      obtain ⟨pb,pb1,pb2,pb3⟩:=ZaE (prs:=prs) (i:=i+1) (by omega)
      have la:=g.len pa pa1
      have lb:=g.len pb pb1
      have key:∀ (c:Addr) (H3:Hp),H2 c=none→H3=upd H2 c (.tup [.int (1+(i:Nat)),.int (0+(j:Nat))])→KS st D t prs H0 r sp (6 * i+(j+1)) (σ2.set 8 (some (.int (0+(j:Nat))))) (upd H3 sp (.lst ((cs.map fun c=>V.ref c.1) ++ [.ref c]))):=fun c H3 hc e3=>by
        have s3:Same H2 H3:=by rw [e3];exact Same.new hc
        have ec:H3 c=some (.tup [.int (1+(i:Nat)),.int (0+(j:Nat))]):=by rw [e3];exact Zad
        have nc:c≠sp:=fun z=>by rw [z,esp] at hc;cases hc
        have nst:c≠st:=(h3.kr.c.S.ne hc).symm
        refine ⟨(h3.kr.same s3).upd h3.nw,h3.nw,h3.v12,(h3.v9.same s3).upd,cs ++ [(c,i+1,j)],?_,?_,fun x hx=>?_⟩
        · rw [Zad,List.map_append]
          rfl
        · rw [List.length_append,List.length_singleton]
          omega
        · rcases List.mem_append.mp hx with z | z
          · obtain ⟨z1,z2,z3⟩:=hcs x z
            exact ⟨by rw [Zal z2];exact s3 _ _ z1,z2,z3⟩
          · have:x=(c,i+1,j):=by simpa using z
            subst this
            refine ⟨?_,nc,nst,by show 1≤i+1;omega,hi',hj'⟩
            rw [Zal nc,ec]
            show some (HO.tup [V.int (1+(i:Nat)),V.int (0+(j:Nat))])=some (HO.tup [V.int ((i+1:Nat):Int),V.int ((j:Nat):Int)])
            rw [show ((i+1:Nat):Int)=1+(i:Nat) by omega,show (0:Int)+(j:Nat)=((j:Nat):Int) by omega]
      refine ⟨_,e8,rfl,_,rfl,?_⟩
      have T3:=h3.kr.c.T
      have csl:(cs.map fun c=>V.ref c.1).length<sizeLine:=by rw [List.length_map];exact ZaZ (by omega)
      refine ite2 (fun _=>iteT ?_) (fun hne=>⟨_,h3.kr.c.s1,_,e13',_,_,rfl,rfl,t,_,_,.ref pa.1,rfl,rfl,T3.sq,?_,_,e8,pa.1,_,_,.int (pa.2.getD j 0),rfl,rfl,(T3.r pa pa1).sq,?_,_,h3.kr.c.s1,_,e13',t,_,_,.ref pb.1,rfl,rfl,T3.sq,?_,_,e8,_,_,rfl,rfl,pb.1,_,_,.int (pb.2.getD (j - 1) 0),rfl,rfl,(T3.r pb pb1).sq,?_,_,_,rfl,rfl,_,rfl,ite2 (fun _=>?_) (fun _=>⟨out,e13'⟩)⟩)
      · exact ⟨_,h3.v12,.inl ⟨rfl,_,SqL.of esp⟩,_,e13',_,e8,len2,fun c hc=>⟨sp,_,_,rfl,rfl,(Same.new hc) _ _ esp,csl,key c _ hc rfl,e13'⟩⟩
      · rw [show (1:Int)+(i:Nat) - 1=((i:Nat):Int) by omega]
        exact ZaB (by rw [List.getElem?_map,pa2];rfl)
      · rw [Int.zero_add]
        exact Zco (by omega)
      · rw [show (1:Int)+(i:Nat)=((i+1:Nat):Int) by omega]
        exact ZaB (by rw [List.getElem?_map,pb2];rfl)
      · have hj0:j≠0:=fun z=>hne (by subst z;rfl)
        rw [show (0:Int)+(j:Nat) - 1=((j - 1:Nat):Int) by omega]
        exact Zco (by omega)
      · exact ⟨_,h3.v12,.inl ⟨rfl,_,SqL.of esp⟩,_,e13',_,e8,len2,fun c hc=>⟨sp,_,_,rfl,rfl,(Same.new hc) _ _ esp,csl,key c _ hc rfl,e13'⟩⟩
    · rintro σ2 H2 ⟨h2,_⟩
      refine h2.mono ?_
      rw [List.length_map,hl5]
      omega
  · rintro σ' H' h'
    refine q _ _ ⟨r,sp,h'.mono ?_⟩
    rw [List.length_map]
    omega
end
theorem Zm1 {prs:Prs} (hg:tabB prs=true) (hb:Bnd prs) {k a:Nat} (hk1:1≤k) (hk:k<prs.length) (ha:a<w0 prs):BT (putD (rws prs) k (setD (rwD prs k) a (.int ((rwD prs (k - 1)).getD a 0 - 1)))):=by
  have gR:=ZaL hg
  have hl:=Zbi hg hk
  have b1:=Zfx hg hb (i:=k - 1) (j:=a) (by omega) ha
  refine Zj6 hg hb hk ⟨?_,Zir hg hb hk ?_⟩
  · rw [Zhi (by omega)]
    refine Zj8 gR (by rw [List.length_map];exact hk) ha (.inr (.inr (.inl ⟨k - 1,by omega,?_⟩)))
    show _<(rwD prs (k - 1)).getD a 0
    omega
  · have e38:(10:Nat) ^ 40=100 * 10 ^ 38:=by decide
    rw [e38]
    generalize (10:Nat) ^ 38=M at *
    omega
section
variable {P:Program}{w:World}{K:PySem.W.Frag}{mg:Str→Option Value}{base:Heap}{f:Addr}{cdv:Value}{A:Around}{outer:List Env}{s:Shared}{Hs H0:Hp}{E:XK}{st D t:Addr}{prs:Prs}
abbrev lnD (prs:Prs) (k a:Nat):PyData:=.list (((rwD prs k).map PyData.int).take a ++ [.int ((rwD prs (k - 1)).getD a 0 - 1)])
theorem ZgX {X:Cx}{Γ:EnB}{e ei:Expr}{k:Nat}{pos:Pos} (sg:StbE Γ) (hg:tabB prs=true) (h1:AE X Γ e (tE (dTab (rws prs)))) (h2:AE X Γ ei (tE (.int (k:Nat)))) (pl:Zev ei) (hk:k<prs.length):AE X Γ (.Subscript e ei pos) (tE (dRow (rwD prs k))) :=
  Zet sg h1 h2 pl (by rw [List.length_map,List.length_map];exact ZcO hk) (Zfm (by rw [List.length_map];exact hk))
set_option maxHeartbeats 32000000 in
theorem kr12 (T:Blt mg) (G:FnAt P w K mg base 1 "_law_take" ["store","many"] ZaW) (hr1:Room 1 (ktX P w K mg base f cdv A outer s Hs E).A) (hg:tabB prs=true) (hb:Bnd prs):PS (ktX P w K mg base f cdv A outer s Hs E) (ktS 12) (tTr (K11 st D t prs H0 36) (K13 st D t prs H0 6 12)):=by
  have nd:=sc_noTab.nd
  have gR:=ZaL hg
  have hw:=gR.w
  have hn:1≤prs.length∧prs.length≤6:=by
    have:=gR.n
    rwa [List.length_map] at this
  have Z1:∀ k a:Nat,(1≤k∧k<prs.length)∧a<w0 prs→∀ {p1 p2 p3 p4 p5 p6 p7 p8 p9 p10 p11 p12 p13 p14 p15 p16 p17:Pos}{j1 j2},AE (ktX P w K mg base f cdv A outer s Hs E) (EnvD st D [(1,dTab (rws prs)),(13,.int (k:Nat)),(8,.int (a:Nat))])
      (.BinOp (.Subscript (.Subscript (.Name "table" p1) (.Name "k" p2) p3) (.Slice none (some (.Name "at" p4)) none p5) p6) .Add (.List [.BinOp (.Subscript (.Subscript (.Name "table" p7) (.BinOp (.Name "k" p8) .Sub (.Constant (.int 1) j1 p9) p10) p11) (.Name "at" p12) p13) .Sub (.Constant (.int 1) j2 p14) p15] p16) p17) (tE (lnD prs k a)):=fun k a hc {p1 p2 p3 p4 p5 p6 p7 p8 p9 p10 p11 p12 p13 p14 p15 p16 p17 j1 j2}=>by
    have hl:=Zbi hg hc.1.2
    have hl1:=Zbi hg (r:=k - 1) (by omega)
    have hK:∀ {p:Pos},AE (ktX P w K mg base f cdv A outer s Hs E) (EnvD st D [(1,dTab (rws prs)),(13,.int (k:Nat)),(8,.int (a:Nat))]) (.Name "k" p) (tE (.int (k:Nat))):=fun {p}=>Zbp (pv 13) (.tail _ (.head _))
    have hA:∀ {p:Pos},AE (ktX P w K mg base f cdv A outer s Hs E) (EnvD st D [(1,dTab (rws prs)),(13,.int (k:Nat)),(8,.int (a:Nat))]) (.Name "at" p) (tE (.int (a:Nat))):=fun {p}=>Zbp (pv 8) (.tail _ (.tail _ (.head _)))
    have hT:∀ {p:Pos},AE (ktX P w K mg base f cdv A outer s Hs E) (EnvD st D [(1,dTab (rws prs)),(13,.int (k:Nat)),(8,.int (a:Nat))]) (.Name "table" p) (tE (dTab (rws prs))):=fun {p}=>Zbp (pv 1) (.head _)
    have z1:∀ {q1 q2 q3 q4:Pos},AE (ktX P w K mg base f cdv A outer s Hs E) (EnvD st D [(1,dTab (rws prs)),(13,.int (k:Nat)),(8,.int (a:Nat))]) (.Subscript (.Name "table" q1) (.BinOp (.Name "k" q2) .Sub (.Constant (.int 1) j1 p9) q3) q4) (tE (dRow (rwD prs (k - 1)))):=fun {q1 q2 q3 q4}=>ZgX ZaC hg hT (ZfC (Zcc ZaC hK (Zaw Zae)) (by rw [show ((k:Nat):Int) - 1=((k - 1:Nat):Int) by omega])) (fun _ _=>rfl) (by omega)
    refine ZfC (ZcR ZaC (Zby ZaC (ZgX ZaC hg hT hK (fun _ _=>rfl) hc.1.2) ZbV (ZbU hA)) (ZfA (ZdO ZaC (Zcc ZaC (Zet (k:=a) ZaC z1 hA (fun _ _=>rfl) (by rw [List.length_map];exact ZcO (by omega)) (ZdI (by omega))) (Zaw Zae)) Zcn) (by simp)) (by rw [ZbS (by rw [List.length_map];omega),List.length_take,List.length_map];omega) (by simp)) ?_
    rw [ZbS (by rw [List.length_map];omega)]
  have Z2:∀ k a:Nat,(1≤k∧k<prs.length)∧a<w0 prs→∀ {p1 p2 p3 p4 p5 p6 p7 p8 p9 p10:Pos}{j1},AE (ktX P w K mg base f cdv A outer s Hs E) (EnvD st D [(1,dTab (rws prs)),(13,.int (k:Nat)),(8,.int (a:Nat)),(14,lnD prs k a)])
      (.BinOp (.Name "line" p1) .Add (.Subscript (.Subscript (.Name "table" p2) (.Name "k" p3) p4) (.Slice (some (.BinOp (.Name "at" p5) .Add (.Constant (.int 1) j1 p6) p7)) none none p8) p9) p10) (tE (setD (rwD prs k) a (.int ((rwD prs (k - 1)).getD a 0 - 1)))):=fun k a hc {p1 p2 p3 p4 p5 p6 p7 p8 p9 p10 j1}=>by
    have hl:=Zbi hg hc.1.2
    refine ZfC (ZcR ZaC (Zbp (pv 14) (.tail _ (.tail _ (.tail _ (.head _))))) (Zby ZaC (ZgX ZaC hg (Zbp (pv 1) (.head _)) (Zbp (pv 13) (.tail _ (.head _))) (fun _ _=>rfl) hc.1.2) (ZbU (Zeu ZaC (Zbp (pv 8) (.tail _ (.tail _ (.head _)))) (Zaw Zae))) ZbV) (by rw [List.length_append,List.length_take,List.length_map,List.length_singleton];omega) (by rw [show ((a:Nat):Int)+1=((a+1:Nat):Int) by omega,ZbB,List.length_drop,List.length_map];omega)) ?_
    rw [show ((a:Nat):Int)+1=((a+1:Nat):Int) by omega,ZbB]
    rfl
  have Z:PS (ktX P w K mg base f cdv A outer s Hs E) (ktS 12) (tIfS _ (tSeq _ (tSeq (fun E σ H=>∃ k a:Nat,((1≤k∧k<prs.length)∧a<w0 prs)∧tAsg (tA (EnvD st D [(1,dTab (rws prs)),(13,.int (k:Nat)),(8,.int (a:Nat))]) (tE (lnD prs k a))) (ZaP 14) E σ H)
      (tSeq (fun E σ H=>∃ k a:Nat,((1≤k∧k<prs.length)∧a<w0 prs)∧tAsg (tA (EnvD st D [(1,dTab (rws prs)),(13,.int (k:Nat)),(8,.int (a:Nat)),(14,lnD prs k a)]) (tE (setD (rwD prs k) a (.int ((rwD prs (k - 1)).getD a 0 - 1))))) (ZaP 14) E σ H)
      (tSeq (fun E σ H=>∃ (k:Nat) (o:PyData),(k<prs.length∧BT (putD (rws prs) k o))∧tAsg (tA (EnvL st D [(1,dTab (rws prs)),(13,.int (k:Nat)),(14,o)] 9 (LP BT 6 9)) (tD (LP BT (6+3) (9+3)))) (ZaP 9) E σ H) Zdx)))) Zdx) :=
    ZaO (Zat (Zf0 hr1.units) (pv 12) (ZaF Zab) (Zax _)) (Zac (Zdr (Zav Zam (pv 12) (pe_f G hr1 (Zaa (pv 0) (Zaa (pe_b Zah T.len boot_len (Zaa (pv 12) Zab)) Zab))) (fun _ _=>rfl)) (Zd8 rfl (ZaY (ZaM (i:=13) nd rfl (Or.inl rfl)) (ZaY (ZaM (i:=8) nd rfl (Or.inl rfl)) ZcL))))
      (Zac (ZhW fun k a hc=>Zaj (i:=14) nd rfl (Or.inl rfl) (Z1 k a hc).pe)
      (Zac (ZhW fun k a hc=>Zaj (i:=14) nd rfl (Or.inl rfl) (Z2 k a hc).pe)
      (Zaf (ZhW fun k o hc=>Zaj (i:=9) nd rfl (Or.inl rfl) (ZbW (φ:=BT) ZaS (Zfz (pv 9)) (Zes ZaS (Zbb (Zai ZaS (Za4 (Zkh ZaS (Zbv (pv 1) (.head _)) (Zbv (pv 13) (.tail _ (.head _))) (Zbv (pv 14) (.tail _ (.tail _ (.head _)))) (Zbv (pv 1) (.head _)) (Zbv (pv 13) (.tail _ (.head _))) Zae (by rw [List.length_map];omega) (by rw [List.length_map];exact hc.1)) fun z e=>by rw [e];exact hc.2) ZbC)) (Zaw Zae) (by decide) (by decide)) (by decide) (by decide)).pe))))) Zaq
  clear Z1 Z2
  generalize ktS 12=S0 at Z ⊢
  refine Zdq Z fun Ee σ H ⟨⟨r,sp,h⟩,q⟩=>?_
  obtain ⟨cs,esp,hcl,hcs⟩:=h.cs
  refine ⟨_,h.v12,len0,fun l1 hl1=>?_⟩
  have s1:Same H (upd H l1 (.lst [])):=Same.new hl1
  have el1:RdD K (upd H l1 (.lst [])) (.ref l1) (.list []):=.lst (SqL.of Zad) .nil
  have esp1:=s1 _ _ esp
  have hcs1:∀ c∈cs,(upd H l1 (.lst [])) c.1=some (.tup [.int (c.2.1:Nat),.int (c.2.2:Nat)]):=fun c hc=>s1 _ _ (hcs c hc).1
  have h1:=h.kr.same s1
  have v91:VP (abS st D) σ (upd H l1 (.lst [])) 9 (LP BT 6 9):=(h.v9.same s1).vp
  generalize upd H l1 (.lst [])=H1 at s1 el1 esp1 hcs1 h1 v91 ⊢
  refine ⟨_,_,.lst (SqL.of esp1) (Zlz cs hcs1),el1,Zl6 cs,rfl,_,rfl,?_⟩
  rw [ZnM]
  cases cs with
  | nil=>exact iteF (q _ _ ⟨h1.c,v91.imp fun z hz=>Zb6 hz (by decide) (by decide)⟩)
  | cons c0 cs' =>
    refine iteT ⟨_,h.v12,_,h1.c.s0,_,h.v12,sp,_,rfl,.inl (SqL.of esp1),st,_,rfl,by rw [List.length_map];simp,by rw [List.length_map];omega,h1.c.S,fun d H2 d0 d1 b2 S2=>?_⟩
    obtain ⟨x,hx,hat⟩:=Zer (xs:=(c0 :: cs').map fun c=>V.ref c.1) d0 d1
    obtain ⟨c,hc,rfl⟩:=List.mem_map.mp hx
    obtain ⟨z1,z2,z3,z4,z5,z6⟩:=hcs c hc
    have ec:H2 c.1=some (.tup [.int (c.2.1:Nat),.int (c.2.2:Nat)]):=b2 _ _ z3 (hcs1 c hc)
    have h2:=h1.but b2 S2
    refine ⟨sp,_,d,_,rfl,rfl,SqL.of (b2 _ _ h.nw.n1 esp1),hat,c.1,_,rfl,SqT.of ec,rfl,_,_,rfl,_,_,rfl,rfl,?_⟩
    have h3:=(h2.set (i:=13) (v:=.int (c.2.1:Nat)) (by decide)).set (i:=8) (v:=.int (c.2.2:Nat)) (by decide)
    have v93:VP (abS st D) ((σ.set 13 (some (.int (c.2.1:Nat)))).set 8 (some (.int (c.2.2:Nat)))) H2 9 (LP BT 6 9):=((v91.but b2.butS).ne (by decide)).ne (by decide)
    have e13:((σ.set 13 (some (.int (c.2.1:Nat)))).set 8 (some (.int (c.2.2:Nat))))[13]? = some (some (.int (c.2.1:Nat))):=Zbo (Za8 (by rw [h.kr.c.len];decide)) (by decide)
    have e8:((σ.set 13 (some (.int (c.2.1:Nat)))).set 8 (some (.int (c.2.2:Nat))))[8]? = some (some (.int (c.2.2:Nat))):=Za8 (by rw [List.length_set,h.kr.c.len];decide)
    generalize (σ.set 13 (some (.int (c.2.1:Nat)))).set 8 (some (.int (c.2.2:Nat))) = σ3 at h3 v93 e13 e8 ⊢
    have hc3:(1≤c.2.1∧c.2.1<prs.length)∧c.2.2<w0 prs:=⟨⟨z4,z5⟩,z6⟩
    refine ⟨c.2.1,c.2.2,hc3,abS st D,h3.env ?_,h3.c.S,fun v H4 b4 S4 ⟨d4,r4,e4⟩=>?_⟩
    · intro x hx
      simp only [List.mem_cons,List.not_mem_nil,or_false] at hx
      rcases hx with rfl | rfl | rfl
      · exact h3.c.v1
      · exact ZcT e13
      · exact ZcT e8
    subst e4
    have h4:=(h3.but b4.but S4).set (i:=14) (v:=v) (by decide)
    have v94:=(v93.but b4).ne (k:=14) (x:=some v) (by decide)
    have e13':=Zbo (y:=some v) e13 (show 14≠13 by decide)
    have e8':=Zbo (y:=some v) e8 (show 14≠8 by decide)
    have e14:(σ3.set 14 (some v))[14]? = some (some v):=Za8 (by rw [h3.c.len];decide)
    refine ⟨c.2.1,c.2.2,hc3,abS st D,h4.env ?_,h4.c.S,fun v H5 b5 S5 ⟨d5,r5,e5⟩=>?_⟩
    · intro x hx
      simp only [List.mem_cons,List.not_mem_nil,or_false] at hx
      rcases hx with rfl | rfl | rfl | rfl
      · exact h4.c.v1
      · exact ZcT e13'
      · exact ZcT e8'
      · exact ⟨_,e14,r4⟩
    subst e5
    have h5:=(h4.but b5.but S5).set (i:=14) (v:=v) (by decide)
    refine ⟨c.2.1,setD (rwD prs c.2.1) c.2.2 (.int ((rwD prs (c.2.1 - 1)).getD c.2.2 0 - 1)),⟨z5,Zm1 hg hb z4 z5 z6⟩,abS st D,⟨h5.env ?_,(v94.but b5).ne (by decide)⟩,h5.c.S,fun v H6 b6 S6 ⟨z,rz,ez⟩=>q _ _ ⟨(h5.c.but b6.but S6).set (by decide),_,Za8 (by rw [h5.c.len];decide),z,rz,Zb6 ez (by decide) (by decide)⟩⟩
    intro x hx
    simp only [List.mem_cons,List.not_mem_nil,or_false] at hx
    rcases hx with rfl | rfl | rfl
    · exact h5.c.v1
    · exact ZcT (Zbo e13' (by decide))
    · exact ⟨_,Za8 (by rw [h4.c.len];decide),r5⟩
end
def mdR (rows:List (List Int)) (r to:Nat) (x:Int):List (List Int):=(rows.set r (rows.getD r []).dropLast).set to (rows.getD to [] ++ [x])
theorem Zfe {rows:List (List Int)}{r to i:Nat}{x:Int} (hr:r<rows.length) (ht:to<rows.length) (hne:to≠r):(mdR rows r to x)[i]? = if i=to then some (rows.getD to [] ++ [x]) else if i=r then some (rows.getD r []).dropLast else rows[i]?:=by
  unfold mdR
  rw [List.getElem?_set,List.length_set]
  by_cases h:to=i
  · rw [if_pos h,if_pos h.symm,if_pos ht]
  · rw [if_neg h,if_neg (Ne.symm h),List.getElem?_set]
    by_cases h2:r=i
    · rw [if_pos h2,if_pos h2.symm,if_pos hr]
    · rw [if_neg h2,if_neg (Ne.symm h2)]
theorem ZmE {W:Nat}{rows:List (List Int)} (g:GoodR W rows) {r to:Nat}{x:Int} (hr:r<rows.length) (ht:to<rows.length) (hne:to≠r):¬ GoodD (dTab (mdR rows r to x)):=by
  have l1:(mdR rows r to x).length=rows.length:=by unfold mdR;rw [List.length_set,List.length_set]
  refine Zlk (i:=r) (k:=to) (by omega) (by omega) ?_
  have e1:(mdR rows r to x).getD r []=(rows.getD r []).dropLast:=by rw [List.getD_eq_getElem?_getD,Zfe hr ht hne,if_neg (Ne.symm hne),if_pos rfl];rfl
  have e2:(mdR rows r to x).getD to []=rows.getD to [] ++ [x]:=by rw [List.getD_eq_getElem?_getD,Zfe hr ht hne,if_pos rfl];rfl
  rw [e1,e2,List.length_dropLast,List.length_append,List.length_singleton,g.len r hr,g.len to ht]
  have:=g.w
  omega
theorem ZnO {prs:Prs} (hg:tabB prs=true) (hb:Bnd prs) {r to:Nat} (hr:r<prs.length) (ht:to<prs.length) (hne:to≠r) {x:Int} (hx:x.natAbs<10 ^ 40):BT (dTab (mdR (rws prs) r to x)):=by
  have gR:=ZaL hg
  have hw:=gR.w
  have hrr:r<(rws prs).length:=by rw [List.length_map];exact hr
  have htt:to<(rws prs).length:=by rw [List.length_map];exact ht
  have hn:=gR.n
  refine ⟨ZmE gR hrr htt hne,Zl4 (by unfold mdR;rw [List.length_set,List.length_set];exact hn.2) fun y hy=>?_⟩
  obtain ⟨i,hi⟩:=List.mem_iff_getElem?.mp hy
  rw [Zfe hrr htt hne] at hi
  have hlr:=Zbi hg hr
  have hlt:=Zbi hg ht
  by_cases c3:i=to
  · rw [if_pos c3] at hi
    rw [← Option.some.inj hi]
    refine ⟨by rw [List.length_append,List.length_singleton];show (rwD prs to).length+1≤8;omega,fun n hn=>?_⟩
    rcases List.mem_append.mp hn with z | z
    · exact Nat.lt_of_lt_of_le (ZcH hg hb ht n z) (by decide)
    · rw [List.mem_singleton.mp z]
      exact hx
  · rw [if_neg c3] at hi
    by_cases c4:i=r
    · rw [if_pos c4] at hi
      rw [← Option.some.inj hi]
      refine ⟨by rw [List.length_dropLast];show (rwD prs r).length - 1≤8;omega,fun n hn=>Nat.lt_of_lt_of_le (ZcH hg hb hr n (List.dropLast_subset _ hn)) (by decide)⟩
    · rw [if_neg c4] at hi
      have hil:i<prs.length:=by have:=(List.getElem?_eq_some_iff.mp hi).1;rw [List.length_map] at this;exact this
      have hxe:y=rwD prs i:=by
        have:(rws prs).getD i []=y:=by rw [List.getD_eq_getElem?_getD,hi];rfl
        exact this.symm
      have hli:=Zbi hg hil
      rw [hxe]
      exact ⟨by omega,fun n hn=>Nat.lt_of_lt_of_le (ZcH hg hb hil n hn) (by decide)⟩
section
variable {P:Program}{w:World}{K:PySem.W.Frag}{mg:Str→Option Value}{base:Heap}
def ZcW:Sp:=fun vs H Q _=>∃ (s t:Addr) (prs:Prs),vs=[.ref s,.ref t]∧StK H s∧Tab H t prs∧t≠s∧(∀ p∈prs,p.1≠s)∧tabB prs=true∧Bnd prs∧∀ x d H',But s H H'→StK H' s→RdS [s] H' x d→BT d→Q x H'
theorem sc_uneven:FnScope ["store","table","at","other","found"] ["store","table"] (Zag Zfq):=⟨rfl,rfl,rfl,by decide +kernel,rfl,by decide +kernel,by decide +kernel⟩
theorem atQ {qs:List (Addr × (Addr × List Int))}{prs:Prs} (hm:qs.map (·.2)=prs) {i:Nat} (hi:i<prs.length):∃ q,qs[i]? = some q∧q∈qs∧q.2.2=rwD prs i:=by
  subst hm
  rw [List.length_map] at hi
  refine ⟨qs[i],List.getElem?_eq_getElem hi,List.getElem_mem _,?_⟩
  have:(qs.map (·.2))[i]? = some qs[i].2:=by rw [List.getElem?_map,List.getElem?_eq_getElem hi];rfl
  unfold rwD rws
  rw [List.getD_eq_getElem?_getD,List.getElem?_map,this]
  rfl
set_option maxHeartbeats 32000000 in
theorem ZiW (T:Blt mg) (Df:Zao K mg "_law_uneven" Zfq ["store","table"]) (G:FnAt P w K mg base 1 "_law_take" ["store","many"] ZaW):FnAt P w K mg base 2 "_law_uneven" ["store","table"] ZcW:=by
  refine FnAt.of Df sc_uneven (fun vs H Q E h=>?_) (fun f cdv A outer s H vs Q E hr h=>?_)
  · obtain ⟨s,t,prs,rfl,_⟩:=h
    rfl
  · obtain ⟨st,t,prs,rfl,S0,hT,nt,np,hg,hb,q⟩:=h
    have nd:=sc_uneven.nd
    have nd1:(["row"]:List Str).Nodup:=by decide +kernel
    have gR:=ZaL hg
    obtain ⟨g,g1,g2,g3,g4⟩:=ZaI hg
    obtain ⟨p0,hp0,hm0,hx0⟩:=Zbe (prs:=prs) g1
    have hl0:=g.len p0 hm0
    refine ⟨_,Zac (ZaO (PW.pt (ZcF (Zat o_lt (pe_b Zah T.len boot_len (Zaa (pv 1) Zab)) Zae (Zax _)) (Zb1 (Zat o_lt (pe_b Zah T.len boot_len (Zaa (Zav Zam (pv 1) Zae (fun _ _=>rfl)) Zab)) Zae (Zax _)))))
        (Zaf (Zan (Zas ZbK (pv 1) (ZaF (Zaa (ZaF Zab) Zab))))) Zaq)
      (Zac (Zaj (i:=2) nd rfl (Or.inl rfl) (pe_f G hr (Zaa (pv 0) (Zaa (pe_b Zah T.len boot_len (Zaa (pv 1) Zab)) Zab))))
      (Zac (Zaj (i:=3) nd rfl (Or.inl rfl) (Zas ZgP (Zas Zbt (Zas Zbt (pv 2) Zae) (pe_f G hr (Zaa (pv 0) (Zaa (Zas Zc4 (pe_b Zah T.len boot_len (Zaa (pv 1) Zab)) Zae) Zab)))) (pe_b Zah T.len boot_len (Zaa (pv 1) Zab))))
      (Zac (Zd6 ["row"] [none] (Zag Zfq) ["store","table","at","other","found"] (i:=4) nd rfl (Or.inl rfl) rfl (Zba (pv 1)) (by decide +kernel) (fun cl C s2 H2 ex=>pg_c 0 nd1) (fun cl C s2 H2 ex=>ZaK) (fun cl C s2 H2 ex=>pe_t (ZmG K) T.list boot_list (Zaa (pv 0) Zab)))
      (Zac (Zdr (Zas ZbK (Zav Zam (pv 4) (pv 2) (fun _ _=>rfl)) (ZaF (Zaa (Zas Zbt (Zav Zam (Zav Zam (pv 1) (ZgG ZgO Zae) (fun _ _=>rfl)) (ZgG ZgO Zae) (fun _ _=>rfl)) Zae) Zab))) (ZfX (pv 4) (pv 2) Zc0))
      (Zac (Zdr (Zcv Zdd (Zav Zam (pv 4) (pv 3) (fun _ _=>rfl)) Zdh (ZcK (ZgG ZgO Zae))) (ZfX (pv 4) (pv 3) Zc0))
      (Zaf (Zan (pv 4)))))))),?_⟩
    have rt:∀ {H':Hp},Tab H' t prs→RdSs [st] H' (prs.map fun p=>V.ref p.1) ((rws prs).map dRow):=fun {H'} hT'=>by
      have z:=Zg2 (S:=[st]) hT' (by simpa using nt) fun p hp=>by simpa using np p hp
      cases z with
      | @lst _ xs _ ea na ra =>
        have:=hT'.l.symm.trans ea
        injection this with this
        injection this with this
        rw [this]
        exact ra
    have early:∀ H':Hp,Same H H'→∃ v,([some (.ref st),some (.ref t),none,none,none]:L2.St)[1]? = some (some v)∧(tLst (ZbL (tLst tNil) tNil)) [some (.ref st),some (.ref t),none,none,none] H' (fun y H2=>rCat v y H2 Q):=fun H' s'=>by
      refine ⟨_,rfl,len0,fun l1 hl1=>⟨len1,fun l2 hl2=>?_⟩⟩
      have s2:=s'.trans ((Same.new (o:=.lst []) hl1).trans (Same.new (o:=.lst [.ref l1]) hl2))
      have e1:(upd (upd H' l1 (.lst [])) l2 (.lst [.ref l1])) l1=some (.lst []):=(Same.new hl2) _ _ Zad
      refine ⟨t,l2,_,_,rfl,rfl,s2 _ _ hT.l,Zad,sl6 (by rw [List.length_map];simp only [List.length_singleton];omega),fun l3 hl3=>?_⟩
      have s3:=s2.trans (Same.new (o:=.lst ((prs.map fun p=>V.ref p.1) ++ [.ref l1])) hl3)
      have S2:=S0.same s2
      have n1:l1≠st:=((S0.same s').ne hl1).symm
      have n3:l3≠st:=(S2.ne hl3).symm
      refine q _ (.list ((rws prs).map dRow ++ [.list []])) _ (Same.but s3) (S0.same s3) (.lst Zad (by simpa using n3) (Zb5 (rt (hT.same s3)) (.cons (.lst ((Same.new hl3) _ _ e1) (by simpa using n1) .nil) .nil))) ⟨ZgW (d:=.list []) (by simp) rfl,(ZbH (c:=400) (k:=1) (n:=7) (fun d hd=>?_) (by rw [List.length_append,List.length_map,List.length_map,List.length_singleton];omega)).mono (by decide) (by decide)⟩
      rcases List.mem_append.mp hd with z | z
      · obtain ⟨x,hx,rfl⟩:=List.mem_map.mp z
        exact (ZdQ hg hb x hx).1
      · rw [List.mem_singleton.mp z]
        exact (Zbr (c:=400) (k:=1) (by decide +kernel))
    refine ⟨_,rfl,t,_,rfl,.inl hT.sq,_,_,rfl,rfl,_,rfl,?_⟩
    rw [List.length_map]
    by_cases c1:((prs.length:Nat):Int)<2
    · rw [decide_eq_true c1]
      exact iteT (iteT (early H (Same.refl _)))
    · rw [decide_eq_false c1]
      refine iteF ⟨_,rfl,t,_,0,.ref p0.1,rfl,rfl,hT.sq,ZaB (j:=0) (by rw [List.getElem?_map,hx0];rfl),p0.1,_,rfl,.inl (hT.r p0 hm0).sq,_,_,rfl,rfl,_,rfl,?_⟩
      rw [List.length_map,hl0]
      by_cases c2:((w0 prs:Nat):Int)<2
      · rw [decide_eq_true c2]
        exact iteT (early H (Same.refl _))
      · rw [decide_eq_false c2]
        refine iteF ⟨_,rfl,_,rfl,t,_,rfl,.inl hT.sq,st,_,rfl,by rw [List.length_map];omega,by rw [List.length_map];omega,S0,fun d1 H1 d10 d11 b1 S1=>?_⟩
        rw [List.length_map] at d11
        have hT1:=hT.but nt np b1
        refine ⟨_,rfl,_,_,rfl,rfl,_,rfl,_,rfl,t,_,rfl,.inl hT1.sq,_,_,rfl,rfl,st,_,rfl,by rw [List.length_map];omega,by rw [List.length_map];omega,S1,fun d2 H2 d20 d21 b2 S2=>?_⟩
        rw [List.length_map] at d21
        have hT2:=hT1.but nt np b2
        refine ⟨_,_,rfl,rfl,_,rfl,t,_,rfl,.inl hT2.sq,_,_,rfl,rfl,by rw [List.length_map];omega,?_⟩
        rw [List.length_map]
        obtain ⟨a,rfl⟩:∃ a:Nat,d1=a:=⟨d1.toNat,by omega⟩
        obtain ⟨o,ho,hol,hoa⟩:∃ o:Nat,((a:Nat)+1+d2) % ((prs.length:Nat):Int)=(o:Nat)∧o<prs.length∧a≠o:=by
          by_cases hh:(a:Int)+1+d2<prs.length
          · refine ⟨((a:Int)+1+d2).toNat,?_,by omega,by omega⟩
            rw [Int.emod_eq_of_lt (by omega) hh]
            omega
          · refine ⟨((a:Int)+1+d2 - prs.length).toNat,?_,by omega,by omega⟩
            rw [← Int.sub_emod_right,Int.emod_eq_of_lt (by omega) (by omega)]
            omega
        rw [ho]
        have ha:a<prs.length:=by omega
        have B2:=b1.trans b2
        refine ⟨_,rfl,t,rfl,⟨_,hT2.sq⟩,Zdk (fun p:Addr × List Int=>V.ref p.1) (fun p=>.lst (p.2.map V.int)) hT2.sq (by omega) (fun p hp H' Q' sm q'=>⟨_,rfl,p.1,_,rfl,.inl ((hT2.same sm).r p hp).sq,fun l hl=>q' l _ hl (Same.new hl) Zad⟩) fun M qs H3 hM hqm hnd hq s3 eM=>?_⟩
        have hql:qs.length=prs.length:=by rw [← hqm,List.length_map]
        obtain ⟨qa,hqa,mqa,dqa⟩:=atQ hqm ha
        obtain ⟨qo,hqo,mqo,dqo⟩:=atQ hqm hol
        have hla:=Zbi hg ha
        have hlo:=Zbi hg hol
        have hT3:=hT2.same s3
        have S3:=S2.same s3
        have nM:M≠st:=(S2.ne hM).symm
        have nMt:M≠t:=(Zak hT2.l hM).symm
        have nMq:∀ x∈qs,x.1≠M:=fun x hx=>(hq x hx).2.2
        have nqs:∀ x∈qs,x.1≠st:=fun x hx=>(S2.ne (hq x hx).2.1).symm
        have ea:H3 qa.1=some (.lst ((rwD prs a).map V.int)):=by rw [(hq qa mqa).1,dqa]
        obtain ⟨pl,hpl1,hpl2,hpl3⟩:=ZaE (prs:=prs) (i:=prs.length - 1) (by omega)
        have hll:=g.len pl hpl1
        have vb:(pl.2.getD (w0 prs - 1) 0+9).natAbs<10 ^ 40:=by
          have:=hb pl hpl1 (pl.2.getD (w0 prs - 1) 0) (by rw [List.getD_eq_getElem?_getD,List.getElem?_eq_getElem (by omega)];exact List.getElem_mem _)
          have e38:(10:Nat) ^ 40=100 * 10 ^ 38:=by decide
          rw [e38]
          generalize (10:Nat) ^ 38=MM at *
          omega
        generalize hv:pl.2.getD (w0 prs - 1) 0+9=v at vb
        refine ⟨_,rfl,_,rfl,M,_,_,.ref qa.1,rfl,rfl,SqL.of eM,ZaB (by rw [List.getElem?_map,hqa];rfl),_,rfl,1,rfl,t,_,_,.ref pl.1,rfl,rfl,hT3.sq,?_,1,rfl,pl.1,_,_,.int (pl.2.getD (w0 prs - 1) 0),rfl,rfl,(hT3.r pl hpl1).sq,?_,_,_,rfl,rfl,len1,fun l1 hl1=>?_⟩
        · unfold atI
          rw [List.length_map,show ixN prs.length (-1)=some (prs.length - 1) from ZdH g1]
          show (prs.map fun p=>V.ref p.1)[prs.length - 1]? = _
          rw [List.getElem?_map,hpl2]
          rfl
        · unfold atI
          rw [List.length_map,show ixN pl.2.length (-1)=some (pl.2.length - 1) from ZdH (by omega),hll]
          show (pl.2.map V.int)[w0 prs - 1]? = _
          rw [List.getElem?_map,List.getElem?_eq_getElem (by omega),List.getD_eq_getElem?_getD,List.getElem?_eq_getElem (by omega)]
          rfl
        rw [hv]
        refine ⟨qa.1,l1,_,_,rfl,rfl,(Same.new hl1) _ _ ea,Zad,sl6 (by rw [List.length_map];simp only [List.length_singleton];omega),fun p1 hp1=>?_⟩
        have s4:=(Same.new (o:=.lst [.int v]) hl1).trans (Same.new (o:=.lst ((rwD prs a).map V.int ++ [.int v])) hp1)
        have ep1:Row (upd (upd H3 l1 (.lst [.int v])) p1 (.lst ((rwD prs a).map V.int ++ [.int v]))) p1 (rwD prs a ++ [v]):=by
          unfold Row
          rw [Zad,List.map_append]
          rfl
        have np1:p1≠st:=((S3.same (Same.new hl1)).ne hp1).symm
        have np1M:p1≠M:=fun z=>by
          have:=(Same.new (o:=.lst [.int v]) hl1) _ _ eM
          rw [← z,hp1] at this
          cases this
        generalize upd (upd H3 l1 (.lst [.int v])) p1 (.lst ((rwD prs a).map V.int ++ [.int v]))=H4 at s4 ep1 ⊢
        have hML:(qs.map fun q=>V.ref q.1).length=prs.length:=by rw [List.length_map];exact hql
        refine ⟨_,rfl,_,rfl,M,_,_,a,rfl,rfl,s4 _ _ eM,by rw [hML];exact ZcO ha,?_⟩
        have eM5:(upd H4 M (.lst ((qs.map fun q=>V.ref q.1).set a (.ref p1)))) M=some (.lst ((qs.map fun q=>V.ref q.1).set a (.ref p1))):=Zad
        have k5:∀ b o',b≠M→H4 b=some o'→(upd H4 M (.lst ((qs.map fun q=>V.ref q.1).set a (.ref p1)))) b=some o':=fun b o' n e=>by rw [Zal n];exact e
        have b5:But st H2 (upd H4 M (.lst ((qs.map fun q=>V.ref q.1).set a (.ref p1)))):=fun b o' n e=>k5 b o' (Zak e hM) (s4 _ _ (s3 _ _ e))
        have S5:StK (upd H4 M (.lst ((qs.map fun q=>V.ref q.1).set a (.ref p1)))) st:=by
          obtain ⟨x1,x2,x3,x4⟩:=S3.same s4
          exact ⟨x1,x2,x3,k5 _ _ nM.symm x4⟩
        have eq5:∀ x∈qs,(upd H4 M (.lst ((qs.map fun q=>V.ref q.1).set a (.ref p1)))) x.1=some (.lst (x.2.2.map V.int)):=fun x hx=>k5 _ _ (nMq x hx) (s4 _ _ (hq x hx).1)
        have ep5:Row (upd H4 M (.lst ((qs.map fun q=>V.ref q.1).set a (.ref p1)))) p1 (rwD prs a ++ [v]):=k5 _ _ np1M ep1
        generalize upd H4 M (.lst ((qs.map fun q=>V.ref q.1).set a (.ref p1)))=H5 at eM5 k5 b5 S5 eq5 ep5 ⊢
        have hML5:((qs.map fun q=>V.ref q.1).set a (.ref p1)).length=prs.length:=by rw [List.length_set];exact hML
        have eo5:H5 qo.1=some (.lst ((rwD prs o).map V.int)):=by rw [eq5 qo mqo,dqo]
        refine ⟨_,rfl,_,rfl,M,_,_,.ref qo.1,rfl,rfl,SqL.of eM5,ZaB (by rw [List.getElem?_set_ne hoa,List.getElem?_map,hqo];rfl),1,rfl,_,rfl,qo.1,_,rfl,SqL.of eo5,fun p2 hp2=>?_⟩
        have ecut:cutV ((rwD prs o).map V.int) none (some (-1))=(rwD prs o).dropLast.map V.int:=by
          unfold cutV
          have e:HT.sIx ((rwD prs o).map V.int).length ((rwD prs o).map V.int).length (some (-1))=((rwD prs o).map V.int).length - 1:=by
            unfold HT.sIx
            simp
            omega
          rw [e,HT.sIx_none,List.drop_zero,Nat.sub_zero,List.map_dropLast,List.dropLast_eq_take]
        rw [show cutV ((rwD prs o).map V.int) none (some (-(1:Int)))=_ from ecut] at *
        have s6:Same H5 (upd H5 p2 (.lst ((rwD prs o).dropLast.map V.int))):=Same.new hp2
        have ep2:Row (upd H5 p2 (.lst ((rwD prs o).dropLast.map V.int))) p2 (rwD prs o).dropLast:=Zad
        have np2:p2≠st:=(S5.ne hp2).symm
        have np2M:p2≠M:=fun z=>by rw [z,eM5] at hp2;cases hp2
        generalize upd H5 p2 (.lst ((rwD prs o).dropLast.map V.int))=H6 at s6 ep2 ⊢
        refine ⟨_,rfl,_,rfl,M,_,_,o,rfl,rfl,s6 _ _ eM5,by rw [hML5];exact ZcO hol,?_⟩
        have k7:∀ b o',b≠M→H6 b=some o'→(upd H6 M (.lst (((qs.map fun q=>V.ref q.1).set a (.ref p1)).set o (.ref p2)))) b=some o':=fun b o' n e=>by rw [Zal n];exact e
        have eM7:(upd H6 M (.lst (((qs.map fun q=>V.ref q.1).set a (.ref p1)).set o (.ref p2)))) M=some (.lst ((((qs.map (·.1)).set a p1).set o p2).map V.ref)):=by
          rw [Zad,List.map_set,List.map_set,List.map_map]
          rfl
        have b7:But st H2 (upd H6 M (.lst (((qs.map fun q=>V.ref q.1).set a (.ref p1)).set o (.ref p2)))):=fun b o' n e=>k7 b o' (Zak e hM) (s6 _ _ (b5 _ _ n e))
        have S7:StK (upd H6 M (.lst (((qs.map fun q=>V.ref q.1).set a (.ref p1)).set o (.ref p2)))) st:=by
          obtain ⟨x1,x2,x3,x4⟩:=S5.same s6
          exact ⟨x1,x2,x3,k7 _ _ nM.symm x4⟩
        have r7:∀ {x:Addr}{ns:List Int},x≠M→Row H6 x ns→Row (upd H6 M (.lst (((qs.map fun q=>V.ref q.1).set a (.ref p1)).set o (.ref p2)))) x ns:=fun n e=>k7 _ _ n e
        generalize upd H6 M (.lst (((qs.map fun q=>V.ref q.1).set a (.ref p1)).set o (.ref p2)))=H7 at k7 eM7 b7 S7 r7 ⊢
        refine ⟨_,rfl,q _ (dTab (mdR (rws prs) o a v)) _ (B2.trans b7) S7 (.lst eM7 (by simpa using nM) (ZeL (by rw [List.length_set,List.length_set,List.length_map,hql];unfold mdR;rw [List.length_set,List.length_set,List.length_map]) fun i x y hx hy=>?_)) (ZnO hg hb hol ha hoa vb)⟩
        rw [Zfe (by rw [List.length_map];exact hol) (by rw [List.length_map];exact ha) hoa] at hy
        have lq:(qs.map (·.1)).length=prs.length:=by rw [List.length_map];exact hql
        by_cases c3:i=a
        · subst c3
          rw [if_pos rfl] at hy
          rw [List.getElem?_set_ne (Ne.symm hoa),List.getElem?_set,if_pos rfl,if_pos (by omega)] at hx
          rw [← Option.some.inj hx,← Option.some.inj hy]
          exact ⟨r7 np1M (s6 _ _ ep5),by simpa using np1⟩
        · rw [if_neg c3] at hy
          by_cases c4:i=o
          · subst c4
            rw [if_pos rfl] at hy
            rw [List.getElem?_set,if_pos rfl,List.length_set,if_pos (by omega)] at hx
            rw [← Option.some.inj hx,← Option.some.inj hy]
            exact ⟨r7 np2M ep2,by simpa using np2⟩
          · rw [if_neg c4] at hy
            rw [List.getElem?_set_ne (Ne.symm c4),List.getElem?_set_ne (Ne.symm c3),List.getElem?_map] at hx
            obtain ⟨qi,hqi,rfl⟩:=Option.map_eq_some_iff.mp hx
            have mqi:=List.mem_of_getElem? hqi
            have hil:i<prs.length:=by rw [← hql];exact (List.getElem?_eq_some_iff.mp hqi).1
            obtain ⟨qj,hqj,mqj,dqj⟩:=atQ hqm hil
            have:qi=qj:=Option.some.inj (hqi.symm.trans hqj)
            subst this
            have hye:y=rwD prs i:=by
              have:(rws prs).getD i []=y:=by rw [List.getD_eq_getElem?_getD,hy];rfl
              exact this.symm
            rw [hye,← dqj]
            exact ⟨r7 (nMq qi mqi) (s6 _ _ (eq5 qi mqi)),by simpa using nqs qi mqi⟩
end
section
variable (st D t:Addr) (prs:Prs) (H0:Hp)
def K15 (lo hi:Nat) (σ:L2.St) (H:Hp):Prop:=NtC st D t prs H0 16 σ H∧VP (abS st D) σ H 9 (LP BT lo hi)∧VP (abS st D) σ H 15 BT
end
section
variable {P:Program}{w:World}{K:PySem.W.Frag}{mg:Str→Option Value}{base:Heap}{f:Addr}{cdv:Value}{A:Around}{outer:List Env}{s:Shared}{Hs H0:Hp}{E:XK}{st D t:Addr}{prs:Prs}
theorem kr13 (G:FnAt P w K mg base 2 "_law_uneven" ["store","table"] ZcW) (hr2:Room 2 (ktX P w K mg base f cdv A outer s Hs E).A) (hg:tabB prs=true) (hb:Bnd prs):PS (ktX P w K mg base f cdv A outer s Hs E) (ktS 13) (tTr (K13 st D t prs H0 6 12) (K13 st D t prs H0 9 15)):=by
  have nd:=sc_noTab.nd
  have Z:PS (ktX P w K mg base f cdv A outer s Hs E) (ktS 13) _:=Zaj (i:=9) nd rfl (Or.inl rfl) (Zas ZbK (pv 9) (Zas ZfZ (ZaF (Zaa (pe_f G hr2 (Zaa (pv 0) (Zaa (pv 1) Zab))) Zab)) Zae))
  generalize ktS 13=S0 at Z ⊢
  refine ZcU (i:=9) Z fun σ H Q ⟨h,v9⟩ q=>?_
  obtain ⟨v,e9,d9,r9,ds,rfl,l1,l2,hds⟩:=v9
  refine ⟨v,e9,_,h.s0,_,h.s1,st,t,prs,rfl,h.S,h.T,h.nt,h.np,hg,hb,fun x d H1 b1 S1 rx bx=>⟨len1,fun m1 hm1=>⟨m1,3,_,rfl,rfl,Zad,by decide,by decide,sl6 (show 3≤1000 by decide),fun m2 hm2=>?_⟩⟩⟩
  have r9':=ZgB r9 b1.butS
  have s2:=(Same.new (o:=.lst [x]) hm1).trans (Same.new (o:=.lst ((List.replicate (3:Int).toNat [x]).flatten)) hm2)
  cases r9' with
  | @lst a9 xs _ ea na ra =>
    refine ⟨a9,m2,_,_,rfl,rfl,s2 _ _ ea,Zad,sl6 (by rw [ra.length,Zfo,List.length_replicate];show ds.length+3≤1000;omega),fun m3 hm3=>q _ _ ?_⟩
    have s3:=s2.trans (Same.new (o:=.lst (xs ++ (List.replicate (3:Int).toNat [x]).flatten)) hm3)
    have h1:=h.but b1 S1
    have rx3:=rx.same s3
    refine ⟨(h1.same s3).set (by decide),_,Za8 (by rw [h.len];decide),.list (ds ++ List.replicate 3 d),.lst Zad ((abS st D).fresh (S1.same s2) hm3) ?_,ZmF (by simp only [List.length_append,List.length_replicate];omega) (by simp only [List.length_append,List.length_replicate];omega) fun z hz=>?_⟩
    · rw [Zfo]
      exact Zb5 (ra.same s3) (.cons rx3 (.cons rx3 (.cons rx3 .nil)))
    · rcases List.mem_append.mp hz with z' | z'
      · exact hds z z'
      · rw [List.eq_of_mem_replicate z']
        exact bx
set_option maxHeartbeats 16000000 in
theorem kr14 (T:Blt mg) (hg:tabB prs=true) (hb:Bnd prs):PS (ktX P w K mg base f cdv A outer s Hs E) (ktS 14) (tTr (K13 st D t prs H0 9 15) (K15 st D t prs H0 9 15)):=by
  have nd:=sc_noTab.nd
  have gR:=ZaL hg
  have hn:1≤prs.length∧prs.length≤6:=by
    have:=gR.n
    rwa [List.length_map] at this
  have hT:∀ {p:Pos},AE (ktX P w K mg base f cdv A outer s Hs E) (EnvD st D [(1,dTab (rws prs))]) (.Name "table" p) (tE (.list ((rws prs).map dRow))):=fun {p}=>Zbp (pv 1) (.head _)
  have lr:((rws prs).map dRow).length=prs.length:=by simp only [List.length_map]
  have hL:∀ {p1 p2 p3 p4 p5 p6 p7 p8 p9 p10 p11 p12 p13:Pos}{j1 j2},AE (ktX P w K mg base f cdv A outer s Hs E) (EnvD st D [(1,dTab (rws prs))]) (.BinOp (.Name "table" p1) .Add (.BinOp (.List [.Subscript (.Name "table" p2) (.UnaryOp .USub (.Constant (.int 1) j1 p3) p4) p5] p6) .Mult (.BinOp (.Constant (.int 7) j2 p7) .Sub (.Call (.Name "len" p8) [.Name "table" p9] [] p10) p11) p12) p13) (tD BT):=fun {p1 p2 p3 p4 p5 p6 p7 p8 p9 p10 p11 p12 p13 j1 j2}=>by
    refine ZeZ ZaC hT (Zes (φ:=Sz 400 1) (i:=7 - (((rws prs).map dRow).length:Nat)) ZaC (Zbb (Zai ZaC (Za4 (Zet (k:=prs.length - 1) ZaC hT (ZcQ (Zaw Zae)) (fun _ _=>rfl) (by rw [lr];exact ZdH hn.1) (Zfm (by rw [List.length_map];omega))) fun z e=>?_) ZbC)) (Zcc ZaC (Zaw Zae) (Zki hT T.len)) (by rw [lr];omega) (by omega)) (fun d e=>⟨_,e,by rw [lr];omega⟩) (fun d ⟨ds,e,l1,l2,_⟩=>⟨ds,e,by rw [lr] at l2;omega⟩) fun a c ha ⟨ds,e,l1,l2,hz⟩=>?_
    · rw [e]
      refine (ZdQ hg hb _ ?_).1
      rw [List.getD_eq_getElem?_getD,List.getElem?_eq_getElem (by rw [List.length_map];omega)]
      exact List.getElem_mem _
    · injection ha with ha
      injection e with e
      subst ha e
      rw [lr] at l1 l2
      refine ⟨Zgs (.inr (by rw [List.length_append,lr];omega)),(ZbH (c:=400) (k:=1) (n:=8) (fun d hd=>?_) (by rw [List.length_append,lr];omega)).mono (by decide) (by decide)⟩
      rcases List.mem_append.mp hd with z | z
      · obtain ⟨x,hx,rfl⟩:=List.mem_map.mp z
        exact (ZdQ hg hb x hx).1
      · exact hz d z
  have Z:PS (ktX P w K mg base f cdv A outer s Hs E) (ktS 14) (tAsg (tA (EnvD st D [(1,dTab (rws prs))]) (tD BT)) (ZaP 15)):=Zaj (i:=15) nd rfl (Or.inl rfl) hL.pe
  generalize ktS 14=S0 at Z ⊢
  refine ZcU (i:=15) Z fun σ H Q ⟨h,v9⟩ q=>⟨abS st D,⟨rfl,h.s0,fun x hx=>?_⟩,h.S,fun v H' b S a=>q _ _ ⟨(h.but b.but S).set (by decide),(v9.but b).ne (by decide),_,Za8 (by rw [h.len];decide),a⟩⟩
  simp only [List.mem_cons,List.not_mem_nil,or_false] at hx
  rcases hx with rfl
  exact h.v1
abbrev En15 (st D:Addr) (prs:Prs):EnB:=fun B σ H=>EnvL st D [(1,dTab (rws prs))] 9 (LP BT 9 15) B σ H∧VP B σ H 15 BT
theorem ZbR:StbE (En15 st D prs):=fun _ _ _ _ ⟨h1,h2⟩ b=>⟨ZaS _ _ _ _ h1 b,h2.but b⟩
set_option maxHeartbeats 32000000 in
theorem kr15 (htu:mg "tuple" = none) (hg:tabB prs=true) (hb:Bnd prs):PS (ktX P w K mg base f cdv A outer s Hs E) (ktS 15) (tTr (K15 st D t prs H0 9 15) (K13 st D t prs H0 20 26)):=by
  have nd:=sc_noTab.nd
  have gR:=ZaL hg
  have hn:1≤prs.length∧prs.length≤6:=by
    have:=gR.n
    rwa [List.length_map] at this
  have hT:∀ {p:Pos},AE (ktX P w K mg base f cdv A outer s Hs E) (En15 st D prs) (.Name "table" p) (tE (.list ((rws prs).map dRow))):=fun {p}=>ZdC (pv 1) fun B σ H q=>q.1.1.2.2 _ (.head _)
  have hA:∀ {p:Pos},AE (ktX P w K mg base f cdv A outer s Hs E) (En15 st D prs) (.Name "long" p) (tD BT):=fun {p}=>Za9 (pv 15) fun B σ H q=>q.2
  have szT:Sz 10000 3 (.list ((rws prs).map dRow)):=(ZbH (c:=400) (k:=1) (n:=6) (fun d hd=>by
    obtain ⟨x,hx,rfl⟩:=List.mem_map.mp hd
    exact (ZdQ hg hb x hx).1) (by simp only [List.length_map];omega)).mono (by decide) (by decide)
  have szU:Sz 10000 3 (.tuple ((rws prs).map dRow)):=(ZcV (c:=400) (k:=1) (n:=6) (fun d hd=>by
    obtain ⟨x,hx,rfl⟩:=List.mem_map.mp hd
    exact (ZdQ hg hb x hx).1) (by simp only [List.length_map];omega)).mono (by decide) (by decide)
  have hL:BT (.list [.list ((rws prs).map dRow)]):=by
    refine ⟨ZgW (d:=.list ((rws prs).map dRow)) (.head _) ?_,(ZbH (n:=1) (fun d hd=>by rw [List.mem_singleton.mp hd];exact szT) (Nat.le_refl _)).mono (by decide) (by decide)⟩
    have h0:0<(rws prs).length:=by simp only [List.length_map];exact hn.1
    rw [ZbJ]
    have:((rws prs).map dRow).all ZaG=false:=by
      rw [List.all_eq_false]
      exact ⟨dRow ((rws prs)[0]'h0),List.mem_map.mpr ⟨_,List.getElem_mem h0,rfl⟩,by simp [ZaG,dRow]⟩
    rw [this,Bool.and_false]
  have Z:PS (ktX P w K mg base f cdv A outer s Hs E) (ktS 15) (tAsg (tA (En15 st D prs) (tD (LP BT (9+11) (15+11)))) (ZaP 9)) :=
    Zaj (i:=9) nd rfl (Or.inl rfl) (ZbW (φ:=BT) ZbR (Za9 (pv 9) fun B σ H q=>q.1.2)
      (Zbb (Zai ZbR hA (Zai ZbR (Zay (.list []) ZbR (by kernel_rfl) ⟨Zgs (.inl rfl),(Zbr (c:=1000) (k:=4) (by decide +kernel)).mono (by decide) (by decide)⟩) (Zai ZbR (Zay (.list [.list []]) ZbR (by kernel_rfl) ⟨ZgW (d:=.list []) (.head _) rfl,(Zbr (c:=1000) (k:=4) (by decide +kernel)).mono (by decide) (by decide)⟩) (Zai ZbR (Zay .none ZbR (by kernel_rfl) (ZeW (fun _ e=>by cases e) (by decide +kernel))) (Zai ZbR (Zay (.int 0) ZbR (by kernel_rfl) (ZeW (fun _ e=>by cases e) (by decide +kernel))) (Zai ZbR (Zay (.str "") ZbR (by kernel_rfl) (ZeW (fun _ e=>by cases e) (by decide +kernel))) (Zai ZbR (Zay (.dict []) ZbR (by kernel_rfl) (ZeW (fun _ e=>by cases e) (by decide +kernel))) (Zai ZbR (Zay (.tuple []) ZbR (by kernel_rfl) (ZeW (fun _ e=>by cases e) (by decide +kernel))) (Zai ZbR (Zay (.bool true) ZbR (by kernel_rfl) (ZeW (fun _ e=>by cases e) (by decide +kernel)))
        (Zai ZbR (Za4 (ZeY hT htu) fun z e=>by rw [e];exact ⟨ZhM (fun _ e=>by cases e),szU.mono (by decide) (by decide)⟩) (Zai ZbR (Za4 (ZfA (ZdO ZbR hT Zcn) (by simp)) fun z e=>by rw [e];exact hL) ZbC))))))))))))).pe
  generalize ktS 15=S0 at Z ⊢
  refine ZcU (i:=9) Z fun σ H Q ⟨h,v9,v15⟩ q=>?_
  refine ⟨abS st D,⟨⟨⟨rfl,h.s0,fun x hx=>?_⟩,v9⟩,v15⟩,h.S,fun v H' b S a=>?_⟩
  · simp only [List.mem_cons,List.not_mem_nil,or_false] at hx
    rcases hx with rfl
    exact h.v1
  · obtain ⟨d,rd,z⟩:=a
    exact q _ _ ⟨(h.but b.but S).set (by decide),_,Za8 (by rw [h.len];decide),d,rd,Zb6 z (by decide) (by decide)⟩
set_option maxHeartbeats 16000000 in
theorem Zi1 (T:Blt mg) (htu:mg "tuple" = none) (Df:Zao K mg "_law_no_table" Zb8 ["store","table"]) (G:FnAt P w K mg base 1 "_law_take" ["store","many"] ZaW) (G2:FnAt P w K mg base 2 "_law_uneven" ["store","table"] ZcW):FnAt P w K mg base 3 "_law_no_table" ["store","table"] ZcW:=by
  refine FnAt.of Df sc_noTab (fun vs H Q E h=>?_) (fun f cdv A outer s H vs Q E hr h=>?_)
  · obtain ⟨st,t,prs,rfl,_⟩:=h
    rfl
  · obtain ⟨st,t,prs,rfl,hS0,hT,nt,np,hg,hb,q⟩:=h
    have hr1:Room 1 (ktX P w K mg base f cdv A outer s H E).A:=hr.mono (by decide)
    have hr2:Room 2 (ktX P w K mg base f cdv A outer s H E).A:=hr
    have T0:=@kr0 P w K mg base f cdv A outer s H H E st 0 t prs T G hr1 hg
    have T1:=@kr1 P w K mg base f cdv A outer s H H E st 0 t prs T G hr1 hg
    have T2:=@kr2 P w K mg base f cdv A outer s H H E st 0 t prs G hr1
    have T3:=@kr3 P w K mg base f cdv A outer s H H E st 0 t prs
    have T4:=@kr4 P w K mg base f cdv A outer s H H E st 0 t prs hg hb
    have T5:=@kr5 P w K mg base f cdv A outer s H H E st 0 t prs T htu hg hb
    have T6:=@kr6 P w K mg base f cdv A outer s H H E st 0 t prs T hg hb
    have T7:=@kr7 P w K mg base f cdv A outer s H H E st 0 t prs T G hr1 hg hb
    have T8:=@kr8 P w K mg base f cdv A outer s H H E st 0 t prs T G hr1 hg hb
    have T9:=@kr9 P w K mg base f cdv A outer s H H E st 0 t prs G hr1 hg hb
    have T10:=@kr10 P w K mg base f cdv A outer s H H E st 0 t prs
    have T11:=@kr11 P w K mg base f cdv A outer s H H E st 0 t prs T hg
    have T12:=@kr12 P w K mg base f cdv A outer s H H E st 0 t prs T G hr1 hg hb
    have T13:=@kr13 P w K mg base f cdv A outer s H H E st 0 t prs G2 hr2 hg hb
    have T14:=@kr14 P w K mg base f cdv A outer s H H E st 0 t prs T hg hb
    have T15:=@kr15 P w K mg base f cdv A outer s H H E st 0 t prs htu hg hb
    have T16:PS (ktX P w K mg base f cdv A outer s H E) (ktS 16) _:=Zan (Zav Zam (pv 9) (pe_f G hr1 (Zaa (pv 0) (Zaa (pe_b Zah T.len boot_len (Zaa (pv 9) Zab)) Zab))) (fun _ _=>rfl))
    have n0:NtC st 0 t prs H 16 (Zdb ktN [.ref st,.ref t]) H:=⟨rfl,rfl,rfl,But.refl _ _,hS0,hT,nt,np⟩
    have hbd:Zar Zb8=[ktS 0,ktS 1,ktS 2,ktS 3,ktS 4,ktS 5,ktS 6,ktS 7,ktS 8,ktS 9,ktS 10,ktS 11,ktS 12,ktS 13,ktS 14,ktS 15,ktS 16]:=by kernel_rfl
    rw [hbd]
    clear hbd
    generalize ktS 0=S0 at *
    generalize ktS 1=S1 at *
    generalize ktS 2=S2 at *
    generalize ktS 3=S3 at *
    generalize ktS 4=S4 at *
    generalize ktS 5=S5 at *
    generalize ktS 6=S6 at *
    generalize ktS 7=S7 at *
    generalize ktS 8=S8 at *
    generalize ktS 9=S9 at *
    generalize ktS 10=S10 at *
    generalize ktS 11=S11 at *
    generalize ktS 12=S12 at *
    generalize ktS 13=S13 at *
    generalize ktS 14=S14 at *
    generalize ktS 15=S15 at *
    generalize ktS 16=S16 at *
    refine ⟨_,ZbD T0 (ZbD T1 (ZbD T2 (ZbD T3 (ZbD T4 (ZbD T5 (ZbD T6 (ZbD T7 (ZbD T8 (ZbD T9 (ZbD T10 (ZbD T11 (ZbD T12 (ZbD T13 (ZbD T14 (ZbD T15 (Zmg (Zaf T16))))))))))))))))),n0,fun σ H1 n=>?_⟩
    obtain ⟨h,v,e9,d9,r9,ds,rfl,hd1,hd2,hds⟩:=n
    cases r9 with
    | @lst a9 xs _ ea na ra =>
      refine ⟨_,e9,_,h.s0,_,e9,a9,_,rfl,.inl (SqL.of ea),st,_,rfl,by rw [ra.length];omega,by rw [ra.length];omega,h.S,fun d H2 d0 d1 b2 S2=>?_⟩
      have ra2:=ZdF ra b2.butS
      have ea2:=b2.butS _ _ na ea
      obtain ⟨x,hx,hat⟩:=Zer (xs:=xs) d0 d1
      obtain ⟨dx,hdx,rx⟩:=Ze6 ra2 hx
      exact ⟨a9,xs,d,x,rfl,rfl,SqL.of ea2,hat,q x dx H2 (h.b.trans b2) S2 rx (hds dx hdx)⟩
end
def fstO (lo hi:Option Int) (n:Int):Int:=lo.getD (hi.getD n)
theorem ZmP (lo hi:Option Int) (n:Int):atI (([lo,hi].filter Option.isSome).map oV ++ [V.int n]) 0=some (.int (fstO lo hi n)):=by
  cases lo <;> cases hi <;> exact ZaB (j:=0) rfl
theorem ZjD {rows:List (List Int)}{i j:Nat} (n:Int) (h:Rok rows) (hi:i<rows.length) (hj:j<wR rows):Rok (setR rows i j (fstO (ZaR rows i j).max? (Zaz rows i j).min? n)):=by
  refine Zgq h hi hj ?_
  cases e1:(ZaR rows i j).max? with
  | none =>
    cases e2:(Zaz rows i j).min? with
    | none=>exact ⟨fun _ z=>(nomatch z),fun _ z=>nomatch z⟩
    | some b=>exact ⟨fun _ z=>(nomatch z),fun m z=>by cases z;exact Int.le_refl _⟩
  | some a =>
    cases e2:(Zaz rows i j).min? with
    | none=>exact ⟨fun m z=>by cases z;exact Int.le_refl _,fun _ z=>nomatch z⟩
    | some b=>exact ⟨fun m z=>by cases z;exact Int.le_refl _,fun m z=>by cases z;exact ZmT h hi hj e1 e2⟩
def tri9 (c:Addr × Addr × Nat × Nat × Int):Nat × Nat × Int:=(c.2.2.1,c.2.2.2.1,c.2.2.2.2)
def BndR (rows:List (List Int)):Prop:=∀ r∈rows,∀ n∈r,n.natAbs<10 ^ 38
theorem Zfy {prs:Prs} (h:Bnd prs):BndR (prs.map (·.2)):=fun r hr n hn=>by
  obtain ⟨p,hp,rfl⟩:=List.mem_map.mp hr
  exact h p hp n hn
theorem Zfc {prs:Prs} (h:BndR (prs.map (·.2))):Bnd prs:=fun p hp n hn=>h p.2 (List.mem_map.mpr ⟨p,hp,rfl⟩) n hn
theorem Zlj {rows:List (List Int)}{i j:Nat}{x:Int} (h:BndR rows) (hx:x.natAbs<10 ^ 38):BndR (setR rows i j x):=fun r hr n hn=>by
  unfold setR at hr
  rcases List.mem_or_eq_of_mem_set hr with z | z
  · exact h r z n hn
  · subst z
    rcases List.mem_or_eq_of_mem_set hn with y | y
    · by_cases hi:i<rows.length
      · rw [List.getD_eq_getElem?_getD,List.getElem?_eq_getElem hi] at y
        exact h _ (List.getElem_mem hi) n y
      · rw [List.getD_eq_getElem?_getD,List.getElem?_eq_none (by omega)] at y
        cases y
    · rw [y];exact hx
def Zln:List (List Int)→List (Nat × Nat × Int)→List (List Int)→Prop
  | rows,[],r0=>rows=r0
  | rows,e :: r,r0=>Zbj (setR rows e.1 e.2.1 e.2.2)=true∧BndR (setR rows e.1 e.2.1 e.2.2)∧Zln (setR rows e.1 e.2.1 e.2.2) r r0
structure KQ (S:List Addr) (H:Hp) (C st a dx l t:Addr) (prs:Prs) (chs:Ch) (r0:List (List Int)):Prop where
  k:Keep H C a dx t l prs chs
  sto:StK H st
  un:Zln (prs.map (·.2)) (chs.map tri9).reverse r0
  hs:st∈S
  live:∀ b∈S,H b≠none
  na:a∉S
  nl:l∉S
  nt:t∉S
  np:∀ p∈prs,p.1∉S
  nc:∀ c∈chs,c.1∉S∧c.2.1∉S
  bd:Bnd prs
section
variable {S:List Addr}{H:Hp}{C st a dx l t:Addr}{prs:Prs}{chs:Ch}{r0:List (List Int)}
theorem KQ.keep (h:KQ S H C st a dx l t prs chs r0) {H':Hp} (b:ButS S H H'):Keep H' C a dx t l prs chs :=
  ⟨b _ _ h.na h.k.ob,⟨b _ _ h.nt h.k.T.l,fun p hp=>b _ _ (h.np p hp) (h.k.T.r p hp)⟩,h.k.ok,b _ _ h.nl h.k.L,fun c hc=>let ⟨z1,z2,z3⟩:=h.k.ch c hc;⟨b _ _ (h.nc c hc).1 z1,b _ _ (h.nc c hc).2 z2,z3⟩⟩
theorem KQ.but (h:KQ S H C st a dx l t prs chs r0) {H':Hp} (b:ButS S H H') (s:StK H' st) (lv:∀ b∈S,H' b≠none):KQ S H' C st a dx l t prs chs r0:=⟨h.keep b,s,h.un,h.hs,lv,h.na,h.nl,h.nt,h.np,h.nc,h.bd⟩
theorem Zg3 (s:StK H st):∀ b∈[st],H b≠none:=fun b hb=>by
  rw [List.mem_singleton.mp hb]
  obtain ⟨_,_,_,e⟩:=s
  rw [e]
  exact fun z=>nomatch z
theorem KQ.sts (h:KQ [st] H C st a dx l t prs chs r0) {H':Hp} (b:But st H H') (s:StK H' st):KQ [st] H' C st a dx l t prs chs r0:=h.but b.butS s (Zg3 s)
theorem KQ.same (h:KQ S H C st a dx l t prs chs r0) {H':Hp} (s:Same H H'):KQ S H' C st a dx l t prs chs r0:=h.but (Same.butS s) (h.sto.same s) fun b hb z=>h.live b hb (s.free z)
theorem KQ.off (h:KQ S H C st a dx l t prs chs r0) {y:Addr} (hy:H y=none):y∉S:=fun z=>h.live y z hy
theorem KQ.mv (h:KQ S H C st a dx l t prs chs r0) {H':Hp} (fr:∀ b o,b≠a→b≠l→H b=some o→H' b=some o):StK H' st∧∀ b∈S,H' b≠none:=by
  obtain ⟨g1,g2,g3,e⟩:=h.sto
  refine ⟨⟨g1,g2,g3,fr _ _ (fun z=>h.na (by rw [← z];exact h.hs)) (fun z=>h.nl (by rw [← z];exact h.hs)) e⟩,fun b hb=>?_⟩
  cases eb:H b with
  | none=>exact absurd eb (h.live b hb)
  | some o =>
    rw [fr b o (fun z=>h.na (by rw [← z];exact hb)) (fun z=>h.nl (by rw [← z];exact hb)) eb]
    exact fun z=>nomatch z
theorem KQ.push (h:KQ S H C st a dx l t prs chs r0) {c:Addr}{i j:Nat}{x:Int} (hcS:c∉S) (hi:i<prs.length) (hx:x.natAbs<10 ^ 38) {t' u:Addr}{prs':Prs}{H':Hp}{chs':Ch} (ht':H t'=none) (hq:∀ p∈prs',H p.1=none) (hu:H u=none)
    (fr:∀ b o,b≠a→b≠l→H b=some o→H' b=some o) (hrows:prs'.map (·.2)=setR (prs.map (·.2)) i j x) (he:chs'=chs ++ [(u,c,i,j,ZaD (prs.map (·.2)) i j)]) (hk:Keep H' C a dx t' l prs' chs'):KQ S H' C st a dx l t' prs' chs' r0:=by
  subst he
  refine ⟨hk,(h.mv fr).1,?_,h.hs,(h.mv fr).2,h.na,h.nl,h.off ht',fun p hp=>h.off (hq p hp),fun y hy=>?_,Zfc (by rw [hrows];exact Zlj (Zfy h.bd) hx)⟩
  · rw [List.map_append,List.reverse_append,hrows]
    have e:setR (setR (prs.map (·.2)) i j x) i j (ZaD (prs.map (·.2)) i j)=prs.map (·.2):=ZdZ j x (by rw [List.length_map];exact hi)
    refine ⟨?_,?_,?_⟩
    · show Zbj (setR (setR (prs.map (·.2)) i j x) i j (ZaD (prs.map (·.2)) i j))=true
      rw [e]
      exact Zhm h.k.rok
    · show BndR (setR (setR (prs.map (·.2)) i j x) i j (ZaD (prs.map (·.2)) i j))
      rw [e]
      exact Zfy h.bd
    · show Zln (setR (setR (prs.map (·.2)) i j x) i j (ZaD (prs.map (·.2)) i j)) _ r0
      rw [e]
      exact h.un
  · rcases List.mem_append.mp hy with z | z
    · exact h.nc y z
    · rw [List.mem_singleton.mp z]
      exact ⟨h.off hu,hcS⟩
theorem KQ.top {cs:Ch}{e:Addr × Addr × Nat × Nat × Int} (h:KQ S H C st a dx l t prs (cs ++ [e]) r0):Zbj (setR (prs.map (·.2)) e.2.2.1 e.2.2.2.1 e.2.2.2.2)=true∧BndR (setR (prs.map (·.2)) e.2.2.1 e.2.2.2.1 e.2.2.2.2)∧Zln (setR (prs.map (·.2)) e.2.2.1 e.2.2.2.1 e.2.2.2.2) (cs.map tri9).reverse r0:=by
  have:=h.un
  rw [List.map_append,List.reverse_append] at this
  exact this
theorem KQ.pop {cs:Ch}{e:Addr × Addr × Nat × Nat × Int} (h:KQ S H C st a dx l t prs (cs ++ [e]) r0) {t':Addr}{prs':Prs}{H':Hp} (ht':H t'=none) (hq:∀ p∈prs',H p.1=none) (fr:∀ b o,b≠a→b≠l→H b=some o→H' b=some o)
    (hrows:prs'.map (·.2)=setR (prs.map (·.2)) e.2.2.1 e.2.2.2.1 e.2.2.2.2) (hk:Keep H' C a dx t' l prs' cs):KQ S H' C st a dx l t' prs' cs r0:=by
  obtain ⟨z1,z2,z3⟩:=h.top
  exact ⟨hk,(h.mv fr).1,by rw [hrows];exact z3,h.hs,(h.mv fr).2,h.na,h.nl,h.off ht',fun p hp=>h.off (hq p hp),fun y hy=>h.nc y (List.mem_append_left _ hy),Zfc (by rw [hrows];exact z2)⟩
theorem KQ.add (h:KQ S H C st a dx l t prs chs r0) {D:Addr} (hD:H D=none) {o:HO}:KQ (D :: S) (upd H D o) C st a dx l t prs chs r0:=by
  have ne:∀ {y:Addr}{o:HO},H y=some o→y≠D:=fun e z=>by rw [z,hD] at e;cases e
  have o':∀ {y:Addr}{o:HO},y∉S→H y=some o→y∉D :: S:=fun n e z=>by
    rcases List.mem_cons.mp z with z | z
    · exact ne e z
    · exact n z
  have s:=Same.new (o:=o) hD
  refine ⟨h.k.same s,h.sto.same s,h.un,.tail _ h.hs,fun b hb=>?_,o' h.na h.k.ob,o' h.nl h.k.L,o' h.nt h.k.T.l,fun p hp=>o' (h.np p hp) (h.k.T.r p hp),fun c hc=>⟨o' (h.nc c hc).1 (h.k.ch c hc).1,o' (h.nc c hc).2 (h.k.ch c hc).2.1⟩,h.bd⟩
  rcases List.mem_cons.mp hb with rfl | hb
  · rw [Zad];exact fun z=>nomatch z
  · exact fun z=>h.live b hb (s.free z)
theorem KQ.less {D:Addr} (h:KQ (D :: S) H C st a dx l t prs chs r0) (hs:st∈S):KQ S H C st a dx l t prs chs r0 :=
  ⟨h.k,h.sto,h.un,hs,fun b hb=>h.live b (.tail _ hb),fun z=>h.na (.tail _ z),fun z=>h.nl (.tail _ z),fun z=>h.nt (.tail _ z),fun p hp z=>h.np p hp (.tail _ z),fun c hc=>⟨fun z=>(h.nc c hc).1 (.tail _ z),fun z=>(h.nc c hc).2 (.tail _ z)⟩,h.bd⟩
end
theorem Zk6 {lo hi:Option Int} (h1:∀ m,lo=some m→m.natAbs<10 ^ 38) (h2:∀ m,hi=some m→m.natAbs<10 ^ 38):(fstO lo hi 5).natAbs<10 ^ 38:=by
  cases lo with
  | some m=>exact h1 m rfl
  | none =>
    cases hi with
    | some m=>exact h2 m rfl
    | none=>exact (by decide:(5:Int).natAbs<10 ^ 38)
theorem ZmJ {α:Type}{l:List α} (h:l≠[]):∃ l' x,l=l' ++ [x]:=⟨l.dropLast,l.getLast h,(List.dropLast_concat_getLast h).symm⟩
abbrev sE:Str := ""
abbrev sC:Str := "change"
def Zbq (s i:Nat):List Str:=List.replicate (min i s) sE ++ List.replicate (i - s) sC
theorem Zij {s i:Nat} (h:i<s):Zbq s (i+1)=Zbq s i ++ [sE]:=by
  unfold Zbq
  rw [show i - s=0 by omega,show i+1 - s=0 by omega,show min (i+1) s=min i s+1 by omega,List.replicate_succ',List.replicate_zero,List.append_nil,List.append_nil]
theorem Zii {s i:Nat} (h:s≤i):Zbq s (i+1)=Zbq s i ++ [sC]:=by
  unfold Zbq
  rw [show min (i+1) s=s by omega,show min i s=s by omega,show i+1 - s=(i - s)+1 by omega,List.replicate_succ',List.append_assoc]
theorem Zgu (s i:Nat):(Zbq s i).length=i:=by
  unfold Zbq
  rw [List.length_append,List.length_replicate,List.length_replicate]
  omega
theorem Zgv (s:Nat):Zbq s (s+2)=List.replicate s sE ++ [sC,sC]:=by
  unfold Zbq
  rw [show min (s+2) s=s by omega,show s+2 - s=2 by omega]
  rfl
theorem ZgD {K:PySem.W.Frag}{H:Hp}:∀ ws:List Str,RdAll K H (ws.map V.str) (ws.map PyData.str)
  | []=>.nil
  | w :: r=>.cons (.str w) (ZgD r)
theorem Zec (s:Nat):(PyData.list ((List.replicate s sE ++ [sC,sC]:List Str).map .str)).canLay0=true∧(PyData.list ((List.replicate s sE ++ [sC,sC]:List Str).map .str)).depth≤64:=by
  have h:∀ ws:List Str,(∀ w∈ws,w=sE∨w=sC)→PyData.canLayAll0 (ws.map .str)=true∧PyData.depthAll (ws.map .str)=0:=fun ws=>by
    induction ws with
    | nil=>exact fun _=>⟨rfl,rfl⟩
    | cons w r ih =>
      intro hw
      obtain ⟨i1,i2⟩:=ih fun x hx=>hw x (.tail _ hx)
      have c:(PyData.str w).canLay0=true:=by
        rcases hw w (.head _) with rfl | rfl <;> decide +kernel
      refine ⟨?_,?_⟩
      · show ((PyData.str w).canLay0 && PyData.canLayAll0 (r.map .str))=true
        rw [c,i1]
        rfl
      · show max 0 (PyData.depthAll (r.map .str))=0
        rw [i2]
        rfl
  obtain ⟨h1,h2⟩:=h (List.replicate s sE ++ [sC,sC]) fun w hw=>by
    rcases List.mem_append.mp hw with z | z
    · exact .inl (List.eq_of_mem_replicate z)
    · simp only [List.mem_cons,List.not_mem_nil,or_false,or_self] at z
      exact .inr z
  refine ⟨by simp only [PyData.canLay0];exact h1,?_⟩
  simp only [PyData.depth,h2]
  decide
theorem Zeh:∀ n:Nat,(List.replicate n [V.str ""]).flatten=(List.replicate n sE).map V.str
  | 0=>rfl
  | n+1=>by
    rw [List.replicate_succ,List.replicate_succ,List.flatten_cons,Zeh n]
    rfl
theorem ZjW {n:Nat}{σ0:L2.St}{H1:Hp}{te:TE}{Q:VK} (Pv:Addr→Nat→List V→Hp→Prop) (h0:∀ D,H1 D=none→Pv D 0 [] (upd H1 D (.lst []))) (hl:∀ D i ys H',Pv D i ys H'→H' D=some (.lst ys))
    (step:∀ D i ys H',H1 D=none→i<n→Pv D i ys H'→te (σ0.set 0 (some (.int (0+(i:Nat))))) H' fun y H5=>H5 D=some (.lst ys)∧ys.length<sizeLine∧Pv D (i+1) (ys ++ [y]) (upd H5 D (.lst (ys ++ [y]))))
    (fin:∀ D ys H',H1 D=none→Pv D n ys H'→Q (.ref D) H'):Zbw (Itr 0 n) (ZaP 0) ZcJ te σ0 H1 Q:=fun D hD=>ZcP (n:=n) (Pv D) (h0 D hD) (fun i ys H' _ p=>hl D i ys H' p) (fun i ys H' hi _=>hi) (fun ys H' _=>Nat.le_refl _) (fun i ys H' x H2 hi p y=>by
    obtain ⟨rfl,rfl⟩:=y
    unfold ZcJ
    exact iteT (step D i ys _ hD hi p)) (fun ys H' p=>fin D ys H' hD p)
section
variable {P:Program}{w:World}{K:PySem.W.Frag}{mg:Str→Option Value}{base:Heap}{C:Addr}
def Zks (K:PySem.W.Frag):Sp:=fun vs H Q _=>∃ (a:Addr) (ns:List Int),vs=[.ref a]∧SqL K H a (ns.map V.int)∧ns.length≤63∧∀ H',Q (.bl true) H'
abbrev ZmI:List Str:=["script","at","store","table","bad","kept","keeper","stand","turn","cell","ends","now","early"]
theorem sc_law9:FnScope ZmI ["script"] (Zag dLaw):=⟨rfl,rfl,rfl,by decide +kernel,rfl,by decide +kernel,by decide +kernel⟩
set_option maxHeartbeats 32000000 in
theorem Znw (T:Blt mg) (hmin:mg "min" = none) (hre:mg "repr" = none) (zK:KpM K mg C) {f:Addr}{fd:FuncData} (F:Fun K "law" "law" dLaw f fd) (G1:FnAt P w K mg base 1 "_law_cell" ["script","k"] (Zix K)) (G2:FnAt P w K mg base 1 "_law_store" ["cell"] Ziu) (G0:FnAt P w K mg base 1 "_law_take" ["store","many"] ZaW) (G3:FnAt P w K mg base 3 "_law_table" ["store"] Zg5)
    (G7:FnAt P w K mg base 3 "_law_no_table" ["store","table"] ZcW) (G5:FnAt P w K mg base 9 "_law_no_keeper" ["bad"] Zlr) (G4:FnAt P w K mg base 1 "_law_copy" ["table"] Zdc) (G8:FnAt P w K mg base 9 "_law_word" ["keeper","door","one","other"] (Zgw C)) (G9:FnAt P w K mg base 10 "_law_all_refused" ["store","keeper","table"] (Zhh C)) (G10:FnAt P w K mg base 11 "_law_stand" ["keeper","table"] (Zg6 C))
    (M0:MtAt P w K mg base 7 C "__init__" ["self","table"] (ZiB C)) (M1:MtAt P w K mg base 2 C "table" ["self"] (Ze3 C)) (M2:MtAt P w K mg base 10 C "span" ["self","cell"] (Zgy C)) (M5:MtAt P w K mg base 8 C "change" ["self","cell","x"] (ZdU C)) (M7:MtAt P w K mg base 8 C "undo" ["self"] (Zgx C)):FnOk P w K mg base CX0 12 f fd ["script"] (Zks K):=by
  refine F.ok sc_law9 (fun vs H Q E h=>?_) (fun cdv A outer s H vs Q E hr h=>?_)
  · obtain ⟨a,ns,rfl,_⟩:=h
    rfl
  · obtain ⟨a0,ns,rfl,hS,hlen,q⟩:=h
    have nd:=sc_law9.nd
    have nd1:(["end"]:List Str).Nodup:=by decide +kernel
    have nd2:(["turn","keeper"]:List Str).Nodup:=by decide +kernel
    have kc:=zK.c
    have hr1:Room 1 _:=hr.mono (show 1≤11 by decide)
    have hr2:Room 2 _:=hr.mono (show 2≤11 by decide)
    have hr3:Room 3 _:=hr.mono (show 3≤11 by decide)
    have hr8:Room 8 _:=hr.mono (show 8≤11 by decide)
    have hr9:Room 9 _:=hr.mono (show 9≤11 by decide)
    have hr10:Room 10 _:=hr.mono (show 10≤11 by decide)
    refine ⟨_,Zac (Zci PassesOwn.never rfl (Zbk rfl T.rng (Zaa (pe_b (Zj1 rfl) hmin boot_min (Zaa (pe_b (Zj4 rfl) T.max boot_max (Zaa (pe_b Zah T.len boot_len (Zaa (pv 0) Zab)) (Zaa Zae Zab))) (Zaa Zae Zab))) Zab)) (ZaM (i:=1) nd rfl (Or.inl rfl))
        (Zac (Zaj (i:=2) nd rfl (Or.inl rfl) (pe_f G2 hr1 (Zaa (pe_f G1 hr1 (Zaa (pv 0) (Zaa (pv 1) Zab))) Zab)))
        (Zac (Zaj (i:=3) nd rfl (Or.inl rfl) (pe_f G3 hr3 (Zaa (pv 2) Zab)))
        (Zac (Zaj (i:=4) nd rfl (Or.inl rfl) (pe_f G7 hr3 (Zaa (pv 2) (Zaa (pv 3) Zab))))
        (Zac (Zaj (i:=5) nd rfl (Or.inl rfl) (pe_b (ZcD hr.gd hr.units) hre Zc9 (Zaa (pv 4) Zab)))
        (Zac (ZaO (PW.pt (ZcF (Za0 (Za3 (pe_f G5 hr9 (Zaa (pv 4) Zab)))) (Zb1 (Zat Zf1 (pe_b (ZcD hr.gd hr.units) hre Zc9 (Zaa (pv 4) Zab)) (pv 5) (Zax _))))) (Zaf (Zan Zce)) Zaq)
        (Zac (Zaj (i:=6) nd rfl (Or.inr rfl) (Zno M0 zK.mks zK.kp hr8 rfl zK.gl (Zaa (pe_f G4 hr1 (Zaa (pv 3) Zab)) Zab)))
        (Zac (Zaj (i:=7) nd rfl (Or.inl rfl) Zae)
        (Zac (Zci PassesOwn.never rfl (Zbk rfl T.rng (Zaa (pe_f G0 hr1 (Zaa (pv 2) (Zaa Zae Zab))) Zab)) (ZaM (i:=8) nd rfl (Or.inl rfl))
          (Zac (Zaj (i:=9) nd rfl (Or.inl rfl) (Zbn (Zaa (pe_f G0 hr1 (Zaa (pv 2) (Zaa (pe_b Zah T.len boot_len (Zaa (pv 3) Zab)) Zab)))
            (Zaa (pe_f G0 hr1 (Zaa (pv 2) (Zaa (pe_b Zah T.len boot_len (Zaa (Zav Zam (pv 3) Zae (fun _ _=>rfl)) Zab)) Zab))) Zab))))
          (Zac (Zd6 (i:=10) ["end"] [none] (Zag dLaw) ZmI nd rfl (Or.inl rfl) rfl (Zhp (pe_m M2 kc.cls hr10 (pv 6) (Zaa (pv 9) Zab))) (by decide +kernel)
            (fun cl C s2 H2 ex=>pg_c 0 nd1) (fun cl C s2 H2 ex=>Zc3 (Zat Ze9 (pv 0) Zcd (Zax _))) (fun cl C s2 H2 ex=>pv 0))
          (Zac (Zau (pe_m M5 kc.cls hr8 (pv 6) (Zaa (pv 9) (Zaa (Zav Zam (Zas ZbK (pv 10) (ZaF (Zaa Zae Zab))) Zae (fun _ _=>rfl)) Zab))))
          (Zac (Zaj (i:=7) nd rfl (Or.inl rfl) (Zas Zbt (pv 7) Zae))
          (Zaf (ZaO (Zat Zdj (pv 8) Zae (Zax _)) (Zac (Zau (ZiU M7 kc.cls hr8 (pv 6))) (Zaf (Zaj (i:=7) nd rfl (Or.inl rfl) (Zas Zc4 (pv 7) Zae)))) Zaq)))))))
        (Zac (Zaj (i:=11) nd rfl (Or.inl rfl) (ZiU M1 kc.cls hr2 (pv 6)))
        (Zac (Zaj (i:=12) nd rfl (Or.inl rfl) (pe_f G10 hr (Zaa (pv 6) (Zaa (pv 11) Zab))))
        (Zac (ZaO (PW.pt (ZcF (Za0 (Za3 (pe_f G9 hr10 (Zaa (pv 2) (Zaa (pv 6) (Zaa (pv 11) Zab)))))) (Zb1 (Zat (Zf0 hr.units) (pe_f G10 hr (Zaa (pv 6) (Zaa (pv 11) Zab))) (pv 12) (Zax _))))) (Zaf (Zan Zce)) Zaq)
        (Zac (ZaO (Zat (Zf0 hr.units) (ZaX ["turn","keeper"] [none,some 6] (Zag dLaw) ZmI rfl (Zbk rfl T.rng (Zaa (Zas Zbt (pv 7) Zae) Zab)) (by decide +kernel)
            (fun cl C s2 H2 ex=>pg_c 0 nd2) (fun cl C s2 H2 ex=>ZaK) (fun cl C s2 H2 ex=>pe_f G8 hr9 (Zaa (pv 1) (Zaa Zae (Zaa Zae (Zaa Zae Zab))))))
            (Zas ZbK (Zas ZfZ (ZaF (Zaa Zbh Zab)) (pv 7)) (ZaF (Zaa Zbh (Zaa Zbh Zab)))) (Zax _)) (Zaf (Zan Zce)) Zaq)
        (Zac (ZaO (Zat (Zf0 hr.units) (ZiU M1 kc.cls hr2 (pv 6)) (pv 3) (Zax _)) (Zaf (Zan Zce)) Zaq)
        (Zac (ZaO (PW.pt (ZcF (Zat Zf1 (pe_f G8 hr9 (Zaa (pv 6) (Zaa Zae (Zaa (Zbn (Zaa Zae (Zaa Zae Zab))) (Zaa (Zas Zc4 (Zav Zam (Zav Zam (pv 3) Zae (fun _ _=>rfl)) Zae (fun _ _=>rfl)) Zae) Zab))))) Zbh (Zax _))
            (Zb1 (Zat Zf1 (pe_f G8 hr9 (Zaa (pv 6) (Zaa Zae (Zaa Zae (Zaa Zae Zab))))) Zbh (Zax _))))) (Zaf (Zan Zce)) Zaq)
        (Zaf (ZaO (Zat (Zf0 hr.units) (ZiU M1 kc.cls hr2 (pv 6)) (pv 3) (Zax _)) (Zaf (Zan Zce)) Zaq)))))))))))))))))
      (Zaf (Zan Zce)),?_⟩
    refine ⟨_,rfl,a0,_,rfl,.inl hS,_,_,rfl,_,_,rfl,?_⟩
    rw [List.length_map]
    have hb:∀ y:Int,y=(if (8:Int)<(if (3:Int) > (ns.length:Int) then 3 else (ns.length:Int)) then 8 else (if (3:Int) > (ns.length:Int) then 3 else (ns.length:Int)))→0≤y∧y≤8:=fun y hy=>by
      subst hy
      split
      · omega
      · split at * <;> omega
    have hb:=hb _ rfl
    generalize (if (8:Int)<(if (3:Int) > (ns.length:Int) then 3 else (ns.length:Int)) then 8 else (if (3:Int) > (ns.length:Int) then 3 else (ns.length:Int)))=many at hb ⊢
    refine ⟨many,rfl,by omega,by omega,ZbA (fun i σ H2=>∃ o1 o2 o3 o4 o5 o6 o7 o8 o9 o10 o11 o12:Option V,σ = [some (.ref a0),o1,o2,o3,o4,o5,o6,o7,o8,o9,o10,o11,o12]∧Same H H2) ⟨none,none,none,none,none,none,none,none,none,none,none,none,rfl,Same.refl _⟩ ?_ (fun σ H2 _=>q _)⟩
    rintro i σ H2 hi ⟨o1,o2,o3,o4,o5,o6,o7,o8,o9,o10,o11,o12,rfl,sm⟩
    refine ⟨_,rfl,_,rfl,a0,ns,i,by rw [Int.zero_add],sm.seq hS,by omega,fun c=>⟨c,rfl,fun st H3 hst s3 S3=>?_⟩⟩
    have hst0:H st=none:=sm.free hst
    have sm3:=sm.trans s3
    refine ⟨_,rfl,st,rfl,S3,fun tb prs H4 ht hfr hnd B4 S4 hT4 hg hbn=>?_⟩
    have sm4:=Same.but' sm3 hst0 B4
    have nt:tb≠st:=(S3.ne ht).symm
    have np:∀ p∈prs,p.1≠st:=fun p hp=>(S3.ne (hfr p hp)).symm
    obtain ⟨g,g1,g2,g3,g4⟩:=ZaI hg
    obtain ⟨p0,hp0,hm0,hx0⟩:=Zbe (prs:=prs) g1
    refine ⟨_,rfl,_,rfl,st,tb,prs,rfl,S4,hT4,nt,np,hg,hbn,fun xb db H5 b5 S5 rb5 bt=>?_⟩
    have hT5:=hT4.but nt np b5
    have sm5:=Same.but' sm4 hst0 b5
    have rb:RdS [] H5 xb db:=rb5.any
    have sz:Sz 1000000 60 db:=bt.2.mono (by decide) (by decide)
    refine ⟨_,rfl,xb,db,rfl,rb,sz.sh,Zkt sz.le,sz.dp,?_⟩
    refine ⟨_,rfl,xb,db,rfl,rb,bt.1,fun H6 s6=>⟨_,rfl,iteF ⟨_,rfl,xb,db,rfl,rb.same s6,sz.sh,Zkt sz.le,sz.dp,_,rfl,rfl,_,rfl,?_⟩⟩⟩
    rw [Zd9]
    refine iteF ?_
    have hT6:=hT5.same s6
    have sm6:=sm5.trans s6
    have S6:=S5.same s6
    refine ⟨_,rfl,tb,prs,rfl,hT6,ZaN hg,fun tc qc H7 htc hqc hndc s7 hTc hrc=>?_⟩
    intro a dx ha hdx nda
    refine ZkY ha hdx nda hTc (by rw [Zcg hrc];exact hg) fun t1 l qs1 H8 s8 ht1 hl hal hat hp1 hnd1 hr1' hk1=>⟨rfl,?_⟩
    have hT7:=hT6.same s7
    have hT8:=hT7.same s8
    have S7:=S6.same s7
    have sm8:=(sm6.trans s7).trans s8
    have hrows1:qs1.map (·.2)=prs.map (·.2):=hr1'.trans hrc
    have off:∀ {y:Addr},H7 y=none→y∉[st]:=fun hy z=>S7.ne hy (List.mem_singleton.mp z).symm
    have hK8:KQ [st] H8 C st a dx l t1 qs1 [] (prs.map (·.2)):=⟨hk1,S7.same s8,hrows1,.head _,Zg3 (S7.same s8),off ha,off hl,off ht1,fun p hp=>off (hp1 p hp),(fun c hc=>nomatch hc),Zfc (by rw [hrows1];exact Zfy hbn)⟩
    have nF:∀ {y:Addr}{o:HO},y≠st→H7 y=some o→y∉[a,l,st]:=fun {y o} ny e z=>by
      simp only [List.mem_cons,List.not_mem_nil,or_false] at z
      rcases z with z | z | z
      · rw [z,ha] at e;cases e
      · rw [z,hl] at e;cases e
      · exact ny z
    have tF:∀ {H':Hp},ButS [a,l,st] H8 H'→Tab H' tb prs:=fun b=>⟨b _ _ (nF nt hT7.l) hT8.l,fun p hp=>b _ _ (nF (np p hp) (hT7.r p hp)) (hT8.r p hp)⟩
    have sm7:=sm6.trans s7
    have smF:∀ {H':Hp},ButS [a,l,st] H8 H'→Same H H':=fun b y o e=>b y o (nF (fun z=>by rw [z,hst0] at e;cases e) (sm7 _ _ e)) (sm8 _ _ e)
    have hl1:qs1.length=prs.length:=by
      have:=congrArg List.length hrows1
      simpa using this
    have hw1:w0 qs1=w0 prs:=by rw [← ZcS,← ZcS,hrows1]
    have bst:∀ {H' H'':Hp},But st H' H''→ButS [a,l,st] H' H'':=fun b y o n e=>b y o (fun z=>n (by rw [z];simp)) e
    have bal:∀ {H' H'':Hp},(∀ b o,b≠a→b≠l→H' b=some o→H'' b=some o)→ButS [a,l,st] H' H'':=fun fr y o n e=>fr y o (fun z=>n (by rw [z];simp)) (fun z=>n (by rw [z];simp)) e
    clear hT4 hT5 hT6 sm3 sm4 sm5 sm6 sm8 S3 S4 S5 S6 rb5 rb B4 b5 s3 s6 hTc hk1 hqc htc hnd hfr
    refine ⟨_,rfl,st,5,rfl,by decide,by decide,hK8.sto,fun d H9 d0 d1 b9 S9=>?_⟩
    obtain ⟨m,rfl⟩:∃ m:Nat,d=(m:Int):=⟨d.toNat,by omega⟩
    refine ⟨(m:Int),rfl,by omega,by omega,ZbA (fun k σ Hk=>∃ (o8 o9 o10 o11 o12:Option V) (t2:Addr) (ps:Prs) (ch:Ch),σ = [some (.ref a0),some (.int (0+(i:Nat))),some (.ref st),some (.ref tb),some xb,some (.str db.shown),some (.ref a),some (.int (ch.length:Nat)),o8,o9,o10,o11,o12]∧KQ [st] Hk C st a dx l t2 ps ch (prs.map (·.2))∧ButS [a,l,st] H8 Hk∧ch.length≤k∧ps.length=prs.length∧w0 ps=w0 prs)
      ⟨_,_,_,_,_,t1,qs1,[],rfl,hK8.sts b9 S9,bst b9,Nat.zero_le _,hl1,hw1⟩ ?_ ?_⟩
    · clear hK8 b9 S9
      rintro k σ Hk hk ⟨o8,o9,o10,o11,o12,t2,ps,ch,rfl,hKk,bk,hch,hl2,hw2⟩
      have hTk:=tF bk
      refine ⟨_,rfl,_,rfl,tb,_,rfl,.inl hTk.sq,st,_,rfl,?_,?_,hKk.sto,fun d1 H10 d10 d11 b10 st10=>?_⟩
      · rw [List.length_map];omega
      · rw [List.length_map];omega
      rw [List.length_map] at d11
      have hT10:=hTk.but nt np b10
      refine ⟨_,rfl,_,rfl,tb,_,0,.ref p0.1,rfl,rfl,hT10.sq,ZaB (j:=0) (by rw [List.getElem?_map,hx0];rfl),p0.1,_,rfl,.inl (hT10.r p0 hm0).sq,st,_,rfl,?_,?_,st10,fun d2 H11 d20 d21 b11 st11=>?_⟩
      · rw [List.length_map,g.len p0 hm0];omega
      · rw [List.length_map,g.len p0 hm0];omega
      rw [List.length_map,g.len p0 hm0] at d21
      refine ⟨len2,fun c hc=>?_⟩
      obtain ⟨ci,rfl⟩:∃ i:Nat,d1=(i:Int):=⟨d1.toNat,(Int.toNat_of_nonneg d10).symm⟩
      obtain ⟨cj,rfl⟩:∃ j:Nat,d2=(j:Int):=⟨d2.toNat,(Int.toNat_of_nonneg d20).symm⟩
      have hci:ci<ps.length:=by omega
      have hcj:cj<w0 ps:=by omega
      have hK11:=hKk.sts (b10.trans b11) st11
      have hcS:c∉[st]:=hK11.off hc
      have s12:=Same.new (o:=.tup [.int (ci:Nat),.int (cj:Nat)]) hc
      have hc12:Cell (upd H11 c (.tup [.int (ci:Nat),.int (cj:Nat)])) c ci cj:=Zad
      generalize upd H11 c (.tup [.int (ci:Nat),.int (cj:Nat)])=H12 at s12 hc12 ⊢
      have hK12:=hK11.same s12
      have b12:ButS [a,l,st] H8 H12:=bk.trans ((bst (b10.trans b11)).trans (Same.butS s12))
      clear hKk hK11 hTk hT10 b10 b11 st10 st11 bk
      refine ⟨_,rfl,a,dx,_,rfl,hK12.k.ob,rfl,_,rfl,a,dx,t2,l,c,ps,ch,ci,cj,rfl,hK12.k,hc12,hci,hcj,fun r H13 hr13 s13 er=>?_⟩
      have fits:=ZjD 5 hK12.k.rok (i:=ci) (j:=cj) (by rw [List.length_map];exact hci) (by rw [ZcS];exact hcj)
      have bd':∀ p∈ps,∀ n∈p.2,n.natAbs≤10 ^ 38 - 1:=fun p hp n hn=>by have:=hK12.bd p hp n hn;omega
      have lob:∀ x,(ZaR (ps.map (·.2)) ci cj).max? = some x→x.natAbs<10 ^ 38:=fun x hx=>by have:=Zgt hK12.k.ok bd' hci hcj hx;omega
      have hib:∀ x,(Zaz (ps.map (·.2)) ci cj).min? = some x→x.natAbs<10 ^ 38:=fun x hx=>by have:=ZeX hK12.k.ok bd' hci hcj hx;omega
      have hxb:=Zk6 lob hib
      clear lob hib bd'
      generalize (ZaR (ps.map (·.2)) ci cj).max? = lo at fits hxb er ⊢
      generalize (Zaz (ps.map (·.2)) ci cj).min? = hi' at fits hxb er ⊢
      refine ⟨r,rfl,⟨_,SqT.of er⟩,Zlg oV Option.isSome oV (ms:=[lo,hi']) (SqT.of er) len2 (fun y _ H' Q' sm q'=>⟨_,rfl,rfl,_,rfl,?_⟩) (fun y _ _ H' Q' sm q'=>⟨_,rfl,q' _ (Same.refl _)⟩) fun D1 H14 hD1 s14 hDl=>?_⟩
      · have:(!decide (oV y=V.non))=y.isSome:=by cases y <;> rfl
        rw [this]
        exact q' _ (Same.refl _)
      have hK14:=hK12.same (s13.trans s14)
      refine ⟨_,rfl,a,dx,_,rfl,hK14.k.ob,rfl,_,rfl,_,rfl,len1,fun L hL=>⟨D1,L,_,_,rfl,rfl,(Same.new hL) _ _ hDl,Zad,?_,fun M hM=>⟨M,_,0,_,rfl,rfl,SqL.of Zad,ZmP lo hi' _,?_⟩⟩⟩
      · rw [List.length_map,sizeLine_eq]
        have:=List.length_filter_le Option.isSome [lo,hi']
        simp at this ⊢
        omega
      have s16:Same H12 (upd (upd H14 L (.lst [.int 5])) M (.lst (([lo,hi'].filter Option.isSome).map oV ++ [.int 5]))):=(s13.trans s14).trans ((Same.new hL).trans (Same.new hM))
      generalize upd (upd H14 L (.lst [.int 5])) M (.lst (([lo,hi'].filter Option.isSome).map oV ++ [.int 5]))=H16 at s16 ⊢
      clear hDl hD1 s14 s13 hL hM hK14 er
      generalize fstO lo hi' 5=x at fits hxb ⊢
      have hK16:=hK12.same s16
      have hc16:Cell H16 c ci cj:=s16 _ _ hc12
      have b16:=b12.trans (Same.butS s16)
      refine ⟨a,dx,t2,l,c,ps,ch,ci,cj,x,rfl,hK16.k,hc16,hci,hcj,by omega,Zhm fits,fun t3 ps3 u r2 H17 ht3 hq3 hnd3 hu hrn fr hrows er2 nra nrl hk17=>?_⟩
      have hK17:=hK16.push (chs':=ch ++ [(u,c,ci,cj,(ZaA ps ci).getD cj 0)]) hcS hci hxb ht3 (fun p hp=>(hq3 p hp).1) hu fr hrows (by rw [ZbF]) hk17
      have b17:=b16.trans (bal fr)
      obtain ⟨wl,ww⟩:=ZgZ hrows
      clear hK16 hK12 hc12 hc16 b12 b16 fr fits
      refine ⟨_,rfl,_,_,rfl,rfl,?_⟩
      refine ⟨_,rfl,rfl,_,rfl,?_⟩
      refine ite2 (fun h2=>?_) (fun h2=>?_)
      · refine ⟨_,rfl,a,dx,_,rfl,hK17.k.ob,rfl,a,dx,t3,l,u,c,ps3,ch,ci,cj,_,rfl,hK17.k,by omega,hK17.top.1,fun t4 ps4 r3 H18 ht4 hq4 hnd4 hr4 fr4 hrows4 er4 n1 n2 hk18=>⟨_,rfl,_,_,rfl,rfl,?_⟩⟩
        obtain ⟨wl2,ww2⟩:=ZgZ hrows4
        refine ⟨some (.int (0+(k:Nat))),some (.ref c),some (.ref D1),o11,o12,t4,ps4,ch,?_,hK17.pop ht4 (fun p hp=>(hq4 p hp).1) fr4 hrows4 hk18,b17.trans (bal fr4),by omega,by omega,by omega⟩
        rw [show ((ch.length:Nat):Int)+1 - 1=((ch.length:Nat):Int) by omega]
        rfl
      · refine ⟨some (.int (0+(k:Nat))),some (.ref c),some (.ref D1),o11,o12,t3,ps3,_,?_,hK17,b17,by rw [List.length_append];exact Nat.succ_le_succ hch,by omega,by omega⟩
        rw [show (((ch ++ [(u,c,ci,cj,(ZaA ps ci).getD cj 0)]).length:Nat):Int)=((ch.length:Nat):Int)+1 by rw [List.length_append];rfl]
        rfl
    · clear hK8 b9 S9
      rintro σ Hk ⟨o8,o9,o10,o11,o12,t2,ps,ch,rfl,hKk,bk,hch,hl2,hw2⟩
      have hch:ch.length<100:=by omega
      refine ⟨_,rfl,a,dx,_,rfl,hKk.k.ob,rfl,a,dx,t2,l,ps,ch,rfl,hKk.k,fun Tn qn Hn hTn hqn hndn sn hTT hrn=>?_⟩
      have hKn:=hKk.same sn
      have hgn:tabB qn=true:=by rw [Zcg hrn];exact hKn.k.ok
      have nTn:Tn≠st:=fun z=>hKk.off hTn (by rw [z];exact .head _)
      have npn:∀ p∈qn,p.1≠st:=fun p hp z=>hKk.off (hqn p hp).1 (by rw [z];exact .head _)
      refine ⟨_,rfl,_,rfl,a,dx,t2,l,Tn,ps,qn,ch,[st],rfl,hKn.k,hTT,hgn,hKn.live,fun ve ne He se hne re=>?_⟩
      have hKe:=hKn.same se
      have hTe:=hTT.same se
      refine ⟨_,rfl,_,rfl,_,rfl,st,a,dx,t2,l,Tn,ps,qn,ch,rfl,hKe.sto,fun H' b=>hKe.keep b.butS,by omega,hTe,nTn,npn,hgn,hrn.symm,Zfc (by rw [hrn];exact Zfy hKe.bd),fun Hr br Sr=>⟨_,rfl,iteF ?_⟩⟩
      have hKr:=hKe.sts br Sr
      have hTr:=hTe.but nTn npn br
      have rer:=ZgB re br.butS
      refine ⟨_,rfl,_,rfl,a,dx,t2,l,Tn,ps,qn,ch,[],rfl,hKr.k,hTr,hgn,(fun b hb=>nomatch hb),fun v2 n2 Hs ss hn2 r2=>⟨_,rfl,_,_,ZiP r2 (Zck _ _ _).1,ZiP (rer.same ss) (Zck _ _ _).1,Zct (Zck _ _ _),Zct (Zck _ _ _),_,rfl,?_⟩⟩
      rw [hn2.same hne,Zfp _ (Zck _ _ _).1]
      refine iteF ?_
      have hKs:=hKr.same ss
      have bs:ButS [a,l,st] H8 Hs:=bk.trans (((Same.butS sn).trans (Same.butS se)).trans ((bst br).trans (Same.butS ss)))
      clear hKk hKn hKe hKr hTT hTe hTr re rer r2 bk
      have hD8:∀ {D:Addr},Hs D=none→H8 D=none:=fun {D} hD=>by
        cases e:H8 D with
        | none=>rfl
        | some o =>
          exfalso
          by_cases h:D∈[a,l,st]
          · simp only [List.mem_cons,List.not_mem_nil,or_false] at h
            rcases h with h | h | h
            · rw [h,hKs.k.ob] at hD;cases hD
            · rw [h,hKs.k.L] at hD;cases hD
            · exact hKs.off hD (by rw [h];exact .head _)
          · rw [bs D o h e] at hD;cases hD
      have dF:∀ {D:Addr}{H':Hp}{o:HO},H8 D=none→ButS [a,l,st] H8 H'→ButS [a,l,st] H8 (upd H' D o):=fun hD8 b y o n e=>by
        rw [Zal (fun z=>by rw [z,hD8] at e;cases e)]
        exact b y o n e
      refine ⟨_,rfl,_,_,rfl,rfl,_,rfl,by omega,by omega,ZjW (fun D j ys H'=>∃ (t3:Addr) (ps3:Prs) (ch3:Ch),KQ [D,st] H' C st a dx l t3 ps3 ch3 (prs.map (·.2))∧ch3.length=ch.length - j∧H' D=some (.lst ys)∧ys=(Zbq ch.length j).map V.str∧ButS [a,l,st] H8 H')
        (fun D hD=>⟨t2,ps,ch,hKs.add hD,rfl,Zad,by simp [Zbq],dF (hD8 hD) bs⟩) (fun D j ys H' ⟨_,_,_,_,_,e,_⟩=>e) ?_ ?_⟩
      · rintro D j ys H' hD hj ⟨t3,ps3,ch3,hK3,hcl,eD,rfl,bF⟩
        have nDa:D≠a:=fun z=>hK3.na (by rw [← z];exact .head _)
        have nDl:D≠l:=fun z=>hK3.nl (by rw [← z];exact .head _)
        have bD:∀ {H':Hp}{o:HO},ButS [D,st] H' (upd H' D o):=fun y o n e=>by
          rw [Zal (fun z=>n (by rw [z];exact .head _))]
          exact e
        have lD:∀ {H':Hp}{o:HO},(∀ b∈[D,st],H' b≠none)→∀ b∈[D,st],(upd H' D o) b≠none:=fun h b hb=>by
          by_cases e:b=D
          · rw [e,Zad];exact fun z=>nomatch z
          · rw [Zal e];exact h b hb
        have sD:∀ {H':Hp}{o:HO},StK H' st→D≠st→StK (upd H' D o) st:=fun ⟨y1,y2,y3,e⟩ n=>⟨y1,y2,y3,by rw [Zal (Ne.symm n)];exact e⟩
        have nDs:D≠st:=fun z=>hKs.off hD (by rw [z];exact .head _)
        refine ⟨_,rfl,a,dx,t3,l,ps3,ch3,1,.int 0,.int 0,rfl,hK3.k,by omega,?_⟩
        have lenY:((Zbq ch.length j).map V.str).length<sizeLine:=by rw [List.length_map,Zgu];exact Nat.lt_of_lt_of_le (show j<1000 by omega) (sl6 (Nat.le_refl 1000))
        by_cases hz:j<ch.length
        · obtain ⟨c0,e,rfl⟩:=ZmJ (l:=ch3) (fun z=>by rw [z] at hcl;simp at hcl;omega)
          obtain ⟨u,cc,ii,jj,xx⟩:=e
          refine .inr (.inr (.inl ⟨rfl,c0,u,cc,ii,jj,xx,rfl,hK3.top.1,fun t' prs' chs' H5 ht' hq fr hrows hW hk=>?_⟩))
          subst hW
          have hK5:=hK3.pop ht' hq fr hrows hk
          refine ⟨fr _ _ nDa nDl eD,lenY,t',prs',chs',hK5.but bD (sD hK5.sto nDs) (lD hK5.live),?_,Zad,?_,dF (hD8 hD) (bF.trans (bal fr))⟩
          · rw [List.length_append] at hcl
            simp only [List.length_cons,List.length_nil] at hcl
            omega
          · rw [Zij hz,List.map_append]
            rfl
        · have h0:ch3=[]:=List.length_eq_zero_iff.mp (by omega)
          subst h0
          refine .inr (.inl ⟨rfl,rfl,fun H5 s5=>?_⟩)
          have hK5:=hK3.same s5
          refine ⟨s5 _ _ eD,lenY,t3,ps3,[],hK5.but bD (sD hK5.sto nDs) (lD hK5.live),?_,Zad,?_,dF (hD8 hD) (bF.trans (Same.butS s5))⟩
          · show 0=_
            omega
          · rw [Zii (by omega),List.map_append]
            rfl
      · rintro D ys H' hD ⟨t3,ps3,ch3,hK3,hcl,eD,rfl,bF⟩
        have h0:ch3=[]:=List.length_eq_zero_iff.mp (by omega)
        subst h0
        replace hK3:=hK3.less (.head _)
        refine ⟨len1,fun L1 hL1=>⟨_,rfl,L1,_,_,rfl,rfl,Zad,by omega,by omega,?_,fun L2 hL2=>⟨len2,fun L3 hL3=>⟨L2,L3,_,_,rfl,rfl,(Same.new hL3) _ _ Zad,Zad,?_,fun L4 hL4=>?_⟩⟩⟩⟩
        · rw [Int.toNat_natCast]
          exact sl6 (by simp only [List.length_singleton];omega)
        · rw [Int.toNat_natCast,Zeh,List.length_map,List.length_replicate]
          exact sl6 (by simp only [List.length_cons,List.length_nil];omega)
        have sL:Same H' (upd (upd (upd (upd H' L1 (.lst [.str ""])) L2 (.lst (List.replicate ((ch.length:Nat):Int).toNat [V.str ""]).flatten)) L3 (.lst [.str "change", .str "change"])) L4 (.lst ((List.replicate ((ch.length:Nat):Int).toNat [V.str ""]).flatten ++ [.str "change", .str "change"]))):=(Same.new hL1).trans ((Same.new hL2).trans ((Same.new hL3).trans (Same.new hL4)))
        have e4:(upd (upd (upd (upd H' L1 (.lst [.str ""])) L2 (.lst (List.replicate ((ch.length:Nat):Int).toNat [V.str ""]).flatten)) L3 (.lst [.str "change", .str "change"])) L4 (.lst ((List.replicate ((ch.length:Nat):Int).toNat [V.str ""]).flatten ++ [.str "change", .str "change"]))) L4=some (.lst ((List.replicate ((ch.length:Nat):Int).toNat [V.str ""]).flatten ++ [.str "change", .str "change"])):=Zad
        generalize (upd (upd (upd (upd H' L1 (.lst [.str ""])) L2 (.lst (List.replicate ((ch.length:Nat):Int).toNat [V.str ""]).flatten)) L3 (.lst [.str "change", .str "change"])) L4 (.lst ((List.replicate ((ch.length:Nat):Int).toNat [V.str ""]).flatten ++ [.str "change", .str "change"])))=H10 at sL e4 ⊢
        rw [Int.toNat_natCast,Zeh] at e4
        have e4:H10 L4=some (.lst ((List.replicate ch.length sE ++ [sC,sC]).map V.str)):=by rw [List.map_append];exact e4
        rw [show (((ch.length:Nat):Int)+2).toNat=ch.length+2 by omega,Zgv] at eD
        refine ⟨_,_,.lst (SqL.of (sL _ _ eD)) (ZgD _),.lst (SqL.of e4) (ZgD _),Zct (Zec _),Zct (Zec _),_,rfl,?_⟩
        rw [Zfp _ (Zec _).1]
        refine iteF ?_
        have hK10:=hK3.same sL
        have b10:=bF.trans (Same.butS sL)
        have hr3:ps3.map (·.2)=prs.map (·.2):=hK10.un
        have hn3:ps3.length=prs.length:=by
          have:=congrArg List.length hr3
          simpa using this
        have hw3:w0 ps3=w0 prs:=by rw [← ZcS,← ZcS,hr3]
        clear hK3 bF sL e4 eD hKs bs
        refine ⟨_,rfl,a,dx,_,rfl,hK10.k.ob,rfl,a,dx,t3,l,ps3,[],rfl,hK10.k,fun T5 q5 H11 hT5 hq5 hnd5 s11 hTT5 hr5=>⟨_,rfl,_,_,hTT5.rd,(tF (b10.trans (Same.butS s11))).rd,Zcs _,Zcs _,_,rfl,?_⟩⟩
        rw [hr5,hr3,ZjL]
        refine iteF ?_
        have hK11:=hK10.same s11
        have b11:=b10.trans (Same.butS s11)
        refine ⟨_,rfl,len2,fun c5 hc5=>?_⟩
        have s12:=Same.new (o:=.tup [.int 0,.int 0]) hc5
        have hc12:Cell (upd H11 c5 (.tup [.int 0,.int 0])) c5 0 0:=Zad
        generalize upd H11 c5 (.tup [.int 0,.int 0])=H12 at s12 hc12 ⊢
        have hK12:=hK11.same s12
        have b12:=b11.trans (Same.butS s12)
        have hT12:=tF b12
        have h0:0<(ps3.map (·.2)).length:=by rw [List.length_map];omega
        have h0':0<wR (ps3.map (·.2)):=by rw [ZcS];omega
        have hrok:=hK12.k.rok
        have ec:ZaD (ps3.map (·.2)) 0 0=p0.2.getD 0 0:=by
          obtain ⟨p,hp1,hp2,hp3⟩:=ZaE (prs:=prs) (i:=0) g1
          rw [hr3,ZbF,hp3]
          rw [hx0] at hp2
          rw [Option.some.inj hp2]
        have ok:Zbj (setR (ps3.map (·.2)) 0 0 (p0.2.getD 0 0 - 1))=true:=by
          have b0:=Zge hrok h0 h0' (x:=ZaD (ps3.map (·.2)) 0 0) (by rw [ZiE _ h0];exact hrok)
          refine Zhm (Zgq hrok h0 h0' ⟨fun m hm=>by simp [ZaR] at hm,fun m hm=>?_⟩)
          have:=b0.2 m hm
          omega
        refine ⟨_,rfl,tb,_,((0:Nat):Int),.ref p0.1,rfl,rfl,hT12.sq,ZaB (j:=0) (by rw [List.getElem?_map,hx0];rfl),p0.1,_,((0:Nat):Int),.int (p0.2.getD 0 0),rfl,rfl,(hT12.r p0 hm0).sq,Zco (by rw [g.len p0 hm0];omega),_,_,rfl,rfl,?_⟩
        refine ⟨a,dx,t3,l,ps3,[],0,.ref c5,_,rfl,hK12.k,by decide,.inr (.inr (.inr ⟨rfl,c5,0,0,_,rfl,rfl,hc12,by omega,by omega,ok,fun t6 ps6 ch6 H13 ht6 hq6 fr6 hrows6 ⟨u,hu,he⟩ hk6=>⟨rfl,_,rfl,?_⟩⟩))⟩
        rw [Zd9]
        refine iteF ?_
        subst he
        have back:setR (ps6.map (·.2)) 0 0 (ZaD (ps3.map (·.2)) 0 0)=ps3.map (·.2):=by rw [hrows6];exact ZdZ 0 _ h0
        refine ⟨_,rfl,a,dx,t6,l,ps6,_,1,.int 0,.int 0,rfl,hk6,by simp,.inr (.inr (.inl ⟨rfl,[],u,c5,0,0,_,rfl,by rw [back];exact Zhm hrok,fun t7 ps7 ch7 H14 ht7 hq7 fr7 hrows7 hW7 hk7=>⟨rfl,_,rfl,?_⟩⟩))⟩
        rw [Zd9]
        refine iteF ?_
        have b14:=b12.trans ((bal fr6).trans (bal fr7))
        refine ⟨_,rfl,a,dx,_,rfl,hk7.ob,rfl,a,dx,t7,l,ps7,ch7,rfl,hk7,fun T8 q8 H15 hT8' hq8 hnd8 s15 hTT8 hr8=>⟨_,rfl,_,_,hTT8.rd,(tF (b14.trans (Same.butS s15))).rd,Zcs _,Zcs _,_,rfl,?_⟩⟩
        rw [hr8,hrows7,back,hr3,ZjL]
        exact iteF ⟨_,_,_,_,_,_,_,_,_,_,_,_,rfl,smF (b14.trans (Same.butS s15))⟩
end
theorem Zap {K:PySem.W.Frag}{h:Heap}{mg:Str→Option Value}{x:Str}{st:Stmt}{ps:List Str}{f:Addr} (X:K.In h) (G:h.Ns mainGlobals mg) {od an:Option Addr}{sl:Array (Option Value)}{oc kV dc pm cd ct:Value}
    (a:PySem.W.nsIn K mainGlobals x=some (some (.ref f))) (l:K.lookup f=some ⟨oc,od,.func (PySem.W.fnOf x x (Zcl st) (Zar st) (Zag st) .none kV dc pm an cd ct),sl⟩) (c:PySem.W.codeIn K cd x=true) (k:PySem.W.keepIn K (.ref f)=true)
    (b:∀ (kV doc pm:Value) (an:Option Addr) (cdv ct:Value) (us:List Value),us.length=ps.length→bindArgs (PySem.W.fnOf x x (Zcl st) (Zar st) (Zag st) .none kV doc pm an cdv ct) ⟨us,[]⟩=pure (ps.zip us)):Zao K mg x st ps:=by
  have F:=ZlQ (st:=st) l c k
  exact ⟨f,_,F,PySem.W.mg_of X G a,F.binds b⟩
theorem ZnQ {K:PySem.W.Frag}{h:Heap}{mg:Str→Option Value}{t1 t2:Tok} (X:K.In h) (G:h.Ns mainGlobals mg) (e1:PySem.W.nsIn K mainGlobals "len" = some none) (e2:PySem.W.nsIn K mainGlobals "all" = some none) (e3:PySem.W.nsIn K mainGlobals "isinstance" = some none)
    (e4:PySem.W.nsIn K mainGlobals "range" = some none) (e5:PySem.W.nsIn K mainGlobals "int" = some none) (e6:PySem.W.nsIn K mainGlobals "bool" = some none) (e7:PySem.W.nsIn K mainGlobals "list" = some none) (e8:PySem.W.nsIn K mainGlobals "enumerate" = some none)
    (e9:PySem.W.nsIn K mainGlobals "abs" = some none) (e10:PySem.W.nsIn K mainGlobals "max" = some none) (e11:PySem.W.nsIn K mainGlobals "MOST_ROWS" = some (some (.int 6 t1))) (e12:PySem.W.nsIn K mainGlobals "MOST_PLACES" = some (some (.int 6 t2))):Blt mg :=
  ⟨PySem.W.mg_none_of X G e1,PySem.W.mg_none_of X G e2,PySem.W.mg_none_of X G e3,PySem.W.mg_none_of X G e4,PySem.W.mg_none_of X G e5,PySem.W.mg_none_of X G e6,PySem.W.mg_none_of X G e7,PySem.W.mg_none_of X G e8,PySem.W.mg_none_of X G e9,PySem.W.mg_none_of X G e10,
    ⟨_,PySem.W.mg_of X G e11⟩,⟨_,PySem.W.mg_of X G e12⟩⟩
theorem walk {l:PySem.W.OpenLaw}{q:Program}{loose:List Str}{XP:(Str→Option Value)→Heap→Prop}{YP:World→Heap→Prop}{d:DefRec}{K:Params→PySem.W.Frag} (hn:l.most=some 63) (hdf:d.params.defaults=[])
    (hY:∀ (w:World) (h:Heap),YP w h→(K w.params).In h)
    (F:∀ (w:World) (mg:Str→Option Value) (fa:Addr) (h:Heap),(K w.params).In h→h.Ns mainGlobals mg→mg d.name=some (.ref fa) →
      ∃ fd:FuncData,(∀ (s:Shared) (u:Value),BindsTo s fd ⟨[u],[]⟩ [("script",u)])∧∀ base:Heap,(K w.params).In base→base.Ns mainGlobals mg→FnOk l.prog w (K w.params) mg base CX0 20 fa fd ["script"] (Zks (K w.params))) :
    PySem.W.WalkO q loose XP YP l.row.toRowW d [] (fun f vs=>PySem.call f vs) :=
  L2.Zl0 (n:=63) (k:=20) (x := "script") (CX:=fun _=>CX0) (sp:=fun w=>Zks (K w.params)) hn (by decide) hdf ⟨rfl,by decide,by decide,rfl⟩ hY F (fun _ _ a ns hl _ hS=>⟨a,ns,rfl,hS,hl,fun _=>rfl⟩) fun _ _ _ _ _ z=>z
theorem Znz {K:PySem.W.Frag}{h:Heap}{mg:Str→Option Value}{S a0 a1 a2 a3 a4 a5 a6 a7 a8 a9 a10 a11:Addr} (X:K.In h) (G:h.Ns mainGlobals mg) (e:PySem.W.nsIn K mainGlobals "SeekError" = some (some (.ref S))) (e0:PySem.W.nsIn K mainGlobals "NoTable" = some (some (.ref a0))) (e1:PySem.W.nsIn K mainGlobals "NoCell" = some (some (.ref a1)))
    (e2:PySem.W.nsIn K mainGlobals "NoNumber" = some (some (.ref a2))) (e3:PySem.W.nsIn K mainGlobals "NoSize" = some (some (.ref a3))) (e4:PySem.W.nsIn K mainGlobals "NoStair" = some (some (.ref a4))) (e5:PySem.W.nsIn K mainGlobals "NoLook" = some (some (.ref a5)))
    (e6:PySem.W.nsIn K mainGlobals "NoPlace" = some (some (.ref a6))) (e7:PySem.W.nsIn K mainGlobals "NoFit" = some (some (.ref a7))) (e8:PySem.W.nsIn K mainGlobals "NoChange" = some (some (.ref a8))) (e9:PySem.W.nsIn K mainGlobals "NoText" = some (some (.ref a9)))
    (e10:PySem.W.nsIn K mainGlobals "NoName" = some (some (.ref a10))) (e11:PySem.W.nsIn K mainGlobals "NoRow" = some (some (.ref a11))):Nms mg S [a0,a1,a2,a3,a4,a5,a6,a7,a8,a9,a10,a11] :=
  ⟨rfl,PySem.W.mg_of X G e,PySem.W.mg_of X G e0,PySem.W.mg_of X G e1,PySem.W.mg_of X G e2,PySem.W.mg_of X G e3,PySem.W.mg_of X G e4,PySem.W.mg_of X G e5,PySem.W.mg_of X G e6,PySem.W.mg_of X G e7,PySem.W.mg_of X G e8,PySem.W.mg_of X G e9,PySem.W.mg_of X G e10,PySem.W.mg_of X G e11⟩
theorem ZeR {K:PySem.W.Frag}{S C a0 a1 a2 a3 a4 a5 a6 a7 a8 a9 a10 a11:Addr}{i:Nat} (k:ExcK K C) (sk:PySem.W.mroIn K C (.ref S)=some true) (kv:PySem.W.kitOne K (.ref C) (.type "ValueError")=some true)
    (k0:PySem.W.kitOne K (.ref C) (.ref a0)=some (decide (0=i))) (k1:PySem.W.kitOne K (.ref C) (.ref a1)=some (decide (1=i))) (k2:PySem.W.kitOne K (.ref C) (.ref a2)=some (decide (2=i))) (k3:PySem.W.kitOne K (.ref C) (.ref a3)=some (decide (3=i)))
    (k4:PySem.W.kitOne K (.ref C) (.ref a4)=some (decide (4=i))) (k5:PySem.W.kitOne K (.ref C) (.ref a5)=some (decide (5=i))) (k6:PySem.W.kitOne K (.ref C) (.ref a6)=some (decide (6=i))) (k7:PySem.W.kitOne K (.ref C) (.ref a7)=some (decide (7=i)))
    (k8:PySem.W.kitOne K (.ref C) (.ref a8)=some (decide (8=i))) (k9:PySem.W.kitOne K (.ref C) (.ref a9)=some (decide (9=i))) (k10:PySem.W.kitOne K (.ref C) (.ref a10)=some (decide (10=i))) (k11:PySem.W.kitOne K (.ref C) (.ref a11)=some (decide (11=i))) :
    Err K S [a0,a1,a2,a3,a4,a5,a6,a7,a8,a9,a10,a11] i C :=
  ⟨k,sk,kv,fun j D h=>match j,h with
    | 0,h=>by cases h;exact k0
    | 1,h=>by cases h;exact k1
    | 2,h=>by cases h;exact k2
    | 3,h=>by cases h;exact k3
    | 4,h=>by cases h;exact k4
    | 5,h=>by cases h;exact k5
    | 6,h=>by cases h;exact k6
    | 7,h=>by cases h;exact k7
    | 8,h=>by cases h;exact k8
    | 9,h=>by cases h;exact k9
    | 10,h=>by cases h;exact k10
    | 11,h=>by cases h;exact k11
    | n+12,h=>by simp at h⟩
theorem ZnS {l:PySem.W.OpenLaw}{w:World}{K:PySem.W.Frag}{mg:Str→Option Value}{fa C S a0 a1 a2 a3 a4 a5 a6 a7 a8 a9 a10 a11:Addr} (hfa:mg "law" = some (.ref fa)) (T:Blt mg) (h_min:mg "min" = none) (h_tuple:mg "tuple" = none) (h_sorted:mg "sorted" = none) (h_zip:mg "zip" = none) (h_ValueError:mg "ValueError" = none) (h_repr:mg "repr" = none) (N:Nms mg S [a0,a1,a2,a3,a4,a5,a6,a7,a8,a9,a10,a11]) (kS:ExcK K S) (E0:Err K S [a0,a1,a2,a3,a4,a5,a6,a7,a8,a9,a10,a11] 0 a0) (E1:Err K S [a0,a1,a2,a3,a4,a5,a6,a7,a8,a9,a10,a11] 1 a1) (E2:Err K S [a0,a1,a2,a3,a4,a5,a6,a7,a8,a9,a10,a11] 2 a2) (E6:Err K S [a0,a1,a2,a3,a4,a5,a6,a7,a8,a9,a10,a11] 6 a6) (E7:Err K S [a0,a1,a2,a3,a4,a5,a6,a7,a8,a9,a10,a11] 7 a7) (E8:Err K S [a0,a1,a2,a3,a4,a5,a6,a7,a8,a9,a10,a11] 8 a8) (zK:KpM K mg C)
    (m_init:ZaV K C "__init__" "Keeper.__init__" (Za2 ZaJ 0) ["self","table"])
    (m_change:ZaV K C "change" "Keeper.change" (Za2 ZaJ 1) ["self","cell","x"])
    (m_undo:ZaV K C "undo" "Keeper.undo" (Za2 ZaJ 2) ["self"])
    (m_table:ZaV K C "table" "Keeper.table" (Za2 ZaJ 3) ["self"])
    (m_cells:ZaV K C "cells" "Keeper.cells" (Za2 ZaJ 4) ["self","x"])
    (m_number:ZaV K C "number" "Keeper.number" (Za2 ZaJ 5) ["self","k"])
    (m_span:ZaV K C "span" "Keeper.span" (Za2 ZaJ 6) ["self","cell"])
    (d_is_whole:Zao K mg "is_whole" ZdJ ["thing"])
    (d_all_whole:Zao K mg "all_whole" Za7 ["things"])
    (d_never_falls:Zao K mg "never_falls" Zb9 ["numbers"])
    (d_is_row:Zao K mg "is_row" ZhE ["thing"])
    (d_has_table_shape:Zao K mg "has_table_shape" Zdu ["thing"])
    (d_numbers_at_place:Zao K mg "numbers_at_place" ZdM ["table","place"])
    (d_is_sorted_both_ways:Zao K mg "is_sorted_both_ways" Zek ["table"])
    (d_is_table:Zao K mg "is_table" ZdK ["thing"])
    (d_need_table:Zao K mg "need_table" ZcA ["thing"])
    (d_need_number:Zao K mg "need_number" Zca ["thing"])
    (d_is_cell_of_size:Zao K mg "is_cell_of_size" Zeo ["rows","places","thing"])
    (d_is_cell:Zao K mg "is_cell" Zen ["table","thing"])
    (d_need_cell:Zao K mg "need_cell" Zc8 ["table","thing"])
    (d_number_at:Zao K mg "number_at" Zel ["table","cell"])
    (d_cells_of:Zao K mg "cells_of" Zgf ["table","x"])
    (d_how_many_cells:Zao K mg "how_many_cells" ZmX ["table"])
    (d_merged:Zao K mg "merged" Zfr ["table"])
    (d_need_place:Zao K mg "need_place" ZcB ["table","thing"])
    (d_number_by:Zao K mg "number_by" Zc7 ["table","k"])
    (d_copy_of:Zao K mg "copy_of" Zfs ["table"])
    (d_table_with:Zao K mg "table_with" ZmV ["table","cell","x"])
    (d_changed_table:Zao K mg "changed_table" ZdL ["table","cell","x"])
    (d_numbers_beside:Zao K mg "numbers_beside" Zft ["table","beside"])
    (d_span_of:Zao K mg "span_of" Zlb ["table","cell"])
    (d__law_cell:Zao K mg "_law_cell" ZjT ["script","k"])
    (d__law_store:Zao K mg "_law_store" ZjR ["cell"])
    (d__law_take:Zao K mg "_law_take" ZmW ["store","many"])
    (d__law_far:Zao K mg "_law_far" dFar ["store","figures"])
    (d__law_table:Zao K mg "_law_table" ZhB ["store"])
    (d__law_copy:Zao K mg "_law_copy" Zld ["table"])
    (d__law_uneven:Zao K mg "_law_uneven" Zfq ["store","table"])
    (d__law_no_table:Zao K mg "_law_no_table" Zb8 ["store","table"])
    (d__law_kind:Zao K mg "_law_kind" Zcf ["e","due"])
    (d__law_span:Zao K mg "_law_span" ZjS ["table","cell"])
    (d__law_word:Zao K mg "_law_word" Zla ["keeper","door","one","other"])
    (d__law_no_keeper:Zao K mg "_law_no_keeper" Zem ["bad"])
    (d__law_no_cell:Zao K mg "_law_no_cell" Zbf ["store","table"])
    (d__law_all_refused:Zao K mg "_law_all_refused" Zcm ["store","keeper","table"])
    (d__law_stand:Zao K mg "_law_stand" ZhD ["keeper","table"])
    (d_law:Zao K mg "law" dLaw ["script"])
    : ∃ fd:FuncData,(∀ (s:Shared) (v:Value),BindsTo s fd ⟨[v],[]⟩ [("script",v)])∧∀ base:Heap,K.In base→base.Ns mainGlobals mg→FnOk l.prog w K mg base CX0 20 fa fd ["script"] (Zks K):=by
  obtain ⟨f,fd,F,hm,hb⟩:=d_law
  have e:=hfa.symm.trans hm
  cases e
  refine ⟨fd,?_,fun base _ _=>?_⟩
  · obtain ⟨oc,od,kV,doc,pm,an,cdv,ct,osl,rfl,lk,hcd⟩:=F.ex
    exact fun s v=>.of_eq rfl
  · have g_is_whole:=ZgK (P:=l.prog) (w:=w) (base:=base) T d_is_whole
    have g_is_wholeI:=Zh0 (P:=l.prog) (w:=w) (base:=base) T d_is_whole
    have g_all_whole:=Zfb T d_all_whole g_is_whole
    have g_all_wholeA:=Zf7 T d_all_whole g_is_whole
    have g_all_wholeI:=ZgN T d_all_whole g_is_wholeI
    have g_all_wholeTI:=Zf5 T d_all_whole g_is_wholeI
    have g_all_wholeII:=Zf6 T d_all_whole g_is_wholeI
    have g_never_falls:=Zoh (P:=l.prog) (w:=w) (base:=base) T d_never_falls
    have g_is_row:=ZkU T d_is_row g_all_wholeI
    have g_is_rowA:=Zjb T d_is_row g_all_wholeA
    have g_has_table_shape:=ZkO T d_has_table_shape g_is_row
    have g_shapeA:=Zi0 T d_has_table_shape g_is_rowA
    have g_numbers_at_place:=Zh7 (P:=l.prog) (w:=w) (base:=base) d_numbers_at_place
    have g_is_sorted_both_ways:=ZiZ T d_is_sorted_both_ways g_never_falls g_numbers_at_place
    have g_is_table:=Zh1 d_is_table g_has_table_shape g_is_sorted_both_ways
    have g_is_tableA:=ZgL d_is_table g_shapeA g_is_sorted_both_ways
    have g_need_table:=Zf3 d_need_table g_is_table
    have g_need_tableX:=Zi3 E0.k N.n0 d_need_table g_is_tableA
    have g_need_number:=Zfa d_need_number g_is_wholeI
    have g_need_numberX:=Zi5 E2.k N.n2 d_need_number g_is_whole
    have g_is_cell_of_size:=Zje T h_tuple d_is_cell_of_size g_all_wholeTI
    have g_cellSzI:=Zh5 T h_tuple d_is_cell_of_size g_all_wholeII
    have g_cellSzA:=Zh6 T h_tuple d_is_cell_of_size g_all_whole
    have g_is_cell:=Zjc T d_is_cell g_is_cell_of_size
    have g_is_cellI:=Zh2 T d_is_cell g_cellSzI
    have g_is_cellA:=Zh3 T d_is_cell g_cellSzA
    have g_need_cell:=ZgJ d_need_cell g_is_cell
    have g_need_cellX:=Zi6 E1.k N.n1 d_need_cell g_is_cellA
    have g_number_at:=ZgI d_number_at g_need_table g_need_cell
    have g_cells_of:=ZkW T d_cells_of g_need_table g_need_number
    have g_cellsX:=ZmA d_cells_of g_need_tableX g_need_numberX
    have g_how_many_cells:=Zmt (P:=l.prog) (w:=w) (base:=base) T d_how_many_cells
    have g_merged:=Zi7 T h_sorted d_merged g_need_table
    have g_need_place:=Zf4 d_need_place g_is_wholeI g_how_many_cells
    have g_need_placeX:=Zi4 E6.k N.n6 d_need_place g_is_whole g_how_many_cells
    have g_number_by:=ZgH d_number_by g_need_table g_need_place g_merged
    have g_numberByX:=Zf2 d_number_by g_need_tableX g_need_placeX
    have g_copy_of:=Zjd (P:=l.prog) (w:=w) (base:=base) T d_copy_of
    have g_table_with:=Zmq d_table_with g_copy_of
    have g_changed_table:=Zh4 d_changed_table g_need_cell g_need_number g_table_with g_is_table
    have g_changedX:=ZgM E7.k N.n7 d_changed_table g_need_cell g_need_cellX g_need_number g_need_numberX g_table_with g_is_table
    have g_numbers_beside:=Zjf d_numbers_beside g_is_cellI g_number_at
    have g_span_of:=Zmr T h_min d_span_of g_need_cell g_numbers_beside
    have g_spanX:=ZkN d_span_of g_need_cellX
    have g_kInit:=ZkT zK.c m_init g_need_table g_copy_of
    have g_kInitX:=Zi9 m_init g_need_tableX
    have g_kTable:=Zi8 zK.c m_table g_copy_of
    have g_kChange:=ZhZ zK.c m_change g_changed_table g_number_at
    have g_kChX:=Zmy zK.c m_change g_changedX
    have g_kUndo:=ZkR T zK.c m_undo g_table_with g_number_at
    have g_kUnX:=Zmv (P:=l.prog) (w:=w) (base:=base) T zK.c E8.k N.n8 m_undo
    have g_kCells:=Zja zK.c m_cells g_cells_of
    have g_kCeX:=Zmz zK.c m_cells g_cellsX
    have g_kSpan:=ZkS zK.c m_span g_span_of
    have g_kSpX:=Zmw zK.c m_span g_spanX
    have g_kNumber:=ZhY zK.c m_number g_number_by
    have g_kNuX:=Zmx zK.c m_number g_numberByX
    have g__law_cell:=ZkP (P:=l.prog) (w:=w) (base:=base) T d__law_cell
    have g__law_store:=ZkM (P:=l.prog) (w:=w) (base:=base) d__law_store
    have g__law_take:=ZkL (P:=l.prog) (w:=w) (base:=base) d__law_take
    have g__law_far:=Znx T d__law_far g__law_take
    have g__law_table:=ZiX T d__law_table g__law_take g__law_far
    have g__law_copy:=ZkV (P:=l.prog) (w:=w) (base:=base) T d__law_copy
    have g__law_uneven:=ZiW T d__law_uneven g__law_take
    have g__law_no_table:=Zi1 T h_tuple d__law_no_table g__law_take g__law_uneven
    have g__law_kind:=Zmu (P:=l.prog) (w:=w) (base:=base) T h_zip h_ValueError N d__law_kind
    have g__law_span:=ZkQ (P:=l.prog) (w:=w) (base:=base) T h_sorted d__law_span
    have g__law_word:=ZkK N kS E1 E2 E6 E7 E8 zK.c d__law_word g_kUndo g_kUnX g_kChange g_kChX g_kCeX g_kNuX g_kSpX g__law_kind
    have g__law_no_keeper:=Zms N kS E0 zK d__law_no_keeper g_kInitX g__law_kind
    have g__law_no_cell:=Zi2 T d__law_no_cell g__law_take
    have g__law_all_refused:=Zjg T h_repr d__law_all_refused g__law_take g__law_no_cell g__law_span g__law_far g__law_word
    have g__law_stand:=ZiY zK.c d__law_stand g_kTable g_kSpan g_kCells g_kNumber
    exact FnOk.mono (Znw T h_min h_repr zK F g__law_cell g__law_store g__law_take g__law_table g__law_no_table g__law_no_keeper g__law_copy g__law_word g__law_all_refused g__law_stand g_kInit g_kTable g_kSpan g_kChange g_kUndo) (by decide)
end Seek
def PySem.W.Fast.tw10045791391085278304:Unit:=()
def PySem.W.Fast.tw10543619544980428841:Unit:=()
def PySem.W.Fast.tw12525241368782447459:Unit:=()
def PySem.W.Fast.tw12733871758840507988:Unit:=()
def PySem.W.Fast.tw13009770388991737060:Unit:=()
def PySem.W.Fast.tw13138902154241397604:Unit:=()
def PySem.W.Fast.tw1404467385496209589:Unit:=()
def PySem.W.Fast.tw14509108204994451261:Unit:=()
def PySem.W.Fast.tw14765399211054985013:Unit:=()
def PySem.W.Fast.tw15057854195336842264:Unit:=()
def PySem.W.Fast.tw15552047923195867815:Unit:=()
def PySem.W.Fast.tw15801339480658130540:Unit:=()
def PySem.W.Fast.tw15825365386830324266:Unit:=()
def PySem.W.Fast.tw16368790714063161922:Unit:=()
def PySem.W.Fast.tw16478021173086856030:Unit:=()
def PySem.W.Fast.tw16621126020613660867:Unit:=()
def PySem.W.Fast.tw16659022310000542660:Unit:=()
def PySem.W.Fast.tw17251697384567810289:Unit:=()
def PySem.W.Fast.tw17427236087123078975:Unit:=()
def PySem.W.Fast.tw17883047042427934003:Unit:=()
def PySem.W.Fast.tw18196689140918420882:Unit:=()
def PySem.W.Fast.tw18445539595462562241:Unit:=()
def PySem.W.Fast.tw1953222071051962318:Unit:=()
def PySem.W.Fast.tw2888020813698626463:Unit:=()
def PySem.W.Fast.tw3249653242256394810:Unit:=()
def PySem.W.Fast.tw3919619436532165539:Unit:=()
def PySem.W.Fast.tw4333484786158376128:Unit:=()
def PySem.W.Fast.tw4772201505915392882:Unit:=()
def PySem.W.Fast.tw5187370269320700758:Unit:=()
def PySem.W.Fast.tw6245013733225183471:Unit:=()
def PySem.W.Fast.tw7035813438787413413:Unit:=()
def PySem.W.Fast.tw7458287910329258355:Unit:=()
def PySem.W.Fast.tw7489848513029419491:Unit:=()
def PySem.W.Fast.tw7658010057280410993:Unit:=()
def PySem.W.Fast.tw7661692183517611191:Unit:=()
def PySem.W.Fast.tw8037178860642725645:Unit:=()
def PySem.W.Fast.tw8273017577116791041:Unit:=()
def PySem.W.Fast.tw9140662373133920753:Unit:=()
def PySem.W.Fast.tw9321632277100189627:Unit:=()
def PySem.W.Fast.tw9443739287987249193:Unit:=()
def PySem.W.Fast.tw9730946472236200446:Unit:=()
def PySem.W.Fast.tw9842725025943075147:Unit:=()
def PySem.W.Fast.tw9859137031008826919:Unit:=()
open PySem PySem.W PyProof.Rows
set_option maxRecDepth 100000 in
set_option maxHeartbeats 0 in
theorem PySem.Challenge.cw_stairseek_k29_what_a_keeper_refuses_holds : PySem.Challenge.rw_stairseek_k29_what_a_keeper_refuses.Holds := by
  w_on;o_law;k_head;(case hw=>w_witness2)
  k_fill
  refine Seek.walk (l:=PySem.Challenge.rw_stairseek_k29_what_a_keeper_refuses) rfl rfl (fun w h Y=>PySem.W.kIn_of Y) ?F
  case F =>
    intro w mg fa h KX G hmg
    refine' Seek.ZnS hmg ?T ?x_min ?x_tuple ?x_sorted ?x_zip ?x_ValueError ?x_repr ?zN ?zS ?zE0 ?zE1 ?zE2 ?zE6 ?zE7 ?zE8 ?zK ?m_init ?m_change ?m_undo ?m_table ?m_cells ?m_number ?m_span ?d_is_whole ?d_all_whole ?d_never_falls ?d_is_row ?d_has_table_shape ?d_numbers_at_place ?d_is_sorted_both_ways ?d_is_table ?d_need_table ?d_need_number ?d_is_cell_of_size ?d_is_cell ?d_need_cell ?d_number_at ?d_cells_of ?d_how_many_cells ?d_merged ?d_need_place ?d_number_by ?d_copy_of ?d_table_with ?d_changed_table ?d_numbers_beside ?d_span_of ?d__law_cell ?d__law_store ?d__law_take ?d__law_far ?d__law_table ?d__law_copy ?d__law_uneven ?d__law_no_table ?d__law_kind ?d__law_span ?d__law_word ?d__law_no_keeper ?d__law_no_cell ?d__law_all_refused ?d__law_stand ?d_law
    case T =>
      refine' Seek.ZnQ KX G ?e1 ?e2 ?e3 ?e4 ?e5 ?e6 ?e7 ?e8 ?e9 ?e10 ?e11 ?e12
      (case e1=>k_is);(case e2=>k_is);(case e3=>k_is);(case e4=>k_is);(case e5=>k_is);(case e6=>k_is);(case e7=>k_is);(case e8=>k_is);(case e9=>k_is);(case e10=>k_is);(case e11=>k_is);(case e12=>k_is)
    case x_min =>
      refine' PySem.W.mg_none_of KX G ?e
      (case e=>k_is)
    case x_tuple =>
      refine' PySem.W.mg_none_of KX G ?e
      (case e=>k_is)
    case x_sorted =>
      refine' PySem.W.mg_none_of KX G ?e
      (case e=>k_is)
    case x_zip =>
      refine' PySem.W.mg_none_of KX G ?e
      (case e=>k_is)
    case x_ValueError =>
      refine' PySem.W.mg_none_of KX G ?e
      (case e=>k_is)
    case x_repr =>
      refine' PySem.W.mg_none_of KX G ?e
      (case e=>k_is)
    case zN =>
      refine' Seek.Znz KX G ?e ?e0 ?e1 ?e2 ?e3 ?e4 ?e5 ?e6 ?e7 ?e8 ?e9 ?e10 ?e11
      (case e=>k_is);(case e0=>k_is);(case e1=>k_is);(case e2=>k_is);(case e3=>k_is);(case e4=>k_is);(case e5=>k_is);(case e6=>k_is);(case e7=>k_is);(case e8=>k_is);(case e9=>k_is);(case e10=>k_is);(case e11=>k_is)
    case zS =>
      refine' L2.ExcK.mk ?exc ?ga ?gt ?cl ?ob ?bx
      (case exc=>k_exc);(case ga=>k_is);(case gt=>k_is);(case cl=>k_is);(case ob=>k_is);(case bx=>k_is)
    case zE0 =>
      refine' Seek.ZeR (L2.ExcK.mk ?exc ?ga ?gt ?cl ?ob ?bx) ?sk ?kv ?k0 ?k1 ?k2 ?k3 ?k4 ?k5 ?k6 ?k7 ?k8 ?k9 ?k10 ?k11
      (case exc=>k_exc);(case ga=>k_is);(case gt=>k_is);(case cl=>k_is);(case ob=>k_is);(case bx=>k_is)
      (case sk=>k_is);(case kv=>kit_is);(case k0=>kit_is);(case k1=>kit_is);(case k2=>kit_is);(case k3=>kit_is);(case k4=>kit_is);(case k5=>kit_is);(case k6=>kit_is);(case k7=>kit_is);(case k8=>kit_is);(case k9=>kit_is);(case k10=>kit_is);(case k11=>kit_is)
    case zE1 =>
      refine' Seek.ZeR (L2.ExcK.mk ?exc ?ga ?gt ?cl ?ob ?bx) ?sk ?kv ?k0 ?k1 ?k2 ?k3 ?k4 ?k5 ?k6 ?k7 ?k8 ?k9 ?k10 ?k11
      (case exc=>k_exc);(case ga=>k_is);(case gt=>k_is);(case cl=>k_is);(case ob=>k_is);(case bx=>k_is)
      (case sk=>k_is);(case kv=>kit_is);(case k0=>kit_is);(case k1=>kit_is);(case k2=>kit_is);(case k3=>kit_is);(case k4=>kit_is);(case k5=>kit_is);(case k6=>kit_is);(case k7=>kit_is);(case k8=>kit_is);(case k9=>kit_is);(case k10=>kit_is);(case k11=>kit_is)
    case zE2 =>
      refine' Seek.ZeR (L2.ExcK.mk ?exc ?ga ?gt ?cl ?ob ?bx) ?sk ?kv ?k0 ?k1 ?k2 ?k3 ?k4 ?k5 ?k6 ?k7 ?k8 ?k9 ?k10 ?k11
      (case exc=>k_exc);(case ga=>k_is);(case gt=>k_is);(case cl=>k_is);(case ob=>k_is);(case bx=>k_is)
      (case sk=>k_is);(case kv=>kit_is);(case k0=>kit_is);(case k1=>kit_is);(case k2=>kit_is);(case k3=>kit_is);(case k4=>kit_is);(case k5=>kit_is);(case k6=>kit_is);(case k7=>kit_is);(case k8=>kit_is);(case k9=>kit_is);(case k10=>kit_is);(case k11=>kit_is)
    case zE6 =>
      refine' Seek.ZeR (L2.ExcK.mk ?exc ?ga ?gt ?cl ?ob ?bx) ?sk ?kv ?k0 ?k1 ?k2 ?k3 ?k4 ?k5 ?k6 ?k7 ?k8 ?k9 ?k10 ?k11
      (case exc=>k_exc);(case ga=>k_is);(case gt=>k_is);(case cl=>k_is);(case ob=>k_is);(case bx=>k_is)
      (case sk=>k_is);(case kv=>kit_is);(case k0=>kit_is);(case k1=>kit_is);(case k2=>kit_is);(case k3=>kit_is);(case k4=>kit_is);(case k5=>kit_is);(case k6=>kit_is);(case k7=>kit_is);(case k8=>kit_is);(case k9=>kit_is);(case k10=>kit_is);(case k11=>kit_is)
    case zE7 =>
      refine' Seek.ZeR (L2.ExcK.mk ?exc ?ga ?gt ?cl ?ob ?bx) ?sk ?kv ?k0 ?k1 ?k2 ?k3 ?k4 ?k5 ?k6 ?k7 ?k8 ?k9 ?k10 ?k11
      (case exc=>k_exc);(case ga=>k_is);(case gt=>k_is);(case cl=>k_is);(case ob=>k_is);(case bx=>k_is)
      (case sk=>k_is);(case kv=>kit_is);(case k0=>kit_is);(case k1=>kit_is);(case k2=>kit_is);(case k3=>kit_is);(case k4=>kit_is);(case k5=>kit_is);(case k6=>kit_is);(case k7=>kit_is);(case k8=>kit_is);(case k9=>kit_is);(case k10=>kit_is);(case k11=>kit_is)
    case zE8 =>
      refine' Seek.ZeR (L2.ExcK.mk ?exc ?ga ?gt ?cl ?ob ?bx) ?sk ?kv ?k0 ?k1 ?k2 ?k3 ?k4 ?k5 ?k6 ?k7 ?k8 ?k9 ?k10 ?k11
      (case exc=>k_exc);(case ga=>k_is);(case gt=>k_is);(case cl=>k_is);(case ob=>k_is);(case bx=>k_is)
      (case sk=>k_is);(case kv=>kit_is);(case k0=>kit_is);(case k1=>kit_is);(case k2=>kit_is);(case k3=>kit_is);(case k4=>kit_is);(case k5=>kit_is);(case k6=>kit_is);(case k7=>kit_is);(case k8=>kit_is);(case k9=>kit_is);(case k10=>kit_is);(case k11=>kit_is)
    case zK =>
      refine' Seek.ZnD KX G ?aC ?pg ?hd ?po ?sa ?mk ?kc ?nr ?nc
      (case aC=>k_is);(case pg=>k_is);(case hd=>k_is);(case po=>k_is);(case sa=>k_is);(case mk=>k_is);(case kc=>k_is);(case nr=>k_is);(case nc=>k_is)
    case m_init =>
      refine' L2.Zbu ?a ?i ?l ?c ?k ?b
      (case a=>k_is);(case i=>k_is);(case l=>k_is);(case c=>k_is);(case k=>k_is)
      case b=>exact fun _ _ _ _ _ _ us hl=>match us,hl with | [_,_],_=>rfl
    case m_change =>
      refine' L2.Zbu ?a ?i ?l ?c ?k ?b
      (case a=>k_is);(case i=>k_is);(case l=>k_is);(case c=>k_is);(case k=>k_is)
      case b=>exact fun _ _ _ _ _ _ us hl=>match us,hl with | [_,_,_],_=>rfl
    case m_undo =>
      refine' L2.Zbu ?a ?i ?l ?c ?k ?b
      (case a=>k_is);(case i=>k_is);(case l=>k_is);(case c=>k_is);(case k=>k_is)
      case b=>exact fun _ _ _ _ _ _ us hl=>match us,hl with | [_],_=>rfl
    case m_table =>
      refine' L2.Zbu ?a ?i ?l ?c ?k ?b
      (case a=>k_is);(case i=>k_is);(case l=>k_is);(case c=>k_is);(case k=>k_is)
      case b=>exact fun _ _ _ _ _ _ us hl=>match us,hl with | [_],_=>rfl
    case m_cells =>
      refine' L2.Zbu ?a ?i ?l ?c ?k ?b
      (case a=>k_is);(case i=>k_is);(case l=>k_is);(case c=>k_is);(case k=>k_is)
      case b=>exact fun _ _ _ _ _ _ us hl=>match us,hl with | [_,_],_=>rfl
    case m_number =>
      refine' L2.Zbu ?a ?i ?l ?c ?k ?b
      (case a=>k_is);(case i=>k_is);(case l=>k_is);(case c=>k_is);(case k=>k_is)
      case b=>exact fun _ _ _ _ _ _ us hl=>match us,hl with | [_,_],_=>rfl
    case m_span =>
      refine' L2.Zbu ?a ?i ?l ?c ?k ?b
      (case a=>k_is);(case i=>k_is);(case l=>k_is);(case c=>k_is);(case k=>k_is)
      case b=>exact fun _ _ _ _ _ _ us hl=>match us,hl with | [_,_],_=>rfl
    case d_is_whole =>
      refine' Seek.Zap KX G ?a ?l ?c ?k ?b
      (case a=>k_is);(case l=>k_is);(case c=>k_is);(case k=>k_is)
      case b=>exact fun _ _ _ _ _ _ us hl=>match us,hl with | [_],_=>rfl
    case d_all_whole =>
      refine' Seek.Zap KX G ?a ?l ?c ?k ?b
      (case a=>k_is);(case l=>k_is);(case c=>k_is);(case k=>k_is)
      case b=>exact fun _ _ _ _ _ _ us hl=>match us,hl with | [_],_=>rfl
    case d_never_falls =>
      refine' Seek.Zap KX G ?a ?l ?c ?k ?b
      (case a=>k_is);(case l=>k_is);(case c=>k_is);(case k=>k_is)
      case b=>exact fun _ _ _ _ _ _ us hl=>match us,hl with | [_],_=>rfl
    case d_is_row =>
      refine' Seek.Zap KX G ?a ?l ?c ?k ?b
      (case a=>k_is);(case l=>k_is);(case c=>k_is);(case k=>k_is)
      case b=>exact fun _ _ _ _ _ _ us hl=>match us,hl with | [_],_=>rfl
    case d_has_table_shape =>
      refine' Seek.Zap KX G ?a ?l ?c ?k ?b
      (case a=>k_is);(case l=>k_is);(case c=>k_is);(case k=>k_is)
      case b=>exact fun _ _ _ _ _ _ us hl=>match us,hl with | [_],_=>rfl
    case d_numbers_at_place =>
      refine' Seek.Zap KX G ?a ?l ?c ?k ?b
      (case a=>k_is);(case l=>k_is);(case c=>k_is);(case k=>k_is)
      case b=>exact fun _ _ _ _ _ _ us hl=>match us,hl with | [_,_],_=>rfl
    case d_is_sorted_both_ways =>
      refine' Seek.Zap KX G ?a ?l ?c ?k ?b
      (case a=>k_is);(case l=>k_is);(case c=>k_is);(case k=>k_is)
      case b=>exact fun _ _ _ _ _ _ us hl=>match us,hl with | [_],_=>rfl
    case d_is_table =>
      refine' Seek.Zap KX G ?a ?l ?c ?k ?b
      (case a=>k_is);(case l=>k_is);(case c=>k_is);(case k=>k_is)
      case b=>exact fun _ _ _ _ _ _ us hl=>match us,hl with | [_],_=>rfl
    case d_need_table =>
      refine' Seek.Zap KX G ?a ?l ?c ?k ?b
      (case a=>k_is);(case l=>k_is);(case c=>k_is);(case k=>k_is)
      case b=>exact fun _ _ _ _ _ _ us hl=>match us,hl with | [_],_=>rfl
    case d_need_number =>
      refine' Seek.Zap KX G ?a ?l ?c ?k ?b
      (case a=>k_is);(case l=>k_is);(case c=>k_is);(case k=>k_is)
      case b=>exact fun _ _ _ _ _ _ us hl=>match us,hl with | [_],_=>rfl
    case d_is_cell_of_size =>
      refine' Seek.Zap KX G ?a ?l ?c ?k ?b
      (case a=>k_is);(case l=>k_is);(case c=>k_is);(case k=>k_is)
      case b=>exact fun _ _ _ _ _ _ us hl=>match us,hl with | [_,_,_],_=>rfl
    case d_is_cell =>
      refine' Seek.Zap KX G ?a ?l ?c ?k ?b
      (case a=>k_is);(case l=>k_is);(case c=>k_is);(case k=>k_is)
      case b=>exact fun _ _ _ _ _ _ us hl=>match us,hl with | [_,_],_=>rfl
    case d_need_cell =>
      refine' Seek.Zap KX G ?a ?l ?c ?k ?b
      (case a=>k_is);(case l=>k_is);(case c=>k_is);(case k=>k_is)
      case b=>exact fun _ _ _ _ _ _ us hl=>match us,hl with | [_,_],_=>rfl
    case d_number_at =>
      refine' Seek.Zap KX G ?a ?l ?c ?k ?b
      (case a=>k_is);(case l=>k_is);(case c=>k_is);(case k=>k_is)
      case b=>exact fun _ _ _ _ _ _ us hl=>match us,hl with | [_,_],_=>rfl
    case d_cells_of =>
      refine' Seek.Zap KX G ?a ?l ?c ?k ?b
      (case a=>k_is);(case l=>k_is);(case c=>k_is);(case k=>k_is)
      case b=>exact fun _ _ _ _ _ _ us hl=>match us,hl with | [_,_],_=>rfl
    case d_how_many_cells =>
      refine' Seek.Zap KX G ?a ?l ?c ?k ?b
      (case a=>k_is);(case l=>k_is);(case c=>k_is);(case k=>k_is)
      case b=>exact fun _ _ _ _ _ _ us hl=>match us,hl with | [_],_=>rfl
    case d_merged =>
      refine' Seek.Zap KX G ?a ?l ?c ?k ?b
      (case a=>k_is);(case l=>k_is);(case c=>k_is);(case k=>k_is)
      case b=>exact fun _ _ _ _ _ _ us hl=>match us,hl with | [_],_=>rfl
    case d_need_place =>
      refine' Seek.Zap KX G ?a ?l ?c ?k ?b
      (case a=>k_is);(case l=>k_is);(case c=>k_is);(case k=>k_is)
      case b=>exact fun _ _ _ _ _ _ us hl=>match us,hl with | [_,_],_=>rfl
    case d_number_by =>
      refine' Seek.Zap KX G ?a ?l ?c ?k ?b
      (case a=>k_is);(case l=>k_is);(case c=>k_is);(case k=>k_is)
      case b=>exact fun _ _ _ _ _ _ us hl=>match us,hl with | [_,_],_=>rfl
    case d_copy_of =>
      refine' Seek.Zap KX G ?a ?l ?c ?k ?b
      (case a=>k_is);(case l=>k_is);(case c=>k_is);(case k=>k_is)
      case b=>exact fun _ _ _ _ _ _ us hl=>match us,hl with | [_],_=>rfl
    case d_table_with =>
      refine' Seek.Zap KX G ?a ?l ?c ?k ?b
      (case a=>k_is);(case l=>k_is);(case c=>k_is);(case k=>k_is)
      case b=>exact fun _ _ _ _ _ _ us hl=>match us,hl with | [_,_,_],_=>rfl
    case d_changed_table =>
      refine' Seek.Zap KX G ?a ?l ?c ?k ?b
      (case a=>k_is);(case l=>k_is);(case c=>k_is);(case k=>k_is)
      case b=>exact fun _ _ _ _ _ _ us hl=>match us,hl with | [_,_,_],_=>rfl
    case d_numbers_beside =>
      refine' Seek.Zap KX G ?a ?l ?c ?k ?b
      (case a=>k_is);(case l=>k_is);(case c=>k_is);(case k=>k_is)
      case b=>exact fun _ _ _ _ _ _ us hl=>match us,hl with | [_,_],_=>rfl
    case d_span_of =>
      refine' Seek.Zap KX G ?a ?l ?c ?k ?b
      (case a=>k_is);(case l=>k_is);(case c=>k_is);(case k=>k_is)
      case b=>exact fun _ _ _ _ _ _ us hl=>match us,hl with | [_,_],_=>rfl
    case d__law_cell =>
      refine' Seek.Zap KX G ?a ?l ?c ?k ?b
      (case a=>k_is);(case l=>k_is);(case c=>k_is);(case k=>k_is)
      case b=>exact fun _ _ _ _ _ _ us hl=>match us,hl with | [_,_],_=>rfl
    case d__law_store =>
      refine' Seek.Zap KX G ?a ?l ?c ?k ?b
      (case a=>k_is);(case l=>k_is);(case c=>k_is);(case k=>k_is)
      case b=>exact fun _ _ _ _ _ _ us hl=>match us,hl with | [_],_=>rfl
    case d__law_take =>
      refine' Seek.Zap KX G ?a ?l ?c ?k ?b
      (case a=>k_is);(case l=>k_is);(case c=>k_is);(case k=>k_is)
      case b=>exact fun _ _ _ _ _ _ us hl=>match us,hl with | [_,_],_=>rfl
    case d__law_far =>
      refine' Seek.Zap KX G ?a ?l ?c ?k ?b
      (case a=>k_is);(case l=>k_is);(case c=>k_is);(case k=>k_is)
      case b=>exact fun _ _ _ _ _ _ us hl=>match us,hl with | [_,_],_=>rfl
    case d__law_table =>
      refine' Seek.Zap KX G ?a ?l ?c ?k ?b
      (case a=>k_is);(case l=>k_is);(case c=>k_is);(case k=>k_is)
      case b=>exact fun _ _ _ _ _ _ us hl=>match us,hl with | [_],_=>rfl
    case d__law_copy =>
      refine' Seek.Zap KX G ?a ?l ?c ?k ?b
      (case a=>k_is);(case l=>k_is);(case c=>k_is);(case k=>k_is)
      case b=>exact fun _ _ _ _ _ _ us hl=>match us,hl with | [_],_=>rfl
    case d__law_uneven =>
      refine' Seek.Zap KX G ?a ?l ?c ?k ?b
      (case a=>k_is);(case l=>k_is);(case c=>k_is);(case k=>k_is)
      case b=>exact fun _ _ _ _ _ _ us hl=>match us,hl with | [_,_],_=>rfl
    case d__law_no_table =>
      refine' Seek.Zap KX G ?a ?l ?c ?k ?b
      (case a=>k_is);(case l=>k_is);(case c=>k_is);(case k=>k_is)
      case b=>exact fun _ _ _ _ _ _ us hl=>match us,hl with | [_,_],_=>rfl
    case d__law_kind =>
      refine' Seek.Zap KX G ?a ?l ?c ?k ?b
      (case a=>k_is);(case l=>k_is);(case c=>k_is);(case k=>k_is)
      case b=>exact fun _ _ _ _ _ _ us hl=>match us,hl with | [_,_],_=>rfl
    case d__law_span =>
      refine' Seek.Zap KX G ?a ?l ?c ?k ?b
      (case a=>k_is);(case l=>k_is);(case c=>k_is);(case k=>k_is)
      case b=>exact fun _ _ _ _ _ _ us hl=>match us,hl with | [_,_],_=>rfl
    case d__law_word =>
      refine' Seek.Zap KX G ?a ?l ?c ?k ?b
      (case a=>k_is);(case l=>k_is);(case c=>k_is);(case k=>k_is)
      case b=>exact fun _ _ _ _ _ _ us hl=>match us,hl with | [_,_,_,_],_=>rfl
    case d__law_no_keeper =>
      refine' Seek.Zap KX G ?a ?l ?c ?k ?b
      (case a=>k_is);(case l=>k_is);(case c=>k_is);(case k=>k_is)
      case b=>exact fun _ _ _ _ _ _ us hl=>match us,hl with | [_],_=>rfl
    case d__law_no_cell =>
      refine' Seek.Zap KX G ?a ?l ?c ?k ?b
      (case a=>k_is);(case l=>k_is);(case c=>k_is);(case k=>k_is)
      case b=>exact fun _ _ _ _ _ _ us hl=>match us,hl with | [_,_],_=>rfl
    case d__law_all_refused =>
      refine' Seek.Zap KX G ?a ?l ?c ?k ?b
      (case a=>k_is);(case l=>k_is);(case c=>k_is);(case k=>k_is)
      case b=>exact fun _ _ _ _ _ _ us hl=>match us,hl with | [_,_,_],_=>rfl
    case d__law_stand =>
      refine' Seek.Zap KX G ?a ?l ?c ?k ?b
      (case a=>k_is);(case l=>k_is);(case c=>k_is);(case k=>k_is)
      case b=>exact fun _ _ _ _ _ _ us hl=>match us,hl with | [_,_],_=>rfl
    case d_law =>
      refine' Seek.Zap KX G ?a ?l ?c ?k ?b
      (case a=>k_is);(case l=>k_is);(case c=>k_is);(case k=>k_is)
      case b=>exact fun _ _ _ _ _ _ us hl=>match us,hl with | [_],_=>rfl

