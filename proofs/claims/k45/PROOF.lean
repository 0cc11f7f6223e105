import PyProof.Rows.All
import Wide.All
import OpenK.AllK
import Wide.FinOn
import Lean
import PyProof.EqAt
import PyProof.EqKinds
import PyProof.TupleCall
import PySem.Challenge.RW_stairseek_k45_whole_all_cells_looked_at
set_option Elab.async false
set_option linter.all false
set_option maxRecDepth 100000
set_option maxHeartbeats 0
abbrev Yaa:=@List.length_map
abbrev Yab:=@PySem.W.Frag
abbrev Yac:=@List.getElem?_eq_getElem
abbrev Yad:=@PySem.Heap.get?_push_of_some
abbrev Yae:=@Option.some.inj
abbrev Yaf:=@List.getElem?_map
abbrev Yag:=@Nat.le_refl
abbrev Yah:=@List.map_append
abbrev Yai:=@List.getElem?_eq_some_iff
abbrev Yaj:=@Bool.and_eq_true
abbrev Yak:=@List.length_append
abbrev Yal:=@PySem.Heap.lt_size
abbrev Yam:=@List.size_toArray
abbrev Yan:=@Nat.lt_of_lt_of_le
abbrev Yao:=@PySem.Heap.get?_push_size
abbrev Yap:=@Nat.ne_of_lt
abbrev Yaq:=@Bool.false_ne_true
abbrev Yar:=@List.mem_map
abbrev Yas:=@List.mem_cons_of_mem
abbrev Yat:=@List.getD_eq_getElem?_getD
abbrev Yau:=@List.map_map
abbrev Yav:=@Int.toNat_natCast
abbrev Yaw:=@List.map_cons
abbrev Yax:=@List.not_mem_nil
abbrev Yay:=@Nat.le_trans
abbrev Yaz:=@List.mem_append_right
abbrev YaA:=@List.mem_append_left
abbrev YaB:=@PySem.W.mg_none_of
abbrev YaC:=@List.length_cons
abbrev YaD:=@Array.length_toList
abbrev YaF:=@List.mem_cons
abbrev YaG:=@List.mem_append
abbrev YaH:=@Nat.zero_le
abbrev YaI:=@List.length_singleton
abbrev YaJ:=@List.mem_singleton
abbrev YaK:=@List.length_set
abbrev YaL:=@List.getElem_mem
abbrev YaM:=@List.mem_cons_self
abbrev YaO:=@List.all_eq_true
abbrev YaP:=@List.mem_of_getElem?
abbrev YaR:=@List.length_take
abbrev YaS:=@PySem.F.plainAttrs_list
abbrev YaU:=@PySem.F.slot_list_append
abbrev YaV:=@PySem.F.type_list_append
abbrev YaY:=@PySem.Heap.get?_update_other
abbrev YaZ:=@Nat.lt_of_le_of_lt
abbrev Ya1:=@beq_eq_false_iff_ne
abbrev Ya3:=@PySem.wpAny_bind
abbrev Ya4:=@decide_eq_true
abbrev Ya5:=@decide_eq_false
abbrev Ya6:=@if_neg
abbrev Ya7:=@if_pos
abbrev Ya8:=@PySem.wpAny_pure
abbrev Ya9:=@PySem.wpAny_mono
abbrev Yba:=@List.nodup_cons
abbrev Ybb:=@decide_eq_decide
abbrev Ybc:=@Int.natCast_nonneg
abbrev Ybj:=@Int.emod_nonneg
abbrev Ybk:=@Int.emod_lt_of_pos
abbrev Ybm:=@List.length_filter_le
abbrev Ybq:=@Nat.lt_irrefl
namespace L2
open PySem PySem.Spec PyProof.Rows
abbrev Key:=Sum Int Str
def Zjl:Key->Value->Bool
 | .inl k,v=>Value.isInt k v
 | .inr x,v=>Value.isStrOf x v
def keyH (w:World):Key->Int
 | .inl k=>hashInt k
 | .inr x=>hashStr w x
theorem Za3:∀ {k:Key}{v:Value},Zjl k v=true->(∃ i t,k=Sum.inl i/\v=Value.int i t)\/(∃ x t,k=Sum.inr x/\v=Value.str x t)
 | .inl i,v,h=>by
  obtain ⟨t,e⟩:=Value.isInt_shape (k:=i) (v:=v) h;exact .inl ⟨i,t,rfl,e⟩
 | .inr x,v,h=>by
  obtain ⟨t,e⟩:=Value.isStrOf_shape (x:=x) (v:=v) h;exact .inr ⟨x,t,rfl,e⟩
theorem Zk0 (i:Int) (t:Tok):Zjl (.inl i) (.int i t)=true:=by simp [Zjl,Value.isInt]
theorem ZkZ (x:Str) (t:Tok):Zjl (.inr x) (.str x t)=true:=by simp [Zjl,Value.isStrOf]
theorem ZqC (a b:Int):decide ((Sum.inl a:Key)=Sum.inl b)=(a == b):=by
 by_cases e:a=b
 ·subst e;simp
 ·have h:¬ (Sum.inl a:Key)=Sum.inl b:=λq=>e (Sum.inl.inj q);rw [Ya5 h];exact (Ya1.mpr e).symm
theorem Zqz (a b:Str):decide ((Sum.inr a:Key)=Sum.inr b)=decide (a=b):=by
 by_cases e:a=b
 ·subst e;simp
 ·have h:¬ (Sum.inr a:Key)=Sum.inr b:=λq=>e (Sum.inr.inj q);rw [Ya5 h,Ya5 e]
theorem ZqB (a:Int) (b:Str):decide ((Sum.inl a:Key)=Sum.inr b)=false:=Ya5 (λq=>nomatch q)
theorem ZqA (a:Str) (b:Int):decide ((Sum.inr a:Key)=Sum.inl b)=false:=Ya5 (λq=>nomatch q)
def ZaV (prog:Program) (w:World):PySem.KeyKind prog w Key where
 is:=Zjl
 hash:=keyH w
 inj:=λv a b ha hb=>by
  rcases Za3 ha with ⟨i,t,rfl,rfl⟩ | ⟨x,t,rfl,rfl⟩
  ·rcases Za3 hb with ⟨j,u,rfl,e⟩ | ⟨y,u,rfl,e⟩
   ·injection e with e1 _;rw [e1]
   ·exact nomatch e
  ·rcases Za3 hb with ⟨j,u,rfl,e⟩ | ⟨y,u,rfl,e⟩
   ·exact nomatch e
   ·injection e with e1 _;rw [e1]
 byValue:=λk v h=>by
  rcases Za3 h with ⟨i,t,rfl,rfl⟩ | ⟨x,t,rfl,rfl⟩ <;> rfl
 pyHash:=λhv h=>by
  rcases Za3 hv with ⟨i,t,rfl,rfl⟩ | ⟨x,t,rfl,rfl⟩
  ·exact wpAny_pyHash_int h
  ·exact wpAny_pyHash_str h
 eqBool:=λhu hv h=>by
  rcases Za3 hu with ⟨i,t,rfl,rfl⟩ | ⟨x,t,rfl,rfl⟩
  ·rcases Za3 hv with ⟨j,u,rfl,rfl⟩ | ⟨y,u,rfl,rfl⟩
   ·rw [ZqC] at h;exact wpAny_eqBool_int h
   ·rw [ZqB] at h;exact SeqAt.EqAt.int_str i t y u _ _ _ _ h
  ·rcases Za3 hv with ⟨j,u,rfl,rfl⟩ | ⟨y,u,rfl,rfl⟩
   ·rw [ZqA] at h;exact SeqAt.EqAt.str_int x t j u _ _ _ _ h
   ·rw [Zqz] at h;exact wpAny_eqBool_str h
 «strs»:=λk x t v h=>by
  rcases Za3 h with ⟨i,u,rfl,e⟩ | ⟨y,u,rfl,e⟩
  ·exact nomatch e
  ·injection e with e1 _;subst e1;cases v <;> rfl
theorem ZhA (prog:Program) (w:World) (i:Int) (t:Tok):(ZaV prog w).is (.inl i) (.int i t)=true:=Zk0 i t
theorem Zhz (prog:Program) (w:World) (x:Str) (t:Tok):(ZaV prog w).is (.inr x) (.str x t)=true:=ZkZ x t
open PySem PySem.Spec PyProof.Rows
inductive V where
 |non | bl (b:Bool) | int (i:Int) | str (x:Str) | byt (b:Array UInt8) | flt (b:UInt64) | ref (a:Addr) | ty (n:String)
 deriving DecidableEq
def RelV:V->Value->Prop
 | .non,u=>u=Value.none
 | .bl b,u=>u=Value.bool b
 | .int i,u=>∃ t,u=Value.int i t
 | .str x,u=>∃ t,u=Value.str x t
 | .byt b,u=>∃ t,u=Value.bytes b t
 | .flt b,u=>∃ t,u=Value.float b t
 | .ref a,u=>u=Value.ref a
 | .ty n,u=>u=Value.type n
abbrev Vals:List V->List Value->Prop:=Paired RelV
theorem Vals.length {xs:List V}{us:List Value} (r:Vals xs us):xs.length=us.length:=Paired.length r
theorem Vals.get:∀ {xs:List V}{us:List Value}{i:Nat}{x:V},Vals xs us->xs[i]? = some x->∃ u,us[i]? = some u/\RelV x u
 |_,_,_,_,.nil,e=>by simp at e
 |_,_,0,_,.cons r _,e=>by simp at e;subst e;exact ⟨_,rfl,r⟩
 |_,_,i+1,x,.cons _ t,e=>by
  obtain ⟨u,h1,h2⟩:=Vals.get (i:=i) (x:=x) t (by simpa using e);exact ⟨u,by simpa using h1,h2⟩
theorem Vals.set {x:V}{u:Value} (r:RelV x u):∀ {xs:List V}{us:List Value} (i:Nat),Vals xs us->Vals (xs.set i x) (us.set i u)
 |_,_,_,.nil=>.nil
 |_,_,0,.cons _ t=>.cons r t
 |_,_,i+1,.cons q t=>.cons q (Vals.set r i t)
theorem Vals.append:∀ {xs ys:List V}{us ws:List Value},Vals xs us->Vals ys ws->Vals (xs ++ ys) (us ++ ws)
 |_,_,_,_,.nil,s=>s
 |_,_,_,_,.cons r t,s=>.cons r (Vals.append t s)
theorem Vals.take:∀ {xs:List V}{us:List Value} (n:Nat),Vals xs us->Vals (xs.take n) (us.take n)
 |_,_,0,_=>.nil
 |_,_,_+1,.nil=>.nil
 |_,_,n+1,.cons r t=>.cons r (Vals.take n t)
theorem Vals.drop:∀ {xs:List V}{us:List Value} (n:Nat),Vals xs us->Vals (xs.drop n) (us.drop n)
 |_,_,0,r=>r
 |_,_,_+1,.nil=>.nil
 |_,_,n+1,.cons _ t=>Vals.drop n t
def RelO:Option V->Option Value->Prop
 |some v,some u=>RelV v u
 |none,none=>True
 |_,_=>False
def KV {κ:Type}:List (κ × V)->List (κ × Value)->Prop:=Paired λ(p:κ × V) (q:κ × Value)=>p.1=q.1/\RelV p.2 q.2
def kV:Key->V
 | .inl i=>.int i
 | .inr x=>.str x
inductive HO where
 |lst (xs:List V)
 |tup (xs:List V)
 |dK (kvs:List (Key × V)) | dT (kvs:List (List Key × V))
 |set (S:Int->Bool) (n:Nat)
 |ins (C dx:Addr) (fs:List (Str × V))
 |own (x:Addr)
 |xd (fs:List (Str × V))
 |met (f x:Addr)
 |rng (lo hi:Int)
 |frz (o:Obj) (u:HO)
 |tbl (ps:Array Value)
 |ext (φ:Heap->Prop)
abbrev Hp:=Addr->Option HO
def upd (H:Hp) (a:Addr) (o:HO):Hp:=λb=>if b=a then some o else H b
theorem Zac {H:Hp}{a:Addr}{o:HO}:upd H a o a=some o:=by unfold upd;rw [Ya7 rfl]
theorem Zag {H:Hp}{a b:Addr}{o:HO} (h:b≠a):upd H a o b=H b:=by unfold upd;rw [Ya6 h]
theorem Zhy {H:Hp}{a b:Addr}{o u:HO} (h:H a=some o) (h':H b=some u) (d:o≠u):a≠b:=by
 intro e;subst e;rw [h] at h';exact d (Yae h')
theorem Zai {H:Hp}{a b:Addr}{o:HO} (h:H a=some o) (h':H b=none):a≠b:=by
 intro e;subst e;rw [h] at h';cases h'
section
variable (P:Program) (w:World)
def ObjOk (H:Hp) (h:Heap) (a:Addr):HO->Prop
 | .lst xs=>xs.length<=sizeLine/\∃ (its:List Value) (n:Nat),Vals xs its/\h.get? a=some { cls:=.type "list",data:=.seq its.toArray n }
 | .tup xs=>xs.length<=sizeLine/\∃ its:List Value,Vals xs its/\IsTup h a its.toArray
 | .dK kvs=>kvs.length<=sizeLine/\(a == sysModules)=false/\∃ vs,KV kvs vs/\h.DictOf (ZaV P w) a vs
 | .dT kvs=>kvs.length<=sizeLine/\(a == sysModules)=false/\∃ xs:List (List Key × Addr × Value),
   Paired (λ(p:List Key × V) (q:List Key × Addr × Value)=>p.1=q.1/\H q.2.1=some (.tup (p.1.map kV))/\RelV p.2 q.2.2) kvs xs /\
   ∃ o es ep,h.get? a=some o/\o.ExactDict/\o.data=.dict es ep/\es.toList=xs.map (entryOfKey (tupleKind (ZaV P w)))/\(xs.map (·.1)).Nodup
 | .set S n=>h.SetOf (intKind P w) a S n
 | .ins C dx fs=>H dx=some (.own a)/\fs.length<=1000/\dx≠a/\h.get? a=some (PySem.W.instObj C dx) /\
   ∃ mA,h.Ns1 dx mA/\(∀ f,RelO (fs.lookup f) (mA f))/\PySem.Within mA (fs.map (·.1))
 | .own _=>∃ o,h.get? a=some o
 | .xd fs=>∃ mA,h.Ns1 a mA/\∀ f,RelO (fs.lookup f) (mA f)
 | .rng lo hi=>∃ t u v,h.get? a=some { cls:=.type "range",data:=.fields #[.int lo t,.int hi u,.int 1 v] }
 | .frz o u=>h.get? a=some o/\ObjOk H h a u
 | .tbl ps=>h.get? a=some { cls:=.none,data:=.fields ps }
 | .met f x=>h.get? a=some (PySem.W.methodObj (.ref f) (.ref x))
 | .ext φ=>φ h/\(∃ o,h.get? a=some o)/\∀ h1 h2:Heap,φ h1->(∀ o,h1.get? a=some o->h2.get? a=some o)->φ h2
def HOk (H:Hp) (h:Heap):Prop:=∀ a o,H a=some o->ObjOk P w H h a o
end
section
variable {P:Program}{w:World}{H H':Hp}{h h':Heap}{a:Addr}{o:HO}
theorem ObjOk.lt (x:ObjOk P w H h a o):a<h.objs.size:=by
 cases o with
 |lst xs=>obtain ⟨_,_,_,_,e⟩:=x;exact Yal e
 |tup xs=>obtain ⟨_,_,_,p⟩:=x;exact p.lt
 |dK kvs=>obtain ⟨_,_,_,_,o,_,_,e,_⟩:=x;exact Yal e
 |dT kvs=>obtain ⟨_,_,_,_,o,_,_,e,_⟩:=x;exact Yal e
 |set S n=>obtain ⟨o,_,_,_,e,_⟩:=x;exact Yal e
 |ins C dx fs=>obtain ⟨_,_,_,e,_⟩:=x;exact Yal e
 |own y=>obtain ⟨_,e⟩:=x;exact Yal e
 |xd fs=>obtain ⟨_,⟨_,_,_,e,_⟩,_⟩:=x;exact Yal e
 |rng lo hi=>obtain ⟨_,_,_,e⟩:=x;exact Yal e
 |frz ob u=>obtain ⟨e,_⟩:=x;exact Yal e
 |tbl ps=>exact Yal (show h.get? a=some _ from x)
 |met f y=>exact Yal (show h.get? a=some _ from x)
 |ext φ=>obtain ⟨_,⟨_,e⟩,_⟩:=x;exact Yal e
theorem Paired.mapP {α β:Type}{F G:α->β->Prop}:∀ {l₁:List α}{l₂:List β},Paired F l₁ l₂->(∀ a b,F a b->G a b)->Paired G l₁ l₂
 |_,_,.nil,_=>.nil
 |_,_,.cons r t,f=>.cons (f _ _ r) (Paired.mapP t f)
theorem ObjOk.stay (x:ObjOk P w H h a o) (k:∀ b u,(b=a\/H b=some (.own a))->h.get? b=some u->h'.get? b=some u)
  (ho:∀ b,H b=some (.own a)->H' b=some (.own a)) (ht:∀ b xs,H b=some (.tup xs)->H' b=some (.tup xs)):ObjOk P w H' h' a o:=by
 induction o with
 |lst xs=>obtain ⟨z,its,n,r,e⟩:=x;exact ⟨z,its,n,r,k _ _ (.inl rfl) e⟩
 |tup xs=>obtain ⟨z,its,r,ob,e,c⟩:=x;exact ⟨z,its,r,ob,k _ _ (.inl rfl) e,c⟩
 |dK kvs=>obtain ⟨z,y,vs,r,ob,es,ep,e,c⟩:=x;exact ⟨z,y,vs,r,ob,es,ep,k _ _ (.inl rfl) e,c⟩
 |dT kvs =>
  obtain ⟨z,y,xs,r,ob,es,ep,e,c⟩:=x;exact ⟨z,y,xs,Paired.mapP r λp q z=>⟨z.1,ht _ _ z.2.1,z.2.2⟩,ob,es,ep,k _ _ (.inl rfl) e,c⟩
 |set S n=>obtain ⟨ob,es,ep,t,e,c⟩:=x;exact ⟨ob,es,ep,t,k _ _ (.inl rfl) e,c⟩
 |ins C dx fs =>
  obtain ⟨d,z,ne,e,mA,⟨od,es,ep,e2,c⟩,r⟩:=x;exact ⟨ho _ d,z,ne,k _ _ (.inl rfl) e,mA,⟨od,es,ep,k _ _ (.inr d) e2,c⟩,r⟩
 |own y=>obtain ⟨ob,e⟩:=x;exact ⟨ob,k _ _ (.inl rfl) e⟩
 |xd fs=>obtain ⟨mA,⟨od,es,ep,e,c⟩,r⟩:=x;exact ⟨mA,⟨od,es,ep,k _ _ (.inl rfl) e,c⟩,r⟩
 |rng lo hi=>obtain ⟨t,u,v,e⟩:=x;exact ⟨t,u,v,k _ _ (.inl rfl) e⟩
 |frz ob u ih=>obtain ⟨e,q⟩:=x;exact ⟨k _ _ (.inl rfl) e,ih q⟩
 |tbl ps =>
  have e:h.get? a=some { cls:=.none,data:=.fields ps }:=x;show h'.get? a=some { cls:=.none,data:=.fields ps };exact k a _ (.inl rfl) e
 |met f y =>
  have e:h.get? a=some (PySem.W.methodObj (.ref f) (.ref y)):=x;show h'.get? a=some (PySem.W.methodObj (.ref f) (.ref y));exact k a _ (.inl rfl) e
 |ext φ=>obtain ⟨p,⟨o,e⟩,st⟩:=x;exact ⟨st _ _ p λo q=>k _ _ (.inl rfl) q,⟨o,k _ _ (.inl rfl) e⟩,st⟩
theorem HOk.lt (x:HOk P w H h) (e:H a=some o):a<h.objs.size:=(x a o e).lt
theorem HOk.fresh (x:HOk P w H h) (e:h.objs.size<=a):H a=none:=by
 cases q:H a with
 |none=>rfl
 |some u=>exact absurd (Yan (x.lt q) e) (Ybq _)
theorem HOk.kept (x:HOk P w H h) (k:∀ b u,h.get? b=some u->h'.get? b=some u):HOk P w H h':=λa o e =>
 (x a o e).stay (λb u _ q=>k b u q) (λ_ q=>q) λ_ _ q=>q
theorem HOk.laid (x:HOk P w H h) (k:∀ b u,h.get? b=some u->h'.get? b=some u) (hp:h.objs.size<=a) (new:ObjOk P w (upd H a o) h' a o):HOk P w (upd H a o) h':=λb u e=>by
 have hn:=x.fresh hp
 by_cases hb:b=a
 ·subst hb;rw [Zac] at e;cases e;exact new
 ·rw [Zag hb] at e;exact (x b u e).stay (λc v _ q=>k c v q) (λc q=>by rw [Zag (Zai q hn)];exact q) λc xs q=>by rw [Zag (Zai q hn)];exact q
end
def Rd (H:Hp) (a:Addr) (u:HO):Prop:=H a=some u\/∃ o,H a=some (.frz o u)
theorem Rd.ok {P:Program}{w:World}{H:Hp}{h:Heap}{a:Addr}{u:HO} (r:Rd H a u) (x:HOk P w H h):ObjOk P w H h a u:=by
 rcases r with r | ⟨o,r⟩
 ·exact x a u r
 ·obtain ⟨_,q⟩:=x a _ r;exact q
def Mut:Option HO->Prop
 |some (.lst _)=>True
 |some (.dK _)=>True
 |some (.dT _)=>True
 |some (.set _ _)=>True
 |some (.ins _ _ _)=>True
 |some (.ext _)=>True
 |_=>False
section
variable {P:Program}{w:World}{H:Hp}{h h':Heap}{x e:Addr}{o':HO}
theorem HOk.write (ok:HOk P w H h) (mu:Mut (H x)) (he:e=x\/H e=some (.own x)) (k:∀ b u,b≠e->h.get? b=some u->h'.get? b=some u) (heo:∃ u,h'.get? e=some u)
  (new:ObjOk P w (upd H x o') h' x o'):HOk P w (upd H x o') h':=λb u q=>by
 have nown:∀ c y,H c=some (.own y)->c≠x:=λc y r z=>by subst z;rw [r] at mu;exact mu
 have ntup:∀ c xs,H c=some (.tup xs)->c≠x:=λc xs r z=>by subst z;rw [r] at mu;exact mu
 by_cases hb:b=x
 ·subst hb;rw [Zac] at q;cases q;exact new
 ·rw [Zag hb] at q
  by_cases hbe:b=e
  ·have q':H b=some (.own x):=by
    rcases he with z | z
    ·exact absurd (hbe.trans z) hb
    ·rw [hbe];exact z
   rw [q] at q';cases q';obtain ⟨v,hv⟩:=heo;exact ⟨v,by rw [hbe];exact hv⟩
  ·refine (ok b u q).stay (λc v hc r=>k c v ?_ r) (λc r=>by rw [Zag (nown c b r)];exact r) λc xs r=>by rw [Zag (ntup c xs r)];exact r
   rcases hc with rfl | hc
   ·exact hbe
   ·rintro rfl;rcases he with z | z
    ·exact nown c b hc z
    ·rw [hc] at z;cases z;exact hb rfl
end
structure Un (fs ex:List Addr) (H H':Hp) (h h':Heap):Prop where
 keep:∀ b o,h.get? b=some o->H b=none->b∉fs->b∉ex->h'.get? b=some o
 slot:∀ b o,h.get? b=some o->H b=none->b∈fs->b∉ex->∃ sl,h'.get? b=some { o with slots:=sl }
 free:∀ b o,h.get? b=some o->H b=none->b∉ex->H' b=none
 there:∀ b o,h.get? b=some o->b∉ex->∃ o',h'.get? b=some o'
 tups:∀ b xs,H b=some (.tup xs)->H' b=some (.tup xs)
 frzs:∀ b o u,H b=some (.frz o u)->H' b=some (.frz o u)
 tbls:∀ b ps,H b=some (.tbl ps)->∃ more,H' b=some (.tbl (ps ++ more))
section
variable {fs fs' ex ex':List Addr}{H H1 H2:Hp}{h h1 h2 h':Heap}{a x e:Addr}{o:HO}
theorem Un.any (u:Un fs ex H H1 h h1) {b:Addr}{ob:Obj} (q:h.get? b=some ob) (n:H b=none) (hx:b∉ex):∃ sl,h1.get? b=some { ob with slots:=sl }:=by
 by_cases hb:b∈fs
 ·exact u.slot b ob q n hb hx
 ·exact ⟨ob.slots,u.keep b ob q n hb hx⟩
theorem Un.kept (k:∀ b u,h.get? b=some u->h'.get? b=some u):Un fs ex H H h h' :=
 ⟨λb ob q _ _ _=>k b ob q,λb ob q _ _ _=>⟨ob.slots,k b ob q⟩,λ_ _ _ n _=>n,λb ob q _=>⟨ob,k b ob q⟩,λ_ _ q=>q,λ_ _ _ q=>q,λ_ ps q=>⟨#[],by rw [q];simp⟩⟩
theorem Un.refl:Un fs ex H H h h:=Un.kept λ_ _ q=>q
theorem Un.laid (k:∀ b u,h.get? b=some u->h'.get? b=some u) (hp:h.objs.size<=a) (hn:H a=none):Un fs ex H (upd H a o) h h' where
 keep:=λb u q _ _ _=>k b u q
 slot:=λb u q _ _ _=>⟨u.slots,k b u q⟩
 free:=λb u q n _=>by rw [Zag (Yap (Yan (Yal q) hp))];exact n
 there:=λb u q _=>⟨u,k b u q⟩
 tups:=λb xs q=>by rw [Zag (Zai q hn)];exact q
 frzs:=λb u xs q=>by rw [Zag (Zai q hn)];exact q
 tbls:=λb ps q=>⟨#[],by rw [Zag (Zai q hn),q];simp⟩
theorem Un.write (mu:Mut (H x)) (he:e=x\/H e=some (.own x)) (k:∀ b u,b≠e->h.get? b=some u->h'.get? b=some u) (heo:∃ u,h'.get? e=some u):Un fs ex H (upd H x o) h h':=by
 have hx:∀ b,H b=none->b≠x:=λb n z=>by subst z;rw [n] at mu;exact mu
 have hb:∀ b,H b=none->b≠e:=λb n z=>by
  subst z;rcases he with r | r
  ·exact hx b n r
  ·rw [n] at r;cases r
 have hm:∀ b u,H b=some u->¬ Mut (some u)->b≠x:=λb u q nm z=>by subst z;rw [q] at mu;exact nm mu
 refine ⟨λb u q n _ _=>k b u (hb b n) q,λb u q n _ _=>⟨u.slots,k b u (hb b n) q⟩,λb u q n _=>by rw [Zag (hx b n)];exact n,λb u q _=>?_,
  λb xs q=>by rw [Zag (hm b _ q λz=>z)];exact q,λb u xs q=>by rw [Zag (hm b _ q λz=>z)];exact q,λb ps q=>⟨#[],by rw [Zag (hm b _ q λz=>z),q];simp⟩⟩
 by_cases hbe:b=e
 ·subst hbe;exact heo
 ·exact ⟨u,k b u hbe q⟩
theorem Un.mono (u:Un fs ex H H1 h h1) (hs:∀ b∈fs,b∈fs') (hx:∀ b∈ex,b∈ex'):Un fs' ex' H H1 h h1 :=
 ⟨λb ob q n hb he=>u.keep b ob q n (λz=>hb (hs b z)) λz=>he (hx b z),λ_ _ q n _ he=>u.any q n λz=>he (hx _ z),λb ob q n he=>u.free b ob q n λz=>he (hx b z),λb ob q he=>u.there b ob q λz=>he (hx b z),u.tups,u.frzs,u.tbls⟩
end
def trk (h:Heap) (H:Hp):List Addr:=(List.range h.objs.size).filter λa=>(H a).isSome
def hidT (h:Heap) (H:Hp):Heap:=PySem.W.hideAll h (trk h H)
theorem Zk5 (h:Heap) (H:Hp):(hidT h H).objs.size=h.objs.size:=PySem.W.hideAll_size _ _
theorem Znm {h:Heap}{H:Hp}{b:Addr}{o:Obj} (e:h.get? b=some o) (n:H b=none):(hidT h H).get? b=some o :=
 PySem.W.hideAll_get _ e λhm=>by
  have q:(H b).isSome=true:=(List.mem_filter.mp hm).2;rw [n] at q;simp at q
theorem Zo7 {h:Heap}{H:Hp}{b:Addr}{o:Obj} (e:(hidT h H).get? b=some o):h.get? b=some o/\H b=none:=by
 have e':h.get? b=some o:=PySem.W.of_hideAll (trk h H) e;refine ⟨e',?_⟩;cases q:H b with
 |none=>rfl
 |some x =>
  have hm:b∈trk h H:=List.mem_filter.mpr ⟨List.mem_range.mpr (Yal e'),by simp [q]⟩;have z:(hidT h H).get? b=none:=PySem.W.hideAll_none (trk h H) hm;rw [z] at e;cases e
def ZpE (g h:Heap) (L:Addr):List (Addr × Obj):=(List.range h.objs.size).filterMap λa=>if a=L\/(g.get? a).isSome=true then none else (h.get? a).map λo=>(a,o)
def rest (g h:Heap) (L d:Addr):List (Addr × Obj):=(ZpE g h L).filter λp=>decide (p.1≠d)
open PySem PySem.Spec PyProof.Rows
structure Mod (K:Yab) (mg:Str->Option Value) (base:Heap):Prop where
 kin:K.In base
 glob:base.Ns mainGlobals mg
 blt:∃ mb,base.Ns builtinsNs mb/\∀ x:Str,x ≠ "__name__" -> mb x=bootBuiltins x
 nolimit:base.NoLimit
structure Cx where
 prog:Program
 w:World
 K:Yab
 mg:Str->Option Value
 base:Heap
 A:Around
 N:List Str
 s₀:Shared
 H₀:Hp
 env:Env
 outer:List Env
 stack:List Env
 ex:List Addr
 fn:Str->Bool
 calm:Bool
 pn:List (Addr × Obj)
 xe:Value->Shared->Prop
def frs (l:List Env):List Addr:=l.filterMap (·.frame)
abbrev Cx.fs (X:Cx):List Addr:=frs X.outer
def Vis (sc:Scope) (x:Str):Prop:=sc.names.lookup x=some .local\/sc.names.lookup x=some .cell\/sc.names.lookup x=some .free
def Loc (sc:Scope) (x:Str):Prop:=sc.names.lookup x=some .local\/sc.names.lookup x=some .cell
def Look (env:Env) (h:Heap) (m:Str->Option Value) (x:Str) (u:Value):Prop :=
 (env.kindOf x=some .local/\m x=some u)\/((env.kindOf x=some .cell\/env.kindOf x=some .free)/\∃ c,env.cells.lookup x=some c/\h.IsCell c (some u))
structure Cx.Ok (X:Cx):Prop where
 mod:Mod X.K X.mg X.base
 kind:X.env.scope.kind=.function
 glob:X.env.globals=mainGlobals
 blt:X.env.builtins=builtinsNs
 above:X.s₀.heap.objs.size<=X.env.locals
 inj:∀ x y c,X.env.cells.lookup x=some c->X.env.cells.lookup y=some c->x=y
 has:∀ x,(X.env.kindOf x=some .cell\/X.env.kindOf x=some .free)->∃ c,X.env.cells.lookup x=some c
 cab:∀ x c,X.fn x=true->X.env.cells.lookup x=some c->X.s₀.heap.objs.size<=c
 hd:X.calm=true->X.A.handled=none
 frames:X.A.frames=some X.stack
 stk:X.stack=X.outer\/(X.stack=X.env :: X.outer/\X.env.frame=some X.env.locals)
 exf:∀ b∈X.ex,b≠X.env.locals/\∀ x c,X.env.cells.lookup x=some c->c≠b
 bs:∀ b o,X.base.get? b=some o->X.s₀.heap.get? b=some o/\X.H₀ b=none
 bsz:X.base.objs.size<=X.s₀.heap.objs.size
 noex:∀ b o,X.base.get? b=some o->b∉X.ex
 exfs:∀ b∈X.ex,b∉X.fs
 funs:X.s₀.heap.FunFrames X.base X.outer
 frf:∀ b∈X.fs,X.H₀ b=none
structure Inv (X:Cx) (pins:List (Addr × Obj)) (σ:List (Option V)) (H:Hp) (s:Shared):Prop where
 ok:X.Ok
 os:s.os=X.s₀.os
 bare:AllBare s.gens
 base:Un X.fs X.ex X.H₀ H X.s₀.heap s.heap
 loc:∃ m,s.heap.Ns X.env.locals m/\∀ (i:Nat) (x:Str) (v:V),X.N[i]? = some x->σ[i]? = some (some v)->Vis X.env.scope x->∃ u,RelV v u/\Look X.env s.heap m x u
 cell:∀ x c,X.env.cells.lookup x=some c->∃ v,s.heap.IsCell c v
 free:H X.env.locals=none
 freeC:∀ x c,X.env.cells.lookup x=some c->H c=none
 pin:∀ p∈X.pn ++ pins,s.heap.get? p.1=some p.2/\H p.1=none/\p.1≠X.env.locals/\p.1∉X.fs/\∀ v,p.2.data≠.cell v
 hok:HOk X.prog X.w H s.heap
 len:σ.length=X.N.length
section
variable {X:Cx}{pins:List (Addr × Obj)}{σ:List (Option V)}{H H':Hp}{s:Shared}{h':Heap}
theorem Cx.Ok.nofr (ok:X.Ok) {b:Addr}{o:Obj} (e:X.base.get? b=some o):b∉X.fs:=λhb=>by
 have:=(ok.funs.mem hb).1;rw [e] at this;cases this
theorem Inv.bs (I:Inv X pins σ H s):∀ b o,X.base.get? b=some o->s.heap.get? b=some o/\H b=none:=λb o e =>
 ⟨I.base.keep b o (I.ok.bs b o e).1 (I.ok.bs b o e).2 (I.ok.nofr e) (I.ok.noex b o e),I.base.free b o (I.ok.bs b o e).1 (I.ok.bs b o e).2 (I.ok.noex b o e)⟩
theorem Inv.bk (I:Inv X pins σ H s):∀ b o,X.base.get? b=some o->s.heap.get? b=some o:=λb o e=>(I.bs b o e).1
theorem Inv.mod (I:Inv X pins σ H s):Mod X.K X.mg X.base:=I.ok.mod
theorem Inv.kIn (I:Inv X pins σ H s):X.K.In s.heap:=I.ok.mod.kin.keeps I.bk
theorem Inv.fr (I:Inv X pins σ H s):∃ m,Fr X.base X.env.locals s.heap m :=
 let ⟨m,hn,_⟩:=I.loc
 ⟨m,hn,I.bk,Yay I.ok.bsz I.ok.above⟩
theorem Inv.lt (I:Inv X pins σ H s):X.env.locals<s.heap.objs.size:=let ⟨_,hn,_⟩:=I.loc;hn.lt
theorem Inv.sz (I:Inv X pins σ H s):X.s₀.heap.objs.size<=s.heap.objs.size:=Yay I.ok.above (Nat.le_of_lt I.lt)
theorem Inv.nofs (I:Inv X pins σ H s) {a:Addr} (h:s.heap.objs.size<=a):a∉X.fs:=λhb=>by
 obtain ⟨_,o,ho,_⟩:=I.ok.funs.mem hb;exact absurd (Yan (Yal ho) (Yay I.sz h)) (Ybq _)
theorem Inv.cne (I:Inv X pins σ H s):∀ x c,X.env.cells.lookup x=some c->c≠X.env.locals:=λx c e z=>by
 obtain ⟨v,o,ho,hd⟩:=I.cell x c e;obtain ⟨m,⟨o',es,ep,ho',hd',_⟩,_⟩:=I.loc;rw [z,ho'] at ho;cases ho;rw [hd'] at hd;cases hd
theorem Inv.funs (I:Inv X pins σ H s):s.heap.FunFrames X.base X.outer:=by
 have all:∀ (l:List Env),(∀ b∈frs l,b∈X.fs)->X.s₀.heap.FunFrames X.base l->s.heap.FunFrames X.base l:=by
  intro l
  induction l with
  |nil=>intro _ _;trivial
  |cons env r ih =>
   intro hs hl;obtain ⟨hk,⟨L,o,hf,hn,ho,hd⟩,hr⟩:=hl;have hL:L∈X.fs:=hs L (by unfold frs;rw [List.filterMap_cons,hf];exact YaM);obtain ⟨sl,e⟩:=I.base.slot L o ho (I.ok.frf L hL) hL λz=>I.ok.exfs L z hL;exact ⟨hk,⟨L,_,hf,hn,e,hd⟩,ih (λb hb=>hs b (by unfold frs;rw [List.filterMap_cons,hf];exact Yas _ hb)) hr⟩
 exact all X.outer (λ_ hb=>hb) I.ok.funs
theorem Inv.stack (I:Inv X pins σ H s):s.heap.FunFrames X.base X.stack:=by
 rcases I.ok.stk with e | ⟨e,hf⟩
 ·rw [e];exact I.funs
 ·rw [e];obtain ⟨m,hn,_⟩:=I.loc;refine .cons (by rw [I.ok.kind];decide) hf hn ?_ I.funs;exact Heap.get?_none_of_le (Yay I.ok.bsz I.ok.above)
theorem Inv.stkSub (I:Inv X pins σ H s):∀ b∈frs X.stack,b∈X.env.locals :: X.fs:=λb hb=>by
 rcases I.ok.stk with e | ⟨e,hf⟩
 ·rw [e] at hb;exact Yas _ hb
 ·rw [e] at hb;unfold frs at hb;rw [List.filterMap_cons,hf] at hb;exact hb
theorem Inv.stkFree (I:Inv X pins σ H s):∀ b∈frs X.stack,H b=none:=λb hb=>by
 rcases YaF.mp (I.stkSub b hb) with e | hb
 ·rw [e];exact I.free
 ·obtain ⟨_,o,ho,_⟩:=I.ok.funs.mem hb;exact I.base.free b o ho (I.ok.frf b hb) λz=>I.ok.exfs b z hb
theorem Inv.step {g':Array GenState}{t':Nat}{d':Drawn}{ch:List Addr} (I:Inv X pins σ H s)
  (hch:∀ b∈ch,(b∈X.ex\/X.s₀.heap.objs.size<=b)/\b≠X.env.locals/\(∀ x c,X.env.cells.lookup x=some c->c≠b)/\∀ p∈X.pn ++ pins,p.1≠b)
  (keep:∀ b o,b≠X.env.locals->b∉X.fs->b∉ch->s.heap.get? b=some o->H b=none->h'.get? b=some o)
  (slot:∀ b o,b≠X.env.locals->b∈X.fs->b∉ch->s.heap.get? b=some o->H b=none->∃ sl,h'.get? b=some { o with slots:=sl }) (free:∀ b o,b∉ch->s.heap.get? b=some o->H b=none->H' b=none)
  (there:∀ b o,b∉ch->s.heap.get? b=some o->∃ o',h'.get? b=some o')
  (tups:∀ b xs,H b=some (.tup xs)->H' b=some (.tup xs)) (frzs:∀ b o u,H b=some (.frz o u)->H' b=some (.frz o u)) (tbls:∀ b ps,H b=some (.tbl ps)->∃ more,H' b=some (.tbl (ps ++ more)))
  (ns:∀ m,s.heap.Ns X.env.locals m->h'.Ns X.env.locals m) (hok:HOk X.prog X.w H' h') (hg:AllBare g') :
  Inv X pins σ H' { s with heap:=h',gens:=g',drawn:=d',toks:=t' }:=by
 have neL:∀ b o,X.s₀.heap.get? b=some o->b≠X.env.locals:=λb o e=>Yap (Yan (Yal e) I.ok.above);have neC:∀ b o,X.s₀.heap.get? b=some o->b∉X.ex->b∉ch:=λb o e hx hb=>by
  rcases (hch b hb).1 with z | z
  ·exact hx z
  ·exact absurd (Yan (Yal e) z) (Ybq _)
 have cellK:∀ x c,X.env.cells.lookup x=some c->∀ v,s.heap.IsCell c v->h'.IsCell c v:=λx c e v ⟨o,ho,hd⟩=>by
  have nch:c∉ch:=λz=>(hch c z).2.2.1 x c e rfl
  by_cases hc:c∈X.fs
  ·obtain ⟨sl,q⟩:=slot c o (I.cne x c e) hc nch ho (I.freeC x c e);exact ⟨_,q,hd⟩
  ·exact ⟨o,keep c o (I.cne x c e) hc nch ho (I.freeC x c e),hd⟩
 refine ⟨I.ok,I.os,hg,⟨λb o e n hb hx=>?_,λb o e n hb hx=>?_,λb o e n hx=>?_,λb o e hx=>?_,λb xs e=>tups b xs (I.base.tups b xs e),λb o xs e=>frzs b o xs (I.base.frzs b o xs e),λb ps e=>?_⟩,?_,λx c e=>?_,?_,λx c e=>?_,λp hp=>?_,hok,I.len⟩
 ·exact keep b o (neL b o e) hb (neC b o e hx) (I.base.keep b o e n hb hx) (I.base.free b o e n hx)
 ·obtain ⟨sl,e1⟩:=I.base.slot b o e n hb hx;obtain ⟨sl',e2⟩:=slot b _ (neL b o e) hb (neC b o e hx) e1 (I.base.free b o e n hx);exact ⟨sl',e2⟩
 ·obtain ⟨o',e1⟩:=I.base.there b o e hx;exact free b o' (neC b o e hx) e1 (I.base.free b o e n hx)
 ·obtain ⟨o',e1⟩:=I.base.there b o e hx;exact there b o' (neC b o e hx) e1
 ·obtain ⟨m1,e1⟩:=I.base.tbls b ps e;obtain ⟨m2,e2⟩:=tbls b _ e1;exact ⟨m1 ++ m2,by rw [e2,Array.append_assoc]⟩
 ·obtain ⟨m,hn,hl⟩:=I.loc;refine ⟨m,ns m hn,λi x v e1 e2 e3=>?_⟩;obtain ⟨u,r,l⟩:=hl i x v e1 e2 e3;refine ⟨u,r,?_⟩;rcases l with l | ⟨k,c,e,z⟩
  ·exact .inl l
  ·exact .inr ⟨k,c,e,cellK x c e _ z⟩
 ·obtain ⟨v,z⟩:=I.cell x c e;exact ⟨v,cellK x c e v z⟩
 ·obtain ⟨m,⟨o,_,_,ho,_⟩,_⟩:=I.loc;exact free _ o (λz=>(hch _ z).2.1 rfl) ho I.free
 ·obtain ⟨v,o,ho,hd⟩:=I.cell x c e;exact free c o (λz=>(hch c z).2.2.1 x c e rfl) ho (I.freeC x c e)
 ·obtain ⟨e,n,ne,nf,d⟩:=I.pin p hp;have nch:p.1∉ch:=λz=>(hch p.1 z).2.2.2 p hp rfl;exact ⟨keep p.1 p.2 ne nf nch e n,free p.1 p.2 nch e n,ne,nf,d⟩
theorem Inv.un {t':Nat} (I:Inv X pins σ H s) (u:Un X.fs [] H H' s.heap h') (hok:HOk X.prog X.w H' h'):Inv X pins σ H' { s with heap:=h',toks:=t' }:=by
 obtain ⟨m,⟨o,es,ep,ho,r⟩,_⟩:=id I.loc;obtain ⟨sl,hL⟩:=u.any ho I.free (by simp);exact I.step (g':=s.gens) (d':=s.drawn) (ch:=[]) (λ_ z=>nomatch z) (λb o _ hb _ e n=>u.keep b o e n hb (by simp)) (λb o _ hb _ e n=>u.slot b o e n hb (by simp)) (λb o _ e n=>u.free b o e n (by simp)) (λb o _ e=>u.there b o e (by simp)) u.tups u.frzs u.tbls (λm' hm=>by
  obtain ⟨o',es',ep',ho',r'⟩:=hm;rw [ho] at ho';cases ho'
  exact ⟨_,es',ep',hL,r'⟩) hok I.bare
theorem Inv.call {g':Array GenState}{t':Nat}{d':Drawn}{ch:List Addr} (I:Inv X pins σ H s) (u:Un (frs X.stack) ch H H' s.heap h') (hok:HOk X.prog X.w H' h') (hg:AllBare g')
  (hch:∀ b∈ch,(b∈X.ex\/X.s₀.heap.objs.size<=b)/\b≠X.env.locals/\(∀ x c,X.env.cells.lookup x=some c->c≠b)/\∀ p∈X.pn ++ pins,p.1≠b) :
  Inv X pins σ H' { s with heap:=h',gens:=g',drawn:=d',toks:=t' }:=by
 obtain ⟨m,⟨o,es,ep,ho,r⟩,_⟩:=id I.loc;obtain ⟨sl,hL⟩:=u.any ho I.free λz=>(hch _ z).2.1 rfl;exact I.step (ch:=ch) hch (λb o hL hb hc e n=>u.keep b o e n (λz=>(YaF.mp (I.stkSub b z)).elim hL hb) hc) (λb o _ _ hc e n=>u.any e n hc) (λb o hc e n=>u.free b o e n hc) (λb o hc e=>u.there b o e hc) u.tups u.frzs u.tbls (λm' hm=>by
  obtain ⟨o',es',ep',ho',r'⟩:=hm;rw [ho] at ho';cases ho'
  exact ⟨_,es',ep',hL,r'⟩) hok hg
theorem Inv.turned {t':Nat}{it:Addr} (I:Inv X pins σ H s) (k:∀ b o,b≠it->s.heap.get? b=some o->h'.get? b=some o) (hn:H it=none) (hL:it≠X.env.locals)
  (h1:it∈X.ex\/X.s₀.heap.objs.size<=it) (h2:∀ x c,X.env.cells.lookup x=some c->c≠it) (h3:∀ p∈X.pn ++ pins,p.1≠it):Inv X pins σ H { s with heap:=h',toks:=t' }:=by
 have nit:∀ b u,H b=some u->b≠it:=λb u e z=>by rw [z,hn] at e;cases e
 refine I.step (g':=s.gens) (d':=s.drawn) (ch:=[it]) (λb hb=>?_) (λb o _ _ hc e _=>k b o (λz=>hc (by simp [z])) e) (λb o _ _ hc e _=>⟨o.slots,k b o (λz=>hc (by simp [z])) e⟩) (λ_ _ _ _ n=>n)
  (λb o hc e=>⟨o,k b o (λz=>hc (by simp [z])) e⟩) (λ_ _ e=>e) (λ_ _ _ e=>e) (λb ps e=>⟨#[],by rw [e];simp⟩) (λm hm=>?_) (λb u e=>?_) I.bare
 ·have e:b=it:=by simpa using hb
  subst e;exact ⟨h1,hL,h2,h3⟩
 ·obtain ⟨o,es,ep,ho,r⟩:=hm;exact ⟨o,es,ep,k _ o (Ne.symm hL) ho,r⟩
 ·refine (I.hok b u e).stay (λc v hc q=>k c v ?_ q) (λ_ q=>q) λ_ _ q=>q;rcases hc with z | z
  ·rw [z];exact nit b u e
  ·exact nit c _ z
theorem Inv.tok (I:Inv X pins σ H s) (t:Nat):Inv X pins σ H { s with toks:=t }:=I.un (h':=s.heap) (t':=t) Un.refl I.hok
theorem Inv.kept {t':Nat} (I:Inv X pins σ H s) (k:∀ b u,s.heap.get? b=some u->h'.get? b=some u):Inv X pins σ H { s with heap:=h',toks:=t' }:=I.un (Un.kept k) (I.hok.kept k)
theorem Inv.laid {a:Addr}{o:HO}{t':Nat} (I:Inv X pins σ H s) (k:∀ b u,s.heap.get? b=some u->h'.get? b=some u) (hp:s.heap.objs.size<=a) (new:ObjOk X.prog X.w (upd H a o) h' a o) :
  Inv X pins σ (upd H a o) { s with heap:=h',toks:=t' }:=I.un (Un.laid k hp (I.hok.fresh hp)) (I.hok.laid k hp new)
theorem Inv.write {x e:Addr}{o:HO}{t':Nat} (I:Inv X pins σ H s) (mu:Mut (H x)) (he:e=x\/H e=some (.own x)) (k:∀ b u,b≠e->s.heap.get? b=some u->h'.get? b=some u) (heo:∃ u,h'.get? e=some u)
  (new:ObjOk X.prog X.w (upd H x o) h' x o):Inv X pins σ (upd H x o) { s with heap:=h',toks:=t' }:=I.un (Un.write mu he k heo) (I.hok.write mu he k heo new)
theorem Inv.pins_of {pins':List (Addr × Obj)} (I:Inv X pins σ H s) (h:∀ p∈pins',s.heap.get? p.1=some p.2/\H p.1=none/\p.1≠X.env.locals/\p.1∉X.fs/\∀ v,p.2.data≠.cell v):Inv X pins' σ H s :=
 ⟨I.ok,I.os,I.bare,I.base,I.loc,I.cell,I.free,I.freeC,λp hp=>(YaG.mp hp).elim (λz=>I.pin p (YaA _ z)) (h p),I.hok,I.len⟩
theorem Zih {N:List Str} (hN:N.Nodup) {i j:Nat}{x:Str} (a:N[i]? = some x) (b:N[j]? = some x):i=j:=by
 obtain ⟨h1,e1⟩:=Yai.mp a;obtain ⟨h2,e2⟩:=Yai.mp b;exact (List.getElem_inj hN).mp (e1.trans e2.symm)
theorem Zf0 {M:Model}{A:Around}{E:Value->Shared->Prop}{i:Nat}{x:Str}{v:V}{u:Value}{Q:Unit->Shared->Prop} (I:Inv X pins σ H s) (hN:X.N.Nodup) (hi:X.N[i]? = some x) (hx:Loc X.env.scope x) (r:RelV v u)
  (h:∀ s',Inv X pins (σ.set i (some v)) H s'->(∃ a,Heap.SameBut a s.heap s'.heap/\(a=X.env.locals\/X.env.cells.lookup x=some a))->Q () s') (hf:X.fn x=true\/X.env.scope.names.lookup x=some .local:=by first | exact .inl rfl | exact .inr rfl | assumption):wpAny M A (storeName X.env x u) Q E s:=by
 obtain ⟨m,hn,hl⟩:=id I.loc;have hcls:(X.env.scope.kind == .class || (X.env.scope.kind == .module && X.env.locals != X.env.globals))=false:=by rw [I.ok.kind];rfl
 have hiσ:i < σ.length:=by rw [I.len];exact (Yai.mp hi).1
 have cne:=I.cne;have tracked:∀ {a:Addr}{h':Heap},(∃ o,s.heap.get? a=some o/\H a=none)->Heap.SameBut a s.heap h'->HOk X.prog X.w H h':=λ{a h'} ha hs b ob e=>by
  obtain ⟨_,_,hfree⟩:=ha;refine (I.hok b ob e).stay (λc w' hc q=>(hs.2 c ?_).trans q) (λ_ q=>q) λ_ _ q=>q;rintro rfl;rcases hc with rfl | hc
  ·rw [hfree] at e;cases e
  ·rw [hfree] at hc;cases hc
 rcases hx with hk | hk
 ·refine wpAny_storeName_local hk hn (λh' hn' hs=>?_) hcls;obtain ⟨oL,_,_,hoL,_⟩:=id hn;refine h _ ⟨I.ok,I.os,I.bare,⟨λb o e n hb hx=>?_,λb o e n hb hx=>?_,I.base.free,λb o e hx=>?_,I.base.tups,I.base.frzs,I.base.tbls⟩,⟨_,hn',λj y v' e1 e2 e3=>?_⟩,λy c e=>?_,I.free,I.freeC,λp hp=>?_,tracked ⟨oL,hoL,I.free⟩ hs,by simpa using I.len⟩ ⟨_,hs,.inl rfl⟩
  ·exact (hs.2 b (Yap (Yan (Yal e) I.ok.above))).trans (I.base.keep b o e n hb hx)
  ·obtain ⟨sl,e1⟩:=I.base.slot b o e n hb hx;exact ⟨sl,(hs.2 b (Yap (Yan (Yal e) I.ok.above))).trans e1⟩
  ·obtain ⟨o',e1⟩:=I.base.there b o e hx;exact ⟨o',(hs.2 b (Yap (Yan (Yal e) I.ok.above))).trans e1⟩
  ·by_cases hj:j=i
   ·subst hj;rw [hi] at e1;cases e1;rw [List.getElem?_set_self hiσ] at e2;cases e2;exact ⟨u,r,.inl ⟨hk,by simp⟩⟩
   ·rw [List.getElem?_set_ne (Ne.symm hj)] at e2;obtain ⟨u',r',q⟩:=hl j y v' e1 e2 e3;refine ⟨u',r',?_⟩;rcases q with ⟨k,e⟩ | ⟨k,c,e,z⟩
    ·refine .inl ⟨k,?_⟩;have:y≠x:=λe=>hj (Zih hN e1 (e ▸ hi));simp [this,e]
    ·exact .inr ⟨k,c,e,z.sameBut hs (cne y c e)⟩
  ·obtain ⟨w',z⟩:=I.cell y c e;exact ⟨w',z.sameBut hs (cne y c e)⟩
  ·obtain ⟨e,n,ne,nf,d⟩:=I.pin p hp;exact ⟨(hs.2 p.1 ne).trans e,n,ne,nf,d⟩
 ·have hfn:X.fn x=true:=by
   rcases hf with z | z
   ·exact z
   ·rw [z] at hk;cases hk
  obtain ⟨c,hc⟩:=I.ok.has x (.inl hk);obtain ⟨w',z⟩:=I.cell x c hc;refine wpAny_storeName_cell I.ok.kind hk hc z (λh' hc' hs=>?_);obtain ⟨oc,hoc,hocd⟩:=id z;refine h { s with heap:=h' } ⟨I.ok,I.os,I.bare,⟨λb o e n hb hx=>?_,λb o e n hb hx=>?_,I.base.free,λb o e hx=>?_,I.base.tups,I.base.frzs,I.base.tbls⟩,⟨m,hn.sameBut hs (Ne.symm (cne x c hc)),λj y v' e1 e2 e3=>?_⟩,λy c' e=>?_,I.free,I.freeC,λp hp=>?_,tracked ⟨oc,hoc,I.freeC x c hc⟩ hs,by simpa using I.len⟩ ⟨c,hs,.inr hc⟩
  ·exact (hs.2 b (Yap (Yan (Yal e) (I.ok.cab x c hfn hc)))).trans (I.base.keep b o e n hb hx)
  ·obtain ⟨sl,e1⟩:=I.base.slot b o e n hb hx;exact ⟨sl,(hs.2 b (Yap (Yan (Yal e) (I.ok.cab x c hfn hc)))).trans e1⟩
  ·obtain ⟨o',e1⟩:=I.base.there b o e hx;exact ⟨o',(hs.2 b (Yap (Yan (Yal e) (I.ok.cab x c hfn hc)))).trans e1⟩
  ·by_cases hj:j=i
   ·subst hj;rw [hi] at e1;cases e1;rw [List.getElem?_set_self hiσ] at e2;cases e2;exact ⟨u,r,.inr ⟨.inl hk,c,hc,hc'⟩⟩
   ·rw [List.getElem?_set_ne (Ne.symm hj)] at e2;obtain ⟨u',r',q⟩:=hl j y v' e1 e2 e3;refine ⟨u',r',?_⟩;rcases q with q | ⟨k,c',e,z'⟩
    ·exact .inl q
    ·refine .inr ⟨k,c',e,z'.sameBut hs ?_⟩;rintro rfl;exact hj (Zih hN e1 (I.ok.inj _ _ _ e hc ▸ hi))
  ·by_cases hcc:c'=c
   ·subst hcc;exact ⟨_,hc'⟩
   ·obtain ⟨w2,z2⟩:=I.cell y c' e;exact ⟨w2,z2.sameBut hs hcc⟩
  ·obtain ⟨e,n,ne,nf,d⟩:=I.pin p hp;refine ⟨(hs.2 p.1 ?_).trans e,n,ne,nf,d⟩;intro q;rw [q,hoc] at e;have q':oc=p.2:=Yae e;exact d w' (by rw [<- q'];exact hocd)
theorem ZcO {M:Model}{A:Around}{E:Value->Shared->Prop}{i:Nat}{x:Str}{v:V}{u:Value}{Q:Unit->Shared->Prop} (I:Inv X pins σ H s) (hN:X.N.Nodup) (hi:X.N[i]? = some x) (hx:Loc X.env.scope x) (r:RelV v u)
  (h:∀ s',Inv X pins (σ.set i (some v)) H s'->Q () s') (hf:X.fn x=true\/X.env.scope.names.lookup x=some .local:=by first | exact .inl rfl | exact .inr rfl | assumption):wpAny M A (storeName X.env x u) Q E s :=
 Zf0 I hN hi hx r (λs' I' _=>h s' I') hf
theorem Inv.call' {s':Shared}{ch:List Addr} (I:Inv X pins σ H s) (ho:s'.os=s.os) (u:Un (frs X.stack) ch H H' s.heap s'.heap) (hok:HOk X.prog X.w H' s'.heap) (hg:AllBare s'.gens)
  (hch:∀ b∈ch,(b∈X.ex\/X.s₀.heap.objs.size<=b)/\b≠X.env.locals/\(∀ x c,X.env.cells.lookup x=some c->c≠b)/\∀ p∈X.pn ++ pins,p.1≠b):Inv X pins σ H' s':=by
 obtain ⟨h',g',d',t',o'⟩:=s';have e:o'=s.os:=ho;subst e;exact I.call (g':=g') (t':=t') (d':=d') u hok hg hch
end
abbrev XK:=Value->Option Addr->Hp->Prop
abbrev St:=List (Option V)
abbrev VK:=V->Hp->Prop
abbrev TE:=St->Hp->VK->Prop
abbrev TT:=St->Hp->(Bool->Hp->Prop)->Prop
abbrev TA:=St->Hp->(List V->Hp->Prop)->Prop
structure Ends where
 nx:St->Hp->Prop
 rt:VK
 bk:St->Hp->Prop:=λ_ _=>False
 ct:St->Hp->Prop:=λ_ _=>False
abbrev TS:=Ends->St->Hp->Prop
def EP (X:Cx) (pins:List (Addr × Obj)) (σ:St) (Q:VK) (u:Value) (s':Shared):Prop:=∃ v H',Inv X pins σ H' s'/\RelV v u/\Q v H'
def TP (X:Cx) (pins:List (Addr × Obj)) (σ:St) (Q:Bool->Hp->Prop) (b:Bool) (s':Shared):Prop:=∃ H',Inv X pins σ H' s'/\Q b H'
def AP (X:Cx) (pins:List (Addr × Obj)) (σ:St) (Q:List V->Hp->Prop) (us:List Value) (s':Shared):Prop:=∃ vs H',Inv X pins σ H' s'/\Vals vs us/\Q vs H'
def SP (X:Cx) (pins:List (Addr × Obj)) (D:Ends) (f:Flow) (s':Shared):Prop :=
 match f with
 | .next=>∃ σ' H',Inv X pins σ' H' s'/\D.nx σ' H'
 | .brk=>∃ σ' H',Inv X pins σ' H' s'/\D.bk σ' H'
 | .cont=>∃ σ' H',Inv X pins σ' H' s'/\D.ct σ' H'
 | .ret u=>∃ v σ' H',Inv X pins σ' H' s'/\RelV v u/\D.rt v H'
def PE (X:Cx) (e:Expr) (t:TE):Prop :=
 ∀ (pins:List (Addr × Obj)) (s:Shared) (σ:St) (H:Hp) (Q:VK),Inv X pins σ H s->t σ H Q->wpAny (model X.prog X.w) X.A (eval e X.env) (EP X pins σ Q) X.xe s
def PT (X:Cx) (e:Expr) (t:TT):Prop :=
 ∀ (pins:List (Addr × Obj)) (s:Shared) (σ:St) (H:Hp) (Q:Bool->Hp->Prop),Inv X pins σ H s->t σ H Q->wpAny (model X.prog X.w) X.A (isTrue e X.env (eval e X.env)) (TP X pins σ Q) X.xe s
def PW (X:Cx) (e:Expr) (t:TT):Prop :=
 ∀ (whole:Sem Value) (pins:List (Addr × Obj)) (s:Shared) (σ:St) (H:Hp) (Q:Bool->Hp->Prop),Inv X pins σ H s->t σ H Q->wpAny (model X.prog X.w) X.A (isTrue e X.env whole) (TP X pins σ Q) X.xe s
theorem PW.pt {X:Cx}{e:Expr}{t:TT} (h:PW X e t):PT X e t:=h _
def PA (X:Cx) (es:List Expr) (t:TA):Prop :=
 ∀ (pos:Pos) (pins:List (Addr × Obj)) (s:Shared) (σ:St) (H:Hp) (Q:List V->Hp->Prop),Inv X pins σ H s->t σ H Q->wpAny (model X.prog X.w) X.A (spliced (backTo pos (starEach es X.env))) (AP X pins σ Q) X.xe s
def PS (X:Cx) (st:Stmt) (t:TS):Prop :=
 ∀ (pins:List (Addr × Obj)) (s:Shared) (σ:St) (H:Hp) (D:Ends),Inv X pins σ H s->t D σ H->wpAny (model X.prog X.w) X.A (exec st X.env) (SP X pins D) X.xe s
def PSs (X:Cx) (st:List Stmt) (t:TS):Prop :=
 ∀ (pins:List (Addr × Obj)) (s:Shared) (σ:St) (H:Hp) (D:Ends),Inv X pins σ H s->t D σ H->wpAny (model X.prog X.w) X.A (execs st X.env) (SP X pins D) X.xe s
theorem thn {α:Type}{t:Sem α}{Q Q':α->Shared->Prop}{M:Model}{A:Around}{E:Value->Shared->Prop}{s:Shared} (h:wpAny M A t Q E s) (hQ:∀ a s,Q a s->Q' a s):wpAny M A t Q' E s:=Ya9 h hQ λ_ _ x=>x
open PySem PySem.Spec PyProof.Rows
section
variable {X:Cx}
theorem bin {a b:Expr}{ta tb:TE} (ha:PE X a ta) (hb:PE X b tb) {pins:List (Addr × Obj)}{s:Shared}{σ:St}{H:Hp}{R:V->V->Hp->Prop} (I:Inv X pins σ H s) (h:ta σ H λx H1=>tb σ H1 λy H2=>R x y H2)
  {α:Type}{Q:α->Shared->Prop}{f:Value->Value->Sem α}
  (hf:∀ v u s2 x y H2,Inv X pins σ H2 s2->RelV x v->RelV y u->R x y H2->wpAny (model X.prog X.w) X.A (f v u) Q X.xe s2) :
  wpAny (model X.prog X.w) X.A (eval a X.env) (λv s₁=>wpAny (model X.prog X.w) X.A (eval b X.env) (λu s₂=>wpAny (model X.prog X.w) X.A (f v u) Q X.xe s₂) X.xe s₁) X.xe s:=by
 refine thn (ha pins s σ H _ I h) λv s1 ⟨x,H1,I1,r1,q1⟩=>?_;refine thn (hb pins s1 σ H1 _ I1 q1) λu s2 ⟨y,H2,I2,r2,q2⟩=>?_;exact hf v u s2 x y H2 I2 r1 r2 q2
inductive TVar (i:Nat) (σ:St) (H:Hp) (Q:VK):Prop
 |mk (v:V) (h:σ[i]? = some (some v)) (q:Q v H):TVar i σ H Q
def tVar (i:Nat):TE:=λσ H Q=>TVar i σ H Q
def tC (v:V):TE:=λ_ H Q=>Q v H
theorem Zp7 {i:Nat}{x:Str}{pos:Pos} (hN:X.N[i]? = some x) (hv:Vis X.env.scope x) (hd:(x == ("__debug__" : Str))=false:=by decide) (hcd:(x == ("__classdict__" : Str))=false:=by decide):PE X (.Name x pos) (tVar i):=by
 intro pins s σ H Q I h;obtain ⟨v,e,h⟩:=h;obtain ⟨m,hn,hl⟩:=I.loc;obtain ⟨u,r,l⟩:=hl i x v hN e hv;have fin:EP X pins σ Q u s:=⟨v,H,I,r,h⟩;rcases l with ⟨hk,hm⟩ | ⟨hk,c,hc,hcell⟩
 ·exact wpAny_Name (wpAny_loadName_local I.ok.kind hk hn hm fin) hd
 ·rcases hk with hk | hk
  ·exact wpAny_Name (wpAny_loadName_cell I.ok.kind hk hc hcell fin) hd
  ·exact wpAny_Name (wpAny_loadName_free I.ok.kind hk hc hcell fin hcd) hd
theorem Zae {i j pos}:PE X (.Constant (.int i) j pos) (tC (.int i)):=λ_ _ _ H _ I h=>wpAny_Constant_int ⟨.int i,H,I.tok _,⟨_,rfl⟩,h⟩
theorem Zgn {b j pos}:PE X (.Constant (.bool b) j pos) (tC (.bl b)):=λ_ _ _ H _ I h=>Constant_bool ⟨.bl b,H,I,rfl,h⟩
theorem ZbK {j pos}:PE X (.Constant .none j pos) (tC .non):=λ_ _ _ H _ I h=>Constant_none ⟨.non,H,I,rfl,h⟩
theorem Zd8 {x j pos}:PE X (.Constant (.str x) j pos) (tC (.str x)):=λ_ _ _ H _ I h=>Calls.Constant_str ⟨.str x,H,I.tok _,⟨_,rfl⟩,h⟩
def Gl (X:Cx) (x:Str):Prop:=X.env.kindOf x=some .globalImplicit
theorem Zdd {E:Value->Shared->Prop}{pins:List (Addr × Obj)}{s:Shared}{σ:St}{H:Hp}{x:Str}{u:Value}{pos:Pos}{Q:Value->Shared->Prop} (I:Inv X pins σ H s) (hg:Gl X x) (hm:X.mg x=some u) (h:Q u s)
  (hd:(x == ("__debug__" : Str))=false:=by decide):wpAny (model X.prog X.w) X.A (eval (.Name x pos) X.env) Q E s :=
 Calls.Name_function_global I.ok.kind hg (Calls.loadGlobal_global (by rw [I.ok.glob];exact I.mod.glob.keeps I.bk) hm h) hd
theorem Zcd {E:Value->Shared->Prop}{pins:List (Addr × Obj)}{s:Shared}{σ:St}{H:Hp}{x:Str}{u:Value}{pos:Pos}{Q:Value->Shared->Prop} (I:Inv X pins σ H s) (hg:Gl X x) (hm:X.mg x=none) (hv:bootBuiltins x=some u) (h:Q u s)
  (hn:x ≠ "__name__" := by decide) (hd:(x == ("__debug__" : Str))=false:=by decide):wpAny (model X.prog X.w) X.A (eval (.Name x pos) X.env) Q E s:=by
 obtain ⟨mb,h1,h2⟩:=I.mod.blt;exact Calls.Name_function_global I.ok.kind hg (Calls.loadGlobal_builtin (by rw [I.ok.glob];exact I.mod.glob.keeps I.bk) hm (by rw [I.ok.blt];exact h1.keeps I.bk) ((h2 x hn).trans hv) h) hd
theorem Zhj {x:Str}{v:V}{u:Value}{pos:Pos} (hg:Gl X x) (hm:X.mg x=some u) (r:RelV v u) (hd:(x == ("__debug__" : Str))=false:=by decide):PE X (.Name x pos) (tC v) :=
 λ_ _ _ H _ I h=>Zdd I hg hm ⟨v,H,I,r,h⟩ hd
theorem ZoQ {x:Str}{v:V}{u:Value}{pos:Pos} (hg:Gl X x) (hm:X.mg x=none) (hv:bootBuiltins x=some u) (r:RelV v u) (hn:x ≠ "__name__" := by decide) (hd:(x == ("__debug__" : Str))=false:=by decide):PE X (.Name x pos) (tC v) :=
 λ_ _ _ H _ I h=>Zcd I hg hm hv ⟨v,H,I,r,h⟩ hn hd
variable {a b:Expr}{ta tb:TE}{pos:Pos}
def PC (X:Cx) (op:CmpOp) (a b:Expr) (t:TE):Prop :=
 ∀ (pins:List (Addr × Obj)) (s:Shared) (σ:St) (H:Hp) (Q:VK),Inv X pins σ H s->t σ H Q ->
  wpAny (model X.prog X.w) X.A (eval a X.env) (λv s₁=>wpAny (model X.prog X.w) X.A (eval b X.env) (λu s₂=>wpAny (model X.prog X.w) X.A (compareOp op v u) (EP X pins σ Q) X.xe s₂) X.xe s₁) X.xe s
theorem Znb (b:Expr) {op:CmpOp} (h:op≠.In) (h2:op≠.NotIn):behindInMarks op b=false:=by
 have e1:(op == CmpOp.In)=false:=by cases op <;> first | rfl | exact absurd rfl h
 have e2:(op == CmpOp.NotIn)=false:=by cases op <;> first | rfl | exact absurd rfl h2
 cases b <;> simp [behindInMarks,e1,e2]
inductive IsB (x:V) (H:Hp) (Q:Bool->Hp->Prop):Prop
 |mk (k:Bool) (e:x=.bl k) (q:Q k H):IsB x H Q
def tB (t:TE):TT:=λσ H Q=>t σ H λx H1=>IsB x H1 Q
theorem ZnX {op:CmpOp}{t:TE} (h:PC X op a b t) (h1:behindInMarks op b=false:=by first | exact Znb _ (by decide) (by decide) | rfl):PT X (.Compare a [op] [b] pos) (tB t):=by
 intro pins s σ H Q I hw;refine wpAny_isTrue_Compare1 (thn (h pins s σ H _ I hw) λv s1 h1=>thn h1 λu s2 h2=>thn h2 λc s3 ⟨x,H1,I1,r1,q1⟩=>?_) h1;obtain ⟨d,rfl,q⟩:=q1;cases r1;exact wpAny_truthy_bool ⟨H1,I1,q⟩
theorem ZaB {e:Expr}{t:TE} (h:PE X e t) (he:∀ whole,isTrue e X.env whole=(do let v <- whole;standAt e.pos;holding [v] (truthy v)):=by intro _;rfl):PT X e (tB t):=by
 intro pins s σ H Q I hw;refine isTrue_plain (thn (h pins s σ H _ I hw) λv s1 ⟨x,H1,I1,r1,q1⟩=>?_) (he _);obtain ⟨d,rfl,q⟩:=q1;cases r1;exact wpAny_truthy_bool ⟨H1,I1,q⟩
variable {tA tB':TT}{rest:List Expr}
def tAnd (t u:TT):TT:=λσ H Q=>t σ H λc H1=>if c=true then u σ H1 Q else Q false H1
def tOr (t u:TT):TT:=λσ H Q=>t σ H λc H1=>if c=true then Q true H1 else u σ H1 Q
def tNot (t:TT):TT:=λσ H Q=>t σ H λc H1=>Q (!c) H1
theorem Zfh (ha:PT X a tA):PW X (.BoolOp .And [a] pos) tA:=by
 intro wh pins s σ H Q I h;refine isTrue_and (thn (ha pins s σ H Q I h) λc s1 e=>?_);cases c with
 |true=>exact isTrue_and_nil e
 |false=>exact e
theorem Zbo (ha:PT X a tA):PW X (.BoolOp .Or [a] pos) tA:=by
 intro wh pins s σ H Q I h;refine isTrue_or (thn (ha pins s σ H Q I h) λc s1 e=>?_);cases c with
 |false=>exact isTrue_or_nil e
 |true=>exact e
theorem Zgi (ha:PT X a tA) (hb:PW X (.BoolOp .And (b :: rest) pos) tB'):PW X (.BoolOp .And (a :: b :: rest) pos) (tAnd tA tB'):=by
 intro wh pins s σ H Q I h;refine isTrue_and (thn (ha pins s σ H _ I h) λc s1 ⟨H1,I1,q1⟩=>?_);cases c with
 |true=>exact hb wh pins s1 σ H1 Q I1 q1
 |false=>exact ⟨H1,I1,q1⟩
theorem Zbv (ha:PT X a tA) (hb:PW X (.BoolOp .Or (b :: rest) pos) tB'):PW X (.BoolOp .Or (a :: b :: rest) pos) (tOr tA tB'):=by
 intro wh pins s σ H Q I h;refine isTrue_or (thn (ha pins s σ H _ I h) λc s1 ⟨H1,I1,q1⟩=>?_);cases c with
 |true=>exact ⟨H1,I1,q1⟩
 |false=>exact hb wh pins s1 σ H1 Q I1 q1
theorem ZaC (ha:PT X a tA):PT X (.UnaryOp .Not a pos) (tNot tA):=by
 intro pins s σ H Q I h;exact isTrue_not (ha pins s σ H (λc H1=>Q (!c) H1) I h)
inductive AndI (t:TE) (σ:St) (Q:VK) (x:V) (H:Hp):Prop
 |mk (c:Bool) (e:x=.bl c) (q:if c=true then t σ H Q else Q (.bl false) H):AndI t σ Q x H
inductive OrI (t:TE) (σ:St) (Q:VK) (x:V) (H:Hp):Prop
 |mk (c:Bool) (e:x=.bl c) (q:if c=true then Q (.bl true) H else t σ H Q):OrI t σ Q x H
def Zos (ta tb:TE):TE:=λσ H Q=>ta σ H λx H1=>AndI tb σ Q x H1
def tOrV (ta tb:TE):TE:=λσ H Q=>ta σ H λx H1=>OrI tb σ Q x H1
def ZqX (ta:TE):TE:=λσ H Q=>ta σ H λx H1=>∃ c,x=.bl c/\Q (.bl (!c)) H1
theorem Zbw {op}{t:TE} (h:PE X a t):PE X (.BoolOp op [a] pos) t:=λpins s σ H Q I hw=>BoolOp_one (h pins s σ H Q I hw)
theorem ZbQ (ha:PE X a ta) (hb:PE X (.BoolOp .And (b :: rest) pos) tb):PE X (.BoolOp .And (a :: b :: rest) pos) (Zos ta tb):=by
 intro pins s σ H Q I h;refine BoolOp_and (thn (ha pins s σ H _ I h) λv s1 ⟨x,H1,I1,r1,q1⟩=>?_);obtain ⟨c,rfl,q1⟩:=q1;cases r1;refine wpAny_truthy_bool ?_;cases c with
 |true=>exact hb pins s1 σ H1 Q I1 q1
 |false=>exact ⟨.bl false,H1,I1,rfl,q1⟩
theorem ZmC (ha:PE X a ta) (hb:PE X (.BoolOp .Or (b :: rest) pos) tb):PE X (.BoolOp .Or (a :: b :: rest) pos) (tOrV ta tb):=by
 intro pins s σ H Q I h;refine BoolOp_or (thn (ha pins s σ H _ I h) λv s1 ⟨x,H1,I1,r1,q1⟩=>?_);obtain ⟨c,rfl,q1⟩:=q1;cases r1;refine wpAny_truthy_bool ?_;cases c with
 |false=>exact hb pins s1 σ H1 Q I1 q1
 |true=>exact ⟨.bl true,H1,I1,rfl,q1⟩
theorem Zkk (ha:PE X a ta):PE X (.UnaryOp .Not a pos) (ZqX ta):=by
 intro pins s σ H Q I h;refine UnaryOp_ (thn (ha pins s σ H _ I h) λv s1 ⟨x,H1,I1,r1,q1⟩=>?_);obtain ⟨c,rfl,q1⟩:=q1;cases r1;exact not_of (wpAny_truthy_bool ⟨.bl (!c),H1,I1,rfl,q1⟩)
def tIf (t:TT) (ta tb:TE):TE:=λσ H Q=>t σ H λc H1=>if c=true then ta σ H1 Q else tb σ H1 Q
theorem Zfm {c:Expr} (hc:PT X c tA) (ha:PE X a ta) (hb:PE X b tb):PE X (.IfExp c a b pos) (tIf tA ta tb):=by
 intro pins s σ H Q I h;refine wpAny_IfExp (thn (hc pins s σ H _ I h) λd s1 ⟨H1,I1,q1⟩=>?_);cases d with
 |true=>exact ha pins s1 σ H1 Q I1 q1
 |false=>exact hb pins s1 σ H1 Q I1 q1
end
open PySem PySem.Spec PyProof.Rows
def SqL (K:Yab) (H:Hp) (a:Addr) (xs:List V):Prop :=
 Rd H a (.lst xs) \/
  ∃ (o:Obj) (its:Array Value) (n:Nat),K.lookup a=some o/\o.cls=.type "list" /\ o.dict=none/\o.data=.seq its n/\its.size<=sizeLine/\Vals xs its.toList
def SqT (K:Yab) (H:Hp) (a:Addr) (xs:List V):Prop :=
 Rd H a (.tup xs) \/
  ∃ (o:Obj) (its:Array Value) (n:Nat),K.lookup a=some o/\o.cls=.type "tuple" /\ o.data=.seq its n/\its.size<=sizeLine/\Vals xs its.toList
def absV:Value->Option V
 | .none=>some .non
 | .bool b=>some (.bl b)
 | .int i _=>some (.int i)
 | .str x _=>some (.str x)
 | .bytes b _=>some (.byt b)
 | .float b _=>some (.flt b)
 | .ref a=>some (.ref a)
 | .type n=>some (.ty n)
 |_=>none
theorem RelV.abs {x:V}{u:Value} (r:RelV x u):absV u=some x:=by
 cases x with
 |non=>cases r;rfl
 |bl _=>cases r;rfl
 |int _=>obtain ⟨t,rfl⟩:=r;rfl
 |str _=>obtain ⟨t,rfl⟩:=r;rfl
 |byt _=>obtain ⟨t,rfl⟩:=r;rfl
 |flt _=>obtain ⟨t,rfl⟩:=r;rfl
 |ref _=>cases r;rfl
 |ty _=>cases r;rfl
theorem RelV.inj {x y:V}{u:Value} (r:RelV x u) (q:RelV y u):x=y:=Yae (r.abs.symm.trans q.abs)
theorem Vals.inj:∀ {xs ys:List V}{us:List Value},Vals xs us->Vals ys us->xs=ys
 |_,_,_,.nil,.nil=>rfl
 |_,_,_,.cons r t,.cons r' t'=>by rw [r.inj r',Vals.inj t t']
section
variable {X:Cx}{pins:List (Addr × Obj)}{σ:St}{H:Hp}{s:Shared}{a:Addr}{xs ys:List V}
theorem sqo {K:Yab} (h:H a=some (.lst xs)):SqL K H a xs:=.inl (.inl h)
theorem sqt {K:Yab} (h:H a=some (.tup xs)):SqT K H a xs:=.inl (.inl h)
theorem Inv.list (I:Inv X pins σ H s) (h:SqL X.K H a xs):∃ its:List Value,Vals xs its/\PlainL s.heap a its.toArray/\xs.length<=sizeLine:=by
 rcases h with h | ⟨o,its,n,hk,hc,hd,hs,hz,r⟩
 ·obtain ⟨z,its,n,r,e⟩:=h.ok I.hok;exact ⟨its,r,⟨_,n,e,rfl,rfl,rfl⟩,z⟩
 ·refine ⟨its.toList,r,⟨o,n,I.kIn a o hk,hc,hd,by simpa using hs⟩,?_⟩;have e:=r.length;simp only [YaD] at e;omega
theorem Inv.tuple (I:Inv X pins σ H s) (h:SqT X.K H a xs):∃ its:List Value,Vals xs its/\IsTup s.heap a its.toArray/\xs.length<=sizeLine:=by
 rcases h with h | ⟨o,its,n,hk,hc,hs,hz,r⟩
 ·obtain ⟨z,its,r,p⟩:=h.ok I.hok;exact ⟨its,r,p,z⟩
 ·refine ⟨its.toList,r,⟨o,I.kIn a o hk,hc,n,by simpa using hs⟩,?_⟩;have e:=r.length;simp only [YaD] at e;omega
theorem Inv.list_inj (I:Inv X pins σ H s) (h:SqL X.K H a xs) (h':SqL X.K H a ys):xs=ys:=by
 obtain ⟨its,r,⟨o,n,e,_,_,d⟩,_⟩:=I.list h;obtain ⟨its',r',⟨o',n',e',_,_,d'⟩,_⟩:=I.list h';rw [e] at e';cases e';rw [d] at d';injection d' with d1 _;have:its=its':=by simpa using congrArg Array.toList d1
 subst this;exact r.inj r'
theorem Inv.tuple_inj (I:Inv X pins σ H s) (h:SqT X.K H a xs) (h':SqT X.K H a ys):xs=ys:=by
 obtain ⟨its,r,⟨o,e,_,n,d⟩,_⟩:=I.tuple h;obtain ⟨its',r',⟨o',e',_,n',d'⟩,_⟩:=I.tuple h';rw [e] at e';cases e';rw [d] at d';injection d' with d1 _;have:its=its':=by simpa using congrArg Array.toList d1
 subst this;exact r.inj r'
end
abbrev Cx.wish (X:Cx) (E:Value->Shared->Prop):Cx:={ X with xe:=E }
abbrev Cx.nox (X:Cx):Cx:=X.wish λ_ _=>False
theorem Cx.Ok.wish {X:Cx} (ok:X.Ok) (E:Value->Shared->Prop):(X.wish E).Ok :=
 ⟨ok.mod,ok.kind,ok.glob,ok.blt,ok.above,ok.inj,ok.has,ok.cab,ok.hd,ok.frames,ok.stk,ok.exf,ok.bs,ok.bsz,ok.noex,ok.exfs,ok.funs,ok.frf⟩
theorem Cx.Ok.unwish {X:Cx}{E:Value->Shared->Prop} (ok:(X.wish E).Ok):X.Ok :=
 ⟨ok.mod,ok.kind,ok.glob,ok.blt,ok.above,ok.inj,ok.has,ok.cab,ok.hd,ok.frames,ok.stk,ok.exf,ok.bs,ok.bsz,ok.noex,ok.exfs,ok.funs,ok.frf⟩
section
variable {X:Cx}{pins:List (Addr × Obj)}{σ:St}{H:Hp}{s:Shared}{E:Value->Shared->Prop}
theorem Inv.wish (I:Inv X pins σ H s) (E:Value->Shared->Prop):Inv (X.wish E) pins σ H s:=⟨I.ok.wish E,I.os,I.bare,I.base,I.loc,I.cell,I.free,I.freeC,I.pin,I.hok,I.len⟩
theorem Inv.unwish (I:Inv (X.wish E) pins σ H s):Inv X pins σ H s:=⟨I.ok.unwish,I.os,I.bare,I.base,I.loc,I.cell,I.free,I.freeC,I.pin,I.hok,I.len⟩
theorem SP.unwish {D:Ends}{f:Flow}{s':Shared} (h:SP (X.wish E) pins D f s'):SP X pins D f s':=by
 cases f with
 |next=>obtain ⟨σ',H',I,q⟩:=h;exact ⟨σ',H',I.unwish,q⟩
 |brk=>obtain ⟨σ',H',I,q⟩:=h;exact ⟨σ',H',I.unwish,q⟩
 |cont=>obtain ⟨σ',H',I,q⟩:=h;exact ⟨σ',H',I.unwish,q⟩
 |ret u=>obtain ⟨v,σ',H',I,r,q⟩:=h;exact ⟨v,σ',H',I.unwish,r,q⟩
theorem PSs.nox {st:List Stmt}{t:TS} (h:PSs X.nox st t):PSs X st t:=λpins s σ H D I hw =>
 Ya9 (h pins s σ H D (I.wish _) hw) (λ_ _ q=>q.unwish) λ_ _ z=>False.elim z
end
section
variable {X:Cx}{st:Stmt}{rest:List Stmt}{t u:TS}{e:Expr}{te:TE}{pos:Pos}
def Zma:TS:=λD σ H=>D.nx σ H
def tSeq (t u:TS):TS:=λD σ H=>t { D with nx:=u D } σ H
theorem ZaI:PSs X [] Zma:=λ_ _ σ H _ I h=>wpAny_execs_nil ⟨σ,H,I,h⟩
theorem Zaa (h1:PS X st t) (h2:PSs X rest u):PSs X (st :: rest) (tSeq t u):=by
 intro pins s σ H D I h;refine wpAny_execs_cons (thn (h1 pins s σ H { D with nx:=u D } I h) λf s1 q=>?_);cases f with
 |next =>
  obtain ⟨σ',H',I',q⟩:=q;exact h2 pins s1 σ' H' D I' q
 |ret v=>exact q
 |brk=>exact q
 |cont=>exact q
theorem Zaf (h1:PS X st t):PSs X [st] t:=by
 intro pins s σ H D I h;refine wpAny_execs_cons (thn (h1 pins s σ H D I h) λf s1 q=>?_);cases f with
 |next=>exact wpAny_execs_nil q
 |ret v=>exact q
 |brk=>exact q
 |cont=>exact q
def ZpQ:TS:=λD σ H=>D.bk σ H
theorem ZmA:PS X (.Break pos) ZpQ:=λ_ _ σ H _ I h=>wpAny_Break ⟨σ,H,I,h⟩
theorem Inv.quiet {pins:List (Addr × Obj)}{σ:St}{H:Hp}{s:Shared} (I:Inv X pins σ H s):interactive X.env=false:=by simp [interactive,I.ok.kind]
def Zq1 (te:TE):TS:=λD σ H=>te σ H λ_ H1=>D.nx σ H1
theorem Zaq (he:PE X e te) (hs:swapsWith e none pos.line X.env=pure false:=by rfl):PS X (.Expr e pos) (Zq1 te):=by
 intro pins s σ H D I h;exact wpAny_Expr_any (thn (he pins s σ H _ I h) λv s1 ⟨x,H1,I1,r1,q1⟩=>⟨σ,H1,I1,q1⟩) I.quiet hs
def tRet (te:TE):TS:=λD σ H=>te σ H D.rt
theorem Zak (he:PE X e te):PS X (.Return (some e) pos) (tRet te):=by
 intro pins s σ H D I h;exact wpAny_Return_some (thn (he pins s σ H _ I h) λv s1 ⟨x,H1,I1,r1,q1⟩=>⟨x,σ,H1,I1,r1,q1⟩)
def tIfS (c:TT) (t u:TS):TS:=λD σ H=>c σ H λb H1=>if b=true then t D σ H1 else u D σ H1
theorem Zbn {c:Expr}{a b:List Stmt}{tc:TT} (hc:PT X c tc) (ha:PSs X a t) (hb:PSs X b u):PS X (.If c a b pos) (tIfS tc t u):=by
 intro pins s σ H D I h;refine wpAny_If (thn (hc pins s σ H _ I h) λd s1 ⟨H1,I1,q1⟩=>?_);cases d with
 |true=>exact ha pins s1 σ H1 D I1 q1
 |false=>exact hb pins s1 σ H1 D I1 q1
def ZpN:TS:=λ_ _ _=>False
theorem ZaX {sts:List Stmt}:PSs X sts ZpN:=λ_ _ _ _ _ _ h=>h.elim
end
abbrev TG:=V->St->Hp->(St->Hp->Prop)->Prop
abbrev TGs:=List V->St->Hp->(St->Hp->Prop)->Prop
def PG (X:Cx) (target:Expr) (t:TG):Prop :=
 ∀ (pins:List (Addr × Obj)) (s:Shared) (σ:St) (H:Hp) (v:V) (u:Value) (Q:St->Hp->Prop),Inv X pins σ H s->RelV v u->t v σ H Q ->
  wpAny (model X.prog X.w) X.A (assign target X.env u) (λ_ s'=>∃ σ' H',Inv X pins σ' H' s'/\Q σ' H') X.xe s
def PGs (X:Cx) (ts:List Expr) (t:TGs):Prop :=
 ∀ (pins:List (Addr × Obj)) (s:Shared) (σ:St) (H:Hp) (vs:List V) (us:List Value) (Q:St->Hp->Prop),Inv X pins σ H s->Vals vs us->t vs σ H Q ->
  wpAny (model X.prog X.w) X.A (assignInOrder ((assignEach ts X.env).map (·.2)) us) (λ_ s'=>∃ σ' H',Inv X pins σ' H' s'/\Q σ' H') X.xe s
abbrev TSet:=V->V->V->Hp->(Hp->Prop)->Prop
def PSet (X:Cx) (t:TSet):Prop :=
 ∀ (pins:List (Addr × Obj)) (s:Shared) (σ:St) (H:Hp) (o i v:V) (ov iv u:Value) (Q:Hp->Prop),Inv X pins σ H s->RelV o ov->RelV i iv->RelV v u->t o i v H Q ->
  wpAny (model X.prog X.w) X.A (setItem ov iv u) (λ_ s'=>∃ H',Inv X pins σ H' s'/\Q H') X.xe s
abbrev TIp:=V->V->Hp->VK->Prop
def PIp (X:Cx) (op:Operator) (t:TIp):Prop :=
 ∀ (pins:List (Addr × Obj)) (s:Shared) (σ:St) (H:Hp) (x y:V) (v u:Value) (Q:VK),Inv X pins σ H s->RelV x v->RelV y u->t x y H Q ->
  wpAny (model X.prog X.w) X.A (inplaceOp op v u) (EP X pins σ Q) X.xe s
section
variable {X:Cx}{pos:Pos}
def Za1 (i:Nat):TG:=λv σ H Q=>Q (σ.set i (some v)) H
theorem Zax {i:Nat}{x:Str} (hN:X.N.Nodup) (hi:X.N[i]? = some x) (hx:Loc X.env.scope x) (hf:X.fn x=true\/X.env.scope.names.lookup x=some .local:=by first | exact .inl rfl | exact .inr rfl | assumption):PG X (.Name x pos) (Za1 i):=by
 intro pins s σ H v u Q I r h;exact wpAny_assign_Name (ZcO I hN hi hx r (λs' I'=>⟨_,H,I',h⟩) hf)
def gNil:TGs:=λvs σ H Q=>vs=[]/\Q σ H
inductive GCons (t:TG) (u:TGs) (vs:List V) (σ:St) (H:Hp) (Q:St->Hp->Prop):Prop
 |mk (v:V) (r:List V) (h:vs=v :: r) (q:t v σ H λσ' H'=>u r σ' H' Q):GCons t u vs σ H Q
def Zb7 (t:TG) (u:TGs):TGs:=λvs σ H Q=>GCons t u vs σ H Q
theorem Zb3:PGs X [] gNil:=by
 intro pins s σ H vs us Q I r h;obtain ⟨e,h⟩:=h;subst e;cases r;exact assignInOrder_nil ⟨σ,H,I,h⟩
theorem ZaS {e:Expr}{es:List Expr}{t:TG}{u:TGs} (h1:PG X e t) (h2:PGs X es u)
  (hs:(assignEach (e :: es) X.env).map (·.2)=assign e X.env :: (assignEach es X.env).map (·.2):=by rfl):PGs X (e :: es) (Zb7 t u):=by
 intro pins s σ H vs us Q I r h;obtain ⟨v,vr,e1,h⟩:=h;subst e1;cases r with
 |cons r rr =>
  rw [hs];refine assignInOrder_cons (thn (h1 pins s σ H _ _ _ I r h) λ_ s1 ⟨σ1,H1,I1,q1⟩=>?_);exact h2 pins s1 σ1 H1 _ _ Q I1 rr q1
inductive GTup (K:Yab) (n:Nat) (t:TGs) (v:V) (σ:St) (H:Hp) (Q:St->Hp->Prop):Prop
 |mk (a:Addr) (xs:List V) (h1:v=.ref a) (h2:SqT K H a xs) (h3:xs.length=n) (q:t xs σ H Q):GTup K n t v σ H Q
def gTup (K:Yab) (n:Nat) (t:TGs):TG:=λv σ H Q=>GTup K n t v σ H Q
theorem ZcR {es:List Expr}{k:Nat}{t:TGs}{n:Nat} (hc:X.calm=true) (h:PGs X es t)
  (hn:(assignEach es X.env).length=n:=by rfl) (hst:(assignEach es X.env).findIdx? (·.1)=none:=by rfl):PG X (.Tuple es k pos) (gTup X.K n t):=by
 intro pins s σ H v u Q I r hw;obtain ⟨a,xs,e1,hq,hl,hw⟩:=hw;subst e1;cases r;obtain ⟨its,rv,ht,hz⟩:=I.tuple hq;refine assign_Tuple_tuple (I.ok.hd hc) ht (by simp [hn,<- hl,rv.length]) hst λh' hx=>?_;have I1:Inv X pins σ H { s with heap:=h' }:=I.kept (t':=s.toks) λb o e=>hx b o (Yap (Yal e)) e;exact h pins _ σ H xs _ Q I1 (by simpa using rv) hw
def gSub (to ti:TE) (t:TSet):TG:=λv σ H Q=>to σ H λo H1=>ti σ H1 λi H2=>t o i v H2 λH3=>Q σ H3
theorem Zkg {o i:Expr}{to ti:TE}{t:TSet} (ho:PE X o to) (hi:PE X i ti) (hs:PSet X t)
  (ha:∀ v,assign (.Subscript o i pos) X.env v=(do
   let ov <- holding [v] (eval o X.env)
   let iv <- holding [v,ov] (eval i X.env)
   standAt pos
   holding [v,ov,iv] (setItem ov iv v)
   release [v,ov,iv] []):=by intro _;rfl):PG X (.Subscript o i pos) (gSub to ti t):=by
 intro pins s σ H v u Q I r h;rw [ha];refine Ya3 (wpAny_holding (thn (ho pins s σ H _ I h) λov s1 ⟨x,H1,I1,r1,q1⟩=>?_));refine Ya3 (wpAny_holding (thn (hi pins s1 σ H1 _ I1 q1) λiv s2 ⟨y,H2,I2,r2,q2⟩=>?_));refine Ya3 (wpAny_standAt (Ya3 (wpAny_holding (thn (hs pins s2 σ H2 x y v ov iv u _ I2 r1 r2 r q2) λ_ s3 ⟨H3,I3,q3⟩=>?_))));exact wpAny_release ⟨σ,H3,I3,q3⟩
def tAsg (te:TE) (g:TG):TS:=λD σ H=>te σ H λx H1=>g x σ H1 D.nx
theorem ZeT {tg e:Expr}{te:TE}{g:TG} (he:PE X e te) (hg:PG X tg g) (hs:swapsWithSole [tg] e pos.line X.env=pure false:=by rfl) (hw:swappedStores [tg] e X.env=pure none:=by rfl)
  (h1:(assignEach [tg] X.env).map (·.2)=[assign tg X.env]:=by rfl):PS X (.Assign [tg] e pos) (tAsg te g):=by
 intro pins s σ H D I h;refine wpAny_Assign_stores (thn (he pins s σ H _ I h) λv s1 ⟨x,H1,I1,r1,q1⟩=>?_) hs hw;rw [h1];exact thn (hg pins s1 σ H1 x v _ I1 r1 q1) λ_ s2 q=>q
theorem Zal {i:Nat}{x:Str}{e:Expr}{te:TE}{pos':Pos} (hN:X.N.Nodup) (hi:X.N[i]? = some x) (hx:Loc X.env.scope x) (he:PE X e te) (hs:swapsWith e (some (.Name x pos')) pos.line X.env=pure false:=by rfl) (hf:X.fn x=true\/X.env.scope.names.lookup x=some .local:=by first | exact .inl rfl | exact .inr rfl | assumption) :
  PS X (.Assign [.Name x pos'] e pos) (tAsg te (Za1 i)):=by
 intro pins s σ H D I h;refine wpAny_Assign_Name (thn (he pins s σ H _ I h) λv s1 ⟨y,H1,I1,r1,q1⟩=>?_) hs;exact ZcO I1 hN hi hx r1 (λs2 I2=>⟨_,H1,I2,q1⟩) hf
def tPar (i j:Nat) (ta:TA):TS:=λD σ H=>ta σ H λvs H1=>∃ v w,vs=[v,w]/\D.nx ((σ.set i (some v)).set j (some w)) H1
theorem Zib {i j:Nat}{x y:Str}{a b:Expr}{ta:TA}{px py pt:Pos}{kt k2 pt2} (hc:X.calm=true) (hN:X.N.Nodup) (hi:X.N[i]? = some x) (hj:X.N[j]? = some y) (hij:i≠j)
  (hx:X.env.scope.names.lookup x=some .local) (hy:X.env.scope.names.lookup y=some .local) (ha:PA X [a,b] ta)
  (hw:swappedStores [.Tuple [.Name x px,.Name y py] kt pt] (.Tuple [a,b] k2 pt2) X.env=pure (some [x,y]))
  (hs:swapsWithSole [.Tuple [.Name x px,.Name y py] kt pt] (.Tuple [a,b] k2 pt2) pos.line X.env=pure false:=by rfl) :
  PS X (.Assign [.Tuple [.Name x px,.Name y py] kt pt] (.Tuple [a,b] k2 pt2) pos) (tPar i j ta):=by
 intro pins s σ H D I h;rw [exec_Assign_arm];refine Ya3 (wpAny_standAt ?_);rw [hs];refine Ya3 (Ya8 ?_);rw [Ya6 (by decide)];refine Ya3 (Tuple_ (thn (ha _ pins s σ H _ I h) λus s1 ⟨vs,H1,I1,r1,q1⟩=>?_));obtain ⟨v,w,e1,q1⟩:=q1;subst e1;obtain ⟨u1,u2,rfl,rv,rw'⟩:∃ u1 u2,us=[u1,u2]/\RelV v u1/\RelV w u2:=by
  cases r1 with
  |cons p q =>
   cases q with
   |cons p' q' =>
    cases q';exact ⟨_,_,rfl,p,p'⟩
 refine wpAny_newObj_type ?_ (by show 2<=sizeLine;decide);have I2:Inv X pins σ H1 { s1 with heap:=s1.heap.push { cls:=.type "tuple",data:=.seq [u1,u2].toArray } }:=I1.kept (t':=s1.toks) λb o e=>Yad _ e;rw [hw];refine Ya3 (Ya8 ?_);show wpAny (model X.prog X.w) X.A (do rule "assign.swapped-stores"; let items <- unpackItems (.ref s1.heap.objs.size) 2 none;assignInOrder [λv=>bindName X.env y v,λv=>bindName X.env x v] items.reverse;pure Flow.next) _ _ _;refine Ya3 (wpAny_rule (Ya3 (unpackItems_tuple (items:=#[u1,u2]) (I.ok.hd hc) (IsTup.new s1.heap _) λh' hx'=>?_)));have I3:=I2.kept (h':=h') (t':=s1.toks) λb o e=>hx' b o (Yap (Yal e)) e;show wpAny _ _ (assignInOrder [λv=>bindName X.env y v,λv=>bindName X.env x v] [u2,u1] >>= λ_=>pure Flow.next) _ _ _;refine Ya3 (assignInOrder_cons (wpAny_bindName (ZcO I3 hN hj (.inl hy) rw' (λs2 I4=>?_) (.inr hy))));refine assignInOrder_cons (wpAny_bindName (ZcO I4 hN hi (.inl hx) rv (λs3 I5=>assignInOrder_nil (Ya8 ?_)) (.inr hx)));rw [List.set_comm _ _ (Ne.symm hij)] at I5;exact ⟨_,H1,I5,q1⟩
def tAug (i:Nat) (te:TE) (ti:TIp):TS:=λD σ H=>∃ x,σ[i]? = some (some x)/\te σ H λy H1=>ti x y H1 λz H2=>D.nx (σ.set i (some z)) H2
theorem Zkd {i:Nat}{x:Str}{e:Expr}{te:TE}{op:Operator}{ti:TIp}{pos':Pos} (hN:X.N.Nodup) (hi:X.N[i]? = some x) (hx:Loc X.env.scope x) (he:PE X e te) (ho:PIp X op ti) (hf:X.fn x=true\/X.env.scope.names.lookup x=some .local:=by first | exact .inl rfl | exact .inr rfl | assumption) :
  PS X (.AugAssign (.Name x pos') op e pos) (tAug i te ti):=by
 intro pins s σ H D I h;obtain ⟨v,e1,h⟩:=h;obtain ⟨m,hn,hl⟩:=I.loc;have vis:Vis X.env.scope x:=by rcases hx with k | k;exact .inl k;exact .inr (.inl k)
 obtain ⟨u,r,l⟩:=hl i x v hi e1 vis;refine wpAny_AugAssign_Name ?_;have go:wpAny (model X.prog X.w) X.A (eval e X.env) (λw s₂=>wpAny (model X.prog X.w) X.A (inplaceOp op u w) (λr s₃=>wpAny (model X.prog X.w) X.A (storeName X.env x r) (λ_=>SP X pins D .next) X.xe s₃) X.xe s₂) X.xe s:=by
  refine thn (he pins s σ H _ I h) λw s1 ⟨y,H1,I1,r1,q1⟩=>?_;refine thn (ho pins s1 σ H1 v y u w _ I1 r r1 q1) λz s2 ⟨zv,H2,I2,r2,q2⟩=>?_;exact ZcO I2 hN hi hx r2 (λs3 I3=>⟨_,H2,I3,q2⟩) hf
 rcases l with ⟨hk,hm⟩ | ⟨hk,c,hc,hcell⟩
 ·exact wpAny_loadName_local I.ok.kind hk hn hm go
 ·rcases hk with hk | hk
  ·exact wpAny_loadName_cell I.ok.kind hk hc hcell go
  ·rcases hx with k | k
   ·have:X.env.scope.names.lookup x=some .free:=hk;rw [k] at this;cases this
   ·have:X.env.scope.names.lookup x=some .free:=hk;rw [k] at this;cases this
def ipI (f:Int->Int->Int):TIp:=λx y H Q=>∃ i j,x=.int i/\y=.int j/\Q (.int (f i j)) H
theorem ZqG:PIp X .Add (ipI λi j=>i+j):=by
 intro pins s σ H x y v u Q I r1 r2 h;obtain ⟨i,j,e1,e2,q⟩:=h;subst e1;subst e2;obtain ⟨t,rfl⟩:=r1;obtain ⟨t',rfl⟩:=r2;exact iadd_int ⟨.int _,H,I.tok _,⟨_,rfl⟩,q⟩
theorem ZqF:PIp X .Sub (ipI λi j=>i - j):=by
 intro pins s σ H x y v u Q I r1 r2 h;obtain ⟨i,j,e1,e2,q⟩:=h;subst e1;subst e2;obtain ⟨t,rfl⟩:=r1;obtain ⟨t',rfl⟩:=r2;exact isub_int ⟨.int _,H,I.tok _,⟨_,rfl⟩,q⟩
def ZpL (c:TT) (tb:TS):TS:=λD σ H=>∃ W:Nat->St->Hp->Prop,(∃ m,W m σ H)/\∀ m σ H,W m σ H ->
 c σ H λb H1=>if b=true then ∃ N:St->Hp->Prop,(∀ σ' H',N σ' H'->∃ m',m'<m/\W m' σ' H')/\tb { D with nx:=N,ct:=N,bk:=D.nx } σ H1 else D.nx σ H1
theorem Zia {c:Expr}{body:List Stmt}{tc:TT}{tb:TS} (hp:PassesOwn (model X.prog X.w) X.A X.env X.xe) (hc:PT X c tc) (hb:PSs X body tb):PS X (.While c body [] pos) (ZpL tc tb):=by
 intro pins s σ H D I h;obtain ⟨W,⟨m0,w0⟩,turn⟩:=h;refine wpAny_While (codeAny_whileLoop (λn s'=>∃ σ' H',Inv X pins σ' H' s'/\W n σ' H') ?_ m0 ⟨σ,H,I,w0⟩);rintro n s1 ⟨σ1,H1,I1,w1⟩;refine wpAny_passesOwn hp (thn (hc pins s1 σ1 H1 _ I1 (turn n σ1 H1 w1)) λb s2 ⟨H2,I2,q2⟩=>?_);cases b with
 |true =>
  obtain ⟨N,hN,q2⟩:=q2;rw [Ya7 rfl];refine wpAny_passesOwn hp (thn (hb pins s2 σ1 H2 _ I2 q2) λf s3 q3=>?_);cases f with
  |next =>
   obtain ⟨σ3,H3,I3,n3⟩:=q3;obtain ⟨m',hm,w3⟩:=hN σ3 H3 n3;exact ⟨m',hm,σ3,H3,I3,w3⟩
  |cont =>
   obtain ⟨σ3,H3,I3,n3⟩:=q3;obtain ⟨m',hm,w3⟩:=hN σ3 H3 n3;exact ⟨m',hm,σ3,H3,I3,w3⟩
  |brk=>exact q3
  |ret v=>exact q3
 |false =>
  rw [Ya6 Yaq];exact wpAny_execs_nil ⟨σ1,H2,I2,q2⟩
end
structure It where
 go:Nat->Hp->Prop
 yld:Nat->Hp->V->Hp->Prop
 stop:Nat->Hp->Prop
def FpOk (X:Cx) (pins:List (Addr × Obj)) (H:Hp) (b:Addr):Prop :=
 H b=none/\b≠X.env.locals/\b∉X.fs/\(b∈X.ex\/X.s₀.heap.objs.size<=b)/\(∀ x c,X.env.cells.lookup x=some c->c≠b)/\∀ p∈X.pn ++ pins,p.1≠b
theorem Inv.fpOk {X:Cx}{pins:List (Addr × Obj)}{σ:St}{H H':Hp}{s:Shared}{b:Addr} (I:Inv X pins σ H s) (hb:s.heap.objs.size<=b) (hn:H' b=none):FpOk X pins H' b:=by
 refine ⟨hn,Nat.ne_of_gt (Yan I.lt hb),I.nofs hb,.inr (Yay I.sz hb),λx c e z=>?_,λp hp z=>?_⟩
 ·obtain ⟨v,q⟩:=I.cell x c e;exact absurd (Yan q.lt (by rw [z];exact hb)) (Ybq _)
 ·exact absurd (Yan (Yal (I.pin p hp).1) (by rw [z];exact hb)) (Ybq _)
structure Turn (P:Program) (w:World) (K:Yab) (tg:Expr) (J:It) (fp:List Addr) (it:Addr) (tn:Nat->Heap->Prop):Prop where
 mem:it∈fp
 obj:∀ i h,tn i h->∀ b∈fp,∃ o,h.get? b=some o/\∀ v,o.data≠.cell v
 keep:∀ i h h',tn i h->(∀ b∈fp,∀ o,h.get? b=some o->h'.get? b=some o)->tn i h'
 item:∀ (X:Cx),X.prog=P->X.w=w->X.K=K->X.calm=true->∀ (i:Nat) (pins:List (Addr × Obj)) (s:Shared) (σ:St) (H:Hp) (E:Value->Shared->Prop),Inv X pins σ H s->(∀ b∈fp,FpOk X pins H b)->tn i s.heap->J.go i H ->
  wpAny (model P w) X.A (pyNext (.ref it)) (λr s1=>∃ u,r=some u /\
   wpAny (model P w) X.A (letOwnedTupleGo tg (.ref it) u) (λ_ s2=>∃ x H',Inv X pins σ H' s2/\RelV x u/\J.yld i H x H'/\tn (i+1) s2.heap/\∀ b∈fp,H' b=none) E s1) E s
 done:∀ (X:Cx),X.prog=P->X.w=w->X.K=K->X.calm=true->∀ (i:Nat) (pins:List (Addr × Obj)) (s:Shared) (σ:St) (H:Hp) (E:Value->Shared->Prop),Inv X pins σ H s->(∀ b∈fp,FpOk X pins H b)->tn i s.heap->J.stop i H ->
  wpAny (model P w) X.A (pyNext (.ref it)) (λr s1=>r=none/\Inv X pins σ H s1) E s
 self:∀ (A:Around) (i:Nat) (s:Shared) (Q:Value->Shared->Prop) (E:Value->Shared->Prop),tn i s.heap->Q (.ref it) s->wpAny (model P w) A (pyIter (.ref it)) Q E s
abbrev TI:=St->Hp->(It->Hp->Prop)->Prop
def PIE (X:Cx) (pins:List (Addr × Obj)) (σ:St) (tg:Expr) (R:It->Hp->Prop) (itv:Value) (s2:Shared):Prop :=
 ∃ (it:Addr) (fp:List Addr) (tn:Nat->Heap->Prop) (J:It) (H':Hp),itv=.ref it/\Inv X pins σ H' s2/\Turn X.prog X.w X.K tg J fp it tn/\tn 0 s2.heap/\(∀ b∈fp,FpOk X pins H' b)/\R J H'
def PI (X:Cx) (tg iter:Expr) (wi:TI):Prop :=
 ∀ (pins:List (Addr × Obj)) (s:Shared) (σ:St) (H:Hp) (R:It->Hp->Prop),Inv X pins σ H s->wi σ H R ->
  wpAny (model X.prog X.w) X.A (eval iter X.env) (λv s1=>wpAny (model X.prog X.w) X.A (pyIter v) (PIE X pins σ tg R) X.xe s1) X.xe s
theorem Zk9 {M:Model}{A:Around}{E:Value->Shared->Prop}{s:Shared}{tg:Expr}{it:Addr}{u:Value}{o:Obj}{n:String}{vs:Array Value}{Q:Unit->Shared->Prop} (ho:s.heap.get? it=some o) (hc:o.cls=.type n) (hd:o.data=.fields vs)
  (hn:["enumerate","zip","dict_itemiterator","dict_reverseitemiterator","odict_iterator","itertools.zip_longest","itertools.pairwise"].contains n=false) (hQ:Q () s):wpAny M A (letOwnedTupleGo tg (.ref it) u) Q E s:=by
 unfold letOwnedTupleGo;cases tg <;> first
  |exact Ya8 hQ
  | (cases u <;> first
    |exact Ya8 hQ
    | (refine Ya3 (wpAny_load ho ?_)
       rw [hc,hd];show wpAny M A (if (["enumerate","zip","dict_itemiterator","dict_reverseitemiterator","odict_iterator","itertools.zip_longest","itertools.pairwise"].contains n && vs[0]? == some (rawInt _))=true then _ else _) Q E s;rw [Ya6 (by intro h;rw [hn,Bool.false_and] at h;cases h)]
       exact Ya8 hQ))
def Itl (K:Yab) (a:Addr):It :=
 ⟨λi H=>∃ xs x,SqL K H a xs/\xs[i]? = some x,λi H x H'=>H'=H/\∀ xs,SqL K H a xs->xs[i]? = some x,λi H=>∃ xs,SqL K H a xs/\xs.length<=i⟩
def Itt (K:Yab) (a:Addr):It :=
 ⟨λi H=>∃ xs x,SqT K H a xs/\xs[i]? = some x,λi H x H'=>H'=H/\∀ xs,SqT K H a xs->xs[i]? = some x,λi H=>∃ xs,SqT K H a xs/\xs.length<=i⟩
def Itr (lo:Int) (n:Nat):It:=⟨λi _=>i<n,λi H x H'=>H'=H/\x=.int (lo+i),λi _=>n<=i⟩
theorem ZjB {P:Program}{w:World}{K:Yab}{tg:Expr} (a it:Addr):Turn P w K tg (Itl K a) [it] it (λi h=>h.IsListIter it a i) where
 mem:=by simp
 obj:=λi h st b hb=>by
  have e:b=it:=by simpa using hb
  subst e;obtain ⟨o,e,c,d⟩:=st;exact ⟨o,e,λv z=>by rw [d] at z;cases z⟩
 keep:=λi h h' st k=>st.at λo e=>k it (by simp) o e
 item:=by
  intro X hP hw hK hc i pins s σ H E I hf st hg;subst hP hw hK;obtain ⟨xs,x,hq,hx⟩:=hg;obtain ⟨its,rv,p,hz⟩:=I.list hq;obtain ⟨u,hu,ru⟩:=rv.get hx;obtain ⟨f0,f1,f2,f3,f4,f5⟩:=hf it (by simp);refine wpAny_pyNext_list_item st p.isList (x:=u) (by simpa using hu) λh' st' sb=>?_;have I1:Inv X pins σ H { s with heap:=h' }:=I.turned (t':=s.toks) (λb o hb e=>(sb.2 b hb).trans e) f0 f1 f3 f4 f5;obtain ⟨o,e,c,d⟩:=id st';exact ⟨u,rfl,Zk9 (s:={ s with heap:=h' }) e c d (by decide) ⟨x,H,I1,ru,⟨rfl,λys hy=>by rw [I.list_inj hy hq];exact hx⟩,st',λb hb=>(hf b hb).1⟩⟩
 done:=by
  intro X hP hw hK hc i pins s σ H E I hf st hg;subst hP hw hK;obtain ⟨xs,hq,hx⟩:=hg;obtain ⟨its,rv,p,hz⟩:=I.list hq;obtain ⟨f0,f1,f2,f3,f4,f5⟩:=hf it (by simp);have hl:=rv.length;exact wpAny_pyNext_list_end (I.ok.hd hc) st p.isList (by simp;omega) λh' eb=>⟨rfl,I.turned (t':=s.toks) (λb o hb e=>eb b o hb e) f0 f1 f3 f4 f5⟩
 self:=λ_ _ _ _ _ st h=>wpAny_pyIter_listiter st h
theorem ZiP {P:Program}{w:World}{K:Yab}{tg:Expr} (a it:Addr):Turn P w K tg (Itt K a) [it] it (λi h=>h.IsTupleIter it a i) where
 mem:=by simp
 obj:=λi h st b hb=>by
  have e:b=it:=by simpa using hb
  subst e;obtain ⟨o,e,c,d⟩:=st;exact ⟨o,e,λv z=>by rw [d] at z;cases z⟩
 keep:=λi h h' st k=>st.at λo e=>k it (by simp) o e
 item:=by
  intro X hP hw hK hc i pins s σ H E I hf st hg;subst hP hw hK;obtain ⟨xs,x,hq,hx⟩:=hg;obtain ⟨its,rv,p,hz⟩:=I.tuple hq;obtain ⟨u,hu,ru⟩:=rv.get hx;obtain ⟨f0,f1,f2,f3,f4,f5⟩:=hf it (by simp);refine wpAny_pyNext_tuple_item st (show s.heap.IsTuple a its.toArray from p) (x:=u) (by simpa using hu) λh' st' sb=>?_;have I1:Inv X pins σ H { s with heap:=h' }:=I.turned (t':=s.toks) (λb o hb e=>(sb.2 b hb).trans e) f0 f1 f3 f4 f5;obtain ⟨o,e,c,d⟩:=id st';exact ⟨u,rfl,Zk9 (s:={ s with heap:=h' }) e c d (by decide) ⟨x,H,I1,ru,⟨rfl,λys hy=>by rw [I.tuple_inj hy hq];exact hx⟩,st',λb hb=>(hf b hb).1⟩⟩
 done:=by
  intro X hP hw hK hc i pins s σ H E I hf st hg;subst hP hw hK;obtain ⟨xs,hq,hx⟩:=hg;obtain ⟨its,rv,p,hz⟩:=I.tuple hq;obtain ⟨f0,f1,f2,f3,f4,f5⟩:=hf it (by simp);have hl:=rv.length;exact wpAny_pyNext_tuple_end (I.ok.hd hc) st (show s.heap.IsTuple a its.toArray from p) (by simp;omega) λh' eb=>⟨rfl,I.turned (t':=s.toks) (λb o hb e=>eb b o hb e) f0 f1 f3 f4 f5⟩
 self:=λ_ _ _ _ _ st h=>wpAny_pyIter_tupleiter st h
theorem ZiQ {P:Program}{w:World}{K:Yab}{tg:Expr} (it:Addr) (lo:Int) (n:Nat):Turn P w K tg (Itr lo n) [it] it (λi h=>IsRangeIter h it (lo+(i:Nat) * 1) ((n:Int) - (i:Nat)) 1) where
 mem:=by simp
 obj:=λi h st b hb=>by
  have e:b=it:=by simpa using hb
  subst e;exact ⟨_,st,λv z=>by
   have z':Data.fields _=Data.cell v:=z
   cases z'⟩
 keep:=λi h h' st k=>k it (by simp) _ st
 item:=by
  intro X hP hw hK hc i pins s σ H E I hf st hg;subst hP hw hK;obtain ⟨f0,f1,f2,f3,f4,f5⟩:=hf it (by simp);have W:=Walks.range (prog:=X.prog) (w:=X.w) (I.ok.hd hc) it lo 1 n;refine W.item i s _ _ hg st λv h' tk hv st' kk=>?_;obtain ⟨t,rfl⟩:=hv;have I1:Inv X pins σ H { s with heap:=h',toks:=tk }:=I.turned (λb o hb e=>kk b o (by simpa using hb) e) f0 f1 f3 f4 f5;refine ⟨_,rfl,Zk9 (s:={ s with heap:=h',toks:=tk }) (n := "range_iterator") st' rfl rfl (by decide) ⟨.int (lo+i),H,I1,⟨t,?_⟩,⟨rfl,rfl⟩,st',λb hb=>(hf b hb).1⟩⟩;rw [Int.mul_one]
 done:=by
  intro X hP hw hK hc i pins s σ H E I hf st hg;subst hP hw hK;obtain ⟨f0,f1,f2,f3,f4,f5⟩:=hf it (by simp);exact wpAny_pyNext_range_end (I.ok.hd hc) st (by have:n<=i:=hg;omega) λh' eb=>⟨rfl,I.turned (t':=s.toks) (λb o hb e=>eb b o hb e) f0 f1 f3 f4 f5⟩
 self:=λ_ _ _ _ _ st h=>wpAny_pyIter_rangeiter st h
open PySem PySem.Spec PyProof.Rows
section
variable {X:Cx}{tg:Expr}
def ZqH (K:Yab) (tl:TE):TI:=λσ H R=>tl σ H λx H1=>∃ a,x=.ref a/\(∃ xs,SqL K H1 a xs)/\R (Itl K a) H1
def iTup (K:Yab) (tl:TE):TI:=λσ H R=>tl σ H λx H1=>∃ a,x=.ref a/\(∃ xs,SqT K H1 a xs)/\R (Itt K a) H1
theorem Zau {l:Expr}{tl:TE} (hl:PE X l tl):PI X tg l (ZqH X.K tl):=by
 intro pins s σ H R I h;refine thn (hl pins s σ H _ I h) λv s1 ⟨x,H1,I1,r1,q1⟩=>?_;obtain ⟨a,e,⟨xs,hq⟩,q⟩:=q1;subst e;cases r1;obtain ⟨its,rv,p,hz⟩:=I1.list hq;refine wpAny_pyIter_list p.isList ?_;refine ⟨s1.heap.objs.size,[s1.heap.objs.size],_,_,H1,rfl,I1.kept (t':=s1.toks) λb o e=>Yad _ e,ZjB a _,⟨_,Yao _ rfl,rfl,rfl⟩,λb hb=>?_,q⟩;have e:b=s1.heap.objs.size:=by simpa using hb
 subst e;exact I1.fpOk (Yag _) (I1.hok.fresh (Yag _))
theorem Zgk {l:Expr}{tl:TE} (hl:PE X l tl):PI X tg l (iTup X.K tl):=by
 intro pins s σ H R I h;refine thn (hl pins s σ H _ I h) λv s1 ⟨x,H1,I1,r1,q1⟩=>?_;obtain ⟨a,e,⟨xs,hq⟩,q⟩:=q1;subst e;cases r1;obtain ⟨its,rv,p,hz⟩:=I1.tuple hq;refine wpAny_pyIter_tuple (show s1.heap.IsTuple a its.toArray from p) ?_;refine ⟨s1.heap.objs.size,[s1.heap.objs.size],_,_,H1,rfl,I1.kept (t':=s1.toks) λb o e=>Yad _ e,ZiP a _,⟨_,Yao _ rfl,rfl,rfl⟩,λb hb=>?_,q⟩;have e:b=s1.heap.objs.size:=by simpa using hb
 subst e;exact I1.fpOk (Yag _) (I1.hok.fresh (Yag _))
theorem Zh8 {pins:List (Addr × Obj)}{σ:St}{H:Hp}{s:Shared}{R:It->Hp->Prop}{E:Value->Shared->Prop}{lo hi:Int}{t u v:Tok}{tk:Nat} (I:Inv X pins σ H s) (h1:-(2 ^ 62)<=lo) (h2:lo<2 ^ 62) (h3:-(2 ^ 62)<=hi) (h4:hi<2 ^ 62)
  (q:R (Itr lo (hi - lo).toNat) H):wpAny (model X.prog X.w) X.A (pyIter (.ref s.heap.objs.size)) (PIE X pins σ tg R) E { s with heap:=s.heap.push { cls:=.type "range",data:=.fields #[.int lo t,.int hi u,.int 1 v] },toks:=tk }:=by
 refine wpAny_pyIter_range (IsRange.new ..) (small_one h1 h2 h3 h4) ?_;have I1:Inv X pins σ H { s with heap:=s.heap.push { cls:=.type "range",data:=.fields #[.int lo t,.int hi u,.int 1 v] },toks:=tk }:=I.kept λb o e=>Yad _ e;refine ⟨(s.heap.push { cls:=.type "range",data:=.fields #[.int lo t,.int hi u,.int 1 v] }).objs.size,[(s.heap.push { cls:=.type "range",data:=.fields #[.int lo t,.int hi u,.int 1 v] }).objs.size],_,_,H,rfl,
  I1.kept (t':=tk) λb o e=>Yad _ e,ZiQ _ lo (hi - lo).toNat,?_,λb hb=>?_,q⟩
 ·have e1:lo+((0:Nat):Int) * 1=lo:=by simp
  have e2:(((hi - lo).toNat:Nat):Int) - ((0:Nat):Int)=Builtin.Range.rangeSize lo hi 1:=by rw [rangeSize_one];split <;> omega
  show IsRangeIter _ _ (lo+((0:Nat):Int) * 1) ((((hi - lo).toNat:Nat):Int) - ((0:Nat):Int)) 1;rw [e1,e2];exact Yao _ rfl
 ·have e:b=(s.heap.push { cls:=.type "range",data:=.fields #[.int lo t,.int hi u,.int 1 v] }).objs.size:=by simpa using hb
  subst e;exact I1.fpOk (Yag _) (I1.hok.fresh (Yag _))
def Zrq (ta:TA):TI:=λσ H R=>ta σ H λvs H1=>∃ j:Int,vs=[.int j]/\-(2 ^ 62)<=j/\j<2 ^ 62/\R (Itr 0 j.toNat) H1
def Zrp (ta:TA):TI:=λσ H R=>ta σ H λvs H1=>∃ i j:Int,vs=[.int i,.int j]/\(-(2 ^ 62)<=i/\i<2 ^ 62/\-(2 ^ 62)<=j/\j<2 ^ 62)/\R (Itr i (j - i).toNat) H1
theorem ZaG {a:Expr}{ta:TA}{p pos:Pos} (hg:Gl X "range") (hm:X.mg "range" = none) (ha:PA X [a] ta) (hs:starEach [a] X.env=[(false,eval a X.env)]:=by rfl):PI X tg (.Call (.Name "range" p) [a] [] pos) (Zrq ta):=by
 intro pins s σ H R I h;refine Call_ (Zcd I hg hm boot_range (PyProof.Rows.callWith_type1 (thn (ha pos pins s σ H _ I h) λus s1 ⟨vs,H1,I1,r1,q1⟩=>?_) hs rfl));obtain ⟨j,e,q1,q2,q⟩:=q1;subst e;cases r1 with
 |cons r rr =>
  cases rr;obtain ⟨t,rfl⟩:=r;exact call_range_1 (Zh8 I1 (by omega) (by omega) q1 q2 (by simpa using q))
theorem Zgl {a b:Expr}{ta:TA}{p pos:Pos} (hg:Gl X "range") (hm:X.mg "range" = none) (ha:PA X [a,b] ta) (hs:starEach [a,b] X.env=[(false,eval a X.env),(false,eval b X.env)]:=by rfl) (hs2:starEach [b] X.env=[(false,eval b X.env)]:=by rfl) :
  PI X tg (.Call (.Name "range" p) [a,b] [] pos) (Zrp ta):=by
 intro pins s σ H R I h;refine Call_ (Zcd I hg hm boot_range (PyProof.Rows.callWith_type1 (thn (ha pos pins s σ H _ I h) λus s1 ⟨vs,H1,I1,r1,q1⟩=>?_) (by rw [hs,hs2]) (by rw [hs2];rfl)));obtain ⟨i,j,e,⟨q1,q2,q3,q4⟩,q⟩:=q1;subst e;cases r1 with
 |cons r rr =>
  cases rr with
  |cons r' rr =>
   cases rr;obtain ⟨t,rfl⟩:=r;obtain ⟨t',rfl⟩:=r';exact call_range_2 (Zh8 I1 q1 q2 q3 q4 q)
def tFor (wi:TI) (g:TG) (tb:TS):TS:=λD σ H=>wi σ H λJ H1=>∃ W:Nat->Nat->St->Hp->Prop,(∃ m,W 0 m σ H1)/\∀ i m σ H,W i m σ H ->
 (J.stop i H/\D.nx σ H)\/(J.go i H/\∃ N:St->Hp->Prop,(∀ σ' H',N σ' H'->∃ m',m'<m/\W (i+1) m' σ' H')/\∀ x H',J.yld i H x H'->g x σ H' λσ2 H2=>tb { D with nx:=N,ct:=N,bk:=D.nx } σ2 H2)
def ZeV (fp:List Addr) (h:Heap):List (Addr × Obj):=fp.filterMap λb=>(h.get? b).map λo=>(b,o)
theorem ZbG {fp:List Addr}{h:Heap}{b:Addr}{o:Obj} (hb:b∈fp) (e:h.get? b=some o):(b,o)∈ZeV fp h:=List.mem_filterMap.mpr ⟨b,hb,by rw [e];rfl⟩
theorem ZkG {fp:List Addr}{h:Heap}{p:Addr × Obj} (hp:p∈ZeV fp h):p.1∈fp/\h.get? p.1=some p.2:=by
 obtain ⟨b,hb,e⟩:=List.mem_filterMap.mp hp;cases q:h.get? b with
 |none=>rw [q] at e;cases e
 |some o =>
  rw [q] at e;have e':(b,o)=p:=Yae e;subst e';exact ⟨hb,q⟩
theorem Inv.pinned {pins:List (Addr × Obj)}{σ:St}{H:Hp}{s:Shared}{fp:List Addr} (I:Inv X pins σ H s) (hf:∀ b∈fp,FpOk X pins H b) (ho:∀ b∈fp,∃ o,s.heap.get? b=some o/\∀ v,o.data≠.cell v):Inv X (pins ++ ZeV fp s.heap) σ H s :=
 I.pins_of λp hp=>(YaG.mp hp).elim (λz=>I.pin p (Yaz _ z)) λz=>by
  obtain ⟨hb,e⟩:=ZkG z;obtain ⟨f0,f1,f2,_⟩:=hf p.1 hb;obtain ⟨o,e',d⟩:=ho p.1 hb;rw [e] at e';cases e';exact ⟨e,f0,f1,f2,d⟩
theorem Inv.unpinned {pins pl:List (Addr × Obj)}{σ:St}{H:Hp}{s:Shared} (I:Inv X (pins ++ pl) σ H s):Inv X pins σ H s:=I.pins_of λp hp=>I.pin p (Yaz _ (YaA _ hp))
theorem Zbi {iter:Expr}{body:List Stmt}{wi:TI}{g:TG}{tb:TS}{pos:Pos} (hp:PassesOwn (model X.prog X.w) X.A X.env X.xe) (hc:X.calm=true) (hi:PI X tg iter wi) (hg:PG X tg g) (hb:PSs X body tb)
  (hs:∀ x,foldedSetIterable iter X.env x=pure x:=by intro _;rfl):PS X (.For tg iter body [] pos) (tFor wi g tb):=by
 intro pins s σ H D I h;refine wpAny_For (thn (hi pins s σ H _ I h) λv s1 h1=>thn h1 λitv s2 h2=>?_) hs;obtain ⟨it,fp,tn,J,H2,e,I2,T,st2,f2,W,⟨m0,w0⟩,turn⟩:=h2;subst e;have stat:∀ {H':Hp},(∀ b∈fp,H' b=none)->∀ b∈fp,FpOk X pins H' b:=λhn b hb=>⟨hn b hb,(f2 b hb).2⟩;refine codeAny_forLoop_any (λn s'=>∃ i σ' H',Inv X pins σ' H' s'/\tn i s'.heap/\(∀ b∈fp,H' b=none)/\W i n σ' H') ?_ m0 ⟨0,σ,H2,I2,st2,λb hb=>(f2 b hb).1,w0⟩;rintro n s3 ⟨i,σ3,H3,I3,st3,fr3,w3⟩;rcases turn i n σ3 H3 w3 with ⟨stop,qn⟩ | ⟨go,N,hN,step⟩
 ·refine wpAny_passesOwn hp (thn (T.done X rfl rfl rfl hc i pins s3 σ3 H3 X.xe I3 (stat fr3) st3 stop) λr s4 ⟨hr,I4⟩=>?_);subst hr;exact wpAny_execs_nil ⟨σ3,H3,I4,qn⟩
 ·refine wpAny_passesOwn hp (thn (T.item X rfl rfl rfl hc i pins s3 σ3 H3 X.xe I3 (stat fr3) st3 go) λr s4 ⟨u,hr,h4⟩=>?_);subst hr;refine wpAny_passesOwn hp (thn h4 λ_ s5 ⟨x,H5,I5,r5,y5,st5,fr5⟩=>?_);have I5':=I5.pinned (stat fr5) (T.obj _ _ st5);refine wpAny_passesOwn hp (thn (hg _ s5 σ3 H5 x u _ I5' r5 (step x H5 y5)) λ_ s6 ⟨σ6,H6,I6,q6⟩=>?_);refine wpAny_passesOwn hp (thn (hb _ s6 σ6 H6 _ I6 q6) λf s7 q7=>?_);have again:∀ {σ7:St}{H7:Hp},Inv X (pins ++ ZeV fp s5.heap) σ7 H7 s7->N σ7 H7->∃ m,m<n/\∃ i σ' H',Inv X pins σ' H' s7/\tn i s7.heap/\(∀ b∈fp,H' b=none)/\W i m σ' H':=λ{σ7 H7} I7 n7=>by
   obtain ⟨m',hm,w7⟩:=hN σ7 H7 n7;refine ⟨m',hm,i+1,σ7,H7,I7.unpinned,T.keep _ _ _ st5 λb hb o e=>(I7.pin (b,o) (Yaz _ (Yaz _ (ZbG hb e)))).1,λb hb=>?_,w7⟩;obtain ⟨o,e,d⟩:=T.obj _ _ st5 b hb;exact (I7.pin (b,o) (Yaz _ (Yaz _ (ZbG hb e)))).2.1
  cases f with
  |next=>obtain ⟨σ7,H7,I7,n7⟩:=q7;exact again I7 n7
  |cont=>obtain ⟨σ7,H7,I7,n7⟩:=q7;exact again I7 n7
  |brk=>obtain ⟨σ7,H7,I7,q7⟩:=q7;exact ⟨σ7,H7,I7.unpinned,q7⟩
  |ret v=>obtain ⟨x7,σ7,H7,I7,r7,q7⟩:=q7;exact ⟨x7,σ7,H7,I7.unpinned,r7,q7⟩
end
theorem ZcU {K:Yab}{a:Addr}{xs:List V}{g:TG}{tb:TS}{D:Ends}{σ:St}{H:Hp} (Pv:Nat->St->Hp->Prop) (h0:Pv 0 σ H) (hl:∀ i σ H,i<=xs.length->Pv i σ H->SqL K H a xs)
  (hs:∀ i x σ H,xs[i]? = some x->Pv i σ H->g x σ H λσ2 H2=>tb { D with nx:=Pv (i+1),ct:=Pv (i+1),bk:=D.nx } σ2 H2) (hd:∀ σ H,Pv xs.length σ H->D.nx σ H) :
  ∃ W:Nat->Nat->St->Hp->Prop,(∃ m,W 0 m σ H)/\∀ i m σ H,W i m σ H ->
   ((Itl K a).stop i H/\D.nx σ H)\/((Itl K a).go i H/\∃ N:St->Hp->Prop,(∀ σ' H',N σ' H'->∃ m',m'<m/\W (i+1) m' σ' H')/\∀ x H',(Itl K a).yld i H x H'->g x σ H' λσ2 H2=>tb { D with nx:=N,ct:=N,bk:=D.nx } σ2 H2):=by
 refine ⟨λi m σ H=>m=xs.length - i/\i<=xs.length/\Pv i σ H,⟨xs.length,by simp,YaH _,h0⟩,?_⟩;rintro i m σ H ⟨rfl,hi,p⟩;have q:=hl i σ H hi p
 by_cases hlt:i<xs.length
 ·refine .inr ⟨⟨xs,xs[i],q,by simp [hlt]⟩,Pv (i+1),λσ' H' p'=>⟨xs.length - (i+1),by omega,rfl,hlt,p'⟩,λx H' y=>?_⟩;obtain ⟨e,y⟩:=y;subst e;exact hs i x σ _ (y xs q) p
 ·have e:i=xs.length:=by omega
  subst e;exact .inl ⟨⟨xs,q,Yag _⟩,hd σ H p⟩
theorem Zpj {K:Yab}{a:Addr}{xs:List V}{g:TG}{tb:TS}{D:Ends}{σ:St}{H:Hp} (Pv:Nat->St->Hp->Prop) (h0:Pv 0 σ H) (hl:∀ i σ H,i<=xs.length->Pv i σ H->SqT K H a xs)
  (hs:∀ i x σ H,xs[i]? = some x->Pv i σ H->g x σ H λσ2 H2=>tb { D with nx:=Pv (i+1),ct:=Pv (i+1),bk:=D.nx } σ2 H2) (hd:∀ σ H,Pv xs.length σ H->D.nx σ H) :
  ∃ W:Nat->Nat->St->Hp->Prop,(∃ m,W 0 m σ H)/\∀ i m σ H,W i m σ H ->
   ((Itt K a).stop i H/\D.nx σ H)\/((Itt K a).go i H/\∃ N:St->Hp->Prop,(∀ σ' H',N σ' H'->∃ m',m'<m/\W (i+1) m' σ' H')/\∀ x H',(Itt K a).yld i H x H'->g x σ H' λσ2 H2=>tb { D with nx:=N,ct:=N,bk:=D.nx } σ2 H2):=by
 refine ⟨λi m σ H=>m=xs.length - i/\i<=xs.length/\Pv i σ H,⟨xs.length,by simp,YaH _,h0⟩,?_⟩;rintro i m σ H ⟨rfl,hi,p⟩;have q:=hl i σ H hi p
 by_cases hlt:i<xs.length
 ·refine .inr ⟨⟨xs,xs[i],q,by simp [hlt]⟩,Pv (i+1),λσ' H' p'=>⟨xs.length - (i+1),by omega,rfl,hlt,p'⟩,λx H' y=>?_⟩;obtain ⟨e,y⟩:=y;subst e;exact hs i x σ _ (y xs q) p
 ·have e:i=xs.length:=by omega
  subst e;exact .inl ⟨⟨xs,q,Yag _⟩,hd σ H p⟩
theorem ZaZ {lo:Int}{n:Nat}{g:TG}{tb:TS}{D:Ends}{σ:St}{H:Hp} (Pv:Nat->St->Hp->Prop) (h0:Pv 0 σ H)
  (hs:∀ i σ H,i<n->Pv i σ H->g (.int (lo+i)) σ H λσ2 H2=>tb { D with nx:=Pv (i+1),ct:=Pv (i+1),bk:=D.nx } σ2 H2) (hd:∀ σ H,Pv n σ H->D.nx σ H) :
  ∃ W:Nat->Nat->St->Hp->Prop,(∃ m,W 0 m σ H)/\∀ i m σ H,W i m σ H ->
   ((Itr lo n).stop i H/\D.nx σ H)\/((Itr lo n).go i H/\∃ N:St->Hp->Prop,(∀ σ' H',N σ' H'->∃ m',m'<m/\W (i+1) m' σ' H')/\∀ x H',(Itr lo n).yld i H x H'->g x σ H' λσ2 H2=>tb { D with nx:=N,ct:=N,bk:=D.nx } σ2 H2):=by
 refine ⟨λi m σ H=>m=n - i/\i<=n/\Pv i σ H,⟨n,by simp,YaH _,h0⟩,?_⟩;rintro i m σ H ⟨rfl,hi,p⟩
 by_cases hlt:i<n
 ·refine .inr ⟨hlt,Pv (i+1),λσ' H' p'=>⟨n - (i+1),by omega,rfl,hlt,p'⟩,λx H' y=>?_⟩;obtain ⟨e,y⟩:=y;subst e y;exact hs i σ _ hlt p
 ·have e:i=n:=by omega
  subst e;exact .inl ⟨Yag _,hd σ H p⟩
open PySem PySem.Spec PyProof.Rows
abbrev R2:=V->V->Hp->VK->Prop
def OpR (X:Cx) (f:Value->Value->Sem Value) (r:R2):Prop :=
 ∀ (pins:List (Addr × Obj)) (s:Shared) (σ:St) (H:Hp) (x y:V) (v u:Value) (Q:VK),Inv X pins σ H s->RelV x v->RelV y u->r x y H Q ->
  wpAny (model X.prog X.w) X.A (f v u) (EP X pins σ Q) X.xe s
def UnR (X:Cx) (f:Value->Sem Value) (r:V->Hp->VK->Prop):Prop :=
 ∀ (pins:List (Addr × Obj)) (s:Shared) (σ:St) (H:Hp) (x:V) (v:Value) (Q:VK),Inv X pins σ H s->RelV x v->r x H Q ->
  wpAny (model X.prog X.w) X.A (f v) (EP X pins σ Q) X.xe s
def Zcc (X:Cx) (f:Value) (r:List V->Hp->VK->Prop):Prop :=
 ∀ (pins:List (Addr × Obj)) (s:Shared) (σ:St) (H:Hp) (xs:List V) (us:List Value) (Q:VK),Inv X pins σ H s->Vals xs us->r xs H Q ->
  wpAny (model X.prog X.w) X.A (call f us) (EP X pins σ Q) X.xe s
def TruR (X:Cx) (r:V->Hp->(Bool->Hp->Prop)->Prop):Prop :=
 ∀ (pins:List (Addr × Obj)) (s:Shared) (σ:St) (H:Hp) (x:V) (v:Value) (Q:Bool->Hp->Prop),Inv X pins σ H s->RelV x v->r x H Q ->
  wpAny (model X.prog X.w) X.A (truthy v) (TP X pins σ Q) X.xe s
def tOp (r:R2) (ta tb:TE):TE:=λσ H Q=>ta σ H λx H1=>tb σ H1 λy H2=>r x y H2 Q
def tUn (r:V->Hp->VK->Prop) (ta:TE):TE:=λσ H Q=>ta σ H λx H1=>r x H1 Q
def rI (C:Int->Int->Prop) (g:Int->Int->V):R2:=λx y H Q=>∃ i j,x=.int i/\y=.int j/\C i j/\Q (g i j) H
def rI0 (g:Int->Int->V):R2:=λx y H Q=>∃ i j,x=.int i/\y=.int j/\Q (g i j) H
def rU (g:Int->V):V->Hp->VK->Prop:=λx H Q=>∃ i,x=.int i/\Q (g i) H
section
variable {X:Cx}{a b c:Expr}{ta tb tc:TE}{pos:Pos}
theorem binT (ha:PE X a ta) (hb:PE X b tb) {pins:List (Addr × Obj)}{s:Shared}{σ:St}{H:Hp}{R:V->V->Hp->Prop} (I:Inv X pins σ H s)
  (h:ta σ H λx H1=>tb σ H1 λy H2=>R x y H2) {Q:Value->Shared->Prop}{f:Value->Value->Sem Value}
  (hf:∀ v u s2 x y H2,Inv X pins σ H2 s2->RelV x v->RelV y u->R x y H2->wpAny (model X.prog X.w) X.A (f v u) Q X.xe s2) :
  wpAny (model X.prog X.w) X.A (eval a X.env) (λv s₁=>wpAny (model X.prog X.w) X.A (eval b X.env) (λu s₂=>wpAny (model X.prog X.w) X.A (f v u) Q X.xe s₂) X.xe s₁) X.xe s:=by
 refine thn (ha pins s σ H _ I h) λv s1 ⟨x,H1,I1,r1,q1⟩=>?_;refine thn (hb pins s1 σ H1 _ I1 q1) λu s2 ⟨y,H2,I2,r2,q2⟩=>?_;exact hf v u s2 x y H2 I2 r1 r2 q2
theorem Zan {op:Operator}{r:R2} (ho:OpR X (binaryOp op) r) (ha:PE X a ta) (hb:PE X b tb):PE X (.BinOp a op b pos) (tOp r ta tb):=by
 intro pins s σ H Q I h;exact wpAny_BinOp (binT ha hb I h λv u s2 x y H2 I2 rx ry q=>ho pins s2 σ H2 x y v u Q I2 rx ry q)
theorem Zfl {op:UnaryOp}{r:V->Hp->VK->Prop} (ho:UnR X (unaryOp op) r) (ha:PE X a ta):PE X (.UnaryOp op a pos) (tUn r ta):=by
 intro pins s σ H Q I h;exact UnaryOp_ (thn (ha pins s σ H _ I h) λv s1 ⟨x,H1,I1,r1,q1⟩=>ho pins s1 σ H1 x v Q I1 r1 q1)
theorem opI {f:Value->Value->Sem Value}{C:Int->Int->Prop}{g:Int->Int->Int}
  (rule:∀ (i j:Int) (t u:Tok) (s:Shared) (Q:Value->Shared->Prop) (E:Value->Shared->Prop),C i j->Q (.int (g i j) s.toks) { s with toks:=s.toks+1 }->wpAny (model X.prog X.w) X.A (f (.int i t) (.int j u)) Q E s) :
  OpR X f (rI C λi j=>.int (g i j)):=by
 intro pins s σ H x y v u Q I rx ry h;obtain ⟨i,j,rfl,rfl,hc,q⟩:=h;obtain ⟨t,rfl⟩:=rx;obtain ⟨t',rfl⟩:=ry;exact rule i j t t' s _ _ hc ⟨.int (g i j),H,I.tok _,⟨_,rfl⟩,q⟩
theorem opI0 {f:Value->Value->Sem Value}{g:Int->Int->Int}
  (rule:∀ (i j:Int) (t u:Tok) (s:Shared) (Q:Value->Shared->Prop) (E:Value->Shared->Prop),Q (.int (g i j) s.toks) { s with toks:=s.toks+1 }->wpAny (model X.prog X.w) X.A (f (.int i t) (.int j u)) Q E s) :
  OpR X f (rI0 λi j=>.int (g i j)):=by
 intro pins s σ H x y v u Q I rx ry h;obtain ⟨i,j,rfl,rfl,q⟩:=h;obtain ⟨t,rfl⟩:=rx;obtain ⟨t',rfl⟩:=ry;exact rule i j t t' s _ _ ⟨.int (g i j),H,I.tok _,⟨_,rfl⟩,q⟩
theorem opB0 {f:Value->Value->Sem Value}{g:Int->Int->Bool}
  (rule:∀ (i j:Int) (t u:Tok) (s:Shared) (Q:Value->Shared->Prop) (E:Value->Shared->Prop),Q (.bool (g i j)) s->wpAny (model X.prog X.w) X.A (f (.int i t) (.int j u)) Q E s) :
  OpR X f (rI0 λi j=>.bl (g i j)):=by
 intro pins s σ H x y v u Q I rx ry h;obtain ⟨i,j,rfl,rfl,q⟩:=h;obtain ⟨t,rfl⟩:=rx;obtain ⟨t',rfl⟩:=ry;exact rule i j t t' s _ _ ⟨.bl (g i j),H,I,rfl,q⟩
def CDiv (i j:Int):Prop:=0<j/\j<1073741824
def CPow (i j:Int):Prop:=0<=j/\j<=1000000/\i.natAbs<2 ^ 64
def CMul (i j:Int):Prop:=(-(2 ^ 64)<i/\i<2 ^ 64)\/(-(2 ^ 64)<j/\j<2 ^ 64)
theorem CMul.ok {i j:Int} (h:CMul i j):IntMulOk i j:=by
 rcases h with ⟨h1,h2⟩ | ⟨h1,h2⟩
 ·exact .of_left (intBits_le_64 h1 h2)
 ·exact .of_right (intBits_le_64 h1 h2)
theorem Zqe:OpR X (binaryOp .Add) (rI0 λi j=>.int (i+j)):=opI0 λ_ _ _ _ _ _ _ q=>add_int q
theorem Zn2:OpR X (binaryOp .Sub) (rI0 λi j=>.int (i - j)):=opI0 λ_ _ _ _ _ _ _ q=>sub_int q
theorem Zqb:OpR X (binaryOp .Mult) (rI CMul λi j=>.int (i * j)):=opI λ_ _ _ _ _ _ _ hc q=>mul_int q hc.ok
theorem ZoT:OpR X (binaryOp .FloorDiv) (rI CDiv λi j=>.int (i / j)):=opI λi j _ _ _ _ _ hc q=>by
 have h1:(0:Int)<j:=hc.1;have h2:j<1073741824:=hc.2;exact floordiv_int (by omega) (by rw [Int.fdiv_eq_ediv_of_nonneg i (by omega)];exact q) (.inl (PyProof.noPylong_small (by omega)))
theorem Zqc:OpR X (binaryOp .Mod) (rI (λ_ j=>0<j) λi j=>.int (i % j)):=opI λi j _ _ _ _ _ hc q=>by
 have h1:(0:Int)<j:=hc;exact mod_int' (by omega) (by rw [Int.fmod_eq_emod_of_nonneg i (by omega)];exact q)
theorem Zqa:OpR X (binaryOp .Pow) (rI CPow λi j=>.int (i ^ j.toNat)):=opI λ_ _ _ _ _ _ _ hc q=>pow_int_small hc.1 hc.2.1 hc.2.2 q
theorem Zpg:OpR X (inplaceOp .Add) (rI0 λi j=>.int (i+j)):=opI0 λ_ _ _ _ _ _ _ q=>iadd_int q
theorem unI {f:Value->Sem Value}{g:Int->Int}
  (rule:∀ (i:Int) (t:Tok) (s:Shared) (Q:Value->Shared->Prop) (E:Value->Shared->Prop),Q (.int (g i) s.toks) { s with toks:=s.toks+1 }->wpAny (model X.prog X.w) X.A (f (.int i t)) Q E s) :
  UnR X f (rU λi=>.int (g i)):=by
 intro pins s σ H x v Q I rx h;obtain ⟨i,rfl,q⟩:=h;obtain ⟨t,rfl⟩:=rx;exact rule i t s _ _ ⟨.int (g i),H,I.tok _,⟨_,rfl⟩,q⟩
theorem ZpG:UnR X (unaryOp .USub) (rU λi=>.int (-i)):=unI λ_ _ _ _ _ q=>neg_int q
end
def scal:V->V->Bool
 | .non,.non=>true | .non,.int _=>true | .int _,.non=>true | .non,.bl _=>true | .bl _,.non=>true | .non,.str _=>true | .str _,.non=>true
 | .int _,.int _=>true | .bl _,.bl _=>true | .str _,.str _=>true | .byt _,.byt _=>true
 | .int _,.str _=>true | .str _,.int _=>true | .bl _,.str _=>true | .str _,.bl _=>true
 |_,_=>false
def rEq:R2:=λx y H Q=>scal x y=true/\Q (.bl (decide (x=y))) H
def rNe:R2:=λx y H Q=>scal x y=true/\Q (.bl (!decide (x=y))) H
theorem Zlm {i j:Int}:decide (V.int i=V.int j)=(i == j):=by
 rw [Bool.eq_iff_iff];simp
theorem Zof {i j:Bool}:decide (V.bl i=V.bl j)=(i == j):=by
 rw [Bool.eq_iff_iff];simp
theorem Zll {i j:Str}:decide (V.str i=V.str j)=(i == j):=by
 rw [Bool.eq_iff_iff];simp
theorem Zln {i j:Array UInt8}:decide (V.byt i=V.byt j)=(i.toList == j.toList):=by
 rw [Bool.eq_iff_iff];cases i;cases j;simp
section
variable {X:Cx}{a b c:Expr}{ta tb tc:TE}{pos:Pos}
theorem ZaO {pins:List (Addr × Obj)}{σ:St}{H:Hp}{s:Shared}{Q:VK}{k k':Bool} (I:Inv X pins σ H s) (q:Q (.bl k) H) (e:k=k'):EP X pins σ Q (.bool k') s:=by
 subst e;exact ⟨.bl k,H,I,rfl,q⟩
theorem Zdy:OpR X (compareOp .Eq) rEq:=by
 intro pins s σ H x y v u Q I rx ry h;obtain ⟨hs,q⟩:=h;cases x with
 |non =>
  cases rx;cases y with
  |non=>cases ry;exact PySem.EqNone.eq_none_none (ZaO I q (by simp))
  |bl j=>cases ry;exact PySem.EqNone.eq_none_bool (ZaO I q (by simp))
  |int j=>obtain ⟨t',rfl⟩:=ry;exact PySem.EqNone.eq_none_int (ZaO I q (by simp))
  |str j=>obtain ⟨t',rfl⟩:=ry;exact PySem.EqNone.eq_none_str (ZaO I q (by simp))
  |_=>exact absurd (show false=true from hs) Yaq
 |bl i =>
  cases rx;cases y with
  |non=>cases ry;exact PySem.EqNone.eq_bool_none (ZaO I q (by simp))
  |bl j=>cases ry;exact eq_bool (ZaO I q Zof)
  |str j=>obtain ⟨t',rfl⟩:=ry;exact PySem.EqMixed.eq_bool_str (ZaO I q (by simp))
  |_=>exact absurd (show false=true from hs) Yaq
 |int i =>
  obtain ⟨t,rfl⟩:=rx;cases y with
  |non=>cases ry;exact PySem.EqNone.eq_int_none (ZaO I q (by simp))
  |int j=>obtain ⟨t',rfl⟩:=ry;exact eq_int (ZaO I q Zlm)
  |str j=>obtain ⟨t',rfl⟩:=ry;exact PySem.EqMixed.eq_int_str (ZaO I q (by simp))
  |_=>exact absurd (show false=true from hs) Yaq
 |str i =>
  obtain ⟨t,rfl⟩:=rx;cases y with
  |non=>cases ry;exact PySem.EqNone.eq_str_none (ZaO I q (by simp))
  |bl j=>cases ry;exact PySem.EqMixed.eq_str_bool (ZaO I q (by simp))
  |int j=>obtain ⟨t',rfl⟩:=ry;exact PySem.EqMixed.eq_str_int (ZaO I q (by simp))
  |str j=>obtain ⟨t',rfl⟩:=ry;exact eq_str (ZaO I q Zll)
  |_=>exact absurd (show false=true from hs) Yaq
 |byt i =>
  obtain ⟨t,rfl⟩:=rx;cases y with
  |byt j=>obtain ⟨t',rfl⟩:=ry;exact PySem.W.eq_bytes (ZaO I q Zln)
  |_=>exact absurd (show false=true from hs) Yaq
 |_=>cases y <;> exact absurd (show false=true from hs) Yaq
theorem ZcE:OpR X (compareOp .NotEq) rNe:=by
 intro pins s σ H x y v u Q I rx ry h;obtain ⟨hs,q⟩:=h;cases x with
 |non =>
  cases rx;cases y with
  |non=>cases ry;exact PySem.EqNone.ne_none_none (ZaO I q (by simp))
  |bl j=>cases ry;exact PySem.EqNone.ne_none_bool (ZaO I q (by simp))
  |int j=>obtain ⟨t',rfl⟩:=ry;exact PySem.EqNone.ne_none_int (ZaO I q (by simp))
  |str j=>obtain ⟨t',rfl⟩:=ry;exact PySem.EqNone.ne_none_str (ZaO I q (by simp))
  |_=>exact absurd (show false=true from hs) Yaq
 |bl i =>
  cases rx;cases y with
  |non=>cases ry;exact PySem.EqNone.ne_bool_none (ZaO I q (by simp))
  |bl j=>cases ry;exact ne_bool (ZaO I q (congrArg not Zof))
  |str j=>obtain ⟨t',rfl⟩:=ry;exact PySem.EqMixed.ne_bool_str (ZaO I q (by simp))
  |_=>exact absurd (show false=true from hs) Yaq
 |int i =>
  obtain ⟨t,rfl⟩:=rx;cases y with
  |non=>cases ry;exact PySem.EqNone.ne_int_none (ZaO I q (by simp))
  |int j=>obtain ⟨t',rfl⟩:=ry;exact ne_int (ZaO I q (congrArg not Zlm))
  |str j=>obtain ⟨t',rfl⟩:=ry;exact PySem.EqMixed.ne_int_str (ZaO I q (by simp))
  |_=>exact absurd (show false=true from hs) Yaq
 |str i =>
  obtain ⟨t,rfl⟩:=rx;cases y with
  |non=>cases ry;exact PySem.EqNone.ne_str_none (ZaO I q (by simp))
  |bl j=>cases ry;exact PySem.EqMixed.ne_str_bool (ZaO I q (by simp))
  |int j=>obtain ⟨t',rfl⟩:=ry;exact PySem.EqMixed.ne_str_int (ZaO I q (by simp))
  |str j=>obtain ⟨t',rfl⟩:=ry;exact ne_str (ZaO I q (congrArg not Zll))
  |_=>exact absurd (show false=true from hs) Yaq
 |byt i =>
  obtain ⟨t,rfl⟩:=rx;cases y with
  |byt j=>obtain ⟨t',rfl⟩:=ry;exact PySem.W.ne_bytes (ZaO I q (congrArg not Zln))
  |_=>exact absurd (show false=true from hs) Yaq
 |_=>cases y <;> exact absurd (show false=true from hs) Yaq
theorem Zqd:OpR X (compareOp .Lt) (rI0 λi j=>.bl (decide (i<j))):=opB0 λ_ _ _ _ _ _ _ q=>lt_int q
theorem Zea:OpR X (compareOp .LtE) (rI0 λi j=>.bl (decide (i<=j))):=opB0 λ_ _ _ _ _ _ _ q=>le_int q
theorem Zrl:OpR X (compareOp .Gt) (rI0 λi j=>.bl (decide (j<i))):=opB0 λ_ _ _ _ _ _ _ q=>gt_int q
theorem Zrm:OpR X (compareOp .GtE) (rI0 λi j=>.bl (decide (j<=i))):=opB0 λ_ _ _ _ _ _ _ q=>ge_int q
theorem Zie:OpR X (compareOp .Is) (λx y H Q=>y=.non/\Q (.bl (decide (x=.non))) H):=by
 intro pins s σ H x y v u Q I rx ry h;obtain ⟨rfl,q⟩:=h;cases ry;refine is_none_gen (ZaO I q ?_);cases x <;> first
  | (cases rx;rfl)
  | (obtain ⟨t,rfl⟩:=rx;rfl)
theorem ZoS:OpR X (compareOp .IsNot) (λx y H Q=>y=.non/\Q (.bl (!decide (x=.non))) H):=by
 intro pins s σ H x y v u Q I rx ry h;obtain ⟨rfl,q⟩:=h;cases ry;refine isnot_none_gen (ZaO I q ?_);cases x <;> first
  | (cases rx;rfl)
  | (obtain ⟨t,rfl⟩:=rx;rfl)
theorem Za6 (b:Expr) {op:CmpOp} (h:op≠.In:=by decide) (h2:op≠.NotIn:=by decide):behindInMarks op b=false:=by
 have e1:(op == CmpOp.In)=false:=by cases op <;> first | rfl | exact absurd rfl h
 have e2:(op == CmpOp.NotIn)=false:=by cases op <;> first | rfl | exact absurd rfl h2
 cases b <;> simp [behindInMarks,e1,e2]
theorem ZaM {op:CmpOp}{r:R2} (ho:OpR X (compareOp op) r) (ha:PE X a ta) (hb:PE X b tb) (hm:behindInMarks op b=false):PE X (.Compare a [op] [b] pos) (tOp r ta tb):=by
 intro pins s σ H Q I h;exact wpAny_Compare1 (binT ha hb I h λv u s2 x y H2 I2 rx ry q=>ho pins s2 σ H2 x y v u Q I2 rx ry q) hm
def Zoo (t:TE):TT:=λσ H Q=>t σ H λx H'=>IsB x H' Q
theorem Zkb {op:CmpOp}{r:R2} (ho:OpR X (compareOp op) r) (ha:PE X a ta) (hb:PE X b tb) (hm:behindInMarks op b=false):PT X (.Compare a [op] [b] pos) (Zoo (tOp r ta tb)):=by
 intro pins s σ H Q I h;refine wpAny_isTrue_Compare1 (thn (ha pins s σ H _ I h) λv s1 ⟨x,H1,I1,r1,q1⟩=>thn (hb pins s1 σ H1 _ I1 q1) λu s2 ⟨y,H2,I2,r2,q2⟩ =>
  thn (ho pins s2 σ H2 x y v u _ I2 r1 r2 q2) λc s3 ⟨z,H3,I3,r3,k,e,q3⟩=>?_) hm
 subst e;cases r3;exact wpAny_truthy_bool ⟨H3,I3,q3⟩
def ZnN (r r':R2) (ta tb tc:TE):TE:=λσ H Q=>ta σ H λx H1=>tb σ H1 λy H2=>r x y H2 λz H3=>∃ k,z=.bl k /\
 (if k=true then tc σ H3 λw' H4=>r' y w' H4 Q else Q (.bl false) H3)
theorem Zbt {op op':CmpOp}{r r':R2} (ho:OpR X (compareOp op) r) (ho':OpR X (compareOp op') r') (ha:PE X a ta) (hb:PE X b tb) (hc:PE X c tc)
  (hm:lastMarks [op,op'] [b,c]=false:=by with_unfolding_all rfl):PE X (.Compare a [op,op'] [b,c] pos) (ZnN r r' ta tb tc):=by
 intro pins s σ H Q I h;refine Compare_chain (thn (ha pins s σ H _ I h) λv s1 ⟨x,H1,I1,r1,q1⟩=>chain_link (thn (hb pins s1 σ H1 _ I1 q1) λu s2 ⟨y,H2,I2,r2,q2⟩ =>
  thn (ho pins s2 σ H2 x y v u _ I2 r1 r2 q2) λd s3 ⟨z,H3,I3,r3,k,e,q3⟩=>?_)) hm
 subst e;cases r3;refine wpAny_truthy_bool ?_;cases k with
 |false=>exact ite_ff ⟨.bl false,H3,I3,rfl,q3⟩
 |true=>exact ite_tt (chain_last (thn (hc pins s3 σ H3 _ I3 q3) λw' s4 ⟨z',H4,I4,r4,q4⟩=>ho' pins s4 σ H4 y z' u w' Q I4 r2 r4 q4))
theorem ZdC {op op':CmpOp}{r r':R2} (ho:OpR X (compareOp op) r) (ho':OpR X (compareOp op') r') (ha:PE X a ta) (hb:PE X b tb) (hc:PE X c tc)
  (hm:lastMarks [op,op'] [b,c]=false:=by with_unfolding_all rfl):PT X (.Compare a [op,op'] [b,c] pos) (Zoo (ZnN r r' ta tb tc)):=by
 intro pins s σ H Q I h;refine isTrue_chain (thn (ha pins s σ H _ I h) λv s1 ⟨x,H1,I1,r1,q1⟩=>test_link (thn (hb pins s1 σ H1 _ I1 q1) λu s2 ⟨y,H2,I2,r2,q2⟩ =>
  thn (ho pins s2 σ H2 x y v u _ I2 r1 r2 q2) λd s3 ⟨z,H3,I3,r3,k,e,q3⟩=>?_)) hm
 subst e;cases r3;refine wpAny_truthy_bool ?_;cases k with
 |false =>
  obtain ⟨k',e',q'⟩:=q3;cases e';exact ite_ff ⟨H3,I3,q'⟩
 |true =>
  refine ite_tt (test_last (thn (hc pins s3 σ H3 _ I3 q3) λw' s4 ⟨z',H4,I4,r4,q4⟩=>thn (ho' pins s4 σ H4 y z' u w' _ I4 r2 r4 q4) λd' s5 ⟨z2,H5,I5,r5,k2,e2,q5⟩=>?_));subst e2;cases r5;exact wpAny_truthy_bool ⟨H5,I5,q5⟩
def TruV (K:Yab) (x:V) (H:Hp) (k:Bool):Prop :=
 match x with
 | .non=>k=false
 | .bl b=>k=b
 | .int i=>k=(i != 0)
 | .str y=>y.length<=sizeLine/\k=((y.length:Int) != 0)
 | .byt y=>y.size<=sizeLine/\k=((y.size:Int) != 0)
 | .ref p=>(∃ xs,SqL K H p xs/\k = !xs.isEmpty)\/(∃ xs,SqT K H p xs/\k = !xs.isEmpty)\/∃ kvs,H p=some (.dK kvs)/\k = !kvs.isEmpty
 |_=>False
theorem Zjm {κ:Type}{kvs:List (κ × V)}{vs:List (κ × Value)} (r:KV kvs vs):(!vs.isEmpty) = !kvs.isEmpty:=by
 cases r <;> rfl
theorem ZeX {xs:List V}{its:List Value} (r:Vals xs its):(!its.toArray.isEmpty) = !xs.isEmpty:=by
 cases r <;> simp
theorem ZgE:(sizeLine:Nat)<2 ^ 63:=by rw [sizeLine_eq];decide
theorem ZpI:TruR X (λx H Q=>∃ k,TruV X.K x H k/\Q k H):=by
 intro pins s σ H x v Q I rx h;obtain ⟨k,e,q⟩:=h;have hl:=ZgE;have hs:sizeLine=16777216:=sizeLine_eq;cases x with
 |non =>
  cases rx;have e':k=false:=e;subst e';exact truthy_none ⟨H,I,q⟩
 |bl b =>
  cases rx;have e':k=b:=e;subst e';exact wpAny_truthy_bool ⟨H,I,q⟩
 |int i =>
  obtain ⟨t,rfl⟩:=rx;have e':k=(i != 0):=e;subst e';exact PySem.P.truthy_int ⟨H,I,q⟩
 |str y =>
  obtain ⟨t,rfl⟩:=rx;obtain ⟨hy,e'⟩:y.length<=sizeLine/\k=((y.length:Int) != 0):=e;subst e';exact PySem.P.truthy_str (by omega) ⟨H,I.tok _,q⟩
 |byt y =>
  obtain ⟨t,rfl⟩:=rx;obtain ⟨hy,e'⟩:y.size<=sizeLine/\k=((y.size:Int) != 0):=e;subst e';exact PySem.W.truthy_bytes (by omega) ⟨H,I.tok _,q⟩
 |ref p =>
  cases rx;have e':(∃ xs,SqL X.K H p xs/\k = !xs.isEmpty)\/(∃ xs,SqT X.K H p xs/\k = !xs.isEmpty)\/∃ kvs,H p=some (.dK kvs)/\k = !kvs.isEmpty:=e;rcases e' with ⟨xs,hx,e'⟩ | ⟨xs,hx,e'⟩ | ⟨kvs,hx,e'⟩
  ·subst e';obtain ⟨its,r,pl,hz⟩:=I.list hx;have hlen:=r.length;exact wpAny_truthy_list pl.isList (by simp only [Yam];omega) ⟨H,I.tok _,by rw [ZeX r];exact q⟩
  ·subst e';obtain ⟨its,r,pl,hz⟩:=I.tuple hx;have hlen:=r.length;exact truthy_tuple pl (by simp only [Yam];omega) ⟨H,I.tok _,by rw [ZeX r];exact q⟩
  ·subst e';obtain ⟨hz,hS,vs,r,m⟩:kvs.length<=sizeLine/\(p == sysModules)=false/\∃ vs,KV kvs vs/\s.heap.DictOf (ZaV X.prog X.w) p vs:=I.hok p _ hx;have hlen:kvs.length=vs.length:=Paired.length r;exact wpAny_truthy_dict hS m (by omega) ⟨H,I.tok _,by rw [Zjm r];exact q⟩
 |_=>exact (show False from e).elim
theorem Zmy (ha:PE X a ta) (he:∀ whole,isTrue a X.env whole=(do let v <- whole;standAt a.pos;holding [v] (truthy v))) :
  PT X a (λσ H Q=>ta σ H λx H'=>∃ k,TruV X.K x H' k/\Q k H'):=by
 intro pins s σ H Q I h;exact isTrue_plain (thn (ha pins s σ H _ I h) λv s1 ⟨x,H1,I1,r1,q1⟩=>ZpI pins s1 σ H1 x v Q I1 r1 q1) (he _)
theorem ZiO {x:V}{us:List Value} (r:Vals [x] us):∃ u,us=[u]/\RelV x u:=by
 cases r with
 |cons r1 r2=>cases r2;exact ⟨_,rfl,r1⟩
theorem ZpF {x y:V}{us:List Value} (r:Vals [x,y] us):∃ u w',us=[u,w']/\RelV x u/\RelV y w':=by
 cases r with
 |cons r1 r2 =>
  cases r2 with
  |cons r3 r4=>cases r4;exact ⟨_,_,rfl,r1,r3⟩
theorem ZnG:Zcc X (.builtin "abs") (λxs H Q=>∃ i,xs=[.int i]/\Q (.int (if i<0 then -i else i)) H):=by
 intro pins s σ H xs us Q I r h;obtain ⟨i,rfl,q⟩:=h;obtain ⟨u,rfl,t,rfl⟩:=ZiO r;exact call_abs_int λu tk=>⟨.int (if i<0 then -i else i),H,I.tok _,⟨_,rfl⟩,q⟩
theorem ZbX (hc:X.calm=true):Zcc X (.builtin "max") (λxs H Q=>∃ i j,xs=[.int i,.int j]/\Q (.int (if j > i then j else i)) H):=by
 intro pins s σ H xs us Q I r h;obtain ⟨i,j,rfl,q⟩:=h;obtain ⟨u,w',rfl,⟨t,rfl⟩,⟨t',rfl⟩⟩:=ZpF r;refine max_two_ints (I.ok.hd hc) λh' tk k=>⟨_,H,I.kept k,?_,q⟩
 by_cases hj:j > i
 ·rw [Ya7 hj,Ya7 hj];exact ⟨_,rfl⟩
 ·rw [Ya6 hj,Ya6 hj];exact ⟨_,rfl⟩
theorem Zg0 (hc:X.calm=true):Zcc X (.builtin "min") (λxs H Q=>∃ i j,xs=[.int i,.int j]/\Q (.int (if j<i then j else i)) H):=by
 intro pins s σ H xs us Q I r h;obtain ⟨i,j,rfl,q⟩:=h;obtain ⟨u,w',rfl,⟨t,rfl⟩,⟨t',rfl⟩⟩:=ZpF r;refine min_two_ints (I.ok.hd hc) λh' tk k=>⟨_,H,I.kept k,?_,q⟩
 by_cases hj:j<i
 ·rw [Ya7 hj,Ya7 hj];exact ⟨_,rfl⟩
 ·rw [Ya6 hj,Ya6 hj];exact ⟨_,rfl⟩
theorem ZlM:Zcc X (.type "int") (λxs H Q=>(∃ i,xs=[.int i]/\Q (.int i) H)\/∃ k,xs=[.bl k]/\Q (.int (if k then 1 else 0)) H):=by
 intro pins s σ H xs us Q I r h;rcases h with ⟨i,rfl,q⟩ | ⟨k,rfl,q⟩
 ·obtain ⟨u,rfl,t,rfl⟩:=ZiO r;exact call_int_int ⟨.int i,H,I,⟨_,rfl⟩,q⟩
 ·obtain ⟨u,rfl,r1⟩:=ZiO r;cases r1;exact call_int_bool ⟨.int (if k then 1 else 0),H,I.tok _,⟨_,rfl⟩,q⟩
end
open PySem PySem.Spec PyProof.Rows
structure ObjM (h:Heap) (x dx C:Addr) (mA:Str->Option Value):Prop where
 obj:h.get? x=some (PySem.W.instObj C dx)
 ns:h.Ns1 dx mA
 ne:dx≠x
theorem ZkS {h:Heap}{dx:Addr}{mA:Str->Option Value} (n:h.Ns1 dx mA):∃ od,h.get? dx=some od/\∀ name,PySem.W.lookIn name od=some (mA name):=by
 obtain ⟨o,es,ep,ho,hd,hk,_,hm⟩:=n;refine ⟨o,ho,λname=>?_⟩;have e:=hm name;unfold nsFind findBy at e;rw [<- Array.find?_toList] at e;unfold PySem.W.lookIn;rw [hd];dsimp only;split
 ·rename_i y q
  rw [q] at e;exact congrArg some e
 ·rename_i q
  rw [q] at e;have a:es.toList.any (·.refKey)=false:=by
   rw [List.any_eq_false];intro y hy;obtain ⟨z,t,hkey⟩:=hk y (Array.mem_toList_iff.mp hy);simp [DictEntry.refKey,hkey]
  have a':¬ es.toList.any (·.refKey)=true:=by rw [a];exact Yaq
  rw [Ya6 a'];exact congrArg some e
theorem ObjM.look {h:Heap}{x dx C:Addr}{mA:Str->Option Value} (I:ObjM h x dx C mA):∃ od,PySem.W.InstAt h x (PySem.W.instObj C dx) C (some od)/\∀ name,PySem.W.lookIn name od=some (mA name) :=
 let ⟨od,ho,hl⟩:=ZkS I.ns
 ⟨od,⟨I.obj,rfl,rfl,ho⟩,hl⟩
section
variable {prog:Program}{w:World}{A:Around}{E:Value->Shared->Prop}{s:Shared}{K:Yab}{x dx C f:Addr}{mA:Str->Option Value}{name:Str}{v:Value}
theorem Zph {expr:Bool}{Q:Value->Shared->Prop} (X:K.In s.heap) (I:ObjM s.heap x dx C mA) (hg:PySem.W.plainGet K C name=true) (hh:PySem.W.hasDictIn K C=true)
  (ha:PySem.W.findIn K (.ref C) name=some none) (hv:mA name=some v) (hv':PySem.W.handedIn v=true) (h:Q v { s with toks:=s.toks+1 }) :
  wpAny (model prog w) A (getAttr (.ref x) name expr) Q E s:=by
 obtain ⟨od,J,hl⟩:=I.look;exact PySem.W.get_value X J (PySem.W.plainGet_of hg).1 (PySem.W.findObj_own hh ha rfl (by rw [hl,hv])) hv' h
theorem Znn {pl:Sem Bool}{Q:Value × List Value->Shared->Prop} (X:K.In s.heap) (I:ObjM s.heap x dx C mA) (hg:PySem.W.plainGet K C name=true)
  (hf:PySem.W.findIn K (.ref C) name=some (some (.ref f))) (ht:PySem.W.isFn K (.ref f)=true) (hv:mA name=none) (h:Q (.ref f,[.ref x]) s) :
  wpAny (model prog w) A (getMethod (.ref x) name pl) Q E s:=by
 obtain ⟨od,J,hl⟩:=I.look;exact PySem.W.method_fn X J (PySem.W.plainGet_of hg).1 (PySem.W.plainGet_of hg).2 hf (beq_iff_eq.mp ht) (by show (PySem.W.lookIn name od).map (·.isSome)=some false;rw [hl,hv];rfl) h
theorem Zou {ns:List Str}{Q:Unit->Shared->Prop} (X:K.In s.heap) (I:ObjM s.heap x dx C mA)
  (hs:PySem.W.findIn K (.ref C) "__setattr__" = some (some (.builtin "object.__setattr__"))) (hp:PySem.W.plainOver K C=true) (ht:PySem.W.takerIn K C name=some none) (hh:PySem.W.hasDictIn K C=true)
  (hw:PySem.Within mA ns) (hsz:ns.length<=sizeLine)
  (h:∀ h',ObjM h' x dx C (λy=>if y=name then some v else mA y)->Heap.SameBut dx s.heap h'->Q () { s with heap:=h',toks:=s.toks+2 }) :
  wpAny (model prog w) A (setAttr (.ref x) name v) Q E s:=by
 obtain ⟨od,J,hl⟩:=I.look;refine PySem.W.set_plain X J hs (PySem.W.osa_open (s:={ s with toks:=s.toks+1 }) (r:=none) X J hp ht λb=>?_);obtain ⟨cd,hc,hd'⟩:=PySem.W.any_some hh;have hx:s.heap.get? x=some ⟨.ref C,some dx,.plain,#[]⟩:=I.obj;refine Ya3 (Ya8 (Ya3 (Ya3 (wpAny_loadPart hx (Ya3 (PySem.W.Looks.here (s:={ s with toks:=s.toks+1 }) (PySem.W.looks_clsIn X hc) ?_))))));rw [hd'];refine Ya8 (a:=some dx) (Ya3 (Ya8 (Ya3 ?_)));refine wpAny_nsSet1 (s:={ s with toks:=s.toks+1 }) I.ns λh' hn2 hs2=>?_;obtain ⟨oD,esD,epD,hoD,hdD,hcD⟩:=hn2.count (PySem.Within.cons name v hw);refine Ya3 (wpAny_lookBehind hoD (by rw [hdD];exact pastItsLine_dict (Yay hcD (by rw [YaC];omega))) ?_);exact Ya8 (h _ ⟨(hs2.2 _ (Ne.symm I.ne)).trans I.obj,hn2,I.ne⟩ hs2)
theorem Zne {R:Result->Shared->Prop}{vs:List Value}{kw:List (Str × Value)} (X:K.In s.heap) (hm:PySem.W.makesIn K C=true)
  (hi:PySem.W.findIn K (.ref C) "__init__" = some (some (.ref f))) (hf:PySem.W.typeIn K (.ref f)=some (.type "function"))
  (h:codeAny (model prog w) (A.under (.builtin "type.__call__" ⟨.ref C :: vs,kw⟩)) (.call (.ref f) ⟨.ref (s.heap.objs.size+1) :: vs,kw⟩) (PySem.W.InitBack (s.heap.objs.size+1) R)
   { s with heap:=(s.heap.push PySem.W.emptyDict).push (PySem.W.instObj C s.heap.objs.size) }) :
  codeAny (model prog w) A (.call (.ref C) ⟨vs,kw⟩) R s:=by
 obtain ⟨hh,g,d,t,os⟩:=s;exact PySem.W.make_core (PySem.W.makes_of X hm) (PySem.W.looks_findIn X hi) (λself=>PySem.W.bind_fn X self hf) (.inl rfl) h
end
def putF (f:Str) (v:V):List (Str × V)->List (Str × V)
 | []=>[(f,v)]
 | (g,x) :: r=>if g=f then (g,v) :: r else (g,x) :: putF f v r
theorem Zec (f g:Str) (v:V):∀ fs:List (Str × V),(putF f v fs).lookup g=if g=f then some v else fs.lookup g
 | []=>by
  show List.lookup g [(f,v)]=_
  by_cases h:g=f
  ·have hb:(g == f)=true:=beq_iff_eq.mpr h;simp only [List.lookup,hb,Ya7 h]
  ·have hb:(g == f)=false:=Ya1.mpr h;simp only [List.lookup,hb,Ya6 h]
 | (k,x) :: r=>by
  have ih:=Zec f g v r;rw [show putF f v ((k,x) :: r)=(if k=f then (k,v) :: r else (k,x) :: putF f v r) from rfl]
  by_cases hk:k=f
  ·rw [Ya7 hk]
   by_cases h:g=k
   ·have hb:(g == k)=true:=beq_iff_eq.mpr h;simp only [List.lookup,hb,Ya7 (h.trans hk)]
   ·have hb:(g == k)=false:=Ya1.mpr h;simp only [List.lookup,hb,Ya6 (λe:g=f=>h (e.trans hk.symm))]
  ·rw [Ya6 hk]
   by_cases h:g=k
   ·have hb:(g == k)=true:=beq_iff_eq.mpr h;simp only [List.lookup,hb,Ya6 (λe:g=f=>hk (h.symm.trans e))]
   ·have hb:(g == k)=false:=Ya1.mpr h;simp only [List.lookup,hb];exact ih
theorem Zef (f:Str) (v:V):∀ fs:List (Str × V),f∈(putF f v fs).map (·.1)/\∀ g,g∈fs.map (·.1)->g∈(putF f v fs).map (·.1)
 | []=>⟨by simp [putF],λg h=>by simp at h⟩
 | (k,x) :: r=>by
  obtain ⟨i1,i2⟩:=Zef f v r;rw [show putF f v ((k,x) :: r)=(if k=f then (k,v) :: r else (k,x) :: putF f v r) from rfl]
  by_cases hk:k=f
  ·rw [Ya7 hk];subst hk;exact ⟨by simp,λg h=>by simpa using h⟩
  ·rw [Ya6 hk];refine ⟨?_,λg h=>?_⟩
   ·rw [Yaw];exact Yas _ i1
   ·rw [Yaw] at h ⊢;rcases YaF.mp h with e | e
    ·exact YaF.mpr (.inl e)
    ·exact Yas _ (i2 g e)
theorem Zee (f:Str) (v:V):∀ fs:List (Str × V),(putF f v fs).length<=fs.length+1
 | []=>by simp [putF]
 | (k,x) :: r=>by
  have ih:=Zee f v r;rw [show putF f v ((k,x) :: r)=(if k=f then (k,v) :: r else (k,x) :: putF f v r) from rfl]
  by_cases hk:k=f
  ·rw [Ya7 hk,YaC,YaC];omega
  ·rw [Ya6 hk,YaC,YaC];omega
theorem RelO.some_of {v:V}{o:Option Value} (r:RelO (some v) o):∃ u,o=some u/\RelV v u:=by
 cases o with
 |none=>exact (show False from r).elim
 |some u=>exact ⟨u,rfl,r⟩
theorem RelO.none_of {o:Option Value} (r:RelO none o):o=none:=by
 cases o with
 |none=>rfl
 |some u=>exact (show False from r).elim
theorem Zk7 {v:V}{u:Value} (r:RelV v u):PySem.W.handedIn u=true:=by
 cases v with
 |non=>cases (show u=Value.none from r);rfl
 |bl b=>cases (show u=Value.bool b from r);rfl
 |int i=>obtain ⟨t,e⟩:=(show ∃ t,u=Value.int i t from r);cases e;rfl
 |str x=>obtain ⟨t,e⟩:=(show ∃ t,u=Value.str x t from r);cases e;rfl
 |byt b=>obtain ⟨t,e⟩:=(show ∃ t,u=Value.bytes b t from r);cases e;rfl
 |flt b=>obtain ⟨t,e⟩:=(show ∃ t,u=Value.float b t from r);cases e;rfl
 |ref a=>cases (show u=Value.ref a from r);rfl
 |ty n=>cases (show u=Value.type n from r);rfl
section
variable {P:Program}{w:World}{H H':Hp}{h h':Heap}{a C dx:Addr}{fs fs':List (Str × V)}
theorem Zfz (hok:HOk P w H h) (e:H a=some (.ins C dx fs)):∃ mA,ObjM h a dx C mA/\(∀ f,RelO (fs.lookup f) (mA f))/\PySem.Within mA (fs.map (·.1))/\fs.length<=1000/\H dx=some (.own a):=by
 obtain ⟨d,z,ne,ob,mA,n,r,q⟩:=(show ObjOk P w H h a (.ins C dx fs) from hok a _ e);exact ⟨mA,⟨ob,n,ne⟩,r,q,z,d⟩
end
structure Cls (K:Yab) (C:Addr):Prop where
 pg:PySem.W.plainGet K C Str.empty=true
 hd:PySem.W.hasDictIn K C=true
 po:PySem.W.plainOver K C=true
 sa:PySem.W.findIn K (.ref C) "__setattr__" = some (some (.builtin "object.__setattr__"))
theorem Cls.get {K:Yab}{C:Addr} (c:Cls K C) (f:Str):PySem.W.plainGet K C f=true:=c.pg
def NoAttr (K:Yab) (C:Addr) (f:Str):Prop:=PySem.W.findIn K (.ref C) f=some none
theorem NoAttr.taker {K:Yab}{C:Addr}{f:Str} (n:NoAttr K C f):PySem.W.takerIn K C f=some none:=by
 unfold PySem.W.takerIn;rw [show PySem.W.findIn K (.ref C) f=some none from n];rfl
structure Meth (K:Yab) (C:Addr) (m:Str) (f:Addr):Prop where
 at_:PySem.W.findIn K (.ref C) m=some (some (.ref f))
 fn:PySem.W.isFn K (.ref f)=true
 kp:PySem.W.keepIn K (.ref f)=true
section
variable {X:Cx}{pins:List (Addr × Obj)}{σ:St}{H:Hp}{s:Shared}{a C dx:Addr}{fs:List (Str × V)}{f:Str}{v:V}{A:Around}{E:Value->Shared->Prop}
theorem Zjn {b:Bool}{Q:Value->Shared->Prop} (I:Inv X pins σ H s) (e:H a=some (.ins C dx fs)) (c:Cls X.K C) (n:NoAttr X.K C f) (l:fs.lookup f=some v)
  (h:∀ u s',Inv X pins σ H s'->RelV v u->Q u s'):wpAny (model X.prog X.w) A (getAttr (.ref a) f b) Q E s:=by
 obtain ⟨mA,O,r,_,_,_⟩:=Zfz I.hok e;obtain ⟨u,hu,ru⟩:=RelO.some_of (v:=v) (o:=mA f) (by rw [<- l];exact r f);exact Zph I.kIn O (c.get f) c.hd n hu (Zk7 ru) (h u _ (I.tok _) ru)
theorem Zde {m:Str}{g:Addr}{pl:Sem Bool}{Q:Value × List Value->Shared->Prop} (I:Inv X pins σ H s) (e:H a=some (.ins C dx fs)) (c:Cls X.K C) (k:Meth X.K C m g) (l:fs.lookup m=none)
  (h:Q (.ref g,[.ref a]) s):wpAny (model X.prog X.w) A (getMethod (.ref a) m pl) Q E s:=by
 obtain ⟨mA,O,r,_,_,_⟩:=Zfz I.hok e;have hn:mA m=none:=RelO.none_of (by rw [<- l];exact r m);exact Znn I.kIn O (c.get m) k.at_ k.fn hn h
theorem ZiU {y:V}{u:Value}{Q:Unit->Shared->Prop} (I:Inv X pins σ H s) (e:H a=some (.ins C dx fs)) (c:Cls X.K C) (n:NoAttr X.K C f) (hl:fs.length<1000) (ry:RelV y u)
  (h:∀ s',Inv X pins σ (upd H a (.ins C dx (putF f y fs))) s'->Q () s'):wpAny (model X.prog X.w) A (setAttr (.ref a) f u) Q E s:=by
 obtain ⟨mA,O,r,wi,_,ho⟩:=Zfz I.hok e;have hz:(fs.map (·.1)).length<=sizeLine:=by rw [Yaa,sizeLine_eq];omega
 refine Zou I.kIn O c.sa c.po n.taker c.hd wi hz λh' O' sb=>h _ ?_;have hd:∃ o,h'.get? dx=some o:=let ⟨o,_,_,e',_⟩:=O'.ns;⟨o,e'⟩;refine I.write (x:=a) (e:=dx) (by rw [e];exact True.intro) (.inr ho) (λb q hb z=>(sb.2 b hb).trans z) hd ?_;refine ⟨by rw [Zag O.ne];exact ho,?_,O.ne,O'.obj,_,O'.ns,λg=>?_,λg hg=>?_⟩
 ·have:=Zee f y fs;omega
 ·show RelO ((putF f y fs).lookup g) (if g=f then some u else mA g);rw [Zec]
  by_cases q:g=f
  ·rw [Ya7 q,Ya7 q];exact ry
  ·rw [Ya6 q,Ya6 q];exact r g
 ·by_cases q:g=f
  ·rw [q];exact (Zef f y fs).1
  ·refine (Zef f y fs).2 g (wi g λz=>hg ?_);show (if g=f then some u else mA g)=none;rw [Ya6 q];exact z
theorem Inv.made (I:Inv X pins σ H s):Inv X pins σ (upd (upd H s.heap.objs.size (.own (s.heap.objs.size+1))) (s.heap.objs.size+1) (.ins C s.heap.objs.size []))
  { s with heap:=(s.heap.push PySem.W.emptyDict).push (PySem.W.instObj C s.heap.objs.size) }:=by
 have e1:(s.heap.push PySem.W.emptyDict).get? s.heap.objs.size=some PySem.W.emptyDict:=Yao s.heap rfl;have e2:((s.heap.push PySem.W.emptyDict).push (PySem.W.instObj C s.heap.objs.size)).get? (s.heap.objs.size+1)=some (PySem.W.instObj C s.heap.objs.size):=by
  have:=Yao (s.heap.push PySem.W.emptyDict) (o:=PySem.W.instObj C s.heap.objs.size) rfl
  rwa [Heap.size_push] at this
 have e3:(s.heap.push PySem.W.emptyDict).Ns s.heap.objs.size (λ_=>none):=⟨PySem.W.emptyDict,#[],_,e1,rfl,(λe he=>absurd he (by simp)),λ_=>rfl⟩;have I1:=I.laid (a:=s.heap.objs.size) (o:=.own (s.heap.objs.size+1)) (h':=s.heap.push PySem.W.emptyDict) (t':=s.toks) (λb u q=>Yad _ q) (Yag _) ⟨_,e1⟩;refine I1.laid (a:=s.heap.objs.size+1) (o:=.ins C s.heap.objs.size []) (t':=s.toks) (λb u q=>Yad _ q) (Nat.le_of_eq (Heap.size_push _ _)) ?_;have ne:s.heap.objs.size≠s.heap.objs.size+1:=Yap (Nat.lt_succ_self _);refine ⟨by rw [Zag ne,Zac],YaH _,ne,e2,λ_=>none,(Heap.Ns1.of_empty e3).at λo q=>Yad _ q,λ_=>True.intro,λy hy=>absurd rfl hy⟩
theorem ZpA {prog:Program}{w:World}{env:Env}{e:Expr}{f:Str}{pos:Pos}{s:Shared}{Q:Value->Shared->Prop} (hb:attributeBase e f env (eval e env)=eval e env)
  (h:wpAny (model prog w) A (eval e env) (λo s₁=>wpAny (model prog w) A (getAttr o f true) Q E s₁) E s):wpAny (model prog w) A (eval (.Attribute e f pos) env) Q E s :=
 Attribute_any_ h (by rw [arm_eval_Attribute,hb])
end
def tFld (K:Yab) (ta:TE) (f:Str):TE:=λσ H Q=>ta σ H λx H1=>∃ a C dx fs v,x=.ref a/\H1 a=some (.ins C dx fs)/\Cls K C/\NoAttr K C f/\fs.lookup f=some v/\Q v H1
def sFld (K:Yab) (ta tv:TE) (f:Str):TS:=λD σ H=>tv σ H λy H1=>ta σ H1 λx H2=>∃ a C dx fs,x=.ref a/\H2 a=some (.ins C dx fs)/\Cls K C/\NoAttr K C f/\fs.length<1000 /\
 D.nx σ (upd H2 a (.ins C dx (putF f y fs)))
section
variable {X:Cx}{o e value:Expr}{f:Str}{pos pos' tpos:Pos}{ta tv:TE}
theorem Zbp (he:PE X e ta) (hb:attributeBase e f X.env (eval e X.env)=eval e X.env):PE X (.Attribute e f pos) (tFld X.K ta f):=by
 intro pins s σ H Q I h;refine ZpA hb (thn (he pins s σ H _ I h) λu s1 ⟨x,H1,I1,rx,a,C,dx,fs,v,ex,ea,c,n,l,q⟩=>?_);subst ex;obtain rfl:u=Value.ref a:=rx;exact Zjn I1 ea c n l λu' s2 I2 ru=>⟨v,H1,I2,ru,q⟩
theorem Zd5 (ha:PE X o ta) (hv:PE X value tv) (hs:swapsWith value (some (.Attribute o f pos')) pos.line X.env=pure false):PS X (.Assign [.Attribute o f pos'] value pos) (sFld X.K ta tv f):=by
 intro pins s σ H D I h;refine plainObj_wpAny_Assign_Attribute (thn (hv pins s σ H _ I h) λu s1 ⟨y,H1,I1,ry,q⟩=>thn (ha pins s1 σ H1 _ I1 q) λov s2 ⟨x,H2,I2,rx,a,C,dx,fs,ex,ea,c,n,l,q2⟩=>?_) hs;subst ex;obtain rfl:ov=Value.ref a:=rx;exact ZiU I2 ea c n l ry λs3 I3=>⟨σ,_,I3,q2⟩
end
section
variable {X:Cx}{pins:List (Addr × Obj)}{σ:St}{H:Hp}{s:Shared}{A:Around}{E:Value->Shared->Prop}{Q:Value->Shared->Prop}{c:Value}{b:Bool}
inductive TyOf (K:Yab) (H:Hp):V->Value->Prop where
 |non:TyOf K H .non (.type "NoneType")
 |bl (x:Bool):TyOf K H (.bl x) (.type "bool")
 |int (i:Int):TyOf K H (.int i) (.type "int")
 |str (x:Str):TyOf K H (.str x) (.type "str")
 |flt (x:UInt64):TyOf K H (.flt x) (.type "float")
 |lst {a:Addr}{xs:List V} (e:H a=some (.lst xs)):TyOf K H (.ref a) (.type "list")
 |frz {a:Addr}{o:Obj}{xs:List V} (e:H a=some (.frz o (.lst xs))):TyOf K H (.ref a) (.type "list")
 |tup {a:Addr}{xs:List V} (e:H a=some (.tup xs)):TyOf K H (.ref a) (.type "tuple")
 |dK {a:Addr}{kvs:List (Key × V)} (e:H a=some (.dK kvs)):TyOf K H (.ref a) (.type "dict")
 |dT {a:Addr}{kvs:List (List Key × V)} (e:H a=some (.dT kvs)):TyOf K H (.ref a) (.type "dict")
 |ins {a C dx:Addr}{fs:List (Str × V)} (e:H a=some (.ins C dx fs)) (cl:Cls K C) (ha:PySem.W.findIn K (.ref C) "__class__" = some (some (.builtin "object.__class__")))
   (hn:PySem.W.specialIn K (.builtin "object.__class__") "__get__" = some (some (.builtin "getset_descriptor.__get__"))) (htk:PySem.W.takesIn K (.builtin "object.__class__")=some true)
   (hm:PySem.W.mroIn K C (.type "object")=some true):TyOf K H (.ref a) (.ref C)
theorem Zk3 {x:V}{u t:Value} (I:Inv X pins σ H s) (rx:RelV x u) (ty:TyOf X.K H x t) (e:PySem.W.kitOne X.K t c=some b) (h:∀ tk,Q (.bool b) { s with toks:=tk }) :
  wpAny (model X.prog X.w) A (call (.builtin "isinstance") [u,c]) Q E s:=by
 cases ty with
 |non=>cases (show u=Value.none from rx);exact PySem.W.kia_one PySem.W.kitx_none I.kIn True.intro e (λz=>nomatch z) h
 |bl y=>cases (show u=Value.bool y from rx);exact PySem.W.kia_one PySem.W.kitx_bool I.kIn True.intro e (λz=>nomatch z) h
 |int i=>obtain ⟨t,q⟩:=(show ∃ t,u=Value.int i t from rx);cases q;exact PySem.W.kia_one PySem.W.kitx_int I.kIn True.intro e (λz=>nomatch z) h
 |str y=>obtain ⟨t,q⟩:=(show ∃ t,u=Value.str y t from rx);cases q;exact PySem.W.kia_one PySem.W.kitx_str I.kIn True.intro e (λz=>nomatch z) h
 |flt y=>obtain ⟨t,q⟩:=(show ∃ t,u=Value.float y t from rx);cases q;exact PySem.W.kia_one PySem.W.kitx_float I.kIn True.intro e (λz=>nomatch z) h
 | @lst a xs ea =>
  cases (show u=Value.ref a from rx);obtain ⟨_,_,n,_,h1⟩:=(show ObjOk X.prog X.w H s.heap a (.lst xs) from I.hok a _ ea);exact PySem.W.kia_one PySem.W.kitx_list I.kIn ⟨_,h1,rfl⟩ e (λz=>nomatch z) h
 | @frz a ob xs ea =>
  cases (show u=Value.ref a from rx);obtain ⟨_,_,_,n,_,h1⟩:=(show ObjOk X.prog X.w H s.heap a (.frz ob (.lst xs)) from I.hok a _ ea);exact PySem.W.kia_one PySem.W.kitx_list I.kIn ⟨_,h1,rfl⟩ e (λz=>nomatch z) h
 | @tup a xs ea =>
  cases (show u=Value.ref a from rx);obtain ⟨_,_,_,p⟩:=(show ObjOk X.prog X.w H s.heap a (.tup xs) from I.hok a _ ea);obtain ⟨o,h1,h2,_⟩:=p;exact PySem.W.kia_one PySem.W.kitx_tuple I.kIn ⟨o,h1,h2⟩ e (λz=>nomatch z) h
 | @dK a kvs ea =>
  cases (show u=Value.ref a from rx);obtain ⟨_,_,vs,_,p⟩:=(show ObjOk X.prog X.w H s.heap a (.dK kvs) from I.hok a _ ea);obtain ⟨o,es,ep,h1,h2,_⟩:=p;exact PySem.W.kia_one PySem.W.kitx_dict I.kIn ⟨o,h1,h2.1⟩ e (λz=>nomatch z) h
 | @dT a kvs ea =>
  cases (show u=Value.ref a from rx);obtain ⟨_,_,xs,_,o,es,ep,h1,h2,_⟩:=(show ObjOk X.prog X.w H s.heap a (.dT kvs) from I.hok a _ ea);exact PySem.W.kia_one PySem.W.kitx_dict I.kIn ⟨o,h1,h2.1⟩ e (λz=>nomatch z) h
 | @ins a C dx fs ea cl ha hn htk hm =>
  cases (show u=Value.ref a from rx);obtain ⟨mA,O,_⟩:=Zfz I.hok ea;obtain ⟨od,J,_⟩:=O.look;exact PySem.W.kia_one (PySem.W.kitx_own (cl.get _) cl.hd ha hn htk hm) I.kIn J e (λz=>nomatch z) h
end
open PySem PySem.Spec PyProof.Rows
structure Room (k:Nat) (A:Around):Prop where
 hd:A.handled=none
 dp:A.depth+3 * k+5<recursionLimit
 un:A.units+16 * k+200<cLine
 gd:A.guards=some []
theorem Room.mono {j k:Nat}{A:Around} (r:Room k A) (h:j<=k):Room j A:=⟨r.hd,by have:=r.dp;omega,by have:=r.un;omega,r.gd⟩
theorem Room.deeper {k:Nat}{A:Around} (r:Room (k+1) A) (env:Env):Room k (A.deeper env) :=
 ⟨r.hd,by have:=r.dp;show A.depth+1+3 * k+5<_;omega,by have:=r.un;show A.units+3+16 * k+200<_;omega,r.gd⟩
theorem Zji {A:Around}{C:Addr}{us:List Value}{kw:List (Str × Value)}:(A.under (.builtin "type.__call__" ⟨.ref C :: us,kw⟩)).depth=A.depth+1:=by
 first | rfl | simp [Around.under,Code.weight,Code.isCreation,Code.isGuard,Code.isCaller,Code.frames,Code.isFrame,guardIds]
theorem Zjh {A:Around}{C:Addr}{us:List Value}{kw:List (Str × Value)}:(A.under (.builtin "type.__call__" ⟨.ref C :: us,kw⟩)).units=A.units+1:=by
 first | rfl | simp [Around.under,Code.cUnits,Code.frames,Code.isFrame]
theorem Room.make {k:Nat}{A:Around} (r:Room (k+1) A) (C:Addr) (us:List Value) (kw:List (Str × Value)):Room k (A.under (.builtin "type.__call__" ⟨.ref C :: us,kw⟩)) :=
 ⟨r.hd,by have:=r.dp;rw [Zji];omega,by have:=r.un;rw [Zjh];omega,by first | exact r.gd | (rw [<- r.gd];rfl) | (simp only [Around.under];rw [r.gd];rfl)⟩
theorem Room.depth {k:Nat}{A:Around} (r:Room k A):A.depth<recursionLimit:=by have:=r.dp;omega
theorem Room.units {k:Nat}{A:Around} (r:Room k A):A.units+64<cLine:=by have:=r.un;omega
def tNil:TA:=λ_ H Q=>Q [] H
def Zc3 (ta:TE) (tr:TA):TA:=λσ H Q=>ta σ H λx H1=>tr σ H1 λxs H2=>Q (x :: xs) H2
section
variable {X:Cx}{e:Expr}{es:List Expr}{te:TE}{t:TA}{pos:Pos}
theorem ZaT:PA X [] tNil:=λ_ _ _ _ H Q I h=>Calls.spliced_nil ⟨[],H,I,.nil,h⟩
theorem Zab (ha:PE X e te) (hr:PA X es t) (hs:starEach (e :: es) X.env=(false,eval e X.env) :: starEach es X.env:=by rfl):PA X (e :: es) (Zc3 te t):=by
 intro pos pins s σ H Q I h;rw [hs];show wpAny _ _ (spliced ((false,eval e X.env) :: backTo pos (starEach es X.env))) _ _ s;refine Calls.spliced_cons (thn (ha pins s σ H _ I h) λu s1 ⟨x,H1,I1,r1,q1⟩=>?_);exact thn (hr pos pins s1 σ H1 _ I1 q1) λus s2 ⟨xs,H2,I2,r2,q2⟩=>⟨x :: xs,H2,I2,.cons r1 r2,q2⟩
def tTup (t:TA):TE:=λσ H Q=>t σ H λxs H1=>xs.length<=sizeLine/\∀ p,H1 p=none->Q (.ref p) (upd H1 p (.tup xs))
def tLst (t:TA):TE:=λσ H Q=>t σ H λxs H1=>xs.length<=sizeLine/\∀ p,H1 p=none->Q (.ref p) (upd H1 p (.lst xs))
theorem ZaD {x1} (h:PA X es t):PE X (.Tuple es x1 pos) (tTup t):=by
 intro pins s σ H Q I hq;refine wpAny_Tuple_spliced (thn (h pos pins s σ H _ I hq) λus s1 ⟨xs,H1,I1,r,z,q⟩=>⟨by rw [<- r.length];exact z,?_⟩);have hf:H1 s1.heap.objs.size=none:=I1.hok.fresh (Yag _);refine ⟨.ref s1.heap.objs.size,upd H1 s1.heap.objs.size (.tup xs),I1.laid (t':=s1.toks) (λb u e=>Yad _ e) (Yag _) ?_,rfl,q _ hf⟩;exact ⟨z,us,r,⟨_,Yao _ rfl,rfl,_,rfl⟩⟩
theorem ZaN (h:PA X es t):PE X (.List es pos) (tLst t):=by
 intro pins s σ H Q I hq;refine wpAny_List_spliced (thn (h pos pins s σ H _ I hq) λus s1 ⟨xs,H1,I1,r,z,q⟩=>⟨by rw [<- r.length];exact z,?_⟩);have hf:H1 s1.heap.objs.size=none:=I1.hok.fresh (Yag _);refine ⟨.ref s1.heap.objs.size,upd H1 s1.heap.objs.size (.lst xs),I1.laid (t':=s1.toks) (λb u e=>Yad _ e) (Yag _) ?_,rfl,q _ hf⟩;exact ⟨z,us,0,r,Yao _ rfl⟩
end
abbrev Sp:=List V->Hp->VK->XK->Prop
abbrev CXT:=List Env->Hp->Shared->XK->Value->Shared->Prop
structure Env0 (P:Program) (w:World) (K:Yab) (mg:Str->Option Value) (base:Heap) (A:Around) (outer:List Env) (s:Shared) (H:Hp):Prop where
 frames:A.frames=some outer
 mod:Mod K mg base
 bs:∀ b o,base.get? b=some o->s.heap.get? b=some o/\H b=none
 bsz:base.objs.size<=s.heap.objs.size
 funs:s.heap.FunFrames base outer
 frf:∀ b∈frs outer,H b=none
 hok:HOk P w H s.heap
 bare:AllBare s.gens
def CE (outer:List Env) (P:Program) (w:World) (H:Hp) (s:Shared) (Q:VK) (u:Value) (s':Shared):Prop :=
 ∃ v H',s'.os=s.os/\AllBare s'.gens/\Un (frs outer) [] H H' s.heap s'.heap/\HOk P w H' s'.heap/\RelV v u/\Q v H'
def CR (CX:CXT) (outer:List Env) (P:Program) (w:World) (H:Hp) (s:Shared) (Q:VK) (E:XK) (r:Result) (s':Shared):Prop :=
 match r with
 | .ok (.ret u)=>CE outer P w H s Q u s'
 | .ok _=>False
 | .error e=>CX outer H s E e s'
structure FnOk (P:Program) (w:World) (K:Yab) (mg:Str->Option Value) (base:Heap) (CX:CXT) (k:Nat) (f:Addr) (fd:FuncData) (ps:List Str) (sp:Sp):Prop where
 len:∀ vs H Q E,sp vs H Q E->vs.length=ps.length
 run:∀ (A:Around) (outer:List Env) (s:Shared) (H:Hp) (args:Args) (us:List Value) (vs:List V) (Q:VK) (E:XK),Room k A->Env0 P w K mg base A outer s H->BindsTo s fd args (ps.zip us)->Vals vs us->sp vs H Q E ->
  codeAny (model P w) A (.call (.ref f) args) (CR CX outer P w H s Q E) s
theorem FnOk.mono {P:Program}{w:World}{K:Yab}{mg:Str->Option Value}{base:Heap}{CX:CXT}{j k:Nat}{f:Addr}{fd:FuncData}{ps:List Str}{sp:Sp} (F:FnOk P w K mg base CX j f fd ps sp) (h:j<=k) :
  FnOk P w K mg base CX k f fd ps sp:=⟨F.len,λA outer s H args us vs Q E hr=>F.run A outer s H args us vs Q E (hr.mono h)⟩
theorem Env0.make {P:Program}{w:World}{K:Yab}{mg:Str->Option Value}{base:Heap}{A:Around}{outer:List Env}{s:Shared}{H:Hp} (e:Env0 P w K mg base A outer s H) (C:Addr) (us:List Value) (kw:List (Str × Value)) :
  Env0 P w K mg base (A.under (.builtin "type.__call__" ⟨.ref C :: us,kw⟩)) outer s H:=⟨by first | exact e.frames | (simpa [Around.under,Code.envs,Code.isFrame,pushEnvs] using e.frames),e.mod,e.bs,e.bsz,e.funs,e.frf,e.hok,e.bare⟩
section
variable {X:Cx}{pins:List (Addr × Obj)}{σ:St}{H:Hp}{s s':Shared}
theorem Inv.env0 (I:Inv X pins σ H s):Env0 X.prog X.w X.K X.mg X.base X.A X.stack s H :=
 ⟨I.ok.frames,I.ok.mod,I.bs,Yay I.ok.bsz I.sz,I.stack,I.stkFree,I.hok,I.bare⟩
theorem Inv.after {Q:VK}{u:Value} (I:Inv X pins σ H s) (h:CE X.stack X.prog X.w H s Q u s'):EP X pins σ Q u s':=by
 obtain ⟨v,H',os,bare,un,hok,r,q⟩:=h;obtain ⟨hh,g,d,t,os'⟩:=s';obtain rfl:os'=s.os:=os;exact ⟨v,H',I.call (h':=hh) (g':=g) (d':=d) (t':=t) (ch:=[]) un hok bare (λb z=>absurd z (by simp)),r,q⟩
end
def Zor (sp:Sp) (dvs:List V) (E:XK) (t:TA):TE:=λσ H Q=>t σ H λvs H1=>sp (vs ++ dvs) H1 Q E
def Zmb (C:Addr) (m:Str) (sp:Sp) (dvs:List V) (E:XK) (ta:TE) (t:TA):TE:=λσ H Q=>ta σ H λx H1=>∃ a dx fs,x=.ref a/\H1 a=some (.ins C dx fs)/\fs.lookup m=none /\
 t σ H1 λvs H2=>sp (x :: (vs ++ dvs)) H2 Q E
def ZpO (C:Addr) (sp:Sp) (dvs:List V) (E:XK) (t:TA):TE:=λσ H Q=>t σ H λvs H1=>∀ x dx,H1 x=none->H1 dx=none->dx≠x ->
 sp (.ref x :: (vs ++ dvs)) (upd (upd H1 dx (.own x)) x (.ins C dx [])) (λv H2=>v=.non/\Q (.ref x) H2) E
def Binds (K:Yab) (fd:FuncData) (ps:List Str) (ds:List Value):Prop :=
 ∀ (s:Shared) (us:List Value),K.In s.heap->(us ++ ds).length=ps.length->BindsTo s fd ⟨us,[]⟩ (ps.zip (us ++ ds))
theorem Binds.all {K:Yab}{fd:FuncData}{ps:List Str} (h:∀ us:List Value,us.length=ps.length->bindArgs fd ⟨us,[]⟩=pure (ps.zip us)):Binds K fd ps []:=λs us _ hl=>by
 rw [List.append_nil] at hl ⊢;exact .of_eq (h us hl)
def Zez (CX:CXT) (X:Cx) (E:XK):Prop:=∀ (pins:List (Addr × Obj)) (σ:St) (H:Hp) (s:Shared) (e:Value) (s':Shared),Inv X pins σ H s->CX X.stack H s E e s'->X.xe e s'
section
variable {X:Cx}{CX:CXT}{k:Nat}{f C:Addr}{fd:FuncData}{ps:List Str}{sp:Sp}{dvs:List V}{ds:List Value}{E:XK}{x m:Str}{p pos apos:Pos}{e o:Expr}{es:List Expr}{ta:TE}{t:TA}
theorem Zj8 {pins:List (Addr × Obj)}{σ:St}{H:Hp}{s:Shared}{Q:VK}{us:List Value}{vs:List V} (F:FnOk X.prog X.w X.K X.mg X.base CX k f fd ps sp) (hr:Room k X.A) (hb:Binds X.K fd ps ds) (hd:Vals dvs ds) (hx:Zez CX X E)
  (I:Inv X pins σ H s) (r:Vals vs us) (h:sp (vs ++ dvs) H Q E):wpAny (model X.prog X.w) X.A (call (.ref f) us) (EP X pins σ Q) X.xe s:=by
 have r2:Vals (vs ++ dvs) (us ++ ds):=r.append hd;have hl:(us ++ ds).length=ps.length:=by rw [<- r2.length];exact F.len _ _ _ _ h
 refine wpAny_call (codeAny_mono (F.run X.A X.stack s H ⟨us,[]⟩ (us ++ ds) (vs ++ dvs) Q E hr I.env0 (hb s us I.kIn hl) r2 h) λr s' hq=>?_);cases r with
 |error e=>exact hx pins σ H s e s' I hq
 |ok fl =>
  cases fl with
  |ret u=>exact I.after hq
  |next=>exact False.elim hq
  |brk=>exact False.elim hq
  |cont=>exact False.elim hq
theorem ZoP (F:FnOk X.prog X.w X.K X.mg X.base CX k f fd ps sp) (hr:Room k X.A) (hg:Gl X x) (hm:X.mg x=some (.ref f)) (hk:PySem.W.keepIn X.K (.ref f)=true) (hb:Binds X.K fd ps ds) (hd:Vals dvs ds) (hx:Zez CX X E)
  (ha:PA X (e :: es) t) (hdb:(x == ("__debug__" : Str))=false:=by decide) (he:starEach (e :: es) X.env=(false,eval e X.env) :: starEach es X.env:=by rfl) (hpl:(backTo pos (starEach es X.env)).any (·.1)=false:=by rfl) :
  PE X (.Call (.Name x p) (e :: es) [] pos) (Zor sp dvs E t):=by
 intro pins s σ H Q I h;refine wpAny_Call_Name_kw (Zdd I hg hm ?_ hdb);refine PySem.W.callWith_K (h₀:=X.base) I.ok.mod.kin hk (thn (ha pos pins s σ H _ I h) λus s1 ⟨vs,H1,I1,r,q⟩=>⟨I1.kIn,?_⟩) he hpl;exact Zj8 F hr hb hd hx I1 r q
theorem ZoL {pl:Sem Bool} (he:PE X o ta) (c:Cls X.K C) (hm:Meth X.K C m f) (F:FnOk X.prog X.w X.K X.mg X.base CX k f fd ps sp) (hr:Room k X.A) (hb:Binds X.K fd ps ds) (hd:Vals dvs ds) (hx:Zez CX X E) (ha:PA X (e :: es) t)
  (hst:starEach (e :: es) X.env=(false,eval e X.env) :: starEach es X.env:=by rfl) (hpl:(backTo pos (starEach es X.env)).any (·.1)=false:=by rfl)
  (ht:eval (.Call (.Attribute o m apos) (e :: es) [] pos) X.env=(do
   let ov <- eval o X.env
   standAt apos.atName
   let (f,first) <- holding [ov] (getMethod ov m pl)
   callWith pos f first (backTo pos (starEach (e :: es) X.env)) (backToKw pos (keywordEach [] X.env))):=by rfl) :
  PE X (.Call (.Attribute o m apos) (e :: es) [] pos) (Zmb C m sp dvs E ta t):=by
 intro pins s σ H Q I h;refine PySem.W.methodCall_KW (pl:=pl) (thn (he pins s σ H _ I h) λu s1 ⟨x,H1,I1,rx,a,dx,fs,ex,ea,l,q⟩=>?_) ht;subst ex;obtain rfl:u=Value.ref a:=rx;refine Zde I1 ea c hm l ?_;refine PySem.W.callWith_K (first:=[.ref a]) (h₀:=X.base) I.ok.mod.kin hm.kp (thn (ha pos pins s1 σ H1 _ I1 q) λus s2 ⟨vs,H2,I2,r,q2⟩=>⟨I2.kIn,?_⟩) hst hpl;exact Zj8 (us:=.ref a :: us) (vs:=.ref a :: vs) F hr hb hd hx I2 (.cons rfl r) q2
theorem ZmD {pl:Sem Bool} (he:PE X o ta) (c:Cls X.K C) (hm:Meth X.K C m f) (F:FnOk X.prog X.w X.K X.mg X.base CX k f fd ps sp) (hr:Room k X.A) (hb:Binds X.K fd ps ds) (hd:Vals dvs ds) (hx:Zez CX X E)
  (ht:eval (.Call (.Attribute o m apos) [] [] pos) X.env=(do
   let ov <- eval o X.env
   standAt apos.atName
   let (f,first) <- holding [ov] (getMethod ov m pl)
   callWith pos f first (backTo pos (starEach [] X.env)) (backToKw pos (keywordEach [] X.env))):=by rfl) :
  PE X (.Call (.Attribute o m apos) [] [] pos) (Zmb C m sp dvs E ta tNil):=by
 intro pins s σ H Q I h;refine PySem.W.methodCall_KW (pl:=pl) (thn (he pins s σ H _ I h) λu s1 ⟨x,H1,I1,rx,a,dx,fs,ex,ea,l,q⟩=>?_) ht;subst ex;obtain rfl:u=Value.ref a:=rx;refine Zde I1 ea c hm l ?_;exact PySem.W.callWith_K0 (first:=[.ref a]) I1.kIn hm.kp (Zj8 (us:=[.ref a]) (vs:=[.ref a]) F hr hb hd hx I1 (.cons rfl .nil) q)
structure Mk (K:Yab) (C f:Addr):Prop where
 makes:PySem.W.makesIn K C=true
 init:PySem.W.findIn K (.ref C) "__init__" = some (some (.ref f))
 fn:PySem.W.isFn K (.ref f)=true
 kp:PySem.W.keepIn K (.ref C)=true
theorem Zmw {pins:List (Addr × Obj)}{σ:St}{H:Hp}{s:Shared}{Q:VK}{us:List Value}{vs:List V} (M:Mk X.K C f) (F:FnOk X.prog X.w X.K X.mg X.base CX k f fd ps sp) (hr:Room (k+1) X.A) (hb:Binds X.K fd ps ds) (hd:Vals dvs ds)
  (hx:Zez CX X E) (I:Inv X pins σ H s) (r:Vals vs us)
  (h:∀ x dx,H x=none->H dx=none->dx≠x->sp (.ref x :: (vs ++ dvs)) (upd (upd H dx (.own x)) x (.ins C dx [])) (λv H2=>v=.non/\Q (.ref x) H2) E) :
  wpAny (model X.prog X.w) X.A (call (.ref C) us) (EP X pins σ Q) X.xe s:=by
 have hq:=h (s.heap.objs.size+1) s.heap.objs.size (I.hok.fresh (Nat.le_succ _)) (I.hok.fresh (Yag _)) (Yap (Nat.lt_succ_self _));have I2:=Inv.made (C:=C) I;have r2:Vals (V.ref (s.heap.objs.size+1) :: (vs ++ dvs)) (Value.ref (s.heap.objs.size+1) :: (us ++ ds)):=.cons rfl (r.append hd);have hl:(Value.ref (s.heap.objs.size+1) :: us ++ ds).length=ps.length:=by
  have e:=r2.length;rw [F.len _ _ _ _ hq] at e;exact e.symm
 refine wpAny_call (Zne (f:=f) I.kIn M.makes M.init (beq_iff_eq.mp M.fn) (codeAny_mono (F.run _ X.stack _ _ ⟨Value.ref (s.heap.objs.size+1) :: us,[]⟩ (Value.ref (s.heap.objs.size+1) :: (us ++ ds)) _ _ E (hr.make C us [])
  (I2.env0.make C us []) (hb _ (Value.ref (s.heap.objs.size+1) :: us) I2.kIn hl) r2 hq) λr s' hq'=>?_))
 cases r with
 |error e=>exact hx pins σ _ _ e s' I2 hq'
 |ok fl =>
  cases fl with
  |ret u =>
   obtain ⟨v,H',I3,rv,ev,q3⟩:=I2.after hq';subst ev;exact ⟨rv,⟨V.ref (s.heap.objs.size+1),H',I3,rfl,q3⟩⟩
  |next=>exact False.elim hq'
  |brk=>exact False.elim hq'
  |cont=>exact False.elim hq'
theorem ZoN (M:Mk X.K C f) (F:FnOk X.prog X.w X.K X.mg X.base CX k f fd ps sp) (hr:Room (k+1) X.A) (hg:Gl X x) (hm:X.mg x=some (.ref C)) (hb:Binds X.K fd ps ds) (hd:Vals dvs ds) (hx:Zez CX X E)
  (ha:PA X (e :: es) t) (hdb:(x == ("__debug__" : Str))=false:=by decide) (he:starEach (e :: es) X.env=(false,eval e X.env) :: starEach es X.env:=by rfl) (hpl:(backTo pos (starEach es X.env)).any (·.1)=false:=by rfl) :
  PE X (.Call (.Name x p) (e :: es) [] pos) (ZpO C sp dvs E t):=by
 intro pins s σ H Q I h;refine wpAny_Call_Name_kw (Zdd I hg hm ?_ hdb);refine PySem.W.callWith_K (h₀:=X.base) I.ok.mod.kin M.kp (thn (ha pos pins s σ H _ I h) λus s1 ⟨vs,H1,I1,r,q⟩=>⟨I1.kIn,?_⟩) he hpl;exact Zmw M F hr hb hd hx I1 r q
end
def PK (X:Cx) (kws:List Keyword) (t:TA):Prop :=
 ∀ (pos:Pos) (pins:List (Addr × Obj)) (s:Shared) (σ:St) (H:Hp) (Q:List V->Hp->Prop),Inv X pins σ H s->t σ H Q->wpAny (model X.prog X.w) X.A (evalAll ((backToKw pos (keywordEach kws X.env)).map (·.2))) (AP X pins σ Q) X.xe s
section
variable {X:Cx}{CX:CXT}{k:Nat}{f C:Addr}{fd:FuncData}{ps ks:List Str}{sp:Sp}{E:XK}{x m:Str}{p pos apos kpos:Pos}{e o:Expr}{es:List Expr}{kws:List Keyword}{te ta:TE}{t tk:TA}{nm:Option Str}
theorem ZnY:PK X [] tNil:=λ_ _ _ _ H Q I h=>wpAny_evalAll_nil ⟨[],H,I,.nil,h⟩
theorem Zkf (ha:PE X e te) (hr:PK X kws t):PK X (⟨nm,e,kpos⟩ :: kws) (Zc3 te t):=by
 intro pos pins s σ H Q I h;show wpAny _ _ (evalAll ((do let v <- eval e X.env;standAt pos;pure v) :: (backToKw pos (keywordEach kws X.env)).map (·.2))) _ _ s;refine wpAny_evalAll_cons (Ya3 (thn (ha pins s σ H _ I h) λu s1 ⟨x,H1,I1,r1,q1⟩=>Ya3 (wpAny_standAt (Ya8 ?_))));exact thn (hr pos pins s1 σ H1 _ I1 q1) λus s2 ⟨xs,H2,I2,r2,q2⟩=>⟨x :: xs,H2,I2,.cons r1 r2,q2⟩
variable {g:List Value->List Value->List Value}{gV:List V->List V->List V}
end
structure FnScope (N P:List Str) (sc:Scope):Prop where
 kind:sc.kind=.function
 co:sc.isCoroutine=false
 gen:sc.isGenerator=false
 nd:N.Nodup
 pre:N.take P.length=P
 par:∀ x∈P,sc.names.lookup x=some .local\/sc.names.lookup x=some .cell
 nofree:∀ y∈sc.names,y.2≠.free
theorem Zg2 {kindOf:Str->Option NameKind}{x:Str}:∀ {binds:List (Str × Value)}{m:Str->Option Value},(∀ v,(x,v)∉binds)->bindL kindOf binds m x=m x
 | [],_,_=>rfl
 | (n,v) :: r,m,h=>by
  unfold bindL;rw [Zg2 λw hw=>h w (Yas _ hw)];split
  ·have:x≠n:=by rintro rfl;exact h v YaM
   simp [this]
  ·rfl
theorem Zg4 {kindOf:Str->Option NameKind}{x:Str}:∀ {binds:List (Str × Value)}{m:Str->Option Value},(∀ v,(x,v)∉binds)->bindC kindOf binds m x=m x
 | [],_,_=>rfl
 | (n,v) :: r,m,h=>by
  unfold bindC;rw [Zg4 λw hw=>h w (Yas _ hw)];split
  ·rfl
  ·have:x≠n:=by rintro rfl;exact h v YaM
   simp [this]
theorem Zg3 {kindOf:Str->Option NameKind}{x:Str}{v:Value}:∀ {P:List Str}{vs:List Value}{i:Nat}{m:Str->Option Value},P.Nodup->P[i]? = some x->vs[i]? = some v->kindOf x=some .local ->
  bindL kindOf (P.zip vs) m x=some v
 | [],_,_,_,_,h,_,_=>by simp at h
 |_ :: _,[],_,_,_,_,h,_=>by simp at h
 |p :: P,w :: vs,0,m,nd,h1,h2,hk=>by
  simp at h1 h2;subst h1;subst h2;show bindL kindOf ((p,w) :: P.zip vs) m p=_;unfold bindL;rw [Zg2 λv hv=>(Yba.mp nd).1 (List.of_mem_zip hv).1,Ya7 hk];simp
 |p :: P,w :: vs,i+1,m,nd,h1,h2,hk=>by
  show bindL kindOf ((p,w) :: P.zip vs) m x=_;unfold bindL;exact Zg3 (i:=i) (Yba.mp nd).2 (by simpa using h1) (by simpa using h2) hk
theorem Zg5 {kindOf:Str->Option NameKind}{x:Str}{v:Value}:∀ {P:List Str}{vs:List Value}{i:Nat}{m:Str->Option Value},P.Nodup->P[i]? = some x->vs[i]? = some v->kindOf x≠some .local ->
  bindC kindOf (P.zip vs) m x=some v
 | [],_,_,_,_,h,_,_=>by simp at h
 |_ :: _,[],_,_,_,_,h,_=>by simp at h
 |p :: P,w :: vs,0,m,nd,h1,h2,hk=>by
  simp at h1 h2;subst h1;subst h2;show bindC kindOf ((p,w) :: P.zip vs) m p=_;unfold bindC;rw [Zg4 λv hv=>(Yba.mp nd).1 (List.of_mem_zip hv).1,Ya6 hk];simp
 |p :: P,w :: vs,i+1,m,nd,h1,h2,hk=>by
  show bindC kindOf ((p,w) :: P.zip vs) m x=_;unfold bindC;exact Zg5 (i:=i) (Yba.mp nd).2 (by simpa using h1) (by simpa using h2) hk
def Zdx (N:List Str) (vs:List V):St:=vs.map some ++ List.replicate (N.length - vs.length) none
def cxOf (CX:CXT) (P:Program) (w:World) (K:Yab) (mg:Str->Option Value) (base:Heap) (N:List Str) (qual:Str) (scope:Scope) (f:Addr) (cd:Value) (A:Around) (outer:List Env) (s:Shared) (H:Hp) (E:XK):Cx where
 prog:=P
 w:=w
 K:=K
 mg:=mg
 base:=base
 A:=A.deeper (envOfC qual scope s.heap.objs.size f cd)
 N:=N
 s₀:=s
 H₀:=H
 env:=envOfC qual scope s.heap.objs.size f cd
 outer:=outer
 stack:=envOfC qual scope s.heap.objs.size f cd :: outer
 ex:=[]
 calm:=true
 fn:=λ_=>true
 pn:=[]
 xe:=λe s'=>wpAny (model P w) (A.deeper (envOfC qual scope s.heap.objs.size f cd)) (leaving (envOfC qual scope s.heap.objs.size f cd) e) (λ_ s''=>CX outer H s E e s'') (λe' s''=>CX outer H s E e' s'') s'
theorem ZiH {sc:Scope}{n:Nat}{x:Str} (h:sc.names.lookup x=some .cell):∃ c,(cellsFrom n sc.names []).lookup x=some c:=by
 have q:=PySem.W.cellsFrom_some sc.names n [] (.inl h);exact Option.isSome_iff_exists.mp q
theorem Zk4 {CX:CXT}{P:Program}{w:World}{K:Yab}{mg:Str->Option Value}{base:Heap}{N ps:List Str}{qual:Str}{scope:Scope}{f:Addr}{cd:Value}{A:Around}{outer:List Env}{s s1:Shared}{H:Hp}{E:XK}{us:List Value}{vs:List V}
  (S:FnScope N ps scope) (hd:A.handled=none) (e0:Env0 P w K mg base A outer s H) (hl:vs.length=ps.length) (r:Vals vs us)
  (x:InCallC s s.heap.objs.size (bindL (envOfC qual scope s.heap.objs.size f cd).kindOf (ps.zip us) λ_=>none) (cellsFrom (s.heap.objs.size+1) scope.names []) (bindC (envOfC qual scope s.heap.objs.size f cd).kindOf (ps.zip us) λ_=>none) s1) :
  Inv (cxOf CX P w K mg base N qual scope f cd A outer s H E) [] (Zdx N vs) H s1:=by
 have hpl:ps.length<=N.length:=by have:=congrArg List.length S.pre;rw [YaR] at this;omega
 obtain ⟨h1,tk,rfl,hk⟩:=x.done;have noA:∀ b:Addr,b∉(cxOf CX P w K mg base N qual scope f cd A outer s H E).ex:=λb z=>absurd (show b∈([]:List Addr) from z) (by simp);refine ⟨⟨e0.mod,S.kind,rfl,rfl,Yag _,λy z c h1 h2=>?_,λy hy=>?_,λy c _ h=>?_,λ_=>hd,Around.frames_deeper e0.frames,.inr ⟨rfl,rfl⟩,λb z=>absurd z (noA b),e0.bs,e0.bsz,λb _ _=>noA b,λb z=>absurd z (noA b),e0.funs,e0.frf⟩,
  rfl,e0.bare,Un.kept hk,⟨_,x.toInCall.ns,λi y v h1 h2 h3=>?_⟩,λy c h=>⟨_,x.cell y c h⟩,e0.hok.fresh (Yag _),λy c h=>?_,λp hp=>absurd (show p∈([]:List (Addr × Obj)) from hp) (by simp),e0.hok.kept hk,?_⟩
 ·exact name_of_addr x.apart (PySem.mem_of_lookup h1) (PySem.mem_of_lookup h2)
 ·have hy:scope.names.lookup y=some .cell\/scope.names.lookup y=some .free:=hy;rcases hy with hy | hy
  ·exact ZiH hy
  ·exact absurd rfl (S.nofree _ (PySem.mem_of_lookup hy))
 ·exact Nat.le_of_lt (x.above y c (PySem.mem_of_lookup h))
 ·have hi:i<vs.length:=by
   unfold Zdx at h2
   by_cases hi:i<vs.length
   ·exact hi
   ·rw [List.getElem?_append_right (by simpa using hi)] at h2;rw [List.getElem?_replicate] at h2;split at h2 <;> cases h2
  have ha:vs[i]? = some v:=by
   unfold Zdx at h2;rw [List.getElem?_append_left (by simpa using hi),Yaf] at h2;cases e:vs[i]? with
   |none=>rw [e] at h2;cases h2
   |some a=>rw [e] at h2;cases h2;rfl
  obtain ⟨u,hu,rv⟩:=r.get ha;have hp:ps[i]? = some y:=by
   rw [<- S.pre,List.getElem?_take_of_lt (by omega)];exact h1
  have ndP:ps.Nodup:=by rw [<- S.pre];exact S.nd.sublist (List.take_sublist _ _)
  refine ⟨u,rv,?_⟩;rcases S.par y (YaP hp) with k | k
  ·exact .inl ⟨k,Zg3 ndP hp hu k⟩
  ·obtain ⟨c,e⟩:=ZiH (n:=s.heap.objs.size+1) k;refine .inr ⟨.inl k,c,e,?_⟩;have q:=x.cell y c e;rw [Zg5 ndP hp hu (by show scope.names.lookup y≠_;rw [k];decide)] at q;exact q
 ·exact e0.hok.fresh (Nat.le_of_lt (x.above y c (PySem.mem_of_lookup h)))
 ·unfold Zdx;show _=N.length;rw [Yak,Yaa,List.length_replicate];omega
theorem Zpk {CX:CXT}{P:Program}{w:World}{K:Yab}{mg:Str->Option Value}{base:Heap}{k:Nat}{f:Addr}{name qual:Str}{params:Arguments}{body:List Stmt}{scope:Scope}{dV kV doc pm cdv ct oc:Value}{an od:Option Addr}
  {osl:Array (Option Value)}{N ps:List Str}{sp:Sp} (lk:K.lookup f=some ⟨oc,od,.func (PySem.W.fnOf name qual params body scope dV kV doc pm an cdv ct),osl⟩) (hcd:PySem.W.codeIn K cdv qual=true) (S:FnScope N ps scope)
  (len:∀ vs H Q E,sp vs H Q E->vs.length=ps.length)
  (hbody:∀ (A:Around) (outer:List Env) (s:Shared) (H:Hp) (vs:List V) (Q:VK) (E:XK),Room k (A.deeper (envOfC qual scope s.heap.objs.size f cdv))->sp vs H Q E ->
   ∃ t,PSs (cxOf CX P w K mg base N qual scope f cdv A outer s H E) body t/\t { nx:=λ_ H'=>Q .non H',rt:=Q } (Zdx N vs) H) :
  FnOk P w K mg base CX (k+1) f (PySem.W.fnOf name qual params body scope dV kV doc pm an cdv ct) ps sp:=by
 refine ⟨len,λA outer s H args us vs Q E hr e0 hb r hsp=>?_⟩;have hl:=len _ _ _ _ hsp;have KX:K.In s.heap:=e0.mod.kin.keeps λb o e=>(e0.bs b o e).1;have lim:s.heap.NoLimit:=e0.mod.nolimit.keeps λb o e=>(e0.bs b o e).1;have hkind:∀ y∈ps.zip us,scope.names.lookup y.1=some .local\/(scope.names.lookup y.1=some .cell/\((cellsFrom (s.heap.objs.size+1) scope.names []).lookup y.1).isSome=true):=λ⟨n,v⟩ hy=>by
  rcases S.par n (List.of_mem_zip hy).1 with q | q
  ·exact .inl q
  ·exact .inr ⟨q,PySem.W.cellsFrom_some _ _ _ (.inl q)⟩
 refine codeAny_call_function hr.depth (KX _ _ lk) rfl S.co S.gen rfl (PySem.W.codeRec_of KX hcd) (hb _ _ _ _ ?_);refine wpAny_newFunctionEnv_cells S.kind hkind λenv he s1 x=>?_;subst he;refine ⟨lim.keeps x.toInCall.keep,codeAny_func ?_⟩;obtain ⟨t,ht,hq⟩:=hbody A outer s H vs Q E (hr.deeper _) hsp;have I:Inv (cxOf CX P w K mg base N qual scope f cdv A outer s H E) [] (Zdx N vs) H s1:=Zk4 S hr.hd e0 hl r x;refine Ya9 (ht [] s1 (Zdx N vs) H _ I hq) (λfl s' hs=>?_) λe s' hs=>hs;have fin:∀ {σ':St}{H':Hp}{v:V}{u:Value},Inv (cxOf CX P w K mg base N qual scope f cdv A outer s H E) [] σ' H' s'->RelV v u->Q v H'->CE outer P w H s Q u s' :=
  λ{σ' H' v u} J rv q=>⟨v,H',J.os,J.bare,J.base,J.hok,rv,q⟩
 cases fl with
 |ret u =>
  obtain ⟨v,σ',H',J,rv,q⟩:=hs;exact fin J rv q
 |next =>
  obtain ⟨σ',H',J,q⟩:=hs;exact fin (v:=V.non) (u:=Value.none) J rfl q
 |brk =>
  obtain ⟨_,_,_,q⟩:=hs;exact False.elim q
 |cont =>
  obtain ⟨_,_,_,q⟩:=hs;exact False.elim q
open PySem PySem.Spec PyProof.Rows
section
variable {X:Cx}{x:Str}{p pos:Pos}{e:Expr}{es:List Expr}{t:TA}{id T:String}{r:List V->Hp->VK->Prop}
def tCB (r:List V->Hp->VK->Prop) (t:TA):TE:=λσ H Q=>t σ H λvs H1=>r vs H1 Q
theorem ZmH (hc:Zcc X (.builtin id) r) (hg:Gl X x) (hm:X.mg x=none) (hv:bootBuiltins x=some (.builtin id)) (ha:PA X (e :: es) t) (hn:x ≠ "__name__" := by decide) (hdb:(x == ("__debug__" : Str))=false:=by decide)
  (he:starEach (e :: es) X.env=(false,eval e X.env) :: starEach es X.env:=by rfl) (hpl:(backTo pos (starEach es X.env)).any (·.1)=false:=by rfl):PE X (.Call (.Name x p) (e :: es) [] pos) (tCB r t):=by
 intro pins s σ H Q I h;refine wpAny_Call_Name_kw (Zcd I hg hm hv ?_ hn hdb);exact PyProof.Rows.callWith_builtin1 (thn (ha pos pins s σ H _ I h) λus s1 ⟨vs,H1,I1,r1,q1⟩=>hc pins s1 σ H1 vs us Q I1 r1 q1) he hpl
theorem Zkm (hc:Zcc X (.type T) r) (hg:Gl X x) (hm:X.mg x=none) (hv:bootBuiltins x=some (.type T)) (ha:PA X (e :: es) t) (hn:x ≠ "__name__" := by decide) (hdb:(x == ("__debug__" : Str))=false:=by decide)
  (he:starEach (e :: es) X.env=(false,eval e X.env) :: starEach es X.env:=by rfl) (hpl:(backTo pos (starEach es X.env)).any (·.1)=false:=by rfl):PE X (.Call (.Name x p) (e :: es) [] pos) (tCB r t):=by
 intro pins s σ H Q I h;refine wpAny_Call_Name_kw (Zcd I hg hm hv ?_ hn hdb);exact PyProof.Rows.callWith_type1 (thn (ha pos pins s σ H _ I h) λus s1 ⟨vs,H1,I1,r1,q1⟩=>hc pins s1 σ H1 vs us Q I1 r1 q1) he hpl
end
end L2
namespace HT
open PySem PyProof.Rows
def lexLt:List Int->List Int->Bool
 | [],[]=>false
 | [],_ :: _=>true
 |_ :: _,[]=>false
 |x :: xs,y :: ys=>if x=y then lexLt xs ys else decide (x<y)
theorem lexLt_cons (x y:Int) (xs ys:List Int):lexLt (x :: xs) (y :: ys)=if x=y then lexLt xs ys else decide (x<y):=rfl
theorem lexLt_nil_nil:lexLt [] []=false:=rfl
theorem lexLt_nil_cons (y:Int) (ys:List Int):lexLt [] (y :: ys)=true:=rfl
theorem lexLt_cons_nil (x:Int) (xs:List Int):lexLt (x :: xs) []=false:=rfl
section
open PySem.SeqAt
open PySem.AutoSeq1 (wpAny_loadPart')
open PySem.MeetsSeq PySem.MeetsSeq2 PySem.MeetsSeq3
end
section
variable {prog:Program}{w:World}{A:Around}{E:Value->Shared->Prop}{s:Shared}
def sIx (n d:Nat):Option Int->Nat
 |none=>d
 |some v=>if v<0 then (v+(n:Int)).toNat else min v.toNat n
theorem sIx_none (n d:Nat):sIx n d none=d:=rfl
theorem sIx_nat (n d k:Nat):sIx n d (some (k:Int))=min k n:=by
 show (if (k:Int)<0 then ((k:Int)+(n:Int)).toNat else min (k:Int).toNat n)=min k n;rw [Ya6 (by omega),Yav]
end
end HT
namespace L2
open PySem PySem.Spec PyProof.Rows
abbrev TO:=St->Hp->(Option Int->Hp->Prop)->Prop
def PO (X:Cx) (e:Option Expr) (t:TO):Prop :=
 ∀ (pins:List (Addr × Obj)) (s:Shared) (σ:St) (H:Hp) (Q:Option Int->Hp->Prop),Inv X pins σ H s->t σ H Q ->
  wpAny (model X.prog X.w) X.A (evalPart e X.env) (λu s'=>∃ o H',Inv X pins σ H' s'/\IsPart u o/\Q o H') X.xe s
def Zop:TO:=λ_ H Q=>Q none H
def ZqW (t:TE):TO:=λσ H Q=>t σ H λx H1=>∃ i,x=.int i/\Q (some i) H1
section
variable {X:Cx}{e:Expr}{te:TE}{lo hi:Option Expr}{tl th:TO}{pos p2:Pos}
theorem Zfj:PO X none Zop:=by
 intro pins s σ H Q I h;rw [evalPart_none];exact Ya8 ⟨none,H,I,.none,h⟩
theorem Zda (h:PE X e te):PO X (some e) (ZqW te):=by
 intro pins s σ H Q I hw;rw [evalPart_some];refine thn (h pins s σ H _ I hw) λu s1 ⟨x,H1,I1,r1,q1⟩=>?_;obtain ⟨i,rfl,q⟩:=q1;obtain ⟨t,rfl⟩:=r1;exact ⟨some i,H1,I1,.int i t,q⟩
def SlR (X:Cx) (r:V->Option Int->Option Int->Hp->VK->Prop):Prop :=
 ∀ (pins:List (Addr × Obj)) (s:Shared) (σ:St) (H:Hp) (x:V) (v vl vu:Value) (lo hi:Option Int) (sl:Addr) (Q:VK),Inv X pins σ H s->RelV x v->s.heap.IsSliceOf sl vl vu .none->IsPart vl lo->IsPart vu hi->r x lo hi H Q ->
  ∃ T id,typeLookup (.type T) "__getitem__" = pure (some (.builtin id))/\s.TypeIs v T/\wpAny (model X.prog X.w) X.A (getItem v (.ref sl)) (EP X pins σ Q) X.xe s
def tSl (r:V->Option Int->Option Int->Hp->VK->Prop) (te:TE) (tl th:TO):TE:=λσ H Q=>te σ H λx H1=>tl σ H1 λl H2=>th σ H2 λu H3=>r x l u H3 Q
theorem ZdD {r:V->Option Int->Option Int->Hp->VK->Prop} (hr:SlR X r) (he:PE X e te) (hl:PO X lo tl) (hu:PO X hi th):PE X (.Subscript e (.Slice lo hi none p2) pos) (tSl r te tl th):=by
 intro pins s σ H Q I h;refine Subscript_ (thn (he pins s σ H _ I h) λv s1 ⟨x,H1,I1,r1,q1⟩=>?_);refine wpAny_Slice (thn (hl pins s1 σ H1 _ I1 q1) λvl s2 ⟨l,H2,I2,pl,q2⟩=>thn (hu pins s2 σ H2 _ I2 q2) λvu s3 ⟨u,H3,I3,pu,q3⟩=>?_);rw [evalPart_none];refine Ya8 ?_;have I4:Inv X pins σ H3 { s3 with heap:=s3.heap.push { cls:=.type "slice",data:=.fields #[vl,vu,.none] } }:=I3.kept (t':=s3.toks) λb ob q=>Yad _ q;obtain ⟨T,id,hT,ht,hg⟩:=hr pins { s3 with heap:=s3.heap.push { cls:=.type "slice",data:=.fields #[vl,vu,.none] } } σ H3 x v vl vu l u s3.heap.objs.size Q I4 r1 (Heap.IsSliceOf.new ..) pl pu q3;show wpAny (model X.prog X.w) X.A (subscriptTail e (.Slice lo hi none p2) v (.ref s3.heap.objs.size)) (EP X pins σ Q) X.xe { s3 with heap:=s3.heap.push { cls:=.type "slice",data:=.fields #[vl,vu,.none] } };exact tail_any (ops:=[.ref s3.heap.objs.size,v]) ht hT hg (by with_unfolding_all rfl)
def cutV (xs:List V) (lo hi:Option Int):List V:=(xs.drop (HT.sIx xs.length 0 lo)).take (HT.sIx xs.length xs.length hi - HT.sIx xs.length 0 lo)
theorem ZhK (xs:List V) (lo hi:Option Int):(cutV xs lo hi).length<=xs.length:=by
 unfold cutV;rw [YaR,List.length_drop];omega
end
open PySem PySem.Spec PyProof.Rows
def ixN (n:Nat) (i:Int):Option Nat:=if 0<=i then (if i<n then some i.toNat else none) else if -(n:Int)<=i then some (i+n).toNat else none
def atI {α:Type} (xs:List α) (i:Int):Option α:=(ixN xs.length i).bind λj=>xs[j]?
theorem Zk2 {n:Nat}{i:Int}{j:Nat} (h:ixN n i=some j):seqIndex? i n=some j/\j<n/\-(n:Int)<=i/\i<n:=by
 unfold ixN at h
 by_cases h0:0<=i
 ·rw [Ya7 h0] at h
  by_cases h1:i<n
  ·rw [Ya7 h1] at h;have e:i.toNat=j:=Yae h;exact ⟨by rw [seqIndex_of h0 h1,e],by omega,by omega,h1⟩
  ·rw [Ya6 h1] at h;cases h
 ·rw [Ya6 h0] at h
  by_cases h1:-(n:Int)<=i
  ·rw [Ya7 h1] at h;have e:(i+n).toNat=j:=Yae h;exact ⟨by rw [seqIndex_neg (by omega) h1,e],by omega,h1,by omega⟩
  ·rw [Ya6 h1] at h;cases h
theorem ZlT {α:Type}{xs:List α}{i:Int}{v:α} (h:atI xs i=some v):∃ j,seqIndex? i xs.length=some j/\xs[j]? = some v/\j<xs.length/\-(xs.length:Int)<=i/\i<xs.length:=by
 unfold atI at h;cases e:ixN xs.length i with
 |none=>rw [e] at h;cases h
 |some j =>
  rw [e] at h;obtain ⟨h1,h2,h3,h4⟩:=Zk2 e;exact ⟨j,h1,h,h2,h3,h4⟩
theorem Zaz {α:Type}{xs:List α}{j:Nat}{v:α} (h:xs[j]? = some v):atI xs (j:Int)=some v:=by
 have hj:j<xs.length:=(Yai.mp h).1;have e:ixN xs.length (j:Int)=some j:=by
  unfold ixN;rw [Ya7 (by omega),Ya7 (by omega)];simp
 unfold atI;rw [e];exact h
theorem ZfV {α:Type} (xs:List α) (v:α):atI (xs ++ [v]) (-1)=some v:=by
 have hl:(xs ++ [v]).length=xs.length+1:=by simp
 have e:ixN (xs ++ [v]).length (-1)=some xs.length:=by
  unfold ixN;rw [hl,Ya6 (by decide),Ya7 (by omega)]
  congr 1
  omega
 unfold atI;rw [e];show (xs ++ [v])[xs.length]? = some v;simp
def Zl0 (b:Expr):Prop:=∀ o i,subscripted b false o i=operate [o,i] (getItem o i)
def IxR (X:Cx) (r:R2):Prop :=
 ∀ (value slice:Expr) (pins:List (Addr × Obj)) (s:Shared) (σ:St) (H:Hp) (x y:V) (v u:Value) (Q:VK),Inv X pins σ H s->RelV x v->RelV y u->r x y H Q ->
  subscripted slice false v u=operate [v,u] (getItem v u)->wpAny (model X.prog X.w) X.A (subscriptTail value slice v u) (EP X pins σ Q) X.xe s
def MtR (X:Cx) (id:String) (r:V->List V->Hp->VK->Prop):Prop :=
 ∀ (pins:List (Addr × Obj)) (s:Shared) (σ:St) (H:Hp) (x:V) (xs:List V) (v:Value) (us:List Value) (Q:VK),Inv X pins σ H s->RelV x v->Vals xs us->r x xs H Q ->
  wpAny (model X.prog X.w) X.A (call (.builtin id) (v :: us)) (EP X pins σ Q) X.xe s
section
variable {X:Cx}{a b:Expr}{ta tb:TE}{pos:Pos}
theorem Zrj {r:R2} (hr:IxR X r) (ha:PE X a ta) (hb:PE X b tb) (hs:Zl0 b):PE X (.Subscript a b pos) (tOp r ta tb):=by
 intro pins s σ H Q I h;exact Subscript_ (binT ha hb I h λv u s2 x y H2 I2 rx ry q=>hr a b pins s2 σ H2 x y v u Q I2 rx ry q (hs _ _))
inductive RIxL (K:Yab) (x y:V) (H:Hp) (Q:VK):Prop
 |mk (p:Addr) (xs:List V) (i:Int) (v:V) (h1:x=.ref p) (h2:y=.int i) (h3:SqL K H p xs) (h4:atI xs i=some v) (q:Q v H):RIxL K x y H Q
def rIxL (K:Yab):R2:=λx y H Q=>RIxL K x y H Q
inductive RIxT (K:Yab) (x y:V) (H:Hp) (Q:VK):Prop
 |mk (p:Addr) (xs:List V) (i:Int) (v:V) (h1:x=.ref p) (h2:y=.int i) (h3:SqT K H p xs) (h4:atI xs i=some v) (q:Q v H):RIxT K x y H Q
def rIxT (K:Yab):R2:=λx y H Q=>RIxT K x y H Q
theorem Zaj:IxR X (rIxL X.K):=by
 intro value slice pins s σ H x y v u Q I rx ry h hs;obtain ⟨p,xs,i,z,rfl,rfl,hq,he,q⟩:=h;cases rx;obtain ⟨t,rfl⟩:=ry;obtain ⟨its,r,pl,hz⟩:=I.list hq;obtain ⟨j,h1,h2,h3,h4,h5⟩:=ZlT he;obtain ⟨w,ew,rw'⟩:=r.get h2;have hl:=r.length;have hn:=ZgE;have fin:EP X pins σ Q w s:=⟨z,H,I,rw',q⟩
 by_cases h0:0<=i
 ·have hj:i.toNat=j:=by
   rw [seqIndex_of h0 h5] at h1;exact Yae h1
  exact item_listR pl.isList h0 (by omega) (by rw [hj];simpa using ew) fin hs
 ·have hj:(i+(its.toArray.size:Int)).toNat=j:=by
   rw [seqIndex_neg (by omega) h4] at h1;rw [Yam,<- hl];exact Yae h1
  exact subscriptTail_builtinR (x:=w) pl.isList.typeIs slot_list_getitem.lookup
   (wpAny_getItem_list_neg (Q:=λr s'=>r=w/\EP X pins σ Q r s') pl.isList (by omega) (by rw [Yam] <;> omega) (by omega) (by rw [hj];simpa using ew) ⟨rfl,fin⟩) hs
theorem ZaJ:IxR X (rIxT X.K):=by
 intro value slice pins s σ H x y v u Q I rx ry h hs;obtain ⟨p,xs,i,z,rfl,rfl,hq,he,q⟩:=h;cases rx;obtain ⟨t,rfl⟩:=ry;obtain ⟨its,r,pl,hz⟩:=I.tuple hq;obtain ⟨j,h1,h2,h3,h4,h5⟩:=ZlT he;obtain ⟨w,ew,rw'⟩:=r.get h2;have hl:=r.length;have hn:=ZgE;have fin:EP X pins σ Q w s:=⟨z,H,I,rw',q⟩;exact subscriptTail_builtinR (x:=w) pl.typeIs slot_tuple_getitem.lookup
  (getItem_tuple (j:=j) (Q:=λr s'=>r=w/\EP X pins σ Q r s') pl (by omega) (by omega) (by rw [Yam,<- hl];exact h1) (by simpa using ew) ⟨rfl,fin⟩) hs
theorem Zjg (its:List Value) (n j:Nat) (u:Value):Obj.mapSeq (·.setIfInBounds j u) { cls:=.type "list",data:=.seq its.toArray n }={ cls:=.type "list",data:=.seq (its.set j u).toArray n }:=by
 simp [Obj.mapSeq]
theorem Inv.lst {pins:List (Addr × Obj)}{σ:St}{H:Hp}{s:Shared}{p:Addr}{xs:List V} (I:Inv X pins σ H s) (h:H p=some (.lst xs)) :
  ∃ (its:List Value) (n:Nat),Vals xs its/\s.heap.get? p=some { cls:=.type "list",data:=.seq its.toArray n }/\xs.length<=sizeLine:=by
 obtain ⟨z,its,n,r,e⟩:=I.hok p _ h;exact ⟨its,n,r,e,z⟩
theorem Inv.lstUpd {pins:List (Addr × Obj)}{σ:St}{H:Hp}{s:Shared}{p:Addr}{xs ys:List V}{its its':List Value}{n n':Nat}{f:Obj->Obj} (I:Inv X pins σ H s) (h:H p=some (.lst xs))
  (ho:s.heap.get? p=some { cls:=.type "list",data:=.seq its.toArray n }) (hf:f { cls:=.type "list",data:=.seq its.toArray n }={ cls:=.type "list",data:=.seq its'.toArray n' }) (r:Vals ys its') (hz:ys.length<=sizeLine) (t:Nat) :
  Inv X pins σ (upd H p (.lst ys)) { s with heap:=s.heap.update p f,toks:=t }:=by
 have e:(s.heap.update p f).get? p=some { cls:=.type "list",data:=.seq its'.toArray n' }:=by
  rw [Heap.get?_update_self f ho (by rw [hf] <;> rfl),hf]
 refine I.write (x:=p) (e:=p) (by rw [h];trivial) (.inl rfl) (λb u hb q=>(YaY _ _ (Ne.symm hb)).trans q) ⟨_,e⟩ ?_;exact ⟨hz,its',n',r,e⟩
def Zq9:V->V->V->Hp->(Hp->Prop)->Prop:=λo i v H Q=>∃ p xs k j,o=.ref p/\i=.int k/\H p=some (.lst xs)/\ixN xs.length k=some j/\Q (upd H p (.lst (xs.set j v)))
theorem Zfc:PSet X Zq9:=by
 intro pins s σ H o i v ov iv u Q I ro ri rv h;obtain ⟨p,xs,k,j,rfl,rfl,hp,hj,q⟩:=h;cases ro;obtain ⟨t,rfl⟩:=ri;obtain ⟨its,n,r,ho,hz⟩:=I.lst hp;obtain ⟨h1,h2,h3,h4⟩:=Zk2 hj;have hl:=r.length;have hn:=ZgE;have I':Inv X pins σ (upd H p (.lst (xs.set j v))) { s with heap:=s.heap.update p (Obj.mapSeq (·.setIfInBounds j u)) } :=
  I.lstUpd hp ho (Zjg its n j u) (r.set rv j) (by rw [YaK];exact hz) s.toks
 by_cases h0:0<=k
 ·have hk:k.toNat=j:=by
   rw [seqIndex_of h0 h4] at h1;exact Yae h1
  exact PySem.W.ki_setAt ho h0 (by omega) (by rw [Yam,<- hl];exact h4) (by rw [hk];exact ⟨_,I',q⟩)
 ·have hk:(k+(its.toArray.size:Int)).toNat=j:=by
   rw [seqIndex_neg (by omega) h3] at h1;rw [Yam,<- hl];exact Yae h1
  exact PySem.W.ki_setBack ho (by omega) (by rw [Yam,<- hl];exact h3) (by omega) (by rw [hk];exact ⟨_,I',q⟩)
theorem Zf9 (lo hi:Option Int) (n:Nat):(sliceBounds lo hi none n).1=((HT.sIx n 0 lo:Nat):Int)/\(sliceBounds lo hi none n).2.1=((HT.sIx n n hi:Nat):Int)/\(sliceBounds lo hi none n).2.2=1:=by
 refine ⟨?_,?_,rfl⟩
 ·cases lo with
  |none=>simp [sliceBounds,HT.sIx]
  |some i =>
   simp only [sliceBounds,HT.sIx,Option.getD_none,show (1:Int) > 0 by decide,if_true]
   by_cases h:i<0
   ·simp only [h,if_true] <;> omega
   ·simp only [h,if_false] <;> omega
 ·cases hi with
  |none=>simp [sliceBounds,HT.sIx]
  |some i =>
   simp only [sliceBounds,HT.sIx,Option.getD_none,show (1:Int) > 0 by decide,if_true]
   by_cases h:i<0
   ·simp only [h,if_true] <;> omega
   ·simp only [h,if_false] <;> omega
theorem Zfa (its:List Value) (lo hi:Option Int):slicePick its.toArray lo hi none=((its.drop (HT.sIx its.length 0 lo)).take (HT.sIx its.length its.length hi - HT.sIx its.length 0 lo)).toArray:=by
 obtain ⟨h1,h2,h3⟩:=Zf9 lo hi its.toArray.size;unfold slicePick;rw [h1,h2,h3];simp only [sliceRange_one,pick_run,Yam] <;> rfl
def rSlL (K:Yab):V->Option Int->Option Int->Hp->VK->Prop:=λx lo hi H Q=>∃ a xs,x=.ref a/\SqL K H a xs/\∀ p,H p=none->Q (.ref p) (upd H p (.lst (cutV xs lo hi)))
theorem Zfb:SlR X (rSlL X.K):=by
 intro pins s σ H x v vl vu lo hi sl Q I rx hs pl pu h;obtain ⟨a,xs,rfl,hx,q⟩:=h;cases rx;obtain ⟨its,r,ht,hz⟩:=I.list hx;have hlen:=r.length;refine ⟨"list", _,slot_list_getitem.lookup,ht.isList.typeIs,?_⟩;refine wpAny_getItem_list_slice ht.isList hs pl pu .none (by simp) ?_ (by rw [Yam] <;> omega);rw [Zfa,<- hlen];refine ⟨.ref s.heap.objs.size,_,I.laid (t':=s.toks) (o:=.lst (cutV xs lo hi)) (λb ob q=>Yad _ q) (Yag _) ?_,rfl,q _ (I.hok.fresh (Yag _))⟩;exact ⟨Yay (ZhK xs lo hi) hz,_,0,(r.drop (HT.sIx xs.length 0 lo)).take (HT.sIx xs.length xs.length hi - HT.sIx xs.length 0 lo),Yao _ rfl⟩
def ZgM:V->Bool
 | .non=>true
 | .bl _=>true
 | .int _=>true
 | .str _=>true
 |_=>false
def eqV:V->V->Bool
 | .non,.non=>true
 | .bl a,.bl b=>a == b
 | .bl a,.int b=>(if a then 1 else 0) == b
 | .int a,.bl b=>a == (if b then 1 else 0)
 | .int a,.int b=>a == b
 | .str a,.str b=>a == b
 |_,_=>false
theorem ZqJ {A:Around}{s:Shared}{y x:V}{u v:Value} (ry:RelV y u) (rx:RelV x v) (fy:ZgM y=true) (fx:ZgM x=true):SeqAt.EqAt A s u v (eqV y x):=by
 cases y with
 |non =>
  cases ry;cases x with
  |non=>cases rx;exact SeqAt.EqAt.same _
  |bl b=>cases rx;exact SeqAt.EqAt.none_bool b
  |int b=>obtain ⟨t,rfl⟩:=rx;exact SeqAt.EqAt.none_int b t
  |str b=>obtain ⟨t,rfl⟩:=rx;exact SeqAt.EqAt.none_str b t
  |_=>exact absurd (show false=true from fx) Yaq
 |bl a =>
  cases ry;cases x with
  |non=>cases rx;exact SeqAt.EqAt.bool_none a
  |bl b=>cases rx;exact SeqAt.EqAt.bool_bool a b
  |int b=>obtain ⟨t,rfl⟩:=rx;exact SeqAt.EqAt.bool_int a b t
  |str b=>obtain ⟨t,rfl⟩:=rx;exact SeqAt.EqAt.bool_str a b t
  |_=>exact absurd (show false=true from fx) Yaq
 |int a =>
  obtain ⟨t',rfl⟩:=ry;cases x with
  |non=>cases rx;exact SeqAt.EqAt.int_none a t'
  |bl b=>cases rx;exact SeqAt.EqAt.int_bool a t' b
  |int b=>obtain ⟨t,rfl⟩:=rx;exact SeqAt.EqAt.int_int a t' b t
  |str b=>obtain ⟨t,rfl⟩:=rx;exact SeqAt.EqAt.int_str a t' b t
  |_=>exact absurd (show false=true from fx) Yaq
 |str a =>
  obtain ⟨t',rfl⟩:=ry;cases x with
  |non=>cases rx;exact SeqAt.EqAt.str_none a t'
  |bl b=>cases rx;exact SeqAt.EqAt.str_bool a t' b
  |int b=>obtain ⟨t,rfl⟩:=rx;exact SeqAt.EqAt.str_int a t' b t
  |str b=>obtain ⟨t,rfl⟩:=rx;exact SeqAt.EqAt.str_str a t' b t
  |_=>exact absurd (show false=true from fx) Yaq
 |_=>exact absurd (show false=true from fy) Yaq
def eqU (x:V) (u:Value):Bool:=match u with
 | .none=>eqV .non x
 | .bool b=>eqV (.bl b) x
 | .int i _=>eqV (.int i) x
 | .str z _=>eqV (.str z) x
 |_=>false
theorem Zod {x y:V}{u:Value} (r:RelV y u) (f:ZgM y=true):eqU x u=eqV y x:=by
 cases y with
 |non=>cases r;rfl
 |bl b=>cases r;rfl
 |int i=>obtain ⟨t,rfl⟩:=r;rfl
 |str z=>obtain ⟨t,rfl⟩:=r;rfl
 |_=>exact absurd (show false=true from f) Yaq
theorem ZhQ {x:V}:∀ {xs:List V}{us:List Value},Vals xs us->xs.all ZgM=true->us.any (eqU x)=xs.any λy=>eqV y x
 |_,_,.nil,_=>rfl
 |y :: xs,u :: us,.cons r t,f=>by
  rw [List.all_cons,Yaj] at f;rw [List.any_cons,List.any_cons,Zod r f.1,ZhQ t f.2]
theorem Zfv {A:Around}{s:Shared}{x:V}{v:Value} (rx:RelV x v) (fx:ZgM x=true):∀ {xs:List V}{us:List Value},Vals xs us->xs.all ZgM=true->∀ u∈us,SeqAt.EqAt A s u v (eqU x u)
 |_,_,.nil,_=>λu hu=>by cases hu
 |y :: xs,u :: us,.cons r t,f=>λu' hu=>by
  rw [List.all_cons,Yaj] at f;rcases YaF.mp hu with rfl | hu
  ·rw [Zod r f.1];exact ZqJ r rx f.1 fx
  ·exact Zfv rx fx t f.2 u' hu
def inV (x:V) (xs:List V):Bool:=xs.any λy=>eqV y x
def rIn (K:Yab) (neg:Bool):R2:=λx y H Q=>∃ p xs,y=.ref p/\(SqL K H p xs\/SqT K H p xs)/\ZgM x=true/\xs.all ZgM=true/\Q (.bl (if neg then !inV x xs else inV x xs)) H
theorem Zgp:OpR X (compareOp .NotIn) (rIn X.K true):=by
 intro pins s σ H x y v u Q I rx ry h;obtain ⟨p,xs,rfl,hq,fx,fs,q⟩:=h;cases ry;rcases hq with hq | hq
 ·obtain ⟨its,r,pl,hz⟩:=I.list hq;refine SeqAt.notIn_listAt (eqU x) pl.isList (λw hw=>Zfv rx fx r fs w (by simpa using hw)) ⟨.bl _,H,I,rfl,?_⟩;rw [show its.toArray.any (eqU x)=its.any (eqU x) by simp,ZhQ r fs];exact q
 ·obtain ⟨its,r,pl,hz⟩:=I.tuple hq;refine SeqAt.notIn_tupleAt (eqU x) pl (λw hw=>Zfv rx fx r fs w (by simpa using hw)) ⟨.bl _,H,I,rfl,?_⟩;rw [show its.toArray.any (eqU x)=its.any (eqU x) by simp,ZhQ r fs];exact q
inductive RLen (K:Yab) (xs:List V) (H:Hp) (Q:VK):Prop
 |mk (p:Addr) (ys:List V) (h1:xs=[.ref p]) (h2:SqL K H p ys\/SqT K H p ys) (q:Q (.int ys.length) H):RLen K xs H Q
theorem Zdw:Zcc X (.builtin "len") (λxs H Q=>RLen X.K xs H Q):=by
 intro pins s σ H xs us Q I r h;obtain ⟨p,ys,rfl,hq,q⟩:=h;obtain ⟨u,rfl,rx⟩:=ZiO r;cases rx;have hn:=ZgE;rcases hq with hq | hq
 ·obtain ⟨its,r',pl,hz⟩:=I.list hq;have hlen:=r'.length;exact Calls.call_len_list pl.isList (by simp only [Yam] <;> omega) ⟨.int ys.length,H,I.tok _,⟨s.toks+1,by rw [Yam,hlen]⟩,q⟩
 ·obtain ⟨its,r',pl,hz⟩:=I.tuple hq;have hlen:=r'.length;exact len_tuple pl (by simp only [Yam] <;> omega) ⟨.int ys.length,H,I.tok _,⟨s.toks+1,by rw [Yam,hlen]⟩,q⟩
theorem Zbm:Zcc X (.type "list") (λxs H Q=>∃ p ys,xs=[.ref p]/\(SqL X.K H p ys\/SqT X.K H p ys)/\∀ l,H l=none->Q (.ref l) (upd H l (.lst ys))):=by
 intro pins s σ H xs us Q I r h;obtain ⟨p,ys,rfl,hq,q⟩:=h;obtain ⟨u,rfl,rx⟩:=ZiO r;cases rx;have fin:∀ (its:List Value),Vals ys its->ys.length<=sizeLine->∀ (h':Heap) (c':Nat),(∀ b o',s.heap.get? b=some o'->h'.get? b=some o') ->
   h'.get? s.heap.objs.size=some { cls:=.type "list",dict:=none,data:=.seq its.toArray c',slots:=#[] }->EP X pins σ Q (.ref s.heap.objs.size) { s with heap:=h' }:=λits r' hz h' c' kp e =>
  ⟨.ref s.heap.objs.size,_,I.laid (t':=s.toks) kp (Yag _) (show ObjOk X.prog X.w _ h' _ (.lst ys) from ⟨hz,its,c',r',e⟩),rfl,q _ (I.hok.fresh (Yag _))⟩
 rcases hq with hq | hq
 ·obtain ⟨its,r',pl,hz⟩:=I.list hq;have hlen:=r'.length;obtain ⟨o,ho,hc,n,hd⟩:=pl.isList;exact call_list_seq p (.inl rfl) ho hc hd (λh' c' kp e=>fin its r' hz h' c' kp e) (by simp only [Yam] <;> omega)
 ·obtain ⟨its,r',pl,hz⟩:=I.tuple hq;have hlen:=r'.length;obtain ⟨o,ho,hc,n,hd⟩:=pl;exact call_list_seq p (.inr rfl) ho hc hd (λh' c' kp e=>fin its r' hz h' c' kp e) (by simp only [Yam] <;> omega)
theorem ZbE:Zcc X (.type "tuple") (λxs H Q=>∃ p ys,xs=[.ref p]/\((SqL X.K H p ys/\∀ l,H l=none->Q (.ref l) (upd H l (.tup ys)))\/(SqT X.K H p ys/\Q (.ref p) H))):=by
 intro pins s σ H xs us Q I r h;obtain ⟨p,ys,rfl,h⟩:=h;obtain ⟨u,rfl,rx⟩:=ZiO r;cases rx;rcases h with ⟨hq,q⟩ | ⟨hq,q⟩
 ·obtain ⟨its,r',pl,hz⟩:=I.list hq;have hlen:=r'.length;refine call_tuple_list pl.isList (λh' kp=>?_) (by simp only [Yam] <;> omega);have I1:Inv X pins σ H { s with heap:=h' }:=I.kept (t':=s.toks) kp;have I2:Inv X pins σ (upd H h'.objs.size (.tup ys)) { s with heap:=h'.push { cls:=.type "tuple",data:=.seq its.toArray } } :=
   I1.laid (t':=s.toks) (λb o e=>Yad _ e) (Yag _) (show ObjOk X.prog X.w _ _ _ (.tup ys) from ⟨hz,its,r',IsTup.new _ _⟩)
  exact ⟨.ref h'.objs.size,_,I2,rfl,q _ (I1.hok.fresh (Yag _))⟩
 ·obtain ⟨its,r',pl,hz⟩:=I.tuple hq;exact call_tuple_same pl ⟨.ref p,H,I,rfl,q⟩
def tyV (K:Yab) (T:String) (x:V) (H:Hp):Prop:=match x with
 | .str _=>T = "str"
 | .int _=>T = "int"
 | .ref p=>(T = "list" /\ ∃ xs,SqL K H p xs)\/(T = "tuple" /\ ∃ o,K.lookup p=some o/\o.cls=.type "tuple" /\ o.dict=none) \/
   (T = "dict" /\ ((∃ kvs,H p=some (.dK kvs))\/∃ kvs,H p=some (.dT kvs)))\/(T = "set" /\ ∃ S n,H p=some (.set S n))
 |_=>False
theorem ZnM {pins:List (Addr × Obj)}{σ:St}{H:Hp}{s:Shared}{T:String}{x:V}{v:Value} (I:Inv X pins σ H s) (r:RelV x v) (ty:tyV X.K T x H) :
  s.TypeIs v T/\∀ a,v=.ref a->∃ ob,s.heap.get? a=some ob/\ob.dict=none:=by
 cases x with
 |str z =>
  obtain ⟨t,rfl⟩:=r;cases (show T = "str" from ty);exact ⟨typeIs_str s z t,λ_ e=>nomatch e⟩
 |int i =>
  obtain ⟨t,rfl⟩:=r;cases (show T = "int" from ty);exact ⟨typeIs_int s i t,λ_ e=>nomatch e⟩
 |ref p =>
  cases r;rcases ty with ⟨rfl,xs,hq⟩ | ⟨rfl,o,hk,hc,hd⟩ | ⟨rfl,hk⟩ | ⟨rfl,S,n,hk⟩
  ·obtain ⟨its,_,pl,_⟩:=I.list hq;refine ⟨pl.isList.typeIs,λa e=>?_⟩;cases e;obtain ⟨o,n,e,c,hd,_⟩:=pl;exact ⟨o,e,hd⟩
  ·refine ⟨⟨o,I.kIn p o hk,hc⟩,λa e=>?_⟩;cases e;exact ⟨o,I.kIn _ o hk,hd⟩
  ·have z:∃ o,s.heap.get? p=some o/\o.ExactDict:=by
    rcases hk with ⟨kvs,hk⟩ | ⟨kvs,hk⟩
    ·obtain ⟨_,_,_,_,o,_,_,e,ex,_⟩:=I.hok p _ hk;exact ⟨o,e,ex⟩
    ·obtain ⟨_,_,_,_,o,_,_,e,ex,_⟩:=I.hok p _ hk;exact ⟨o,e,ex⟩
   obtain ⟨o,e,ex⟩:=z;refine ⟨⟨o,e,ex.1⟩,λa e2=>?_⟩;cases e2;exact ⟨o,e,ex.2.1⟩
  ·obtain ⟨o,_,_,_,e,ex,_⟩:=I.hok p _ hk;refine ⟨⟨o,e,ex.1⟩,λa e2=>?_⟩;cases e2;exact ⟨o,e,ex.2.1⟩
 |_=>exact False.elim ty
def tBM0 (K:Yab) (T:String) (r:V->List V->Hp->VK->Prop) (to:TE):TE:=λσ H Q=>to σ H λx H1=>tyV K T x H1/\r x [] H1 Q
def tBM (K:Yab) (T:String) (r:V->List V->Hp->VK->Prop) (to:TE) (t:TA):TE:=λσ H Q=>to σ H λx H1=>tyV K T x H1/\t σ H1 λxs H2=>r x xs H2 Q
variable {o e:Expr}{es:List Expr}{to:TE}{t:TA}{name:Str}{apos cpos:Pos}{T id:String}{r:V->List V->Hp->VK->Prop}
theorem Zp8 (pa:PlainAttrs T) (slot:Slot T name id) (hty:typeOf (.builtin id)=pure (.type "method_descriptor")) (hm:MtR X id r) (ho:PE X o to)
  (hbase:attributeBase o name X.env (eval o X.env)=eval o X.env:=by rfl) (hline:(apos.endLine == cpos.line)=true:=by rfl):PE X (.Call (.Attribute o name apos) [] [] cpos) (tBM0 X.K T r to):=by
 intro pins s σ H Q I h;refine wpAny_Call_method0_late hbase hline (thn (ho pins s σ H _ I h) λv s1 ⟨x,H1,I1,r1,ty,q1⟩=>?_);obtain ⟨h1,h2⟩:=ZnM I1 r1 ty;exact ⟨T,id,pa,slot,hty,h1,h2,Calls.callWith_builtin rfl (PySem.evalArgs_none (hm pins s1 σ H1 x [] v [] Q I1 r1 .nil q1))⟩
theorem ZcK (pa:PlainAttrs T) (slot:Slot T name id) (hty:typeOf (.builtin id)=pure (.type "method_descriptor")) (hm:MtR X id r) (ho:PE X o to) (ha:PA X (e :: es) t)
  (hbase:attributeBase o name X.env (eval o X.env)=eval o X.env:=by rfl)
  (hfew:((backTo cpos (starEach (e :: es) X.env)).all (λx=>!x.1) && (backToKw cpos (keywordEach [] X.env)).all (λx=>x.1.isSome)
   && decide ((e :: es).length+([]:List Keyword).length+(if ([]:List Keyword).isEmpty then 0 else 1)<30))=true:=by rfl)
  (hline:(apos.endLine == cpos.line)=true:=by rfl) (hs:starEach (e :: es) X.env=(false,eval e X.env) :: starEach es X.env:=by rfl) (hplain:(backTo cpos (starEach es X.env)).any (·.1)=false:=by rfl) :
  PE X (.Call (.Attribute o name apos) (e :: es) [] cpos) (tBM X.K T r to t):=by
 intro pins s σ H Q I h;refine wpAny_Call_method_late hbase hfew hline rfl (thn (ho pins s σ H _ I h) λv s1 ⟨x,H1,I1,r1,ty,q1⟩=>?_);obtain ⟨h1,h2⟩:=ZnM I1 r1 ty;refine ⟨T,id,pa,slot,hty,h1,h2,?_⟩;have hA:=ha cpos pins s1 σ H1 _ I1 q1;rw [hs] at hA ⊢;refine Calls.callWith_builtin (by show (false || (backTo cpos (starEach es X.env)).any (·.1))=false;rw [hplain] <;> rfl) (Calls.evalArgs_plain ?_);exact thn hA λus s2 ⟨vs,H2,I2,r2,q2⟩=>hm pins s2 σ H2 x vs v us Q I2 r1 r2 q2
end
open PySem PySem.Spec PyProof.Rows
def MtM (X:Cx) (id:String) (r:V->List V->Hp->VK->Prop):Prop :=
 ∀ (pins:List (Addr × Obj)) (s:Shared) (σ:St) (H:Hp) (x:V) (xs:List V) (v:Value) (us:List Value) (Q:VK),Inv X pins σ H s->RelV x v->Vals xs us->r x xs H Q ->
  wpAny (model X.prog X.w) X.A (call (.builtin id) (v :: us)) (EP X pins σ Q) X.xe s
theorem Vals.one:∀ {x:V}{us:List Value},Vals [x] us->∃ u,us=[u]/\RelV x u
 |_,_,.cons r .nil=>⟨_,rfl,r⟩
theorem Vals.two:∀ {x y:V}{us:List Value},Vals [x,y] us->∃ u v,us=[u,v]/\RelV x u/\RelV y v
 |_,_,_,.cons r (.cons q .nil)=>⟨_,_,rfl,r,q⟩
theorem Vals.zero:∀ {us:List Value},Vals [] us->us=[]
 |_,.nil=>rfl
theorem Vals.dropLast {xs:List V}{us:List Value} (h:Vals xs us):Vals xs.dropLast us.dropLast:=by
 induction h with
 |nil=>exact .nil
 |cons r t ih =>
  cases t with
  |nil=>exact .nil
  |cons q t'=>exact .cons r ih
theorem Vals.reverse {xs:List V}{us:List Value} (h:Vals xs us):Vals xs.reverse us.reverse:=by
 induction h with
 |nil=>exact .nil
 |cons r t ih=>rw [List.reverse_cons,List.reverse_cons];exact Vals.append ih (.cons r .nil)
theorem Vals.rep {xs:List V}{us:List Value} (h:Vals xs us):∀ k:Nat,Vals (List.replicate k xs).flatten (List.replicate k us).flatten
 | 0=>.nil
 |k+1=>by
  rw [List.replicate_succ,List.replicate_succ,List.flatten_cons,List.flatten_cons];exact Vals.append h (Vals.rep h k)
theorem Zjo {α:Type} (l:List α):l.eraseIdx (l.length - 1)=l.dropLast:=by
 induction l with
 |nil=>rfl
 |cons a r ih =>
  cases r with
  |nil=>rfl
  |cons b r =>
   have e:(a :: b :: r).length - 1=((b :: r).length - 1)+1:=by
    have h1:(a :: b :: r).length=r.length+2:=rfl;have h2:(b :: r).length=r.length+1:=rfl;omega
   rw [e,List.eraseIdx_cons_succ,ih]
   all_goals rfl
theorem ZgL (its:List Value):∀ (k:Nat) (acc:List Value),
  List.foldl (λx1 x2=>x1 ++ x2) acc.toArray (List.replicate k its.toArray)=(acc ++ (List.replicate k its).flatten).toArray
 | 0,acc=>by simp
 |k+1,acc=>by
  have e:acc.toArray ++ its.toArray=(acc ++ its).toArray:=by simp
  have e2:(acc ++ its) ++ (List.replicate k its).flatten=acc ++ (List.replicate (k+1) its).flatten:=by
   rw [List.replicate_succ,List.flatten_cons,List.append_assoc]
  rw [<- e2,<- ZgL its k (acc ++ its),<- e,List.replicate_succ,List.foldl_cons]
section
variable {X:Cx}{pins:List (Addr × Obj)}{σ:St}{H:Hp}{s:Shared}{l b:Addr}{xs ys zs:List V}
theorem Inv.lset {its its':List Value}{n:Nat}{f:Array Value->Array Value}{t':Nat} (I:Inv X pins σ H s) (hH:H l=some (.lst xs))
  (e:s.heap.get? l=some { cls:=.type "list",data:=.seq its.toArray n }) (hf:f its.toArray=its'.toArray) (hv:Vals ys its') (hz:ys.length<=sizeLine) :
  Inv X pins σ (upd H l (.lst ys)) { s with heap:=s.heap.update l (Obj.mapSeq f),toks:=t' }:=by
 have q:=PySem.IsL.update e f;rw [hf] at q;refine I.write (x:=l) (e:=l) (by rw [hH];exact trivial) (.inl rfl) (λb' u hb hu=>(YaY s.heap (Obj.mapSeq f) (Ne.symm hb)).trans hu) ⟨_,q⟩ ?_;exact ⟨hz,its',_,hv,q⟩
theorem Inv.lnew {its:List Value}{t':Nat} (I:Inv X pins σ H s) (hv:Vals ys its) (hz:ys.length<=sizeLine) :
  Inv X pins σ (upd H s.heap.objs.size (.lst ys)) { s with heap:=s.heap.push { cls:=.type "list",data:=.seq its.toArray },toks:=t' } :=
 I.laid (λ_ _ q=>Yad _ q) (Yag _) ⟨hz,its,0,hv,Yao _ rfl⟩
theorem Inv.fresh (I:Inv X pins σ H s):H s.heap.objs.size=none:=I.hok.fresh (Yag _)
theorem Inv.lstM (I:Inv X pins σ H s) (hH:H l=some (.lst xs)):xs.length<=sizeLine/\∃ (its:List Value) (n:Nat),Vals xs its/\xs.length=its.length/\s.heap.get? l=some { cls:=.type "list",data:=.seq its.toArray n }:=by
 obtain ⟨z,its,n,r,e⟩:=I.hok l _ hH;exact ⟨z,its,n,r,r.length,e⟩
theorem Zig {n:Nat} (h:n<=sizeLine):Builtin.List.listTooLong n=false:=by
 unfold Builtin.List.listTooLong;exact Ya5 (by omega)
end
section
variable {X:Cx}
inductive RApp (x:V) (vs:List V) (H:Hp) (Q:VK):Prop
 |mk (l:Addr) (xs:List V) (y:V) (h1:x=.ref l) (h2:vs=[y]) (h3:H l=some (.lst xs)) (h4:xs.length<sizeLine) (q:Q .non (upd H l (.lst (xs ++ [y])))):RApp x vs H Q
def ZoE:V->List V->Hp->VK->Prop:=λx vs H Q=>RApp x vs H Q
theorem Za7:MtM X "list.append" ZoE:=by
 intro pins s σ H x vs v us Q I rx rv h;obtain ⟨l,xs,y,rfl,rfl,hH,hz,q⟩:=h;cases rx;obtain ⟨u,rfl,ru⟩:=rv.one;obtain ⟨z,its,n,r,hl,e⟩:=I.lstM hH;refine call_meets F.slot_list_append ⟨_,e,rfl⟩ F.entry_list_append (F.args_list_append_2 _ _) (PySem.list_append l its.toArray n u (by rw [Yam];omega)) ⟨e,?_⟩;refine ⟨.non,_,I.lset (its':=its ++ [u]) hH e (by simp) (r.append (.cons ru .nil)) ?_,rfl,q⟩;rw [Yak,YaI];omega
def ZoD:V->List V->Hp->VK->Prop:=λx vs H Q=>∃ l b xs zs,x=.ref l/\vs=[.ref b]/\H l=some (.lst xs)/\H b=some (.lst zs)/\xs.length+zs.length<=sizeLine/\Q .non (upd H l (.lst (xs ++ zs)))
theorem Zck:MtM X "list.extend" ZoD:=by
 intro pins s σ H x vs v us Q I rx rv h;obtain ⟨l,b,xs,zs,rfl,rfl,hH,hB,hz,q⟩:=h;cases rx;obtain ⟨u,rfl,ru⟩:=rv.one;cases ru;obtain ⟨z,its,n,r,hl,e⟩:=I.lstM hH;obtain ⟨z2,its2,n2,r2,hl2,e2⟩:=I.lstM hB;have hsz:its.toArray.size+its2.toArray.size<=sizeLine:=by rw [Yam,Yam];omega
 have hlong:¬ (!its.toArray.isEmpty && Builtin.List.listTooLong (its.toArray.size+its2.toArray.size))=true:=by
  rw [Zig hsz,Bool.and_false];exact Yaq
 refine call_meets F.slot_list_extend ⟨_,e,rfl⟩ F.entry_list_extend (F.args_list_extend_2 _ _)
  (AutoSeq1.list_extend_list_list_0 l its.toArray n b its2.toArray n2 hlong (by rw [Yam];omega) (by omega)) ⟨e,e2,?_⟩
 refine ⟨.non,_,I.lset (its':=its ++ its2) hH e (by simp) (r.append r2) ?_,rfl,q⟩;rw [Yak];omega
def rPop:V->List V->Hp->VK->Prop:=λx vs H Q=>∃ l xs y,x=.ref l/\vs=[]/\H l=some (.lst xs)/\xs[xs.length - 1]? = some y/\Q y (upd H l (.lst xs.dropLast))
theorem Zqp:MtM X "list.pop" rPop:=by
 intro pins s σ H x vs v us Q I rx rv h;obtain ⟨l,xs,y,rfl,rfl,hH,hy,q⟩:=h;cases rx;have hus:=rv.zero;subst hus;obtain ⟨z,its,n,r,hl,e⟩:=I.lstM hH;obtain ⟨u,hu,ru⟩:=r.get hy;have hy':its.toArray[its.toArray.size - 1]? = some u:=by
  show its.toArray[its.length - 1]? = some u;rw [<- Array.getElem?_toList,<- hl];exact hu
 refine call_meets F.slot_list_pop ⟨_,e,rfl⟩ F.entry_list_pop (F.args_list_pop_1 _) (MeetsSeq.list_pop_last l its.toArray n u hy' (by rw [Yam];omega)) ⟨e,?_⟩;refine ⟨y,_,I.lset (its':=its.dropLast) hH e ?_ r.dropLast ?_,ru,q⟩
 ·show its.toArray.eraseIdxIfInBounds (its.toArray.size - 1)=its.dropLast.toArray;rw [Yam,List.eraseIdxIfInBounds_toArray,Zjo]
 ·rw [List.length_dropLast];omega
def rRep:R2:=λx y H Q=>∃ l k xs,x=.ref l/\y=.int k/\H l=some (.lst xs)/\-(2 ^ 63)<=k/\k<2 ^ 63/\xs.length * k.toNat<=sizeLine /\
 ∀ p,H p=none->Q (.ref p) (upd H p (.lst (List.replicate k.toNat xs).flatten))
theorem Zpe {α:Type} (xs:List α) (k:Nat):(List.replicate k xs).flatten.length=k * xs.length:=by
 induction k with
 |zero=>simp
 |succ k ih=>rw [List.replicate_succ,List.flatten_cons,Yak,ih,Nat.succ_mul,Nat.add_comm]
theorem Zid:OpR X (binaryOp .Mult) rRep:=by
 intro pins s σ H x y v u Q I rx ry h;obtain ⟨l,k,xs,rfl,rfl,hH,h1,h2,hz,q⟩:=h;cases rx;obtain ⟨t,rfl⟩:=ry;obtain ⟨z,its,n,r,hl,e⟩:=I.lstM hH;have hlen:its.toArray.size * k.toNat<=sizeLine:=by rw [Yam,<- hl];exact hz
 have hcap:¬ its.toArray.size * k.toNat > (2 ^ 63 - 1) / 8:=by
  have:(sizeLine:Nat)<=(2 ^ 63 - 1) / 8:=by decide
  omega
 have hfit:¬ (!Builtin.List.listFitsIndex k)=true:=by
  rw [fitsIndex_both h1 h2];exact Yaq
 have hlong:¬ Builtin.List.listTooLong (its.toArray.size * k.toNat)=true:=by
  rw [Zig hlen];exact Yaq
 have hnew:List.foldl (λx1 x2=>x1 ++ x2) #[] (List.replicate (if its.toArray.isEmpty=true then 0 else k.toNat) its.toArray)=(List.replicate k.toNat its).flatten.toArray:=by
  have f0:∀ m:Nat,List.foldl (λx1 x2=>x1 ++ x2) #[] (List.replicate m its.toArray)=(List.replicate m its).flatten.toArray:=λm=>by
   have:=ZgL its m [];rw [List.nil_append] at this;exact this
  rw [f0];cases its with
  |nil=>simp
  |cons a r'=>rw [Ya6 (by simp)]
 refine wpAny_binaryOp_repeat_ref (T := "list") (U := "int") (by decide) ⟨_,e,rfl⟩ (λs'=>typeIs_int s' k t) noFill_list_mul F.fills_int_mul F.slot_int_rmul repeat_list F.slot_int_index.lookup
  (call_meets F.slot_int_rmul (typeIs_int s k t) F.entry_int_rmul (F.args_int_rmul_2 _ _) (int___rmul___int_list k t l its.toArray n)
   ⟨e,rfl,⟨_,e,rfl⟩,call_meets F.slot_list_mul ⟨_,e,rfl⟩ F.entry_list_mul (F.args_list_mul_2 _ _) (AutoListH.list___mul___list_int_3 l its.toArray n k t hfit hcap hlong) ⟨e,?_⟩⟩)
 rw [hnew];exact ⟨.ref _,_,I.lnew (t':=s.toks) (r.rep k.toNat) (by rw [Zpe,Nat.mul_comm];exact hz),rfl,q _ I.fresh⟩
end
section
variable {prog:Program}{w:World}{A:Around}{E:Value->Shared->Prop}{s:Shared}
end
section
variable {X:Cx}
end
end L2
namespace Att
open PySem PySem.W PySem.Calls PyProof.Rows
theorem Zeh {P:Params}{h:Heap}:∀ (ns:List Int) (vs:List Value),WellAll P h vs (ns.map WData.int)->IntsAre vs ns:=by
 intro ns
 induction ns with
 |nil =>
  intro vs w;rw [List.map_nil] at w;cases w;exact .nil
 |cons n ns ih =>
  intro vs w;rw [Yaw] at w;cases w with
  |cons a b =>
   cases a;exact .cons _ _ (ih _ b)
theorem ZjY {l:OpenLaw}{n:Nat} (hn:l.most=some n) {P:Params}{h:Heap}{args:List WData}{vals:List Value}
  (hpre:l.row.toRowW.claim.pre args=true) (hwl:WellAll P h vals args) :
  ∃ a vs ns,vals=[Value.ref a]/\args=[WData.list (ns.map WData.int)]/\h.get? a=some { cls:=.type "list",data:=.seq vs.toArray }/\IntsAre vs ns/\ns.length<=n:=by
 have hsh:WShape.hasAll [] args [.list .int]=true:=(pre_splitW hpre).1;have hc:l.pre.holds [] { args:=args }=true:=(pre_splitW hpre).2;obtain ⟨d,r,rfl,h1,h2⟩:=hasAllW_cons hsh;obtain rfl:=hasAllW_nil h2;obtain ⟨xs,rfl,h3⟩:=hasW_list h1;obtain ⟨ns,rfl⟩:=items_int h3;have hlen:ns.length<=n:=by
  unfold OpenLaw.pre at hc;have h4:(WTm.not (.lt (.lit (.int (n:Int))) (.len (.arg 0)))).holds [] { args:=[.list (ns.map .int)] }=true:=by
   have h4:=(holds_andW hc).1;rw [hn] at h4;exact h4
  have h5:=condW_of h4 (w_not (w_lt w_lit (w_len_list (w_arg rfl))));rw [Yaa] at h5;refine Nat.le_of_not_lt λq=>?_;have q':(n:Int)<((ns.length:Nat):Int):=by omega
  first
   | (rw [Ya4 q'] at h5;exact absurd h5 (by decide))
   | (simp at h5;omega)
 cases hwl with
 |cons w1 w2 =>
  cases w2;cases w1 with
  |list ho hall=>exact ⟨_,_,ns,rfl,rfl,ho,Zeh ns _ hall,hlen⟩
theorem Zke (l:OpenLaw) (args:List WData):l.row.toRowW.claim.post args (.bool true) args=true :=
 postW_of (r:=l.row.toRowW) (X:=(true == true))
  (show WShape.has [] (.bool true) .bool=true by first | rfl | decide | simp [WShape.has,WShape.arms,WShape.armsAll])
  (show (WTm.eq .res (.lit (.bool true))).value [] { args:=args,res:=some (.bool true),after:=args }=some (.bool (true == true)) from w_eq_bool (w_res rfl) w_lit) rfl
theorem attach_call {l:OpenLaw}{n:Nat}{q:Program}{loose:List Str}{XP:(Str->Option Value)->Heap->Prop}{YP:World->Heap->Prop}{d:DefRec}
  (hn:l.most=some n) (hdf:d.params.defaults=[])
  (call:∀ (w:World) (s₀ s₁:Shared) (mg mb:Str->Option Value) (fa:Addr) (o:Obj) (pm cd doc:Value) (a:Addr) (vs:List Value) (ns:List Int),
   Ground q loose [] XP w s₀ mg mb s₁.heap->YP w s₁.heap ->
   s₁.heap.get? fa=some o->o.data=.func (docDef d.name d.params d.body d.scope pm cd doc)->s₁.heap.CodeRec cd d.name->mg d.name=some (.ref fa) ->
   s₁.heap.get? a=some { cls:=.type "list",data:=.seq vs.toArray }->IntsAre vs ns->ns.length<=n->s₁.gens = #[] ->
   codeAny (model l.prog w) callerA (.call (.ref fa) ⟨[.ref a],[]⟩) (λr s'=>r=.ok (.ret (.bool true))/\OldK s₁.heap s'.heap/\s'.os=s₁.os/\AllBare s'.gens) s₁) :
  WalkO q loose XP YP l.row.toRowW d [] (λf vs=>PySem.call f vs):=by
 intro w s₀ s₁ mg mb G Y fa o pm cd doc dV kV ho hd hcd hD hmg hg args vals as hpre hlay hrd hwl hlo;obtain rfl:dV=.none:=Dflts.none hD hdf;obtain rfl:kV=.none:=Dflts.noKw hD;obtain ⟨a,vs,ns,rfl,rfl,hobj,hints,hlen⟩:=ZjY hn hpre hwl;refine enter_call (codeAny_mono (call w s₀ s₁ mg mb fa o pm cd doc a vs ns G Y ho (fd_plain hd) hcd hmg hobj hints hlen hg) λr s' hq=>?_);obtain ⟨rfl,h2,h3,h4⟩:=hq;exact ⟨.inl ⟨.bool true,.bool true,[],rfl,λ_=>rfl,.bool true,Zke l _,λ_=>⟨List.Pairwise.nil,λ_ hm=>(nomatch hm)⟩⟩,h2,h3,h4⟩
section
variable {prog:Program}{w:World}{A:Around}{E:Value->Shared->Prop}{s:Shared}{K:Frag}
end
end Att
namespace L2
open PySem PySem.Spec PyProof.Rows
theorem ZdP:∀ {vs:List Value}{ns:List Int},IntsAre vs ns->Vals (ns.map V.int) vs
 |_,_,.nil=>.nil
 |_,_,.cons n t h=>.cons ⟨t,rfl⟩ (ZdP h)
def Only (H:Hp):Prop:=∀ b,H b=none\/∃ o xs,H b=some (.frz o (.lst xs))
theorem Znh {P:Program}{w:World}{K:Yab}{mg mb:Str->Option Value}{CX:CXT}{k:Nat}{fa a:Addr}{fd:FuncData}{x:Str}{sp:Sp}{s₁:Shared}{vs:List Value}{ns:List Int}
  (KX:K.In s₁.heap) (hns:s₁.heap.Ns mainGlobals mg) (hb:s₁.heap.Ns builtinsNs mb) (hbb:∀ x:Str,x ≠ "__name__" -> mb x=bootBuiltins x) (hlim:s₁.heap.NoLimit) (hg:s₁.gens = #[])
  (ha:s₁.heap.get? a=some { cls:=.type "list",data:=.seq vs.toArray }) (hi:IntsAre vs ns) (hl:ns.length<=sizeLine) (hr:Room k callerA)
  (F:∀ base:Heap,K.In base->base.Ns mainGlobals mg->FnOk P w K mg base CX k fa fd [x] sp) (hbind:∀ (s:Shared) (u:Value),BindsTo s fd ⟨[u],[]⟩ [(x,u)])
  (hsp:∀ H:Hp,Only H->SqL K H a (ns.map V.int)->sp [.ref a] H (λv _=>v=.bl true) λ_ _ _=>False)
  (hCX:∀ H e s',CX [] H s₁ (λ_ _ _=>False) e s'->False) :
  codeAny (model P w) callerA (.call (.ref fa) ⟨[.ref a],[]⟩) (λr s'=>r=.ok (.ret (.bool true))/\OldK s₁.heap s'.heap/\s'.os=s₁.os/\AllBare s'.gens) s₁:=by
 have rv:=ZdP hi;have lenV:=hi.length;have core:∀ H:Hp,Only H->SqL K H a (ns.map V.int)->HOk P w H s₁.heap->(∀ b,H b≠none->b=a)->(H a≠none->K.lookup a=none) ->
   codeAny (model P w) callerA (.call (.ref fa) ⟨[.ref a],[]⟩) (λr s'=>r=.ok (.ret (.bool true))/\OldK s₁.heap s'.heap/\s'.os=s₁.os/\AllBare s'.gens) s₁:=by
  intro H hO hS hok hA hK;have base_of:∀ {b:Addr}{o:Obj},s₁.heap.get? b=some o->H b=none->(hidT s₁.heap H).get? b=some o:=λe n=>Znm e n;have noA:∀ {b:Addr}{o:Obj}{es:Array DictEntry}{ep:Nat},s₁.heap.get? b=some o->o.data=.dict es ep->H b=none:=λ{b o es ep} e d=>by
   cases q:H b with
   |none=>rfl
   |some u =>
    have e':b=a:=hA b (by rw [q];simp);subst e';rw [ha] at e;cases e;have d':Data.seq vs.toArray _=Data.dict es ep:=d;cases d'
  have nsK:∀ {b:Addr}{m:Str->Option Value},s₁.heap.Ns b m->(hidT s₁.heap H).Ns b m:=λ{b m} ⟨o,es,ep,e,d,r⟩=>⟨o,es,ep,base_of e (noA e d),d,r⟩;have hKb:K.In (hidT s₁.heap H):=λb o e=>base_of (KX b o e) (by
   cases q:H b with
   |none=>rfl
   |some u =>
    have e':b=a:=hA b (by rw [q];simp);subst e'
    rw [hK (by rw [q];simp)] at e;cases e)
  have hM:Mod K mg (hidT s₁.heap H):=⟨hKb,nsK hns,⟨mb,nsK hb,hbb⟩,let ⟨mc,h1,h2⟩:=hlim;⟨mc,nsK h1,h2⟩⟩;have e0:Env0 P w K mg (hidT s₁.heap H) callerA [] s₁ H:=⟨rfl,hM,λb o e=>Zo7 e,Nat.le_of_eq (Zk5 _ _),trivial,λb hb=>absurd (show b∈([]:List Addr) from hb) (by simp),hok,.of_eq hg⟩;refine codeAny_mono ((F _ hKb (nsK hns)).run callerA [] s₁ H ⟨[.ref a],[]⟩ [.ref a] [.ref a] _ _ hr e0 (hbind s₁ (.ref a)) (.cons rfl .nil) (hsp H hO hS)) λr s' h=>?_;cases r with
  |error e=>exact (hCX H e s' h).elim
  |ok fl =>
   cases fl with
   |next=>exact False.elim h
   |brk=>exact False.elim h
   |cont=>exact False.elim h
   |ret u =>
    obtain ⟨v,H',os,bare,un,hok',r',q⟩:=h;have q':v=.bl true:=q;subst q';obtain rfl:u=Value.bool true:=r';refine ⟨rfl,OldK.of_keep λb o e=>?_,os,bare⟩;cases q:H b with
    |none=>exact un.keep b o e q (by intro z;exact absurd (show b∈([]:List Addr) from z) (by simp)) (by simp)
    |some u =>
     rcases hO b with z | ⟨ob,xs,z⟩
     ·rw [q] at z;cases z
     ·have z2:=un.frzs b ob _ z;obtain ⟨e1,_⟩:=hok b _ z;obtain ⟨e2,_⟩:=hok' b _ z2;rw [e] at e1;cases e1;exact e2
 cases hk:K.lookup a with
 |some o =>
  have e:=KX a o hk;rw [ha] at e;cases e;refine core (λ_=>none) (λ_=>.inl rfl) (.inr ⟨_,vs.toArray,_,hk,rfl,rfl,rfl,by rw [Yam,lenV];exact hl,by simpa using rv⟩) (λb u z=>by have z':(none:Option HO)=some u:=z;cases z') (λb z=>absurd rfl z) λz=>absurd rfl z
 |none =>
  refine core (λb=>if b=a then some (.frz { cls:=.type "list",data:=.seq vs.toArray } (.lst (ns.map V.int))) else none) (λb=>?_) (.inl (.inr ⟨{ cls:=.type "list",data:=.seq vs.toArray },Ya7 rfl⟩)) (λb u z=>?_) (λb z=>?_) λ_=>hk
  ·by_cases hb:b=a
   ·exact .inr ⟨_,_,Ya7 hb⟩
   ·exact .inl (Ya6 hb)
  ·by_cases hb:b=a
   ·have z':=(Ya7 hb).symm.trans z;cases z';subst hb;exact ⟨ha,by rw [Yaa];exact hl,vs,_,rv,ha⟩
   ·have z':=(Ya6 hb).symm.trans z;cases z'
  ·by_cases hb:b=a
   ·exact hb
   ·exact absurd (Ya6 hb) z
open PySem PySem.Spec PyProof.Rows
theorem Zoi {l:PySem.W.OpenLaw}{n k:Nat}{q:Program}{loose:List Str}{XP:(Str->Option Value)->Heap->Prop}{YP:World->Heap->Prop}{d:DefRec}{K:Params->Yab}{CX:World->CXT}{sp:World->Sp}{x:Str}
  (hn:l.most=some n) (hn2:n<=sizeLine) (hdf:d.params.defaults=[]) (hr:Room k callerA)
  (hY:∀ (w:World) (h:Heap),YP w h->(K w.params).In h)
  (F:∀ (w:World) (mg:Str->Option Value) (fa:Addr) (h:Heap),(K w.params).In h->h.Ns mainGlobals mg->mg d.name=some (.ref fa) ->
   ∃ fd:FuncData,(∀ (s:Shared) (u:Value),BindsTo s fd ⟨[u],[]⟩ [(x,u)]) /\
    ∀ base:Heap,(K w.params).In base->base.Ns mainGlobals mg->FnOk l.prog w (K w.params) mg base (CX w) k fa fd [x] (sp w))
  (hsp:∀ (w:World) (H:Hp) (a:Addr) (ns:List Int),ns.length<=n->Only H->SqL (K w.params) H a (ns.map V.int)->sp w [.ref a] H (λv _=>v=.bl true) λ_ _ _=>False)
  (hCX:∀ (w:World) (H:Hp) (s:Shared) (e:Value) (s':Shared),CX w [] H s (λ_ _ _=>False) e s'->False) :
  PySem.W.WalkO q loose XP YP l.row.toRowW d [] (λf vs=>PySem.call f vs):=by
 refine Att.attach_call hn hdf λw s₀ s₁ mg mb fa o pm cd doc a vs ns G Y ho hd hcd hmg hobj hints hlen hg=>?_;have KX:=hY w _ Y;obtain ⟨fd,hb,hF⟩:=F w mg fa _ KX G.T.g hmg;exact Znh KX G.T.g G.T.b G.T.builtins G.T.nolimit hg hobj hints (Yay hlen hn2) hr hF hb (λH hO hS=>hsp w H a ns hlen hO hS) λH e s'=>hCX w H s₁ e s'
open PySem PySem.Spec PyProof.Rows
def Zcm (s:Stmt):Arguments:=match s with
 | .FunctionDef _ a _ _ _ _ _ _ _ _=>a
 |_=>{ posonlyargs:=[],args:=[],vararg:=none,kwonlyargs:=[],kw_defaults:=[],kwarg:=none,defaults:=[] }
def Zbr (s:Stmt):List Stmt:=match s with
 | .FunctionDef _ _ b _ _ _ _ _ _ _=>b
 |_=>[]
def Zad (s:Stmt):Scope:=match s with
 | .FunctionDef _ _ _ _ _ _ sc _ _ _=>sc
 |_=>{ kind:=.function,names:=[],isGenerator:=false,isCoroutine:=false }
abbrev CX0:CXT:=λ_ _ _ _ _ _=>False
abbrev E0:XK:=λ_ _ _=>False
theorem ZmI {X:Cx}:Zez CX0 X E0:=λ_ _ _ _ _ _ _ h=>h.elim
structure Fun (K:Yab) (x qual:Str) (st:Stmt) (f:Addr) (fd:FuncData):Prop where
 ex:∃ (oc:Value) (od:Option Addr) (kV doc pm:Value) (an:Option Addr) (cdv ct:Value) (osl:Array (Option Value)),
  fd=PySem.W.fnOf x qual (Zcm st) (Zbr st) (Zad st) .none kV doc pm an cdv ct/\K.lookup f=some ⟨oc,od,.func fd,osl⟩/\PySem.W.codeIn K cdv qual=true
 kp:PySem.W.keepIn K (.ref f)=true
section
variable {P:Program}{w:World}{K:Yab}{mg:Str->Option Value}{base:Heap}
theorem Fun.ok {x qual:Str}{st:Stmt}{f:Addr}{fd:FuncData}{N ps:List Str}{k:Nat}{sp:Sp} (F:Fun K x qual st f fd) (S:FnScope N ps (Zad st)) (len:∀ vs H Q E,sp vs H Q E->vs.length=ps.length)
  (hbody:∀ (cdv:Value) (A:Around) (outer:List Env) (s:Shared) (H:Hp) (vs:List V) (Q:VK) (E:XK),Room k (A.deeper (envOfC qual (Zad st) s.heap.objs.size f cdv))->sp vs H Q E ->
   ∃ t,PSs (cxOf CX0 P w K mg base N qual (Zad st) f cdv A outer s H E).nox (Zbr st) t/\t { nx:=λ_ H'=>Q .non H',rt:=Q } (Zdx N vs) H):FnOk P w K mg base CX0 (k+1) f fd ps sp:=by
 obtain ⟨oc,od,kV,doc,pm,an,cdv,ct,osl,rfl,lk,hcd⟩:=F.ex;refine Zpk lk hcd S len λA outer s H vs Q E hr hsp=>?_;obtain ⟨t,h,q⟩:=hbody cdv A outer s H vs Q E hr hsp;exact ⟨t,h.nox,q⟩
theorem Fun.binds {x qual:Str}{st:Stmt}{f:Addr}{fd:FuncData}{ps:List Str} (F:Fun K x qual st f fd)
  (h:∀ (kV doc pm:Value) (an:Option Addr) (cdv ct:Value) (us:List Value),us.length=ps.length->bindArgs (PySem.W.fnOf x qual (Zcm st) (Zbr st) (Zad st) .none kV doc pm an cdv ct) ⟨us,[]⟩=pure (ps.zip us)):Binds K fd ps []:=by
 obtain ⟨oc,od,kV,doc,pm,an,cdv,ct,osl,rfl,lk,hcd⟩:=F.ex;exact .all (h kV doc pm an cdv ct)
theorem Zob {x qual:Str}{st:Stmt}{f:Addr}{oc:Value}{od an:Option Addr}{osl:Array (Option Value)}{kV doc pm cdv ct:Value} (l:K.lookup f=some ⟨oc,od,.func (PySem.W.fnOf x qual (Zcm st) (Zbr st) (Zad st) .none kV doc pm an cdv ct),osl⟩)
  (c:PySem.W.codeIn K cdv qual=true) (k:PySem.W.keepIn K (.ref f)=true):Fun K x qual st f (PySem.W.fnOf x qual (Zcm st) (Zbr st) (Zad st) .none kV doc pm an cdv ct):=⟨⟨oc,od,kV,doc,pm,an,cdv,ct,osl,rfl,l,c⟩,k⟩
end
theorem Zav {n:Nat} (h:n<=1000):n<sizeLine:=YaZ h (by decide)
section
variable {X:Cx}
theorem pv (i:Nat) {x:Str}{pos:Pos} (hN:X.N[i]? = some x:=by rfl) (hv:Vis X.env.scope x:=by first | exact Or.inl rfl | exact Or.inr (Or.inl rfl) | exact Or.inr (Or.inr rfl)) (hd:(x == ("__debug__" : Str))=false:=by decide)
  (hcd:(x == ("__classdict__" : Str))=false:=by decide):PE X (.Name x pos) (tVar i):=Zp7 hN hv hd hcd
end
theorem iteF {A B:Prop} (h:B):if false=true then A else B:=by
 rw [Ya6 Yaq];exact h
theorem iteT {A B:Prop} (h:A):if true=true then A else B:=by
 rw [Ya7 rfl];exact h
theorem ite2 {c A B:Prop} [Decidable c] (h1:c->A) (h2:¬ c->B):if c then A else B:=by
 by_cases h:c
 ·rw [Ya7 h];exact h1 h
 ·rw [Ya6 h];exact h2 h
def Same (H H':Hp):Prop:=∀ b o,H b=some o->H' b=some o
theorem srf (H:Hp):Same H H:=λ_ _ h=>h
theorem Same.trans {H H1 H2:Hp} (a:Same H H1) (b:Same H1 H2):Same H H2:=λc o h=>b c o (a c o h)
theorem Same.free {H H':Hp} (e:Same H H') {l:Addr} (h:H' l=Option.none):H l=Option.none:=by
 cases q:H l with
 |none=>rfl
 |some o =>
  rw [e l o q] at h;cases h
theorem Same.seq {K:Yab}{H H':Hp}{a:Addr}{xs:List V} (e:Same H H') (h:SqL K H a xs):SqL K H' a xs:=by
 rcases h with (h | ⟨o,h⟩) | h
 ·exact .inl (.inl (e _ _ h))
 ·exact .inl (.inr ⟨o,e _ _ h⟩)
 ·exact .inr h
end L2
namespace L2
open PySem PySem.Spec PyProof.Rows
def Cx.comp (X:Cx) (N':List Str) (scope:Scope) (cl:List (Str × Addr)) (C:Addr) (s2:Shared) (H2:Hp) (ex:List Addr):Cx :=
 { X with N:=N',s₀:=s2,H₀:=H2,env:=compEnvC scope cl C X.env,outer:=X.stack,ex:=ex,fn:=λ_=>false,pn:=[],xe:=λ_ _=>False }
theorem Zdp {env:Env}:∀ (names:List (Str × NameKind)) (acc:List (Str × Addr)),(∀ y∈names,y.2=.free->∃ c,env.cells.lookup y.1=some c) ->
  (∀ x c,acc.lookup x=some c->env.cells.lookup x=some c) ->
  ∃ cl,(forIn names acc λ(x:Str × NameKind) (cs:List (Str × Addr))=>(match x with
   | (name,kind)=>if (kind == NameKind.free)=true then do let c <- cellOf env name;pure (ForInStep.yield ((name,c) :: cs)) else pure (ForInStep.yield cs):Sem (ForInStep (List (Str × Addr)))))=pure cl /\
   (∀ x c,cl.lookup x=some c->env.cells.lookup x=some c)/\(∀ x c,acc.lookup x=some c->cl.lookup x=some c) /\
   (∀ x,(x,NameKind.free)∈names->∃ c,cl.lookup x=some c)
 | [],acc,_,h2=>⟨acc,rfl,h2,λ_ _ h=>h,λ_ h=>nomatch h⟩
 | (n,k) :: r,acc,h1,h2=>by
  rw [List.forIn_cons];dsimp only
  by_cases hk:(k == NameKind.free)=true
  ·have hk':k=NameKind.free:=by simpa using hk
   obtain ⟨c,hc⟩:=h1 (n,k) YaM hk';have e:cellOf env n=pure c:=by unfold cellOf;rw [hc]
   obtain ⟨cl,e1,e2,e3,e4⟩:=Zdp r ((n,c) :: acc) (λy hy=>h1 y (Yas _ hy)) (λx d hd=>by
    rw [List.lookup_cons] at hd;cases hx:x == n with
    |true =>
     rw [hx] at hd;have:x=n:=by simpa using hx
     subst this;cases hd;exact hc
    |false =>
     rw [hx] at hd
     exact h2 x d hd)
   have self:cl.lookup n=some c:=e3 n c (by rw [List.lookup_cons];simp);refine ⟨cl,?_,e2,λx d hd=>?_,λx hx=>?_⟩
   ·rw [Ya7 hk,e,pure_bind,pure_bind];exact e1
   ·by_cases hx:x=n
    ·subst hx;have:=h2 x d hd;rw [hc] at this;cases this;exact self
    ·exact e3 x d (by rw [List.lookup_cons];simp only [show (x == n)=false by simpa using hx];exact hd)
   ·rcases YaF.mp hx with z | z
    ·cases z;exact ⟨c,self⟩
    ·exact e4 x z
  ·obtain ⟨cl,e1,e2,e3,e4⟩:=Zdp r acc (λy hy=>h1 y (Yas _ hy)) h2;refine ⟨cl,?_,e2,e3,λx hx=>?_⟩
   ·rw [Ya6 hk,pure_bind];exact e1
   ·rcases YaF.mp hx with z | z
    ·cases z;exact absurd rfl hk
    ·exact e4 x z
theorem Zdo {scope:Scope}{env:Env} (h:∀ y∈scope.names,y.2=.free->∃ c,env.cells.lookup y.1=some c) :
  ∃ cl,closureFor scope env=pure cl/\(∀ x c,cl.lookup x=some c->env.cells.lookup x=some c)/\(∀ x,(x,NameKind.free)∈scope.names->∃ c,cl.lookup x=some c):=by
 obtain ⟨cl,e1,e2,e3,e4⟩:=Zdp (env:=env) scope.names [] h (λx c hc=>by simp at hc);refine ⟨cl,?_,e2,e4⟩;unfold closureFor;simp only [bind_pure];exact e1
theorem ZbS {env:Env}{x:Str}{k:NameKind}:∀ {names:List (Str × NameKind)},
  (names.map λ(n,k)=>if (k == NameKind.free && env.scope.kind == .function && env.kindOf n == some .cell) then (n,NameKind.cell) else (n,k)).lookup x=some k ->
  ∃ k',names.lookup x=some k'/\(k'=k\/k'=.free/\k=.cell)
 | [],h=>by simp at h
 | (n,j) :: r,h=>by
  rw [Yaw] at h;dsimp only at h;have ih:=@ZbS env x k r
  by_cases hc:(j == NameKind.free && env.scope.kind == .function && env.kindOf n == some .cell)=true
  ·rw [Ya7 hc,List.lookup_cons] at h;rw [List.lookup_cons];cases hx:x == n with
   |true =>
    rw [hx] at h;cases h;simp only [Yaj] at hc;exact ⟨j,rfl,.inr ⟨by simpa using hc.1.1,rfl⟩⟩
   |false =>
    rw [hx] at h;exact ih h
  ·rw [Ya6 hc,List.lookup_cons] at h;rw [List.lookup_cons];cases hx:x == n with
   |true =>
    rw [hx] at h;cases h;exact ⟨_,rfl,.inl rfl⟩
   |false =>
    rw [hx] at h;exact ih h
theorem Zci {env:Env}{x:Str}:∀ {names:List (Str × NameKind)},names.lookup x=some .free ->
  (names.map λ(n,k)=>if (k == NameKind.free && env.scope.kind == .function && env.kindOf n == some .cell) then (n,NameKind.cell) else (n,k)).lookup x=some .cell \/
  (names.map λ(n,k)=>if (k == NameKind.free && env.scope.kind == .function && env.kindOf n == some .cell) then (n,NameKind.cell) else (n,k)).lookup x=some .free
 | [],h=>by simp at h
 | (n,j) :: r,h=>by
  rw [Yaw];dsimp only;have ih:=@Zci env x r;rw [List.lookup_cons] at h
  by_cases hc:(j == NameKind.free && env.scope.kind == .function && env.kindOf n == some .cell)=true
  ·rw [Ya7 hc,List.lookup_cons];cases hx:x == n with
   |true=>exact .inl rfl
   |false=>rw [hx] at h;exact ih h
  ·rw [Ya6 hc,List.lookup_cons];cases hx:x == n with
   |true=>rw [hx] at h;cases h;exact .inr rfl
   |false=>rw [hx] at h;exact ih h
theorem Zdv {prog:Program}{w:World}{A:Around}{R:Result->Shared->Prop}{s:Shared}{elt target iter:Expr}{ifs:List Expr}{scope:Scope}{pos:Pos}{it acc:Value}{env:Env} (I:Nat->Shared->Prop)
  (turn:∀ n s,I n s->wpAny (model prog w) A (pyNext it) (λr s₁=>match r with
   |none=>R (.ok .next) s₁
   |some v=>wpAny (model prog w) A (letOwnedTupleGo target it v) (λ_ s₁'=>wpAny (model prog w) A (assign target env v) (λ_ s₂ =>
     wpAny (model prog w) A (forIn ifs true λc r=>if r=true then do let ok <- isTrue c env (eval c env);pure (ForInStep.yield ok) else pure (ForInStep.yield r)) (λok s₃ =>
      if ok=true then wpAny (model prog w) A (eval elt env) (λx s₄ =>
       wpAny (model prog w) A (call (.builtin "list.append") [acc,x]) (λ_ s₅=>∃ m,m<n/\I m s₅) (λ_ _=>False) s₄) (λ_ _=>False) s₃
      else ∃ m,m<n/\I m s₃) (λ_ _=>False) s₂) (λ_ _=>False) s₁') (λ_ _=>False) s₁) (λ_ _=>False) s)
  (n:Nat) (h:I n s) :
  codeAny (model prog w) A (.compLoop (.ListComp elt [⟨target,iter,ifs,0⟩] scope pos) 0 it acc env) R s:=by
 refine codeAny_loop rfl I (λn s hI=>?_) n h;show wpAny _ A ((compTurn (.ListComp elt [⟨target,iter,ifs,0⟩] scope pos) 0 it acc env).onRaise (λx=>do noteFrame x env;theTreesLotGoes x)) _ _ s;refine wpAny_noted ?_;rw [compTurn_list];refine Ya3 (wpAny_standAt (Ya3 (Ya9 (turn n s hI) (λr s₁ h₁=>?_) λ_ _ h'=>h'.elim)));cases r with
 |none=>exact Ya8 h₁
 |some v =>
  refine Ya3 (Ya9 h₁ (λ_ s₁' h₁'=>?_) λ_ _ h'=>h'.elim);refine Ya3 (Ya9 h₁' (λ_ s₂ h₂=>Ya3 (Ya9 h₂ (λok s₃ h₃=>?_) λ_ _ h'=>h'.elim)) λ_ _ h'=>h'.elim);cases ok with
  |false=>exact Ya8 ⟨rfl,h₃⟩
  |true =>
   exact Ya3 (Ya3 (Ya9 h₃ (λx s₄ h₄=>Ya3 (Ya9 h₄ (λ_ s₅ h₅=>Ya8 (Ya8 ⟨rfl,h₅⟩)) λ_ _ h'=>h'.elim)) λ_ _ h'=>h'.elim))
end L2
namespace L2
open PySem PySem.Spec PyProof.Rows
def pick (σ:St):Option Nat->Option V
 |none=>none
 |some i=>(σ[i]?).getD none
theorem Zgj {σ:St}{j:Nat}{v:V} (h:pick σ (some j)=some v):σ[j]? = some (some v):=by
 have h:(σ[j]?).getD none=some v:=h;cases e:σ[j]? with
 |none=>rw [e] at h;cases h
 |some o=>rw [e] at h;exact congrArg some h
def ZgV (osc scope:Scope) (N Nb:List Str) (ix:List (Option Nat)):Bool :=
 decide (scope.kind=.function) && scope.names.all (λy=>decide (y.2≠.cell)) &&
 scope.names.all (λy=>decide (y.2=.local->scope.names.lookup y.1=some .local)) &&
 scope.names.all (λy=>decide (y.2=.free->osc.names.lookup y.1=some .cell\/osc.names.lookup y.1=some .free)) &&
 decide (ix.length=Nb.length) &&
 (List.range Nb.length).all (λi=>match ix[i]? with
  |some (some j)=>match Nb[i]? with
   |some x=>decide (N[j]? = some x/\scope.names.lookup x=some .free)
   |none=>true
  |_=>true)
structure CompOk (osc scope:Scope) (N Nb:List Str) (ix:List (Option Nat)):Prop where
 kind:scope.kind=.function
 nocell:∀ y∈scope.names,y.2≠.cell
 names:∀ y∈scope.names,y.2=.local->scope.names.lookup y.1=some .local
 fr:∀ y∈scope.names,y.2=.free->osc.names.lookup y.1=some .cell\/osc.names.lookup y.1=some .free
 len:ix.length=Nb.length
 src:∀ (i j:Nat) (x:Str),Nb[i]? = some x->ix[i]? = some (some j)->N[j]? = some x/\scope.names.lookup x=some .free
theorem ZgU {osc scope:Scope}{N Nb:List Str}{ix:List (Option Nat)} (h:ZgV osc scope N Nb ix=true):CompOk osc scope N Nb ix:=by
 unfold ZgV at h;simp only [Yaj] at h;obtain ⟨⟨⟨⟨⟨h1,h2⟩,h3⟩,h4⟩,h5⟩,h6⟩:=h;refine ⟨of_decide_eq_true h1,λy hy=>of_decide_eq_true (YaO.mp h2 y hy),λy hy=>of_decide_eq_true (YaO.mp h3 y hy),λy hy=>of_decide_eq_true (YaO.mp h4 y hy),of_decide_eq_true h5,λi j x e1 e2=>?_⟩;have hi:i<Nb.length:=(Yai.mp e1).1;have q:=YaO.mp h6 i (List.mem_range.mpr hi);rw [e2] at q;simp only [e1] at q;exact of_decide_eq_true q
def PIfs (X:Cx) (ifs:List Expr) (t:TT):Prop :=
 ∀ (pins:List (Addr × Obj)) (s:Shared) (σ:St) (H:Hp) (Q:Bool->Hp->Prop),Inv X pins σ H s->t σ H Q ->
  wpAny (model X.prog X.w) X.A (forIn ifs true λc r=>if r=true then do let ok <- isTrue c X.env (eval c X.env);pure (ForInStep.yield ok) else pure (ForInStep.yield r)) (TP X pins σ Q) X.xe s
def Zbu:TT:=λ_ H Q=>Q true H
theorem Zam {X:Cx}:PIfs X [] Zbu:=λ_ _ _ H _ I h=>wpAny_tests_nil ⟨H,I,h⟩
theorem ZaR {X:Cx}{c:Expr}{t:TT} (h:PT X c t):PIfs X [c] t:=λpins s σ H Q I hq=>wpAny_tests_one (h pins s σ H Q I hq)
def ZaQ (J:It) (g:TG) (tc:TT) (te:TE) (σ0:St) (H1:Hp) (Q:VK):Prop:=∀ D,H1 D=none ->
 ∃ W:Nat->Nat->List V->St->Hp->Prop,(∃ m,W 0 m [] σ0 (upd H1 D (.lst []))) /\
  ∀ i m ys σ' H',W i m ys σ' H'->H' D=some (.lst ys)/\((J.stop i H'/\Q (.ref D) H')\/(J.go i H'/\∀ x H2,J.yld i H' x H2->g x σ' H2 λσ2 H3=>tc σ2 H3 λb H4 =>
   if b=true then te σ2 H4 λy H5=>H5 D=some (.lst ys)/\ys.length<sizeLine/\∃ m',m'<m/\W (i+1) m' (ys ++ [y]) σ2 (upd H5 D (.lst (ys ++ [y])))
   else ∃ m',m'<m/\W (i+1) m' ys σ2 H4))
def Zmc (wi:TI) (g:TG) (tc:TT) (te:TE) (ix:List (Option Nat)):TE:=λσ H Q=>wi σ H λJ H1=>ZaQ J g tc te (ix.map (pick σ)) H1 Q
section
variable {X:Cx}{N':List Str}{scope osc:Scope}{cl:List (Str × Addr)}{C:Addr}{ex:List Addr}{ix:List (Option Nat)}{pins:List (Addr × Obj)}{σ:St}{H2:Hp}{s2:Shared}
theorem Zpv (I2:Inv X pins σ H2 s2) (K:CompOk X.env.scope scope X.N N' ix) (e2:∀ x c,cl.lookup x=some c->X.env.cells.lookup x=some c) (e3:∀ x,(x,NameKind.free)∈scope.names->∃ c,cl.lookup x=some c)
  (hC:s2.heap.objs.size<=C) (f2:∀ b∈ex,FpOk X pins H2 b) (hex:∀ b∈ex,b<s2.heap.objs.size):(X.comp N' scope cl C s2 H2 ex).Ok where
 mod:=I2.ok.mod
 kind:=K.kind
 glob:=I2.ok.glob
 blt:=I2.ok.blt
 above:=hC
 inj:=λx y c h1 h2=>I2.ok.inj x y c (e2 x c h1) (e2 y c h2)
 has:=λx hx=>by
  have key:∀ k,(relabel scope X.env).names.lookup x=some k->k=.cell\/k=.free->∃ c,cl.lookup x=some c:=λk hk hk2=>by
   obtain ⟨k',h1,h2⟩:=ZbS hk;have hm:=PySem.mem_of_lookup h1;rcases h2 with rfl | ⟨rfl,rfl⟩
   ·rcases hk2 with rfl | rfl
    ·exact absurd rfl (K.nocell _ hm)
    ·exact e3 x hm
   ·exact e3 x hm
  rcases hx with hx | hx
  ·exact key _ hx (.inl rfl)
  ·exact key _ hx (.inr rfl)
 cab:=λx c h=>by cases h
 hd:=I2.ok.hd
 frames:=I2.ok.frames
 stk:=.inl rfl
 exf:=λb hb=>⟨Yap (Yan (hex b hb) hC),λx c h=>(f2 b hb).2.2.2.2.1 x c (e2 x c h)⟩
 bs:=I2.bs
 bsz:=Yay I2.ok.bsz I2.sz
 noex:=λb o e hb=>by
  rcases (f2 b hb).2.2.2.1 with z | z
  ·exact I2.ok.noex b o e z
  ·exact absurd (Yan (Yal (I2.ok.bs b o e).1) z) (Ybq _)
 exfs:=λb hb hf=>by
  rcases YaF.mp (I2.stkSub b hf) with z | z
  ·exact (f2 b hb).2.1 z
  ·exact (f2 b hb).2.2.1 z
 funs:=I2.stack
 frf:=I2.stkFree
theorem ZiE (I2:Inv X pins σ H2 s2) (f2:∀ b∈ex,FpOk X pins H2 b) (hC:s2.heap.objs.size<=C) {σ3:St}{H3:Hp}{s4:Shared}{h':Heap}
  (J:Inv (X.comp N' scope cl C s2 H2 ex) [] σ3 H3 s4) (sb:Heap.SameBut C s4.heap h'):Inv X pins σ H3 { s4 with heap:=h' }:=by
 have ne:∀ b o,s2.heap.get? b=some o->b≠C:=λb o e=>Yap (Yan (Yal e) hC);have B:=J.base;have fr:H3 C=none:=J.free;refine I2.call' (s':={ s4 with heap:=h' }) (ch:=ex) J.os ⟨λb o e n hb hx=>?_,λb o e n hb hx=>?_,B.free,λb o e hx=>?_,B.tups,B.frzs,B.tbls⟩ ?_ J.bare λb hb=>?_
 ·exact (sb.2 b (ne b o e)).trans (B.keep b o e n hb hx)
 ·obtain ⟨sl,q⟩:=B.slot b o e n hb hx;exact ⟨sl,(sb.2 b (ne b o e)).trans q⟩
 ·obtain ⟨o',q⟩:=B.there b o e hx;exact ⟨o',(sb.2 b (ne b o e)).trans q⟩
 ·intro b ob e;refine (J.hok b ob e).stay (λc w' hc q=>(sb.2 c ?_).trans q) (λ_ q=>q) λ_ _ q=>q;rintro rfl;rcases hc with rfl | hc
  ·rw [fr] at e;cases e
  ·rw [fr] at hc;cases hc
 ·obtain ⟨_,f1,_,f3,f4,f5⟩:=f2 b hb;exact ⟨f3,f1,f4,f5⟩
end
theorem Ze1 {X:Cx}{tg iter elt:Expr}{ifs:List Expr}{scope:Scope}{pos:Pos}{g:TG}{tc:TT}{te:TE}{N':List Str}{ix:List (Option Nat)}{pins:List (Addr × Obj)}{σ:St}{s2:Shared}{itv:Value}{Q:VK}{cl:List (Str × Addr)}
  {RR:Value->Addr->Result->Shared->Prop} (hc:X.calm=true) (K:CompOk X.env.scope scope X.N N' ix) (e2:∀ x c,cl.lookup x=some c->X.env.cells.lookup x=some c) (e3:∀ x,(x,NameKind.free)∈scope.names->∃ c,cl.lookup x=some c)
  (hg:∀ cl C s2 H2 ex,PG (X.comp N' scope cl C s2 H2 ex) tg g) (ht:∀ cl C s2 H2 ex,PIfs (X.comp N' scope cl C s2 H2 ex) ifs tc) (he:∀ cl C s2 H2 ex,PE (X.comp N' scope cl C s2 H2 ex) elt te)
  (h2:PIE X pins σ tg (λJ H1=>ZaQ J g tc te (ix.map (pick σ)) H1 Q) itv s2)
  (hRR:∀ H2 fp C D σ3 H3 s4,Inv X pins σ H2 s2->(∀ b∈fp,FpOk X pins H2 b)->s2.heap.objs.size<=C->Inv (X.comp N' scope cl C s2 H2 fp) [] σ3 H3 s4->Q (.ref D) H3->RR (.ref D) C (.ok .next) s4) :
  wpAny (model X.prog X.w) X.A (newList []) (λacc s₃=>wpAny (model X.prog X.w) X.A (newFunctionEnv scope X.env.globals cl [] X.env.qual none .none (some X.env)) (λcenv s₄ =>
   codeAny (model X.prog X.w) X.A (.compStart (.ListComp elt [⟨tg,iter,ifs,0⟩] scope pos) 0 itv acc { cenv with scope:=relabel scope X.env }) (RR acc cenv.locals) s₄) X.xe s₃) X.xe s2:=by
 obtain ⟨it,fp,tn,J,H2,rfl,I2,T,st2,f2,q⟩:=h2;refine wpAny_newObj_type (wpAny_newFunctionEnv K.nocell (by intro y hy;simp at hy) (λh1 hns1 hsb1=>?_) K.kind);dsimp only at hns1 hsb1 ⊢;generalize hP:s2.heap.push { cls:=.type "list",dict:=none,data:=.seq ([]:List Value).toArray }=P2 at hns1 hsb1 ⊢;have hCs:P2.objs.size=s2.heap.objs.size+1:=by rw [<- hP,Heap.size_push]
 have hC:s2.heap.objs.size<=P2.objs.size:=by omega
 have hDC:s2.heap.objs.size≠P2.objs.size:=by omega
 have old:∀ b o,s2.heap.get? b=some o->h1.get? b=some o:=λb o e =>
  hsb1.extBut b o (Yap (Yan (Yal e) hC)) (Yad _ (hP ▸ Yad _ e))
 have hacc:h1.get? s2.heap.objs.size=some { cls:=.type "list",dict:=none,data:=.seq ([]:List Value).toArray } :=
  hsb1.extBut _ _ hDC (Yad _ (hP ▸ Yao _ rfl))
 have hD:H2 s2.heap.objs.size=none:=I2.hok.fresh (Yag _);have hCn:H2 P2.objs.size=none:=I2.hok.fresh hC;obtain ⟨W,⟨m0,w0⟩,turn⟩:=q s2.heap.objs.size hD;have hex:∀ b∈fp,b<s2.heap.objs.size:=λb hb=>by
  obtain ⟨o,e,_⟩:=T.obj 0 _ st2 b hb;exact Yal e
 have YOk:=Zpv (cl:=cl) (C:=P2.objs.size) (ex:=fp) I2 K e2 e3 hC f2 hex;have hok1:HOk X.prog X.w (upd H2 s2.heap.objs.size (.lst [])) h1:=I2.hok.laid old (Yag _) ⟨YaH _,[],0,.nil,hacc⟩;have IY:Inv (X.comp N' scope cl P2.objs.size s2 H2 fp) [] (ix.map (pick σ)) (upd H2 s2.heap.objs.size (.lst [])) { s2 with heap:=h1,toks:=s2.toks+([]:List (Str × Value)).length }:=by
  refine ⟨YOk,rfl,I2.bare,?_,⟨_,hns1,λi x v e1 e4 e5=>?_⟩,λx c e=>?_,?_,λx c e=>?_,λp hp=>absurd (show p∈([]:List (Addr × Obj)) from hp) (by simp),hok1,?_⟩
  ·exact (Un.laid old (Yag _) hD).mono (λ_ z=>z) (λ_ z=>z)
  ·rw [Yaf] at e4;cases e6:ix[i]? with
   |none=>rw [e6] at e4;cases e4
   |some o =>
    rw [e6] at e4;cases o with
    |none=>cases (Yae e4)
    |some j =>
     have e7:σ[j]? = some (some v):=Zgj (Yae e4);obtain ⟨n1,n2⟩:=K.src i j x e1 e6;have hm:=PySem.mem_of_lookup n2;have kx:=K.fr _ hm rfl;obtain ⟨m,hn,hl⟩:=I2.loc;obtain ⟨u,r,l⟩:=hl j x v n1 e7 (kx.elim (λz=>.inr (.inl z)) λz=>.inr (.inr z));refine ⟨u,r,.inr ⟨?_,?_⟩⟩
     ·exact Zci n2
     ·rcases l with ⟨k1,_⟩ | ⟨_,c,hc1,hc2⟩
      ·exfalso;have k1':X.env.scope.names.lookup x=some .local:=k1;rcases kx with z | z
       ·rw [k1'] at z;cases z
       ·rw [k1'] at z;cases z
      ·obtain ⟨c',hc'⟩:=e3 x hm;have e8:=e2 x c' hc';rw [hc1] at e8;cases e8;obtain ⟨o,ho,hd⟩:=hc2;exact ⟨c,hc',o,old _ _ ho,hd⟩
  ·obtain ⟨v,o,ho,hd⟩:=I2.cell x c (e2 x c e);exact ⟨v,o,old _ _ ho,hd⟩
  ·show upd H2 s2.heap.objs.size (.lst []) P2.objs.size=none;rw [Zag (Ne.symm hDC)];exact hCn
  ·obtain ⟨v,z⟩:=I2.cell x c (e2 x c e);rw [Zag (Yap z.lt)];exact I2.freeC x c (e2 x c e)
  ·rw [Yaa];exact K.len
 have hnf:∀ b∈fp,b≠P2.objs.size:=λb hb=>Yap (Yan (hex b hb) hC);have stat:∀ {H':Hp},(∀ b∈fp,H' b=none)->∀ b∈fp,FpOk (X.comp N' scope cl P2.objs.size s2 H2 fp) [] H' b:=λhn b hb =>
  ⟨hn b hb,hnf b hb,YOk.exfs b hb,.inl hb,λx c e=>(f2 b hb).2.2.2.2.1 x c (e2 x c e),λp hp=>absurd (show p∈([]:List (Addr × Obj)) from hp) (by simp)⟩
 have loop:∀ s₃:Shared,s₃ = { s2 with heap:=h1,toks:=s2.toks+([]:List (Str × Value)).length } ->
   codeAny (model X.prog X.w) X.A (.compLoop (.ListComp elt [⟨tg,iter,ifs,0⟩] scope pos) 0 (.ref it) (.ref s2.heap.objs.size) (compEnvC scope cl P2.objs.size X.env))
    (RR (.ref s2.heap.objs.size) P2.objs.size) s₃:=by
  rintro s₃ rfl;refine Zdv (λn s'=>∃ i ys σ' H',Inv (X.comp N' scope cl P2.objs.size s2 H2 fp) [] σ' H' s'/\tn i s'.heap/\(∀ b∈fp,H' b=none)/\W i n ys σ' H') ?_ m0
   ⟨0,[],_,_,IY,T.keep _ _ _ st2 (λb hb o e=>old b o e),λb hb=>?_,w0⟩
  ·rintro n s3 ⟨i,ys,σ3,H3,I3,st3,fr3,w3⟩;obtain ⟨hDl,tt⟩:=turn i n ys σ3 H3 w3;rcases tt with ⟨stop,qn⟩ | ⟨go,step⟩
   ·refine thn (T.done (X.comp N' scope cl P2.objs.size s2 H2 fp) rfl rfl rfl hc i [] s3 σ3 H3 (λ_ _=>False) I3 (stat fr3) st3 stop) λr s4 ⟨hr,I4⟩=>?_;subst hr;exact hRR H2 fp P2.objs.size s2.heap.objs.size σ3 H3 s4 I2 f2 hC I4 qn
   ·refine thn (T.item (X.comp N' scope cl P2.objs.size s2 H2 fp) rfl rfl rfl hc i [] s3 σ3 H3 (λ_ _=>False) I3 (stat fr3) st3 go) λr s4 ⟨u,hr,h4⟩=>?_;subst hr;refine thn h4 λ_ s5 ⟨x,H5,I5,r5,y5,st5,fr5⟩=>?_;have I5':=I5.pinned (stat fr5) (T.obj _ _ st5);refine thn (hg cl P2.objs.size s2 H2 fp _ s5 σ3 H5 x u _ I5' r5 (step x H5 y5)) λ_ s6 ⟨σ6,H6,I6,q6⟩=>?_;refine thn (ht cl P2.objs.size s2 H2 fp _ s6 σ6 H6 _ I6 q6) λb s7 ⟨H7,I7,q7⟩=>?_;have again:∀ {s8:Shared}{H8:Hp}{ys':List V}{m':Nat},Inv (X.comp N' scope cl P2.objs.size s2 H2 fp) ([] ++ ZeV fp s5.heap) σ6 H8 s8->m'<n->W (i+1) m' ys' σ6 H8 ->
      ∃ m,m<n/\∃ i ys σ' H',Inv (X.comp N' scope cl P2.objs.size s2 H2 fp) [] σ' H' s8/\tn i s8.heap/\(∀ b∈fp,H' b=none)/\W i m ys σ' H':=λ{s8 H8 ys' m'} I8 hm w8=>by
     refine ⟨m',hm,i+1,ys',σ6,H8,I8.unpinned,T.keep _ _ _ st5 λb hb o e=>(I8.pin (b,o) (Yaz _ (Yaz _ (ZbG hb e)))).1,λb hb=>?_,w8⟩;obtain ⟨o,e,d⟩:=T.obj _ _ st5 b hb;exact (I8.pin (b,o) (Yaz _ (Yaz _ (ZbG hb e)))).2.1
    cases b with
    |false =>
     obtain ⟨m',hm,w7⟩:∃ m',m'<n/\W (i+1) m' ys σ6 H7:=q7;exact again I7 hm w7
    |true =>
     have q7':te σ6 H7 _:=q7;show wpAny _ _ (eval elt (compEnvC scope cl P2.objs.size X.env)) _ _ _;refine thn (he cl P2.objs.size s2 H2 fp _ s7 σ6 H7 _ I7 q7') λyv s8 ⟨y,H8,I8,r8,hD8,hz8,m',hm,w8⟩=>?_;refine thn (Za7 (X:=X.comp N' scope cl P2.objs.size s2 H2 fp) _ s8 σ6 H8 (.ref s2.heap.objs.size) [y] (.ref s2.heap.objs.size) [yv] (λ_ H9=>H9=upd H8 s2.heap.objs.size (.lst (ys ++ [y]))) I8 rfl (.cons r8 .nil)
      ⟨_,ys,y,rfl,rfl,hD8,hz8,rfl⟩) λ_ s9 ⟨_,H9,I9,_,e9⟩=>?_
     subst e9;exact again I9 hm w8
  ·show upd H2 s2.heap.objs.size (.lst []) b=none;rw [Zag (Yap (hex b hb))];exact (f2 b hb).1
 exact codeAny_compStart_list (loop _ rfl) (T.self X.A 0 _ _ _ (T.keep _ _ _ st2 (λb hb o e=>old b o e)) (loop _ rfl))
theorem Zar {X:Cx}{tg iter elt:Expr}{ifs:List Expr}{scope:Scope}{pos:Pos}{wi:TI}{g:TG}{tc:TT}{te:TE} (N':List Str) (ix:List (Option Nat)) (osc:Scope) (N:List Str)
  (hc:X.calm=true) (hi:PI X tg iter wi) (ok:ZgV osc scope N N' ix=true)
  (hg:∀ cl C s2 H2 ex,PG (X.comp N' scope cl C s2 H2 ex) tg g) (ht:∀ cl C s2 H2 ex,PIfs (X.comp N' scope cl C s2 H2 ex) ifs tc) (he:∀ cl C s2 H2 ex,PE (X.comp N' scope cl C s2 H2 ex) elt te)
  (hsc:X.env.scope=osc:=by rfl) (hN:X.N=N:=by rfl) (hs:∀ x,foldedSetIterable iter X.env x=pure x:=by intro _;rfl):PE X (.ListComp elt [⟨tg,iter,ifs,0⟩] scope pos) (Zmc wi g tc te ix):=by
 intro pins s σ H Q I h;have K0:=ZgU ok;have K:CompOk X.env.scope scope X.N N' ix:=by rw [hsc,hN];exact K0
 obtain ⟨cl,hclos,e2,e3⟩:=Zdo (scope:=scope) (env:=X.env) (λy hy hf=>I.ok.has y.1 (K.fr y hy hf));rw [eval_ListComp];refine wpAny_comprehension_free (use:=none) rfl hs hclos K.kind K.names (Ya9 (hi pins s σ H _ I h) (λv s1 h1=>thn h1 λitv s2 h2=>?_) λ_ _ e=>e);refine Ze1 hc K e2 e3 hg ht he h2 λH2 fp C D σ3 H3 s4 I2 f2 hC I4 qn=>?_;obtain ⟨m,hn,_⟩:=I4.loc;exact ⟨m,hn,λh' sb=>⟨.ref D,H3,ZiE I2 f2 hC I4 sb,rfl,qn⟩⟩
theorem Zb2 {X:Cx}{tg iter elt:Expr}{ifs:List Expr}{scope:Scope}{pos spos py:Pos}{y:Str}{wi:TI}{g:TG}{tc:TT}{te:TE} (N':List Str) (ix:List (Option Nat)) (osc:Scope) (N:List Str) {i:Nat} (nd:X.N.Nodup) (hiy:X.N[i]? = some y) (hxy:Loc X.env.scope y)
  (hc:X.calm=true) (hi:PI X tg iter wi) (ok:ZgV osc scope N N' ix=true)
  (hg:∀ cl C s2 H2 ex,PG (X.comp N' scope cl C s2 H2 ex) tg g) (ht:∀ cl C s2 H2 ex,PIfs (X.comp N' scope cl C s2 H2 ex) ifs tc) (he:∀ cl C s2 H2 ex,PE (X.comp N' scope cl C s2 H2 ex) elt te)
  (hsc:X.env.scope=osc:=by rfl) (hN:X.N=N:=by rfl) (hs:∀ x,foldedSetIterable iter X.env x=pure x:=by intro _;rfl)
  (hsw:swapsWith (.ListComp elt [⟨tg,iter,ifs,0⟩] scope pos) (some (.Name y py)) spos.line X.env=pure true:=by rfl) (hf:X.fn y=true\/X.env.scope.names.lookup y=some .local:=by first | exact .inl rfl | exact .inr rfl | assumption) :
  PS X (.Assign [.Name y py] (.ListComp elt [⟨tg,iter,ifs,0⟩] scope pos) spos) (tAsg (Zmc wi g tc te ix) (Za1 i)):=by
 intro pins s σ H D I h;have K0:=ZgU ok;have K:CompOk X.env.scope scope X.N N' ix:=by rw [hsc,hN];exact K0
 obtain ⟨cl,hclos,e2,e3⟩:=Zdo (scope:=scope) (env:=X.env) (λy hy hf=>I.ok.has y.1 (K.fr y hy hf));rw [exec_Assign_Name_used _ _ _ _ hsw];refine Ya3 (wpAny_standAt (Ya3 ?_));show wpAny _ X.A (do let _ <- comprehension (.ListComp elt [⟨tg,iter,ifs,0⟩] scope pos) scope X.env _ (newList []) false (eval iter X.env) (some (assign (.Name y py) X.env))) _ _ s;refine Ya3 (Ya9 (wpAny_comprehension_free (use:=some (assign (.Name y py) X.env)) (Q:=λ_ s'=>SP X pins D .next s') rfl hs hclos K.kind K.names
  (Ya9 (hi pins s σ H _ I h) (λv s1 h1=>thn h1 λitv s2 h2=>?_) λ_ _ e=>e)) (λ_ s' hq=>Ya8 (Ya8 hq)) λ_ _ e=>e)
 refine Ze1 hc K e2 e3 hg ht he h2 λH2 fp C L σ3 H3 s4 I2 f2 hC I4 qn=>?_;have I5:Inv X pins σ H3 s4:=ZiE I2 f2 hC I4 (Heap.SameBut.refl ..);obtain ⟨m,hn,_⟩:=I4.loc;have hn:s4.heap.Ns C m:=hn;have fC:FpOk X pins H3 C:=I2.fpOk hC I4.free;show wpAny _ X.A (assign (.Name y py) X.env (.ref L)) _ _ s4;refine wpAny_assign_Name (Zf0 I5 nd hiy hxy (v:=.ref L) rfl (λs5 I6 hch=>?_) hf);obtain ⟨a,sb,ha⟩:=hch;have nCa:C≠a:=by
  rcases ha with rfl | ha
  ·exact fC.2.1
  ·exact λz=>fC.2.2.2.2.1 y a ha z.symm
 refine ⟨m,hn.sameBut sb nCa,λh' sb'=>⟨_,H3,?_,qn⟩⟩;obtain ⟨f0,f1,f2',f3,f4,f5⟩:=fC;exact I6.turned (t':=s5.toks) (λb o hb e=>(sb'.2 b hb).trans e) f0 f1 f3 f4 f5
end L2
namespace L2
open PySem PySem.Spec PyProof.Rows
section
variable {X:Cx}
theorem ZiI:∀ {bs:List Bool}{us:List Value},Vals (bs.map V.bl) us->LSm.BoolsAre us bs
 | [],_,.nil=>.nil
 |b :: bs,_,.cons r t=>by
  cases r;exact .cons b (ZiI t)
theorem Za5 (hc:X.calm=true):Zcc X (.builtin "all") (λxs H Q=>∃ (p:Addr) (bs:List Bool),xs=[.ref p]/\SqL X.K H p (bs.map V.bl)/\Q (.bl (bs.all id)) H):=by
 intro pins s σ H xs us Q I rv h;obtain ⟨p,bs,rfl,hq,q⟩:=h;obtain ⟨u,rfl,ru⟩:=rv.one;cases ru;obtain ⟨its,r,pl,hz⟩:=I.list hq;have hb:=ZiI r;obtain ⟨m,F⟩:=I.fr;have hl:=pl.isList;have hlt:p<s.heap.objs.size:=by obtain ⟨_,e,_⟩:=hl;exact Yal e
 have hh:=I.ok.hd hc;refine call_all_walk (wpAny_pyIter_list hl ?_);refine ⟨s.heap.objs.size,[s.heap.objs.size,p],[s.heap.objs.size],its.toArray.size,_,_,λi=>(bs[i]?).getD true,rfl,Walks.list (A:=X.A.in1) hh _ p (Yap hlt) its.toArray,
  ⟨⟨_,Yao _ rfl,rfl,rfl⟩,hl.push _⟩,λi v s' Q' E' hP hQ=>?_,λh' tk hk=>?_⟩
 ·obtain ⟨b,e,rfl⟩:=hb.get i v (by simpa using hP);simp only [e,Option.getD_some] at hQ;exact wpAny_truthy_bool hQ
 ·have e:((List.range its.toArray.size).all λi=>(bs[i]?).getD true)=bs.all id:=by
   rw [Yam,hb.length];exact LSm.range_all bs
  rw [e];exact ⟨.bl _,H,I.kept (LSm.kept_iter hk),rfl,q⟩
theorem ZaP:Zcc X (.builtin "isinstance") (λxs H Q=>∃ x T t b,xs=[x,.ty T]/\TyOf X.K H x t/\PySem.W.kitOne X.K t (.type T)=some b/\Q (.bl b) H):=by
 intro pins s σ H xs us Q I rv h;obtain ⟨x,T,t,b,rfl,ty,e,q⟩:=h;obtain ⟨u,v,rfl,ru,rv⟩:=rv.two;cases rv;exact Zk3 I ru ty e λtk=>⟨.bl b,H,I.tok tk,rfl,q⟩
theorem ZbL:∀ {ns:List Int}{us:List Value},Vals (ns.map V.int) us->IntsAre us ns
 | [],_,.nil=>.nil
 |b :: bs,_,.cons r t=>by
  obtain ⟨tk,rfl⟩:=r;exact .cons _ _ (ZbL t)
end
mutual
inductive RdD (K:Yab) (H:Hp):V->PyData->Prop
 |non:RdD K H .non .none
 |bl (b:Bool):RdD K H (.bl b) (.bool b)
 |int (i:Int):RdD K H (.int i) (.int i)
 |str (x:Str):RdD K H (.str x) (.str x)
 |lst {a:Addr}{xs:List V}{ds:List PyData}:SqL K H a xs->RdAll K H xs ds->RdD K H (.ref a) (.list ds)
 |tup {a:Addr}{xs:List V}{ds:List PyData}:SqT K H a xs->RdAll K H xs ds->RdD K H (.ref a) (.tuple ds)
inductive RdAll (K:Yab) (H:Hp):List V->List PyData->Prop
 |nil:RdAll K H [] []
 |cons {x:V}{d:PyData}{xs:List V}{ds:List PyData}:RdD K H x d->RdAll K H xs ds->RdAll K H (x :: xs) (d :: ds)
end
section
variable {X:Cx}{pins:List (Addr × Obj)}{σ:St}{H:Hp}{s:Shared}
mutual
theorem Inv.reads (I:Inv X pins σ H s):∀ {x:V}{d:PyData}{u:Value},RdD X.K H x d->RelV x u->∃ as,Reads s.heap u d as
 |_,_,_,.non,r=>by cases r;exact ⟨_,.none⟩
 |_,_,_,.bl b,r=>by cases r;exact ⟨_,.bool b⟩
 |_,_,_,.int i,r=>by obtain ⟨t,rfl⟩:=r;exact ⟨_,.int i t⟩
 |_,_,_,.str x,r=>by obtain ⟨t,rfl⟩:=r;exact ⟨_,.str x t⟩
 |_,_,_,.lst hq ha,r=>by
  cases r;obtain ⟨its,rv,⟨o,n,e,c,dd,dt⟩,_⟩:=I.list hq;obtain ⟨as,q⟩:=Inv.readsAll I ha rv;exact ⟨_,.list e c dt (by simpa using q)⟩
 |_,_,_,.tup hq ha,r=>by
  cases r;obtain ⟨its,rv,⟨o,e,c,n,dt⟩,_⟩:=I.tuple hq;obtain ⟨as,q⟩:=Inv.readsAll I ha rv;exact ⟨_,.tuple e c dt (by simpa using q)⟩
theorem Inv.readsAll (I:Inv X pins σ H s):∀ {xs:List V}{ds:List PyData}{us:List Value},RdAll X.K H xs ds->Vals xs us->∃ as,ReadsAll s.heap us ds as
 |_,_,_,.nil,.nil=>⟨_,.nil⟩
 |_,_,_,.cons h t,.cons r rr=>by
  obtain ⟨as,q⟩:=Inv.reads I h r;obtain ⟨bs,p⟩:=Inv.readsAll I t rr;exact ⟨_,.cons q p⟩
end
inductive REqD (K:Yab) (neg:Bool) (x y:V) (H:Hp) (Q:VK):Prop
 |mk (dx dy:PyData) (h1:RdD K H x dx) (h2:RdD K H y dy) (h3:SeqAt.shaped dx=true) (h4:SeqAt.shaped dy=true) (q:Q (.bl (if neg then !PyData.eqv dx dy else PyData.eqv dx dy)) H):REqD K neg x y H Q
def rEqD (K:Yab) (neg:Bool):R2:=λx y H Q=>REqD K neg x y H Q
theorem ZcG (hu:X.A.units+64<cLine):OpR X (compareOp .Eq) (rEqD X.K false):=by
 intro pins s σ H x y v u Q I rx ry h;obtain ⟨dx,dy,h1,h2,s1,s2,q⟩:=h;obtain ⟨as,r1⟩:=I.reads h1 rx;obtain ⟨bs,r2⟩:=I.reads h2 ry;exact eq_dataH r1 r2 s1 s2 hu ⟨.bl _,H,I,rfl,q⟩
theorem Zbx (hu:X.A.units+64<cLine):OpR X (compareOp .NotEq) (rEqD X.K true):=by
 intro pins s σ H x y v u Q I rx ry h;obtain ⟨dx,dy,h1,h2,s1,s2,q⟩:=h;obtain ⟨as,r1⟩:=I.reads h1 rx;obtain ⟨bs,r2⟩:=I.reads h2 ry;exact ne_dataH r1 r2 s1 s2 hu ⟨.bl _,H,I,rfl,q⟩
end
end L2
namespace L2
open PySem PySem.Spec PyProof.Rows
def Ite (K:Yab) (a:Addr):It :=
 ⟨λi H=>∃ xs x,SqL K H a xs/\xs[i]? = some x,λi H y H'=>∃ T x,y=.ref T/\H T=none/\H'=upd H T (.tup [.int (i:Nat),x])/\∀ xs,SqL K H a xs->xs[i]? = some x,λi H=>∃ xs,SqL K H a xs/\xs.length<=i⟩
theorem Inv.tupNew {X:Cx}{pins:List (Addr × Obj)}{σ:St}{H:Hp}{s:Shared}{h':Heap}{t':Nat}{fp:List Addr}{T:Addr}{xs:List V}{its:List Value}{n:Nat} (I:Inv X pins σ H s) (hf:∀ b∈fp,FpOk X pins H b)
  (hT:s.heap.objs.size<=T) (k:∀ b o,b∉fp->s.heap.get? b=some o->h'.get? b=some o) (hz:xs.length<=sizeLine) (rv:Vals xs its) (e:h'.get? T=some { cls:=.type "tuple",data:=.seq its.toArray n })
  (tr:∀ b∈fp,∃ o,h'.get? b=some o):Inv X pins σ (upd H T (.tup xs)) { s with heap:=h',toks:=t' }:=by
 have hTn:H T=none:=I.hok.fresh hT;have nT:∀ b o,s.heap.get? b=some o->b≠T:=λb o q=>Yap (Yan (Yal q) hT);have nfp:∀ b o,H b=some o->b∉fp:=λb o q hb=>by have:=(hf b hb).1;rw [q] at this;cases this
 refine I.step (g':=s.gens) (d':=s.drawn) (ch:=fp) (λb hb=>?_) (λb o _ _ hc q _=>k b o hc q) (λb o _ _ hc q _=>⟨o.slots,k b o hc q⟩) (λb o _ q n=>by rw [Zag (nT b o q)];exact n)
  (λb o hc q=>⟨o,k b o hc q⟩) (λb ys q=>by rw [Zag (Zai q hTn)];exact q) (λb o u q=>by rw [Zag (Zai q hTn)];exact q) (λb ps q=>⟨#[],by rw [Zag (Zai q hTn),q];simp⟩) (λm hm=>?_) (λb u q=>?_) I.bare
 ·obtain ⟨_,f1,_,f3,f4,f5⟩:=hf b hb;exact ⟨f3,f1,f4,f5⟩
 ·obtain ⟨o,es,ep,ho,r⟩:=hm;exact ⟨o,es,ep,k _ o (λz=>(hf _ z).2.1 rfl) ho,r⟩
 ·by_cases hb:b=T
  ·subst hb;rw [Zac] at q;cases q;exact ⟨hz,its,rv,_,e,rfl,n,rfl⟩
  ·rw [Zag hb] at q;refine (I.hok b u q).stay (λc v hc w=>k c v ?_ w) (λc w=>by rw [Zag (Zai w hTn)];exact w) λc ys w=>by rw [Zag (Zai w hTn)];exact w
   rcases hc with rfl | hc
   ·exact nfp _ _ q
   ·exact nfp _ _ hc
theorem ZjD {P:Program}{w:World}{K:Yab}{es:List Expr}{k1}{ps:Pos} (a e it:Addr):Turn P w K (.Tuple es k1 ps) (Ite K a) [e,it] e (λi h=>(∃ old,IsEnum h e it (i:Nat) old)/\h.IsListIter it a i/\e≠it) where
 mem:=by simp
 obj:=λi h st b hb=>by
  obtain ⟨⟨old,he⟩,hit,hne⟩:=st;rcases YaF.mp hb with rfl | hb
  ·exact ⟨_,he,λv z=>by
    have z':Data.fields _=Data.cell v:=z
    cases z'⟩
  ·have z:b=it:=by simpa using hb
   subst z;obtain ⟨o,e,c,d⟩:=hit;exact ⟨o,e,λv z=>by rw [d] at z;cases z⟩
 keep:=λi h h' st k=>by
  obtain ⟨⟨old,he⟩,hit,hne⟩:=st;exact ⟨⟨old,k e (by simp) _ he⟩,hit.at λo q=>k it (by simp) o q,hne⟩
 item:=by
  intro X hP hw hK hc i pins s σ H E I hf st hg;subst hP hw hK;obtain ⟨⟨old,he⟩,hit,hne⟩:=st;obtain ⟨xs,x,hq,hx⟩:=hg;obtain ⟨its,rv,p,hz⟩:=I.list hq;obtain ⟨u,hu,ru⟩:=rv.get hx;refine wpAny_pyNext_enum_item he hit p.isList (x:=u) (by simpa using hu) hne λh' heo hit' hT hsz hk=>?_;refine ⟨_,rfl,wpAny_letOwnedTupleGo_enum heo λh2 he2 hs2=>?_⟩;have elt:e≠s.heap.objs.size:=Yap (Yal he);have ilt:it≠s.heap.objs.size:=by obtain ⟨o,q,_⟩:=hit;exact Yap (Yal q)
  have hs2':Heap.SameBut e h' h2:=hs2;have hT2:h2.get? s.heap.objs.size=some { cls:=.type "tuple",data:=.seq #[.int i s.toks,u] }:=(hs2'.2 _ (Ne.symm elt)).trans hT;have hit2:h2.IsListIter it a (i+1):=hit'.at λo q=>(hs2'.2 it (Ne.symm hne)).trans q;have hfr:H s.heap.objs.size=none:=I.hok.fresh (Yag _);have I2:Inv X pins σ (upd H s.heap.objs.size (.tup [.int (i:Nat),x])) { s with heap:=h2,toks:=s.toks+1 }:=by
   refine I.tupNew (its:=[.int i s.toks,u]) hf (Yag _) (λb o hb q=>?_) (by show 2<=sizeLine;decide) (.cons ⟨_,rfl⟩ (.cons ru .nil)) hT2 (λb hb=>?_)
   ·simp only [YaF,not_or] at hb;exact (hs2'.2 b hb.1).trans (hk b o hb.1 hb.2.1 q)
   ·rcases YaF.mp hb with rfl | hb
    ·exact ⟨_,he2⟩
    ·have z:b=it:=by simpa using hb
     subst z;obtain ⟨o,q,_⟩:=hit2;exact ⟨o,q⟩
  refine ⟨.ref s.heap.objs.size,_,I2,rfl,⟨_,x,rfl,hfr,rfl,λys hy=>by rw [I.list_inj hy hq];exact hx⟩,⟨⟨_,by simpa using he2⟩,hit2,hne⟩,λb hb=>?_⟩;rw [Zag (λz=>?_)]
  ·exact (hf b hb).1
  ·rcases YaF.mp hb with rfl | hb
   ·exact elt z
   ·have z':b=it:=by simpa using hb
    subst z';exact ilt z
 done:=by
  intro X hP hw hK hc i pins s σ H E I hf st hg;subst hP hw hK;obtain ⟨⟨old,he⟩,hit,hne⟩:=st;obtain ⟨xs,hq,hx⟩:=hg;obtain ⟨its,rv,p,hz⟩:=I.list hq;obtain ⟨f0,f1,f2,f3,f4,f5⟩:=hf it (by simp);have hl:=rv.length;exact wpAny_pyNext_enum_end (I.ok.hd hc) he hit p.isList (by simp;omega) λh' eb=>⟨rfl,I.turned (t':=s.toks) (λb o hb e=>eb b o hb e) f0 f1 f3 f4 f5⟩
 self:=λ_ _ _ _ _ st h=>by
  obtain ⟨⟨old,he⟩,hit,hne⟩:=st;exact wpAny_pyIter_enum he h
def Zrs (K:Yab) (ta:TA):TI:=λσ H R=>ta σ H λvs H1=>∃ a,vs=[.ref a]/\(∃ xs,SqL K H1 a xs)/\R (Ite K a) H1
theorem Zdb {X:Cx}{a:Expr}{ta:TA}{es:List Expr}{k1}{ps p pos:Pos} (hg:Gl X "enumerate") (hm:X.mg "enumerate" = none) (ha:PA X [a] ta) (hs:starEach [a] X.env=[(false,eval a X.env)]:=by rfl) :
  PI X (.Tuple es k1 ps) (.Call (.Name "enumerate" p) [a] [] pos) (Zrs X.K ta):=by
 intro pins s σ H R I h;refine Call_ (Zcd I hg hm boot_enumerate (PyProof.Rows.callWith_type1 (thn (ha pos pins s σ H _ I h) λus s1 ⟨vs,H1,I1,r1,q1⟩=>?_) hs rfl));obtain ⟨a,e,⟨xs,hq⟩,q⟩:=q1;subst e;obtain ⟨u,rfl,ru⟩:=r1.one;cases ru;obtain ⟨its,rv,pl,hz⟩:=I1.list hq;refine call_enumerate_list pl.isList λh' he hit hsz hk=>wpAny_pyIter_enum he ?_;have I2:Inv X pins σ H1 { s1 with heap:=h' }:=I1.kept (t':=s1.toks) hk;refine ⟨s1.heap.objs.size+1,[s1.heap.objs.size+1,s1.heap.objs.size],_,_,H1,rfl,I2,ZjD a _ _,⟨⟨_,he⟩,hit,Nat.ne_of_gt (Nat.lt_succ_self _)⟩,λb hb=>?_,q⟩;rcases YaF.mp hb with rfl | hb
 ·exact I1.fpOk (Nat.le_succ _) (I1.hok.fresh (Nat.le_succ _))
 ·have z:b=s1.heap.objs.size:=by simpa using hb
  subst z;exact I1.fpOk (Yag _) (I1.hok.fresh (Yag _))
theorem Zin {K:Yab}{a:Addr}{xs:List V}{g:TG}{tb:TS}{D:Ends}{σ:St}{H:Hp} (Pv:Nat->St->Hp->Prop) (h0:Pv 0 σ H) (hl:∀ i σ H,i<=xs.length->Pv i σ H->SqL K H a xs)
  (hs:∀ i x σ H T,xs[i]? = some x->Pv i σ H->H T=none->g (.ref T) σ (upd H T (.tup [.int (i:Nat),x])) λσ2 H2=>tb { D with nx:=Pv (i+1),ct:=Pv (i+1),bk:=D.nx } σ2 H2) (hd:∀ σ H,Pv xs.length σ H->D.nx σ H) :
  ∃ W:Nat->Nat->St->Hp->Prop,(∃ m,W 0 m σ H)/\∀ i m σ H,W i m σ H ->
   ((Ite K a).stop i H/\D.nx σ H)\/((Ite K a).go i H/\∃ N:St->Hp->Prop,(∀ σ' H',N σ' H'->∃ m',m'<m/\W (i+1) m' σ' H')/\∀ x H',(Ite K a).yld i H x H'->g x σ H' λσ2 H2=>tb { D with nx:=N,ct:=N,bk:=D.nx } σ2 H2):=by
 refine ⟨λi m σ H=>m=xs.length - i/\i<=xs.length/\Pv i σ H,⟨xs.length,by simp,YaH _,h0⟩,?_⟩;rintro i m σ H ⟨rfl,hi,p⟩;have q:=hl i σ H hi p
 by_cases hlt:i<xs.length
 ·refine .inr ⟨⟨xs,xs[i],q,by simp [hlt]⟩,Pv (i+1),λσ' H' p'=>⟨xs.length - (i+1),by omega,rfl,hlt,p'⟩,λx H' y=>?_⟩;obtain ⟨T,z,rfl,hT,rfl,y⟩:=y;exact hs i z σ _ T (y xs q) p hT
 ·have e:i=xs.length:=by omega
  subst e;exact .inl ⟨⟨xs,q,Yag _⟩,hd σ H p⟩
end L2
namespace L2
open PySem PySem.Spec PyProof.Rows
def Pu (te:TE) (σ:St) (H:Hp) (v:V):Prop:=∀ (H':Hp) (Q:VK),Same H H'->(∀ H'',Same H' H''->Q v H'')->te σ H' Q
def PuT (tc:TT) (σ:St) (H:Hp) (b:Bool):Prop:=∀ (H':Hp) (Q:Bool->Hp->Prop),Same H H'->(∀ H'',Same H' H''->Q b H'')->tc σ H' Q
theorem Zh9 {σ:St}{H:Hp}:PuT Zbu σ H true:=λH' Q _ q=>q H' (srf _)
theorem Same.upd {H H':Hp}{D:Addr}{o:HO} (e:Same H H') (hD:H D=none):Same H (upd H' D o):=λb u q=>by
 rw [Zag (Zai q hD)];exact e b u q
theorem snw {H:Hp}{D:Addr}{o:HO} (hD:H D=none):Same H (L2.upd H D o):=(srf H).upd hD
theorem Same.tup {K:Yab}{H H':Hp}{a:Addr}{xs:List V} (e:Same H H') (h:SqT K H a xs):SqT K H' a xs:=by
 rcases h with (h | ⟨o,h⟩) | h
 ·exact .inl (.inl (e _ _ h))
 ·exact .inl (.inr ⟨o,e _ _ h⟩)
 ·exact .inr h
theorem Zcn {J:It}{n:Nat}{σ0:St}{H1:Hp}{D:Addr}{tc:TT}{te:TE}{Q:VK} (Pv:Nat->List V->Hp->Prop) (h0:Pv 0 [] (upd H1 D (.lst [])))
  (hl:∀ i ys H',i<=n->Pv i ys H'->H' D=some (.lst ys)) (hgo:∀ i ys H',i<n->Pv i ys H'->J.go i H') (hst:∀ ys H',Pv n ys H'->J.stop n H')
  (step:∀ i ys H' x H2,i<n->Pv i ys H'->J.yld i H' x H2->tc (σ0.set 0 (some x)) H2 λb H4=>if b=true then te (σ0.set 0 (some x)) H4 λy H5=>H5 D=some (.lst ys)/\ys.length<sizeLine/\Pv (i+1) (ys ++ [y]) (upd H5 D (.lst (ys ++ [y]))) else Pv (i+1) ys H4)
  (fin:∀ ys H',Pv n ys H'->Q (.ref D) H') :
  ∃ W:Nat->Nat->List V->St->Hp->Prop,(∃ m,W 0 m [] σ0 (upd H1 D (.lst []))) /\
   ∀ i m ys σ' H',W i m ys σ' H'->H' D=some (.lst ys)/\((J.stop i H'/\Q (.ref D) H')\/(J.go i H'/\∀ x H2,J.yld i H' x H2->Za1 0 x σ' H2 λσ2 H3=>tc σ2 H3 λb H4 =>
    if b=true then te σ2 H4 λy H5=>H5 D=some (.lst ys)/\ys.length<sizeLine/\∃ m',m'<m/\W (i+1) m' (ys ++ [y]) σ2 (upd H5 D (.lst (ys ++ [y])))
    else ∃ m',m'<m/\W (i+1) m' ys σ2 H4)):=by
 refine ⟨λi m ys σ' H'=>m=n - i/\i<=n/\(∀ x,σ'.set 0 x = σ0.set 0 x)/\Pv i ys H',⟨n,by simp,YaH _,λ_=>rfl,h0⟩,?_⟩;rintro i m ys σ' H' ⟨rfl,hi,es,p⟩;refine ⟨hl i ys H' hi p,?_⟩
 by_cases hlt:i<n
 ·refine .inr ⟨hgo i ys H' hlt p,λx H2 y=>?_⟩;have st:=step i ys H' x H2 hlt p y;show tc (σ'.set 0 (some x)) H2 _;rw [es];have e1:∀ z,(σ0.set 0 (some x)).set 0 z = σ0.set 0 z:=λz=>by rw [List.set_set]
  have e2:∀ ys' H5,(∃ m',m'<n - i/\m'=n - (i+1)/\i+1<=n/\(∀ z,(σ0.set 0 (some x)).set 0 z = σ0.set 0 z)/\Pv (i+1) ys' H5) ↔ Pv (i+1) ys' H5:=λys' H5 =>
   ⟨λ⟨_,_,_,_,_,q⟩=>q,λq=>⟨n - (i+1),by omega,rfl,hlt,e1,q⟩⟩
  simp only [e2];exact st
 ·have e:i=n:=by omega
  subst e;exact .inl ⟨hst ys H' p,fin ys H' p⟩
theorem Zbl {α:Type}{K:Yab}{a:Addr}{ms:List α}{σ0:St}{H1:Hp}{tc:TT}{te:TE}{Q:VK} (u:α->V) (p:α->Bool) (f:α->V) (hq:SqL K H1 a (ms.map u)) (hn:ms.length<=sizeLine)
  (ht:∀ x∈ms,PuT tc (σ0.set 0 (some (u x))) H1 (p x)) (he:∀ x∈ms,p x=true->Pu te (σ0.set 0 (some (u x))) H1 (f x))
  (fin:∀ D H',H1 D=none->Same H1 H'->H' D=some (.lst ((ms.filter p).map f))->Q (.ref D) H') :
  ZaQ (Itl K a) (Za1 0) tc te σ0 H1 Q:=by
 intro D hD;refine Zcn (n:=ms.length) (λi ys H'=>Same H1 H'/\H' D=some (.lst ys)/\ys=((ms.take i).filter p).map f) ⟨snw hD,Zac,by simp⟩ (λi ys H' _ q=>q.2.1) (λi ys H' hi q=>⟨ms.map u,u ms[i],q.1.seq hq,by simp [hi]⟩)
  (λys H' q=>⟨ms.map u,q.1.seq hq,by simp⟩) ?_ (λys H' q=>?_)
 ·rintro i ys H' x H2 hi ⟨sm,hDl,hys⟩ ⟨rfl,hy⟩;have hx:(ms.map u)[i]? = some x:=hy _ (sm.seq hq);obtain ⟨z,hz,rfl⟩:∃ z,ms[i]? = some z/\u z=x:=by
   rw [Yaf] at hx;cases e:ms[i]? with
   |none=>rw [e] at hx;cases hx
   |some z=>rw [e] at hx;exact ⟨z,rfl,Yae hx⟩
  have hm:z∈ms:=YaP hz;have tk:ms.take (i+1)=ms.take i ++ [z]:=by
   rw [List.take_add_one,hz];simp only [Option.toList]
  have hlen:ys.length<=i:=by
   rw [hys,Yaa];exact Yay (Ybm _ _) (by rw [YaR];omega)
  refine ht z hm _ _ sm λH4 s4=>?_;cases hp:p z with
  |true =>
   refine iteT ?_;refine he z hm hp _ _ (sm.trans s4) λH5 s5=>⟨s5 _ _ (s4 _ _ hDl),by omega,((sm.trans s4).trans s5).upd hD,Zac,?_⟩;rw [tk,List.filter_append,Yah,<- hys];simp [hp]
  |false =>
   refine iteF ⟨sm.trans s4,s4 _ _ hDl,?_⟩;rw [tk,List.filter_append,Yah,<- hys];simp [hp]
 ·obtain ⟨sm,hDl,hys⟩:=q;rw [List.take_length] at hys;exact fin D H' hD sm (by rw [<- hys];exact hDl)
theorem Zba {α:Type}{K:Yab}{a:Addr}{ms:List α}{σ0:St}{H1:Hp}{te:TE}{Q:VK} (u:α->V) (f:α->V) (hq:SqL K H1 a (ms.map u)) (hn:ms.length<=sizeLine)
  (he:∀ x∈ms,Pu te (σ0.set 0 (some (u x))) H1 (f x))
  (fin:∀ D H',H1 D=none->Same H1 H'->H' D=some (.lst (ms.map f))->Q (.ref D) H') :
  ZaQ (Itl K a) (Za1 0) Zbu te σ0 H1 Q :=
 Zbl u (λ_=>true) f hq hn (λ_ _=>Zh9) (λx hx _=>he x hx) λD H' hD sm e=>fin D H' hD sm (by rw [List.filter_eq_self.mpr (λ_ _=>rfl)] at e;exact e)
theorem ZeZ {lo:Int}{n:Nat}{σ0:St}{H1:Hp}{te:TE}{Q:VK} (f:Nat->V) (hn:n<=sizeLine)
  (he:∀ i,i<n->Pu te (σ0.set 0 (some (.int (lo+i)))) H1 (f i))
  (fin:∀ D H',H1 D=none->Same H1 H'->H' D=some (.lst ((List.range n).map f))->Q (.ref D) H') :
  ZaQ (Itr lo n) (Za1 0) Zbu te σ0 H1 Q:=by
 intro D hD;refine Zcn (n:=n) (λi ys H'=>Same H1 H'/\H' D=some (.lst ys)/\ys=(List.range i).map f) ⟨snw hD,Zac,by simp⟩ (λi ys H' _ q=>q.2.1) (λi ys H' hi q=>hi)
  (λys H' q=>Yag _) ?_ (λys H' q=>?_)
 ·rintro i ys H' x H2 hi ⟨sm,hDl,hys⟩ ⟨rfl,rfl⟩;unfold Zbu;refine iteT ?_;refine he i hi _ _ sm λH5 s5=>⟨s5 _ _ hDl,?_,(sm.trans s5).upd hD,Zac,?_⟩
  ·rw [hys,Yaa,List.length_range];omega
  ·rw [List.range_succ,Yah,<- hys];simp
 ·obtain ⟨sm,hDl,hys⟩:=q;exact fin D H' hD sm (by rw [<- hys];exact hDl)
def Zah (K:Yab) (mg:Str->Option Value) (x:Str) (st:Stmt) (ps:List Str):Prop:=∃ f fd,Fun K x x st f fd/\mg x=some (.ref f)/\Binds K fd ps []
def FnAt (P:Program) (w:World) (K:Yab) (mg:Str->Option Value) (base:Heap) (k:Nat) (x:Str) (ps:List Str) (sp:Sp):Prop :=
 ∃ f fd,FnOk P w K mg base CX0 k f fd ps sp/\mg x=some (.ref f)/\PySem.W.keepIn K (.ref f)=true/\Binds K fd ps []
theorem fao {P:Program}{w:World}{K:Yab}{mg:Str->Option Value}{base:Heap}{k:Nat}{x:Str}{st:Stmt}{N ps:List Str}{sp:Sp} (D:Zah K mg x st ps) (S:FnScope N ps (Zad st)) (len:∀ vs H Q E,sp vs H Q E->vs.length=ps.length)
  (hbody:∀ (f:Addr) (cdv:Value) (A:Around) (outer:List Env) (s:Shared) (H:Hp) (vs:List V) (Q:VK) (E:XK),Room k (A.deeper (envOfC x (Zad st) s.heap.objs.size f cdv))->sp vs H Q E ->
   ∃ t,PSs (cxOf CX0 P w K mg base N x (Zad st) f cdv A outer s H E).nox (Zbr st) t/\t { nx:=λ_ H'=>Q .non H',rt:=Q } (Zdx N vs) H):FnAt P w K mg base (k+1) x ps sp:=by
 obtain ⟨f,fd,F,hm,hb⟩:=D;exact ⟨f,fd,F.ok S len λcdv A outer s H vs Q E hr h=>hbody f cdv A outer s H vs Q E hr h,hm,F.kp,hb⟩
def tF (sp:Sp) (t:TA):TE:=λσ H Q=>t σ H λvs H1=>sp vs H1 Q E0
section
variable {X:Cx}{k:Nat}{x:Str}{ps:List Str}{sp:Sp}{e:Expr}{es:List Expr}{t:TA}{p pos:Pos}
theorem pe_f (F:FnAt X.prog X.w X.K X.mg X.base k x ps sp) (hr:Room k X.A) (ha:PA X (e :: es) t) (hg:Gl X x:=by rfl) (hdb:(x == ("__debug__" : Str))=false:=by decide)
  (he:starEach (e :: es) X.env=(false,eval e X.env) :: starEach es X.env:=by rfl) (hpl:(backTo pos (starEach es X.env)).any (·.1)=false:=by rfl):PE X (.Call (.Name x p) (e :: es) [] pos) (tF sp t):=by
 obtain ⟨f,fd,F,hm,hk,hb⟩:=F;have q:=ZoP (p:=p) (pos:=pos) F hr hg hm hk hb .nil (ZmI (X:=X)) ha hdb he hpl;have e:Zor sp [] E0 t=tF sp t:=by
  unfold Zor tF;simp only [List.append_nil]
 rw [e] at q;exact q
theorem pe_b {id:String}{r:List V->Hp->VK->Prop} (hc:Zcc X (.builtin id) r) (hm:X.mg x=none) (hv:bootBuiltins x=some (.builtin id)) (ha:PA X (e :: es) t) (hg:Gl X x:=by rfl) (hn:x ≠ "__name__" := by decide) (hdb:(x == ("__debug__" : Str))=false:=by decide)
  (he:starEach (e :: es) X.env=(false,eval e X.env) :: starEach es X.env:=by rfl) (hpl:(backTo pos (starEach es X.env)).any (·.1)=false:=by rfl):PE X (.Call (.Name x p) (e :: es) [] pos) (tCB r t):=ZmH hc hg hm hv ha hn hdb he hpl
theorem pe_t {T:String}{r:List V->Hp->VK->Prop} (hc:Zcc X (.type T) r) (hm:X.mg x=none) (hv:bootBuiltins x=some (.type T)) (ha:PA X (e :: es) t) (hg:Gl X x:=by rfl) (hn:x ≠ "__name__" := by decide) (hdb:(x == ("__debug__" : Str))=false:=by decide)
  (he:starEach (e :: es) X.env=(false,eval e X.env) :: starEach es X.env:=by rfl) (hpl:(backTo pos (starEach es X.env)).any (·.1)=false:=by rfl):PE X (.Call (.Name x p) (e :: es) [] pos) (tCB r t):=Zkm hc hg hm hv ha hn hdb he hpl
theorem Zd7 {T:String}{pos:Pos} (hm:X.mg x=none) (hv:bootBuiltins x=some (.type T)) (hg:Gl X x:=by rfl) (hn:x ≠ "__name__" := by decide) (hd:(x == ("__debug__" : Str))=false:=by decide):PE X (.Name x pos) (tC (.ty T)) :=
 ZoQ hg hm hv rfl hn hd
theorem pg_c {N':List Str}{scope:Scope}{cl:List (Str × Addr)}{C:Addr}{s2:Shared}{H2:Hp}{ex:List Addr} (i:Nat) {y:Str} (nd:N'.Nodup) (hi:N'[i]? = some y:=by rfl) (hx:(relabel scope X.env).names.lookup y=some .local:=by rfl) :
  PG (X.comp N' scope cl C s2 H2 ex) (.Name y pos) (Za1 i):=Zax (X:=X.comp N' scope cl C s2 H2 ex) nd hi (.inl hx) (.inr hx)
end
section
variable {X:Cx}
theorem ixL (K:Yab) (hK:X.K=K:=by rfl):IxR X (rIxL K):=by subst hK;exact Zaj
theorem ixT (K:Yab) (hK:X.K=K:=by rfl):IxR X (rIxT K):=by subst hK;exact ZaJ
theorem lenK (K:Yab) (hK:X.K=K:=by rfl):Zcc X (.builtin "len") (λxs H Q=>RLen K xs H Q):=by subst hK;exact Zdw
theorem Zpd (K:Yab) (hK:X.K=K:=by rfl):Zcc X (.type "list") (λxs H Q=>∃ p ys,xs=[.ref p]/\(SqL K H p ys\/SqT K H p ys)/\∀ l,H l=none->Q (.ref l) (upd H l (.lst ys))):=by subst hK;exact Zbm
end
theorem Zqx (K:Yab):PySem.W.kitOne K (.type "int") (.type "int")=some true:=by kernel_rfl
theorem Zqy (K:Yab):PySem.W.kitOne K (.type "int") (.type "bool")=some false:=by kernel_rfl
theorem ZkW (K:Yab):PySem.W.kitOne K (.type "list") (.type "list")=some true:=by kernel_rfl
theorem Zn8 (K:Yab):PySem.W.kitOne K (.type "tuple") (.type "tuple")=some true:=by kernel_rfl
end L2
namespace L2
open PySem PySem.Spec PyProof.Rows
section
variable {X:Cx}
inductive RAddI (x y:V) (H:Hp) (Q:VK):Prop
 |mk (i j:Int) (h1:x=.int i) (h2:y=.int j) (q:Q (.int (i+j)) H):RAddI x y H Q
def Zrg:R2:=λx y H Q=>RAddI x y H Q
inductive RSubI (x y:V) (H:Hp) (Q:VK):Prop
 |mk (i j:Int) (h1:x=.int i) (h2:y=.int j) (q:Q (.int (i - j)) H):RSubI x y H Q
def Zq8:R2:=λx y H Q=>RSubI x y H Q
inductive RMulI (x y:V) (H:Hp) (Q:VK):Prop
 |mk (i j:Int) (h1:x=.int i) (h2:y=.int j) (c:CMul i j) (q:Q (.int (i * j)) H):RMulI x y H Q
def Zrc:R2:=λx y H Q=>RMulI x y H Q
inductive RModI (x y:V) (H:Hp) (Q:VK):Prop
 |mk (i j:Int) (h1:x=.int i) (h2:y=.int j) (c:0<j) (q:Q (.int (i % j)) H):RModI x y H Q
def Zrd:R2:=λx y H Q=>RModI x y H Q
inductive RDivI (x y:V) (H:Hp) (Q:VK):Prop
 |mk (i j:Int) (h1:x=.int i) (h2:y=.int j) (c:CDiv i j) (q:Q (.int (i / j)) H):RDivI x y H Q
def Zre:R2:=λx y H Q=>RDivI x y H Q
def Zra:R2:=λx y H Q=>∃ i j:Int,x=.int i/\y=.int j/\CPow i j/\Q (.int (i ^ j.toNat)) H
inductive RLtI (x y:V) (H:Hp) (Q:VK):Prop
 |mk (i j:Int) (h1:x=.int i) (h2:y=.int j) (q:Q (.bl (decide (i<j))) H):RLtI x y H Q
def rLtI:R2:=λx y H Q=>RLtI x y H Q
inductive RLeI (x y:V) (H:Hp) (Q:VK):Prop
 |mk (i j:Int) (h1:x=.int i) (h2:y=.int j) (q:Q (.bl (decide (i<=j))) H):RLeI x y H Q
def rLeI:R2:=λx y H Q=>RLeI x y H Q
inductive RGtI (x y:V) (H:Hp) (Q:VK):Prop
 |mk (i j:Int) (h1:x=.int i) (h2:y=.int j) (q:Q (.bl (decide (j<i))) H):RGtI x y H Q
def rGtI:R2:=λx y H Q=>RGtI x y H Q
inductive RGeI (x y:V) (H:Hp) (Q:VK):Prop
 |mk (i j:Int) (h1:x=.int i) (h2:y=.int j) (q:Q (.bl (decide (j<=i))) H):RGeI x y H Q
def rGeI:R2:=λx y H Q=>RGeI x y H Q
def Zrb:V->Hp->VK->Prop:=λx H Q=>∃ i:Int,x=.int i/\Q (.int (-i)) H
theorem Zby:OpR X (binaryOp .Add) Zrg:=λp s σ H x y v u Q I d e ⟨i,j,a,b,q⟩=>Zqe p s σ H x y v u Q I d e ⟨i,j,a,b,q⟩
theorem Zb4:OpR X (binaryOp .Sub) Zq8:=λp s σ H x y v u Q I d e ⟨i,j,a,b,q⟩=>Zn2 p s σ H x y v u Q I d e ⟨i,j,a,b,q⟩
theorem Zdz:OpR X (binaryOp .Mult) Zrc:=λp s σ H x y v u Q I d e ⟨i,j,a,b,c,q⟩=>Zqb p s σ H x y v u Q I d e ⟨i,j,a,b,c,q⟩
theorem ZbA:OpR X (binaryOp .Mod) Zrd:=λp s σ H x y v u Q I d e ⟨i,j,a,b,c,q⟩=>Zqc p s σ H x y v u Q I d e ⟨i,j,a,b,c,q⟩
theorem Zhw:OpR X (binaryOp .FloorDiv) Zre:=λp s σ H x y v u Q I d e ⟨i,j,a,b,c,q⟩=>ZoT p s σ H x y v u Q I d e ⟨i,j,a,b,c,q⟩
theorem Zqm:OpR X (binaryOp .Pow) Zra:=Zqa
theorem o_lt:OpR X (compareOp .Lt) rLtI:=λp s σ H x y v u Q I d e ⟨i,j,a,b,q⟩=>Zqd p s σ H x y v u Q I d e ⟨i,j,a,b,q⟩
theorem o_le:OpR X (compareOp .LtE) rLeI:=λp s σ H x y v u Q I d e ⟨i,j,a,b,q⟩=>Zea p s σ H x y v u Q I d e ⟨i,j,a,b,q⟩
theorem o_gt:OpR X (compareOp .Gt) rGtI:=λp s σ H x y v u Q I d e ⟨i,j,a,b,q⟩=>Zrl p s σ H x y v u Q I d e ⟨i,j,a,b,q⟩
theorem o_ge:OpR X (compareOp .GtE) rGeI:=λp s σ H x y v u Q I d e ⟨i,j,a,b,q⟩=>Zrm p s σ H x y v u Q I d e ⟨i,j,a,b,q⟩
theorem Zfs:UnR X (unaryOp .USub) Zrb:=ZpG
end
end L2
namespace L2
open PySem PySem.Spec PyProof.Rows
theorem Inv.turnedL {X:Cx}{pins:List (Addr × Obj)}{σ:St}{H:Hp}{s:Shared}{h':Heap}{t':Nat}{fp:List Addr} (I:Inv X pins σ H s) (hf:∀ b∈fp,FpOk X pins H b)
  (k:∀ b o,b∉fp->s.heap.get? b=some o->h'.get? b=some o):Inv X pins σ H { s with heap:=h',toks:=t' }:=by
 have nfp:∀ b o,H b=some o->b∉fp:=λb o q hb=>by have:=(hf b hb).1;rw [q] at this;cases this
 refine I.step (g':=s.gens) (d':=s.drawn) (ch:=fp) (λb hb=>?_) (λb o _ _ hc q _=>k b o hc q) (λb o _ _ hc q _=>⟨o.slots,k b o hc q⟩) (λb o _ _ n=>n)
  (λb o hc q=>⟨o,k b o hc q⟩) (λb ys q=>q) (λb o u q=>q) (λb ps q=>⟨#[],by rw [q];simp⟩) (λm hm=>?_) (λb u q=>?_) I.bare
 ·obtain ⟨_,f1,_,f3,f4,f5⟩:=hf b hb;exact ⟨f3,f1,f4,f5⟩
 ·obtain ⟨o,es,ep,ho,r⟩:=hm;exact ⟨o,es,ep,k _ o (λz=>(hf _ z).2.1 rfl) ho,r⟩
 ·refine (I.hok b u q).stay (λc v hc w=>k c v ?_ w) (λc w=>w) λc ys w=>w;rcases hc with rfl | hc
  ·exact nfp _ _ q
  ·exact nfp _ _ hc
theorem Inv.sq_ne {X:Cx}{pins:List (Addr × Obj)}{σ:St}{H:Hp}{s:Shared}{a b:Addr}{xs:List V} (I:Inv X pins σ H s) (h:SqL X.K H a xs) (f:FpOk X pins H b):a≠b:=by
 rintro rfl;rcases h with (h | ⟨o,h⟩) | ⟨o,its,n,hk,_⟩
 ·rw [f.1] at h;cases h
 ·rw [f.1] at h;cases h
 ·have hb:X.base.get? a=some o:=I.ok.mod.kin a o hk;rcases f.2.2.2.1 with z | z
  ·exact I.ok.noex a o hb z
  ·exact absurd (Yan (Yal (I.ok.bs a o hb).1) z) (Ybq _)
def Itz (K:Yab) (a c:Addr):It :=
 ⟨λi H=>∃ xs ys x y,SqL K H a xs/\SqL K H c ys/\xs[i]? = some x/\ys[i]? = some y,
  λi H v H'=>∃ T x y,v=.ref T/\H T=none/\H'=upd H T (.tup [x,y])/\(∀ xs,SqL K H a xs->xs[i]? = some x)/\∀ ys,SqL K H c ys->ys[i]? = some y,
  λi H=>∃ xs ys,SqL K H a xs/\SqL K H c ys/\(xs.length<=i\/ys.length<=i)⟩
structure ZipAt (h:Heap) (z TI TO i1 i2 l1 l2:Addr) (i:Nat):Prop where
 hz:IsZip h z TI TO .none
 hTI:IsPair h TI (.ref i1) (.ref i2)
 hTO:∃ a b,IsPair h TO a b
 h1:h.IsListIter i1 l1 i
 h2:h.IsListIter i2 l2 i
 nd:[z,TI,TO,i1,i2].Nodup
theorem Zl8 {P:Program}{w:World}{K:Yab}{es:List Expr}{k1}{ps:Pos} (a c z TI TO i1 i2:Addr):Turn P w K (.Tuple es k1 ps) (Itz K a c) [z,TI,TO,i1,i2] z (λi h=>ZipAt h z TI TO i1 i2 a c i) where
 mem:=by simp
 obj:=λi h st b hb=>by
  simp only [YaF,Yax,or_false] at hb;rcases hb with rfl | rfl | rfl | rfl | rfl
  ·exact ⟨_,st.hz,λv q=>by have q':Data.fields _=Data.cell v:=q;cases q'⟩
  ·exact ⟨_,st.hTI,λv q=>by have q':Data.seq _ _=Data.cell v:=q;cases q'⟩
  ·obtain ⟨x,y,e⟩:=st.hTO;exact ⟨_,e,λv q=>by have q':Data.seq _ _=Data.cell v:=q;cases q'⟩
  ·obtain ⟨o,e,_,d⟩:=st.h1;exact ⟨o,e,λv q=>by rw [d] at q;cases q⟩
  ·obtain ⟨o,e,_,d⟩:=st.h2;exact ⟨o,e,λv q=>by rw [d] at q;cases q⟩
 keep:=λi h h' st k=>⟨k z (by simp) _ st.hz,k TI (by simp) _ st.hTI,let ⟨x,y,e⟩:=st.hTO;⟨x,y,k TO (by simp) _ e⟩,st.h1.at λo q=>k i1 (by simp) o q,st.h2.at λo q=>k i2 (by simp) o q,st.nd⟩
 item:=by
  intro X hP hw hK hc i pins s σ H E I hf st hg;subst hP hw hK;obtain ⟨xs,ys,x,y,hq,hq2,hx,hy⟩:=hg;obtain ⟨its,rv,p,_⟩:=I.list hq;obtain ⟨its2,rv2,p2,_⟩:=I.list hq2;obtain ⟨u,hu,ru⟩:=rv.get hx;obtain ⟨u2,hu2,ru2⟩:=rv2.get hy;obtain ⟨ta,tb,hTO⟩:=st.hTO;have nd:=st.nd;simp only [Yba,YaF,Yax,or_false,not_or,List.nodup_nil,and_true,not_false_eq_true] at nd;obtain ⟨⟨n1,n2,n3,n4⟩,⟨n5,n6,n7⟩,⟨n8,n9⟩,n10⟩:=nd;have Dz:ZipApart z TI TO i1 i2 a c:=⟨Ne.symm n1,Ne.symm n2,Ne.symm n3,Ne.symm n4,n5,n6,n7,n8,n9,n10,I.sq_ne hq (hf z (by simp)),I.sq_ne hq (hf TO (by simp)),I.sq_ne hq (hf i1 (by simp)),I.sq_ne hq (hf i2 (by simp)),
   I.sq_ne hq2 (hf z (by simp)),I.sq_ne hq2 (hf TO (by simp)),I.sq_ne hq2 (hf i1 (by simp)),I.sq_ne hq2 (hf i2 (by simp))⟩
  refine wpAny_pyNext_zip_item Dz st.hz st.hTI hTO st.h1 st.h2 p.isList p2.isList (x:=u) (y:=u2) (by simpa using hu) (by simpa using hu2) λh' z1 z2 z3 z4 z5 z6 z7=>?_;refine ⟨_,rfl,wpAny_letOwnedTupleGo_zip z1 λh2 hz2 hs2=>?_⟩;have hs2':Heap.SameBut z h' h2:=hs2;have zlt:z≠s.heap.objs.size:=Yap (Yal st.hz);have fresh:∀ b∈[z,TI,TO,i1,i2],b≠s.heap.objs.size:=λb hb=>by
   simp only [YaF,Yax,or_false] at hb;rcases hb with rfl | rfl | rfl | rfl | rfl
   ·exact zlt
   ·exact Yap (Yal st.hTI)
   ·exact Yap (Yal hTO)
   ·obtain ⟨o,e,_⟩:=st.h1;exact Yap (Yal e)
   ·obtain ⟨o,e,_⟩:=st.h2;exact Yap (Yal e)
  have hT2:IsPair h2 s.heap.objs.size u u2:=(hs2'.2 _ (Ne.symm zlt)).trans z5;have st2:ZipAt h2 z TI TO i1 i2 a c (i+1):=⟨hz2,(hs2'.2 TI (Ne.symm n1)).trans (z7 TI _ (Ne.symm n1) n5 n6 n7 st.hTI),⟨_,_,(hs2'.2 TO (Ne.symm n2)).trans z2⟩,z3.at λo q=>(hs2'.2 i1 (Ne.symm n3)).trans q,z4.at λo q=>(hs2'.2 i2 (Ne.symm n4)).trans q,st.nd⟩;have hfr:H s.heap.objs.size=none:=I.hok.fresh (Yag _);have I2:Inv X pins σ (upd H s.heap.objs.size (.tup [x,y])) { s with heap:=h2,toks:=s.toks }:=by
   refine I.tupNew (its:=[u,u2]) hf (Yag _) (λb o hb q=>?_) (by show 2<=sizeLine;decide) (.cons ru (.cons ru2 .nil)) hT2 (λb hb=>?_)
   ·simp only [YaF,Yax,or_false,not_or] at hb;exact (hs2'.2 b hb.1).trans (z7 b o hb.1 hb.2.2.1 hb.2.2.2.1 hb.2.2.2.2 q)
   ·simp only [YaF,Yax,or_false] at hb;rcases hb with rfl | rfl | rfl | rfl | rfl
    ·exact ⟨_,st2.hz⟩
    ·exact ⟨_,st2.hTI⟩
    ·obtain ⟨_,_,e⟩:=st2.hTO;exact ⟨_,e⟩
    ·obtain ⟨o,e,_⟩:=st2.h1;exact ⟨_,e⟩
    ·obtain ⟨o,e,_⟩:=st2.h2;exact ⟨_,e⟩
  refine ⟨.ref s.heap.objs.size,_,I2,rfl,⟨_,x,y,rfl,hfr,rfl,λzs hz=>by rw [I.list_inj hz hq];exact hx,λzs hz=>by rw [I.list_inj hz hq2];exact hy⟩,st2,λb hb=>?_⟩;rw [Zag (fresh b hb)];exact (hf b hb).1
 done:=by
  intro X hP hw hK hc i pins s σ H E I hf st hg;subst hP hw hK;obtain ⟨xs,ys,hq,hq2,hend⟩:=hg;obtain ⟨its,rv,p,_⟩:=I.list hq;obtain ⟨its2,rv2,p2,_⟩:=I.list hq2;obtain ⟨ta,tb,hTO⟩:=st.hTO;have nd:=st.nd;simp only [Yba,YaF,Yax,or_false,not_or,List.nodup_nil,and_true,not_false_eq_true] at nd;obtain ⟨⟨n1,n2,n3,n4⟩,⟨n5,n6,n7⟩,⟨n8,n9⟩,n10⟩:=nd;have Dz:ZipApart z TI TO i1 i2 a c:=⟨Ne.symm n1,Ne.symm n2,Ne.symm n3,Ne.symm n4,n5,n6,n7,n8,n9,n10,I.sq_ne hq (hf z (by simp)),I.sq_ne hq (hf TO (by simp)),I.sq_ne hq (hf i1 (by simp)),I.sq_ne hq (hf i2 (by simp)),
   I.sq_ne hq2 (hf z (by simp)),I.sq_ne hq2 (hf TO (by simp)),I.sq_ne hq2 (hf i1 (by simp)),I.sq_ne hq2 (hf i2 (by simp))⟩
  have l1:=rv.length;have l2:=rv2.length;refine wpAny_pyNext_zip_end (I.ok.hd hc) Dz st.hz st.hTI hTO st.h1 st.h2 p.isList p2.isList (hend.elim (λq=>.inl (by simp;omega)) λq=>.inr (by simp;omega)) λh' k=>⟨rfl,I.turnedL (t':=s.toks) hf λb o hb q=>?_⟩;simp only [YaF,Yax,or_false,not_or] at hb;exact k b o hb.1 hb.2.2.1 hb.2.2.2.1 hb.2.2.2.2 q
 self:=λ_ _ _ _ _ st h=>wpAny_pyIter_zip st.hz h
def iZip (K:Yab) (ta:TA):TI:=λσ H R=>ta σ H λvs H1=>∃ a c,vs=[.ref a,.ref c]/\(∃ xs,SqL K H1 a xs)/\(∃ ys,SqL K H1 c ys)/\R (Itz K a c) H1
theorem ZnZ {X:Cx}{a b:Expr}{ta:TA}{es:List Expr}{k1}{ps p pos:Pos} (hg:Gl X "zip") (hm:X.mg "zip" = none) (ha:PA X [a,b] ta) (hs:starEach [a,b] X.env=[(false,eval a X.env),(false,eval b X.env)]:=by rfl) (hs2:starEach [b] X.env=[(false,eval b X.env)]:=by rfl) :
  PI X (.Tuple es k1 ps) (.Call (.Name "zip" p) [a,b] [] pos) (iZip X.K ta):=by
 intro pins s σ H R I h;refine Call_ (Zcd I hg hm boot_zip (PyProof.Rows.callWith_type1 (thn (ha pos pins s σ H _ I h) λus s1 ⟨vs,H1,I1,r1,q1⟩=>?_) (by rw [hs,hs2]) (by rw [hs2];rfl)));obtain ⟨a,c,e,⟨xs,hq⟩,⟨ys,hq2⟩,q⟩:=q1;subst e;obtain ⟨u,v,rfl,ru,rv⟩:=r1.two;cases ru;cases rv;obtain ⟨its,_,pl,_⟩:=I1.list hq;obtain ⟨its2,_,pl2,_⟩:=I1.list hq2;refine call_zip_2 pl.isList pl2.isList λh' z1 z2 z3 z4 z5 z6 z7=>wpAny_pyIter_zip z1 ?_;have I2:Inv X pins σ H1 { s1 with heap:=h' }:=I1.kept (t':=s1.toks) z7;refine ⟨s1.heap.objs.size+4,[s1.heap.objs.size+4,s1.heap.objs.size+2,s1.heap.objs.size+3,s1.heap.objs.size,s1.heap.objs.size+1],_,_,H1,rfl,I2,Zl8 a c _ _ _ _ _,⟨z1,z2,⟨_,_,z3⟩,z4,z5,?_⟩,λb hb=>?_,q⟩
 ·generalize s1.heap.objs.size=n;show List.Nodup ([n+4,n+2,n+3,n,n+1]:List Nat);simp
 ·have hb':s1.heap.objs.size<=b:=by
   simp only [YaF,Yax,or_false] at hb;rcases hb with rfl | rfl | rfl | rfl | rfl
   ·exact Nat.le_add_right _ _
   ·exact Nat.le_add_right _ _
   ·exact Nat.le_add_right _ _
   ·exact Yag _
   ·exact Nat.le_add_right _ _
  exact I1.fpOk hb' (I1.hok.fresh hb')
theorem set2 {σ:St}{a b u v:Option V}:((((σ.set 0 a).set 1 b).set 0 u).set 1 v)=(σ.set 0 u).set 1 v:=by
 rw [List.set_comm b u (by decide:(1:Nat)≠0),List.set_set,List.set_set]
theorem ZnE {K:Yab}{a:Addr}{xs:List V}{σ0:St}{H1:Hp}{D:Addr}{tc:TT}{te:TE}{Q:VK} (Pv:Nat->List V->Hp->Prop) (h0:Pv 0 [] (upd H1 D (.lst [])))
  (hl:∀ i ys H',i<=xs.length->Pv i ys H'->H' D=some (.lst ys)/\SqL K H' a xs)
  (step:∀ i x ys H' T,xs[i]? = some x->Pv i ys H'->H' T=none->tc ((σ0.set 0 (some (.int (i:Nat)))).set 1 (some x)) (upd H' T (.tup [.int (i:Nat),x])) λb H4 =>
   if b=true then te ((σ0.set 0 (some (.int (i:Nat)))).set 1 (some x)) H4 λy H5=>H5 D=some (.lst ys)/\ys.length<sizeLine/\Pv (i+1) (ys ++ [y]) (upd H5 D (.lst (ys ++ [y]))) else Pv (i+1) ys H4)
  (fin:∀ ys H',Pv xs.length ys H'->Q (.ref D) H') :
  ∃ W:Nat->Nat->List V->St->Hp->Prop,(∃ m,W 0 m [] σ0 (upd H1 D (.lst []))) /\
   ∀ i m ys σ' H',W i m ys σ' H'->H' D=some (.lst ys)/\(((Ite K a).stop i H'/\Q (.ref D) H')\/((Ite K a).go i H'/\∀ x H2,(Ite K a).yld i H' x H2->gTup K 2 (Zb7 (Za1 0) (Zb7 (Za1 1) gNil)) x σ' H2 λσ2 H3=>tc σ2 H3 λb H4 =>
    if b=true then te σ2 H4 λy H5=>H5 D=some (.lst ys)/\ys.length<sizeLine/\∃ m',m'<m/\W (i+1) m' (ys ++ [y]) σ2 (upd H5 D (.lst (ys ++ [y])))
    else ∃ m',m'<m/\W (i+1) m' ys σ2 H4)):=by
 refine ⟨λi m ys σ' H'=>m=xs.length - i/\i<=xs.length/\(∀ u v,(σ'.set 0 u).set 1 v=(σ0.set 0 u).set 1 v)/\Pv i ys H',⟨xs.length,by simp,YaH _,λ_ _=>rfl,h0⟩,?_⟩;rintro i m ys σ' H' ⟨rfl,hi,es,p⟩;obtain ⟨hD,hq⟩:=hl i ys H' hi p;refine ⟨hD,?_⟩
 by_cases hlt:i<xs.length
 ·refine .inr ⟨⟨xs,xs[i],hq,by simp [hlt]⟩,λx H2 y=>?_⟩;obtain ⟨T,z,rfl,hT,rfl,y⟩:=y;have st:=step i z ys H' T (y xs hq) p hT;refine ⟨T,_,rfl,sqt Zac,rfl,_,_,rfl,_,_,rfl,rfl,?_⟩;rw [es];have e2:∀ ys' H5,(∃ m',m'<xs.length - i/\m'=xs.length - (i+1)/\i+1<=xs.length/\(∀ u v,((((σ0.set 0 (some (.int (i:Nat)))).set 1 (some z)).set 0 u).set 1 v)=(σ0.set 0 u).set 1 v)/\Pv (i+1) ys' H5) ↔ Pv (i+1) ys' H5:=λys' H5 =>
   ⟨λ⟨_,_,_,_,_,q⟩=>q,λq=>⟨xs.length - (i+1),by omega,rfl,hlt,λ_ _=>set2,q⟩⟩
  simp only [e2];exact st
 ·have e:i=xs.length:=by omega
  subst e;exact .inl ⟨⟨xs,hq,Yag _⟩,fin ys H' p⟩
theorem Zex {K:Yab}{a:Addr}{xs:List V}{σ0:St}{H1:Hp}{tc:TT}{te:TE}{Q:VK} (Pv:Addr->Nat->List V->Hp->Prop) (h0:∀ D,H1 D=none->Pv D 0 [] (upd H1 D (.lst [])))
  (hl:∀ D i ys H',H1 D=none->i<=xs.length->Pv D i ys H'->H' D=some (.lst ys)/\SqL K H' a xs)
  (step:∀ D i x ys H' T,H1 D=none->xs[i]? = some x->Pv D i ys H'->H' T=none->tc ((σ0.set 0 (some (.int (i:Nat)))).set 1 (some x)) (upd H' T (.tup [.int (i:Nat),x])) λb H4 =>
   if b=true then te ((σ0.set 0 (some (.int (i:Nat)))).set 1 (some x)) H4 λy H5=>H5 D=some (.lst ys)/\ys.length<sizeLine/\Pv D (i+1) (ys ++ [y]) (upd H5 D (.lst (ys ++ [y]))) else Pv D (i+1) ys H4)
  (fin:∀ D ys H',H1 D=none->Pv D xs.length ys H'->Q (.ref D) H'):ZaQ (Ite K a) (gTup K 2 (Zb7 (Za1 0) (Zb7 (Za1 1) gNil))) tc te σ0 H1 Q :=
 λD hD=>ZnE (Pv D) (h0 D hD) (λi ys H' hi p=>hl D i ys H' hD hi p) (λi x ys H' T hx p hT=>step D i x ys H' T hD hx p hT) λys H' p=>fin D ys H' hD p
theorem Zgm {X:Cx}{N':List Str}{scope:Scope}{cl:List (Str × Addr)}{C:Addr}{s2:Shared}{H2:Hp}{ex:List Addr}{y z:Str}{p1 p2 pos:Pos}{k:Nat} (K:Yab) (hc:X.calm=true) (nd:N'.Nodup) (h0:N'[0]? = some y:=by rfl) (h1:N'[1]? = some z:=by rfl)
  (hy:(relabel scope X.env).names.lookup y=some .local:=by rfl) (hz:(relabel scope X.env).names.lookup z=some .local:=by rfl) (hK:X.K=K:=by rfl) :
  PG (X.comp N' scope cl C s2 H2 ex) (.Tuple [.Name y p1,.Name z p2] k pos) (gTup K 2 (Zb7 (Za1 0) (Zb7 (Za1 1) gNil))):=by
 subst hK;exact ZcR (X:=X.comp N' scope cl C s2 H2 ex) hc (ZaS (Zax (X:=X.comp N' scope cl C s2 H2 ex) nd h0 (.inl hy) (.inr hy)) (ZaS (Zax (X:=X.comp N' scope cl C s2 H2 ex) nd h1 (.inl hz) (.inr hz)) Zb3))
end L2
namespace L2
open PySem PySem.Spec PyProof.Rows
open PySem PySem.Spec PyProof.Rows
theorem ZiD {α:Type}{K:Yab}{a:Addr}{σ0:St}{H1:Hp}{te:TE}{Q:VK} (u:α->V) {ms:List α} (f:α->V) (hq:SqT K H1 a (ms.map u)) (hn:ms.length<=sizeLine)
  (he:∀ x∈ms,Pu te (σ0.set 0 (some (u x))) H1 (f x))
  (fin:∀ D H',H1 D=none->Same H1 H'->H' D=some (.lst (ms.map f))->Q (.ref D) H') :
  ZaQ (Itt K a) (Za1 0) Zbu te σ0 H1 Q:=by
 intro D hD;refine Zcn (n:=ms.length) (λi ys H'=>Same H1 H'/\H' D=some (.lst ys)/\ys=(ms.take i).map f) ⟨snw hD,Zac,by simp⟩ (λi ys H' _ q=>q.2.1) (λi ys H' hi q=>⟨ms.map u,u ms[i],q.1.tup hq,by simp [hi]⟩)
  (λys H' q=>⟨ms.map u,q.1.tup hq,by simp⟩) ?_ (λys H' q=>?_)
 ·rintro i ys H' x H2 hi ⟨sm,hDl,hys⟩ ⟨rfl,hy⟩;have hx:=hy _ (sm.tup hq);rw [Yaf,Yac hi] at hx;have hx:u ms[i]=x:=Yae hx;subst hx;unfold Zbu;refine iteT ?_;refine he ms[i] (YaL hi) _ _ sm λH5 s5=>⟨s5 _ _ hDl,?_,(sm.trans s5).upd hD,Zac,?_⟩
  ·rw [hys,Yaa,YaR];omega
  ·rw [List.take_add_one,Yac hi,Yah,<- hys];rfl
 ·obtain ⟨sm,hDl,hys⟩:=q;rw [List.take_length] at hys;exact fin D H' hD sm (by rw [<- hys];exact hDl)
end L2
namespace SrtT
open PySem PySem.W PyProof.Rows
section
variable {O:KeyOrd}{key:Nat->O.α}{N:Nat}{cmp:Nat->Nat->(Bool->Shared->Prop)->Shared->Prop}{s:Shared}
def kk (key:Nat->O.α) (p:Array Nat) (i:Nat):O.α:=key (p.getD i 0)
def Up (key:Nat->O.α) (p:Array Nat) (k:Nat):Prop:=∀ i j,i<=j->j<k->O.kle (kk key p i) (kk key p j)
def Dn (key:Nat->O.α) (p:Array Nat) (k:Nat):Prop:=∀ i j,i<=j->j<k->O.kle (kk key p j) (kk key p i)
def Fair (key:Nat->O.α) (N:Nat) (cmp:Nat->Nat->(Bool->Shared->Prop)->Shared->Prop) (s:Shared):Prop:=∀ i j C,i<N->j<N->C (O.blt (key i) (key j)) s->cmp i j C s
def Pm (N:Nat) (p:Array Nat):Prop:=p.Perm (List.toArray (List.range N))
theorem Pm.size {p:Array Nat} (h:Pm N p):p.size=N:=by
 have e:=h.size_eq;simpa using e
theorem Pm.lt {p:Array Nat} (h:Pm N p) {i:Nat} (hi:i<N):p.getD i 0<N:=by
 have hz:=h.size;have hip:i<p.size:=by omega
 have e:p.getD i 0=p[i]:=by simp [Array.getD,hip]
 rw [e];have hm:p[i]∈(List.range N):=by
  have h1:=(Array.perm_iff_toList_perm.mp h).mem_iff (a:=p[i]);have h2:p[i]∈p.toList:=by simp
  simpa using h1.mp h2
 exact List.mem_range.mp hm
theorem Pm.of {p q:Array Nat} (h:Pm N p) (e:q.Perm p):Pm N q:=e.trans h
theorem ZgG {p q:Array Nat}{i j:Nat} (h:p[i]? = q[j]?):kk key p i=kk key q j:=by
 unfold kk;have e:p.getD i 0=q.getD j 0:=by
  rw [Array.getD_eq_getD_getElem?,Array.getD_eq_getD_getElem?,h]
 rw [e]
theorem Zn7 {p:Array Nat}{a d:Nat} (ha:a<p.size) (hd:d<=a) (k:Nat) :
  kk key (bubble p a d) k=if k=a - d then kk key p a else if a - d<k/\k<=a then kk key p (k - 1) else kk key p k:=by
 have e:=getElem?_bubble ha d hd k;split at e
 ·rename_i h1
  rw [Ya7 h1];exact ZgG e
 ·rename_i h1
  rw [Ya6 h1];split at e
  ·rename_i h2
   rw [Ya7 h2];exact ZgG e
  ·rename_i h2
   rw [Ya6 h2];exact ZgG e
theorem ZkV {p:Array Nat}{i j:Nat} (hj:j<=p.size) (k:Nat):kk key (kas_rev p i j) k=if i<=k/\k<j then kk key p (i+j - 1 - k) else kk key p k:=by
 have e:=getElem?_mirror_all (xs:=p) (i:=i) hj k;split at e
 ·rename_i h1
  rw [Ya7 h1];exact ZgG e
 ·rename_i h1
  rw [Ya6 h1];exact ZgG e
theorem Zfy {p:Array Nat}{i j:Nat} (hj:j<=p.size) (he:∀ k,i<=k->k<j->kk key p k=kk key p (j - 1)) (k:Nat):kk key (kas_rev p i j) k=kk key p k:=by
 rw [ZkV hj]
 by_cases h:i<=k/\k<j
 ·rw [Ya7 h,he (i+j - 1 - k) (by omega) (by omega),he k h.1 h.2]
 ·rw [Ya6 h]
theorem ask {α:Type}{p:Array Nat}{i j:Nat}{k:Bool->KasT α}{Q:α->Shared->Prop} (hf:Fair key N cmp s) (hp:Pm N p) (hi:i<N) (hj:j<N)
  (h:(k (O.blt (kk key p i) (kk key p j))).kasWp cmp Q s):(KasT.ask (p.getD i 0) (p.getD j 0) k).kasWp cmp Q s:=hf _ _ _ (hp.lt hi) (hp.lt hj) h
theorem Up.one {p:Array Nat}:Up key p 1:=λi j hij hj=>by
 have:i=j:=by omega
 subst this;exact KeyOrd.kle_refl _
theorem Up.more {p:Array Nat}{n:Nat} (h1:1<=n) (h:Up key p n) (hn:O.kle (kk key p (n - 1)) (kk key p n)):Up key p (n+1):=λi j hij hj=>by
 by_cases hjn:j<n
 ·exact h i j hij hjn
 ·have e:j=n:=by omega
  subst e
  by_cases hi:i=j
  ·subst hi;exact KeyOrd.kle_refl _
  ·exact KeyOrd.kle_trans (h i (j - 1) (by omega) (by omega)) hn
theorem Dn.more {p:Array Nat}{n:Nat} (h1:1<=n) (h:Dn key p n) (hn:O.kle (kk key p n) (kk key p (n - 1))):Dn key p (n+1):=λi j hij hj=>by
 by_cases hjn:j<n
 ·exact h i j hij hjn
 ·have e:j=n:=by omega
  subst e
  by_cases hi:i=j
  ·subst hi;exact KeyOrd.kle_refl _
  ·exact KeyOrd.kle_trans hn (h i (j - 1) (by omega) (by omega))
theorem asc {p:Array Nat}{Q:Nat->Shared->Prop} (hf:Fair key N cmp s) (hp:Pm N p):∀ f n,1<=n->n+f<=N->Up key p n ->
  (∀ m,n<=m->m<=n+f->Up key p m->(m=n+f\/O.klt (kk key p m) (kk key p (m - 1)))->Q m s)->(kas_asc p f n).kasWp cmp Q s
 | 0,n,_,_,hu,q=>q n (Yag _) (Yag _) hu (.inl rfl)
 |f+1,n,h1,hN,hu,q=>by
  refine ask hf hp (by omega) (by omega) ?_;cases hb:O.blt (kk key p n) (kk key p (n - 1)) with
  |true =>
   rw [Ya7 rfl];exact q n (Yag _) (by omega) hu (.inr hb)
  |false =>
   rw [Ya6 (by simp)];exact asc hf hp f (n+1) (by omega) (by omega) (hu.more h1 hb) λm a b c d=>q m (by omega) (by omega) c (d.imp (λz=>by omega) id)
theorem dsc {Q:Array Nat × Nat × Nat->Shared->Prop} (hf:Fair key N cmp s):∀ f p n q,Pm N p->1<=n->n+f<=N->Dn key p n->q+1<=n->(∀ i,n - (q+1)<=i->i<n->kk key p i=kk key p (n - 1)) ->
  (∀ p' m q',Pm N p'->n<=m->m<=n+f->Dn key p' m->q'+1<=m->(∀ i,m - (q'+1)<=i->i<m->kk key p' i=kk key p' (m - 1))->Q (p',m,q') s)->(kas_desc f p n q).kasWp cmp Q s
 | 0,p,n,q,hp,h1,hN,hd,hq,he,k=>k p n q hp (Yag _) (Yag _) hd hq he
 |f+1,p,n,q,hp,h1,hN,hd,hq,he,k=>by
  refine ask hf hp (by omega) (by omega) ?_;have hz:=hp.size;have z0:∀ p':Array Nat,∀ i,n+1 - (0+1)<=i->i<n+1->kk key p' i=kk key p' (n+1 - 1):=λp' i a b=>by
   have:i=n:=by omega
   subst this;rfl
  cases hb:O.blt (kk key p n) (kk key p (n - 1)) with
  |true =>
   rw [Ya7 rfl];have hle:=KeyOrd.kle_of_klt (O:=O) hb
   by_cases hq0:q > 0
   ·rw [Ya7 hq0];have ea:=Zfy (key:=key) (p:=p) (i:=n - (q+1)) (j:=n) (by omega) he;have hd':Dn key (kas_rev p (n - (q+1)) n) (n+1):=λi j a b=>by
     rw [ea,ea];exact (hd.more h1 hle) i j a b
    exact dsc hf f _ (n+1) 0 (hp.of (mirror_perm _ _ _ _)) (by omega) (by omega) hd' (by omega) (z0 _) λp' m q' a b c d e g=>k p' m q' a (by omega) (by omega) d e g
   ·rw [Ya6 hq0];exact dsc hf f _ (n+1) 0 hp (by omega) (by omega) (hd.more h1 hle) (by omega) (z0 _) λp' m q' a b c d e g=>k p' m q' a (by omega) (by omega) d e g
  |false =>
   rw [Ya6 (by simp)];refine ask hf hp (by omega) (by omega) ?_;cases hb2:O.blt (kk key p (n - 1)) (kk key p n) with
   |true =>
    rw [Ya7 rfl];exact k p n q hp (Yag _) (by omega) hd hq he
   |false =>
    rw [Ya6 (by simp)];have ex:kk key p n=kk key p (n - 1):=KeyOrd.kle_antisymm hb2 hb;have hle:O.kle (kk key p n) (kk key p (n - 1)):=by rw [ex];exact KeyOrd.kle_refl _
    refine dsc hf f _ (n+1) (q+1) hp (by omega) (by omega) (hd.more h1 hle) (by omega) (λi a b=>?_) λp' m q' a b c d e g=>k p' m q' a (by omega) (by omega) d e g;show kk key p i=kk key p n
    by_cases hi:i=n
    ·rw [hi]
    ·rw [ex];exact he i (by omega) (by omega)
theorem tl3 {n r:Nat}{p:Array Nat}{Q:Nat × Array Nat->Shared->Prop} (hf:Fair key N cmp s) (hp:Pm N p) (h1:1<=n) (hn:n<=r) (hr:r<=N) (hd:Dn key p n)
  (k:∀ m p',Pm N p'->1<=m->m<=r->Up key p' m->Q (m,p') s):(kas_tail3 n r p).kasWp cmp Q s:=by
 unfold kas_tail3;rw [KasT.kasWp_bind];have hz:=hp.size;have hp':Pm N (kas_rev p 0 n):=hp.of (mirror_perm _ _ _ _);refine asc hf hp' (r - n) n h1 (by omega) (λi j a b=>?_) λm a b c _=>k m _ hp' (by omega) (by omega) c;rw [ZkV (by omega),ZkV (by omega),Ya7 (by omega),Ya7 (by omega)];exact hd _ _ (by omega) (by omega)
theorem ZqK {n r:Nat}{p:Array Nat}{Q:Nat × Array Nat->Shared->Prop} (hf:Fair key N cmp s) (hp:Pm N p) (hn:n+1<=r) (hr:r<=N) (hd:Dn key p (n+1))
  (k:∀ m p',Pm N p'->1<=m->m<=r->Up key p' m->Q (m,p') s):(kas_descPart n r p).kasWp cmp Q s:=by
 unfold kas_descPart;rw [KasT.kasWp_bind];refine dsc hf (r - (n+1)) p (n+1) 0 hp (by omega) (by omega) hd (by omega) (λi a b=>?_) λp' m q hp' a b c d e=>?_
 ·have:i=n:=by omega
  subst this;rfl
 ·have hz:=hp'.size;show (if q > 0 then kas_tail3 m r (kas_rev p' (m - (q+1)) m) else kas_tail3 m r p').kasWp cmp Q s
  by_cases hq:q > 0
  ·rw [Ya7 hq];have ea:=Zfy (key:=key) (p:=p') (i:=m - (q+1)) (j:=m) (by omega) e;exact tl3 hf (hp'.of (mirror_perm _ _ _ _)) (by omega) (by omega) hr (λi j x y=>by rw [ea,ea];exact c i j x y) k
  ·rw [Ya6 hq];exact tl3 hf hp' (by omega) (by omega) hr c k
theorem cnt {r:Nat}{p:Array Nat}{Q:Nat × Array Nat->Shared->Prop} (hf:Fair key N cmp s) (hp:Pm N p) (h1:1<=r) (hr:r<=N)
  (k:∀ m p',Pm N p'->1<=m->m<=r->Up key p' m->Q (m,p') s):(kas_count r p).kasWp cmp Q s:=by
 unfold kas_count;rw [KasT.kasWp_bind];have hz:=hp.size;refine asc hf hp (r - 1) 1 (Yag _) (by omega) Up.one λn a b c d=>?_
 by_cases hn:n=r
 ·rw [Ya7 (by simpa using hn)];exact k n p hp a (by omega) c
 ·rw [Ya6 (by simpa using hn)];have hlt:O.klt (kk key p n) (kk key p (n - 1)):=d.resolve_left (by omega)
  by_cases hg:n > 1
  ·rw [Ya7 hg];refine ask hf hp (by omega) (by omega) ?_;cases hb:O.blt (kk key p 0) (kk key p (n - 1)) with
   |true =>
    rw [Ya7 rfl];exact k n p hp a (by omega) c
   |false =>
    rw [Ya6 (by simp)];have all:∀ i,0<=i->i<n->kk key p i=kk key p (n - 1):=λi _ hi =>
     KeyOrd.kle_antisymm (c i (n - 1) (by omega) (by omega)) (KeyOrd.kle_trans (show O.kle _ _ from hb) (c 0 i (YaH _) hi))
    have ea:=Zfy (key:=key) (p:=p) (i:=0) (j:=n) (by omega) all;refine ZqK hf (hp.of (mirror_perm _ _ _ _)) (by omega) hr (λi j x y=>?_) k;rw [ea,ea];refine Dn.more a (λi j x y=>?_) (KeyOrd.kle_of_klt hlt) i j x y;rw [all i (by omega) (by omega),all j (by omega) y];exact KeyOrd.kle_refl _
  ·rw [Ya6 hg];have e:n=1:=by omega
   subst e;refine ZqK hf hp (by omega) hr (Dn.more (Yag _) (λi j x y=>?_) (KeyOrd.kle_of_klt hlt)) k;have:i=j:=by omega
   subst this;exact KeyOrd.kle_refl _
theorem plc {p:Array Nat}{k:Nat}{Q:Nat->Shared->Prop} (hf:Fair key N cmp s) (hp:Pm N p) (hk:k<N) (hu:Up key p k):∀ f l r,l<=r->r<=k->r - l<=f->(∀ i,i<l->O.kle (kk key p i) (kk key p k))->(∀ i,r<=i->i<k->O.klt (kk key p k) (kk key p i)) ->
  (∀ l,l<=k->(∀ i,i<l->O.kle (kk key p i) (kk key p k))->(∀ i,l<=i->i<k->O.klt (kk key p k) (kk key p i))->Q l s)->(kas_place p k f l r).kasWp cmp Q s
 | 0,l,r,h1,h2,h3,lo,hi,q=>by
  have:l=r:=by omega
  subst this;exact q l h2 lo hi
 |f+1,l,r,h1,h2,h3,lo,hi,q=>by
  unfold kas_place
  by_cases hg:l ≥ r
  ·rw [Ya7 hg];have:l=r:=by omega
   subst this;exact q l h2 lo hi
  ·rw [Ya6 hg];refine ask hf hp hk (by omega) ?_;cases hb:O.blt (kk key p k) (kk key p ((l+r) / 2)) with
   |true =>
    rw [Ya7 rfl];exact plc hf hp hk hu f l _ (by omega) (by omega) (by omega) lo (λi a b=>KeyOrd.klt_of_klt_of_kle hb (hu _ _ a b)) q
   |false =>
    rw [Ya6 (by simp)];exact plc hf hp hk hu f _ r (by omega) h2 (by omega) (λi a=>KeyOrd.kle_trans (hu i ((l+r) / 2) (by omega) (by omega)) (show O.kle _ _ from hb)) hi q
theorem bin {Q:Array Nat->Shared->Prop} (hf:Fair key N cmp s):∀ f p k,Pm N p->k+f<=N->Up key p k->(∀ p',Pm N p'->Up key p' (k+f)->Q p' s)->(kas_bin f p k).kasWp cmp Q s
 | 0,p,k,hp,_,hu,q=>q p hp hu
 |f+1,p,k,hp,hN,hu,q=>by
  unfold kas_bin;rw [KasT.kasWp_bind];refine plc hf hp (by omega) hu k 0 k (YaH _) (Yag _) (by omega) (λi z=>by omega) (λi a b=>by omega) λl hl lo hi=>?_;have hz:=hp.size;refine bin hf f _ (k+1) (hp.of (bubble_perm _ _ _)) (by omega) (λi j a b=>?_) λp' hp' hu'=>q p' hp' (by rw [show k+(f+1)=k+1+f by omega];exact hu');rw [Zn7 (by omega) (by omega),Zn7 (by omega) (by omega),show k - (k - l)=l by omega]
  by_cases i1:i=l
  ·rw [Ya7 i1]
   by_cases j1:j=l
   ·rw [Ya7 j1];exact KeyOrd.kle_refl _
   ·rw [Ya6 j1,Ya7 (by omega)];exact KeyOrd.kle_of_klt (hi _ (by omega) (by omega))
  ·rw [Ya6 i1]
   by_cases i2:l<i/\i<=k
   ·rw [Ya7 i2,Ya6 (by omega),Ya7 (by omega)];exact hu _ _ (by omega) (by omega)
   ·rw [Ya6 i2]
    by_cases j1:j=l
    ·rw [Ya7 j1];exact lo _ (by omega)
    ·rw [Ya6 j1]
     by_cases j2:l<j/\j<=k
     ·rw [Ya7 j2];exact hu _ _ (by omega) (by omega)
     ·rw [Ya6 j2];exact hu _ _ a (by omega)
theorem srt {Q:Array Nat->Shared->Prop} (hf:Fair key N cmp s) (h2:1<=N) (q:∀ p,Pm N p->Up key p N->Q p s):(kas_sort N).kasWp cmp Q s:=by
 unfold kas_sort;rw [KasT.kasWp_bind];refine cnt hf (Array.Perm.refl _) h2 (Yag _) λm p hp h1 hm hu=>?_;show (if m<N then kas_bin (N - max m 1) p (max m 1) else KasT.ret p).kasWp cmp Q s;have e:max m 1=m:=by omega
 rw [e]
 by_cases hlt:m<N
 ·rw [Ya7 hlt];exact bin hf _ _ _ hp (by omega) hu λp' a b=>q p' a (by rw [show m+(N - m)=N by omega] at b;exact b)
 ·rw [Ya6 hlt];have:m=N:=by omega
  subst this;exact q p hp hu
end
end SrtT
namespace SrtT
open PySem PyProof.Rows
section
open PySem.SeqAt
open PySem.AutoSeq1 (wpAny_loadPart')
open PySem.MeetsSeq PySem.MeetsSeq2 PySem.MeetsSeq3
theorem ints_get:∀ {vs:List Value}{ns:List Int}{i:Nat},IntsAre vs ns->i<ns.length->∃ t,vs[i]? = some (.int (ns.getD i 0) t)
 |_,_,i,.nil,h=>by simp at h
 |_,_,0,.cons n t r,h=>⟨t,by simp⟩
 |_,_,i+1,.cons n t r,h=>by
  obtain ⟨u,e⟩:=ints_get (i:=i) r (by simpa using h);exact ⟨u,by simpa using e⟩
end
section
variable {prog:Program}{w:World}{A:Around}{E:Value->Shared->Prop}{s:Shared}
end
end SrtT
namespace SrtT
open PySem PySem.W PyProof.Rows
def outOf (vs:List Value) (p:Array Nat):List Value:=p.toList.map λi=>vs.getD i Value.none
section
variable {prog:Program}{w:World}{A:Around}{E:Value->Shared->Prop}{s:Shared}{O:KeyOrd}{key:Nat->O.α}{vs:List Value}
def Look (prog:Program) (w:World) (A:Around) (O:KeyOrd) (key:Nat->O.α) (vs:List Value) (s:Shared):Prop :=
 ∀ h':Heap,(∀ b o,s.heap.get? b=some o->h'.get? b=some o)->∃ κ,(2<=vs.length->∀ (Q:SortKind->Shared->Prop) (E:Value->Shared->Prop),Q κ { s with heap:=h' }->wpAny (model prog w) A (keyKind' vs.toArray) Q E { s with heap:=h' }) /\
  Fair key vs.length (kas_ask prog w A κ vs) { s with heap:=h' }
theorem Zl6 {h:Heap}{a:Addr}{n:Nat} (qa:h.get? a=some (seqObj "list" vs.toArray n)):∃ m,(h.update a (Obj.mapSeq λ_=>(#[]:Array Value))).get? a=some (seqObj "list" #[] m):=⟨_,get?_update_seq qa λ_=>#[]⟩
theorem ZpX {a:Addr}{n:Nat}{P:PySem.Fin->Shared->Prop} (qa:s.heap.get? a=some (seqObj "list" vs.toArray n)) (hk:∀ h':Heap,(∀ b o,b≠a->s.heap.get? b=some o->h'.get? b=some o) ->
   ∃ κ,(2<=vs.length->∀ (Q:SortKind->Shared->Prop) (E:Value->Shared->Prop),Q κ { s with heap:=h' }->wpAny (model prog w) A (keyKind' vs.toArray) Q E { s with heap:=h' })/\Fair key vs.length (kas_ask prog w A κ vs) { s with heap:=h' }) (h64:vs.length<64)
  (q:∀ p,Pm vs.length p->Up key p vs.length->P (.done (.ret .none)) { s with heap:=sortedHeap s.heap a vs (outOf vs p).toArray }):wpAny (model prog w) A (Builtin.«list.sort» ⟨[.ref a],[]⟩) P E s:=by
 have la:a<s.heap.objs.size:=Yal qa;obtain ⟨m,q1⟩:=Zl6 qa;have q6:(((s.heap.update a (Obj.mapSeq λ_=>(#[]:Array Value))).push (seqObj "tuple" vs.toArray 0)).push (seqObj "list" #[] 0)).get? a=some (seqObj "list" #[] m):=Yad _ (Yad _ q1);have keep:∀ b o,b≠a->s.heap.get? b=some o->(((s.heap.update a (Obj.mapSeq λ_=>(#[]:Array Value))).push (seqObj "tuple" vs.toArray 0)).push (seqObj "list" #[] 0)).get? b=some o:=λb o hb e =>
  Yad _ (Yad _ ((Heap.get?_update_ne _ _ _ _ hb).trans e))
 obtain ⟨κ,k1,k2⟩:=hk _ keep;rw [list_sort_plain];refine Ya3 (listItems_at qa rfl ?_);refine Ya3 (listUpdate_at qa rfl ?_ (by rw [Yam,sizeLine_eq];omega) (YaH _));refine Ya3 (seqEpoch_at q1 rfl (Ya3 (wpAny_newTuple ?_ (by show vs.length<=_;rw [sizeLine_eq];omega))));refine Ya3 (wpAny_newList (wpAny_holding ?_) (YaH _));show wpAny (model prog w) A _ P E { s with heap:=(((s.heap.update a (Obj.mapSeq λ_=>(#[]:Array Value))).push (seqObj "tuple" vs.toArray 0)).push (seqObj "list" #[] 0)) };dsimp only;have hout:∀ p,Pm vs.length p->((p.map (kas_item (pairsOf vs))).map (·.2))=(outOf vs p).toArray:=λp hp=>by
  apply Array.toList_inj.mp;rw [Array.map_map,Array.toList_map];exact List.map_congr_left λi _=>by show (kas_item (pairsOf vs) i).2=_;rw [kas_item_eq]
 have hlen:∀ p,Pm vs.length p->(outOf vs p).toArray.size<=sizeLine+1:=λp hp=>by
  have z:=hp.size;rw [Yam,outOf,Yaa,YaD,z,sizeLine_eq];omega
 by_cases h2:vs.toArray.size<2
 ·rw [Ya7 h2,Ya7 h2];rw [Yam] at h2;refine Ya3 (Ya8 ?_);rw [StateT.run_pure];refine Ya3 (Ya8 ?_);dsimp only;have hp:Pm vs.length (List.toArray (List.range vs.length)):=Array.Perm.refl _;have e0:(arrOf (SortSt.mk' general' (vs.toArray.zip vs.toArray) #[] 7 none)).map (·.2)=(outOf vs (List.toArray (List.range vs.length))).toArray:=by
   rw [<- hout _ hp];have e:=kas_range (pairsOf vs);rw [pairsOf_size] at e;rw [e];rfl
  rw [e0];refine Ya3 (seqEpoch_at q6 rfl (Ya3 (listUpdate_at q6 rfl ?_ (YaH _) (hlen _ hp))));simp only [bne_self_eq_false,Bool.false_eq_true,if_false];refine Ya8 (q _ hp λi j a b=>?_);have:i=j:=by omega
  subst this;exact KeyOrd.kle_refl _
 ·rw [Ya6 h2,Ya6 h2];rw [Yam] at h2;refine Ya3 (k1 (by omega) _ _ ?_);refine Ya3 (Ya9 (kat_run (κ:=κ) (Q:=λst s'=>s'={ s with heap:=((s.heap.update a (Obj.mapSeq λ_=>(#[]:Array Value))).push (seqObj "tuple" vs.toArray 0)).push (seqObj "list" #[] 0) } /\
    ∃ p,Pm vs.length p/\Up key p vs.length/\arrOf st=p.map (kas_item (pairsOf vs))/\failedOf st=none) (G:=λp s'=>s'={ s with heap:=((s.heap.update a (Obj.mapSeq λ_=>(#[]:Array Value))).push (seqObj "tuple" vs.toArray 0)).push (seqObj "list" #[] 0) }/\Pm vs.length p/\Up key p vs.length)
   rfl (by omega) h64 (λp st s' _ a1 a2 a3=>⟨a3.1,p,a3.2.1,a3.2.2,a1,a2⟩) (srt k2 (by omega) λp a b=>⟨rfl,a,b⟩)) ?_ λ_ _ e=>e)
  rintro ⟨⟨⟩,st⟩ s' ⟨rfl,p,hp,hu,har,hfa⟩;dsimp only;rw [har,hout p hp];refine Ya3 (seqEpoch_at q6 rfl (Ya3 (listUpdate_at q6 rfl ?_ (YaH _) (hlen _ hp))));rw [hfa];simp only [bne_self_eq_false,Bool.false_eq_true,if_false];exact Ya8 (q p hp hu)
theorem sortedBy {l:Addr}{Q:Value->Shared->Prop} (hl:s.heap.IsList l vs.toArray) (hk:Look prog w A.in1.in1 O key vs s) (h64:vs.length<64)
  (q:∀ p,Pm vs.length p->Up key p vs.length->Q (.ref (s.heap.objs.size+1)) { s with heap:=sortedAll s.heap vs (outOf vs p).toArray }):wpAny (model prog w) A (call (.builtin "sorted") [.ref l]) Q E s:=by
 refine Calls.call_function_entry kind_sorted plain_sorted entry_sorted (args_sorted1 _) ?_;unfold Builtin.«sorted»;refine Ya3 (m:=checkCount "sorted" 1 1 _) (Ya8 (Ya3 (collect_list hl (Ya3 (wpAny_newList ?_ (by rw [sizeLine_eq];omega))) (by rw [sizeLine_eq];omega))));have z1:((s.heap.push (seqObj "list" #[] 0)).update s.heap.objs.size (Obj.mapSeq (· ++ vs.toArray))).objs.size=s.heap.objs.size+1:=by rw [Heap.size_update,size_push']
 have q1:(((s.heap.push (seqObj "list" #[] 0)).update s.heap.objs.size (Obj.mapSeq (· ++ vs.toArray))).push (seqObj "list" vs.toArray 0)).get? (s.heap.objs.size+1)=some (seqObj "list" vs.toArray 0):=by
  rw [<- z1];exact Yao _ rfl
 have keep:∀ b o,s.heap.get? b=some o->(((s.heap.push (seqObj "list" #[] 0)).update s.heap.objs.size (Obj.mapSeq (· ++ vs.toArray))).push (seqObj "list" vs.toArray 0)).get? b=some o:=λb o e=>by
  have hlt:b<s.heap.objs.size:=Yal e;have n0:b≠s.heap.objs.size:=Yap hlt;rw [Heap.get?_push_ne _ _ _ (by rw [z1];exact Yap (Nat.lt_succ_of_lt hlt)),Heap.get?_update_ne _ _ _ _ n0,Heap.get?_push_ne _ _ _ n0];exact e
 show wpAny _ _ _ _ _ { s with heap:=(((s.heap.push (seqObj "list" #[] 0)).update s.heap.objs.size (Obj.mapSeq (· ++ vs.toArray))).push (seqObj "list" vs.toArray 0)) };rw [z1];refine Ya3 (wpAny_holding (wpAny_call_entry slot_list_sort ⟨_,q1,rfl⟩ entry_list_sort (ZpX (key:=key) q1 (λh' k=>hk h' λb o e=>k b o (Yap (Nat.lt_succ_of_lt (Yal e))) (keep b o e)) h64 λp a b=>⟨_,rfl,Ya8 ⟨_,rfl,q p a b⟩⟩) (args_list_sort _)))
end
theorem ZkT:∀ a:List Int,HT.lexLt a a=false
 | []=>rfl
 |x :: xs=>by rw [HT.lexLt_cons,Ya7 rfl,ZkT xs]
theorem Zn4:∀ a b c:List Int,HT.lexLt a b=true->HT.lexLt b c=true->HT.lexLt a c=true
 | [],[],_,h,_=>by simp [HT.lexLt_nil_nil] at h
 | [],_ :: _,[],_,h=>by simp [HT.lexLt_cons_nil] at h
 | [],_ :: _,_ :: _,_,_=>rfl
 |_ :: _,[],_,h,_=>by simp [HT.lexLt_cons_nil] at h
 |_ :: _,_ :: _,[],_,h=>by simp [HT.lexLt_cons_nil] at h
 |x :: xs,y :: ys,z :: zs,h1,h2=>by
  rw [HT.lexLt_cons] at h1 h2 ⊢
  by_cases e1:x=y
  ·subst e1;rw [Ya7 rfl] at h1
   by_cases e2:x=z
   ·rw [Ya7 e2] at h2 ⊢;exact Zn4 xs ys zs h1 h2
   ·rw [Ya6 e2] at h2 ⊢;exact h2
  ·rw [Ya6 e1] at h1
   by_cases e2:y=z
   ·subst e2;rw [Ya6 e1];exact h1
   ·rw [Ya6 e2] at h2;have a1:=of_decide_eq_true h1;have a2:=of_decide_eq_true h2;rw [Ya6 (by omega)];exact Ya4 (by omega)
theorem Zn5:∀ a b c:List Int,HT.lexLt a c=true->HT.lexLt a b=true\/HT.lexLt b c=true
 | [],[],[],h=>by simp [HT.lexLt_nil_nil] at h
 | [],[],_ :: _,_=>.inr rfl
 | [],_ :: _,_,_=>.inl rfl
 |_ :: _,_,[],h=>by simp [HT.lexLt_cons_nil] at h
 |_ :: _,[],_ :: _,_=>.inr rfl
 |x :: xs,y :: ys,z :: zs,h=>by
  rw [HT.lexLt_cons] at h;rw [HT.lexLt_cons,HT.lexLt_cons]
  by_cases e:x=z
  ·subst e;rw [Ya7 rfl] at h
   by_cases e1:x=y
   ·subst e1;rw [Ya7 rfl,Ya7 rfl];exact Zn5 xs ys zs h
   ·rw [Ya6 e1,Ya6 (Ne.symm e1)];simp only [decide_eq_true_eq];omega
  ·rw [Ya6 e] at h;have h:=of_decide_eq_true h
   by_cases e1:x=y
   ·subst e1;rw [Ya6 e];exact .inr (Ya4 h)
   ·rw [Ya6 e1]
    by_cases h2:x<y
    ·exact .inl (Ya4 h2)
    ·right;rw [Ya6 (by omega)];exact Ya4 (by omega)
theorem lex_tot:∀ a b:List Int,HT.lexLt a b=false->HT.lexLt b a=false->a=b
 | [],[],_,_=>rfl
 | [],_ :: _,h,_=>by simp [HT.lexLt_nil_cons] at h
 |_ :: _,[],_,h=>by simp [HT.lexLt_nil_cons] at h
 |x :: xs,y :: ys,h1,h2=>by
  rw [HT.lexLt_cons] at h1 h2
  by_cases e:x=y
  ·subst e;rw [Ya7 rfl] at h1 h2;rw [lex_tot xs ys h1 h2]
  ·rw [Ya6 e] at h1;rw [Ya6 (Ne.symm e)] at h2;have a1:=of_decide_eq_false h1;have a2:=of_decide_eq_false h2;omega
def lexO:KeyOrd:=⟨List Int,HT.lexLt,ZkT,Zn4,Zn5,lex_tot⟩
end SrtT
namespace L2
open PySem PySem.Spec PyProof.Rows
section
variable {X:Cx}
def mvd {α:Type} (xs:List α) (d:α) (p:Array Nat):List α:=p.toList.map λi=>xs.getD i d
theorem ZfB {α:Type}{xs:List α}{i:Nat}{d:α} (h:i<xs.length):xs.getD i d=xs[i]:=by simp [h]
theorem ZhR {xs:List V}{us:List Value} (r:Vals xs us):∀ is:List Nat,(∀ i∈is,i<xs.length)->Vals (is.map λi=>xs.getD i .non) (is.map λi=>us.getD i Value.none)
 | [],_=>.nil
 |i :: is,h=>by
  refine .cons ?_ (ZhR r is λj hj=>h j (by simp [hj]));have hi:=h i (by simp);obtain ⟨u,e,ru⟩:=r.get (i:=i) (x:=xs[i]) (by simp [hi]);have e2:us.getD i Value.none=u:=by rw [Yat,e];rfl
  show RelV (xs.getD i .non) (us.getD i Value.none);rw [ZfB hi,e2];exact ru
end
end L2
namespace SrtT
open PySem PySem.W PyProof.Rows
section
variable {prog:Program}{w:World}{A:Around}{E:Value->Shared->Prop}{s:Shared}
theorem lexK {b:Bool}{Q:Bool->Shared->Prop}:∀ {xs ys:List Value}{ns ms:List Int} (fin:Bool) (i:Nat),IntsAre xs ns->IntsAre ys ms->(fin=true ↔ ns.length<ms.length)->Q (HT.lexLt ns ms) s->KatLex prog w A b fin Q (xs.zip ys) i s
 |_,_,_,_,fin,i,.nil,.nil,hf,q=>by
  have:fin=false:=by
   cases fin with
   |false=>rfl
   |true=>simp at hf
  subst this;exact kat_nil q
 |_,_,_,_,fin,i,.nil,.cons m t r,hf,q=>by
  have:fin=true:=hf.mpr (by simp);subst this;exact kat_nil q
 |_,_,_,_,fin,i,.cons m t r,.nil,hf,q=>by
  have:fin=false:=by
   cases fin with
   |false=>rfl
   |true=>simp at hf
  subst this;exact kat_nil q
 |_,_,_,_,fin,i,.cons n t r,.cons m u r',hf,q=>by
  rw [HT.lexLt_cons] at q;refine kat_cons (wpAny_eqBool_int ?_)
  by_cases e:n=m
  ·subst e;rw [Ya7 rfl] at q;rw [show (n == n)=true by simp];exact kat_yes (lexK fin (i+1) r r' (by simpa using hf) q)
  ·rw [Ya6 e] at q;rw [show (n == m)=false by simp [e]];refine kat_no ?_;cases b && i == 0 with
   |true=>exact oneLt_int q
   |false=>exact kat_one _ _ (lt_int q)
end
end SrtT
namespace L2
open PySem PySem.Spec PyProof.Rows
section
variable {X:Cx}
theorem ZjE {h:Heap}:∀ {vs fs:List Value},vs.length=fs.length->(∀ i,i<vs.length->∃ a o xs n,vs.getD i Value.none=.ref a/\h.get? a=some o/\o.cls=.type "tuple" /\ o.data=.seq xs n/\xs[0]? = some (fs.getD i Value.none))->PySem.W.KatTups h vs fs
 | [],[],_,_=>.nil
 |v :: vs,f :: fs,hl,hg=>by
  obtain ⟨a,o,xs,n,e1,e2,e3,e4,e5⟩:=hg 0 (by simp);have e1:v=.ref a:=by simpa using e1
  subst e1;refine .cons e2 e3 e4 (by simpa using e5) (ZjE (by simpa using hl) λi hi=>?_);simpa using hg (i+1) (by simpa using hi)
theorem ZbR (hu:X.A.units+64<cLine):Zcc X (.builtin "sorted") (λxs H Q=>∃ (a:Addr) (rs:List (Addr × List Int)),xs=[.ref a]/\SqL X.K H a (rs.map λr=>V.ref r.1)/\rs.length<64/\(∀ r∈rs,SqT X.K H r.1 (r.2.map V.int)/\0<r.2.length) /\
  ∀ (D:Addr) (rs':List (Addr × List Int)),H D=none->rs'.Perm rs->rs'.Pairwise (λr q=>HT.lexLt q.2 r.2=false)->Q (.ref D) (upd H D (.lst (rs'.map λr=>V.ref r.1)))):=by
 intro pins s σ H xs us Q I rv h;obtain ⟨a,rs,rfl,hq,h64,hrs,q⟩:=h;obtain ⟨u,rfl,ru⟩:=rv.one;cases ru;obtain ⟨its,r,pl,hz⟩:=I.list hq;have hlen:its.length=rs.length:=by rw [<- r.length,Yaa]
 have hat:∀ i,i<rs.length->its.getD i Value.none=.ref (rs.getD i (0,[])).1:=λi hi=>by
  obtain ⟨v,e,rv⟩:=r.get (i:=i) (x:=.ref rs[i].1) (by simp [hi]);cases rv;rw [Yat,e,ZfB hi];rfl
 have hrow:∀ i,i<rs.length->∃ vs,IsTup s.heap (rs.getD i (0,[])).1 vs.toArray/\IntsAre vs (rs.getD i (0,[])).2/\0<vs.length:=λi hi=>by
  rw [ZfB hi];obtain ⟨h1,h2⟩:=hrs rs[i] (YaL hi);obtain ⟨vs,r1,p1,_⟩:=I.tuple h1;exact ⟨vs,p1,ZbL r1,by rw [<- r1.length,Yaa];exact h2⟩
 refine SrtT.sortedBy (O:=SrtT.lexO) (key:=λi=>(rs.getD i (0,[])).2) pl.isList (λh' k=>⟨tuples' (Value.type "int" != Value.type "tuple"),λh2 Q' E' q'=>?_,λi j C hi hj c=>?_⟩) (by omega) λp hp hup=>?_
 ·have hf:∀ i,∃ f:Value,i<rs.length->∃ t,f=.int ((rs.getD i (0,[])).2.getD 0 0) t/\∃ a o xs n,its.getD i Value.none=.ref a/\h'.get? a=some o/\o.cls=.type "tuple" /\ o.data=.seq xs n/\xs[0]? = some f:=λi=>by
   by_cases hi:i<rs.length
   ·obtain ⟨vs,⟨o,e1,e2,n,e3⟩,i2,l2⟩:=hrow i hi;obtain ⟨t,e4⟩:=SrtT.ints_get (i:=0) i2 (by rw [<- i2.length];exact l2);exact ⟨_,λ_=>⟨t,rfl,_,o,_,n,hat i hi,k _ _ e1,e2,e3,by simpa using e4⟩⟩
   ·exact ⟨.none,λz=>absurd z hi⟩
  let fs:=(List.range rs.length).map λi=>Classical.choose (hf i)
  have hfs:∀ i,i<rs.length->fs.getD i Value.none=Classical.choose (hf i):=λi hi=>by simp [fs,hi]
  refine PySem.W.kat_kind (vs:=its) (fs:=fs) (T:=.type "int") (ZjE (by simp [fs,hlen]) λi hi=>?_) (by simp [fs];omega) (λv hv=>?_) (by rfl) q'
  ·rw [hfs i (by omega)];obtain ⟨t,_,z⟩:=Classical.choose_spec (hf i) (by omega);exact z
  ·obtain ⟨i,hi,rfl⟩:=Yar.mp hv;obtain ⟨t,e,_⟩:=Classical.choose_spec (hf i) (List.mem_range.mp hi);rw [e];exact .of_pure rfl
 ·unfold PySem.W.kas_ask;rw [hat i (by omega),hat j (by omega)];obtain ⟨vi,⟨o1,a1,b1,n1,c1⟩,ii,_⟩:=hrow i (by omega);obtain ⟨vj,⟨o2,a2,b2,n2,c2⟩,ij,_⟩:=hrow j (by omega);refine PySem.W.kat_lt (k _ _ a1) c1 (k _ _ a2) c2 (SrtT.lexK _ 0 (by simpa using ii) (by simpa using ij) ?_ c);rw [decide_eq_true_eq,Yam,Yam,ii.length,ij.length]
 ·rw [hlen] at hp hup;have hin:∀ i∈p.toList,i<rs.length:=λi hi=>by
   obtain ⟨k,hk,rfl⟩:=List.getElem_of_mem hi;rw [YaD,hp.size] at hk;have e:=hp.lt hk;simpa [Array.getD,hp.size,hk] using e
  obtain ⟨e,he⟩:=sortedAll_at s.heap its (SrtT.outOf its p).toArray;refine ⟨.ref _,_,I.laid (t':=s.toks) (o:=.lst ((mvd rs (0,[]) p).map λr=>V.ref r.1)) (λb o=>sortedAll_old) (Nat.le_succ _) ⟨?_,SrtT.outOf its p,e,?_,he⟩,rfl,q _ (mvd rs (0,[]) p) (I.hok.fresh (Nat.le_succ _)) ?_ ?_⟩
  ·rw [Yaa,mvd,Yaa,YaD,hp.size,sizeLine_eq];omega
  ·have hv:=ZhR r p.toList (λi hi=>by rw [Yaa];exact hin i hi);unfold SrtT.outOf mvd;rw [Yau];refine cast (congrArg (λz=>Vals z _) (List.map_congr_left λi hi=>?_)) hv;have:=hin i hi;simp [this]
  ·have h1:=(Array.perm_iff_toList_perm.mp hp).map λi=>rs.getD i (0,[]);have h2:(List.range rs.length).map (λi=>rs.getD i (0,[]))=rs:=by
    apply List.ext_getElem (by simp);intro i a b;simp [b]
   unfold mvd;rw [show (List.toArray (List.range rs.length)).toList=List.range rs.length from rfl,h2] at h1;exact h1
  ·rw [List.pairwise_iff_getElem];intro i j hi hj hij;unfold mvd at hi hj ⊢;rw [Yaa,YaD,hp.size] at hi hj;have:=hup i j (by omega) hj;unfold SrtT.kk at this;simp [Array.getD,hp.size,hi,hj] at this ⊢;exact this
end
end L2
namespace L2
open PySem PySem.Spec PyProof.Rows
theorem Zew {α:Type}{J:It}{ms:List α}{σ0:St}{H1:Hp}{te:TE}{Q:VK} (u:α->V) (o:α->HO) (hn:ms.length<=1000)
  (hgo:∀ i H',i<ms.length->Same H1 H'->J.go i H') (hst:∀ H',Same H1 H'->J.stop ms.length H') (hy:∀ i H' x H2 (h:i<ms.length),Same H1 H'->J.yld i H' x H2->H2=H'/\x=u ms[i])
  (he:∀ x∈ms,∀ (H':Hp) (Q':VK),Same H1 H'->(∀ l H'',H' l=none->Same H' H''->H'' l=some (o x)->Q' (.ref l) H'')->te (σ0.set 0 (some (u x))) H' Q')
  (fin:∀ (D:Addr) (qs:List (Addr × α)) (H':Hp),H1 D=none->qs.map (·.2)=ms->(qs.map (·.1)).Nodup->(∀ q∈qs,H' q.1=some (o q.2)/\H1 q.1=none/\q.1≠D)->Same H1 H'->H' D=some (.lst (qs.map λq=>V.ref q.1))->Q (.ref D) H') :
  ZaQ J (Za1 0) Zbu te σ0 H1 Q:=by
 intro D hD;refine Zcn (n:=ms.length) (λi ys H'=>∃ qs:List (Addr × α),Same H1 H'/\H' D=some (.lst ys)/\ys=(qs.map λq=>V.ref q.1)/\qs.map (·.2)=ms.take i/\(qs.map (·.1)).Nodup/\∀ q∈qs,H' q.1=some (o q.2)/\H1 q.1=none/\q.1≠D)
  ⟨[],snw hD,Zac,rfl,by simp,List.nodup_nil,λq hq=>nomatch hq⟩ (λi ys H' _ ⟨_,_,e,_⟩=>e) (λi ys H' hi ⟨_,sm,_⟩=>hgo i H' hi sm) (λys H' ⟨_,sm,_⟩=>hst H' sm) ?_ (λys H' h=>?_)
 ·rintro i ys H' x H2 hi ⟨qs,sm,hDl,hys,hqm,hnd,hq⟩ y;obtain ⟨rfl,rfl⟩:=hy i H' x H2 hi sm y;unfold Zbu;refine iteT (he ms[i] (YaL hi) _ _ sm λl H5 hl s5 el=>?_);have nlD:D≠l:=Zai hDl hl;have ql:qs.length=i:=by
   have:=congrArg List.length hqm;rw [Yaa,YaR] at this;omega
  refine ⟨s5 _ _ hDl,?_,qs ++ [(l,ms[i])],(sm.trans s5).upd hD,Zac,?_,?_,?_,?_⟩
  ·rw [hys,Yaa,ql];exact Zav (by omega)
  ·rw [hys,Yah];rfl
  ·rw [Yah,hqm,List.take_add_one,Yac hi];rfl
  ·rw [Yah,List.nodup_append];refine ⟨hnd,by simp,λa ha b hb e=>?_⟩;obtain ⟨q,hq1,rfl⟩:=Yar.mp ha;have hb:b=l:=by simpa using hb
   subst hb;have:=(hq q hq1).1;rw [e,hl] at this;cases this
  ·intro q hq1;rcases YaG.mp hq1 with z | z
   ·obtain ⟨z1,z2,z3⟩:=hq q z;exact ⟨by rw [Zag z3];exact s5 _ _ z1,z2,z3⟩
   ·have:q=(l,ms[i]):=by simpa using z
    subst this;exact ⟨by rw [Zag (Ne.symm nlD)];exact el,sm.free hl,Ne.symm nlD⟩
 ·obtain ⟨qs,sm,hDl,hys,hqm,hnd,hq⟩:=h;rw [List.take_length] at hqm;exact fin D qs H' hD hqm hnd hq sm (by rw [<- hys];exact hDl)
theorem Zdm {α:Type}{K:Yab}{a:Addr}{ms:List α}{σ0:St}{H1:Hp}{te:TE}{Q:VK} (u:α->V) (o:α->HO) (hq:SqL K H1 a (ms.map u)) (hn:ms.length<=1000)
  (he:∀ x∈ms,∀ (H':Hp) (Q':VK),Same H1 H'->(∀ l H'',H' l=none->Same H' H''->H'' l=some (o x)->Q' (.ref l) H'')->te (σ0.set 0 (some (u x))) H' Q')
  (fin:∀ (D:Addr) (qs:List (Addr × α)) (H':Hp),H1 D=none->qs.map (·.2)=ms->(qs.map (·.1)).Nodup->(∀ q∈qs,H' q.1=some (o q.2)/\H1 q.1=none/\q.1≠D)->Same H1 H'->H' D=some (.lst (qs.map λq=>V.ref q.1))->Q (.ref D) H') :
  ZaQ (Itl K a) (Za1 0) Zbu te σ0 H1 Q :=
 Zew u o hn (λi H' hi sm=>⟨ms.map u,u ms[i],sm.seq hq,by simp [hi]⟩) (λH' sm=>⟨ms.map u,sm.seq hq,by simp⟩) (λi H' x H2 hi sm y=>⟨y.1,by
  have:=y.2 _ (sm.seq hq);rw [Yaf,Yac hi] at this
  exact (Yae this).symm⟩) he fin
theorem ZbW {lo:Int}{n:Nat}{σ0:St}{H1:Hp}{te:TE}{Q:VK} (o:Nat->HO) (hn:n<=1000)
  (he:∀ i,i<n->∀ (H':Hp) (Q':VK),Same H1 H'->(∀ l H'',H' l=none->Same H' H''->H'' l=some (o i)->Q' (.ref l) H'')->te (σ0.set 0 (some (.int (lo+i)))) H' Q')
  (fin:∀ (D:Addr) (qs:List (Addr × Nat)) (H':Hp),H1 D=none->qs.map (·.2)=List.range n->(qs.map (·.1)).Nodup->(∀ q∈qs,H' q.1=some (o q.2)/\H1 q.1=none/\q.1≠D)->Same H1 H'->H' D=some (.lst (qs.map λq=>V.ref q.1))->Q (.ref D) H') :
  ZaQ (Itr lo n) (Za1 0) Zbu te σ0 H1 Q :=
 Zew (ms:=List.range n) (λi=>.int (lo+i)) o (by simpa using hn) (λi H' hi sm=>by show i<n;simpa using hi) (λH' sm=>by show n<=_;simp) (λi H' x H2 hi sm y=>⟨y.1,by rw [y.2,List.getElem_range]⟩)
  (λx hx=>he x (List.mem_range.mp hx)) fin
section
variable {X:Cx}
end
end L2
namespace L2
open PySem PySem.Spec PyProof.Rows
mutual
inductive RdS (S:List Addr) (H:Hp):V->PyData->Prop
 |non:RdS S H .non .none
 |bl (b:Bool):RdS S H (.bl b) (.bool b)
 |int (i:Int):RdS S H (.int i) (.int i)
 |str (x:Str):RdS S H (.str x) (.str x)
 |lst {a:Addr}{xs:List V}{ds:List PyData}:H a=some (.lst xs)->a∉S->RdSs S H xs ds->RdS S H (.ref a) (.list ds)
 |tup {a:Addr}{xs:List V}{ds:List PyData}:H a=some (.tup xs)->a∉S->RdSs S H xs ds->RdS S H (.ref a) (.tuple ds)
 |dct {a:Addr}:H a=some (.dK [])->a∉S->RdS S H (.ref a) (.dict [])
inductive RdSs (S:List Addr) (H:Hp):List V->List PyData->Prop
 |nil:RdSs S H [] []
 |cons {x:V}{d:PyData}{xs:List V}{ds:List PyData}:RdS S H x d->RdSs S H xs ds->RdSs S H (x :: xs) (d :: ds)
end
mutual
theorem RdS.move {S S':List Addr}{H H':Hp} (k:∀ b o,b∉S->H b=some o->H' b=some o) (ss:∀ b,b∉S->b∉S'):∀ {x:V}{d:PyData},RdS S H x d->RdS S' H' x d
 |_,_,.non=>.non
 |_,_,.bl b=>.bl b
 |_,_,.int i=>.int i
 |_,_,.str x=>.str x
 |_,_,.lst e n r=>.lst (k _ _ n e) (ss _ n) (RdSs.move k ss r)
 |_,_,.tup e n r=>.tup (k _ _ n e) (ss _ n) (RdSs.move k ss r)
 |_,_,.dct e n=>.dct (k _ _ n e) (ss _ n)
theorem RdSs.move {S S':List Addr}{H H':Hp} (k:∀ b o,b∉S->H b=some o->H' b=some o) (ss:∀ b,b∉S->b∉S'):∀ {xs:List V}{ds:List PyData},RdSs S H xs ds->RdSs S' H' xs ds
 |_,_,.nil=>.nil
 |_,_,.cons h t=>.cons (RdS.move k ss h) (RdSs.move k ss t)
end
theorem RdS.same {S:List Addr}{H H':Hp}{x:V}{d:PyData} (r:RdS S H x d) (s:Same H H'):RdS S H' x d:=r.move (λb o _ e=>s b o e) λ_ n=>n
theorem RdSs.length {S:List Addr}{H:Hp}:∀ {xs:List V}{ds:List PyData},RdSs S H xs ds->xs.length=ds.length
 |_,_,.nil=>rfl
 |_,_,.cons _ t=>by simp [t.length]
theorem RdSs.pairs {S:List Addr}{H:Hp}:∀ {xs:List V}{ds:List PyData},RdSs S H xs ds->∃ ms:List (V × PyData),xs=ms.map (·.1)/\ds=ms.map (·.2)/\∀ m∈ms,RdS S H m.1 m.2
 |_,_,.nil=>⟨[],rfl,rfl,λm h=>nomatch h⟩
 |_,_,.cons (x:=x) (d:=d) h t=>by
  obtain ⟨ms,e1,e2,hm⟩:=t.pairs;refine ⟨(x,d) :: ms,by rw [e1];rfl,by rw [e2];rfl,λm hmm=>?_⟩;rcases YaF.mp hmm with rfl | z
  ·exact h
  ·exact hm m z
def tyD:PyData->String
 | .none => "NoneType"
 | .bool _ => "bool"
 | .int _ => "int"
 | .str _ => "str"
 | .list _ => "list"
 | .tuple _ => "tuple"
 | .dict _ => "dict"
theorem RdS.ty {S:List Addr}{H:Hp}{K:Yab}:∀ {x:V}{d:PyData},RdS S H x d->TyOf K H x (.type (tyD d))
 |_,_,.non=>.non
 |_,_,.bl b=>.bl b
 |_,_,.int i=>.int i
 |_,_,.str x=>.str x
 |_,_,.lst e _ _=>.lst e
 |_,_,.tup e _ _=>.tup e
 |_,_,.dct e _=>.dK e
def Zdt:PyData->Bool
 | .int _=>true
 |_=>false
theorem Zpf (K:Yab) (d:PyData):PySem.W.kitOne K (.type (tyD d)) (.type "int")=some (match d with | .int _=>true | .bool _=>true | _=>false):=by
 cases d <;> (simp only [tyD];kernel_rfl)
theorem Zil (K:Yab) (d:PyData):PySem.W.kitOne K (.type (tyD d)) (.type "bool")=some (match d with | .bool _=>true | _=>false):=by
 cases d <;> (simp only [tyD];kernel_rfl)
theorem Zni (K:Yab) (d:PyData):PySem.W.kitOne K (.type (tyD d)) (.type "list")=some (match d with | .list _=>true | _=>false):=by
 cases d <;> (simp only [tyD];kernel_rfl)
section
variable {P:Program}{w:World}{H:Hp}{h:Heap}{S:List Addr}
theorem dict_empty (ok:HOk P w H h) {a:Addr} (e:H a=some (.dK [])):(a == sysModules)=false/\∃ o n,h.get? a=some o/\o.cls=.type "dict" /\ o.data=.dict #[] n:=by
 obtain ⟨_,y,vs,r,o,es,ep,e1,c,d,_,pr,_⟩:=(show ObjOk P w H h a (.dK []) from ok a _ e);cases r;have hl:es.toList.length=0:=pr.length;have he:es = #[]:=by
  cases es with
  |mk l =>
   have:l=[]:=List.length_eq_zero_iff.mp hl;rw [this]
 rw [he] at d;exact ⟨y,o,ep,e1,c.1,d⟩
end
open PySem PySem.Spec PyProof.Rows
section
variable {X:Cx}
theorem Inv.big {pins:List (Addr × Obj)}{σ:St}{H:Hp}{s:Shared} (I:Inv X pins σ H s):sysModules<s.heap.objs.size:=by
 have h:mainGlobals<s.heap.objs.size:=(I.mod.glob.keeps I.bk).lt;exact Nat.lt_trans (by decide) h
def tRev (te:TE) (ts:TO):TE:=λσ H Q=>te σ H λx H1=>ts σ H1 λst H2=>∃ a xs,st=some (-1)/\x=.ref a/\H2 a=some (.lst xs)/\∀ p,H2 p=none->Q (.ref p) (upd H2 p (.lst xs.reverse))
theorem Zl3 {xs:List V}{us:List Value} (r:Vals xs us):Vals xs.reverse us.reverse:=by
 induction r with
 |nil=>exact .nil
 |cons h t ih =>
  rw [List.reverse_cons,List.reverse_cons];exact ih.append (.cons h .nil)
theorem Zn1 {e se:Expr}{te:TE}{ts:TO}{p2 pos:Pos} (he:PE X e te) (hs:PO X (some se) ts):PE X (.Subscript e (.Slice none none (some se) p2) pos) (tRev te ts):=by
 intro pins s σ H Q I h;refine Subscript_ (thn (he pins s σ H _ I h) λv s1 ⟨x,H1,I1,r1,q1⟩=>?_);refine wpAny_Slice ?_;rw [evalPart_none];refine Ya8 ?_;refine Ya8 ?_;refine thn (hs pins s1 σ H1 _ I1 q1) λvs s2 ⟨st,H2,I2,pst,q2⟩=>?_;obtain ⟨a,xs,rfl,rfl,hx,q⟩:=q2;cases r1;have I4:Inv X pins σ H2 { s2 with heap:=s2.heap.push { cls:=.type "slice",data:=.fields #[.none,.none,vs] } }:=I2.kept (t':=s2.toks) λb ob q=>Yad _ q;obtain ⟨its,r,ht,hz⟩:=I4.list (sqo hx);have hlen:=r.length;show wpAny (model X.prog X.w) X.A (subscriptTail e (.Slice none none (some se) p2) (.ref a) (.ref s2.heap.objs.size)) (EP X pins σ Q) X.xe { s2 with heap:=s2.heap.push { cls:=.type "slice",data:=.fields #[.none,.none,vs] } };refine tail_any (ops:=[.ref a,.ref s2.heap.objs.size]) ht.isList.typeIs slot_list_getitem.lookup ?_ rfl;refine wpAny_getItem_list_slice ht.isList (Heap.IsSliceOf.new ..) .none .none pst (by simp) ?_ (by rw [Yam] <;> omega);rw [PySem.W.krv_pick];refine ⟨.ref _,_,I4.laid (t':=s2.toks) (o:=.lst xs.reverse) (λb ob q=>Yad _ q) (Yag _) ?_,rfl,q _ (I4.hok.fresh (Yag _))⟩;have e:its.toArray.toList.reverse.toArray=its.reverse.toArray:=by simp
 rw [e];exact ⟨by rw [List.length_reverse];exact hz,its.reverse,0,Zl3 r,Yao _ rfl⟩
end
end L2
namespace L2
open PySem PySem.Spec PyProof.Rows
theorem Zc1 {X:Cx} (hc:X.calm=true):Zcc X (.builtin "sum") (λxs H Q=>∃ (p:Addr) (ns:List Int),xs=[.ref p]/\SqL X.K H p (ns.map V.int)/\Q (.int ns.sum) H):=by
 intro pins s σ H xs us Q I rv h;obtain ⟨p,ns,rfl,hq,q⟩:=h;obtain ⟨u,rfl,ru⟩:=rv.one;cases ru;obtain ⟨its,r,pl,_⟩:=I.list hq;have hi:=ZbL r;obtain ⟨ys,e⟩:=hi.allInts.items;have hl:=pl.isList;have en:ns=ys.toList.map (·.1):=by
  have e1:=hi.numsOf;have e2:=nums_intItems ys;rw [<- e] at e2;exact e1.symm.trans e2
 have es:preSum (numAt ys) ys.size=ns.sum:=by
  rw [preSum_eq,List.take_of_length_le (by simp),en]
 rw [e] at hl;refine sum_intListG (I.ok.hd hc) hl λh' tk t' hk=>?_;rw [es];exact ⟨.int _,H,I.kept hk,⟨_,rfl⟩,q⟩
theorem ZlJ {X:Cx} (hc:X.calm=true):Zcc X (.builtin "min") (λxs H Q=>∃ (p:Addr) (ns:List Int),xs=[.ref p]/\SqL X.K H p (ns.map V.int)/\0<ns.length/\∀ M,M∈ns->(∀ a∈ns,M<=a)->Q (.int M) H):=by
 intro pins s σ H xs us Q I rv h;obtain ⟨p,ns,rfl,hq,hne,q⟩:=h;obtain ⟨u,rfl,ru⟩:=rv.one;cases ru;obtain ⟨its,r,pl,_⟩:=I.list hq;have hi:=ZbL r;obtain ⟨ys,e⟩:=hi.allInts.items;have hl:=pl.isList;have en:ns=ys.toList.map (·.1):=by
  have e1:=hi.numsOf;have e2:=nums_intItems ys;rw [<- e] at e2;exact e1.symm.trans e2
 have lz:ys.size=ns.length:=by rw [en];simp
 rw [e] at hl;refine min_intList (I.ok.hd hc) hl (by omega) λv h' tk hv hk=>?_;obtain ⟨t,rfl⟩:=intItems_at hv;obtain ⟨b1,b2⟩:=argBest_lt (numAt ys) (ys.size - 1);refine ⟨.int _,H,I.kept hk,⟨_,rfl⟩,q _ ?_ λa ha=>?_⟩
 ·rw [en,numAt_eq];exact getD_mem (by rw [Yaa,YaD];omega)
 ·rw [en] at ha;obtain ⟨j,hj,rfl⟩:=mem_getD ha;rw [Yaa,YaD] at hj;have:=b2 j (by omega);rw [numAt_eq ys j] at this;exact this
theorem ZiF {α:Type}{K:Yab}{a:Addr}{ms:List α}{σ0:St}{H1:Hp}{tc:TT}{te:TE}{Q:VK} (u:α->V) (p:α->Bool) (f:α->V) (hq:SqT K H1 a (ms.map u)) (hn:ms.length<=sizeLine)
  (ht:∀ x∈ms,PuT tc (σ0.set 0 (some (u x))) H1 (p x)) (he:∀ x∈ms,p x=true->Pu te (σ0.set 0 (some (u x))) H1 (f x))
  (fin:∀ D H',H1 D=none->Same H1 H'->H' D=some (.lst ((ms.filter p).map f))->Q (.ref D) H') :
  ZaQ (Itt K a) (Za1 0) tc te σ0 H1 Q:=by
 intro D hD;refine Zcn (n:=ms.length) (λi ys H'=>Same H1 H'/\H' D=some (.lst ys)/\ys=((ms.take i).filter p).map f) ⟨snw hD,Zac,by simp⟩ (λi ys H' _ q=>q.2.1) (λi ys H' hi q=>⟨ms.map u,u ms[i],q.1.tup hq,by simp [hi]⟩)
  (λys H' q=>⟨ms.map u,q.1.tup hq,by simp⟩) ?_ (λys H' q=>?_)
 ·rintro i ys H' x H2 hi ⟨sm,hDl,hys⟩ ⟨rfl,hy⟩;have hx:(ms.map u)[i]? = some x:=hy _ (sm.tup hq);obtain ⟨z,hz,rfl⟩:∃ z,ms[i]? = some z/\u z=x:=by
   rw [Yaf] at hx;cases e:ms[i]? with
   |none=>rw [e] at hx;cases hx
   |some z=>rw [e] at hx;exact ⟨z,rfl,Yae hx⟩
  have hm:z∈ms:=YaP hz;have tk:ms.take (i+1)=ms.take i ++ [z]:=by
   rw [List.take_add_one,hz];simp only [Option.toList]
  have hlen:ys.length<=i:=by
   rw [hys,Yaa];exact Yay (Ybm _ _) (by rw [YaR];omega)
  refine ht z hm _ _ sm λH4 s4=>?_;cases hp:p z with
  |true =>
   refine iteT ?_;refine he z hm hp _ _ (sm.trans s4) λH5 s5=>⟨s5 _ _ (s4 _ _ hDl),by omega,((sm.trans s4).trans s5).upd hD,Zac,?_⟩;rw [tk,List.filter_append,Yah,<- hys];simp [hp]
  |false =>
   refine iteF ⟨sm.trans s4,s4 _ _ hDl,?_⟩;rw [tk,List.filter_append,Yah,<- hys];simp [hp]
 ·obtain ⟨sm,hDl,hys⟩:=q;rw [List.take_length] at hys;exact fin D H' hD sm (by rw [<- hys];exact hDl)
end L2
namespace L2
open PySem PySem.Spec PyProof.Rows PySem.Calls
theorem ZkP:typeLookup (.type "list_reverseiterator") "__len__" = pure none:=by
 rw [typeLookup_type,builtinLookup_eq_fast];kernel_rfl
theorem ZkQ:typeLookup (.type "list_reverseiterator") "__length_hint__" = pure (some (.builtin "list_reverseiterator.__length_hint__")):=by
 rw [typeLookup_type,builtinLookup_eq_fast];kernel_rfl
section
variable {prog:Program}{w:World}{A:Around}{E:Value->Shared->Prop}{s:Shared}
theorem Zng {r:Addr}{Q:Bool->Shared->Prop} (hT:s.TypeIs (.ref r) "list_reverseiterator") (h:Q false s):wpAny (model prog w) A (Builtin.List.listLengthHint (.ref r)) Q E s:=by
 unfold Builtin.List.listLengthHint;refine Ya3 (wpAny_specialOf hT ZkP ?_);show wpAny _ A (specialOf (Value.ref r) (Str.ofString "__length_hint__") >>= _) _ _ s;refine Ya3 (wpAny_specialOf hT ZkQ ?_);generalize hid:("list_reverseiterator.__length_hint__" : String)=id0
 wp_delta
 rw [show splitId id0=some ("list_reverseiterator","__length_hint__") by
  subst hid
  decide +kernel]
 subst hid;refine Ya3 (wpAny_isInstance (b:=true) hT (by
  rw [isSubtype_type]
  kernel_rfl) ?_)
 exact Ya8 h
theorem Znf {I l:Addr}{its:Array Value}{Q:Value->Shared->Prop} (hh:A.handled=none) (hit:s.heap.IsRevIter I l ((its.size:Int) - 1)) (hl:s.heap.IsList l its) (hne:l≠I) (hn:its.size<=sizeLine)
  (hQ:∀ h' tk acc' c',(∀ b o,b≠I->s.heap.get? b=some o->h'.get? b=some o)->h'.get? s.heap.objs.size=some { cls:=.type "list",dict:=none,data:=.seq acc' c',slots:=#[] } ->
   ItemsOf (λi v=>its[its.size - 1 - i]? = some v) acc' its.size->Q (.ref s.heap.objs.size) { s with heap:=h',toks:=tk }) :
  wpAny (model prog w) A (call (.type "list") [.ref I]) Q E s:=by
 have hI:I<s.heap.objs.size:=by
  obtain ⟨o,e,_⟩:=hit;exact Yal e
 have hL:l<s.heap.objs.size:=by
  obtain ⟨o,e,_⟩:=hl;exact Yal e
 generalize hz:s.heap.objs.size=S at hI hL hQ;have nSI:S≠I:=Nat.ne_of_gt hI;have nSl:S≠l:=Nat.ne_of_gt hL;refine callType_codes
  (Q₁:=λobj s₁=>obj=.ref S/\s₁ = { s with heap:=s.heap.push { cls:=.type "list",data:=.seq #[] } })
  PySem.F.called_list (PySem.F.typeCall_list_1 _) PySem.F.entry_list_init
  (code_list_new _ ⟨by rw [hz],rfl⟩) (λobj s₁ h₁=>?_)
 obtain ⟨rfl,rfl⟩:=h₁;have h0:(s.heap.push { cls:=.type "list",data:=.seq #[] }).get? S=some { cls:=.type "list",data:=.seq #[] }:=by
  rw [<- hz];exact Yao _ rfl
 refine ⟨⟨_,h0,rfl⟩,PySem.F.args_list_init_2 _ _,?_⟩;show wpAny _ _ (do
  let old <- Builtin.List.listItems (.ref S)
  Builtin.List.listUpdate (.ref S) (λ_=>#[])
  letGo old.toList.reverse
  Builtin.List.listExtendWith (.ref S) (.ref I) .none) _ _ _
 refine Ya3 ?_;unfold Builtin.List.listItems;refine Ya3 (wpAny_seqItems h0 rfl (Ya8 ?_));refine Ya3 (m:=updateSeq S (λ_=>#[])) (wpAny_updateSeq h0 rfl ?_);have h1:=Heap.get?_update_self (Obj.mapSeq (λ_=>(#[]:Array Value))) h0 rfl;have ot:∀ b o,b≠S->s.heap.get? b=some o->((s.heap.push { cls:=.type "list",data:=.seq #[] }).update S (Obj.mapSeq (λ_=>(#[]:Array Value)))).get? b=some o:=λb o hb e =>
  (YaY _ _ (Ne.symm hb)).trans (Yad _ e)
 generalize (s.heap.push { cls:=.type "list",data:=.seq #[] }).update S (Obj.mapSeq (λ_=>(#[]:Array Value)))=h2 at h1 ot ⊢;refine Ya3 (wpAny_letGo ?_);have hit2:h2.IsRevIter I l ((its.size:Int) - 1):=hit.at λo e=>ot _ _ (Ne.symm nSI) e;have hl2:h2.IsList l its:=hl.at λo e=>ot _ _ (Ne.symm nSl) e;unfold Builtin.List.listExtendWith;refine Ya3 (wpAny_typeOf (T := "list_reverseiterator") hit2.typeIs ?_);have e1:Builtin.List.listSameRef (.ref S) (.ref I)=false:=by
  simp [Builtin.List.listSameRef,nSI]
 have e2:(Value.type "list_reverseiterator" == Value.type "list")=false:=by decide
 have e3:(Value.type "list_reverseiterator" == Value.type "tuple")=false:=by decide
 simp only [e1,e2,e3,Bool.or_false,Bool.false_eq_true,if_false];refine Ya3 (wpAny_pyIter_revIter hit2 ?_);refine Ya3 (wpAny_holding (Zng hit2.typeIs ?_));rw [Ya6 (by decide)];have W:=Walks.listRev (prog:=prog) (w:=w) (A:=A.in1.in1) hh I l hne its;refine Ya8 ⟨plainId_quiet PySem.F.plain_extend_loop _,?_⟩;refine codeAny_extend_loopS W.toS hn S (by simp [nSI,nSl]) .none its.size 0 _ #[] _ rfl (YaH _) ?_ h1 (ItemsOf.nil _) (λs' acc' c' hm hS' hacc=>?_)
 ·refine ⟨YaH _,?_,hl2⟩;simpa using hit2
 ·rw [Moved.eq_with hm];refine ⟨rfl,hQ s'.heap s'.toks acc' c' (λb o hb e=>?_) hS' hacc⟩;have hbS:b≠S:=λz=>by
   rw [z,<- hz] at e;exact Ybq _ (Yal e)
  exact hm.heap b o (by simp [hbS,hb]) (ot b o hbS e)
end
open PySem PySem.Spec PyProof.Rows
def ZqV (K:Yab) (te:TE):TE:=λσ H Q=>te σ H λx H1=>∃ a xs,x=.ref a/\SqL K H1 a xs/\∀ p,H1 p=none->Q (.ref p) (upd H1 p (.lst xs.reverse))
theorem ZeW {X:Cx}{e:Expr}{te:TE}{p1 p2 pos2 pos:Pos} (hc:X.calm=true) (hml:X.mg "list" = none) (hmr:X.mg "reversed" = none) (he:PE X e te) (hgl:Gl X "list" := by rfl) (hgr:Gl X "reversed" := by rfl)
  (k1:starEach [e] X.env=[(false,eval e X.env)]:=by rfl) :
  PE X (.Call (.Name "list" p1) [.Call (.Name "reversed" p2) [e] [] pos2] [] pos) (ZqV X.K te):=by
 intro pins s σ H Q I h;refine wpAny_Call_Name_kw (Zcd I hgl hml boot_list ?_ (by decide) (by decide));refine PyProof.Rows.callWith_type1 ?_ rfl rfl;show wpAny _ _ (spliced ((false,eval (.Call (.Name "reversed" p2) [e] [] pos2) X.env) :: backTo pos (starEach [] X.env))) _ _ s;refine Calls.spliced_cons ?_;refine wpAny_Call_Name_kw (Zcd I hgr hmr boot_reversed ?_ (by decide) (by decide));refine PyProof.Rows.callWith_type1 ?_ k1 rfl;rw [k1];show wpAny _ _ (spliced ((false,eval e X.env) :: backTo pos2 (starEach [] X.env))) _ _ s;refine Calls.spliced_cons (thn (he pins s σ H _ I h) λu s1 ⟨x,H1,I1,r1,a,xs,ex,hq,q⟩=>?_);subst ex;cases r1;obtain ⟨its,rv,pl,hz⟩:=I1.list hq;have hl:=pl.isList;refine Calls.spliced_nil ?_;refine call_reversed_list hl ?_;refine Calls.spliced_nil ?_;have hlt:a<s1.heap.objs.size:=by
  obtain ⟨o,eo,_⟩:=hl;exact Yal eo
 have hlen:=rv.length;refine Znf (I:=s1.heap.objs.size) (l:=a) (its:=its.toArray) (I1.ok.hd hc) ⟨_,Yao _ rfl,rfl,rfl⟩ (hl.push _) (Yap hlt) (by rw [Yam];omega) (λh' tk acc' c' hk hS hacc=>?_);have hk1:∀ b o,s1.heap.get? b=some o->h'.get? b=some o:=λb o eb=>hk b o (Yap (Yal eb)) (Yad _ eb);have hrev:acc'.toList=its.reverse:=by
  apply List.ext_getElem?;intro i
  by_cases hi:i<its.length
  ·rw [List.getElem?_reverse hi];have h2:i<acc'.size:=by
    rw [hacc.1,Yam];exact hi
   have h3:=hacc.2 i acc'[i] (Array.getElem?_eq_getElem h2);rw [Yam] at h3;rw [Array.getElem?_toList,Array.getElem?_eq_getElem h2,<- h3];simp
  ·rw [List.getElem?_eq_none (by rw [YaD,hacc.1,Yam];omega),List.getElem?_eq_none (by rw [List.length_reverse];omega)]
 refine ⟨.ref _,_,I1.laid (t':=tk) (o:=.lst xs.reverse) hk1 (by show _<=(s1.heap.push _).objs.size;rw [Heap.size_push];exact Nat.le_succ _) ⟨by rw [List.length_reverse];exact hz,its.reverse,c',rv.reverse,?_⟩,rfl,q _ (I1.hok.fresh (by show _<=(s1.heap.push _).objs.size;rw [Heap.size_push];exact Nat.le_succ _))⟩;rw [<- hrev,Array.toArray_toList];exact hS
theorem Zco {X:Cx}:Zcc X (.builtin "sorted") (λxs H Q=>∃ (a:Addr) (ns:List Int),xs=[.ref a]/\SqL X.K H a (ns.map V.int)/\ns.length<64/\∀ (D:Addr) (ms:List Int),H D=none->ms.Perm ns->ms.Pairwise (·<=·)->Q (.ref D) (upd H D (.lst (ms.map V.int)))):=by
 intro pins s σ H xs us Q I rv h;obtain ⟨a,ns,rfl,hq,h64,q⟩:=h;obtain ⟨u,rfl,ru⟩:=rv.one;cases ru;obtain ⟨its,r,pl,hz⟩:=I.list hq;have hlen:=r.length;rw [Yaa] at hlen;refine sorted_ints pl.isList (ZbL r) (by omega) λout ms hi hp hs=>?_;obtain ⟨e,he⟩:=sortedAll_at s.heap its out;refine ⟨.ref _,_,I.laid (t':=s.toks) (o:=.lst (ms.map V.int)) (λb o=>sortedAll_old) (Nat.le_succ _) ⟨?_,out.toList,e,ZdP hi,?_⟩,rfl,q _ ms (I.hok.fresh (Nat.le_succ _)) hp hs⟩
 ·rw [Yaa,hp.length_eq];exact Nat.le_of_lt (Zav (by omega))
 ·rw [Array.toArray_toList];exact he
open PySem PySem.Spec PyProof.Rows
theorem ZfU {ns:List Int}{i:Nat}{x:V} (h:(ns.map V.int)[i]? = some x):i<ns.length/\x=.int (ns.getD i 0):=by
 have hi:i<ns.length:=by
  have:=(Yai.mp h).1;rw [Yaa] at this;exact this
 refine ⟨hi,?_⟩;rw [Yaf,Yac hi] at h;rw [Yat,Yac hi];exact (Yae h).symm
theorem ZgW {K:Yab}{a:Addr}{ns:List Int}{σ0:St}{H1:Hp}{te:TE}{Q:VK} (f:Nat->V) (hq:SqL K H1 a (ns.map V.int)) (hn:ns.length<=1000)
  (he:∀ i,i<ns.length->Pu te ((σ0.set 0 (some (.int (i:Nat)))).set 1 (some (.int (ns.getD i 0)))) H1 (f i))
  (fin:∀ D H',H1 D=none->Same H1 H'->H' D=some (.lst ((List.range ns.length).map f))->Q (.ref D) H') :
  ZaQ (Ite K a) (gTup K 2 (Zb7 (Za1 0) (Zb7 (Za1 1) gNil))) Zbu te σ0 H1 Q:=by
 refine Zex (xs:=ns.map V.int) (λD i ys H'=>Same H1 H'/\H' D=some (.lst ys)/\ys=(List.range i).map f) (λD hD=>⟨snw hD,Zac,by simp⟩) (λD i ys H' _ _ ⟨sm,e,_⟩=>⟨e,sm.seq hq⟩) ?_ ?_
 ·rintro D i x ys H' T hD hx ⟨sm,hDl,hys⟩ hT;obtain ⟨hi,rfl⟩:=ZfU hx;have smT:Same H' (upd H' T (.tup [.int (i:Nat),.int (ns.getD i 0)])):=snw hT;unfold Zbu;refine iteT ?_;refine he i hi _ _ (sm.trans smT) λH5 s5=>⟨s5 _ _ (smT _ _ hDl),?_,((sm.trans smT).trans s5).upd hD,Zac,?_⟩
  ·rw [hys,Yaa,List.length_range];exact Zav (by omega)
  ·rw [List.range_succ,Yah,<- hys];rfl
 ·rintro D ys H' hD ⟨sm,hDl,hys⟩;rw [Yaa] at hys;exact fin D H' hD sm (by rw [hDl,hys])
theorem ZlC {K:Yab}{a c:Addr}{ns ms:List Int}{σ0:St}{H1:Hp}{te:TE}{Q:VK} (f:Nat->V) (hq:SqL K H1 a (ns.map V.int)) (hq2:SqL K H1 c (ms.map V.int)) (hlen:ns.length=ms.length) (hn:ns.length<=1000)
  (he:∀ i,i<ns.length->Pu te ((σ0.set 0 (some (.int (ns.getD i 0)))).set 1 (some (.int (ms.getD i 0)))) H1 (f i))
  (fin:∀ D H',H1 D=none->Same H1 H'->H' D=some (.lst ((List.range ns.length).map f))->Q (.ref D) H') :
  ZaQ (Itz K a c) (gTup K 2 (Zb7 (Za1 0) (Zb7 (Za1 1) gNil))) Zbu te σ0 H1 Q:=by
 intro D hD;refine ⟨λi m ys σ' H'=>m=ns.length - i/\i<=ns.length/\(∀ u v,(σ'.set 0 u).set 1 v=(σ0.set 0 u).set 1 v)/\Same H1 H'/\H' D=some (.lst ys)/\ys=(List.range i).map f,⟨ns.length,by simp,YaH _,λ_ _=>rfl,snw hD,Zac,by simp⟩,?_⟩;rintro i m ys σ' H' ⟨rfl,hi,es,sm,hDl,hys⟩;refine ⟨hDl,?_⟩;have q:=sm.seq hq;have q2:=sm.seq hq2
 by_cases hlt:i<ns.length
 ·refine .inr ⟨⟨_,_,.int ns[i],.int (ms[i]'(by omega)),q,q2,by simp [hlt],by simp⟩,λx H2 y=>?_⟩;obtain ⟨T,z,z2,rfl,hT,rfl,y,y2⟩:=y;obtain ⟨_,rfl⟩:=ZfU (y _ q);obtain ⟨_,rfl⟩:=ZfU (y2 _ q2);have smT:Same H' (upd H' T (.tup [.int (ns.getD i 0),.int (ms.getD i 0)])):=snw hT;refine ⟨T,_,rfl,sqt Zac,rfl,_,_,rfl,_,_,rfl,rfl,?_⟩;unfold Zbu;refine iteT ?_;rw [es];refine he i hlt _ _ (sm.trans smT) λH5 s5=>⟨s5 _ _ (smT _ _ hDl),?_,ns.length - (i+1),by omega,rfl,hlt,λ_ _=>set2,((sm.trans smT).trans s5).upd hD,Zac,?_⟩
  ·rw [hys,Yaa,List.length_range];exact Zav (by omega)
  ·rw [List.range_succ,Yah,<- hys];rfl
 ·have e:i=ns.length:=by omega
  subst e;exact .inl ⟨⟨_,_,q,q2,.inl (by rw [Yaa];exact Yag _)⟩,fin D H' hD sm (by rw [hDl,hys])⟩
theorem Zp6 {X:Cx}{N':List Str}{scope:Scope}{cl:List (Str × Addr)}{C:Addr}{s2:Shared}{H2:Hp}{ex:List Addr}{y z:Str}{p1 p2 pos:Pos}{k:Nat} (K:Yab) (hc:X.calm=true) (nd:N'.Nodup) (h0:N'[0]? = some y:=by rfl) (h1:N'[1]? = some z:=by rfl)
  (hy:(relabel scope X.env).names.lookup y=some .local:=by rfl) (hz:(relabel scope X.env).names.lookup z=some .local:=by rfl) (hK:X.K=K:=by rfl) :
  PG (X.comp N' scope cl C s2 H2 ex) (.Tuple [.Name y p1,.Name z p2] k pos) (gTup K 2 (Zb7 (Za1 0) (Zb7 (Za1 1) gNil))):=Zgm K hc nd h0 h1 hy hz hK
end L2
namespace L2
open PySem PySem.Spec PyProof.Rows
def Itv (K:Yab) (a:Addr) (n:Nat):It :=
 ⟨λi H=>i<n/\∃ xs x,SqL K H a xs/\xs[n - 1 - i]? = some x,λi H x H'=>H'=H/\∀ xs,SqL K H a xs->xs[n - 1 - i]? = some x,λi _=>i=n⟩
theorem Zl9 {P:Program}{w:World}{K:Yab}{tg:Expr} (a it:Addr) (n:Nat):Turn P w K tg (Itv K a n) [it] it (λi h=>h.IsRevIter it a ((n:Int) - 1 - (i:Nat))) where
 mem:=by simp
 obj:=λi h st b hb=>by
  have e:b=it:=by simpa using hb
  subst e;obtain ⟨o,e,c,d⟩:=st;exact ⟨o,e,λv z=>by rw [d] at z;cases z⟩
 keep:=λi h h' st k=>Heap.IsRevIter.at st λo e=>k it (by simp) o e
 item:=by
  intro X hP hw hK hc i pins s σ H E I hf st hg;subst hP hw hK;obtain ⟨hin,xs,x,hq,hx⟩:=hg;obtain ⟨its,rv,p,hz⟩:=I.list hq;obtain ⟨u,hu,ru⟩:=rv.get hx;obtain ⟨f0,f1,f2,f3,f4,f5⟩:=hf it (by simp);have e1:((n:Int) - 1 - (i:Nat))=((n - 1 - i:Nat):Int):=by omega
  have st1:s.heap.IsRevIter it a ((n - 1 - i:Nat):Int):=by rw [<- e1];exact st
  refine wpAny_pyNext_rev_item st1 p.isList (x:=u) (by simpa using hu) λh' st' sb=>?_;have e2:(((n - 1 - i:Nat):Int) - 1)=((n:Int) - 1 - ((i+1:Nat):Int)):=by omega
  rw [e2] at st';have I1:Inv X pins σ H { s with heap:=h' }:=I.turned (t':=s.toks) (λb o hb e=>(sb.2 b hb).trans e) f0 f1 f3 f4 f5;obtain ⟨o,e,c,d⟩:=id st';exact ⟨u,rfl,Zk9 (s:={ s with heap:=h' }) e c d (by decide) ⟨x,H,I1,ru,⟨rfl,λys hy=>by rw [I.list_inj hy hq];exact hx⟩,st',λb hb=>(hf b hb).1⟩⟩
 done:=by
  intro X hP hw hK hc i pins s σ H E I hf st hg;subst hP hw hK;have hi:i=n:=hg;subst hi;obtain ⟨f0,f1,f2,f3,f4,f5⟩:=hf it (by simp);have e1:((i:Int) - 1 - (i:Nat)) = -1:=by omega
  have st1:s.heap.IsRevIter it a (-1):=by rw [<- e1];exact st
  exact wpAny_pyNext_rev_end (I.ok.hd hc) st1 λh' eb=>⟨rfl,I.turned (t':=s.toks) (λb o hb e=>eb b o hb e) f0 f1 f3 f4 f5⟩
 self:=λ_ _ _ _ _ st h=>wpAny_pyIter_revIter st h
def iRev (K:Yab) (ta:TA):TI:=λσ H R=>ta σ H λvs H1=>∃ a xs,vs=[.ref a]/\SqL K H1 a xs/\R (Itv K a xs.length) H1
theorem Zn0 {X:Cx}{tg a:Expr}{ta:TA}{p pos:Pos} (hg:Gl X "reversed") (hm:X.mg "reversed" = none) (ha:PA X [a] ta) (hs:starEach [a] X.env=[(false,eval a X.env)]:=by rfl) :
  PI X tg (.Call (.Name "reversed" p) [a] [] pos) (iRev X.K ta):=by
 intro pins s σ H R I h;refine Call_ (Zcd I hg hm boot_reversed (PyProof.Rows.callWith_type1 (thn (ha pos pins s σ H _ I h) λus s1 ⟨vs,H1,I1,r1,q1⟩=>?_) hs rfl));obtain ⟨a,xs,e,hq,q⟩:=q1;subst e;obtain ⟨u,rfl,ru⟩:=r1.one;cases ru;obtain ⟨its,rv,pl,hz⟩:=I1.list hq;have hl:=rv.length;have st:(s1.heap.push (revObj a ((its.toArray.size:Int) - 1))).IsRevIter s1.heap.objs.size a ((xs.length:Int) - 1 - ((0:Nat):Int)):=by
  refine ⟨_,Yao _ rfl,rfl,?_⟩;have e:((its.toArray.size:Int) - 1)=((xs.length:Int) - 1 - ((0:Nat):Int)):=by
   rw [Yam];omega
  rw [<- e];rfl
 refine call_reversed_list pl.isList (wpAny_pyIter_revIter st ?_);refine ⟨s1.heap.objs.size,[s1.heap.objs.size],_,_,H1,rfl,I1.kept (t':=s1.toks) λb o e=>Yad _ e,Zl9 a _ xs.length,st,λb hb=>?_,q⟩;have e:b=s1.heap.objs.size:=by simpa using hb
 subst e;exact I1.fpOk (Yag _) (I1.hok.fresh (Yag _))
theorem Zjq {α:Type}{J:It}{ms:List α}{σ0:St}{H1:Hp}{te:TE}{Q:VK} (u:α->V) (f:α->V) (hn:ms.length<=sizeLine)
  (hgo:∀ i H',i<ms.length->Same H1 H'->J.go i H') (hst:∀ H',Same H1 H'->J.stop ms.length H') (hy:∀ i H' x H2 (h:i<ms.length),Same H1 H'->J.yld i H' x H2->H2=H'/\x=u ms[i])
  (he:∀ x∈ms,Pu te (σ0.set 0 (some (u x))) H1 (f x))
  (fin:∀ D H',H1 D=none->Same H1 H'->H' D=some (.lst (ms.map f))->Q (.ref D) H') :
  ZaQ J (Za1 0) Zbu te σ0 H1 Q:=by
 intro D hD;refine Zcn (n:=ms.length) (λi ys H'=>Same H1 H'/\H' D=some (.lst ys)/\ys=(ms.take i).map f) ⟨snw hD,Zac,by simp⟩ (λi ys H' _ q=>q.2.1) (λi ys H' hi q=>hgo i H' hi q.1)
  (λys H' q=>hst H' q.1) ?_ (λys H' q=>?_)
 ·rintro i ys H' x H2 hi ⟨sm,hDl,hys⟩ y;obtain ⟨rfl,rfl⟩:=hy i H' x H2 hi sm y;unfold Zbu;refine iteT ?_;refine he ms[i] (YaL hi) _ _ sm λH5 s5=>⟨s5 _ _ hDl,?_,(sm.trans s5).upd hD,Zac,?_⟩
  ·rw [hys,Yaa,YaR];omega
  ·rw [List.take_add_one,Yac hi,Yah,<- hys];rfl
 ·obtain ⟨sm,hDl,hys⟩:=q;rw [List.take_length] at hys;exact fin D H' hD sm (by rw [<- hys];exact hDl)
theorem ZdB {α:Type}{ms:List α}{u:α->V}{i:Nat} (h:i<ms.reverse.length):(ms.map u)[(ms.map u).length - 1 - i]? = some (u ms.reverse[i]):=by
 have h2:i<ms.length:=by rw [List.length_reverse] at h;exact h
 rw [Yaf,Yaa,Yac (by omega),List.getElem_reverse];rfl
theorem ZlA {α:Type}{K:Yab}{a:Addr}{ms:List α}{σ0:St}{H1:Hp}{te:TE}{Q:VK} (u:α->V) (f:α->V) (hq:SqL K H1 a (ms.map u)) (hn:ms.length<=sizeLine)
  (he:∀ x∈ms.reverse,Pu te (σ0.set 0 (some (u x))) H1 (f x))
  (fin:∀ D H',H1 D=none->Same H1 H'->H' D=some (.lst (ms.reverse.map f))->Q (.ref D) H') :
  ZaQ (Itv K a (ms.map u).length) (Za1 0) Zbu te σ0 H1 Q :=
 Zjq (ms:=ms.reverse) u f (by rw [List.length_reverse];exact hn) (λi H' hi sm=>⟨by simpa using hi,_,_,sm.seq hq,ZdB hi⟩) (λH' sm=>by show ms.reverse.length=(ms.map u).length;simp)
  (λi H' x H2 hi sm y=>⟨y.1,by
   have:=y.2 _ (sm.seq hq);rw [ZdB hi] at this
   exact (Yae this).symm⟩) he fin
theorem ZlB {α:Type}{K:Yab}{a:Addr}{ms:List α}{σ0:St}{H1:Hp}{te:TE}{Q:VK} (u:α->V) (o:α->HO) (hq:SqL K H1 a (ms.map u)) (hn:ms.length<=1000)
  (he:∀ x∈ms.reverse,∀ (H':Hp) (Q':VK),Same H1 H'->(∀ l H'',H' l=none->Same H' H''->H'' l=some (o x)->Q' (.ref l) H'')->te (σ0.set 0 (some (u x))) H' Q')
  (fin:∀ (D:Addr) (qs:List (Addr × α)) (H':Hp),H1 D=none->qs.map (·.2)=ms.reverse->(qs.map (·.1)).Nodup->(∀ q∈qs,H' q.1=some (o q.2)/\H1 q.1=none/\q.1≠D)->Same H1 H'->H' D=some (.lst (qs.map λq=>V.ref q.1))->Q (.ref D) H') :
  ZaQ (Itv K a (ms.map u).length) (Za1 0) Zbu te σ0 H1 Q :=
 Zew (ms:=ms.reverse) u o (by rw [List.length_reverse];exact hn) (λi H' hi sm=>⟨by simpa using hi,_,_,sm.seq hq,ZdB hi⟩) (λH' sm=>by show ms.reverse.length=(ms.map u).length;simp)
  (λi H' x H2 hi sm y=>⟨y.1,by
   have:=y.2 _ (sm.seq hq);rw [ZdB hi] at this
   exact (Yae this).symm⟩) he fin
theorem Ze0 {α:Type}{K:Yab}{a:Addr}{cs:List α}{σ0:St}{H1:Hp}{te:TE}{Q:VK} (ad:α->Addr) (f1 f2:α->V) (o:α->HO) (hq:SqL K H1 a (cs.map λc=>V.ref (ad c))) (hc:∀ c∈cs,H1 (ad c)=some (.tup [f1 c,f2 c])) (hn:cs.length<=1000)
  (he:∀ c∈cs,∀ (H':Hp) (Q':VK),Same H1 H'->(∀ l H'',H' l=none->Same H' H''->H'' l=some (o c)->Q' (.ref l) H'')->te ((σ0.set 0 (some (f1 c))).set 1 (some (f2 c))) H' Q')
  (fin:∀ (D:Addr) (qs:List (Addr × α)) (H':Hp),H1 D=none->qs.map (·.2)=cs->(∀ q∈qs,H' q.1=some (o q.2)/\H1 q.1=none/\q.1≠D)->Same H1 H'->H' D=some (.lst (qs.map λq=>V.ref q.1))->Q (.ref D) H') :
  ZaQ (Itl K a) (gTup K 2 (Zb7 (Za1 0) (Zb7 (Za1 1) gNil))) Zbu te σ0 H1 Q:=by
 intro D hD;refine ⟨λi m ys σ' H'=>m=cs.length - i/\i<=cs.length/\(∀ u v,(σ'.set 0 u).set 1 v=(σ0.set 0 u).set 1 v)/\∃ qs:List (Addr × α),Same H1 H'/\H' D=some (.lst ys)/\ys=(qs.map λq=>V.ref q.1)/\qs.map (·.2)=cs.take i/\∀ q∈qs,H' q.1=some (o q.2)/\H1 q.1=none/\q.1≠D,
  ⟨cs.length,by simp,YaH _,λ_ _=>rfl,[],snw hD,Zac,rfl,by simp,λq hq=>nomatch hq⟩,?_⟩
 rintro i m ys σ' H' ⟨rfl,hi,es,qs,sm,hDl,hys,hqm,hqs⟩;refine ⟨hDl,?_⟩;have q:=sm.seq hq
 by_cases hlt:i<cs.length
 ·refine .inr ⟨⟨_,V.ref (ad cs[i]),q,by simp [hlt]⟩,λx H2 y=>?_⟩;obtain ⟨rfl,y⟩:=y;have y:=y _ q;rw [Yaf,Yac hlt] at y;have hx:V.ref (ad cs[i])=x:=Yae y;subst hx;refine ⟨ad cs[i],_,rfl,sqt (sm _ _ (hc cs[i] (YaL hlt))),rfl,_,_,rfl,_,_,rfl,rfl,?_⟩;unfold Zbu;refine iteT ?_;rw [es];refine he cs[i] (YaL hlt) _ _ sm λl H5 hl s5 el=>?_;have nlD:D≠l:=Zai hDl hl;have ql:qs.length=i:=by
   have:=congrArg List.length hqm;rw [Yaa,YaR] at this;omega
  refine ⟨s5 _ _ hDl,?_,cs.length - (i+1),by omega,rfl,hlt,λ_ _=>set2,qs ++ [(l,cs[i])],(sm.trans s5).upd hD,Zac,?_,?_,?_⟩
  ·rw [hys,Yaa,ql];exact Zav (by omega)
  ·rw [hys,Yah];rfl
  ·rw [Yah,hqm,List.take_add_one,Yac hlt];rfl
  ·intro r hr;rcases YaG.mp hr with z | z
   ·obtain ⟨z1,z2,z3⟩:=hqs r z;exact ⟨by rw [Zag z3];exact s5 _ _ z1,z2,z3⟩
   ·have:r=(l,cs[i]):=by simpa using z
    subst this;exact ⟨by rw [Zag (Ne.symm nlD)];exact el,sm.free hl,Ne.symm nlD⟩
 ·have e:i=cs.length:=by omega
  subst e;rw [List.take_length] at hqm;exact .inl ⟨⟨_,q,by simp⟩,fin D qs H' hD hqm hqs sm (by rw [<- hys];exact hDl)⟩
end L2
namespace L2
open PySem PySem.Spec PyProof.Rows
def Cx.compC (X:Cx) (N':List Str) (scope:Scope) (cl:List (Str × Addr)) (C:Addr) (s2:Shared) (H2:Hp) (ex:List Addr):Cx :=
 { X with N:=N',s₀:=s2,H₀:=H2,env:=compEnvC scope cl C X.env,outer:=X.stack,ex:=ex,fn:=λx=>decide (scope.names.lookup x=some .cell),pn:=[],xe:=λ_ _=>False }
theorem ZfQ:∀ (names:List (Str × NameKind)) (h:Heap) (acc:List (Str × Addr)) (x:Str) (c:Addr),(cellsFrom h.objs.size names acc).lookup x=some c ->
  acc.lookup x=some c\/((x,NameKind.cell)∈names/\h.objs.size<=c/\(pushCells h names).IsCell c none)
 | [],_,_,_,_,e=>.inl e
 | (n,k) :: r,h,acc,x,c,e=>by
  unfold cellsFrom at e;unfold pushCells
  by_cases hk:(k == NameKind.cell)=true
  ·rw [Ya7 hk] at e ⊢;have hk':k=NameKind.cell:=by simpa using hk
   subst hk';have hsz:(h.push { cls:=.type "cell",data:=.cell none }).objs.size=h.objs.size+1:=Heap.size_push ..;rw [<- hsz] at e;rcases ZfQ r _ _ x c e with z | ⟨z1,z2,z3⟩
   ·rw [List.lookup_cons] at z;cases hx:x == n with
    |true =>
     rw [hx] at z;cases z;have:x=n:=by simpa using hx
     subst this;exact .inr ⟨YaM,Yag _,_,pushCells_keeps r _ _ _ (Yao _ rfl),rfl⟩
    |false =>
     rw [hx] at z;exact .inl z
   ·exact .inr ⟨Yas _ z1,by omega,z3⟩
  ·rw [Ya6 hk] at e ⊢;rcases ZfQ r h acc x c e with z | ⟨z1,z2,z3⟩
   ·exact .inl z
   ·exact .inr ⟨Yas _ z1,z2,z3⟩
theorem ZlH:∀ (names:List (Str × NameKind)) (n:Nat) (acc:List (Str × Addr)),(∀ x y c,acc.lookup x=some c->acc.lookup y=some c->x=y)->(∀ x c,acc.lookup x=some c->c<n) ->
  ∀ x y c,(cellsFrom n names acc).lookup x=some c->(cellsFrom n names acc).lookup y=some c->x=y
 | [],_,_,h,_=>h
 | (m,k) :: r,n,acc,h,hl=>by
  unfold cellsFrom
  by_cases hk:(k == NameKind.cell)=true
  ·rw [Ya7 hk];refine ZlH r (n+1) _ (λx y c hx hy=>?_) λx c hx=>?_
   ·rw [List.lookup_cons] at hx hy;cases ex:x == m with
    |true =>
     rw [ex] at hx;cases ey:y == m with
     |true=>rw [beq_iff_eq.mp ex,beq_iff_eq.mp ey]
     |false =>
      rw [ey] at hy;have:=hl y c hy;cases hx;exact absurd this (Ybq _)
    |false =>
     rw [ex] at hx;cases ey:y == m with
     |true =>
      rw [ey] at hy;have:=hl x c hx;cases hy;exact absurd this (Ybq _)
     |false =>
      rw [ey] at hy;exact h x y c hx hy
   ·rw [List.lookup_cons] at hx;cases ex:x == m with
    |true=>rw [ex] at hx;cases hx;exact Nat.lt_succ_self _
    |false=>rw [ex] at hx;exact Nat.lt_succ_of_lt (hl x c hx)
  ·rw [Ya6 hk];exact ZlH r n acc h hl
theorem ZlI:∀ (names:List (Str × NameKind)) (n:Nat) (acc:List (Str × Addr)) (x:Str),((∃ c,acc.lookup x=some c)\/(x,NameKind.cell)∈names)->∃ c,(cellsFrom n names acc).lookup x=some c
 | [],_,_,x,h=>by
  rcases h with h | h
  ·exact h
  ·cases h
 | (m,k) :: r,n,acc,x,h=>by
  unfold cellsFrom
  by_cases hk:(k == NameKind.cell)=true
  ·rw [Ya7 hk];refine ZlI r (n+1) _ x ?_;rw [List.lookup_cons];cases ex:x == m with
   |true=>exact .inl ⟨n,rfl⟩
   |false =>
    rcases h with h | h
    ·exact .inl h
    ·rcases YaF.mp h with z | z
     ·cases z;simp at ex
     ·exact .inr z
  ·rw [Ya6 hk];refine ZlI r n acc x ?_;rcases h with h | h
   ·exact .inl h
   ·rcases YaF.mp h with z | z
    ·cases z;exact absurd rfl hk
    ·exact .inr z
theorem ZiG:∀ (names:List (Str × NameKind)) (n:Nat) (acc:List (Str × Addr)) (x:Str),(x,NameKind.cell)∉names->(cellsFrom n names acc).lookup x=acc.lookup x
 | [],_,_,_,_=>rfl
 | (m,k) :: r,n,acc,x,h=>by
  unfold cellsFrom;have hr:(x,NameKind.cell)∉r:=λz=>h (Yas _ z)
  by_cases hk:(k == NameKind.cell)=true
  ·rw [Ya7 hk,ZiG r (n+1) _ x hr,List.lookup_cons];cases ex:x == m with
   |true =>
    have hk':k=NameKind.cell:=by simpa using hk
    have:x=m:=by simpa using ex
    subst hk' this;exact absurd YaM h
   |false=>rfl
  ·rw [Ya6 hk];exact ZiG r n acc x hr
theorem ZlG:∀ (names:List (Str × NameKind)) (n:Nat) (acc:List (Str × Addr)) (x:Str) (c:Addr),(x,NameKind.cell)∈names->(cellsFrom n names acc).lookup x=some c->n<=c
 | [],_,_,_,_,h,_=>by cases h
 | (m,k) :: r,n,acc,x,c,h,e=>by
  unfold cellsFrom at e
  by_cases hk:(k == NameKind.cell)=true
  ·rw [Ya7 hk] at e
   by_cases hr:(x,NameKind.cell)∈r
   ·have:=ZlG r (n+1) _ x c hr e;omega
   ·rw [ZiG r (n+1) _ x hr] at e;rcases YaF.mp h with z | z
    ·cases z;rw [List.lookup_cons] at e;simp at e;exact Nat.le_of_eq e
    ·exact absurd z hr
  ·rw [Ya6 hk] at e;rcases YaF.mp h with z | z
   ·cases z;exact absurd rfl hk
   ·exact ZlG r n acc x c z e
theorem ZgA {M:Model}{A:Around}{E:Value->Shared->Prop}{s:Shared}{scope:Scope}{globals:Addr}{cl:List (Str × Addr)}{qual:Str}{env:Env}{Q:Env->Shared->Prop}
  (hQ:Q (newEnv scope s.heap.objs.size globals (cellsFrom (s.heap.objs.size+1) scope.names cl) qual none .none (some env) builtinsNs) { s with heap:=pushCells (s.heap.push { cls:=.type "dict",data:=.dict #[] }) scope.names }) :
  wpAny M A (newFunctionEnv scope globals cl [] qual none .none (some env)) Q E s:=by
 simp only [newFunctionEnv,Option.isSome_some,if_true];refine Ya3 (wpAny_alloc ?_);refine Ya3 (wpAny_layCells _ (λname kind cells=>by cases hkc:kind == NameKind.cell <;> simp [hkc]) _ _ _ _ ?_);rw [List.forIn_nil];refine Ya3 (Ya8 (Ya8 ?_));rw [show ({ s with heap:=s.heap.push { cls:=.type "dict",data:=.dict #[] } }:Shared).heap.objs.size=s.heap.objs.size+1 from Heap.size_push ..];exact hQ
def ZhM (osc scope:Scope) (N Nb:List Str) (ix:List (Option Nat)):Bool :=
 decide (scope.kind=.function) && scope.names.all (λy=>decide (y.2=.cell->scope.names.lookup y.1=some .cell)) &&
 scope.names.all (λy=>decide (y.2=.local->scope.names.lookup y.1=some .local)) &&
 scope.names.all (λy=>decide (y.2=.free->osc.names.lookup y.1=some .cell\/osc.names.lookup y.1=some .free)) &&
 decide (ix.length=Nb.length) &&
 (List.range Nb.length).all (λi=>match ix[i]? with
  |some (some j)=>match Nb[i]? with
   |some x=>decide (N[j]? = some x/\scope.names.lookup x=some .free)
   |none=>true
  |_=>true)
structure CompOkC (osc scope:Scope) (N Nb:List Str) (ix:List (Option Nat)):Prop where
 kind:scope.kind=.function
 cells:∀ y∈scope.names,y.2=.cell->scope.names.lookup y.1=some .cell
 names:∀ y∈scope.names,y.2=.local->scope.names.lookup y.1=some .local
 fr:∀ y∈scope.names,y.2=.free->osc.names.lookup y.1=some .cell\/osc.names.lookup y.1=some .free
 len:ix.length=Nb.length
 src:∀ (i j:Nat) (x:Str),Nb[i]? = some x->ix[i]? = some (some j)->N[j]? = some x/\scope.names.lookup x=some .free
theorem Zjr {osc scope:Scope}{N Nb:List Str}{ix:List (Option Nat)} (h:ZhM osc scope N Nb ix=true):CompOkC osc scope N Nb ix:=by
 unfold ZhM at h;simp only [Yaj] at h;obtain ⟨⟨⟨⟨⟨h1,h2⟩,h3⟩,h4⟩,h5⟩,h6⟩:=h;refine ⟨of_decide_eq_true h1,λy hy=>of_decide_eq_true (YaO.mp h2 y hy),λy hy=>of_decide_eq_true (YaO.mp h3 y hy),λy hy=>of_decide_eq_true (YaO.mp h4 y hy),of_decide_eq_true h5,λi j x e1 e2=>?_⟩;have hi:i<Nb.length:=(Yai.mp e1).1;have q:=YaO.mp h6 i (List.mem_range.mpr hi);rw [e2] at q;simp only [e1] at q;exact of_decide_eq_true q
section
variable {X:Cx}{N':List Str}{scope osc:Scope}{cl:List (Str × Addr)}{C:Addr}{ex:List Addr}{ix:List (Option Nat)}{pins:List (Addr × Obj)}{σ:St}{H2:Hp}{s2:Shared}
structure ClOk (X:Cx) (scope:Scope) (cl:List (Str × Addr)) (C:Addr):Prop where
 old:∀ x c,cl.lookup x=some c->X.env.cells.lookup x=some c\/C<c
 inj:∀ x y c,cl.lookup x=some c->cl.lookup y=some c->x=y
 has:∀ x,(x,NameKind.free)∈scope.names\/(x,NameKind.cell)∈scope.names->∃ c,cl.lookup x=some c
 own:∀ x c,scope.names.lookup x=some .cell->cl.lookup x=some c->C<c
theorem ZnF (I2:Inv X pins σ H2 s2) (K:CompOkC X.env.scope scope X.N N' ix) (L:ClOk X scope cl C)
  (hC:s2.heap.objs.size<=C) (f2:∀ b∈ex,FpOk X pins H2 b) (hex:∀ b∈ex,b<s2.heap.objs.size):(X.compC N' scope cl C s2 H2 ex).Ok where
 mod:=I2.ok.mod
 kind:=K.kind
 glob:=I2.ok.glob
 blt:=I2.ok.blt
 above:=hC
 inj:=L.inj
 has:=λx hx=>by
  have key:∀ k,(relabel scope X.env).names.lookup x=some k->k=.cell\/k=.free->∃ c,cl.lookup x=some c:=λk hk hk2=>by
   obtain ⟨k',h1,h2⟩:=ZbS hk;have hm:=PySem.mem_of_lookup h1;rcases h2 with rfl | ⟨rfl,rfl⟩
   ·rcases hk2 with rfl | rfl
    ·exact L.has x (.inr hm)
    ·exact L.has x (.inl hm)
   ·exact L.has x (.inl hm)
  rcases hx with hx | hx
  ·exact key _ hx (.inl rfl)
  ·exact key _ hx (.inr rfl)
 cab:=λx c h e=>by
  have:=L.own x c (of_decide_eq_true h) e;exact Yay hC (Nat.le_of_lt this)
 hd:=I2.ok.hd
 frames:=I2.ok.frames
 stk:=.inl rfl
 exf:=λb hb=>⟨Yap (Yan (hex b hb) hC),λx c h=>by
  rcases L.old x c h with z | z
  ·exact (f2 b hb).2.2.2.2.1 x c z
  ·exact Nat.ne_of_gt (Nat.lt_trans (Yan (hex b hb) hC) z)⟩
 bs:=I2.bs
 bsz:=Yay I2.ok.bsz I2.sz
 noex:=λb o e hb=>by
  rcases (f2 b hb).2.2.2.1 with z | z
  ·exact I2.ok.noex b o e z
  ·exact absurd (Yan (Yal (I2.ok.bs b o e).1) z) (Ybq _)
 exfs:=λb hb hf=>by
  rcases YaF.mp (I2.stkSub b hf) with z | z
  ·exact (f2 b hb).2.1 z
  ·exact (f2 b hb).2.2.1 z
 funs:=I2.stack
 frf:=I2.stkFree
theorem ZlE (I2:Inv X pins σ H2 s2) (f2:∀ b∈ex,FpOk X pins H2 b) (hC:s2.heap.objs.size<=C) {σ3:St}{H3:Hp}{s4:Shared}{h':Heap}
  (J:Inv (X.compC N' scope cl C s2 H2 ex) [] σ3 H3 s4) (sb:Heap.SameBut C s4.heap h'):Inv X pins σ H3 { s4 with heap:=h' }:=by
 have ne:∀ b o,s2.heap.get? b=some o->b≠C:=λb o e=>Yap (Yan (Yal e) hC);have B:=J.base;have fr:H3 C=none:=J.free;refine I2.call' (s':={ s4 with heap:=h' }) (ch:=ex) J.os ⟨λb o e n hb hx=>?_,λb o e n hb hx=>?_,B.free,λb o e hx=>?_,B.tups,B.frzs,B.tbls⟩ ?_ J.bare λb hb=>?_
 ·exact (sb.2 b (ne b o e)).trans (B.keep b o e n hb hx)
 ·obtain ⟨sl,q⟩:=B.slot b o e n hb hx;exact ⟨sl,(sb.2 b (ne b o e)).trans q⟩
 ·obtain ⟨o',q⟩:=B.there b o e hx;exact ⟨o',(sb.2 b (ne b o e)).trans q⟩
 ·intro b ob e;refine (J.hok b ob e).stay (λc w' hc q=>(sb.2 c ?_).trans q) (λ_ q=>q) λ_ _ q=>q;rintro rfl;rcases hc with rfl | hc
  ·rw [fr] at e;cases e
  ·rw [fr] at hc;cases hc
 ·obtain ⟨_,f1,_,f3,f4,f5⟩:=f2 b hb;exact ⟨f3,f1,f4,f5⟩
end
theorem ZhN {X:Cx}{tg iter elt:Expr}{ifs:List Expr}{scope:Scope}{pos:Pos}{g:TG}{tc:TT}{te:TE}{N':List Str}{ix:List (Option Nat)}{pins:List (Addr × Obj)}{σ:St}{s2:Shared}{itv:Value}{Q:VK}{cl:List (Str × Addr)}
  {RR:Value->Addr->Result->Shared->Prop} (hc:X.calm=true) (K:CompOkC X.env.scope scope X.N N' ix) (e2:∀ x c,cl.lookup x=some c->X.env.cells.lookup x=some c) (e3:∀ x,(x,NameKind.free)∈scope.names->∃ c,cl.lookup x=some c)
  (hg:∀ cl C s2 H2 ex,PG (X.compC N' scope cl C s2 H2 ex) tg g) (ht:∀ cl C s2 H2 ex,PIfs (X.compC N' scope cl C s2 H2 ex) ifs tc) (he:∀ cl C s2 H2 ex,PE (X.compC N' scope cl C s2 H2 ex) elt te)
  (h2:PIE X pins σ tg (λJ H1=>ZaQ J g tc te (ix.map (pick σ)) H1 Q) itv s2)
  (hRR:∀ cl' H2 fp C D σ3 H3 s4,Inv X pins σ H2 s2->(∀ b∈fp,FpOk X pins H2 b)->s2.heap.objs.size<=C->Inv (X.compC N' scope cl' C s2 H2 fp) [] σ3 H3 s4->Q (.ref D) H3->RR (.ref D) C (.ok .next) s4) :
  wpAny (model X.prog X.w) X.A (newList []) (λacc s₃=>wpAny (model X.prog X.w) X.A (newFunctionEnv scope X.env.globals cl [] X.env.qual none .none (some X.env)) (λcenv s₄ =>
   codeAny (model X.prog X.w) X.A (.compStart (.ListComp elt [⟨tg,iter,ifs,0⟩] scope pos) 0 itv acc { cenv with scope:=relabel scope X.env }) (RR acc cenv.locals) s₄) X.xe s₃) X.xe s2:=by
 obtain ⟨it,fp,tn,J,H2,rfl,I2,T,st2,f2,q⟩:=h2;refine wpAny_newObj_type (ZgA ?_);dsimp only;generalize hP:s2.heap.push { cls:=.type "list",dict:=none,data:=.seq ([]:List Value).toArray }=P2;have hCs:P2.objs.size=s2.heap.objs.size+1:=by rw [<- hP,Heap.size_push]
 have hC:s2.heap.objs.size<=P2.objs.size:=by omega
 have hDC:s2.heap.objs.size≠P2.objs.size:=by omega
 have hpd:(P2.push { cls:=.type "dict",data:=.dict #[] }).objs.size=P2.objs.size+1:=Heap.size_push ..;have cfc:=ZfQ scope.names (P2.push { cls:=.type "dict",data:=.dict #[] }) cl;rw [hpd] at cfc;have hns1:(pushCells (P2.push { cls:=.type "dict",data:=.dict #[] }) scope.names).Ns P2.objs.size (λ_=>none):=(Heap.Ns.new P2 (.type "dict")).keeps (pushCells_keeps _ _);have old:∀ b o,s2.heap.get? b=some o->(pushCells (P2.push { cls:=.type "dict",data:=.dict #[] }) scope.names).get? b=some o:=λb o e =>
  pushCells_keeps _ _ b o (Yad _ (hP ▸ Yad _ e))
 have hacc:(pushCells (P2.push { cls:=.type "dict",data:=.dict #[] }) scope.names).get? s2.heap.objs.size=some { cls:=.type "list",dict:=none,data:=.seq ([]:List Value).toArray } :=
  pushCells_keeps _ _ _ _ (Yad _ (hP ▸ Yao _ rfl))
 generalize pushCells (P2.push { cls:=.type "dict",data:=.dict #[] }) scope.names=h1 at cfc hns1 old hacc ⊢;have L:ClOk X scope (cellsFrom (P2.objs.size+1) scope.names cl) P2.objs.size:=by
  refine ⟨λx c e=>?_,ZlH _ _ _ (λx y c e1 e4=>I2.ok.inj x y c (e2 x c e1) (e2 y c e4)) (λx c e=>?_),λx hx=>ZlI _ _ _ _ ?_,λx c e1 e4=>?_⟩
  ·rcases cfc x c e with z | ⟨_,z,_⟩
   ·exact .inl (e2 x c z)
   ·exact .inr z
  ·obtain ⟨v,z⟩:=I2.cell x c (e2 x c e);exact Yan z.lt (Nat.le_succ_of_le hC)
  ·rcases hx with hx | hx
   ·exact .inl (e3 x hx)
   ·exact .inr hx
  ·exact ZlG _ _ _ x c (PySem.mem_of_lookup e1) e4
 have cel:∀ x c,(cellsFrom (P2.objs.size+1) scope.names cl).lookup x=some c->(∃ v,h1.IsCell c v)/\(c<s2.heap.objs.size\/P2.objs.size<c)/\upd H2 s2.heap.objs.size (.lst []) c=none:=λx c e=>by
  rcases cfc x c e with z | ⟨_,z,z3⟩
  ·obtain ⟨v,y⟩:=I2.cell x c (e2 x c z);have hlt:=y.lt;obtain ⟨o,ho,hd⟩:=y;refine ⟨⟨v,o,old _ _ ho,hd⟩,.inl hlt,?_⟩;rw [Zag (Yap hlt)];exact I2.freeC x c (e2 x c z)
  ·refine ⟨⟨none,z3⟩,.inr z,?_⟩;have z4:s2.heap.objs.size<c:=YaZ hC z;rw [Zag (Nat.ne_of_gt z4)];exact I2.hok.fresh (Nat.le_of_lt z4)
 have clo:∀ x,scope.names.lookup x=some .free->(cellsFrom (P2.objs.size+1) scope.names cl).lookup x=cl.lookup x:=λx hx=>ZiG _ _ _ _ λz=>by
  have:=K.cells _ z rfl;rw [hx] at this;cases this
 generalize cellsFrom (P2.objs.size+1) scope.names cl=cl2 at L cel clo ⊢;have hD:H2 s2.heap.objs.size=none:=I2.hok.fresh (Yag _);have hCn:H2 P2.objs.size=none:=I2.hok.fresh hC;obtain ⟨W,⟨m0,w0⟩,turn⟩:=q s2.heap.objs.size hD;have hex:∀ b∈fp,b<s2.heap.objs.size:=λb hb=>by
  obtain ⟨o,e,_⟩:=T.obj 0 _ st2 b hb;exact Yal e
 have YOk:=ZnF (cl:=cl2) (C:=P2.objs.size) (ex:=fp) I2 K L hC f2 hex;have hok1:HOk X.prog X.w (upd H2 s2.heap.objs.size (.lst [])) h1:=I2.hok.laid old (Yag _) ⟨YaH _,[],0,.nil,hacc⟩;have IY:Inv (X.compC N' scope cl2 P2.objs.size s2 H2 fp) [] (ix.map (pick σ)) (upd H2 s2.heap.objs.size (.lst [])) { s2 with heap:=h1 }:=by
  refine ⟨YOk,rfl,I2.bare,?_,⟨_,hns1,λi x v e1 e4 e5=>?_⟩,λx c e=>?_,?_,λx c e=>?_,λp hp=>absurd (show p∈([]:List (Addr × Obj)) from hp) (by simp),hok1,?_⟩
  ·exact (Un.laid old (Yag _) hD).mono (λ_ z=>z) (λ_ z=>z)
  ·rw [Yaf] at e4;cases e6:ix[i]? with
   |none=>rw [e6] at e4;cases e4
   |some o =>
    rw [e6] at e4;cases o with
    |none=>cases (Yae e4)
    |some j =>
     have e7:σ[j]? = some (some v):=Zgj (Yae e4);obtain ⟨n1,n2⟩:=K.src i j x e1 e6;have hm:=PySem.mem_of_lookup n2;have kx:=K.fr _ hm rfl;obtain ⟨m,hn,hl⟩:=I2.loc;obtain ⟨u,r,l⟩:=hl j x v n1 e7 (kx.elim (λz=>.inr (.inl z)) λz=>.inr (.inr z));refine ⟨u,r,.inr ⟨?_,?_⟩⟩
     ·exact Zci n2
     ·rcases l with ⟨k1,_⟩ | ⟨_,c,hc1,hc2⟩
      ·exfalso;have k1':X.env.scope.names.lookup x=some .local:=k1;rcases kx with z | z
       ·rw [k1'] at z;cases z
       ·rw [k1'] at z;cases z
      ·obtain ⟨c',hc'⟩:=e3 x hm;have e8:=e2 x c' hc';rw [hc1] at e8;cases e8;obtain ⟨o,ho,hd⟩:=hc2;exact ⟨c,(clo x n2).trans hc',o,old _ _ ho,hd⟩
  ·exact (cel x c e).1
  ·show upd H2 s2.heap.objs.size (.lst []) P2.objs.size=none;rw [Zag (Ne.symm hDC)];exact hCn
  ·exact (cel x c e).2.2
  ·rw [Yaa];exact K.len
 have hnf:∀ b∈fp,b≠P2.objs.size:=λb hb=>Yap (Yan (hex b hb) hC);have stat:∀ {H':Hp},(∀ b∈fp,H' b=none)->∀ b∈fp,FpOk (X.compC N' scope cl2 P2.objs.size s2 H2 fp) [] H' b:=λhn b hb =>
  ⟨hn b hb,hnf b hb,YOk.exfs b hb,.inl hb,λx c e=>YOk.exf b hb |>.2 x c e,λp hp=>absurd (show p∈([]:List (Addr × Obj)) from hp) (by simp)⟩
 have loop:∀ s₃:Shared,s₃ = { s2 with heap:=h1 } ->
   codeAny (model X.prog X.w) X.A (.compLoop (.ListComp elt [⟨tg,iter,ifs,0⟩] scope pos) 0 (.ref it) (.ref s2.heap.objs.size) (compEnvC scope cl2 P2.objs.size X.env))
    (RR (.ref s2.heap.objs.size) P2.objs.size) s₃:=by
  rintro s₃ rfl;refine Zdv (λn s'=>∃ i ys σ' H',Inv (X.compC N' scope cl2 P2.objs.size s2 H2 fp) [] σ' H' s'/\tn i s'.heap/\(∀ b∈fp,H' b=none)/\W i n ys σ' H') ?_ m0
   ⟨0,[],_,_,IY,T.keep _ _ _ st2 (λb hb o e=>old b o e),λb hb=>?_,w0⟩
  ·rintro n s3 ⟨i,ys,σ3,H3,I3,st3,fr3,w3⟩;obtain ⟨hDl,tt⟩:=turn i n ys σ3 H3 w3;rcases tt with ⟨stop,qn⟩ | ⟨go,step⟩
   ·refine thn (T.done (X.compC N' scope cl2 P2.objs.size s2 H2 fp) rfl rfl rfl hc i [] s3 σ3 H3 (λ_ _=>False) I3 (stat fr3) st3 stop) λr s4 ⟨hr,I4⟩=>?_;subst hr;exact hRR cl2 H2 fp P2.objs.size s2.heap.objs.size σ3 H3 s4 I2 f2 hC I4 qn
   ·refine thn (T.item (X.compC N' scope cl2 P2.objs.size s2 H2 fp) rfl rfl rfl hc i [] s3 σ3 H3 (λ_ _=>False) I3 (stat fr3) st3 go) λr s4 ⟨u,hr,h4⟩=>?_;subst hr;refine thn h4 λ_ s5 ⟨x,H5,I5,r5,y5,st5,fr5⟩=>?_;have I5':=I5.pinned (stat fr5) (T.obj _ _ st5);refine thn (hg cl2 P2.objs.size s2 H2 fp _ s5 σ3 H5 x u _ I5' r5 (step x H5 y5)) λ_ s6 ⟨σ6,H6,I6,q6⟩=>?_;refine thn (ht cl2 P2.objs.size s2 H2 fp _ s6 σ6 H6 _ I6 q6) λb s7 ⟨H7,I7,q7⟩=>?_;have again:∀ {s8:Shared}{H8:Hp}{ys':List V}{m':Nat},Inv (X.compC N' scope cl2 P2.objs.size s2 H2 fp) ([] ++ ZeV fp s5.heap) σ6 H8 s8->m'<n->W (i+1) m' ys' σ6 H8 ->
      ∃ m,m<n/\∃ i ys σ' H',Inv (X.compC N' scope cl2 P2.objs.size s2 H2 fp) [] σ' H' s8/\tn i s8.heap/\(∀ b∈fp,H' b=none)/\W i m ys σ' H':=λ{s8 H8 ys' m'} I8 hm w8=>by
     refine ⟨m',hm,i+1,ys',σ6,H8,I8.unpinned,T.keep _ _ _ st5 λb hb o e=>(I8.pin (b,o) (Yaz _ (Yaz _ (ZbG hb e)))).1,λb hb=>?_,w8⟩;obtain ⟨o,e,d⟩:=T.obj _ _ st5 b hb;exact (I8.pin (b,o) (Yaz _ (Yaz _ (ZbG hb e)))).2.1
    cases b with
    |false =>
     obtain ⟨m',hm,w7⟩:∃ m',m'<n/\W (i+1) m' ys σ6 H7:=q7;exact again I7 hm w7
    |true =>
     have q7':te σ6 H7 _:=q7;show wpAny _ _ (eval elt (compEnvC scope cl2 P2.objs.size X.env)) _ _ _;refine thn (he cl2 P2.objs.size s2 H2 fp _ s7 σ6 H7 _ I7 q7') λyv s8 ⟨y,H8,I8,r8,hD8,hz8,m',hm,w8⟩=>?_;refine thn (Za7 (X:=X.compC N' scope cl2 P2.objs.size s2 H2 fp) _ s8 σ6 H8 (.ref s2.heap.objs.size) [y] (.ref s2.heap.objs.size) [yv] (λ_ H9=>H9=upd H8 s2.heap.objs.size (.lst (ys ++ [y]))) I8 rfl (.cons r8 .nil)
      ⟨_,ys,y,rfl,rfl,hD8,hz8,rfl⟩) λ_ s9 ⟨_,H9,I9,_,e9⟩=>?_
     subst e9;exact again I9 hm w8
  ·show upd H2 s2.heap.objs.size (.lst []) b=none;rw [Zag (Yap (hex b hb))];exact (f2 b hb).1
 exact codeAny_compStart_list (loop _ rfl) (T.self X.A 0 _ _ _ (T.keep _ _ _ st2 (λb hb o e=>old b o e)) (loop _ rfl))
theorem ZmG {X:Cx}{tg iter elt:Expr}{ifs:List Expr}{scope:Scope}{pos:Pos}{wi:TI}{g:TG}{tc:TT}{te:TE} (N':List Str) (ix:List (Option Nat)) (osc:Scope) (N:List Str)
  (hc:X.calm=true) (hi:PI X tg iter wi) (ok:ZhM osc scope N N' ix=true)
  (hg:∀ cl C s2 H2 ex,PG (X.compC N' scope cl C s2 H2 ex) tg g) (ht:∀ cl C s2 H2 ex,PIfs (X.compC N' scope cl C s2 H2 ex) ifs tc) (he:∀ cl C s2 H2 ex,PE (X.compC N' scope cl C s2 H2 ex) elt te)
  (hsc:X.env.scope=osc:=by rfl) (hN:X.N=N:=by rfl) (hs:∀ x,foldedSetIterable iter X.env x=pure x:=by intro _;rfl):PE X (.ListComp elt [⟨tg,iter,ifs,0⟩] scope pos) (Zmc wi g tc te ix):=by
 intro pins s σ H Q I h;have K0:=Zjr ok;have K:CompOkC X.env.scope scope X.N N' ix:=by rw [hsc,hN];exact K0
 obtain ⟨cl,hclos,e2,e3⟩:=Zdo (scope:=scope) (env:=X.env) (λy hy hf=>I.ok.has y.1 (K.fr y hy hf));rw [eval_ListComp];refine wpAny_comprehension_free (use:=none) rfl hs hclos K.kind K.names (Ya9 (hi pins s σ H _ I h) (λv s1 h1=>thn h1 λitv s2 h2=>?_) λ_ _ e=>e);refine ZhN hc K e2 e3 hg ht he h2 λcl' H2 fp C D σ3 H3 s4 I2 f2 hC I4 qn=>?_;obtain ⟨m,hn,_⟩:=I4.loc;exact ⟨m,hn,λh' sb=>⟨.ref D,H3,ZlE I2 f2 hC I4 sb,rfl,qn⟩⟩
theorem Zrh {X:Cx}{pos:Pos}{N':List Str}{scope:Scope}{cl:List (Str × Addr)}{C:Addr}{s2:Shared}{H2:Hp}{ex:List Addr} (i:Nat) {y:Str} (nd:N'.Nodup) (hi:N'[i]? = some y:=by rfl) (hx:(relabel scope X.env).names.lookup y=some .cell:=by rfl) (hs:scope.names.lookup y=some .cell:=by rfl) :
  PG (X.compC N' scope cl C s2 H2 ex) (.Name y pos) (Za1 i):=Zax (X:=X.compC N' scope cl C s2 H2 ex) nd hi (.inr hx) (.inl (Ya4 hs))
end L2
namespace L2
open PySem PySem.Spec PyProof.Rows
theorem ObjOk.get {P:Program}{w:World}{H:Hp}{h:Heap}{a:Addr}{o:HO} (x:ObjOk P w H h a o):∃ u,h.get? a=some u:=by
 cases o with
 |lst xs=>obtain ⟨_,_,_,_,e⟩:=x;exact ⟨_,e⟩
 |tup xs=>obtain ⟨_,_,_,_,e,_⟩:=x;exact ⟨_,e⟩
 |dK kvs=>obtain ⟨_,_,_,_,o,_,_,e,_⟩:=x;exact ⟨_,e⟩
 |dT kvs=>obtain ⟨_,_,_,_,o,_,_,e,_⟩:=x;exact ⟨_,e⟩
 |set S n=>obtain ⟨o,_,_,_,e,_⟩:=x;exact ⟨_,e⟩
 |ins C dx fs=>obtain ⟨_,_,_,e,_⟩:=x;exact ⟨_,e⟩
 |own y=>exact x
 |xd fs=>obtain ⟨_,⟨_,_,_,e,_⟩,_⟩:=x;exact ⟨_,e⟩
 |rng lo hi=>obtain ⟨_,_,_,e⟩:=x;exact ⟨_,e⟩
 |frz ob u=>exact ⟨_,x.1⟩
 |tbl ps=>exact ⟨_,x⟩
 |met f y=>exact ⟨_,x⟩
 |ext φ=>exact x.2.1
def Trc (h:Heap) (H':Hp) (g:Heap) (e:Addr) (cls fl:Value):Prop :=
 ∃ a0 oe vs T oT ts,h.get? e=some oe/\(oe.cls=cls/\vs[0]? = some a0)/\oe.data=.fields vs/\vs[1]? = some (.ref T)/\T≠e/\h.get? T=some oT/\oT.data=.fields ts/\ts[3]? = some fl/\(H' e=none/\H' T=none)/\g.get? e=none/\g.get? T=none
structure Fli (P:Program) (w:World) (l:List Env) (H:Hp) (s:Shared) (e:Addr) (cls fl:Value) (H':Hp) (s':Shared):Prop where
 os:s'.os=s.os
 bare:AllBare s'.gens
 un:Un (frs l) [] H H' s.heap s'.heap
 hok:HOk P w H' s'.heap
 tr:Trc s'.heap H' s.heap e cls fl
section
variable {P:Program}{w:World}{l:List Env}{H H':Hp}{s s1:Shared}{e:Addr}{cls fl:Value}
theorem Zoc {base:Heap} (F:Fli P w l H s e cls fl H' s1) (hfr:s1.heap.FunFrames base l) (hff:∀ b∈frs l,H' b=none) :
  ∃ (B:Heap) (a0:Value),(B.StaysIn s1.heap/\B.get? e=none/\s1.heap.FunFrames B l/\s1.heap.TracedAtW B e cls a0 fl) /\
   ∀ h' fl',B.StaysIn h'->h'.TracedAtW B e cls a0 fl'->s1.heap.UpToSlots h'->Fli P w l H s e cls fl' H' { s1 with heap:=h' }:=by
 obtain ⟨a0,oe,vs,T,oT,ts,h1,h2,h3,h4,h5,h6,h7,h8,⟨h9,h10⟩,h11,h12⟩:=F.tr;have none_of:∀ b,b∈e :: T :: frs l->(PySem.W.hideAll s1.heap (e :: T :: frs l)).get? b=none:=λb hb=>PySem.W.hideAll_none _ hb;have at_of:∀ b o,s1.heap.get? b=some o->b∉e :: T :: frs l->(PySem.W.hideAll s1.heap (e :: T :: frs l)).get? b=some o:=λb o q hb=>PySem.W.hideAll_get _ q hb;have nofld:∀ b∈frs l,∀ o,s1.heap.get? b=some o->∀ vs,o.data≠.fields vs:=λb hb o q=>by
  obtain ⟨_,o',ho',hn⟩:=hfr.mem hb;rw [q] at ho';cases ho';exact hn
 have hidT:∀ b,H' b≠none->b∉e :: T :: frs l:=λb q z=>by
  rcases YaF.mp z with r | z
  ·rw [r] at q;exact q h9
  ·rcases YaF.mp z with r | z
   ·rw [r] at q;exact q h10
   ·exact q (hff b z)
 refine ⟨PySem.W.hideAll s1.heap (e :: T :: frs l),a0,⟨λb o q=>PySem.W.of_hideAll _ q,none_of e YaM,PySem.W.funFrames_hide hfr λenv he a ha=>?_,oe,vs,T,oT,ts,h1,h2,h3,h4,none_of T (by simp),h5,h6,h7,h8⟩,λh' fl' hB ht hu=>?_⟩
 ·exact Yas _ (Yas _ (List.mem_filterMap.mpr ⟨env,he,ha⟩))
 ·obtain ⟨oe',vs',T',oT',ts',k1,k2,k3,k4,k5,k6,k7,k8,k9⟩:=ht;have hT':H' T'=none:=by
   cases q:H' T' with
   |none=>rfl
   |some u =>
    obtain ⟨ob,hob⟩:=(F.hok _ _ q).get;have:=at_of T' ob hob (hidT T' (by rw [q];simp));rw [k5] at this;cases this
  have gT':s.heap.get? T'=none:=by
   cases q:s.heap.get? T' with
   |none=>rfl
   |some u =>
    obtain ⟨ob,hob⟩:=F.un.there T' u q (by simp)
    by_cases z:T'∈e :: T :: frs l
    ·rcases YaF.mp z with r | z
     ·exact absurd r k6
     ·rcases YaF.mp z with r | z
      ·rw [r,h12] at q;cases q
      ·obtain ⟨sl,hsl⟩:=hu T' ob hob (nofld T' z ob hob);rw [k7] at hsl;cases hsl;exact absurd k8 (nofld T' z ob hob _)
    ·have:=at_of T' ob hob z;rw [k5] at this;cases this
  have new:∀ b o,s.heap.get? b=some o->b∉frs l->b∉e :: T :: frs l:=λb o q hb z=>by
   rcases YaF.mp z with r | z
   ·rw [r,h11] at q;cases q
   ·rcases YaF.mp z with r | z
    ·rw [r,h12] at q;cases q
    ·exact hb z
  refine ⟨F.os,F.bare,⟨λb o q n hb _=>?_,λb o q n hb _=>?_,F.un.free,λb o q _=>?_,F.un.tups,F.un.frzs,F.un.tbls⟩,λb o q=>?_,a0,oe',vs',T',oT',ts',k1,k2,k3,k4,k6,k7,k8,k9,⟨h9,hT'⟩,h11,gT'⟩
  ·exact hB b o (at_of b o (F.un.keep b o q n hb (by simp)) (new b o q hb))
  ·obtain ⟨sl,q1⟩:=F.un.slot b o q n hb (by simp);obtain ⟨sl',q2⟩:=hu b _ q1 (nofld b hb _ q1);exact ⟨sl',q2⟩
  ·obtain ⟨o',q1⟩:=F.un.there b o q (by simp)
   by_cases hb:b∈frs l
   ·obtain ⟨sl',q2⟩:=hu b _ q1 (nofld b hb _ q1);exact ⟨_,q2⟩
   ·exact ⟨o',hB b o' (at_of b o' q1 (new b o q hb))⟩
  ·refine (F.hok b o q).stay (λc v hc r=>hB c v (at_of c v r (hidT c ?_))) (λ_ z=>z) λ_ _ z=>z;rcases hc with z | z
   ·rw [z,q];simp
   ·rw [z];simp
end
def CXW (P:Program) (w:World):CXT:=λl H s E ev s'=>∃ e cls H',ev=.ref e/\Fli P w l H s e cls .none H' s'/\E cls none H'
def Zl1 (X:Cx) (R:St->Value->Hp->Prop):Prop:=∀ (pins:List (Addr × Obj)) (σ:St) (H:Hp) (s:Shared) (e:Addr) (cls:Value) (H':Hp) (s':Shared),Inv X pins σ H s->Fli X.prog X.w X.stack H s e cls .none H' s'->R σ cls H'->X.xe (.ref e) s'
def Zog (X:Cx) (R:St->Value->Hp->Prop):Prop:=∀ (pins:List (Addr × Obj)) (σ:St) (H:Hp) (s:Shared) (e:Addr) (cls:Value) (vs:List Value) (h':Heap),Inv X pins σ H s->Heap.MadeExcOf s.heap h' e cls vs->R σ cls H->X.xe (.ref e) { s with heap:=h' }
section
variable {X:Cx}{pins:List (Addr × Obj)}{σ:St}{H H':Hp}{s s':Shared}{e:Addr}{cls fl:Value}
theorem Inv.fly (I:Inv X pins σ H s) (F:Fli X.prog X.w X.stack H s e cls fl H' s'):Inv X pins σ H' s':=I.call' (ch:=[]) F.os F.un F.hok F.bare λb z=>absurd z (by simp)
theorem Inv.old (I:Inv X pins σ H s) (hex:X.ex=[]) {b:Addr} (h:s.heap.get? b=none):X.s₀.heap.get? b=none:=by
 cases q:X.s₀.heap.get? b with
 |none=>rfl
 |some o =>
  obtain ⟨o',q'⟩:=I.base.there b o q (by rw [hex];simp);rw [h] at q';cases q'
theorem Fli.out (I:Inv X pins σ H s) (F:Fli X.prog X.w X.stack H s e cls fl H' s') (hex:X.ex=[]):Fli X.prog X.w X.outer X.H₀ X.s₀ e cls fl H' s':=by
 have J:=I.fly F;obtain ⟨a0,oe,vs,T,oT,ts,h1,h2,h3,h4,h5,h6,h7,h8,h9,h11,h12⟩:=F.tr;refine ⟨J.os,J.bare,?_,J.hok,a0,oe,vs,T,oT,ts,h1,h2,h3,h4,h5,h6,h7,h8,h9,I.old hex h11,I.old hex h12⟩;have:=J.base;rw [hex] at this;exact this
theorem Znp {B h' h'':Heap}{a0:Value}{vs:List Value} (I:Inv X pins σ H s) (hB:B=PySem.W.hideAll s.heap (frs X.stack)) (hx:Heap.MadeExcOf s.heap h' e cls vs) (ht:h''.TracedW B e cls a0) (hs:B.StaysIn h'') (hu:h'.UpToSlots h'') :
  Fli X.prog X.w X.stack H s e cls .none H { s with heap:=h'' }:=by
 subst hB;obtain ⟨oe,ws,T,oT,ts,k1,k2,k3,k4,k5,k6,k7,k8,k9⟩:=ht;have nofld:∀ b∈frs X.stack,∃ o,s.heap.get? b=some o/\∀ vs,o.data≠.fields vs:=λb hb=>(I.stack.mem hb).2;have at_of:∀ b o,s.heap.get? b=some o->b∉frs X.stack->h''.get? b=some o:=λb o q hb=>hs b o (PySem.W.hideAll_get _ q hb);have gT:s.heap.get? T=none:=by
  cases q:s.heap.get? T with
  |none=>rfl
  |some u =>
   by_cases z:T∈frs X.stack
   ·obtain ⟨o,ho,hn⟩:=nofld T z;obtain ⟨sl,hsl⟩:=hu T o (hx.keeps T o ho) hn;rw [k7] at hsl;cases hsl;exact absurd k8 (hn _)
   ·have:=PySem.W.hideAll_get _ q z;rw [k5] at this;cases this
 have fr:∀ b,s.heap.get? b=none->H b=none:=λb q=>by
  cases r:H b with
  |none=>rfl
  |some u =>
   obtain ⟨o,ho⟩:=(I.hok b u r).get;rw [q] at ho;cases ho
 have sl:∀ b o,s.heap.get? b=some o->b∈frs X.stack->∃ sl,h''.get? b=some { o with slots:=sl }:=λb o q hb=>by
  obtain ⟨o',ho',hn⟩:=nofld b hb;rw [q] at ho';cases ho';exact hu b o (hx.keeps b o q) hn
 refine ⟨rfl,I.bare,⟨λb o q _ hb _=>at_of b o q hb,λb o q _ hb _=>sl b o q hb,λ_ _ _ n _=>n,λb o q _=>?_,λ_ _ q=>q,λ_ _ _ q=>q,λb ps q=>⟨#[],by rw [q];simp⟩⟩,λb o q=>?_,a0,oe,ws,T,oT,ts,k1,k2,k3,k4,k6,k7,k8,k9,⟨fr e hx.new,fr T gT⟩,hx.new,gT⟩
 ·by_cases hb:b∈frs X.stack
  ·obtain ⟨_,z⟩:=sl b o q hb;exact ⟨_,z⟩
  ·exact ⟨o,at_of b o q hb⟩
 ·refine (I.hok b o q).stay (λc v hc r=>at_of c v r λhb=>?_) (λ_ z=>z) λ_ _ z=>z;have n:=I.stkFree c hb;rcases hc with z | z
  ·rw [z,q] at n;cases n
  ·rw [z] at n;cases n
end
section
variable {P:Program}{w:World}{K:Yab}{mg:Str->Option Value}{base:Heap}{N:List Str}{qual:Str}{scope:Scope}{f:Addr}{cd:Value}{A:Around}{outer:List Env}{s:Shared}{H:Hp}{E:XK}
theorem Zld:Zl1 (cxOf (CXW P w) P w K mg base N qual scope f cd A outer s H E) λ_ cls H'=>E cls none H':=by
 intro pins σ H1 s1 e cls H' s' I F r;have J:=I.fly F;obtain ⟨B,a0,⟨b1,b2,b3,b4⟩,st⟩:=Zoc F J.stack J.stkFree;refine wpAny_leaves_onW I.ok.frames rfl ⟨b1,b2,b3,b4⟩ λh' hf hu=>?_;exact ⟨e,cls,H',rfl,Fli.out I (st h' .none hf.1 hf.2.2.2 hu) rfl,r⟩
theorem ZiR:Zog (cxOf (CXW P w) P w K mg base N qual scope f cd A outer s H E) λ_ cls H'=>E cls none H':=by
 intro pins σ H1 s1 e cls vs h' I hx r;refine wpAny_leaves_madeW (base:=PySem.W.hideAll s1.heap (frs (envOfC qual scope s.heap.objs.size f cd :: outer))) I.ok.frames rfl (λb o q=>PySem.W.of_hideAll _ q)
  (PySem.W.funFrames_hide I.stack λenv he a ha=>List.mem_filterMap.mpr ⟨env,he,ha⟩) hx λh'' t hf _ _ hu=>?_
 exact ⟨e,cls,H1,rfl,Fli.out I (Znp I rfl hx hf.2.2.2 hf.1 hu) rfl,r⟩
end
def FnAtX (P:Program) (w:World) (K:Yab) (mg:Str->Option Value) (base:Heap) (k:Nat) (x:Str) (ps:List Str) (sp:Sp):Prop :=
 ∃ f,mg x=some (.ref f)/\PySem.W.keepIn K (.ref f)=true/\(∀ vs H Q E,sp vs H Q E->vs.length=ps.length) /\
  ∀ (A:Around) (outer:List Env) (s:Shared) (H:Hp) (us:List Value) (vs:List V) (Q:VK) (E:XK),Room k A->Env0 P w K mg base A outer s H->Vals vs us->sp vs H Q E->codeAny (model P w) A (.call (.ref f) ⟨us,[]⟩) (CR (CXW P w) outer P w H s Q E) s
section
variable {P:Program}{w:World}{K:Yab}{mg:Str->Option Value}{base:Heap}{j k:Nat}{x:Str}{ps:List Str}{sp sp':Sp}
theorem FnAtX.at {CX:CXT}{f:Addr}{fd:FuncData} (F:FnOk P w K mg base CX k f fd ps sp) (hm:mg x=some (.ref f)) (hk:PySem.W.keepIn K (.ref f)=true) (hb:Binds K fd ps []) (hc:∀ l H s E e s',CX l H s E e s'->CXW P w l H s E e s'):FnAtX P w K mg base k x ps sp:=by
 refine ⟨f,hm,hk,F.len,λA outer s H us vs Q E hr e0 r q=>?_⟩;have hl:us.length=ps.length:=by rw [<- r.length];exact F.len _ _ _ _ q
 refine codeAny_mono (F.run A outer s H ⟨us,[]⟩ us vs Q E hr e0 (by simpa using hb s us (e0.mod.kin.keeps λb o z=>(e0.bs b o z).1) (by simpa using hl)) r q) λres s' hq=>?_;cases res with
 |error ev=>exact hc _ _ _ _ _ _ hq
 |ok fl=>cases fl <;> exact hq
theorem FnAtX.of {st:Stmt}{N:List Str} (D:Zah K mg x st ps) (S:FnScope N ps (Zad st)) (len:∀ vs H Q E,sp vs H Q E->vs.length=ps.length)
  (hbody:∀ (f:Addr) (cdv:Value) (A:Around) (outer:List Env) (s:Shared) (H:Hp) (vs:List V) (Q:VK) (E:XK),Room k (A.deeper (envOfC x (Zad st) s.heap.objs.size f cdv))->sp vs H Q E ->
   ∃ t,PSs (cxOf (CXW P w) P w K mg base N x (Zad st) f cdv A outer s H E) (Zbr st) t/\t { nx:=λ_ H'=>Q .non H',rt:=Q } (Zdx N vs) H):FnAtX P w K mg base (k+1) x ps sp:=by
 obtain ⟨f,fd,F,hm,hb⟩:=D;obtain ⟨oc,od,kV,doc,pm,an,cdv,ct,osl,rfl,lk,hcd⟩:=F.ex;exact .at (CX:=CXW P w) (Zpk lk hcd S len λA outer s H vs Q E hr hsp=>hbody f cdv A outer s H vs Q E hr hsp) hm F.kp hb λ_ _ _ _ _ _ z=>z
end
def tFx (sp:Sp) (R:St->Value->Hp->Prop) (t:TA):TE:=λσ H Q=>t σ H λvs H1=>sp vs H1 Q λcls _ H'=>R σ cls H'
section
variable {X:Cx}{k:Nat}{x:Str}{ps:List Str}{sp:Sp}{e:Expr}{es:List Expr}{t:TA}{p pos:Pos}{R:St->Value->Hp->Prop}
theorem Zrk (F:FnAtX X.prog X.w X.K X.mg X.base k x ps sp) (hr:Room k X.A) (hR:Zl1 X R) (ha:PA X (e :: es) t) (hg:Gl X x:=by rfl) (hdb:(x == ("__debug__" : Str))=false:=by decide)
  (he:starEach (e :: es) X.env=(false,eval e X.env) :: starEach es X.env:=by rfl) (hpl:(backTo pos (starEach es X.env)).any (·.1)=false:=by rfl):PE X (.Call (.Name x p) (e :: es) [] pos) (tFx sp R t):=by
 obtain ⟨f,hm,hk,hl,run⟩:=F;intro pins s σ H Q I h;refine wpAny_Call_Name_kw (Zdd I hg hm ?_ hdb);refine PySem.W.callWith_K (h₀:=X.base) I.ok.mod.kin hk (thn (ha pos pins s σ H _ I h) λus s1 ⟨vs,H1,I1,r,q⟩=>⟨I1.kIn,?_⟩) he hpl;refine wpAny_call (codeAny_mono (run X.A X.stack s1 H1 us vs Q _ hr I1.env0 r q) λres s' hq=>?_);cases res with
 |error ev =>
  obtain ⟨e',cls,H',rfl,Fl,rr⟩:=hq;exact hR pins σ H1 s1 e' cls H' s' I1 Fl rr
 |ok fl =>
  cases fl with
  |ret u=>exact I1.after hq
  |next=>exact False.elim hq
  |brk=>exact False.elim hq
  |cont=>exact False.elim hq
end
end L2
namespace L2
open PySem PySem.Spec PySem.Calls PyProof.Rows
open Builtin Builtin.ObjectAttr Builtin.Getset_descriptor
structure ExcK (K:Yab) (C:Addr):Prop where
 exc:PySem.W.excIn K C [.type "ValueError", .type "Exception", .type "BaseException", .type "object"] "ValueError.__new__" = true
 ga:PySem.W.findIn K (.ref C) "__getattribute__" = some (some (.builtin "BaseException.__getattribute__"))
 gt:PySem.W.findIn K (.ref C) "__getattr__" = some none
 cl:PySem.W.findIn K (.ref C) "__class__" = some (some (.builtin "object.__class__"))
 ob:PySem.W.mroIn K C (.type "object")=some true
 bx:PySem.W.mroIn K C (.type "BaseException")=some true
theorem Zlg {K:Yab}{h:Heap}{C:Addr}{nid:String}{bmB:List Value} (Y:K.In h) (q:PySem.W.excIn K C bmB nid=true) :
  ∃ bm N nm qn bs hd sn sub ab col dd k0 k1 k2 k3 k5 mN,h.get? C=some (excClassObj nm qn C N bs bm hd sn sub ab col dd k0 k1 k2 k3 k5 nid)/\h.Ns N mN/\mN "__init__" = none/\OwnTail h bmB bm:=by
 unfold PySem.W.excIn at q;split at q
 ·next dd cdt slt hlk =>
  split at q
  ·next C1 bm1 j0 j1 j2 j3 n1 j5 hmro hslots =>
   simp only [Yaj,beq_iff_eq,Bool.not_eq_true'] at q;obtain ⟨⟨⟨⟨⟨e1,e2⟩,hdl⟩,htl⟩,hns⟩,hin⟩:=q;subst e1 e2;obtain ⟨nm,bs,mro,ns,qn,hd,sn,sub,ab,col,del⟩:=cdt;dsimp only at hmro hdl hns hin;subst hmro hdl;obtain ⟨sll⟩:=slt;have hz:sll=[j0,j1,j2,j3,some (.builtin n1),j5]:=hslots;subst hz;exact ⟨bm1,ns,nm,qn,bs,hd,sn,sub,ab,col,dd,j0,j1,j2,j3,j5,_,Y _ _ hlk,.of_isNs (PySem.W.isNs_of_in Y hns),PySem.W.nsMap_none_of_in Y hns hin,PySem.W.tail_of_in Y htl⟩
  ·cases q
 ·cases q
def ZpM (R:St->Value->Hp->Prop) (C:Addr):TS:=λ_ σ H=>R σ (.ref C) H
theorem Zmz {X:Cx}{R:St->Value->Hp->Prop}{x:Str}{C:Addr}{e₀:Expr}{msg:Str}{np cpos pos:Pos} (hx:Zog X R) (hk:ExcK X.K C) (ha:PE X e₀ (tC (.str msg))) (hm:X.mg x=some (.ref C)) (hg:Gl X x:=by rfl) (hc:X.calm=true:=by rfl)
  (hdb:(x == ("__debug__" : Str))=false:=by decide) (he:starEach [e₀] X.env=(false,eval e₀ X.env) :: starEach [] X.env:=by rfl) (hpl:(backTo cpos (starEach ([]:List Expr) X.env)).any (·.1)=false:=by rfl) :
  PS X (.Raise (some (.Call (.Name x np) [e₀] [] cpos)) none pos) (ZpM R C):=by
 intro pins s σ H D I h;obtain ⟨bm,N,nm,qn,bs,hd,sn,sub,ab,col,dd,k0,k1,k2,k3,k5,mN,hC,hN,hni,T⟩:=Zlg I.ok.mod.kin hk.exc;have hpa:PA X [e₀] (Zc3 (tC (.str msg)) tNil):=Zab ha ZaT he;refine wpAny_Raise_call_subU (nm:=nm) (q:=qn) (N:=N) (bs:=bs) (hdct:=hd) (sn:=sn) (sub:=sub) (ab:=ab) (col:=col) (dd:=dd) (k0:=k0) (k1:=k1) (k2:=k2) (k3:=k3) (k5:=k5) PySem.F.excBase_ValueError (by decide) PySem.F.excBase_ValueError (T.hasType (b:=true) (by decide)) (I.ok.hd hc) (by rw [he];show (false || (backTo cpos (starEach ([]:List Expr) X.env)).any (·.1))=false;rw [hpl];rfl) hni (Zdd I hg hm ⟨rfl,?_⟩ hdb);have z:=hpa cpos pins s σ H (λvs H1=>vs=[.str msg]/\H1=H) I ⟨rfl,rfl⟩;rw [he] at z ⊢;refine Calls.evalArgs_plain (Ya9 z (λus s2 ⟨vs,H1,I2,r,hv,hH⟩=>?_) λ_ _ y=>y);subst hv hH;have hl:us.length=1:=by rw [<- r.length];rfl
 refine ⟨rfl,by show us.length<=_;rw [hl];decide,I2.bk _ _ hC,hN.keeps I2.bk,T.keeps I2.bk,λh' e hx'=>?_⟩;exact hx pins σ _ s2 e _ _ h' I2 hx' h
theorem Zlh {M:Model}{A:Around}{E:Value->Shared->Prop}{Q:Bool->Shared->Prop}{K:Yab}{e C D:Addr}{oe:Obj}{s:Shared} (Y:K.In s.heap) (hD:ExcK K D) (hm:PySem.W.mroIn K C (.ref D)=some true)
  (he:s.heap.get? e=some oe) (hcls:oe.cls=.ref C) (hq:Q true s):wpAny M A (excMatches (.ref e) (.ref D)) Q E s:=by
 obtain ⟨h,g,d,t,os⟩:=s;obtain ⟨bm,N,nm,qn,bs,hd,sn,sub,ab,col,dd,k0,k1,k2,k3,k5,mN,hO,hN,hni,T⟩:=Zlg Y hD.exc;have hcB:(Value.ref D :: bm).contains (.type "BaseException")=true:=by rw [List.contains_cons,T.hasType (b:=true) (by decide),Bool.or_true]
 have L:=PySem.W.looks_mroIn (M:=M) Y hm;have f:=tc_notTuple;unfold excMatches
 repeat (first | (with_reducible refine wpAny_loadPart_at he ?_;rw [hcls]) | with_reducible refine wpAny_loadPart_at hO ?_ | (with_reducible refine wpAny_isSubtype_exc hO ?_;rw [hcB]) | with_reducible refine L.at ?_ | wp_step)
 exact hq
def ZqT (e C:Addr) (h:Heap):Prop:=∃ oe vs,h.get? e=some oe/\oe.cls=.ref C/\oe.data=.fields vs
section
variable {K:Yab}{C e:Addr}
end
end L2
namespace L2
open PySem PySem.Spec PySem.Calls PyProof.Rows
def excO (e C:Addr):HO:=.ext (ZqT e C)
theorem Zpl {P:Program}{w:World}{H:Hp}{h:Heap}{e C:Addr} (p:ZqT e C h):ObjOk P w H h e (excO e C) :=
 ⟨p,let ⟨oe,_,h1,_⟩:=p;⟨oe,h1⟩,λ_ _ ⟨oe,vs,h1,h2,h3⟩ kk=>⟨oe,vs,kk _ h1,h2,h3⟩⟩
abbrev Cx.tryC (X:Cx) (pn:List (Addr × Obj)) (W:Value->Shared->Prop):Cx:={ X with pn:=X.pn ++ pn,xe:=W }
abbrev Cx.hand (X:Cx) (v:Value):Cx:={ X with A:=X.A.mark (some v),calm:=false,xe:=λ_ _=>False }
section
variable {X:Cx}{pins pn:List (Addr × Obj)}{W:Value->Shared->Prop}{σ:St}{H:Hp}{s:Shared}{v:Value}
theorem Cx.Ok.tryC (ok:X.Ok) (pn:List (Addr × Obj)) (W:Value->Shared->Prop):(X.tryC pn W).Ok :=
 ⟨ok.mod,ok.kind,ok.glob,ok.blt,ok.above,ok.inj,ok.has,ok.cab,ok.hd,ok.frames,ok.stk,ok.exf,ok.bs,ok.bsz,ok.noex,ok.exfs,ok.funs,ok.frf⟩
theorem Cx.Ok.unTry (ok:(X.tryC pn W).Ok):X.Ok :=
 ⟨ok.mod,ok.kind,ok.glob,ok.blt,ok.above,ok.inj,ok.has,ok.cab,ok.hd,ok.frames,ok.stk,ok.exf,ok.bs,ok.bsz,ok.noex,ok.exfs,ok.funs,ok.frf⟩
theorem Cx.Ok.hand (ok:X.Ok) (v:Value):(X.hand v).Ok :=
 ⟨ok.mod,ok.kind,ok.glob,ok.blt,ok.above,ok.inj,ok.has,ok.cab,(λz=>nomatch z),ok.frames,ok.stk,ok.exf,ok.bs,ok.bsz,ok.noex,ok.exfs,ok.funs,ok.frf⟩
theorem Inv.tryIn (I:Inv X pins σ H s) (W:Value->Shared->Prop):Inv (X.tryC pins W) [] σ H s :=
 ⟨I.ok.tryC pins W,I.os,I.bare,I.base,I.loc,I.cell,I.free,I.freeC,λp hp=>I.pin p (by simpa using hp),I.hok,I.len⟩
theorem Inv.tryOut (I:Inv (X.tryC pn W) pins σ H s):Inv X pn σ H s :=
 ⟨I.ok.unTry,I.os,I.bare,I.base,I.loc,I.cell,I.free,I.freeC,λp hp=>I.pin p (YaA _ hp),I.hok,I.len⟩
theorem Inv.hand (I:Inv X pins σ H s) (v:Value):Inv (X.hand v) pins σ H s :=
 ⟨I.ok.hand v,I.os,I.bare,I.base,I.loc,I.cell,I.free,I.freeC,I.pin,I.hok,I.len⟩
theorem Inv.unhand (I:Inv (X.hand v) pins σ H s) (ok:X.Ok):Inv X pins σ H s :=
 ⟨ok,I.os,I.bare,I.base,I.loc,I.cell,I.free,I.freeC,I.pin,I.hok,I.len⟩
theorem SP.tryOut {D:Ends}{f:Flow}{s':Shared} (h:SP (X.tryC pn W) pins D f s'):SP X pn D f s':=by
 cases f with
 |next=>obtain ⟨σ',H',I,q⟩:=h;exact ⟨σ',H',I.tryOut,q⟩
 |brk=>obtain ⟨σ',H',I,q⟩:=h;exact ⟨σ',H',I.tryOut,q⟩
 |cont=>obtain ⟨σ',H',I,q⟩:=h;exact ⟨σ',H',I.tryOut,q⟩
 |ret u=>obtain ⟨v,σ',H',I,r,q⟩:=h;exact ⟨v,σ',H',I.tryOut,r,q⟩
theorem Inv.catch {H':Hp}{s':Shared}{e C:Addr} (I:Inv X pins σ H s) (F:Fli X.prog X.w X.stack H s e (.ref C) .none H' s'):Inv X pins σ (upd H' e (excO e C)) s':=by
 obtain ⟨a0,oe,vs,T,oT,ts,h1,h2,h3,h4,h5,h6,h7,h8,⟨h9,h10⟩,h11,h12⟩:=F.tr;refine I.call' (ch:=[]) F.os ⟨F.un.keep,F.un.slot,λb o q n hx=>?_,F.un.there,λb xs q=>?_,λb o u q=>?_,λb ps q=>?_⟩ (λb o q=>?_) F.bare λb z=>absurd z (by simp)
 ·rw [Zag (λz=>by rw [z,h11] at q;cases q)];exact F.un.free b o q n hx
 ·have z:=F.un.tups b xs q;rw [Zag (Zai z h9)];exact z
 ·have z:=F.un.frzs b o u q;rw [Zag (Zai z h9)];exact z
 ·obtain ⟨m,z⟩:=F.un.tbls b ps q;exact ⟨m,by rw [Zag (Zai z h9)];exact z⟩
 ·by_cases hb:b=e
  ·subst hb;rw [Zac] at q;cases q;exact Zpl ⟨oe,vs,h1,h2.1,h3⟩
  ·rw [Zag hb] at q;exact (F.hok b o q).stay (λ_ _ _ r=>r) (λc r=>by rw [Zag (Zai r h9)];exact r) λc xs r=>by rw [Zag (Zai r h9)];exact r
end
section
variable {X:Cx}
end
end L2
namespace L2
open PySem PySem.Spec PyProof.Rows
def Zay (K:Yab) (C:Addr) (m qual:Str) (st:Stmt) (ps:List Str):Prop:=∃ f fd,Fun K m qual st f fd/\Meth K C m f/\Binds K fd ps []
def MtAt (P:Program) (w:World) (K:Yab) (mg:Str->Option Value) (base:Heap) (k:Nat) (C:Addr) (m:Str) (ps:List Str) (sp:Sp):Prop :=
 ∃ f fd,FnOk P w K mg base CX0 k f fd ps sp/\Meth K C m f/\Binds K fd ps []
def MtAtX (P:Program) (w:World) (K:Yab) (mg:Str->Option Value) (base:Heap) (k:Nat) (C:Addr) (m:Str) (ps:List Str) (sp:Sp):Prop :=
 ∃ f,Meth K C m f/\(∀ vs H Q E,sp vs H Q E->vs.length=ps.length) /\
  ∀ (A:Around) (outer:List Env) (s:Shared) (H:Hp) (us:List Value) (vs:List V) (Q:VK) (E:XK),Room k A->Env0 P w K mg base A outer s H->Vals vs us->sp vs H Q E->codeAny (model P w) A (.call (.ref f) ⟨us,[]⟩) (CR (CXW P w) outer P w H s Q E) s
section
variable {P:Program}{w:World}{K:Yab}{mg:Str->Option Value}{base:Heap}{j k:Nat}{C:Addr}{m qual:Str}{ps:List Str}{sp sp':Sp}
theorem MtAt.of {st:Stmt}{N:List Str} (D:Zay K C m qual st ps) (S:FnScope N ps (Zad st)) (len:∀ vs H Q E,sp vs H Q E->vs.length=ps.length)
  (hbody:∀ (f:Addr) (cdv:Value) (A:Around) (outer:List Env) (s:Shared) (H:Hp) (vs:List V) (Q:VK) (E:XK),Room k (A.deeper (envOfC qual (Zad st) s.heap.objs.size f cdv))->sp vs H Q E ->
   ∃ t,PSs (cxOf CX0 P w K mg base N qual (Zad st) f cdv A outer s H E).nox (Zbr st) t/\t { nx:=λ_ H'=>Q .non H',rt:=Q } (Zdx N vs) H):MtAt P w K mg base (k+1) C m ps sp:=by
 obtain ⟨f,fd,F,hm,hb⟩:=D;exact ⟨f,fd,F.ok S len λcdv A outer s H vs Q E hr h=>hbody f cdv A outer s H vs Q E hr h,hm,hb⟩
theorem MtAtX.or (F:MtAtX P w K mg base k C m ps sp) (G:MtAtX P w K mg base k C m ps sp'):MtAtX P w K mg base k C m ps (λvs H Q E=>sp vs H Q E\/sp' vs H Q E):=by
 obtain ⟨f,a,c,d⟩:=F;obtain ⟨f',a',c',d'⟩:=G;have e:=a.at_.symm.trans a'.at_;injection e with e;injection e with e;injection e with e;subst e;exact ⟨f,a,λvs H Q E q=>q.elim (c vs H Q E) (c' vs H Q E),λA outer s H us vs Q E hr e0 r q=>q.elim (d A outer s H us vs Q E hr e0 r) (d' A outer s H us vs Q E hr e0 r)⟩
theorem MtAtX.at {CX:CXT}{f:Addr}{fd:FuncData} (F:FnOk P w K mg base CX k f fd ps sp) (hm:Meth K C m f) (hb:Binds K fd ps []) (hc:∀ l H s E e s',CX l H s E e s'->CXW P w l H s E e s'):MtAtX P w K mg base k C m ps sp:=by
 refine ⟨f,hm,F.len,λA outer s H us vs Q E hr e0 r q=>?_⟩;have hl:us.length=ps.length:=by rw [<- r.length];exact F.len _ _ _ _ q
 refine codeAny_mono (F.run A outer s H ⟨us,[]⟩ us vs Q E hr e0 (by simpa using hb s us (e0.mod.kin.keeps λb o z=>(e0.bs b o z).1) (by simpa using hl)) r q) λres s' hq=>?_;cases res with
 |error ev=>exact hc _ _ _ _ _ _ hq
 |ok fl=>cases fl <;> exact hq
theorem MtAt.toX (F:MtAt P w K mg base k C m ps sp):MtAtX P w K mg base k C m ps sp :=
 let ⟨_,_,a,b,d⟩:=F
 .at a b d λ_ _ _ _ _ _ z=>z.elim
theorem MtAtX.of {st:Stmt}{N:List Str} (D:Zay K C m qual st ps) (S:FnScope N ps (Zad st)) (len:∀ vs H Q E,sp vs H Q E->vs.length=ps.length)
  (hbody:∀ (f:Addr) (cdv:Value) (A:Around) (outer:List Env) (s:Shared) (H:Hp) (vs:List V) (Q:VK) (E:XK),Room k (A.deeper (envOfC qual (Zad st) s.heap.objs.size f cdv))->sp vs H Q E ->
   ∃ t,PSs (cxOf (CXW P w) P w K mg base N qual (Zad st) f cdv A outer s H E) (Zbr st) t/\t { nx:=λ_ H'=>Q .non H',rt:=Q } (Zdx N vs) H):MtAtX P w K mg base (k+1) C m ps sp:=by
 obtain ⟨f,fd,F,hm,hb⟩:=D;obtain ⟨oc,od,kV,doc,pm,an,cdv,ct,osl,rfl,lk,hcd⟩:=F.ex;exact .at (CX:=CXW P w) (Zpk lk hcd S len λA outer s H vs Q E hr hsp=>hbody f cdv A outer s H vs Q E hr hsp) hm hb λ_ _ _ _ _ _ z=>z
end
def tM (C:Addr) (m:Str) (sp:Sp) (ta:TE) (t:TA):TE:=λσ H Q=>ta σ H λx H1=>∃ (a dx:Addr) (fs:List (Str × V)),x=.ref a/\H1 a=some (.ins C dx fs)/\fs.lookup m=none/\t σ H1 λvs H2=>sp (x :: vs) H2 Q E0
def tMx (C:Addr) (m:Str) (sp:Sp) (R:St->Value->Hp->Prop) (ta:TE) (t:TA):TE:=λσ H Q=>ta σ H λx H1=>∃ (a dx:Addr) (fs:List (Str × V)),x=.ref a/\H1 a=some (.ins C dx fs)/\fs.lookup m=none/\t σ H1 λvs H2=>sp (x :: vs) H2 Q λcls _ H'=>R σ cls H'
section
variable {X:Cx}{k:Nat}{C:Addr}{m:Str}{ps:List Str}{sp:Sp}{e o:Expr}{es:List Expr}{ta:TE}{t:TA}{apos pos:Pos}{R:St->Value->Hp->Prop}
theorem pe_m {pl:Sem Bool} (F:MtAt X.prog X.w X.K X.mg X.base k C m ps sp) (c:Cls X.K C) (hr:Room k X.A) (he:PE X o ta) (ha:PA X (e :: es) t)
  (hst:starEach (e :: es) X.env=(false,eval e X.env) :: starEach es X.env:=by rfl) (hpl:(backTo pos (starEach es X.env)).any (·.1)=false:=by rfl)
  (ht:eval (.Call (.Attribute o m apos) (e :: es) [] pos) X.env=(do
   let ov <- eval o X.env
   standAt apos.atName
   let (f,first) <- holding [ov] (getMethod ov m pl)
   callWith pos f first (backTo pos (starEach (e :: es) X.env)) (backToKw pos (keywordEach [] X.env))):=by rfl) :
  PE X (.Call (.Attribute o m apos) (e :: es) [] pos) (tM C m sp ta t):=by
 obtain ⟨f,fd,F,hm,hb⟩:=F;have q:=ZoL (pl:=pl) (apos:=apos) (pos:=pos) he c hm F hr hb .nil (ZmI (X:=X)) ha hst hpl ht;intro pins s σ H Q I h;refine q pins s σ H Q I ?_;unfold Zmb;simp only [List.append_nil];exact h
theorem ZmE {pl:Sem Bool} (F:MtAt X.prog X.w X.K X.mg X.base k C m ps sp) (c:Cls X.K C) (hr:Room k X.A) (he:PE X o ta)
  (ht:eval (.Call (.Attribute o m apos) [] [] pos) X.env=(do
   let ov <- eval o X.env
   standAt apos.atName
   let (f,first) <- holding [ov] (getMethod ov m pl)
   callWith pos f first (backTo pos (starEach [] X.env)) (backToKw pos (keywordEach [] X.env))):=by rfl) :
  PE X (.Call (.Attribute o m apos) [] [] pos) (tM C m sp ta tNil):=by
 obtain ⟨f,fd,F,hm,hb⟩:=F;have q:=ZmD (pl:=pl) (apos:=apos) (pos:=pos) he c hm F hr hb .nil (ZmI (X:=X)) ht;intro pins s σ H Q I h;refine q pins s σ H Q I ?_;unfold Zmb;simp only [List.append_nil];exact h
theorem Zri {pl:Sem Bool} (F:MtAtX X.prog X.w X.K X.mg X.base k C m ps sp) (c:Cls X.K C) (hr:Room k X.A) (hR:Zl1 X R) (he:PE X o ta) (ha:PA X (e :: es) t)
  (hst:starEach (e :: es) X.env=(false,eval e X.env) :: starEach es X.env:=by rfl) (hpl:(backTo pos (starEach es X.env)).any (·.1)=false:=by rfl)
  (ht:eval (.Call (.Attribute o m apos) (e :: es) [] pos) X.env=(do
   let ov <- eval o X.env
   standAt apos.atName
   let (f,first) <- holding [ov] (getMethod ov m pl)
   callWith pos f first (backTo pos (starEach (e :: es) X.env)) (backToKw pos (keywordEach [] X.env))):=by rfl) :
  PE X (.Call (.Attribute o m apos) (e :: es) [] pos) (tMx C m sp R ta t):=by
 obtain ⟨f,hm,hl,run⟩:=F;intro pins s σ H Q I h;refine PySem.W.methodCall_KW (pl:=pl) (thn (he pins s σ H _ I h) λu s1 ⟨x,H1,I1,rx,a,dx,fs,ex,ea,l,q⟩=>?_) ht;subst ex;obtain rfl:u=Value.ref a:=rx;refine Zde I1 ea c hm l ?_;refine PySem.W.callWith_K (first:=[.ref a]) (h₀:=X.base) I.ok.mod.kin hm.kp (thn (ha pos pins s1 σ H1 _ I1 q) λus s2 ⟨vs,H2,I2,r,q2⟩=>⟨I2.kIn,?_⟩) hst hpl;refine wpAny_call (codeAny_mono (run X.A X.stack s2 H2 (.ref a :: us) (.ref a :: vs) Q _ hr I2.env0 (.cons rfl r) q2) λres s' hq=>?_);cases res with
 |error ev =>
  obtain ⟨e',cls,H',rfl,Fl,rr⟩:=hq;exact hR pins σ H2 s2 e' cls H' s' I2 Fl rr
 |ok fl =>
  cases fl with
  |ret u=>exact I2.after hq
  |next=>exact False.elim hq
  |brk=>exact False.elim hq
  |cont=>exact False.elim hq
end
end L2
namespace L2
open PySem PySem.Spec PyProof.Rows
theorem Zlc {prog:Program}{w:World}{A:Around}{E:Value->Shared->Prop}{s:Shared}{id:String}{b:Builtin}{args:List Value}{kw:List (Str × Value)}{Q:Value->Shared->Prop} (hk:builtinKind id=none) (hp:plainId id=true)
  (hb:entryFor table id=some b) (ha:argsOk id ⟨args,kw⟩)
  (hc:wpAny (model prog w) A.in1 (b ⟨args,kw⟩) (λfin s'=>match fin with
   | .done f=>(match (Except.ok f:Result) with | .ok (.ret v)=>Q v s' | .ok _=>False | .error e=>E e s')
   | .again c'=>c'.quiet=true/\codeAny (model prog w) A c' (λr s'=>match r with | .ok (.ret v)=>Q v s' | .ok _=>False | .error e=>E e s') s') E s) :
  wpAny (model prog w) A (call (.builtin id) args kw) Q E s:=by
 refine wpAny_call (codeAny_call_builtin hp hb ?_);simp only [checkBuiltinCall,hk];cases hsig:Manifest.signature? id with
 |none=>exact Ya8 hc
 |some sig =>
  have ha':Bind.checkArgs id sig ⟨args,kw⟩=pure ():=by simpa only [argsOk,hsig] using ha
  simp only [ha'];exact Ya8 hc
theorem ZlV (a v:Value):argsOk "max" ⟨[a],[("default",v)]⟩:=by unfold argsOk;kernel_rfl
def oldS (o:Option Value):Array Value:=match o with | none=>#[] | some v=>#[v,v]
section
variable {prog:Program}{w:World}{A:Around}{R:Result->Shared->Prop}{I:Addr}{fp wr:List Addr}{n:Nat}{P:Nat->Value->Prop}{St:Nat->Heap->Prop}
theorem ZkO (W:Walks prog w A.in1 I fp wr n P St) (bt:Nat->Nat->Bool) (hcmp:CmpOf prog w A.in1 .Gt P bt) (S:Addr) (hSf:S∉fp) (d:Value) :
  ∀ (k j:Nat) (s:Shared) (o:Option Value) (c:Nat),n - j=k->j<=n->St j s.heap->(o=none->j=0)->(∀ v,o=some v->0<j/\P (argBest bt (j - 1)) v) ->
  s.heap.get? S=some { cls:=.type "list",dict:=none,data:=.seq (oldS o) c,slots:=#[] } ->
  (∀ v h' tk,(n=0->v=d)->(0<n->P (argBest bt (n - 1)) v)->(∀ b o,b∉wr->b≠S->s.heap.get? b=some o->h'.get? b=some o)->R (.ok (.ret v)) { s with heap:=h',toks:=tk }) ->
  codeAny (model prog w) A (.builtin "max.loop" ⟨[.ref I,.none,.ref S],[("default",d)]⟩) R s:=by
 have hSw:S∉wr:=λh=>hSf (W.sub _ h);have hname:(toString "max" ++ toString ".loop" : String) = "max.loop" := by decide
 intro k
 induction k with
 |zero =>
  intro j s o c hk hj hst h0 h1 hS hR;have hin:j=n:=by omega
  refine codeAny_builtin F.entry_max_loop ?_;rw [Around.under_plainId F.plain_max_loop _];show wpAny _ A.in1 (seqItems? (.ref S) >>= _) _ _ s;refine Ya3 (wpAny_seqItems hS rfl ?_);show wpAny _ A.in1 (tryCatch (pyNext (.ref I)) _ >>= _) _ _ s;refine Ya3 (wpAny_tryCatch (W.done s _ _ (hin ▸ hst) λh' tk hk'=>?_));have hS':=hk' S _ hSw hS;cases o with
  |none =>
   refine Ya3 (wpAny_rule (Ya8 ?_));exact hR d _ tk (λ_=>rfl) (λz=>absurd (h0 rfl) (by omega)) λb o hbw hbS e=>hk' b o hbw e
  |some vb =>
   obtain ⟨p1,p2⟩:=h1 vb rfl;show wpAny _ A.in1 (updateSeq S (λ_=>#[]) >>= _) _ _ _;refine Ya3 ?_;refine wpAny_updateSeq hS' rfl (hz:=(by show 2<=sizeLine;decide)) (Ya3 (wpAny_letGo (Ya8 ?_)));exact hR vb _ tk (λz=>absurd z (by omega)) (λ_=>by rw [<- hin];exact p2) λb o hbw hbS e=>(YaY _ _ (Ne.symm hbS)).trans (hk' b o hbw e)
 |succ k ih =>
  intro j s o c hk hj hst h0 h1 hS hR;have hlt:j<n:=by omega
  refine codeAny_builtin F.entry_max_loop ?_;rw [Around.under_plainId F.plain_max_loop _];show wpAny _ A.in1 (seqItems? (.ref S) >>= _) _ _ s;refine Ya3 (wpAny_seqItems hS rfl ?_);show wpAny _ A.in1 (tryCatch (pyNext (.ref I)) _ >>= _) _ _ s;refine Ya3 (wpAny_tryCatch (W.item j s _ _ hlt hst λv h' tk hP hst' hk'=>?_));have hS':=hk' S _ hSw hS;cases o with
  |none =>
   have hj0:=h0 rfl;subst hj0;show wpAny _ A.in1 (updateSeq S (λ_=>#[v,v]) >>= _) _ _ _;refine Ya3 ?_;refine wpAny_updateSeq hS' rfl ?_;rw [hname];refine Ya8 ⟨plainId_quiet F.plain_max_loop _,ih 1 _ (some v) _ (by omega) hlt (W.frame _ _ _ hst' λb hbf o e=>?_) (λz=>nomatch z) (λv' z=>by cases z;exact ⟨by decide,hP⟩) (Heap.get?_update_self _ hS' rfl) λv' h'' tk'' z1 hP' hk''=>?_⟩
   ·exact (YaY _ _ (λh:S=b=>hSf (by rw [h];exact hbf))).trans e
   ·exact hR v' h'' tk'' z1 hP' λb o hbw hbS e=>hk'' b o hbw hbS ((YaY _ _ (Ne.symm hbS)).trans (hk' b o hbw e))
  |some vb =>
   obtain ⟨p1,hPb⟩:=h1 vb rfl;obtain ⟨j,rfl⟩:∃ i,j=i+1:=⟨j - 1,by omega⟩;simp only [Nat.add_sub_cancel] at hPb;show wpAny _ A.in1 (tryCatch (holding [v,v] (richCompare .Gt v vb >>= _)) _ >>= _) _ _ _;refine Ya3 (wpAny_tryCatch (wpAny_holding (Ya3 (hcmp (j+1) (argBest bt j) v vb _ _ _ hP hPb ?_))));refine Ya3 (wpAny_holding (wpAny_truthy_bool ?_));refine Ya3 (wpAny_letGo (Ya8 ?_));cases hb:bt (j+1) (argBest bt j) with
   |true =>
    simp only [if_true];refine Ya3 ?_;refine wpAny_updateSeq hS' rfl (hz:=(by show 2<=sizeLine;decide)) (Ya3 (wpAny_letGo ?_));rw [hname];refine Ya8 ⟨plainId_quiet F.plain_max_loop _,ih (j+2) _ (some v) _ (by omega) hlt (W.frame _ _ _ hst' λb hbf o e=>?_) (λz=>nomatch z) (λv' z=>by cases z;exact ⟨by omega,by show P (argBest bt (j+1)) v;simp only [argBest,hb,if_true];exact hP⟩) (Heap.get?_update_self _ hS' rfl)
     λv' h'' tk'' z1 hP' hk''=>?_⟩
    ·exact (YaY _ _ (λh:S=b=>hSf (by rw [h];exact hbf))).trans e
    ·exact hR v' h'' tk'' z1 hP' λb o hbw hbS e=>hk'' b o hbw hbS ((YaY _ _ (Ne.symm hbS)).trans (hk' b o hbw e))
   |false =>
    simp only [Bool.false_eq_true,if_false];refine Ya3 (wpAny_letGo ?_);rw [hname];refine Ya8 ⟨plainId_quiet F.plain_max_loop _,ih (j+2) _ (some vb) c (by omega) hlt hst' (λz=>nomatch z) (λv' z=>by cases z;exact ⟨by omega,by show P (argBest bt (j+1)) vb;simp only [argBest,hb,Bool.false_eq_true,if_false];exact hPb⟩) hS' λv' h'' tk'' z1 hP' hk''=>?_⟩;exact hR v' h'' tk'' z1 hP' λb o hbw hbS e=>hk'' b o hbw hbS (hk' b o hbw e)
end
theorem ZlL {X:Cx} (hc:X.calm=true) {pins:List (Addr × Obj)}{s:Shared}{σ:St}{H:Hp}{p:Addr}{ns:List Int}{dv:V}{d:Value}{Q:VK} (I:Inv X pins σ H s) (rd:RelV dv d) (hq:SqL X.K H p (ns.map V.int))
  (q0:ns=[]->Q dv H) (q:ns≠[]->∀ M,M∈ns->(∀ a∈ns,a<=M)->Q (.int M) H):wpAny (model X.prog X.w) X.A (call (.builtin "max") [.ref p] [("default",d)]) (EP X pins σ Q) X.xe s:=by
 have hname:(toString "max" ++ toString ".loop" : String) = "max.loop" := by decide
 obtain ⟨its,r,pl,_⟩:=I.list hq;have hi:=ZbL r;obtain ⟨ys,e⟩:=hi.allInts.items;have hl:=pl.isList;have en:ns=ys.toList.map (·.1):=by
  have e1:=hi.numsOf;have e2:=nums_intItems ys;rw [<- e] at e2;exact e1.symm.trans e2
 have lz:ys.size=ns.length:=by rw [en];simp
 rw [e] at hl;refine Zlc F.kind_max F.plain_max F.entry_max (ZlV _ _) ?_;show wpAny _ _ (Builtin.Builtins.bindParams "max" ["key","default"] 0 ⟨[],[("default",d)]⟩ >>= _) _ _ s;refine Ya3 (wpAny_of_eq (show Builtin.Builtins.bindParams "max" ["key","default"] 0 ⟨[],[("default",d)]⟩=pure [none,some d] from rfl) ?_);refine Ya3 (Ya8 ?_);refine Ya3 (iter_intList hl λs₂ e st hfp hlI=>?_);subst e;refine Ya3 (wpAny_newObj_type ?_);rw [hname];have W:=Walks.list (prog:=X.prog) (w:=X.w) (A:=X.A.in1) (I.ok.hd hc) _ p hlI (intItems ys);refine Ya8 ⟨plainId_quiet F.plain_max_loop _,ZkO W (λi j=>decide (numAt ys i > numAt ys j)) (CmpOf.ints_gt (numAt ys) (λ_ _=>intItems_at)) _ (λhm=>Ybq _ (hfp _ hm)) d _ 0 _ none _ rfl (YaH _) (W.frame _ _ _ st λb _ o e=>Yad _ e) (λ_=>rfl) (λ_ z=>nomatch z) (Yao _ rfl) λv h' tk z1 z2 hk=>?_⟩;have hk0:=old_kept (s:=s) (l:=p) (h':=h') λb o hbw e=>hk b o hbw (Yap (Yal e)) (Yad _ e);have hsz:(intItems ys).size=ys.size:=by simp [intItems]
 by_cases hn:ns=[]
 ·have:v=d:=z1 (by rw [hsz,lz,hn];rfl);subst this;exact ⟨dv,H,I.kept hk0,rd,q0 hn⟩
 ·have hpos:0<ns.length:=by
   cases ns with
   |nil=>exact absurd rfl hn
   |cons=>exact Nat.succ_pos _
  have hv:=z2 (by rw [hsz];omega);rw [hsz] at hv;obtain ⟨t,rfl⟩:=intItems_at hv;obtain ⟨b1,b2⟩:=argBest_gt (numAt ys) (ys.size - 1);refine ⟨.int _,H,I.kept hk0,⟨_,rfl⟩,q hn _ ?_ λa ha=>?_⟩
  ·rw [en,numAt_eq];exact getD_mem (by rw [Yaa,YaD];omega)
  ·rw [en] at ha;obtain ⟨j,hj,rfl⟩:=mem_getD ha;rw [Yaa,YaD] at hj;have:=b2 j (by omega);rw [numAt_eq ys j] at this;exact this
theorem ZlU (a v:Value):argsOk "min" ⟨[a],[("default",v)]⟩:=by unfold argsOk;kernel_rfl
section
variable {prog:Program}{w:World}{A:Around}{R:Result->Shared->Prop}{I:Addr}{fp wr:List Addr}{n:Nat}{P:Nat->Value->Prop}{St:Nat->Heap->Prop}
theorem ZkM (W:Walks prog w A.in1 I fp wr n P St) (bt:Nat->Nat->Bool) (hcmp:CmpOf prog w A.in1 .Lt P bt) (S:Addr) (hSf:S∉fp) (d:Value) :
  ∀ (k j:Nat) (s:Shared) (o:Option Value) (c:Nat),n - j=k->j<=n->St j s.heap->(o=none->j=0)->(∀ v,o=some v->0<j/\P (argBest bt (j - 1)) v) ->
  s.heap.get? S=some { cls:=.type "list",dict:=none,data:=.seq (oldS o) c,slots:=#[] } ->
  (∀ v h' tk,(n=0->v=d)->(0<n->P (argBest bt (n - 1)) v)->(∀ b o,b∉wr->b≠S->s.heap.get? b=some o->h'.get? b=some o)->R (.ok (.ret v)) { s with heap:=h',toks:=tk }) ->
  codeAny (model prog w) A (.builtin "min.loop" ⟨[.ref I,.none,.ref S],[("default",d)]⟩) R s:=by
 have hSw:S∉wr:=λh=>hSf (W.sub _ h);have hname:(toString "min" ++ toString ".loop" : String) = "min.loop" := by decide
 intro k
 induction k with
 |zero =>
  intro j s o c hk hj hst h0 h1 hS hR;have hin:j=n:=by omega
  refine codeAny_builtin F.entry_min_loop ?_;rw [Around.under_plainId F.plain_min_loop _];show wpAny _ A.in1 (seqItems? (.ref S) >>= _) _ _ s;refine Ya3 (wpAny_seqItems hS rfl ?_);show wpAny _ A.in1 (tryCatch (pyNext (.ref I)) _ >>= _) _ _ s;refine Ya3 (wpAny_tryCatch (W.done s _ _ (hin ▸ hst) λh' tk hk'=>?_));have hS':=hk' S _ hSw hS;cases o with
  |none =>
   refine Ya3 (wpAny_rule (Ya8 ?_));exact hR d _ tk (λ_=>rfl) (λz=>absurd (h0 rfl) (by omega)) λb o hbw hbS e=>hk' b o hbw e
  |some vb =>
   obtain ⟨p1,p2⟩:=h1 vb rfl;show wpAny _ A.in1 (updateSeq S (λ_=>#[]) >>= _) _ _ _;refine Ya3 ?_;refine wpAny_updateSeq hS' rfl (hz:=(by show 2<=sizeLine;decide)) (Ya3 (wpAny_letGo (Ya8 ?_)));exact hR vb _ tk (λz=>absurd z (by omega)) (λ_=>by rw [<- hin];exact p2) λb o hbw hbS e=>(YaY _ _ (Ne.symm hbS)).trans (hk' b o hbw e)
 |succ k ih =>
  intro j s o c hk hj hst h0 h1 hS hR;have hlt:j<n:=by omega
  refine codeAny_builtin F.entry_min_loop ?_;rw [Around.under_plainId F.plain_min_loop _];show wpAny _ A.in1 (seqItems? (.ref S) >>= _) _ _ s;refine Ya3 (wpAny_seqItems hS rfl ?_);show wpAny _ A.in1 (tryCatch (pyNext (.ref I)) _ >>= _) _ _ s;refine Ya3 (wpAny_tryCatch (W.item j s _ _ hlt hst λv h' tk hP hst' hk'=>?_));have hS':=hk' S _ hSw hS;cases o with
  |none =>
   have hj0:=h0 rfl;subst hj0;show wpAny _ A.in1 (updateSeq S (λ_=>#[v,v]) >>= _) _ _ _;refine Ya3 ?_;refine wpAny_updateSeq hS' rfl ?_;rw [hname];refine Ya8 ⟨plainId_quiet F.plain_min_loop _,ih 1 _ (some v) _ (by omega) hlt (W.frame _ _ _ hst' λb hbf o e=>?_) (λz=>nomatch z) (λv' z=>by cases z;exact ⟨by decide,hP⟩) (Heap.get?_update_self _ hS' rfl) λv' h'' tk'' z1 hP' hk''=>?_⟩
   ·exact (YaY _ _ (λh:S=b=>hSf (by rw [h];exact hbf))).trans e
   ·exact hR v' h'' tk'' z1 hP' λb o hbw hbS e=>hk'' b o hbw hbS ((YaY _ _ (Ne.symm hbS)).trans (hk' b o hbw e))
  |some vb =>
   obtain ⟨p1,hPb⟩:=h1 vb rfl;obtain ⟨j,rfl⟩:∃ i,j=i+1:=⟨j - 1,by omega⟩;simp only [Nat.add_sub_cancel] at hPb;show wpAny _ A.in1 (tryCatch (holding [v,v] (richCompare .Lt v vb >>= _)) _ >>= _) _ _ _;refine Ya3 (wpAny_tryCatch (wpAny_holding (Ya3 (hcmp (j+1) (argBest bt j) v vb _ _ _ hP hPb ?_))));refine Ya3 (wpAny_holding (wpAny_truthy_bool ?_));refine Ya3 (wpAny_letGo (Ya8 ?_));cases hb:bt (j+1) (argBest bt j) with
   |true =>
    simp only [if_true];refine Ya3 ?_;refine wpAny_updateSeq hS' rfl (hz:=(by show 2<=sizeLine;decide)) (Ya3 (wpAny_letGo ?_));rw [hname];refine Ya8 ⟨plainId_quiet F.plain_min_loop _,ih (j+2) _ (some v) _ (by omega) hlt (W.frame _ _ _ hst' λb hbf o e=>?_) (λz=>nomatch z) (λv' z=>by cases z;exact ⟨by omega,by show P (argBest bt (j+1)) v;simp only [argBest,hb,if_true];exact hP⟩) (Heap.get?_update_self _ hS' rfl)
     λv' h'' tk'' z1 hP' hk''=>?_⟩
    ·exact (YaY _ _ (λh:S=b=>hSf (by rw [h];exact hbf))).trans e
    ·exact hR v' h'' tk'' z1 hP' λb o hbw hbS e=>hk'' b o hbw hbS ((YaY _ _ (Ne.symm hbS)).trans (hk' b o hbw e))
   |false =>
    simp only [Bool.false_eq_true,if_false];refine Ya3 (wpAny_letGo ?_);rw [hname];refine Ya8 ⟨plainId_quiet F.plain_min_loop _,ih (j+2) _ (some vb) c (by omega) hlt hst' (λz=>nomatch z) (λv' z=>by cases z;exact ⟨by omega,by show P (argBest bt (j+1)) vb;simp only [argBest,hb,Bool.false_eq_true,if_false];exact hPb⟩) hS' λv' h'' tk'' z1 hP' hk''=>?_⟩;exact hR v' h'' tk'' z1 hP' λb o hbw hbS e=>hk'' b o hbw hbS (hk' b o hbw e)
end
theorem ZlK {X:Cx} (hc:X.calm=true) {pins:List (Addr × Obj)}{s:Shared}{σ:St}{H:Hp}{p:Addr}{ns:List Int}{dv:V}{d:Value}{Q:VK} (I:Inv X pins σ H s) (rd:RelV dv d) (hq:SqL X.K H p (ns.map V.int))
  (q0:ns=[]->Q dv H) (q:ns≠[]->∀ M,M∈ns->(∀ a∈ns,M<=a)->Q (.int M) H):wpAny (model X.prog X.w) X.A (call (.builtin "min") [.ref p] [("default",d)]) (EP X pins σ Q) X.xe s:=by
 have hname:(toString "min" ++ toString ".loop" : String) = "min.loop" := by decide
 obtain ⟨its,r,pl,_⟩:=I.list hq;have hi:=ZbL r;obtain ⟨ys,e⟩:=hi.allInts.items;have hl:=pl.isList;have en:ns=ys.toList.map (·.1):=by
  have e1:=hi.numsOf;have e2:=nums_intItems ys;rw [<- e] at e2;exact e1.symm.trans e2
 have lz:ys.size=ns.length:=by rw [en];simp
 rw [e] at hl;refine Zlc F.kind_min F.plain_min F.entry_min (ZlU _ _) ?_;show wpAny _ _ (Builtin.Builtins.bindParams "min" ["key","default"] 0 ⟨[],[("default",d)]⟩ >>= _) _ _ s;refine Ya3 (wpAny_of_eq (show Builtin.Builtins.bindParams "min" ["key","default"] 0 ⟨[],[("default",d)]⟩=pure [none,some d] from rfl) ?_);refine Ya3 (Ya8 ?_);refine Ya3 (iter_intList hl λs₂ e st hfp hlI=>?_);subst e;refine Ya3 (wpAny_newObj_type ?_);rw [hname];have W:=Walks.list (prog:=X.prog) (w:=X.w) (A:=X.A.in1) (I.ok.hd hc) _ p hlI (intItems ys);refine Ya8 ⟨plainId_quiet F.plain_min_loop _,ZkM W (λi j=>decide (numAt ys i<numAt ys j)) (CmpOf.ints_lt (numAt ys) (λ_ _=>intItems_at)) _ (λhm=>Ybq _ (hfp _ hm)) d _ 0 _ none _ rfl (YaH _) (W.frame _ _ _ st λb _ o e=>Yad _ e) (λ_=>rfl) (λ_ z=>nomatch z) (Yao _ rfl) λv h' tk z1 z2 hk=>?_⟩;have hk0:=old_kept (s:=s) (l:=p) (h':=h') λb o hbw e=>hk b o hbw (Yap (Yal e)) (Yad _ e);have hsz:(intItems ys).size=ys.size:=by simp [intItems]
 by_cases hn:ns=[]
 ·have:v=d:=z1 (by rw [hsz,lz,hn];rfl);subst this;exact ⟨dv,H,I.kept hk0,rd,q0 hn⟩
 ·have hpos:0<ns.length:=by
   cases ns with
   |nil=>exact absurd rfl hn
   |cons=>exact Nat.succ_pos _
  have hv:=z2 (by rw [hsz];omega);rw [hsz] at hv;obtain ⟨t,rfl⟩:=intItems_at hv;obtain ⟨b1,b2⟩:=argBest_lt (numAt ys) (ys.size - 1);refine ⟨.int _,H,I.kept hk0,⟨_,rfl⟩,q hn _ ?_ λa ha=>?_⟩
  ·rw [en,numAt_eq];exact getD_mem (by rw [Yaa,YaD];omega)
  ·rw [en] at ha;obtain ⟨j,hj,rfl⟩:=mem_getD ha;rw [Yaa,YaD] at hj;have:=b2 j (by omega);rw [numAt_eq ys j] at this;exact this
def rDef (K:Yab) (R:Int->Int->Prop) (xs zs:List V) (H:Hp) (Q:VK):Prop:=∃ (p:Addr) (ns:List Int) (dv:V),xs=[.ref p]/\zs=[dv]/\SqL K H p (ns.map V.int)/\(ns=[]->Q dv H)/\(ns≠[]->∀ M,M∈ns->(∀ a∈ns,R a M)->Q (.int M) H)
def tDef (K:Yab) (R:Int->Int->Prop) (t tk:TA):TE:=λσ H Q=>t σ H λxs H1=>tk σ H1 λzs H2=>rDef K R xs zs H2 Q
theorem ZoM {X:Cx}{p pos kpos:Pos}{e dE:Expr}{te td:TE} (hc:X.calm=true) (hg:Gl X "max") (hm:X.mg "max" = none) (he:PE X e te) (hd:PE X dE td)
  (hst:starEach [e] X.env=(false,eval e X.env) :: starEach [] X.env:=by rfl)
  (hall:(backToKw pos (keywordEach [⟨some "default",dE,kpos⟩] X.env)).all (·.1.isSome)=true:=by rfl) (hks:(backToKw pos (keywordEach [⟨some "default",dE,kpos⟩] X.env)).filterMap (·.1)=[("default" : Str)]:=by rfl)
  (hpl:(backTo pos (starEach [e] X.env)).any (·.1)=false:=by rfl) (hno:(backToKw pos (keywordEach [⟨some "default",dE,kpos⟩] X.env)).any (·.1.isNone)=false:=by rfl)
  (hst2:backTo pos (starEach [e] X.env)=(false,eval e X.env) :: backTo pos (starEach [] X.env):=by rfl) :
  PE X (.Call (.Name "max" p) [e] [⟨some "default",dE,kpos⟩] pos) (tDef X.K (λa M=>a<=M) (Zc3 te tNil) (Zc3 td tNil)):=by
 intro pins s σ H Q I h;refine wpAny_Call_Name_kw (Zcd (u:=.builtin "max") I hg hm (by kernel_rfl) ?_);refine PyProof.Rows.callWith_kw (thn (Zab he ZaT hst pos pins s σ H _ I h) λus s1 ⟨vs,H1,I1,r,q⟩=>?_) hst2 hpl hall hno;refine thn (Zkf (kpos:=kpos) (nm:=some "default") hd ZnY pos pins s1 σ H1 _ I1 q) λws s2 ⟨zs,H2,I2,rz,q2⟩=>?_;obtain ⟨p,ns,dv,rfl,rfl,hq,q0,q1⟩:=q2;obtain ⟨d,rfl,rd⟩:=rz.one;obtain ⟨u,rfl,ru⟩:=r.one;cases ru;rw [hks];exact ZlL hc I2 rd hq q0 q1
theorem ZoK {X:Cx}{p pos kpos:Pos}{e dE:Expr}{te td:TE} (hc:X.calm=true) (hg:Gl X "min") (hm:X.mg "min" = none) (he:PE X e te) (hd:PE X dE td)
  (hst:starEach [e] X.env=(false,eval e X.env) :: starEach [] X.env:=by rfl)
  (hall:(backToKw pos (keywordEach [⟨some "default",dE,kpos⟩] X.env)).all (·.1.isSome)=true:=by rfl) (hks:(backToKw pos (keywordEach [⟨some "default",dE,kpos⟩] X.env)).filterMap (·.1)=[("default" : Str)]:=by rfl)
  (hpl:(backTo pos (starEach [e] X.env)).any (·.1)=false:=by rfl) (hno:(backToKw pos (keywordEach [⟨some "default",dE,kpos⟩] X.env)).any (·.1.isNone)=false:=by rfl)
  (hst2:backTo pos (starEach [e] X.env)=(false,eval e X.env) :: backTo pos (starEach [] X.env):=by rfl) :
  PE X (.Call (.Name "min" p) [e] [⟨some "default",dE,kpos⟩] pos) (tDef X.K (λa M=>M<=a) (Zc3 te tNil) (Zc3 td tNil)):=by
 intro pins s σ H Q I h;refine wpAny_Call_Name_kw (Zcd (u:=.builtin "min") I hg hm (by kernel_rfl) ?_);refine PyProof.Rows.callWith_kw (thn (Zab he ZaT hst pos pins s σ H _ I h) λus s1 ⟨vs,H1,I1,r,q⟩=>?_) hst2 hpl hall hno;refine thn (Zkf (kpos:=kpos) (nm:=some "default") hd ZnY pos pins s1 σ H1 _ I1 q) λws s2 ⟨zs,H2,I2,rz,q2⟩=>?_;obtain ⟨p,ns,dv,rfl,rfl,hq,q0,q1⟩:=q2;obtain ⟨d,rfl,rd⟩:=rz.one;obtain ⟨u,rfl,ru⟩:=r.one;cases ru;rw [hks];exact ZlK hc I2 rd hq q0 q1
end L2
namespace L2
open PySem PySem.Spec PyProof.Rows
section
variable {prog:Program}{w:World}{A:Around}{E:Value->Shared->Prop}{s:Shared}
end
end L2
namespace L2
open PySem PySem.Spec PyProof.Rows
section
variable {X:Cx}{tg:Expr}
end
end L2
namespace L2
open PySem PySem.Spec PyProof.Rows
section
variable {X:Cx}
end
end L2
namespace L2
open PySem PySem.Spec PyProof.Rows
section
variable {X:Cx}{tg:Expr}
end
end L2
namespace L2
open PySem PySem.Spec PyProof.Rows
section
variable {κ:Type} [DecidableEq κ]
def valV (kvs:List (κ × V)) (k:κ):Option V:=(kvs.find? λkv=>decide (kv.1=k)).map (·.2)
def putK (kvs:List (κ × V)) (k:κ) (v:V):List (κ × V) :=
 if (kvs.any λkv=>decide (kv.1=k))=true then kvs.map (λkv=>if kv.1=k then (kv.1,v) else kv) else kvs ++ [(k,v)]
theorem Zl4 {k:κ}:valV ([]:List (κ × V)) k=none:=rfl
theorem Zbd {p:κ × V}{r:List (κ × V)}{k:κ} (e:p.1=k):valV (p :: r) k=some p.2:=by simp [valV,List.find?_cons,e]
theorem Zbe {p:κ × V}{r:List (κ × V)}{k:κ} (e:¬ p.1=k):valV (p :: r) k=valV r k:=by simp [valV,List.find?_cons,e]
theorem Zbs (k:κ):∀ kvs:List (κ × V),(kvs.any λkv=>decide (kv.1=k))=(valV kvs k).isSome
 | []=>rfl
 |p :: r=>by
  rw [List.any_cons]
  by_cases e:p.1=k
  ·simp only [Zbd e,Ya4 e,Bool.true_or,Option.isSome_some]
  ·rw [Zbe e,Ya5 e,Bool.false_or];exact Zbs k r
theorem ZhS (k j:κ) (y:V):∀ kvs:List (κ × V),valV (kvs.map λkv=>if kv.1=k then (kv.1,y) else kv) j=(valV kvs j).map λx=>if j=k then y else x
 | []=>rfl
 |p :: r=>by
  have ih:=ZhS k j y r;rw [Yaw]
  by_cases h:p.1=k
  ·rw [Ya7 h]
   by_cases e:p.1=j
   ·rw [Zbd (p:=(p.1,y)) e,Zbd e,Option.map_some,Ya7 (e.symm.trans h)]
   ·rw [Zbe (p:=(p.1,y)) e,Zbe e,ih]
  ·rw [Ya6 h]
   by_cases e:p.1=j
   ·rw [Zbd (p:=p) e,Zbd e,Option.map_some,Ya6 (λz=>h (e.trans z))]
   ·rw [Zbe (p:=p) e,Zbe e,ih]
theorem ZfY (k j:κ) (y:V):∀ kvs:List (κ × V),valV kvs k=none->valV (kvs ++ [(k,y)]) j=if j=k then some y else valV kvs j
 | [],_=>by
  by_cases e:k=j
  ·rw [Ya7 e.symm];exact Zbd (p:=(k,y)) e
  ·rw [Ya6 (λz=>e z.symm)];exact Zbe (p:=(k,y)) e
 |p :: r,hn=>by
  rw [List.cons_append];have hk:¬ p.1=k:=λz=>by rw [Zbd z] at hn;cases hn
  rw [Zbe hk] at hn;have ih:=ZfY k j y r hn
  by_cases e:p.1=j
  ·rw [Zbd e,Zbd e,Ya6 (λz=>hk (e.trans z))]
  ·rw [Zbe e,Zbe e,ih]
theorem Zcq (kvs:List (κ × V)) (k j:κ) (y:V):valV (putK kvs k y) j=if j=k then some y else valV kvs j:=by
 unfold putK
 by_cases a:(kvs.any λkv=>decide (kv.1=k))=true
 ·rw [Ya7 a,ZhS];rw [Zbs] at a
  by_cases e:j=k
  ·obtain ⟨x,hx⟩:=Option.isSome_iff_exists.mp a;rw [Ya7 e,e,hx,Option.map_some,Ya7 rfl]
  ·rw [Ya6 e];cases valV kvs j with
   |none=>rfl
   |some x=>rw [Option.map_some,Ya6 e]
 ·rw [Ya6 a];refine ZfY k j y kvs ?_;rw [Zbs] at a;cases q:valV kvs k with
  |none=>rfl
  |some x=>rw [q] at a;exact (a rfl).elim
theorem Zb6 (kvs:List (κ × V)) (k:κ) (v:V):(putK kvs k v).length<=kvs.length+1:=by
 unfold putK;split
 ·rw [Yaa];omega
 ·rw [Yak,YaC,List.length_nil];omega
theorem Zfi {kvs:List (κ × V)}{k:κ} (v:V) (h:valV kvs k=none):putK kvs k v=kvs ++ [(k,v)]:=by
 unfold putK;rw [Zbs,h];exact Ya6 (by decide)
theorem RelO.isSome_eq {o:Option V}{u:Option Value} (r:RelO o u):o.isSome=u.isSome:=by
 cases o with
 |none=>cases u with
  |none=>rfl
  |some _=>exact (show False from r).elim
 |some _=>cases u with
  |none=>exact (show False from r).elim
  |some _=>rfl
theorem KV.val {kvs:List (κ × V)}{vs:List (κ × Value)} (r:KV kvs vs) (k:κ):RelO (valV kvs k) (valueAt vs k):=by
 unfold KV at r
 induction r with
 |nil=>exact True.intro
 | @cons p q ps qs h t ih =>
  obtain ⟨h1,h2⟩:=h
  by_cases e:p.1=k
  ·have e':q.1=k:=h1.symm.trans e;have b:valueAt (q :: qs) k=some q.2:=by simp [valueAt,List.find?_cons,e']
   rw [Zbd e,b];exact h2
  ·have e':¬ q.1=k:=λz=>e (h1.trans z);have b:valueAt (q :: qs) k=valueAt qs k:=by simp [valueAt,List.find?_cons,e']
   rw [Zbe e,b];exact ih
theorem KV.any {kvs:List (κ × V)}{vs:List (κ × Value)} (r:KV kvs vs) (k:κ):(kvs.any λkv=>decide (kv.1=k))=vs.any λkv=>decide (kv.1=k):=by
 unfold KV at r
 induction r with
 |nil=>rfl
 |cons h t ih=>rw [List.any_cons,List.any_cons,ih,h.1]
theorem KV.repl {kvs:List (κ × V)}{vs:List (κ × Value)} (r:KV kvs vs) (k:κ) {y:V}{u:Value} (ry:RelV y u) :
  KV (kvs.map λkv=>if kv.1=k then (kv.1,y) else kv) (vs.map λkv=>if kv.1=k then (kv.1,u) else kv):=by
 unfold KV at r ⊢
 induction r with
 |nil=>exact .nil
 | @cons p q ps qs h t ih =>
  rw [Yaw,Yaw];refine .cons ?_ ih;obtain ⟨h1,h2⟩:=h
  by_cases e:p.1=k
  ·rw [Ya7 e,Ya7 (h1.symm.trans e)];exact ⟨h1,ry⟩
  ·rw [Ya6 e,Ya6 (λz=>e (h1.trans z))];exact ⟨h1,h2⟩
theorem KV.put {kvs:List (κ × V)}{vs:List (κ × Value)} (r:KV kvs vs) (k:κ) {y:V}{u:Value} (ry:RelV y u):KV (putK kvs k y) (stored vs k u):=by
 unfold putK stored;rw [r.any k]
 by_cases e:(vs.any λkv=>decide (kv.1=k))=true
 ·rw [Ya7 e,Ya7 e];exact r.repl k ry
 ·rw [Ya6 e,Ya6 e];exact Paired.snoc r ⟨rfl,ry⟩
theorem KV.length {kvs:List (κ × V)}{vs:List (κ × Value)} (r:KV kvs vs):kvs.length=vs.length:=Paired.length r
end
theorem Zk1 {P:Program}{w:World}{k:Key}{u:Value} (r:RelV (kV k) u):(ZaV P w).is k u=true:=by
 cases k with
 |inl i=>obtain ⟨t,e⟩:=(show ∃ t,u=Value.int i t from r);subst e;exact ZhA P w i t
 |inr x=>obtain ⟨t,e⟩:=(show ∃ t,u=Value.str x t from r);subst e;exact Zhz P w x t
theorem ZgI {P:Program}{w:World}:∀ {ks:List Key}{us:List Value},Vals (ks.map kV) us->ItemsAre (ZaV P w) ks us
 | [],_,r=>by rw [List.map_nil] at r;cases r;exact .nil
 |k :: ks,_,r=>by
  rw [Yaw] at r;cases r with
  |cons h t=>exact .cons (Zk1 h) (ZgI t)
abbrev KT (H:Hp):List (List Key × V)->List (List Key × Addr × Value)->Prop:=Paired λp q=>p.1=q.1/\H q.2.1=some (.tup (p.1.map kV))/\RelV p.2 q.2.2
theorem KT.val {H:Hp}{kvs:List (List Key × V)}{xs:List (List Key × Addr × Value)} (r:KT H kvs xs) (k:List Key):RelO (valV kvs k) ((atKey xs k).map (·.2)):=by
 induction r with
 |nil=>exact True.intro
 | @cons p q ps qs h t ih =>
  obtain ⟨h1,_,h2⟩:=h
  by_cases e:p.1=k
  ·have e':q.1=k:=h1.symm.trans e;have b:atKey (q :: qs) k=some q.2:=by simp [atKey,List.find?_cons,e']
   rw [Zbd e,b];exact h2
  ·have e':¬ q.1=k:=λz=>e (h1.trans z);have b:atKey (q :: qs) k=atKey qs k:=by simp [atKey,List.find?_cons,e']
   rw [Zbe e,b];exact ih
theorem KT.repl {H:Hp}{kvs:List (List Key × V)}{xs:List (List Key × Addr × Value)} (r:KT H kvs xs) (k:List Key) {y:V}{u:Value} (ry:RelV y u) :
  KT H (kvs.map λkv=>if kv.1=k then (kv.1,y) else kv) (xs.map (putAt k u)):=by
 induction r with
 |nil=>exact .nil
 | @cons p q ps qs h t ih =>
  rw [Yaw,Yaw];refine .cons ?_ ih;obtain ⟨h1,h2,h3⟩:=h;unfold putAt
  by_cases e:p.1=k
  ·rw [Ya7 e,Ya7 (h1.symm.trans e)];exact ⟨h1,h2,ry⟩
  ·rw [Ya6 e,Ya6 (λz=>e (h1.trans z))];exact ⟨h1,h2,h3⟩
theorem KT.put {H:Hp}{kvs:List (List Key × V)}{xs:List (List Key × Addr × Value)} (r:KT H kvs xs) (k:List Key) {b:Addr}{y:V}{u:Value} (hb:H b=some (.tup (k.map kV))) (ry:RelV y u) :
  KT H (putK kvs k y) (storedH xs k b u):=by
 have e:(kvs.any λkv=>decide (kv.1=k))=(atKey xs k).isSome:=by
  rw [Zbs,(r.val k).isSome_eq,Option.isSome_map]
 unfold putK storedH;rw [e]
 by_cases q:(atKey xs k).isSome=true
 ·rw [Ya7 q,Ya7 q];exact r.repl k ry
 ·rw [Ya6 q,Ya6 q];exact Paired.snoc r ⟨rfl,hb,ry⟩
theorem KT.keeps {H H':Hp}{kvs:List (List Key × V)}{xs:List (List Key × Addr × Value)} (r:KT H kvs xs) (ht:∀ b ys,H b=some (.tup ys)->H' b=some (.tup ys)):KT H' kvs xs :=
 Paired.mapP r λ_ _ z=>⟨z.1,ht _ _ z.2.1,z.2.2⟩
section
variable {P:Program}{w:World}{H:Hp}{h:Heap}{a:Addr}
theorem Zp2 {u:HO} (ok:HOk P w H h) (e:Rd H a u):ObjOk P w H h a u:=e.ok ok
theorem Znu {kvs:List (Key × V)} (ok:HOk P w H h) (e:Rd H a (.dK kvs)):kvs.length<=sizeLine/\(a == sysModules)=false/\∃ vs,KV kvs vs/\h.DictOf (ZaV P w) a vs :=
 show ObjOk P w H h a (.dK kvs) from Zp2 ok e
theorem ZqL {kvs:List (Key × V)} (ok:HOk P w H h) (e:H a=some (.dK kvs)):kvs.length<=sizeLine/\(a == sysModules)=false/\∃ vs,KV kvs vs/\h.DictOf (ZaV P w) a vs:=Znu ok (.inl e)
theorem ZgH {ks:List Key} (ok:HOk P w H h) (e:H a=some (.tup (ks.map kV))):(tupleKind (ZaV P w)).is h ks a:=by
 obtain ⟨_,its,r,o,h1,h2,n,h3⟩:=(show ObjOk P w H h a (.tup (ks.map kV)) from ok a _ e);exact ⟨o,its.toArray,n,h1,h2,h3,by simpa using ZgI r⟩
theorem Zns {kvs:List (List Key × V)} (ok:HOk P w H h) (e:Rd H a (.dT kvs)):kvs.length<=sizeLine/\(a == sysModules)=false /\
  ∃ xs,KT H kvs xs/\h.DictOfH (tupleKind (ZaV P w)) a xs:=by
 obtain ⟨z,y,xs,r,o,es,ep,h1,h2,h3,h4,h5⟩:=(show ObjOk P w H h a (.dT kvs) from Zp2 ok e);refine ⟨z,y,xs,r,o,es,ep,h1,h2,h3,h4,λx hx=>?_,h5⟩;have all:∀ {l:List (List Key × V)}{m:List (List Key × Addr × Value)},KT H l m->∀ x∈m,(tupleKind (ZaV P w)).is h x.1 x.2.1:=by
  intro l m q
  induction q with
  |nil=>intro x hx;exact nomatch hx
  | @cons p q ps qs hq t ih =>
   intro x hx;rcases YaF.mp hx with e | hx
   ·subst e;exact ZgH ok (by rw [<- hq.1];exact hq.2.1)
   ·exact ih x hx
 exact all r x hx
theorem Zrw {kvs:List (List Key × V)} (ok:HOk P w H h) (e:H a=some (.dT kvs)):kvs.length<=sizeLine/\(a == sysModules)=false /\
  ∃ xs,KT H kvs xs/\h.DictOfH (tupleKind (ZaV P w)) a xs:=Zns ok (.inl e)
end
def DGet (H:Hp) (a:Addr) (y:V) (r:Option V):Prop :=
 (∃ kvs k,Rd H a (.dK kvs)/\y=kV k/\r=valV kvs k)\/∃ kvs k b,Rd H a (.dT kvs)/\y=.ref b/\H b=some (.tup (k.map kV))/\r=valV kvs k
def DPut (H:Hp) (a:Addr) (y v:V) (H':Hp):Prop :=
 (∃ kvs k,H a=some (.dK kvs)/\y=kV k/\kvs.length<sizeLine/\H'=upd H a (.dK (putK kvs k v))) \/
 ∃ kvs k b,H a=some (.dT kvs)/\y=.ref b/\H b=some (.tup (k.map kV))/\kvs.length<sizeLine/\H'=upd H a (.dT (putK kvs k v))
theorem DGet.k {H:Hp}{a:Addr}{kvs:List (Key × V)}{k:Key} (e:H a=some (.dK kvs)):DGet H a (kV k) (valV kvs k):=.inl ⟨kvs,k,.inl e,rfl,rfl⟩
theorem DPut.k {H:Hp}{a:Addr}{kvs:List (Key × V)}{k:Key}{v:V} (e:H a=some (.dK kvs)) (hl:kvs.length<sizeLine):DPut H a (kV k) v (upd H a (.dK (putK kvs k v))):=.inl ⟨kvs,k,e,rfl,hl,rfl⟩
theorem DPut.t {H:Hp}{a b:Addr}{kvs:List (List Key × V)}{k:List Key}{v:V} (e:H a=some (.dT kvs)) (eb:H b=some (.tup (k.map kV))) (hl:kvs.length<sizeLine) :
  DPut H a (.ref b) v (upd H a (.dT (putK kvs k v))):=.inr ⟨kvs,k,b,e,rfl,eb,hl,rfl⟩
section
variable {X:Cx}{pins:List (Addr × Obj)}{σ:St}{H:Hp}{s:Shared}{a:Addr}{y v:V}{u r:Value}{o:Option V}{A:Around}{E:Value->Shared->Prop}
theorem Zlp {Q:Value->Shared->Prop} (hu:A.units+1<cLine) (I:Inv X pins σ H s) (g:DGet H a y (some v)) (ry:RelV y u) (h:∀ w' s',Inv X pins σ H s'->RelV v w'->Q w' s') :
  wpAny (model X.prog X.w) A (getItem (.ref a) u) Q E s:=by
 rcases g with ⟨kvs,k,e,ey,l⟩ | ⟨kvs,k,b,e,ey,eb,l⟩
 ·subst ey;obtain ⟨z,hd,vs,rel,dd⟩:=Znu I.hok e;obtain ⟨w',hw,rw'⟩:=RelO.some_of (v:=v) (o:=valueAt vs k) (by rw [l];exact rel.val k);exact wpAny_getItem_of (Zk1 ry) dd.mapOf hw (h w' _ (I.tok _) rw')
 ·subst ey;cases (show u=Value.ref b from ry);obtain ⟨z,hd,xs,rel,dd⟩:=Zns I.hok e;obtain ⟨w',hw,rw'⟩:=RelO.some_of (v:=v) (o:=(atKey xs k).map (·.2)) (by rw [l];exact rel.val k);obtain ⟨p,hp,hp2⟩:=Option.map_eq_some_iff.mp hw;refine wpAny_getItem_heap (tupleKind_room_in1 hu) (ZgH I.hok eb) dd hp ?_;rw [hp2];exact h w' _ (I.tok _) rw'
theorem Zpp {Q:Value->Shared->Prop} (hu:A.units+1<cLine) (I:Inv X pins σ H s) (g:DGet H a y o) (ry:RelV y u) (h:∀ s',Inv X pins σ H s'->Q (.bool (!o.isSome)) s') :
  wpAny (model X.prog X.w) A (compareOp .NotIn u (.ref a)) Q E s:=by
 rcases g with ⟨kvs,k,e,ey,l⟩ | ⟨kvs,k,b,e,ey,eb,l⟩
 ·subst ey;obtain ⟨z,hd,vs,rel,dd⟩:=Znu I.hok e;refine wpAny_notIn_of (Zk1 ry) hd dd.mapOf ?_;rw [<- (rel.val k).isSome_eq,<- l];exact h _ (I.tok _)
 ·subst ey;cases (show u=Value.ref b from ry);obtain ⟨z,hd,xs,rel,dd⟩:=Zns I.hok e;refine wpAny_notIn_heap (tupleKind_room_in1 hu) (ZgH I.hok eb) hd dd ?_;have q:=(rel.val k).isSome_eq;rw [Option.isSome_map] at q;rw [<- q,<- l];exact h _ (I.tok _)
theorem ZfG {h':Heap}{t':Nat}{ob:HO} (I:Inv X pins σ H s) (mu:Mut (H a)) (hs:Heap.SameBut a s.heap h') (he:∃ q,h'.get? a=some q) (new:ObjOk X.prog X.w (upd H a ob) h' a ob) :
  Inv X pins σ (upd H a ob) { s with heap:=h',toks:=t' } :=
 I.write (x:=a) (e:=a) mu (.inl rfl) (λb q hb z=>(hs.2 b hb).trans z) he new
theorem Zoe {P:Program}{w:World}{H':Hp}{h':Heap}{kvs:List (Key × V)}{vs:List (Key × Value)} (z:kvs.length<=sizeLine) (hd:(a == sysModules)=false) (rel:KV kvs vs) (dd:h'.DictOf (ZaV P w) a vs) :
  ObjOk P w H' h' a (.dK kvs):=⟨z,hd,vs,rel,dd⟩
theorem Zlo {H':Hp}{Q:Unit->Shared->Prop} (hu:A.units+1<cLine) (I:Inv X pins σ H s) (g:DPut H a y v H') (ry:RelV y u) (rv:RelV v r) (h:∀ s',Inv X pins σ H' s'->Q () s') :
  wpAny (model X.prog X.w) A (setItem (.ref a) u r) Q E s:=by
 rcases g with ⟨kvs,k,e,ey,l,eH⟩ | ⟨kvs,k,b,e,ey,eb,l,eH⟩
 ·subst ey eH;obtain ⟨z,hd,vs,rel,dd⟩:=ZqL I.hok e;have hz:vs.length<=sizeLine:=by rw [<- rel.length];exact z
  have hl:(putK kvs k v).length<=sizeLine:=by have:=Zb6 kvs k v;omega
  refine wpAny_setItem_pairs (hsz:=hz) (Zk1 ry) dd λh' dd' hs=>h _ ?_;have he:∃ q,h'.get? a=some q:=let ⟨q,_,_,hq,_⟩:=dd';⟨q,hq⟩;exact ZfG I (by rw [e];exact True.intro) hs he (Zoe hl hd (rel.put k rv) dd')
 ·subst ey eH;cases (show u=Value.ref b from ry);obtain ⟨z,hd,xs,rel,dd⟩:=Zrw I.hok e;have hz:xs.length<=sizeLine:=by rw [<- Paired.length rel];exact z
  have hl:(putK kvs k v).length<=sizeLine:=by have:=Zb6 kvs k v;omega
  refine wpAny_setItem_heap (hsz:=hz) (tupleKind_room_in1 hu) (ZgH I.hok eb) dd λh' dd' hs=>h _ ?_;obtain ⟨q,es,ep,hq,h2,h3,h4,_,h5⟩:=dd';refine ZfG I (by rw [e];exact True.intro) hs ⟨q,hq⟩ ⟨hl,hd,_,(rel.put k eb rv).keeps λc ys ec=>?_,q,es,ep,hq,h2,h3,h4,h5⟩;rw [Zag (Zhy ec e (λz=>nomatch z))];exact ec
end
section
variable {X:Cx}{pins:List (Addr × Obj)}{σ:St}{H:Hp}{s:Shared}{a:Addr}{kvs:List (Key × V)}{k:Key}{u:Value}{A:Around}{E:Value->Shared->Prop}
end
def NoSl (i:Expr):Prop:=∀ ov iv,subscripted i false ov iv=operate [ov,iv] (getItem ov iv)
theorem ZjI {prog:Program}{w:World}{A:Around}{E:Value->Shared->Prop}{s:Shared}{env:Env}{value slice:Expr}{pos:Pos}{T id:String}{Q:Value->Shared->Prop}
  (hl:typeLookup (.type T) "__getitem__" = pure (some (.builtin id))) (hs:NoSl slice)
  (h:wpAny (model prog w) A (eval value env) (λo s₁=>wpAny (model prog w) A (eval slice env) (λi s₂=>s₂.TypeIs o T/\wpAny (model prog w) A (getItem o i) Q E s₂) E s₁) E s) :
  wpAny (model prog w) A (eval (.Subscript value slice pos) env) Q E s:=by
 refine Subscript_ (Ya9 h (λo s₁ h₁=>Ya9 h₁ (λi s₂ h₂=>?_) λ_ _ x=>x) λ_ _ x=>x);obtain ⟨hT,h₂⟩:=h₂;unfold subscriptTail;refine Ya3 ?_;rw [getitemInPython_of_ne hT.not_modules];refine Ya3 (wpAny_specialOf hT hl ?_);have fin:wpAny (model prog w) A (subscripted slice false o i) (λr s₃=>wpAny (model prog w) A (letTemporaryGo value o r >>= λ_=>pure r) Q E s₃) E s₂:=by
  rw [hs o i];exact wpAny_operating (Ya9 h₂ (λr s₃ h₃=>Ya3 (wpAny_letTemporaryGo (Ya8 h₃))) λ_ _ x=>x)
 first
  |exact Ya8 (Ya3 fin)
  |exact Ya3 (Ya8 (Ya3 fin))
  |exact Ya3 fin
theorem ZhE {X:Cx}{pins:List (Addr × Obj)}{σ:St}{H:Hp}{s:Shared}{a:Addr}{y:V}{o:Option V} (I:Inv X pins σ H s) (g:DGet H a y o):s.TypeIs (.ref a) "dict" := by
 rcases g with ⟨kvs,k,e,_,_⟩ | ⟨kvs,k,b,e,_,_,_⟩
 ·obtain ⟨_,_,vs,_,dd⟩:=Znu I.hok e;exact dd.typeIs
 ·obtain ⟨_,_,xs,_,dd⟩:=Zns I.hok e;exact dd.typeIs
def Zq3 (td ty:TE):TE:=λσ H Q=>td σ H λx H1=>ty σ H1 λy H2=>∃ a v,x=.ref a/\DGet H2 a y (some v)/\Q v H2
def Zoq (ty td:TE):TE:=λσ H Q=>ty σ H λy H1=>td σ H1 λx H2=>∃ a o,x=.ref a/\DGet H2 a y o/\Q (.bl (!o.isSome)) H2
def Zq7 (td ty tv:TE):TS:=λD σ H=>tv σ H λv H1=>td σ H1 λx H2=>ty σ H2 λy H3=>∃ a H4,x=.ref a/\DPut H3 a y v H4/\D.nx σ H4
section
variable {X:Cx}{o i e value:Expr}{pos pos' tpos:Pos}{td ty tv:TE}
theorem Zd9 (hu:X.A.units+1<cLine) (ho:PE X o td) (hi:PE X i ty) (hs:NoSl i):PE X (.Subscript o i pos) (Zq3 td ty):=by
 intro pins s σ H Q I h;refine ZjI PySem.F.slot_dict_getitem.lookup hs (thn (ho pins s σ H _ I h) λu s1 ⟨x,H1,I1,rx,q1⟩=>thn (hi pins s1 σ H1 _ I1 q1) λiv s2 ⟨y,H2,I2,ry,a,v,ex,g,q2⟩=>?_);subst ex;obtain rfl:u=Value.ref a:=rx;exact ⟨ZhE I2 g,Zlp hu I2 g ry λw' s3 I3 rw'=>⟨v,H2,I3,rw',q2⟩⟩
theorem Zkn (hu:X.A.units+1<cLine) (hi:PE X i ty) (ho:PE X o td):PC X .NotIn i o (Zoq ty td):=by
 intro pins s σ H Q I h;refine thn (hi pins s σ H _ I h) λiv s1 ⟨y,H1,I1,ry,q1⟩=>thn (ho pins s1 σ H1 _ I1 q1) λu s2 ⟨x,H2,I2,rx,a,ov,ex,g,q2⟩=>?_;subst ex;obtain rfl:u=Value.ref a:=rx;exact Zpp hu I2 g ry λs3 I3=>⟨.bl (!ov.isSome),H2,I3,rfl,q2⟩
theorem Zkc (hu:X.A.units+1<cLine) (ho:PE X o td) (hi:PE X i ty) (hv:PE X value tv) (hs:swapsWith value (some (.Subscript o i pos')) pos.line X.env=pure false) :
  PS X (.Assign [.Subscript o i pos'] value pos) (Zq7 td ty tv):=by
 intro pins s σ H D I h;refine wpAny_Assign_Subscript (thn (hv pins s σ H _ I h) λr s1 ⟨v,H1,I1,rv,q1⟩=>thn (ho pins s1 σ H1 _ I1 q1) λu s2 ⟨x,H2,I2,rx,q2⟩=>thn (hi pins s2 σ H2 _ I2 q2) λiv s3 ⟨y,H3,I3,ry,a,H4,ex,g,q3⟩=>?_) hs;subst ex;obtain rfl:u=Value.ref a:=rx;exact Zlo hu I3 g ry rv λs4 I4=>⟨σ,H4,I4,q3⟩
end
theorem Znv {P:Program}{w:World}{H:Hp} (h:Heap) (hb:sysModules<h.objs.size):ObjOk P w H (h.push { cls:=.type "dict",data:=.dict #[] }) h.objs.size (.dK []) :=
 ⟨YaH _,Ya1.mpr (Ne.symm (Yap hb)),[],.nil,Heap.DictOf.new h⟩
theorem Znt {P:Program}{w:World}{H:Hp} (h:Heap) (hb:sysModules<h.objs.size):ObjOk P w H (h.push { cls:=.type "dict",data:=.dict #[] }) h.objs.size (.dT []) :=
 ⟨YaH _,Ya1.mpr (Ne.symm (Yap hb)),[],.nil,_,#[],0,Yao _ rfl,⟨rfl,rfl,rfl⟩,rfl,rfl,List.nodup_nil⟩
def ZpP:TE:=λ_ H Q=>∀ p,H p=none->Q (.ref p) (upd H p (.dT []))
section
variable {X:Cx}{pos:Pos}
theorem ZmF:PE X (.Dict [] [] pos) ZpP:=λpins s σ H Q I h =>
 wpAny_Dict_empty ⟨.ref s.heap.objs.size,_,I.laid (a:=s.heap.objs.size) (o:=.dT []) (t':=s.toks) (λ_ _ q=>Yad _ q) (Yag _) (Znt s.heap I.big),rfl,h _ (I.hok.fresh (Yag _))⟩
end
def ZjH:List (TE × TE)->St->Hp->(List (V × V)->Hp->Prop)->Prop
 | [],_,H,Q=>Q [] H
 | (tk,tv) :: r,σ,H,Q=>tk σ H λx H1=>tv σ H1 λy H2=>ZjH r σ H2 λps H3=>Q ((x,y) :: ps) H3
abbrev VV:List (V × V)->List (Value × Value)->Prop:=Paired λp q=>RelV p.1 q.1/\RelV p.2 q.2
def PPs (X:Cx) (pos:Pos) (keys:List (Option Expr)) (values:List Expr) (trs:List (TE × TE)):Prop :=
 ∀ (pins:List (Addr × Obj)) (s:Shared) (σ:St) (H:Hp) (Q:List (V × V)->Hp->Prop),Inv X pins σ H s->ZjH trs σ H Q ->
  wpAny (model X.prog X.w) X.A (evalPairs (pairTrees keys values X.env pos)) (λvs s'=>∃ ps H',Inv X pins σ H' s'/\VV ps vs/\Q ps H') X.xe s
theorem ZoH {X:Cx}{pos:Pos}:PPs X pos [] [] []:=λpins s σ H Q I h=>pairTrees_nil_walk ⟨[],H,I,.nil,h⟩
theorem ZmB {X:Cx}{pos:Pos}{k v:Expr}{ks:List (Option Expr)}{vs:List Expr}{tk tv:TE}{trs:List (TE × TE)} (hk:PE X k tk) (hv:PE X v tv) (hr:PPs X pos ks vs trs) :
  PPs X pos (some k :: ks) (v :: vs) ((tk,tv) :: trs):=λpins s σ H Q I h =>
 pairTrees_cons_walk (thn (hk pins s σ H _ I h) λu s1 ⟨x,H1,I1,rx,q1⟩=>thn (hv pins s1 σ H1 _ I1 q1) λw2 s2 ⟨y,H2,I2,ry,q2⟩ =>
  thn (hr pins s2 σ H2 _ I2 q2) λws s3 ⟨ps,H3,I3,rel,q3⟩=>⟨(x,y) :: ps,H3,I3,.cons ⟨rx,ry⟩ rel,q3⟩)
def Zds (kvs more:List (Key × V)):List (Key × V):=more.foldl (λacc kv=>putK acc kv.1 kv.2) kvs
theorem KV.merge:∀ {more:List (Key × V)}{rs:List (Key × Value)}{kvs:List (Key × V)}{vs:List (Key × Value)},KV more rs->KV kvs vs->KV (Zds kvs more) (merged vs rs):=by
 intro more rs kvs vs r;unfold KV at r
 induction r generalizing kvs vs with
 |nil=>intro q;exact q
 | @cons p q ps qs h t ih =>
  intro r0;have e:KV (putK kvs p.1 p.2) (stored vs q.1 q.2):=by
   have:=r0.put p.1 h.2;rw [<- h.1];exact this
  exact ih e
theorem ZcT:∀ (more kvs:List (Key × V)),(Zds kvs more).length<=kvs.length+more.length
 | [],kvs=>by show kvs.length<=kvs.length+0;omega
 |p :: r,kvs=>by
  have h1:=ZcT r (putK kvs p.1 p.2);have h2:=Zb6 kvs p.1 p.2;show (Zds (putK kvs p.1 p.2) r).length<=_;rw [YaC];omega
theorem Ze2 {P:Program}{w:World}:∀ {kvs:List (Key × V)}{ws:List (Value × Value)},VV (kvs.map λkv=>(kV kv.1,kv.2)) ws->∃ rs,Carries (ZaV P w) ws rs/\KV kvs rs
 | [],_,r=>by rw [List.map_nil] at r;cases r;exact ⟨[],True.intro,.nil⟩
 |p :: kvs,_,r=>by
  rw [Yaw] at r;cases r with
  | @cons a b as bs h t =>
   obtain ⟨rs,c,q⟩:=Ze2 (P:=P) (w:=w) t;obtain ⟨b1,b2⟩:=b;exact ⟨(p.1,b2) :: rs,⟨Zk1 h.1,rfl,c⟩,.cons ⟨rfl,h.2⟩ q⟩
def Zq2 (trs:List (TE × TE)):TE:=λσ H Q=>∀ p,H p=none->ZjH trs σ (upd H p (.dK [])) λps H2=>H2 p=some (.dK [])/\∃ kvs:List (Key × V),ps=kvs.map (λkv=>(kV kv.1,kv.2))/\kvs.length<=15/\Q (.ref p) (upd H2 p (.dK (Zds [] kvs)))
theorem ZoO {X:Cx}{pos:Pos}{keys:List (Option Expr)}{values:List Expr}{trs:List (TE × TE)} (h:PPs X pos keys values trs) (hall:keys.all (·.isSome)=true) (hl:keys.length=values.length) (h0:keys≠[])
  (h15:keys.length<=15):PE X (.Dict keys values pos) (Zq2 trs):=by
 intro pins s σ H Q I q;have hn:=I.hok.fresh (Yag s.heap.objs.size);have I1:=I.laid (a:=s.heap.objs.size) (o:=.dK []) (h':=s.heap.push { cls:=.type "dict",data:=.dict #[] }) (t':=s.toks) (λ_ _ q=>Yad _ q) (Yag _) (Znv s.heap I.big);refine wpAny_Dict_walk (knd:=ZaV X.prog X.w) hall hl h0 h15 (thn (h pins _ σ _ _ I1 (q _ hn)) λws s2 ⟨ps,H2,I2,rel,e,kvs,ep,lk,q2⟩=>?_);subst ep;obtain ⟨rs,c,rk⟩:=Ze2 (P:=X.prog) (w:=X.w) rel;obtain ⟨z,hd,vs0,r0,dd⟩:=ZqL I2.hok e;cases r0;refine ⟨rs,c,dd,λh' dd' hs=>⟨.ref s.heap.objs.size,_,?_,rfl,q2⟩⟩;have hz:(Zds [] kvs).length<=sizeLine:=by
  have h1:=ZcT kvs [];rw [List.length_nil] at h1;rw [sizeLine_eq];omega
 have he:∃ q,h'.get? s.heap.objs.size=some q:=let ⟨q,_,_,hq,_⟩:=dd';⟨q,hq⟩;exact ZfG I2 (by rw [e];exact True.intro) hs he (Zoe hz hd (rk.merge .nil) dd')
structure M1 (X:Cx) (o:Expr) (m:Str) (apos:Pos) (e:Expr) (cpos:Pos):Prop where
 base:attributeBase o m X.env (eval o X.env)=eval o X.env
 few:((backTo cpos (starEach [e] X.env)).all (λx=>!x.1) && (backToKw cpos (keywordEach [] X.env)).all (λx=>x.1.isSome)
  && decide (([e]:List Expr).length+([]:List Keyword).length+(if ([]:List Keyword).isEmpty then 0 else 1)<30))=true
 line:(apos.endLine == cpos.line)=true
 trees:backTo cpos (starEach [e] X.env)=[(false,eval e X.env)]
structure M2 (X:Cx) (o:Expr) (m:Str) (apos:Pos) (e f:Expr) (cpos:Pos):Prop where
 base:attributeBase o m X.env (eval o X.env)=eval o X.env
 few:((backTo cpos (starEach [e,f] X.env)).all (λx=>!x.1) && (backToKw cpos (keywordEach [] X.env)).all (λx=>x.1.isSome)
  && decide (([e,f]:List Expr).length+([]:List Keyword).length+(if ([]:List Keyword).isEmpty then 0 else 1)<30))=true
 line:(apos.endLine == cpos.line)=true
 trees:backTo cpos (starEach [e,f] X.env)=[(false,eval e X.env),(false,eval f X.env)]
section
variable {X:Cx}{pins:List (Addr × Obj)}{σ:St}{H:Hp}{s:Shared}{a:Addr}{y d:V}{u r:Value}{o:Option V}{A:Around}{E:Value->Shared->Prop}
end
section
variable {X:Cx}{o e f:Expr}{apos cpos:Pos}{td ty tx:TE}
end
section
variable {X:Cx}{pins:List (Addr × Obj)}{σ:St}{H:Hp}{s:Shared}{a:Addr}{kvs:List (Key × V)}{A:Around}{E:Value->Shared->Prop}
end
section
variable {X:Cx}{pins:List (Addr × Obj)}{σ:St}{H:Hp}{s:Shared}{a:Addr}{y:V}{u:Value}{A:Around}{E:Value->Shared->Prop}
end
section
variable {X:Cx}
end
section
variable {κ:Type} [DecidableEq κ]
theorem Ze5 {kvs:List (κ × V)}{k:κ} (h:valV kvs k=none):¬ k∈kvs.map (·.1):=by
 intro m;obtain ⟨p,hp,e⟩:=Yar.mp m;have q:(kvs.any λkv=>decide (kv.1=k))=true:=List.any_eq_true.mpr ⟨p,hp,Ya4 e⟩;rw [Zbs,h] at q;exact absurd q (by simp)
theorem Zol {kvs:List (κ × V)}{k:κ}{v:V} (h:valV kvs k=some v):k∈kvs.map (·.1):=by
 have q:(kvs.any λkv=>decide (kv.1=k))=true:=by
  rw [Zbs,h]
  all_goals rfl
 obtain ⟨p,hp,e⟩:=List.any_eq_true.mp q;exact Yar.mpr ⟨p,hp,of_decide_eq_true e⟩
theorem ZkL:∀ {l:List κ}{k:κ},l.Nodup->¬ k∈l->(l ++ [k]).Nodup
 | [],k,_,_=>by simp
 |a :: r,k,h,hk=>by
  obtain ⟨h1,h2⟩:=Yba.mp h;show (a :: (r ++ [k])).Nodup;refine Yba.mpr ⟨λm=>?_,ZkL h2 λm=>hk (YaF.mpr (Or.inr m))⟩;rcases YaG.mp m with q | q
  ·exact h1 q
  ·exact hk (YaF.mpr (Or.inl (YaJ.mp q).symm))
theorem Zpb {kvs:List (κ × V)}{k:κ} (v:V) (hn:(kvs.map (·.1)).Nodup) (h:valV kvs k=none):((putK kvs k v).map (·.1)).Nodup:=by
 rw [Zfi v h,Yah];exact ZkL hn (Ze5 h)
end
end L2
namespace L2
open PySem PySem.Spec PyProof.Rows
def CBit (i j:Int):Prop:=0<=i/\0<=j
theorem Zjv {i j:Int} (h:CBit i j):Builtin.bitAnd i j=((i.toNat &&& j.toNat:Nat):Int):=by
 unfold Builtin.bitAnd;rw [Ya4 h.1,Ya4 h.2]
section
variable {X:Cx}
def Zrf:R2:=λx y H Q=>∃ i j:Int,x=.int i/\y=.int j/\CBit i j/\Q (.int ((i.toNat &&& j.toNat:Nat):Int)) H
theorem Zo8:OpR X (binaryOp .BitAnd) Zrf:=opI λi j _ _ _ _ _ hc q=>and_int (by rw [Zjv hc];exact q)
end
section
variable {prog:Program}{w:World}{A:Around}{E:Value->Shared->Prop}{s:Shared}{d it:Addr}{od:Obj}{es:Array DictEntry}{ep i:Nat}
theorem ZkY {Q:Value->Shared->Prop} (hd:(d == sysModules)=false) (g:s.heap.get? d=some od) (x:od.ExactDict) (y:od.data=.dict es ep)
  (q:Q (.ref s.heap.objs.size) { s with heap:=s.heap.push { cls:=.type "dict_keyiterator",data:=.fields #[.ref d,.int 0 0,.int es.size 0,.int ep 0] } }):wpAny (model prog w) A (pyIter (.ref d)) Q E s:=by
 have ty:s.TypeIs (.ref d) "dict" := ⟨od,g,x.1⟩;refine wpAny_pyIter_slot ty F.slot_dict_iter (wpAny_call_entry F.slot_dict_iter ty F.entry_dict_iter ?_ (F.args_dict_iter_1 _));unfold Builtin.«dict.__iter__»;refine Ya3 ?_;unfold Builtin.Dict.dictSlotNone;refine Ya3 (wpAny_notOrdered_dict ty (show wpAny _ _ (pure (Value.ref d)) _ _ s from Ya8 ?_));show wpAny _ _ (Builtin.Dict.showsAll d >>= _) _ _ s;unfold Builtin.Dict.showsAll;rw [Ya6 (by rw [hd];exact Yaq)];refine Ya3 (Ya8 (Ya3 (wpAny_dictEntries g y (Ya3 (wpAny_dictEpoch g y ?_)))));exact Ya3 (wpAny_newObj_type (Ya8 ⟨_,rfl, "dict_keyiterator", _,⟨_,Yao _ rfl,rfl⟩,F.slot_dict_keyiterator_next.lookup,by simpa [rawInt] using q⟩))
theorem ZkX {Q:Option Value->Shared->Prop} (j:s.heap.IsKeyIter it d i es.size ep) (g:s.heap.get? d=some od) (y:od.data=.dict es ep) (hl:i<es.size)
  (q:∀ h',h'.IsKeyIter it d (i+1) es.size ep->Heap.SameBut it s.heap h'->Q (some es[i].key) { s with heap:=h' }):wpAny (model prog w) A (pyNext (.ref it)) Q E s:=by
 obtain ⟨o,e1,e2,e3⟩:=id j;unfold pyNext;refine Ya3 (wpAny_attempt (wpAny_callSpecial?_slot (name:=Str.ofString "__next__") j.typeIs F.slot_dict_keyiterator_next (wpAny_call_entry F.slot_dict_keyiterator_next j.typeIs F.entry_dict_keyiterator_next ?_ (F.args_dict_keyiterator_next_1 _))));refine Ya3 (Ya8 (Ya3 (Ya3 ?_)))
 first | refine Ya3 (wpAny_typeNameOfWhole_keyiter j.typeIs (Ya8 (Ya3 (wpAny_fieldsOf e1 e3 ?_)))) | refine Ya3 (wpAny_typeNameOf_keyiter j.typeIs (Ya8 (Ya3 (wpAny_fieldsOf e1 e3 ?_))))
 simp only [show Builtin.Dict_items.ownsTuple "dict_keyiterator" = false by decide,Bool.false_eq_true,if_false];show wpAny _ _ (if (Value.ref d == Value.none)=true then _ else _) _ _ s;rw [Ya6 (show ¬ ((Value.ref d == Value.none)=true) from Yaq)];refine Ya3 (Ya8 (Ya3 (wpAny_dictEntries g y ?_)));rw [Ya6 (by simp)];refine Ya3 (Ya8 (Ya3 (wpAny_dictEpoch g y ?_)));rw [Ya6 (by simp)];refine Ya8 ?_;simp only [show ¬ ((i:Int)<0) from by omega,if_false,Yav,Array.getElem?_eq_getElem hl];refine Ya3 ?_
 first | refine Ya3 (wpAny_typeNameOfWhole_keyiter j.typeIs (Ya8 (Ya3 (wpAny_isOneOf_keyiter j.typeIs ?_)))) | refine Ya3 (wpAny_typeNameOf_keyiter j.typeIs (Ya8 (Ya3 (wpAny_isOneOf_keyiter j.typeIs ?_))))
 show wpAny _ _ (setField (.ref it) 1 (rawInt ((i:Int)+1)) >>= _) _ _ s;refine Ya3 (wpAny_setField e1 e3 (by simp) ?_);have j':(s.heap.update it (Obj.mapFields (·.setIfInBounds 1 (rawInt ((i:Int)+1))))).IsKeyIter it d (i+1) es.size ep:=⟨_,Heap.get?_update_self _ e1 (Obj.isFreed_of_fields (Obj.data_mapFields e3 _)),(Obj.cls_mapFields ..).trans e2,by rw [Obj.data_mapFields e3];simp [rawInt]⟩;refine Ya3 (wpAny_holding (Ya3 (wpAny_isOneOf_keyiter (s:={ s with heap:=s.heap.update it (Obj.mapFields (·.setIfInBounds 1 (rawInt ((i:Int)+1)))) }) j'.typeIs ?_)));show wpAny _ _ (pure es[i].key) _ _ _;exact Ya8 (Ya8 ⟨_,rfl,Ya8 (q _ j' (Heap.SameBut.update ..))⟩)
theorem Znj {Q:Option Value->Shared->Prop} (hh:A.handled=none) (j:s.heap.IsKeyIter it d i es.size ep) (g:s.heap.get? d=some od) (y:od.data=.dict es ep) (hl:es.size<=i)
  (q:∀ h',Heap.ExtBut it s.heap h'->Q none { s with heap:=h' }):wpAny (model prog w) A (pyNext (.ref it)) Q E s:=by
 obtain ⟨o,e1,e2,e3⟩:=id j;unfold pyNext;refine Ya3 (wpAny_attempt (wpAny_callSpecial?_slot (name:=Str.ofString "__next__") j.typeIs F.slot_dict_keyiterator_next (wpAny_call_entry F.slot_dict_keyiterator_next j.typeIs F.entry_dict_keyiterator_next ?_ (F.args_dict_keyiterator_next_1 _))));refine Ya3 (Ya8 (Ya3 (Ya3 ?_)))
 first | refine Ya3 (wpAny_typeNameOfWhole_keyiter j.typeIs (Ya8 (Ya3 (wpAny_fieldsOf e1 e3 ?_)))) | refine Ya3 (wpAny_typeNameOf_keyiter j.typeIs (Ya8 (Ya3 (wpAny_fieldsOf e1 e3 ?_))))
 simp only [show Builtin.Dict_items.ownsTuple "dict_keyiterator" = false by decide,Bool.false_eq_true,if_false];show wpAny _ _ (if (Value.ref d == Value.none)=true then _ else _) _ _ s;rw [Ya6 (show ¬ ((Value.ref d == Value.none)=true) from Yaq)];refine Ya3 (Ya8 (Ya3 (wpAny_dictEntries g y ?_)));rw [Ya6 (by simp)];refine Ya3 (Ya8 (Ya3 (wpAny_dictEpoch g y ?_)));rw [Ya6 (by simp)];refine Ya8 ?_;simp only [show ¬ ((i:Int)<0) from by omega,if_false,Yav,Array.getElem?_eq_none hl];refine Ya3 ?_
 first | refine Ya3 (wpAny_typeNameOfWhole_keyiter j.typeIs (Ya8 ?_)) | refine Ya3 (wpAny_typeNameOf_keyiter j.typeIs (Ya8 ?_))
 show wpAny _ _ (setField (.ref it) 0 .none >>= _) _ _ s;refine Ya3 (wpAny_setField e1 e3 (by simp) ?_);show wpAny _ _ (newExc (.type "StopIteration") [] >>= _) _ _ _;refine Ya3 ?_;simp only [newExc,newTuple];refine Ya3 (wpAny_newObj_type ?_ (by size_fits));refine Ya3 (m:=firstArgMember _ _) (wpAny_of_eq (a:=Value.none) (by first | rfl | (simp only [firstArgMember];rfl)) (wpAny_newObj_type ?_ (by size_fits)));simp only [raiseNew];refine Ya3 (wpAny_handled ?_);rw [show A.in1.handled=none from hh];refine Ya3 (Ya8 (wpAny_throw ?_));exact Ya3 (wpAny_isInstance (T := "StopIteration") (b:=true) ⟨_,Yao _ rfl,rfl⟩ isSubtype_stop (Ya8 (q _ (((Heap.SameBut.update ..).extBut.push _).push _))))
end
def Itd (o:Obj) (d:Addr) (kvs:List (List Key × V)):It :=
 ⟨λi H=>H d=some (.frz o (.dT kvs))/\i<kvs.length,λi H x H'=>H'=H/\∃ b ks v,kvs[i]? = some (ks,v)/\x=.ref b/\H b=some (.tup (ks.map kV)),λi H=>H d=some (.frz o (.dT kvs))/\kvs.length<=i⟩
theorem Zit {P:Program}{w:World}{H:Hp}{h:Heap}{d:Addr}{kvs:List (List Key × V)} (x:ObjOk P w H h d (.dT kvs)):(d == sysModules)=false/\∃ (xs:List (List Key × Addr × Value)) (o:Obj) (es:Array DictEntry) (ep:Nat),KT H kvs xs/\h.get? d=some o/\o.ExactDict/\o.data=.dict es ep/\es.toList=xs.map (entryOfKey (tupleKind (ZaV P w))):=by
 obtain ⟨_,hs,xs,r,o,es,ep,h1,h2,h3,h4,_⟩:=x;exact ⟨hs,xs,o,es,ep,r,h1,h2,h3,h4⟩
theorem KT.get {H:Hp}{kvs:List (List Key × V)}{xs:List (List Key × Addr × Value)} (r:KT H kvs xs):∀ {i:Nat}{p:List Key × V},kvs[i]? = some p->∃ q,xs[i]? = some q/\H q.2.1=some (.tup (p.1.map kV)):=by
 induction r with
 |nil=>intro i p e;simp at e
 | @cons p q ps qs hq t ih =>
  intro i p' e;cases i with
  |zero =>
   simp only [List.getElem?_cons_zero,Option.some.injEq] at e ⊢;subst e;exact ⟨q,rfl,hq.2.1⟩
  |succ j =>
   simp only [List.getElem?_cons_succ] at e ⊢;exact ih e
theorem ZjC {P:Program}{w:World}{K:Yab}{tg:Expr}{o:Obj}{es:Array DictEntry}{ep:Nat} (y:o.data=.dict es ep) (d it:Addr) (kvs:List (List Key × V)):Turn P w K tg (Itd o d kvs) [it] it (λi h=>h.IsKeyIter it d i es.size ep) where
 mem:=by simp
 obj:=λi h st b hb=>by
  have e:b=it:=by simpa using hb
  subst e;obtain ⟨u,e,c,d⟩:=st;exact ⟨u,e,λv z=>by rw [d] at z;cases z⟩
 keep:=λi h h' st k=>st.at λo e=>k it (by simp) o e
 item:=by
  intro X hP hw hK hc i pins s σ H E I hf st hg;subst hP hw hK;obtain ⟨hd,hi⟩:=hg;obtain ⟨g,ok⟩:=(show ObjOk X.prog X.w H s.heap d (.frz o (.dT kvs)) from I.hok d _ hd);obtain ⟨_,xs,o',es',ep',r,g',_,y',he⟩:=Zit ok;have eo:o=o':=Yae (g.symm.trans g');subst eo;have ey:=y.symm.trans y';injection ey with e1 e2;subst e1;obtain ⟨q,hq,hb⟩:=r.get (Yac hi);have hl:i<es.size:=by
   have e3:=congrArg List.length he;have e4:=(Yai.mp hq).1;simp at e3;omega
  have hk:es[i].key=.ref q.2.1:=by
   have e3:es.toList[i]? = some (entryOfKey (tupleKind (ZaV X.prog X.w)) q):=by rw [he,Yaf,hq];rfl
   rw [Array.getElem?_toList,Array.getElem?_eq_getElem hl] at e3;rw [Yae e3];rfl
  obtain ⟨f0,f1,f2,f3,f4,f5⟩:=hf it (by simp);refine ZkX st g y hl λh' st' sb=>?_;have I1:Inv X pins σ H { s with heap:=h' }:=I.turned (t':=s.toks) (λb o hb e=>(sb.2 b hb).trans e) f0 f1 f3 f4 f5;obtain ⟨u,e,c,dd⟩:=id st';exact ⟨_,rfl,Zk9 (s:={ s with heap:=h' }) e c dd (by decide) ⟨.ref q.2.1,H,I1,hk,⟨rfl,_,_,_,Yac hi,rfl,hb⟩,st',λb hb=>(hf b hb).1⟩⟩
 done:=by
  intro X hP hw hK hc i pins s σ H E I hf st hg;subst hP hw hK;obtain ⟨hd,hi⟩:=hg;obtain ⟨g,ok⟩:=(show ObjOk X.prog X.w H s.heap d (.frz o (.dT kvs)) from I.hok d _ hd);obtain ⟨_,xs,o',es',ep',r,g',_,y',he⟩:=Zit ok;have eo:o=o':=Yae (g.symm.trans g');subst eo;have ey:=y.symm.trans y';injection ey with e1 e2;subst e1;have hl:es.size<=i:=by
   have e3:=congrArg List.length he;have e4:=Paired.length r;simp at e3;omega
  obtain ⟨f0,f1,f2,f3,f4,f5⟩:=hf it (by simp);exact Znj (I.ok.hd hc) st g y hl λh' eb=>⟨rfl,I.turned (t':=s.toks) (λb o hb e=>eb b o hb e) f0 f1 f3 f4 f5⟩
 self:=λ_ _ _ _ _ st h=>wpAny_pyIter_keyiter st h
theorem Inv.freeze {X:Cx}{pins:List (Addr × Obj)}{σ:St}{H:Hp}{s:Shared}{d:Addr}{o:Obj}{kvs:List (List Key × V)} (I:Inv X pins σ H s) (hd:H d=some (.dT kvs)) (g:s.heap.get? d=some o):Inv X pins σ (upd H d (.frz o (.dT kvs))) s:=by
 refine I.write (h':=s.heap) (t':=s.toks) (e:=d) (by rw [hd];trivial) (.inl rfl) (λ_ _ _ e=>e) ⟨o,g⟩ ⟨g,?_⟩;obtain ⟨z,hs,xs,r,rest⟩:=(show ObjOk X.prog X.w H s.heap d (.dT kvs) from I.hok d _ hd);exact ⟨z,hs,xs,KT.keeps r λb ys e=>by rw [Zag (λz=>by rw [z,hd] at e;cases e)];exact e,rest⟩
section
variable {X:Cx}{tg:Expr}
def Zrr (tl:TE):TI:=λσ H R=>tl σ H λx H1=>∃ d kvs,x=.ref d/\((H1 d=some (.dT kvs)/\∀ o,R (Itd o d kvs) (upd H1 d (.frz o (.dT kvs))))\/∃ o,H1 d=some (.frz o (.dT kvs))/\R (Itd o d kvs) H1)
theorem Zfk {l:Expr}{tl:TE} (hl:PE X l tl):PI X tg l (Zrr tl):=by
 intro pins s σ H R I h;refine thn (hl pins s σ H _ I h) λv s1 ⟨x,H1,I1,r1,q1⟩=>?_;obtain ⟨d,kvs,e,q⟩:=q1;subst e;cases r1;have fin:∀ (o:Obj) (H2:Hp),Inv X pins σ H2 s1->H2 d=some (.frz o (.dT kvs))->R (Itd o d kvs) H2->wpAny (model X.prog X.w) X.A (pyIter (.ref d)) (PIE X pins σ tg R) X.xe s1:=λo H2 I2 hd hR=>by
  obtain ⟨g,ok⟩:=(show ObjOk X.prog X.w H2 s1.heap d (.frz o (.dT kvs)) from I2.hok d _ hd);obtain ⟨hs,xs,o',es,ep,r,g',x',y',he⟩:=Zit ok;have eo:o=o':=Yae (g.symm.trans g');subst eo;refine ZkY hs g x' y' ?_;refine ⟨s1.heap.objs.size,[s1.heap.objs.size],_,_,H2,rfl,I2.kept (t':=s1.toks) λb o e=>Yad _ e,ZjC y' d _ kvs,⟨_,Yao _ rfl,rfl,rfl⟩,λb hb=>?_,hR⟩;have e:b=s1.heap.objs.size:=by simpa using hb
  subst e;exact I2.fpOk (Yag _) (I2.hok.fresh (Yag _))
 rcases q with ⟨hd,hR⟩ | ⟨o,hd,hR⟩
 ·obtain ⟨hs,xs,o,es,ep,r,g,x',y',he⟩:=Zit (show ObjOk X.prog X.w H1 s1.heap d (.dT kvs) from I1.hok d _ hd);exact fin o _ (I1.freeze hd g) Zac (hR o)
 ·exact fin o H1 I1 hd hR
end
end L2
namespace L2
open PySem PySem.Spec PyProof.Rows
section
variable {M:Model}{A:Around}{E:Value->Shared->Prop}{s:Shared}
end
end L2
namespace L2
open PySem PySem.Spec PyProof.Rows
section
variable {X:Cx}{a b o:Expr}{ta tb to:TE}{pos:Pos}
end
end L2
namespace L2
open PySem PySem.Spec PyProof.Rows Builtin Builtin.Str
section
variable {X:Cx}
end
end L2
namespace L2
open PySem PySem.Spec PyProof.Rows
section
variable {X:Cx}
end
end L2
namespace L2
open PySem PySem.Spec PyProof.Rows
section
variable {prog:Program}{w:World}{A:Around}{E:Value->Shared->Prop}{s:Shared}
end
end L2
namespace L2
open PySem PySem.Spec PyProof.Rows
section
variable {X:Cx}{a b c e o:Expr}{ta tb te to:TE}{pos:Pos}
end
end L2
namespace L2
open PySem PySem.Spec PyProof.Rows
end L2
namespace L2
open PySem PySem.Spec PyProof.Rows
section
variable {P:Program}{w:World} (M:KeyKind P w Key)
inductive Subs (g:Heap):List (List Key)->List Value->Prop
 |nil:Subs g [] []
 |cons {ks:List Key}{b:Addr}{kss:List (List Key)}{us:List Value}:IsTupleKey M g ks b->Subs g kss us->Subs g (ks :: kss) (.ref b :: us)
def NestKey (g:Heap) (kss:List (List Key)) (b:Addr):Prop:=∃ ob its k,g.get? b=some ob/\ob.cls=.type "tuple" /\ ob.data=.seq its k/\Subs M g kss its.toList
variable {M}
theorem Subs.inj {g:Heap}{x y:List (List Key)}{us:List Value} (p:Subs M g x us) (q:Subs M g y us):x=y:=by
 induction p generalizing y with
 |nil=>cases q;rfl
 |cons a _ ih=>cases q with
  |cons c r=>rw [a.inj c,ih r]
theorem NestKey.ty {s:Shared}{kss:List (List Key)}{b:Addr} (x:NestKey M s.heap kss b):s.TypeIs (.ref b) "tuple" := let ⟨ob,_,_,h1,h2,_⟩:=x;⟨ob,h1,h2⟩
theorem NestKey.inj {g:Heap}{b:Addr}{x y:List (List Key)} (p:NestKey M g x b) (q:NestKey M g y b):x=y:=by
 obtain ⟨o1,i1,n1,a1,_,c1,d1⟩:=p;obtain ⟨o2,i2,n2,a2,_,c2,d2⟩:=q;have e:=Yae (a1.symm.trans a2);subst e;rw [c1] at c2;injection c2 with e1 _;subst e1;exact d1.inj d2
theorem Subs.keeps {g g':Heap}{kss:List (List Key)}{us:List Value}{d:Addr}{o:Obj}{es ep} (x:Subs M g kss us) (a:g.get? d=some o) (b:o.data=.dict es ep) (c:Heap.SameBut d g g'):Subs M g' kss us:=by
 induction x with
 |nil=>exact .nil
 |cons z _ ih=>exact .cons (z.keeps a b c) ih
theorem NestKey.keeps {g g':Heap}{kss:List (List Key)}{b d:Addr}{o:Obj}{es ep} (x:NestKey M g kss b) (h1:g.get? d=some o) (h2:o.data=.dict es ep) (h3:Heap.SameBut d g g'):NestKey M g' kss b:=by
 obtain ⟨ob,its,k,a1,a2,a3,a4⟩:=x;have ne:b≠d:=λz=>by
  subst z;have e:=Yae (a1.symm.trans h1);subst e;rw [h2] at a3;cases a3
 exact ⟨ob,its,k,(h3.2 b ne).trans a1,a2,a3,a4.keeps h1 h2 h3⟩
def Zfu (M:KeyKind P w Key) (kss:List (List Key)):Int:=reduceHash (Builtin.Tuple.tupleHashOf (kss.map (tupleKeyHash M)))
def Zeb (kss:List (List Key)):Nat:=(kss.map λks=>ks.length+1).sum+1
variable {A:Around}{E:Value->Shared->Prop}{s:Shared}
theorem ZkJ {kss:List (List Key)}{b:Addr}{Q:Int->Shared->Prop} (hu:A.units+8<cLine) (hk:NestKey M s.heap kss b) (q:Q (Zfu M kss) { s with toks:=s.toks+Zeb kss }):wpAny (model P w) A (pyHash (.ref b)) Q E s:=by
 have T:=hk.ty;obtain ⟨ob,its,k,a1,_,a3,a4⟩:=hk;unfold pyHash
 first | unfold pyHashByItsType | skip
 first | refine Ya3 (wpAny_cRoomFor_or (.inr (by omega)) ?_) | skip
 refine Ya3 (wpAny_specialOf T F.slot_tuple_hash.lookup ?_);show wpAny _ _ (if (some (Value.builtin "tuple.__hash__") == some Value.none)=true then _ else _) Q E s;rw [Ya6 (by rw [beq_builtin_none];exact Yaq)];refine Ya3 (wpAny_specialOf T F.slot_tuple_hash.lookup ?_);show wpAny _ _ (callSpecialIfBoundUnlessNone? (.ref b) "__hash__" _ >>= _) Q E s;refine Ya3 (wpAny_callSpecialIfBoundUnlessNone?_slot T F.slot_tuple_hash (wpAny_call_entry F.slot_tuple_hash T F.entry_tuple_hash ?_ (F.args_tuple_hash_1 _)));show wpAny _ _ (Builtin.Tuple.tupleItemsOf (.ref b) >>= _) _ _ s;refine Ya3 (wpAny_tupleItemsOf a1 a3 ?_);refine Ya3 ?_;rw [<- Array.forIn_toList];refine wpAny_forIn_list _ (λrest (acc:Array Int) s'=>∃ done left,kss=done ++ left/\Subs M s'.heap left rest/\acc.toList=done.map (tupleKeyHash M)/\s'={ s with toks:=s.toks+(done.map λks=>ks.length+1).sum })
  _ ?_ ?_ _ _ ⟨[],kss,rfl,a4,rfl,rfl⟩
 ·rintro x rest acc s' ⟨done,left,rfl,hl,hb,rfl⟩;cases hl with
  | @cons k0 b0 ks' _ h1 hl' =>
   refine Ya3 (wpAny_pyHash_tuple (knd:=M) (by show A.units+1<cLine;omega) h1 ?_);have e:(done ++ [k0]).map (λks=>ks.length+1)=(done.map λks=>ks.length+1) ++ [k0.length+1]:=by simp
   first
    |exact Ya8 ⟨done ++ [k0],ks',by simp,hl',by simp [hb],by simp [Nat.add_assoc]⟩
    |exact Ya3 (Ya8 (Ya8 ⟨done ++ [k0],ks',by simp,hl',by simp [hb],by simp [Nat.add_assoc]⟩))
 ·rintro acc s' ⟨done,left,rfl,hl,hb,rfl⟩;cases hl;rw [List.append_nil] at q;show wpAny _ _ (retInt (Builtin.Tuple.tupleHashOf acc.toList)) _ _ _;rw [hb];refine wpAny_ret_mkInt ?_;generalize ht:Builtin.Tuple.tupleHashOf (done.map (tupleKeyHash M))=t;show wpAny _ _ (if (decide (-(2:Int) ^ 63<=t) && decide (t<2 ^ 63))=true then _ else _) Q E _;unfold Zfu at q;rw [ht] at q;unfold reduceHash Zeb at q
  by_cases hr:(decide (-(2:Int) ^ 63<=t) && decide (t<2 ^ 63))=true
  ·rw [Ya7 hr] at q ⊢;exact Ya8 (by simpa [Nat.add_assoc] using q)
  ·rw [Ya6 hr] at q ⊢;exact Ya3 (wpAny_rule (Ya8 (by simpa [Nat.add_assoc] using q)))
theorem ZkI {x y:List (List Key)}{a b:Addr}{R:Fin->Shared->Prop} (hu:A.units+2<cLine) (hx:NestKey M s.heap x a) (hy:NestKey M s.heap y b) (q:R (.done (.ret (.bool (decide (x=y))))) s):wpAny (model P w) A (Builtin.«tuple.__eq__» ⟨[.ref a,.ref b],[]⟩) R E s:=by
 have T2:=hy.ty;obtain ⟨o1,xs,n1,a1,_,a3,a4⟩:=hx;obtain ⟨o2,ys,n2,b1,_,b3,b4⟩:=hy;show wpAny _ _ (isInstance (.ref b) (.type "tuple") >>= _) _ _ s;refine Ya3 (wpAny_isInstance T2 isSubtype_tuple_tuple ?_);simp only [Bool.not_true,Bool.false_eq_true,if_false];refine Ya3 (wpAny_tupleItemsOf a1 a3 (Ya3 (wpAny_tupleItemsOf b1 b3 (Ya3 ?_))));refine wpAny_forIn_list _ (λrest r s'=>r.1=none/\s'=s/\∃ x' y' xs' ys',rest=List.zip xs' ys'/\Subs M s.heap x' xs'/\Subs M s.heap y' ys'/\decide (x'=y')=decide (x=y)/\(xs'.length == ys'.length)=(xs.size == ys.size))
  _ ?_ ?_ _ _ ⟨rfl,rfl,x,y,xs.toList,ys.toList,rfl,a4,b4,rfl,by simp⟩
 ·rintro ⟨u,v⟩ rest r s' ⟨hr,rfl,x',y',xs',ys',hz,hx',hy',hd,hl⟩;cases hx' with
  |nil=>simp at hz
  | @cons k1 c1 x2 xs2 h1 hx2 =>
   cases hy' with
   |nil=>simp at hz
   | @cons k2 c2 y2 ys2 h2 hy2 =>
    simp only [List.zip_cons_cons,List.cons.injEq,Prod.mk.injEq] at hz;obtain ⟨⟨rfl,rfl⟩,rfl⟩:=hz;refine Ya3 (wpAny_eqBool_tuple (knd:=M) (by omega) h1 h2 ?_)
    by_cases hk:k1=k2
    ·subst hk;rw [Ya4 rfl];simp only [Bool.not_true,Bool.false_eq_true,if_false];refine Ya8 ⟨rfl,rfl,x2,y2,xs2,ys2,rfl,hx2,hy2,?_,by simpa using hl⟩;rw [<- hd]
     by_cases e:x2=y2 <;> simp [e]
    ·rw [Ya5 hk];simp only [Bool.not_false,if_true];rw [show decide (x=y)=false by rw [<- hd];simp [hk]] at q;exact Ya3 (Ya8 (Ya8 (Ya8 q)))
 ·rintro ⟨r1,r2⟩ s' ⟨hr,rfl,x',y',xs',ys',hz,hx',hy',hd,hl⟩;simp only at hr;subst hr;refine Ya8 ?_;have fin:(xs.size == ys.size)=decide (x=y):=by
   rw [<- hd,<- hl];cases hx' with
   |nil=>cases hy' <;> simp
   |cons _ _=>cases hy' with
    |nil=>simp
    |cons _ _=>simp at hz
  show R (.done (.ret (.bool (xs.size == ys.size)))) s';rw [fin];exact q
theorem Zo9 {x y:List (List Key)}{a b:Addr}{Q:Bool->Shared->Prop} (hu:A.units+8<cLine) (hx:NestKey M s.heap x a) (hy:NestKey M s.heap y b) (q:Q (decide (x=y)) s):wpAny (model P w) A (eqBool (.ref a) (.ref b)) Q E s:=by
 unfold eqBool
 try with_reducible refine wpAny_holding ?_
 show wpAny _ _ (if (Value.ref a == Value.ref b)=true then _ else _) Q E s
 by_cases ab:(Value.ref a == Value.ref b)=true
 ·rw [Ya7 ab];have e:a=b:=by injection eq_of_beq ab
  subst e;have e2:=hx.inj hy;subst e2;exact Ya3 (wpAny_rule (Ya8 (by simpa using q)))
 ·rw [Ya6 ab];exact Ya3 (wpAny_richCompare_same_room (op:=.Eq) hx.ty hy.ty F.slot_tuple_eq (wpAny_call_entry F.slot_tuple_eq hx.ty F.entry_tuple_eq (ZkI (by show A.units+1+2<cLine;omega) hx hy ⟨_,rfl,(λe=>nomatch e),wpAny_truthy_bool q⟩) (F.args_tuple_eq_2 _ _)) (by omega))
theorem Zp4 {ks:List Key}{b:Addr}{Q:Bool->Shared->Prop} (hk:IsTupleKey M s.heap ks b) (q:Q true s):wpAny (model P w) A (eqIsQuiet 7 (.ref b)) Q E s:=by
 have T:=hk.typeIs;obtain ⟨ob,its,k,a1,_,a3,a4⟩:=hk;unfold eqIsQuiet;refine Ya3 (wpAny_specialOf T F.slot_tuple_eq.lookup ?_);show wpAny _ _ (isInstance (.ref b) (.type "tuple") >>= _) _ _ s;refine Ya3 (wpAny_isInstance T isSubtype_tuple_tuple ?_);simp only [Bool.not_true,Bool.false_eq_true,if_false];refine Ya3 (wpAny_seqItems a1 a3 (Ya3 ?_));show wpAny _ _ (forIn its _ _) _ _ s;rw [<- Array.forIn_toList];refine wpAny_forIn_list _ (λrest r s'=>r.1=none/\s'=s/\∀ v∈rest,carriedByValue v=true) _ ?_ ?_ _ _ ⟨rfl,rfl,a4.byValue⟩
 ·rintro v rest r s' ⟨hr,rfl,hall⟩;rw [eqIsQuiet_byValue _ (hall v YaM)];refine Ya3 (Ya8 ?_);simp only [Bool.not_true,Bool.false_eq_true,if_false];exact Ya8 ⟨rfl,rfl,λu hu'=>hall u (Yas _ hu')⟩
 ·rintro ⟨r1,r2⟩ s' ⟨hr,rfl,_⟩;simp only at hr;subst hr;exact Ya8 q
theorem Zjc {kss:List (List Key)}{b:Addr}{Q:Bool->Shared->Prop} (hk:NestKey M s.heap kss b) (q:Q true s):wpAny (model P w) A (eqIsQuiet 8 (.ref b)) Q E s:=by
 have T:=hk.ty;obtain ⟨ob,its,k,a1,_,a3,a4⟩:=hk;unfold eqIsQuiet;refine Ya3 (wpAny_specialOf T F.slot_tuple_eq.lookup ?_);show wpAny _ _ (isInstance (.ref b) (.type "tuple") >>= _) _ _ s;refine Ya3 (wpAny_isInstance T isSubtype_tuple_tuple ?_);simp only [Bool.not_true,Bool.false_eq_true,if_false];refine Ya3 (wpAny_seqItems a1 a3 (Ya3 ?_));show wpAny _ _ (forIn its _ _) _ _ s;rw [<- Array.forIn_toList];refine wpAny_forIn_list _ (λrest r s'=>r.1=none/\s'=s/\∃ l,Subs M s.heap l rest) _ ?_ ?_ _ _ ⟨rfl,rfl,kss,a4⟩
 ·rintro v rest r s' ⟨hr,rfl,l,hl⟩;cases hl with
  |cons h1 h2 =>
   refine Ya3 (Zp4 h1 ?_);simp only [Bool.not_true,Bool.false_eq_true,if_false];exact Ya8 ⟨rfl,rfl,_,h2⟩
 ·rintro ⟨r1,r2⟩ s' ⟨hr,rfl,_⟩;simp only at hr;subst hr;exact Ya8 q
end
def Zb5 (P:Program) (w:World):HeapKind P w (List (List Key)) where
 is:=NestKey (ZaV P w)
 hash:=Zfu (ZaV P w)
 draws:=Zeb
 room:=λA=>A.units+8<cLine
 inj:=λa b=>a.inj b
 keeps:=λx a b c=>x.keeps a b c
 pyHash:=λa b c=>ZkJ a b c
 eqBool:=λa b c d=>Zo9 a b c d
 quiet:=λa b=>Zjc a b
def NT (H:Hp) (b:Addr) (kss:List (List Key)):Prop:=∃ bs:List Addr,H b=some (.tup (bs.map V.ref))/\Paired (λks c=>H c=some (.tup (ks.map kV))) kss bs
def TupS (H H':Hp):Prop:=∀ b ys,H b=some (.tup ys)->H' b=some (.tup ys)
theorem NT.keeps {H H':Hp}{b:Addr}{kss:List (List Key)} (x:NT H b kss) (t:TupS H H'):NT H' b kss:=let ⟨bs,e,p⟩:=x;⟨bs,t _ _ e,Paired.mapP p λ_ _ z=>t _ _ z⟩
abbrev KN (H:Hp):List (List (List Key) × V)->List (List (List Key) × Addr × Value)->Prop:=Paired λp q=>p.1=q.1/\NT H q.2.1 p.1/\RelV p.2 q.2.2
theorem KN.val {H:Hp}{kvs:List (List (List Key) × V)}{xs:List (List (List Key) × Addr × Value)} (r:KN H kvs xs) (k:List (List Key)):RelO (valV kvs k) ((atKey xs k).map (·.2)):=by
 induction r with
 |nil=>exact True.intro
 | @cons p q ps qs z t ih =>
  by_cases e:p.1=k
  ·rw [Zbd e,show atKey (q :: qs) k=some q.2 by simp [atKey,List.find?_cons,z.1.symm.trans e]];exact z.2.2
  ·have e':¬ q.1=k:=λy=>e (z.1.trans y);rw [Zbe e,show atKey (q :: qs) k=atKey qs k by simp [atKey,List.find?_cons,e']];exact ih
theorem KN.repl {H:Hp}{kvs:List (List (List Key) × V)}{xs:List (List (List Key) × Addr × Value)} (r:KN H kvs xs) (k:List (List Key)) {y:V}{u:Value} (ry:RelV y u):KN H (kvs.map λkv=>if kv.1=k then (kv.1,y) else kv) (xs.map (putAt k u)):=by
 induction r with
 |nil=>exact .nil
 | @cons p q ps qs z t ih =>
  rw [Yaw,Yaw];refine .cons ?_ ih;unfold putAt
  by_cases e:p.1=k
  ·rw [Ya7 e,Ya7 (z.1.symm.trans e)];exact ⟨z.1,z.2.1,ry⟩
  ·rw [Ya6 e,Ya6 (λy=>e (z.1.trans y))];exact z
theorem KN.put {H:Hp}{kvs:List (List (List Key) × V)}{xs:List (List (List Key) × Addr × Value)} (r:KN H kvs xs) (k:List (List Key)) {b:Addr}{y:V}{u:Value} (hb:NT H b k) (ry:RelV y u):KN H (putK kvs k y) (storedH xs k b u):=by
 unfold putK storedH;rw [show (kvs.any λkv=>decide (kv.1=k))=(atKey xs k).isSome by rw [Zbs,(r.val k).isSome_eq,Option.isSome_map]]
 by_cases q:(atKey xs k).isSome=true
 ·rw [Ya7 q,Ya7 q];exact r.repl k ry
 ·rw [Ya6 q,Ya6 q];exact Paired.snoc r ⟨rfl,hb,ry⟩
section
variable (P:Program) (w:World)
def nF (d:Addr) (xs:List (List (List Key) × Addr × Value)) (h:Heap):Prop:=xs.length<=sizeLine/\(d == sysModules)=false/\∃ o es ep,h.get? d=some o/\o.ExactDict/\o.data=.dict es ep/\es.toList=xs.map (entryOfKey (Zb5 P w))/\(xs.map (·.1)).Nodup
def DN (H:Hp) (d:Addr) (kvs:List (List (List Key) × V)):Prop:=∃ xs,H d=some (.ext (nF P w d xs))/\KN H kvs xs
variable {P w}
theorem nF.ok {H:Hp}{h:Heap}{d:Addr}{xs:List (List (List Key) × Addr × Value)} (x:nF P w d xs h):ObjOk P w H h d (.ext (nF P w d xs)) :=
 ⟨x,let ⟨_,_,o,_,_,e,_⟩:=x;⟨o,e⟩,λ_ _ ⟨a,b,o,es,ep,e,c⟩ k=>⟨a,b,o,es,ep,k _ e,c⟩⟩
theorem DN.keeps {H H':Hp}{d:Addr}{kvs:List (List (List Key) × V)} (x:DN P w H d kvs) (e:H' d=H d) (t:TupS H H'):DN P w H' d kvs:=let ⟨xs,a,r⟩:=x;⟨xs,e.trans a,Paired.mapP r λ_ _ z=>⟨z.1,z.2.1.keeps t,z.2.2⟩⟩
theorem Zft {H:Hp}{h:Heap} (ok:HOk P w H h) {b:Addr}{kss:List (List Key)} (x:NT H b kss):(Zb5 P w).is h kss b:=by
 obtain ⟨bs,e,p⟩:=x;obtain ⟨_,its,r,ob,h1,h2,k,h3⟩:=(show ObjOk P w H h b (.tup (bs.map V.ref)) from ok b _ e);refine ⟨ob,its.toArray,k,h1,h2,h3,?_⟩;have go:∀ {ls:List (List Key)}{cs:List Addr}{us:List Value},Paired (λks c=>H c=some (.tup (ks.map kV))) ls cs->Vals (cs.map V.ref) us->Subs (ZaV P w) h ls us:=by
  intro ls cs us p
  induction p generalizing us with
  |nil=>intro r;cases r;exact .nil
  |cons z _ ih =>
   intro r;rw [Yaw] at r;cases r with
   | @cons _ u _ _ r1 r2 =>
    cases (show u=Value.ref _ from r1);exact .cons (ZgH ok z) (ih r2)
 simpa using go p r
theorem Zpn {H:Hp}{h:Heap} (ok:HOk P w H h) {d:Addr}{kvs:List (List (List Key) × V)} (x:DN P w H d kvs):∃ xs,KN H kvs xs/\xs.length<=sizeLine/\(d == sysModules)=false/\h.DictOfH (Zb5 P w) d xs:=by
 obtain ⟨xs,e,r⟩:=x;obtain ⟨⟨z,y,o,es,ep,h1,h2,h3,h4,h5⟩,_⟩:=(show ObjOk P w H h d (.ext (nF P w d xs)) from ok d _ e);refine ⟨xs,r,z,y,o,es,ep,h1,h2,h3,h4,?_,h5⟩;have go:∀ {l:List (List (List Key) × V)}{m:List (List (List Key) × Addr × Value)},KN H l m->∀ x∈m,(Zb5 P w).is h x.1 x.2.1:=by
  intro l m q
  induction q with
  |nil=>intro x hx;exact nomatch hx
  |cons hq t ih =>
   intro x hx;rcases YaF.mp hx with e | hx
   ·subst e;exact Zft ok (by rw [<- hq.1];exact hq.2.1)
   ·exact ih x hx
 exact go r
end
section
variable {X:Cx}{o i value:Expr}{pos pos':Pos}{td ty tv:TE}
def Zq0 (X:Cx) (td ty:TE):TE:=λσ H Q=>td σ H λx H1=>ty σ H1 λy H2=>∃ a b kvs k v,x=.ref a/\y=.ref b/\DN X.prog X.w H2 a kvs/\NT H2 b k/\valV kvs k=some v/\Q v H2
def ZqY (X:Cx) (ty td:TE):TE:=λσ H Q=>ty σ H λy H1=>td σ H1 λx H2=>∃ a b kvs k,x=.ref a/\y=.ref b/\DN X.prog X.w H2 a kvs/\NT H2 b k/\Q (.bl (!(valV kvs k).isSome)) H2
def Zq6 (X:Cx) (td ty tv:TE):TS:=λD σ H=>tv σ H λv H1=>td σ H1 λx H2=>ty σ H2 λy H3=>∃ a b kvs k,x=.ref a/\y=.ref b/\DN X.prog X.w H3 a kvs/\NT H3 b k/\kvs.length<sizeLine /\
 ∀ H4,(∀ c,c≠a->H4 c=H3 c)->DN X.prog X.w H4 a (putK kvs k v)->D.nx σ H4
def ZqZ (X:Cx):TE:=λ_ H Q=>∀ p H1,H p=none->(∀ c,c≠p->H1 c=H c)->DN X.prog X.w H1 p []->Q (.ref p) H1
theorem ZoJ (hu:X.A.units+9<cLine) (ho:PE X o td) (hi:PE X i ty) (hs:NoSl i):PE X (.Subscript o i pos) (Zq0 X td ty):=by
 intro pins s σ H Q I h;refine ZjI PySem.F.slot_dict_getitem.lookup hs (thn (ho pins s σ H _ I h) λu s1 ⟨x,H1,I1,rx,q1⟩=>thn (hi pins s1 σ H1 _ I1 q1) λiv s2 ⟨y,H2,I2,ry,a,b,kvs,k,v,ex,ey,dn,nt,l,q2⟩=>?_);subst ex ey;obtain rfl:u=Value.ref a:=rx;cases (show iv=Value.ref b from ry);obtain ⟨xs,rel,z,hd,dd⟩:=Zpn I2.hok dn;obtain ⟨w',hw,rw'⟩:=RelO.some_of (v:=v) (o:=(atKey xs k).map (·.2)) (by rw [<- l];exact rel.val k);obtain ⟨p,hp,hp2⟩:=Option.map_eq_some_iff.mp hw;refine ⟨dd.typeIs,wpAny_getItem_heap (knd:=Zb5 X.prog X.w) (show X.A.units+1+8<cLine by omega) (Zft I2.hok nt) dd hp ?_⟩;rw [hp2];exact ⟨v,H2,I2.tok _,rw',q2⟩
theorem ZoR (hu:X.A.units+9<cLine) (hi:PE X i ty) (ho:PE X o td):PC X .NotIn i o (ZqY X ty td):=by
 intro pins s σ H Q I h;refine thn (hi pins s σ H _ I h) λiv s1 ⟨y,H1,I1,ry,q1⟩=>thn (ho pins s1 σ H1 _ I1 q1) λu s2 ⟨x,H2,I2,rx,a,b,kvs,k,ex,ey,dn,nt,q2⟩=>?_;subst ex ey;obtain rfl:u=Value.ref a:=rx;cases (show iv=Value.ref b from ry);obtain ⟨xs,rel,z,hd,dd⟩:=Zpn I2.hok dn;refine wpAny_notIn_heap (knd:=Zb5 X.prog X.w) (show X.A.units+1+8<cLine by omega) (Zft I2.hok nt) hd dd ?_;have q:=(rel.val k).isSome_eq;rw [Option.isSome_map] at q;rw [<- q];exact ⟨.bl (!(valV kvs k).isSome),H2,I2.tok _,rfl,q2⟩
theorem ZoG (hu:X.A.units+9<cLine) (ho:PE X o td) (hi:PE X i ty) (hv:PE X value tv) (hs:swapsWith value (some (.Subscript o i pos')) pos.line X.env=pure false) :
  PS X (.Assign [.Subscript o i pos'] value pos) (Zq6 X td ty tv):=by
 intro pins s σ H D I h;refine wpAny_Assign_Subscript (thn (hv pins s σ H _ I h) λr s1 ⟨v,H1,I1,rv,q1⟩=>thn (ho pins s1 σ H1 _ I1 q1) λu s2 ⟨x,H2,I2,rx,q2⟩=>thn (hi pins s2 σ H2 _ I2 q2) λiv s3 ⟨y,H3,I3,ry,a,b,kvs,k,ex,ey,dn,nt,hl,q3⟩=>?_) hs;subst ex ey;obtain rfl:u=Value.ref a:=rx;cases (show iv=Value.ref b from ry);obtain ⟨xs,rel,z,hd,dd⟩:=Zpn I3.hok dn;obtain ⟨xs0,e0,_⟩:=dn;have hl2:(putK kvs k v).length<=sizeLine:=by have:=Zb6 kvs k v;omega
 refine wpAny_setItem_heap (knd:=Zb5 X.prog X.w) (hsz:=z) (show X.A.units+1+8<cLine by omega) (Zft I3.hok nt) dd λh' dd' hs'=>?_;obtain ⟨q,es,ep,hq,h2,h3,h4,_,h5⟩:=dd';have rel2:=rel.put k nt rv;have new:nF X.prog X.w a (storedH xs k b r) h':=⟨by rw [<- Paired.length rel2];exact hl2,hd,q,es,ep,hq,h2,h3,h4,h5⟩;have ts:TupS H3 (upd H3 a (.ext (nF X.prog X.w a (storedH xs k b r)))):=λc ys ec=>by
  rw [Zag (Zhy ec e0 (λz=>nomatch z))];exact ec
 exact ⟨σ,_,ZfG I3 (by rw [e0];exact True.intro) hs' ⟨q,hq⟩ new.ok,q3 _ (λc hc=>Zag hc) ⟨_,Zac,Paired.mapP rel2 λ_ _ z=>⟨z.1,z.2.1.keeps ts,z.2.2⟩⟩⟩
theorem ZoI:PE X (.Dict [] [] pos) (ZqZ X):=λpins s σ H Q I h =>
 have new:nF X.prog X.w s.heap.objs.size [] (s.heap.push { cls:=.type "dict",data:=.dict #[] }):=⟨YaH _,Ya1.mpr (Ne.symm (Yap I.big)),_,#[],0,Yao _ rfl,⟨rfl,rfl,rfl⟩,rfl,rfl,List.nodup_nil⟩
 wpAny_Dict_empty ⟨.ref s.heap.objs.size,_,I.laid (a:=s.heap.objs.size) (o:=.ext _) (t':=s.toks) (λ_ _ q=>Yad _ q) (Yag _) new.ok,rfl,h _ _ (I.hok.fresh (Yag _)) (λc hc=>Zag hc) ⟨_,Zac,.nil⟩⟩
end
end L2
namespace L2
open PySem PySem.Spec PyProof.Rows
theorem scm {N P:List Str}{sc:Scope} (a:sc.kind=.function:=by rfl) (b:sc.isCoroutine=false:=by rfl) (c:sc.isGenerator=false:=by rfl) (d:N.Nodup:=by decide +kernel) (e:N.take P.length=P:=by rfl) (f:∀ x∈P,sc.names.lookup x=some .local\/sc.names.lookup x=some .cell:=by decide +kernel) (g:∀ y∈sc.names,y.2≠.free:=by decide +kernel):FnScope N P sc:=⟨a,b,c,d,e,f,g⟩
section
variable {X:Cx}{a b e:Expr}{ta tb te:TE}{pos p:Pos}
theorem pa1 (ha:PE X e te) (hs:starEach [e] X.env=(false,eval e X.env) :: starEach [] X.env:=by rfl):PA X [e] (Zc3 te tNil):=Zab ha ZaT hs
theorem pix {r:R2} (hr:IxR X r) (ha:PE X a ta) (hb:PE X b tb) (hs:Zl0 b:=by exact λ_ _=>rfl):PE X (.Subscript a b pos) (tOp r ta tb):=Zrj hr ha hb hs
theorem pcm {op:CmpOp}{r:R2} (ho:OpR X (compareOp op) r) (ha:PE X a ta) (hb:PE X b tb) (h:op≠.In:=by decide) (h2:op≠.NotIn:=by decide):PT X (.Compare a [op] [b] pos) (Zoo (tOp r ta tb)):=Zkb ho ha hb (Za6 b h h2)
theorem pifF {c:Expr}{tc:TT}{v j q1 q2} (hc:PT X c tc):PS X (.If c [.Return (some (.Constant (.bool v) j q1)) q2] [] pos) (tIfS tc (tRet (tC (.bl v))) Zma):=Zbn hc (Zaf (Zak Zgn)) ZaI
end
end L2
namespace Seek
open PySem L2 PyProof.Rows
def top (i:Nat):Stmt:=PySem.Challenge.pw_stairseek_k45_whole_all_cells_looked_at.main.body.getD i (.Pass ⟨0,0,0,0⟩)
abbrev ZdJ:Stmt:=top 14
abbrev Zbj:Stmt:=top 15
abbrev Zb9:Stmt:=top 16
abbrev Zlv:Stmt:=top 17
abbrev ZgR:Stmt:=top 18
abbrev ZdL:Stmt:=top 19
abbrev Zen:Stmt:=top 20
abbrev ZfI:Stmt:=top 21
abbrev Zdj:Stmt:=top 24
abbrev ZcN:Stmt:=top 26
abbrev ZnA:Stmt:=top 30
abbrev Znz:Stmt:=top 31
abbrev Ziv:Stmt:=top 32
abbrev ZnB:Stmt:=top 33
abbrev Zlr:Stmt:=top 82
abbrev dIs:Stmt:=top 91
abbrev dLaw:Stmt:=top 93
abbrev Ziy:Stmt:=top 28
abbrev Zls:Stmt:=top 37
abbrev ZfJ:Stmt:=top 23
abbrev Zes:Stmt:=top 25
abbrev Zep:Stmt:=top 27
abbrev ZfM:Stmt:=top 22
abbrev Zly:Stmt:=top 62
abbrev Zlx:Stmt:=top 63
abbrev Zlz:Stmt:=top 64
abbrev Zpt:Stmt:=top 57
abbrev ZfH:Stmt:=top 58
abbrev Zdk:Stmt:=top 59
abbrev Zeo:Stmt:=top 60
abbrev ZhG:Stmt:=top 61
abbrev Zpr:Stmt:=top 77
abbrev Zlw:Stmt:=top 78
abbrev Zlu:Stmt:=top 80
abbrev Zcy:Stmt:=top 34
abbrev ZhH:Stmt:=top 40
abbrev Zeq:Stmt:=top 41
abbrev Ziz:Stmt:=top 42
abbrev ZcM:Stmt:=top 43
abbrev ZcY:Stmt:=top 44
abbrev Zer:Stmt:=top 45
abbrev Zcz:Stmt:=top 46
abbrev ZcX:Stmt:=top 47
abbrev Zdi:Stmt:=top 48
abbrev ZgS:Stmt:=top 35
abbrev Zix:Stmt:=top 36
abbrev Zny:Stmt:=top 73
abbrev Znx:Stmt:=top 74
abbrev ZiA:Stmt:=top 75
abbrev ZfL:Stmt:=top 66
abbrev Zpq:Stmt:=top 67
abbrev ZdK:Stmt:=top 68
abbrev ZfO:Stmt:=top 69
abbrev Zps:Stmt:=top 70
abbrev Zlt:Stmt:=top 81
abbrev ZhJ:Stmt:=top 49
abbrev ZfN:Stmt:=top 50
abbrev ZnC:Stmt:=top 51
abbrev Zdl:Stmt:=top 53
abbrev ZhI:Stmt:=top 55
abbrev Zpu:Stmt:=top 54
abbrev Zeu:Stmt:=top 88
abbrev Ziw:Stmt:=top 83
abbrev ZcW:Stmt:=top 84
abbrev Zev:Stmt:=top 85
abbrev Zlq:Stmt:=top 86
abbrev Zdh:Stmt:=top 87
abbrev Zet:Stmt:=top 89
abbrev Zb8:Stmt:=top 90
abbrev ZcZ:Stmt:=top 92
abbrev ZaU:Stmt:=top 71
abbrev Zap:Stmt:=top 52
def Zaw (c:Stmt) (j:Nat):Stmt:=match c with | .ClassDef _ _ _ b _ _ _ _ _ _ _=>b.getD j (.Pass ⟨0,0,0,0⟩) | _=>.Pass ⟨0,0,0,0⟩
open PySem L2 PyProof.Rows
def Row (H:Hp) (a:Addr) (ns:List Int):Prop:=H a=some (.lst (ns.map V.int))
def nfB (ns:List Int):Bool:=((List.range (ns.length - 1)).map λi=>decide (ns.getD i 0<=ns.getD (i+1) 0)).all id
theorem Row.same {H H':Hp}{a:Addr}{ns:List Int} (e:Same H H') (h:Row H a ns):Row H' a ns:=e _ _ h
theorem Row.sq {K:Yab}{H:Hp}{a:Addr}{ns:List Int} (h:Row H a ns):SqL K H a (ns.map V.int):=sqo h
structure Blt (mg:Str->Option Value):Prop where
 len:mg "len" = none
 all:mg "all" = none
 isinst:mg "isinstance" = none
 rng:mg "range" = none
 int:mg "int" = none
 bool:mg "bool" = none
 list:mg "list" = none
 enum:mg "enumerate" = none
 abs:mg "abs" = none
 max:mg "max" = none
 mr:∃ t,mg "MOST_ROWS" = some (.int 6 t)
 mp:∃ t,mg "MOST_PLACES" = some (.int 6 t)
 ms:∃ t,mg "MOST_TO_A_SIDE" = some (.int 4 t)
theorem sl6 {n:Nat} (h:n<=1000):n<=sizeLine:=Nat.le_of_lt (Zav h)
theorem pln {X:Cx}{e:Expr}{te:TE}{pos p:Pos} (T:Blt X.mg) (ha:PE X e te) (hg:Gl X "len" := by rfl) (he:starEach [e] X.env=(false,eval e X.env) :: starEach [] X.env:=by rfl):PE X (.Call (.Name "len" p) [e] [] pos) (tCB (λxs H Q=>RLen X.K xs H Q) (Zc3 te tNil)):=pe_b Zdw T.len boot_len (Zab ha ZaT he) hg (by decide) (by decide) he rfl
section
variable {P:Program}{w:World}{K:Yab}{mg:Str->Option Value}{base:Heap}
def ZbI:Sp:=λvs H Q _=>∃ i:Int,vs=[.int i]/\Q (.bl true) H
theorem ZeM:FnScope ["thing"] ["thing"] (Zad ZdJ):=scm
theorem Zi4 (T:Blt mg) (D:Zah K mg "is_whole" ZdJ ["thing"]):FnAt P w K mg base 1 "is_whole" ["thing"] ZbI:=by
 refine fao D ZeM (λvs H Q E h=>?_) (λf g A o s H vs Q E hr h=>?_)
 ·obtain ⟨i,rfl,_⟩:=h;rfl
 ·obtain ⟨i,rfl,q⟩:=h;refine ⟨_,Zaf (Zak (ZbQ (pe_b ZaP T.isinst boot_isinstance (Zab (pv 0) (pa1 (Zd7 T.int boot_int))))
   (Zbw (Zkk (pe_b ZaP T.isinst boot_isinstance (Zab (pv 0) (pa1 (Zd7 T.bool boot_bool)))))))),?_⟩
  exact ⟨_,rfl,_,_,_,_,rfl,.int i,Zqx _,_,rfl,iteT ⟨_,rfl,_,_,_,_,rfl,.int i,Zqy _,_,rfl,q⟩⟩
def Zc8 (K:Yab):Sp:=λvs H Q _=>∃ (a:Addr) (ns:List Int),vs=[.ref a]/\Row H a ns/\ns.length<=1000/\∀ H',Same H H'->Q (.bl true) H'
theorem Zb1:FnScope ["things"] ["things"] (Zad Zbj):=scm
theorem ZfW {α:Type} (xs:List α):(xs.map λ_=>true).all id=true:=by simp
theorem Zhv (T:Blt mg) (D:Zah K mg "all_whole" Zbj ["things"]) (G1:FnAt P w K mg base 1 "is_whole" ["thing"] ZbI):FnAt P w K mg base 2 "all_whole" ["things"] (Zc8 K):=by
 refine fao D Zb1 (λvs H Q E h=>?_) (λf g A o s H vs Q E hr h=>?_)
 ·obtain ⟨a,ns,rfl,_⟩:=h;rfl
 ·obtain ⟨a,ns,rfl,hR,hn,q⟩:=h;have nd1:(["thing"]:List Str).Nodup:=by decide +kernel
  refine ⟨_,Zaf (Zak (pe_b (Za5 rfl) T.all boot_all (pa1 (Zar ["thing"] [none] (Zad Zbj) ["things"] rfl (Zau (pv 0)) (by decide +kernel)
   (λ_ _ _ _ _=>pg_c 0 nd1) (λ_ _ _ _ _=>Zam) (λ_ _ _ _ _=>pe_f G1 hr (pa1 (pv 0))))))),?_⟩
  refine ⟨_,rfl,a,rfl,⟨_,hR.sq⟩,Zba V.int (λ_=>.bl true) hR.sq (sl6 hn) (λi hx H' Q' sm q'=>?_) λD H' hD sm hDl=>?_⟩
  ·exact ⟨_,rfl,i,rfl,q' _ (srf _)⟩
  ·refine ⟨D,ns.map λ_=>true,rfl,sqo ?_,?_⟩
   ·rw [hDl];simp [Function.comp]
   ·rw [ZfW];exact q H' sm
def spNF:Sp:=λvs H Q _=>∃ (a:Addr) (ns:List Int),vs=[.ref a]/\Row H a ns/\ns.length<=1000/\∀ H',Same H H'->Q (.bl (nfB ns)) H'
theorem Zq5:FnScope ["numbers"] ["numbers"] (Zad Zb9):=scm
theorem ZaW {ns:List Int}{i:Nat} (h:i<ns.length):atI (ns.map V.int) (i:Int)=some (.int (ns.getD i 0)):=Zaz (by simp [h])
theorem Zrn (T:Blt mg) (D:Zah K mg "never_falls" Zb9 ["numbers"]):FnAt P w K mg base 1 "never_falls" ["numbers"] spNF:=by
 refine fao D Zq5 (λvs H Q E h=>?_) (λf g A o s H vs Q E hr h=>?_)
 ·obtain ⟨a,ns,rfl,_⟩:=h;rfl
 ·obtain ⟨a,ns,rfl,hR,hn,q⟩:=h;have nd1:(["k","numbers"]:List Str).Nodup:=by decide +kernel
  refine ⟨_,Zaf (Zak (pe_b (Za5 rfl) T.all boot_all (pa1 (Zar ["k","numbers"] [none,some 0] (Zad Zb9) ["numbers"] rfl
   (Zgl rfl T.rng (Zab Zae (pa1 (pln T (pv 0))))) (by decide +kernel)
   (λ_ _ _ _ _=>pg_c 0 nd1) (λ_ _ _ _ _=>Zam)
   (λ_ _ _ _ _=>ZaM Zea (pix (ixL K) (pv 1) (Zan Zn2 (pv 0) Zae)) (pix (ixL K) (pv 1) (pv 0)) (Za6 _)))))),?_⟩
  refine ⟨_,rfl,a,_,rfl,.inl hR.sq,1,_,rfl,⟨by omega,by omega,?_,?_⟩,?_⟩
  ·omega
  ·rw [Yaa];omega
  ·rw [Yaa,show ((ns.length:Int) - 1).toNat=ns.length - 1 by omega];refine ZeZ (λi=>.bl (decide (ns.getD i 0<=ns.getD (i+1) 0))) (sl6 (by omega)) (λi hi H' Q' sm q'=>?_) λD H' hD sm hDl=>?_
   ·have h1:(1:Int)+(i:Int) - 1=((i:Nat):Int):=by omega
    have h2:(1:Int)+(i:Int)=((i+1:Nat):Int):=by omega
    refine ⟨_,rfl,_,rfl,_,_,rfl,rfl,a,_,_,_,rfl,rfl,(hR.same sm).sq,(by rw [h1];exact ZaW (by omega)),_,rfl,_,rfl,a,_,_,_,rfl,rfl,(hR.same sm).sq,(by rw [h2];exact ZaW (by omega)),_,_,rfl,rfl,?_⟩;exact q' _ (srf _)
   ·refine ⟨D,(List.range (ns.length - 1)).map λi=>decide (ns.getD i 0<=ns.getD (i+1) 0),rfl,sqo ?_,q H' sm⟩;rw [hDl];simp [Function.comp]
end
open PySem L2 PyProof.Rows
abbrev Prs:=List (Addr × List Int)
structure Tab (H:Hp) (t:Addr) (prs:Prs):Prop where
 l:H t=some (.lst (prs.map λp=>V.ref p.1))
 r:∀ p∈prs,Row H p.1 p.2
theorem Tab.same {H H':Hp}{t:Addr}{prs:Prs} (e:Same H H') (h:Tab H t prs):Tab H' t prs:=⟨e _ _ h.l,λp hp=>(h.r p hp).same e⟩
theorem Tab.sq {K:Yab}{H:Hp}{t:Addr}{prs:Prs} (h:Tab H t prs):SqL K H t (prs.map λp=>V.ref p.1):=sqo h.l
def Sm (prs:Prs):Prop:=prs.length<=1000/\∀ p∈prs,p.2.length<=1000
def rowB (ns:List Int):Bool:=decide (1<=ns.length) && decide (ns.length<=6)
def w0 (prs:Prs):Nat:=(prs.head?.map (·.2.length)).getD 0
def shB (prs:Prs):Bool:=(decide (1<=prs.length) && decide (prs.length<=6)) && ((prs.map λp=>rowB p.2).all id && (prs.map λp=>decide (p.2.length=w0 prs)).all id)
def col (prs:Prs) (j:Nat):List Int:=prs.map λp=>p.2.getD j 0
def srB (prs:Prs):Bool:=(prs.map λp=>nfB p.2).all id && ((List.range (w0 prs)).map λj=>nfB (col prs j)).all id
def tabB (prs:Prs):Bool:=shB prs && srB prs
theorem ZcS {α:Type} (xs:List α) (f:α->Bool):xs.map (λx=>V.bl (f x))=(xs.map f).map V.bl:=by simp [Function.comp]
theorem ZhF {i j:Nat}:decide (V.int (i:Int)=V.int (j:Int))=decide (i=j):=by
 rw [Ybb];constructor
 ·intro h;injection h with h;omega
 ·rintro rfl;rfl
theorem Zbg {prs:Prs} (h:1<=prs.length):∃ p,prs.head? = some p/\p∈prs/\prs[0]? = some p:=by
 cases prs with
 |nil=>simp at h
 |cons p r=>exact ⟨p,rfl,by simp,rfl⟩
section
variable {P:Program}{w:World}{K:Yab}{mg:Str->Option Value}{base:Heap}
def ZjT:Sp:=λvs H Q _=>∃ (a:Addr) (ns:List Int),vs=[.ref a]/\Row H a ns/\ns.length<=1000/\∀ H',Same H H'->Q (.bl (rowB ns)) H'
theorem Zmq:FnScope ["thing"] ["thing"] (Zad Zlv):=scm
theorem Zm2 (T:Blt mg) (D:Zah K mg "is_row" Zlv ["thing"]) (G:FnAt P w K mg base 2 "all_whole" ["things"] (Zc8 K)):FnAt P w K mg base 3 "is_row" ["thing"] ZjT:=by
 refine fao D Zmq (λvs H Q E h=>?_) (λf g A o s H vs Q E hr h=>?_)
 ·obtain ⟨a,ns,rfl,_⟩:=h;rfl
 ·obtain ⟨a,ns,rfl,hR,hn,q⟩:=h;obtain ⟨tk,mp⟩:=T.mp;refine ⟨_,Zaf (Zak (ZbQ (pe_b ZaP T.isinst boot_isinstance (Zab (pv 0) (pa1 (Zd7 T.list boot_list))))
   (ZbQ (Zbt Zea Zea Zae (pln T (pv 0)) (Zhj (v:=.int 6) rfl mp ⟨_,rfl⟩))
   (Zbw (pe_f G hr (pa1 (pv 0))))))),?_⟩
  refine ⟨_,rfl,_,_,_,_,rfl,.lst hR,ZkW _,_,rfl,iteT ⟨_,rfl,a,_,rfl,.inl hR.sq,1,_,rfl,rfl,_,rfl,?_⟩⟩;rw [Yaa];refine ite2 (λh1=>?_) (λh1=>?_)
  ·have h1:=of_decide_eq_true h1;refine ⟨_,_,rfl,rfl,_,rfl,ite2 (λh2=>?_) (λh2=>?_)⟩
   ·have h2:=of_decide_eq_true h2;refine ⟨_,rfl,a,ns,rfl,hR,hn,λH' sm=>?_⟩;have e:rowB ns=true:=by
     unfold rowB;rw [Ya4 (by omega),Ya4 (by omega)];rfl
    rw [<- e];exact q H' sm
   ·have e:rowB ns=false:=by
     unfold rowB;rw [Ya5 (p:=ns.length<=6) (by intro z;exact h2 (Ya4 (by omega)))];simp
    rw [<- e];exact q H (srf _)
  ·refine ⟨_,rfl,iteF ?_⟩;have e:rowB ns=false:=by
    unfold rowB;rw [Ya5 (p:=1<=ns.length) (by intro z;exact h1 (Ya4 (by omega)))];simp
   rw [<- e];exact q H (srf _)
def ZjM:Sp:=λvs H Q _=>∃ (t:Addr) (prs:Prs),vs=[.ref t]/\Tab H t prs/\Sm prs/\∀ H',Same H H'->Q (.bl (shB prs)) H'
theorem Zmk:FnScope ["thing","row"] ["thing"] (Zad ZgR):=scm
theorem ZmR (T:Blt mg) (D:Zah K mg "has_table_shape" ZgR ["thing"]) (G:FnAt P w K mg base 3 "is_row" ["thing"] ZjT):FnAt P w K mg base 4 "has_table_shape" ["thing"] ZjM:=by
 refine fao D Zmk (λvs H Q E h=>?_) (λf g A o s H vs Q E hr h=>?_)
 ·obtain ⟨t,prs,rfl,_⟩:=h;rfl
 ·obtain ⟨t,prs,rfl,hT,⟨hn,hw⟩,q⟩:=h;obtain ⟨tk,mr⟩:=T.mr;have nd1:(["row"]:List Str).Nodup:=by decide +kernel
  have nd2:(["row","thing"]:List Str).Nodup:=by decide +kernel
  refine ⟨_,Zaa (pifF (PW.pt (Zbv (ZaC (ZaB (pe_b ZaP T.isinst boot_isinstance (Zab (pv 0) (pa1 (Zd7 T.list boot_list))))))
    (Zbo (ZaC (ZdC Zea Zea Zae (pln T (pv 0)) (Zhj (v:=.int 6) rfl mr ⟨_,rfl⟩)))))))
   (Zaa (pifF (ZaC (ZaB (pe_b (Za5 rfl) T.all boot_all (pa1 (Zar ["row"] [none] (Zad ZgR) ["thing","row"] rfl (Zau (pv 0)) (by decide +kernel)
    (λ_ _ _ _ _=>pg_c 0 nd1) (λ_ _ _ _ _=>Zam) (λ_ _ _ _ _=>pe_f G hr (pa1 (pv 0)))))))))
   (Zaf (Zak (pe_b (Za5 rfl) T.all boot_all (pa1 (Zar ["row","thing"] [none,some 0] (Zad ZgR) ["thing","row"] rfl (Zau (pv 0)) (by decide +kernel)
    (λ_ _ _ _ _=>pg_c 0 nd2) (λ_ _ _ _ _=>Zam)
    (λ_ _ _ _ _=>ZaM Zdy (pe_b (lenK K) T.len boot_len (pa1 (pv 0))) (pe_b (lenK K) T.len boot_len (pa1 (pix (ixL K) (pv 1) Zae))) (Za6 _)))))))),?_⟩
  refine ⟨_,rfl,_,_,_,_,rfl,.lst hT.l,ZkW _,_,rfl,iteF ⟨_,rfl,t,_,rfl,.inl hT.sq,1,_,rfl,rfl,_,rfl,?_⟩⟩;rw [Yaa];have bad:¬ (1<=prs.length/\prs.length<=6)->shB prs=false:=λz=>by
   unfold shB;rw [<- Bool.decide_and,Ya5 z];rfl
  refine ite2 (λh1=>?_) (λh1=>?_)
  ·have h1:=of_decide_eq_true h1;refine ⟨_,_,rfl,rfl,_,rfl,?_⟩
   by_cases h2:prs.length<=6
   ·rw [Ya4 (show (prs.length:Int)<=6 by omega)];refine iteF ?_;refine ⟨_,rfl,t,rfl,⟨_,hT.sq⟩,Zba (λp=>V.ref p.1) (λp=>.bl (rowB p.2)) hT.sq (sl6 hn) (λp hp H' Q' sm q'=>?_) λD H' hD sm hDl=>?_⟩
    ·exact ⟨_,rfl,p.1,p.2,rfl,(hT.r p hp).same sm,hw p hp,q'⟩
    ·refine ⟨D,prs.map λp=>rowB p.2,rfl,sqo (by rw [hDl,ZcS]),_,rfl,?_⟩;cases e1:(prs.map λp=>rowB p.2).all id with
     |false =>
      refine iteT ?_;have e:shB prs=false:=by
       unfold shB;rw [e1];simp
      have q1:=q H' sm;rw [e] at q1;exact q1
     |true =>
      refine iteF ?_;have hT1:=hT.same sm;obtain ⟨p0,hp0,hm0,hx0⟩:=Zbg (prs:=prs) (by omega);have hw0:w0 prs=p0.2.length:=by
       unfold w0;rw [hp0];rfl
      refine ⟨_,rfl,t,rfl,⟨_,hT1.sq⟩,Zba (λp=>V.ref p.1) (λp=>.bl (decide (p.2.length=w0 prs))) hT1.sq (sl6 hn) (λp hp H2 Q' sm2 q'=>?_) λD2 H2 hD2 sm2 hDl2=>?_⟩
      ·have hT2:=hT1.same sm2;refine ⟨_,rfl,p.1,_,rfl,.inl (hT2.r p hp).sq,_,rfl,t,_,0,.ref p0.1,rfl,rfl,hT2.sq,Zaz (j:=0) (by rw [Yaf,hx0];rfl),p0.1,_,rfl,.inl (hT2.r p0 hm0).sq,rfl,?_⟩;rw [Yaa,Yaa,ZhF,<- hw0];exact q' _ (srf _)
      ·refine ⟨D2,prs.map λp=>decide (p.2.length=w0 prs),rfl,sqo (by rw [hDl2,ZcS]),?_⟩;have q1:=q H2 (sm.trans sm2);unfold shB at q1;rw [e1,Ya4 (show 1<=prs.length by omega),Ya4 h2] at q1;exact q1
   ·rw [Ya5 (show ¬ (prs.length:Int)<=6 by omega)];refine iteT ?_;have q1:=q H (srf _);rw [bad (by omega)] at q1;exact q1
  ·refine ⟨_,rfl,iteT ?_⟩;have q1:=q H (srf _);rw [bad (by
    intro z
    exact h1 (Ya4 (by omega)))] at q1
   exact q1
end
open PySem L2 PyProof.Rows
section
variable {P:Program}{w:World}{K:Yab}{mg:Str->Option Value}{base:Heap}
def ZdX:Sp:=λvs H Q _=>∃ (t:Addr) (prs:Prs) (j:Nat),vs=[.ref t,.int j]/\Tab H t prs/\prs.length<=1000/\(∀ p∈prs,j<p.2.length)/\∀ D H',H D=none->Same H H'->Row H' D (col prs j)->Q (.ref D) H'
theorem ZiZ:FnScope ["table","place"] ["table","place"] (Zad ZdL):=scm
theorem Zjb (D:Zah K mg "numbers_at_place" ZdL ["table","place"]):FnAt P w K mg base 1 "numbers_at_place" ["table","place"] ZdX:=by
 refine fao D ZiZ (λvs H Q E h=>?_) (λf g A o s H vs Q E hr h=>?_)
 ·obtain ⟨t,prs,j,rfl,_⟩:=h;rfl
 ·obtain ⟨t,prs,j,rfl,hT,hn,hj,q⟩:=h;have nd1:(["row","place"]:List Str).Nodup:=by decide +kernel
  refine ⟨_,Zaf (Zak (Zar ["row","place"] [none,some 1] (Zad ZdL) ["table","place"] rfl (Zau (pv 0)) (by decide +kernel)
    (λ_ _ _ _ _=>pg_c 0 nd1) (λ_ _ _ _ _=>Zam) (λ_ _ _ _ _=>pix (ixL K) (pv 0) (pv 1)))),?_⟩
  refine ⟨_,rfl,t,rfl,⟨_,hT.sq⟩,Zba (λp=>V.ref p.1) (λp=>.int (p.2.getD j 0)) hT.sq (sl6 hn) (λp hp H' Q' sm q'=>?_) λD H' hD sm hDl=>?_⟩
  ·exact ⟨_,rfl,_,rfl,p.1,_,_,_,rfl,rfl,((hT.r p hp).same sm).sq,ZaW (hj p hp),q' _ (srf _)⟩
  ·refine q D H' hD sm ?_;unfold Row col;rw [hDl,Yau];rfl
def ZhW:Sp:=λvs H Q _=>∃ (t:Addr) (prs:Prs),vs=[.ref t]/\Tab H t prs/\Sm prs/\1<=prs.length/\(∀ p∈prs,p.2.length=w0 prs)/\∀ H',Same H H'->Q (.bl (srB prs)) H'
theorem Zj0:FnScope ["table","row","place"] ["table"] (Zad Zen):=scm
theorem Zkr (T:Blt mg) (D:Zah K mg "is_sorted_both_ways" Zen ["table"]) (G:FnAt P w K mg base 1 "never_falls" ["numbers"] spNF) (G2:FnAt P w K mg base 1 "numbers_at_place" ["table","place"] ZdX):FnAt P w K mg base 2 "is_sorted_both_ways" ["table"] ZhW:=by
 refine fao D Zj0 (λvs H Q E h=>?_) (λf g A o s H vs Q E hr h=>?_)
 ·obtain ⟨t,prs,rfl,_⟩:=h;rfl
 ·obtain ⟨t,prs,rfl,hT,⟨hn,hw⟩,h1,hv,q⟩:=h;have nd1:(["row"]:List Str).Nodup:=by decide +kernel
  have nd2:(["place","table"]:List Str).Nodup:=by decide +kernel
  obtain ⟨p0,hp0,hm0,hx0⟩:=Zbg (prs:=prs) h1;have hw0:w0 prs=p0.2.length:=(hv p0 hm0).symm;refine ⟨_,Zaa (pifF (ZaC (ZaB (pe_b (Za5 rfl) T.all boot_all (pa1 (Zar ["row"] [none] (Zad Zen) ["table","row","place"] rfl (Zau (pv 0)) (by decide +kernel)
    (λ_ _ _ _ _=>pg_c 0 nd1) (λ_ _ _ _ _=>Zam) (λ_ _ _ _ _=>pe_f G hr (pa1 (pv 0)))))))))
   (Zaf (Zak (pe_b (Za5 rfl) T.all boot_all (pa1 (Zar ["place","table"] [none,some 0] (Zad Zen) ["table","row","place"] rfl
    (ZaG rfl T.rng (pa1 (pln T (pix Zaj (pv 0) Zae)))) (by decide +kernel)
    (λ_ _ _ _ _=>pg_c 0 nd2) (λ_ _ _ _ _=>Zam)
    (λ_ _ _ _ _=>pe_f G hr (pa1 (pe_f G2 hr (Zab (pv 1) (pa1 (pv 0))))))))))),?_⟩
  refine ⟨_,rfl,t,rfl,⟨_,hT.sq⟩,Zba (λp=>V.ref p.1) (λp=>.bl (nfB p.2)) hT.sq (sl6 hn) (λp hp H' Q' sm q'=>?_) λD H' hD sm hDl=>?_⟩
  ·exact ⟨_,rfl,p.1,p.2,rfl,(hT.r p hp).same sm,hw p hp,q'⟩
  ·refine ⟨D,prs.map λp=>nfB p.2,rfl,sqo (by rw [hDl,ZcS]),_,rfl,?_⟩;cases e1:(prs.map λp=>nfB p.2).all id with
   |false =>
    refine iteT ?_;have q1:=q H' sm;unfold srB at q1;rw [e1] at q1;exact q1
   |true =>
    refine iteF ?_;have hT1:=hT.same sm;refine ⟨_,rfl,t,_,0,.ref p0.1,rfl,rfl,hT1.sq,Zaz (j:=0) (by rw [Yaf,hx0];rfl),p0.1,_,rfl,.inl (hT1.r p0 hm0).sq,_,rfl,?_,?_,?_⟩
    ·omega
    ·have:=hw p0 hm0;rw [Yaa];omega
    ·rw [Yaa,<- hw0,Yav];have hb:w0 prs<=1000:=by rw [hw0];exact hw p0 hm0
     refine ZeZ (λj=>.bl (nfB (col prs j))) (sl6 hb) (λj hj H2 Q' sm2 q'=>?_) λD2 H2 hD2 sm2 hDl2=>?_
     ·have hT2:=hT1.same sm2;refine ⟨_,rfl,_,rfl,t,prs,j,by rw [Int.zero_add],hT2,hn,λp hp=>by rw [hv p hp];exact hj,λD3 H3 hD3 sm3 r3=>⟨D3,col prs j,rfl,r3,?_,λH4 sm4=>q' H4 (sm3.trans sm4)⟩⟩;unfold col;rw [Yaa];exact hn
     ·refine ⟨D2,(List.range (w0 prs)).map λj=>nfB (col prs j),rfl,sqo (by rw [hDl2,ZcS]),?_⟩;have q1:=q H2 (sm.trans sm2);unfold srB at q1;rw [e1] at q1;exact q1
def Zch:Sp:=λvs H Q _=>∃ (t:Addr) (prs:Prs),vs=[.ref t]/\Tab H t prs/\Sm prs/\∀ H',Same H H'->Q (.bl (tabB prs)) H'
theorem ZiX:FnScope ["thing"] ["thing"] (Zad ZfI):=scm
theorem ZnU {prs:Prs} (h:shB prs=true):1<=prs.length/\prs.length<=6/\(∀ p∈prs,1<=p.2.length/\p.2.length<=6)/\∀ p∈prs,p.2.length=w0 prs:=by
 unfold shB rowB at h;simp only [Yaj,decide_eq_true_eq,YaO,Yar,id] at h;obtain ⟨⟨h1,h2⟩,h3,h4⟩:=h;exact ⟨h1,h2,λp hp=>by simpa using h3 _ ⟨p,hp,rfl⟩,λp hp=>by simpa using h4 _ ⟨p,hp,rfl⟩⟩
theorem Zi5 (D:Zah K mg "is_table" ZfI ["thing"]) (G:FnAt P w K mg base 4 "has_table_shape" ["thing"] ZjM) (G2:FnAt P w K mg base 2 "is_sorted_both_ways" ["table"] ZhW):FnAt P w K mg base 5 "is_table" ["thing"] Zch:=by
 refine fao D ZiX (λvs H Q E h=>?_) (λf g A o s H vs Q E hr h=>?_)
 ·obtain ⟨t,prs,rfl,_⟩:=h;rfl
 ·obtain ⟨t,prs,rfl,hT,hs,q⟩:=h;refine ⟨_,Zaf (Zak (ZbQ (pe_f G hr (pa1 (pv 0))) (Zbw (pe_f G2 (hr.mono (by decide)) (pa1 (pv 0)))))),?_⟩;refine ⟨_,rfl,t,prs,rfl,hT,hs,λH' sm=>⟨_,rfl,?_⟩⟩;cases e:shB prs with
  |false =>
   refine iteF ?_;have q1:=q H' sm;unfold tabB at q1;rw [e] at q1;exact q1
  |true =>
   obtain ⟨a1,a2,a3,a4⟩:=ZnU e;refine iteT ⟨_,rfl,t,prs,rfl,hT.same sm,hs,a1,a4,λH2 sm2=>?_⟩;have q1:=q H2 (sm.trans sm2);unfold tabB at q1;rw [e] at q1;exact q1
def ZaH:Sp:=λvs H Q _=>∃ (t:Addr) (prs:Prs),vs=[.ref t]/\Tab H t prs/\Sm prs/\tabB prs=true/\∀ H',Same H H'->Q .non H'
theorem Zgc:FnScope ["thing"] ["thing"] (Zad Zdj):=scm
theorem Zgr (D:Zah K mg "need_table" Zdj ["thing"]) (G:FnAt P w K mg base 5 "is_table" ["thing"] Zch):FnAt P w K mg base 6 "need_table" ["thing"] ZaH:=by
 refine fao D Zgc (λvs H Q E h=>?_) (λf g A o s H vs Q E hr h=>?_)
 ·obtain ⟨t,prs,rfl,_⟩:=h;rfl
 ·obtain ⟨t,prs,rfl,hT,hs,hg,q⟩:=h;refine ⟨_,Zaf (Zbn (ZaC (ZaB (pe_f G hr (pa1 (pv 0))))) ZaX ZaI),?_⟩;refine ⟨_,rfl,t,prs,rfl,hT,hs,λH' sm=>⟨_,rfl,?_⟩⟩;rw [hg];exact iteF (q H' sm)
def Za2:Sp:=λvs H Q _=>∃ i:Int,vs=[.int i]/\Q .non H
theorem Zff:FnScope ["thing"] ["thing"] (Zad ZcN):=scm
theorem Zfr (D:Zah K mg "need_number" ZcN ["thing"]) (G:FnAt P w K mg base 1 "is_whole" ["thing"] ZbI):FnAt P w K mg base 2 "need_number" ["thing"] Za2:=by
 refine fao D Zff (λvs H Q E h=>?_) (λf g A o s H vs Q E hr h=>?_)
 ·obtain ⟨i,rfl,_⟩:=h;rfl
 ·obtain ⟨i,rfl,q⟩:=h;refine ⟨_,Zaf (Zbn (ZaC (ZaB (pe_f G hr (pa1 (pv 0))))) ZaX ZaI),?_⟩;exact ⟨_,rfl,i,rfl,_,rfl,iteF q⟩
end
open PySem L2 PyProof.Rows
def lessN (x:Int) (ns:List Int):Nat:=(ns.filter λn=>decide (n<x)).length
def mostN (x:Int) (ns:List Int):Nat:=(ns.filter λn=>decide (n<=x)).length
section
variable {P:Program}{w:World}{K:Yab}{mg:Str->Option Value}{base:Heap}
def ZnR:Sp:=λvs H Q _=>∃ (a:Addr) (ns:List Int) (x:Int),vs=[.ref a,.int x]/\Row H a ns/\ns.length<=1000/\∀ H',Same H H'->Q (.int (lessN x ns:Nat)) H'
theorem Zoz:FnScope ["row","x"] ["row","x"] (Zad ZnA):=scm
theorem Zo2 (T:Blt mg) (D:Zah K mg "how_many_less" ZnA ["row","x"]):FnAt P w K mg base 1 "how_many_less" ["row","x"] ZnR:=by
 refine fao D Zoz (λvs H Q E h=>?_) (λf g A o s H vs Q E hr h=>?_)
 ·obtain ⟨a,ns,x,rfl,_⟩:=h;rfl
 ·obtain ⟨a,ns,x,rfl,hR,hn,q⟩:=h;have nd1:(["number","x"]:List Str).Nodup:=by decide +kernel
  refine ⟨_,Zaf (Zak (pln T (Zar ["number","x"] [none,some 1] (Zad ZnA) ["row","x"] rfl (Zau (pv 0)) (by decide +kernel)
    (λ_ _ _ _ _=>pg_c 0 nd1) (λ_ _ _ _ _=>ZaR (pcm Zqd (pv 0) (pv 1))) (λ_ _ _ _ _=>pv 0)))),?_⟩
  refine ⟨_,rfl,a,rfl,⟨_,hR.sq⟩,Zbl V.int (λn=>decide (n<x)) V.int hR.sq (sl6 hn) (λn hx H' Q' sm q'=>?_) (λn hx _ H' Q' sm q'=>?_) λD H' hD sm hDl=>?_⟩
  ·exact ⟨_,rfl,_,rfl,_,_,rfl,rfl,_,rfl,q' _ (srf _)⟩
  ·exact ⟨_,rfl,q' _ (srf _)⟩
  ·refine ⟨D,_,rfl,.inl (sqo hDl),?_⟩;rw [Yaa];exact q H' sm
def ZcI (f:Int->List Int->Nat):Sp:=λvs H Q _=>∃ (t:Addr) (prs:Prs) (x:Int),vs=[.ref t,.int x]/\Tab H t prs/\Sm prs/\tabB prs=true /\
 ∀ D H',H D=none->Same H H'->Row H' D (prs.map λp=>(f x p.2:Int))->Q (.ref D) H'
theorem Zmi:FnScope ["table","x"] ["table","x"] (Zad Ziv):=scm
theorem ZmO (D:Zah K mg "stair_of" Ziv ["table","x"]) (G1:FnAt P w K mg base 6 "need_table" ["thing"] ZaH) (G2:FnAt P w K mg base 2 "need_number" ["thing"] Za2) (G3:FnAt P w K mg base 1 "how_many_less" ["row","x"] ZnR) :
  FnAt P w K mg base 7 "stair_of" ["table","x"] (ZcI lessN):=by
 refine fao D Zmi (λvs H Q E h=>?_) (λf g A o s H vs Q E hr h=>?_)
 ·obtain ⟨t,prs,x,rfl,_⟩:=h;rfl
 ·obtain ⟨t,prs,x,rfl,hT,hs,hg,q⟩:=h;have nd1:(["row","x"]:List Str).Nodup:=by decide +kernel
  refine ⟨_,Zaa (Zaq (pe_f G1 hr (pa1 (pv 0)))) (Zaa (Zaq (pe_f G2 (hr.mono (by decide)) (pa1 (pv 1))))
   (Zaf (Zak (Zar ["row","x"] [none,some 1] (Zad Ziv) ["table","x"] rfl (Zau (pv 0)) (by decide +kernel)
    (λ_ _ _ _ _=>pg_c 0 nd1) (λ_ _ _ _ _=>Zam) (λ_ _ _ _ _=>pe_f G3 (hr.mono (by decide)) (Zab (pv 0) (pa1 (pv 1)))))))),?_⟩
  refine ⟨_,rfl,t,prs,rfl,hT,hs,hg,λH1 s1=>⟨_,rfl,x,rfl,?_⟩⟩;have hT1:=hT.same s1;refine ⟨_,rfl,t,rfl,⟨_,hT1.sq⟩,Zba (λp=>V.ref p.1) (λp=>.int (lessN x p.2:Nat)) hT1.sq (sl6 hs.1) (λp hp H' Q' sm q'=>?_) λD H' hD sm hDl=>?_⟩
  ·exact ⟨_,rfl,_,rfl,p.1,p.2,x,rfl,(hT1.r p hp).same sm,hs.2 p hp,q'⟩
  ·refine q D H' (s1.free hD) (s1.trans sm) ?_;unfold Row;rw [hDl,Yau];rfl
end
open PySem L2 PyProof.Rows
section
variable {P:Program}{w:World}{K:Yab}{mg:Str->Option Value}{base:Heap}
def ZnQ:Sp:=λvs H Q _=>∃ (a:Addr) (ns:List Int) (x:Int),vs=[.ref a,.int x]/\Row H a ns/\ns.length<=1000/\∀ H',Same H H'->Q (.int (mostN x ns:Nat)) H'
theorem Zox:FnScope ["row","x"] ["row","x"] (Zad Znz):=scm
theorem Zo0 (T:Blt mg) (D:Zah K mg "how_many_at_most" Znz ["row","x"]):FnAt P w K mg base 1 "how_many_at_most" ["row","x"] ZnQ:=by
 refine fao D Zox (λvs H Q E h=>?_) (λf g A o s H vs Q E hr h=>?_)
 ·obtain ⟨a,ns,x,rfl,_⟩:=h;rfl
 ·obtain ⟨a,ns,x,rfl,hR,hn,q⟩:=h;have nd1:(["number","x"]:List Str).Nodup:=by decide +kernel
  refine ⟨_,Zaf (Zak (pln T (Zar ["number","x"] [none,some 1] (Zad Znz) ["row","x"] rfl (Zau (pv 0)) (by decide +kernel)
    (λ_ _ _ _ _=>pg_c 0 nd1) (λ_ _ _ _ _=>ZaR (pcm Zea (pv 0) (pv 1))) (λ_ _ _ _ _=>pv 0)))),?_⟩
  refine ⟨_,rfl,a,rfl,⟨_,hR.sq⟩,Zbl V.int (λn=>decide (n<=x)) V.int hR.sq (sl6 hn) (λn hx H' Q' sm q'=>?_) (λn hx _ H' Q' sm q'=>?_) λD H' hD sm hDl=>?_⟩
  ·exact ⟨_,rfl,_,rfl,_,_,rfl,rfl,_,rfl,q' _ (srf _)⟩
  ·exact ⟨_,rfl,q' _ (srf _)⟩
  ·refine ⟨D,_,rfl,.inl (sqo hDl),?_⟩;rw [Yaa];exact q H' sm
theorem ZoA:FnScope ["table","x"] ["table","x"] (Zad ZnB):=scm
theorem Zo4 (D:Zah K mg "high_stair" ZnB ["table","x"]) (G1:FnAt P w K mg base 6 "need_table" ["thing"] ZaH) (G2:FnAt P w K mg base 2 "need_number" ["thing"] Za2) (G3:FnAt P w K mg base 1 "how_many_at_most" ["row","x"] ZnQ) :
  FnAt P w K mg base 7 "high_stair" ["table","x"] (ZcI mostN):=by
 refine fao D ZoA (λvs H Q E h=>?_) (λf g A o s H vs Q E hr h=>?_)
 ·obtain ⟨t,prs,x,rfl,_⟩:=h;rfl
 ·obtain ⟨t,prs,x,rfl,hT,hs,hg,q⟩:=h;have nd1:(["row","x"]:List Str).Nodup:=by decide +kernel
  refine ⟨_,Zaa (Zaq (pe_f G1 hr (pa1 (pv 0)))) (Zaa (Zaq (pe_f G2 (hr.mono (by decide)) (pa1 (pv 1))))
   (Zaf (Zak (Zar ["row","x"] [none,some 1] (Zad ZnB) ["table","x"] rfl (Zau (pv 0)) (by decide +kernel)
    (λ_ _ _ _ _=>pg_c 0 nd1) (λ_ _ _ _ _=>Zam) (λ_ _ _ _ _=>pe_f G3 (hr.mono (by decide)) (Zab (pv 0) (pa1 (pv 1)))))))),?_⟩
  refine ⟨_,rfl,t,prs,rfl,hT,hs,hg,λH1 s1=>⟨_,rfl,x,rfl,?_⟩⟩;have hT1:=hT.same s1;refine ⟨_,rfl,t,rfl,⟨_,hT1.sq⟩,Zba (λp=>V.ref p.1) (λp=>.int (mostN x p.2:Nat)) hT1.sq (sl6 hs.1) (λp hp H' Q' sm q'=>?_) λD H' hD sm hDl=>?_⟩
  ·exact ⟨_,rfl,_,rfl,p.1,p.2,x,rfl,(hT1.r p hp).same sm,hs.2 p hp,q'⟩
  ·refine q D H' (s1.free hD) (s1.trans sm) ?_;unfold Row;rw [hDl,Yau];rfl
end
open PySem L2 PyProof.Rows
def nfP (ns:List Int):Prop:=∀ i,i+1<ns.length->ns.getD i 0<=ns.getD (i+1) 0
theorem nfB_iff {ns:List Int}:nfB ns=true ↔ nfP ns:=by
 unfold nfB nfP;simp only [List.all_map,YaO,List.mem_range,Function.comp,id,decide_eq_true_eq];constructor
 ·intro h i hi;exact h i (by omega)
 ·intro h i hi;exact h i (by omega)
def Zat (prs:Prs) (i:Nat):List Int:=((prs[i]?).map (·.2)).getD []
theorem ZaA {prs:Prs}{i:Nat} (h:i<prs.length):∃ p∈prs,prs[i]? = some p/\Zat prs i=p.2:=by
 refine ⟨prs[i],YaL h,by simp [h],?_⟩;unfold Zat;rw [Yac h];rfl
theorem ZfP (prs:Prs) (j:Nat):(col prs j).length=prs.length:=by
 unfold col;rw [Yaa]
theorem Zc0 {prs:Prs}{i j:Nat} (h:i<prs.length):(col prs j).getD i 0=(Zat prs i).getD j 0:=by
 unfold col Zat;rw [Yat,Yaf,Yac h];rfl
structure GoodP (wide:Nat) (prs:Prs):Prop where
 len:∀ p∈prs,p.2.length=wide
 row:∀ p∈prs,nfP p.2
 down:∀ i,i+1<prs.length->∀ j,j<wide->(Zat prs i).getD j 0<=(Zat prs (i+1)).getD j 0
theorem Zok {wide:Nat}{prs:Prs} (h:1<=prs.length) (hl:∀ p∈prs,p.2.length=wide):w0 prs=wide:=by
 obtain ⟨p,h1,h2,_⟩:=Zbg h;unfold w0;rw [h1];exact hl p h2
theorem Ze6 {wide:Nat}{prs:Prs} (g:GoodP wide prs) (h1:1<=prs.length) (h2:prs.length<=6) (h3:1<=wide) (h4:wide<=6):tabB prs=true:=by
 have hw:=Zok h1 g.len;unfold tabB shB srB rowB;simp only [Yaj,decide_eq_true_eq,YaO,Yar,id];refine ⟨⟨⟨h1,h2⟩,?_,?_⟩,?_,?_⟩
 ·rintro b ⟨p,hp,rfl⟩;have:=g.len p hp;simp only [Yaj,decide_eq_true_eq];omega
 ·rintro b ⟨p,hp,rfl⟩;rw [decide_eq_true_eq,hw];exact g.len p hp
 ·rintro b ⟨p,hp,rfl⟩;exact nfB_iff.mpr (g.row p hp)
 ·rintro b ⟨j,hj,rfl⟩;rw [List.mem_range,hw] at hj;refine nfB_iff.mpr λi hi=>?_;rw [ZfP] at hi;rw [Zc0 (by omega),Zc0 hi];exact g.down i hi j hj
theorem ZaF {prs:Prs} (h:tabB prs=true):GoodP (w0 prs) prs/\1<=prs.length/\prs.length<=6/\1<=w0 prs/\w0 prs<=6:=by
 unfold tabB at h;rw [Yaj] at h;obtain ⟨h1,h2,h3,h4⟩:=ZnU h.1;obtain ⟨p,e1,e2,_⟩:=Zbg h1;have h5:=h3 p e2;have h6:=h4 p e2;have hs:=h.2;unfold srB at hs;simp only [Yaj,YaO,Yar,id] at hs;refine ⟨⟨h4,λp hp=>nfB_iff.mp (hs.1 _ ⟨p,hp,rfl⟩),λi hi j hj=>?_⟩,h1,h2,by omega,by omega⟩;have:=nfB_iff.mp (hs.2 _ ⟨j,List.mem_range.mpr hj,rfl⟩) i (by rw [ZfP];exact hi);rw [Zc0 (by omega),Zc0 hi] at this;exact this
theorem Zei {ns:List Int}{v:Int}{i:Nat}:(ns ++ [v]).getD i 0=if i<ns.length then ns.getD i 0 else if i=ns.length then v else 0:=by
 rw [Yat,Yat]
 by_cases h:i<ns.length
 ·rw [Ya7 h,List.getElem?_append_left h]
 ·rw [Ya6 h,List.getElem?_append_right (by omega)]
  by_cases h2:i=ns.length
  ·subst h2;simp
  ·rw [Ya6 h2,List.getElem?_eq_none (by simp;omega)];rfl
theorem Znc {ns:List Int}{v:Int} (h:nfP ns) (hl:∀ k,k+1=ns.length->ns.getD k 0<=v):nfP (ns ++ [v]):=λi hi=>by
 rw [Yak,YaI] at hi;rw [Zei,Zei,Ya7 (by omega)]
 by_cases h2:i+1<ns.length
 ·rw [Ya7 h2];exact h i h2
 ·rw [Ya6 h2,Ya7 (by omega)];exact hl i (by omega)
theorem ZeP {prs:Prs}{p:Addr × List Int}{i:Nat} (h:i<=prs.length):Zat (prs ++ [p]) i=if i<prs.length then Zat prs i else p.2:=by
 unfold Zat
 by_cases h2:i<prs.length
 ·rw [Ya7 h2,List.getElem?_append_left h2]
 ·have:i=prs.length:=by omega
  subst this;rw [Ya6 h2];simp
theorem Zk8 {wide:Nat}{prs:Prs}{a:Addr}{cur:List Int} (g:GoodP wide prs) (hl:cur.length=wide) (hn:nfP cur) (hd:prs.length=0\/∀ j,j<wide->(Zat prs (prs.length - 1)).getD j 0<=cur.getD j 0):GoodP wide (prs ++ [(a,cur)]) where
 len:=λp hp=>by
  rcases YaG.mp hp with z | z
  ·exact g.len p z
  ·have:p=(a,cur):=by simpa using z
   subst this;exact hl
 row:=λp hp=>by
  rcases YaG.mp hp with z | z
  ·exact g.row p z
  ·have:p=(a,cur):=by simpa using z
   subst this;exact hn
 down:=λi hi j hj=>by
  rw [Yak,YaI] at hi;rw [ZeP (by omega),ZeP (by omega),Ya7 (by omega)]
  by_cases h2:i+1<prs.length
  ·rw [Ya7 h2];exact g.down i h2 j hj
  ·rw [Ya6 h2];rcases hd with z | z
   ·omega
   ·have:=z j hj;rw [show prs.length - 1=i by omega] at this;exact this
theorem ZlS {ns:List Int}{d:Int} (h0:0<=d) (h1:d<ns.length):∃ r∈ns,atI (ns.map V.int) d=some (.int r):=by
 obtain ⟨k,rfl⟩:∃ k:Nat,d=k:=⟨d.toNat,by omega⟩;have hk:k<ns.length:=by omega
 exact ⟨ns[k],YaL hk,Zaz (by simp [hk])⟩
theorem ZfV {α:Type}{xs:List α}{v:α} (h:xs[xs.length - 1]? = some v):atI xs (-1)=some v:=by
 have hl:0<xs.length:=by
  have:=(Yai.mp h).1;omega
 unfold atI ixN;rw [Ya6 (by decide),Ya7 (by omega)];show xs[((-1:Int)+(xs.length:Int)).toNat]? = some v;rw [show ((-1:Int)+(xs.length:Int)).toNat=xs.length - 1 by omega];exact h
theorem ZpB {ns:List Int} (h:0<ns.length):atI (ns.map V.int) (-1)=some (.int (ns.getD (ns.length - 1) 0)):=by
 refine ZfV ?_;rw [Yaa,Yaf,Yat,Yac (by omega)];rfl
open PySem L2 PyProof.Rows
def dRow (ns:List Int):PyData:=.list (ns.map PyData.int)
def dTab (rows:List (List Int)):PyData:=.list (rows.map dRow)
theorem Zc9 {K:Yab}{H:Hp}:∀ ns:List Int,RdAll K H (ns.map V.int) (ns.map PyData.int)
 | []=>.nil
 |n :: r=>.cons (.int n) (Zc9 r)
theorem Row.rd {K:Yab}{H:Hp}{a:Addr}{ns:List Int} (h:Row H a ns):RdD K H (.ref a) (dRow ns):=.lst h.sq (Zc9 ns)
theorem ZeR {K:Yab}{H:Hp}:∀ prs:Prs,(∀ p∈prs,Row H p.1 p.2)->RdAll K H (prs.map λp=>V.ref p.1) ((prs.map (·.2)).map dRow)
 | [],_=>.nil
 |p :: r,h=>.cons (h p (by simp)).rd (ZeR r λq hq=>h q (by simp [hq]))
theorem Tab.rd {K:Yab}{H:Hp}{t:Addr}{prs:Prs} (h:Tab H t prs):RdD K H (.ref t) (dTab (prs.map (·.2))):=.lst h.sq (ZeR prs h.r)
theorem ZdE:∀ ns:List Int,PyData.canLayAll0 (ns.map PyData.int)=true/\PyData.depthAll (ns.map PyData.int)<=0
 | []=>by simp [PyData.canLayAll0,PyData.depthAll]
 |n :: r=>by
  have h:=ZdE r;simp only [Yaw,PyData.canLayAll0,PyData.canLay0,PyData.depthAll,PyData.depth,h.1,Bool.and_self,true_and];have:=h.2;omega
theorem Zij:∀ rows:List (List Int),PyData.canLayAll0 (rows.map dRow)=true/\PyData.depthAll (rows.map dRow)<=1
 | []=>by simp [PyData.canLayAll0,PyData.depthAll]
 |ns :: r=>by
  have h:=Zij r;have h2:=ZdE ns;simp only [Yaw,dRow,PyData.canLayAll0,PyData.canLay0,PyData.depthAll,PyData.depth,h2.1];have a1:=h.2;have a2:=h2.2;refine ⟨by rw [Bool.true_and];exact h.1,?_⟩;show max (PyData.depthAll (ns.map PyData.int)+1) (PyData.depthAll (r.map dRow))<=1;omega
theorem ZaE (ns:List Int):SeqAt.shaped (dRow ns)=true:=by
 have h:=ZdE ns;have h2:=h.2;show (PyData.canLay0 (.list (ns.map PyData.int)) && decide (PyData.depth (.list (ns.map PyData.int))<=64))=true;rw [Yaj];exact ⟨by simp only [PyData.canLay0];exact h.1,Ya4 (by simp only [PyData.depth];omega)⟩
theorem Za8 (rows:List (List Int)):SeqAt.shaped (dTab rows)=true:=by
 have h:=Zij rows;have h2:=h.2;show (PyData.canLay0 (.list (rows.map dRow)) && decide (PyData.depth (.list (rows.map dRow))<=64))=true;rw [Yaj];exact ⟨by simp only [PyData.canLay0];exact h.1,Ya4 (by simp only [PyData.depth];omega)⟩
theorem ZfF:∀ ns:List Int,PyData.eqvAll (ns.map PyData.int) (ns.map PyData.int)=true
 | []=>by simp [PyData.eqvAll]
 |n :: r=>by simp [PyData.eqvAll,PyData.eqv,ZfF r]
theorem ZfE (ns:List Int):PyData.eqv (dRow ns) (dRow ns)=true:=by
 unfold dRow;simp only [PyData.eqv];exact ZfF ns
theorem Zip:∀ rows:List (List Int),PyData.eqvAll (rows.map dRow) (rows.map dRow)=true
 | []=>by simp [PyData.eqvAll]
 |n :: r=>by simp [PyData.eqvAll,ZfE n,Zip r]
theorem Zej (rows:List (List Int)):PyData.eqv (dTab rows) (dTab rows)=true:=by
 unfold dTab;simp only [PyData.eqv];exact Zip rows
open PySem L2 PyProof.Rows
theorem Zro {c A B:Prop} [Decidable c] (hc:¬ c) (h:B):if decide c=true then A else B:=by
 rw [Ya5 hc];exact iteF h
theorem len1:1<=sizeLine:=by decide
theorem len2:2<=sizeLine:=by decide
theorem len3:3<=sizeLine:=by decide
theorem len4:4<=sizeLine:=by decide
theorem len5:5<=sizeLine:=by decide
theorem Row.new {H:Hp}{D:Addr}:Row (upd H D (.lst [])) D []:=Zac
theorem Row.push {H:Hp}{D:Addr}{ds:List Int}{v:Int}:Row (upd H D (.lst (ds.map V.int ++ [.int v]))) D (ds ++ [v]):=by
 unfold Row;rw [Zac,Yah];rfl
section
variable {P:Program}{w:World}{K:Yab}{mg:Str->Option Value}{base:Heap}
def ZjQ (K:Yab):Sp:=λvs H Q _=>∃ (a:Addr) (ns:List Int) (k:Nat),vs=[.ref a,.int (k:Nat)]/\SqL K H a (ns.map V.int)/\k<=100/\∀ c,Q (.int c) H
theorem Zmo:FnScope ["script","k"] ["script","k"] (Zad Zlu):=scm
theorem ZmX (T:Blt mg) (D:Zah K mg "_law_cell" Zlu ["script","k"]):FnAt P w K mg base 1 "_law_cell" ["script","k"] (ZjQ K):=by
 refine fao D Zmo (λvs H Q E h=>?_) (λf g A o s H vs Q E hr h=>?_)
 ·obtain ⟨a,ns,k,rfl,_⟩:=h;rfl
 ·obtain ⟨a,ns,k,rfl,hS,hk,q⟩:=h;refine ⟨_,Zaa (Zbn (pcm o_lt (pv 1) (pln T (pv 0))) (Zaf (Zak (pix Zaj (pv 0) (pv 1)))) ZaI)
   (Zaf (Zak (Zan Zby (Zan Zby (Zan Zdz (Zan Zdz Zae (pv 1)) (pv 1)) (Zan Zdz Zae (pv 1))) Zae))),?_⟩
  refine ⟨_,rfl,_,rfl,a,_,rfl,.inl hS,_,_,rfl,rfl,_,rfl,?_⟩;rw [Yaa];refine ite2 (λh1=>?_) (λh1=>?_)
  ·have h1:=of_decide_eq_true h1;exact ⟨_,rfl,_,rfl,a,_,_,_,rfl,rfl,hS,ZaW (by omega),q _⟩
  ·exact ⟨_,rfl,_,_,rfl,rfl,.inl ⟨by decide,by decide⟩,_,rfl,_,_,rfl,rfl,.inr ⟨by omega,by omega⟩,_,rfl,_,_,rfl,rfl,.inl ⟨by decide,by decide⟩,_,_,rfl,rfl,_,_,rfl,rfl,q _⟩
def ZiL (H:Hp) (Q:VK) (rows:List (List Int)):Prop:=∀ t' prs' H',H t'=none->(∀ p∈prs',H p.1=none/\p.1≠t')->(prs'.map (·.1)).Nodup->Same H H'->Tab H' t' prs'->prs'.map (·.2)=rows->Q (.ref t') H'
theorem ZdQ {prs prs':Prs} (h:prs'.map (·.2)=prs.map (·.2)):tabB prs'=tabB prs:=by
 have hl:prs'.length=prs.length:=by
  have:=congrArg List.length h;simpa using this
 have hm:∀ (f:List Int->Bool),(prs'.map λp=>f p.2)=(prs.map λp=>f p.2):=λf=>by
  have:=congrArg (List.map f) h;rw [Yau,Yau] at this;exact this
 have hm2:∀ (f:List Int->Int),(prs'.map λp=>f p.2)=(prs.map λp=>f p.2):=λf=>by
  have:=congrArg (List.map f) h;rw [Yau,Yau] at this;exact this
 have hw:w0 prs'=w0 prs:=by
  have:=congrArg (λl:List (List Int)=>(l.head?.map List.length).getD 0) h;simp only [List.head?_map,Option.map_map] at this;exact this
 have hc:∀ j,col prs' j=col prs j:=λj=>hm2 λns=>ns.getD j 0;unfold tabB shB srB;rw [hl,hw,hm rowB,hm λns=>decide (ns.length=w0 prs),hm nfB];simp only [hc]
def ZcF (rows:List (List Int)):Bool:=tabB (rows.map λr=>((0:Addr),r))
theorem ZbJ {prs:Prs}{rows:List (List Int)} (h:prs.map (·.2)=rows):tabB prs=ZcF rows:=by
 unfold ZcF;refine ZdQ ?_;rw [h,Yau];exact (List.map_id _).symm
def prs0 (rows:List (List Int)):Prs:=rows.map λr=>((0:Addr),r)
theorem ZcQ (rows:List (List Int)):(prs0 rows).map (·.2)=rows:=by
 unfold prs0;rw [Yau];exact List.map_id _
theorem Zao {prs:Prs} (h:tabB prs=true):Sm prs:=by
 obtain ⟨g,h1,h2,h3,h4⟩:=ZaF h;exact ⟨by omega,λp hp=>by rw [g.len p hp];omega⟩
end
open PySem L2 PyProof.Rows
theorem len0:0<=sizeLine:=YaH _
open PySem L2 PyProof.Rows
def Cell (H:Hp) (c:Addr) (i j:Nat):Prop:=H c=some (.tup [.int (i:Nat),.int (j:Nat)])
section
variable {P:Program}{w:World}{K:Yab}{mg:Str->Option Value}{base:Heap}
def ZdY:Sp:=λvs H Q _=>∃ (c:Addr) (i j:Nat),vs=[.ref c]/\Cell H c i j/\∀ H',Same H H'->Q (.bl true) H'
theorem Zgw (T:Blt mg) (D:Zah K mg "all_whole" Zbj ["things"]) (G1:FnAt P w K mg base 1 "is_whole" ["thing"] ZbI):FnAt P w K mg base 2 "all_whole" ["things"] ZdY:=by
 refine fao D Zb1 (λvs H Q E h=>?_) (λf g A o s H vs Q E hr h=>?_)
 ·obtain ⟨c,i,j,rfl,_⟩:=h;rfl
 ·obtain ⟨c,i,j,rfl,hC,q⟩:=h;have nd1:(["thing"]:List Str).Nodup:=by decide +kernel
  refine ⟨_,Zaf (Zak (pe_b (Za5 rfl) T.all boot_all (pa1 (Zar ["thing"] [none] (Zad Zbj) ["things"] rfl (Zgk (pv 0)) (by decide +kernel)
   (λ_ _ _ _ _=>pg_c 0 nd1) (λ_ _ _ _ _=>Zam) (λ_ _ _ _ _=>pe_f G1 hr (pa1 (pv 0))))))),?_⟩
  refine ⟨_,rfl,c,rfl,⟨_,sqt hC⟩,ZiD V.int (ms:=[(i:Int),(j:Int)]) (λ_=>.bl true) (sqt hC) (by show 2<=sizeLine;decide) (λn _ H' Q' sm q'=>?_) λL H' hL sm hLl=>?_⟩
  ·exact ⟨_,rfl,n,rfl,q' _ (srf _)⟩
  ·exact ⟨L,[true,true],rfl,sqo hLl,q H' sm⟩
def Ze9:Sp:=λvs H Q _=>∃ (c:Addr) (r p i j:Nat),vs=[.int (r:Nat),.int (p:Nat),.ref c]/\Cell H c i j/\i<r/\j<p/\∀ H',Same H H'->Q (.bl true) H'
theorem Zgg:FnScope ["rows","places","thing"] ["rows","places","thing"] (Zad ZfM):=scm
theorem ZkC (T:Blt mg) (htup:mg "tuple" = none) (D:Zah K mg "is_cell_of_size" ZfM ["rows","places","thing"]) (G:FnAt P w K mg base 2 "all_whole" ["things"] ZdY):FnAt P w K mg base 3 "is_cell_of_size" ["rows","places","thing"] Ze9:=by
 refine fao D Zgg (λvs H Q E h=>?_) (λf g A o s H vs Q E hr h=>?_)
 ·obtain ⟨c,r,p,i,j,rfl,_⟩:=h;rfl
 ·obtain ⟨c,r,p,i,j,rfl,hC,hi,hj,q⟩:=h;refine ⟨_,Zaa (pifF (PW.pt (Zbv (ZaC (ZaB (pe_b ZaP T.isinst boot_isinstance (Zab (pv 2) (pa1 (Zd7 htup boot_tuple)))))) (Zbv (pcm ZcE (pln T (pv 2)) Zae) (Zbo (ZaC (ZaB (pe_f G hr (pa1 (pv 2))))))))))
   (Zaf (Zak (ZbQ (Zbt o_le o_lt Zae (pix ZaJ (pv 2) Zae) (pv 0))
    (Zbw (Zbt o_le o_lt Zae (pix ZaJ (pv 2) Zae) (pv 1)))))),?_⟩
  refine ⟨_,rfl,_,_,_,_,rfl,.tup hC,Zn8 _,_,rfl,iteF ⟨_,rfl,c,_,rfl,.inr (sqt hC),rfl,_,rfl,?_⟩⟩;refine iteF ⟨_,rfl,c,i,j,rfl,hC,λH1 s1=>⟨_,rfl,iteF ?_⟩⟩;have hC1:Cell H1 c i j:=s1 _ _ hC;refine ⟨_,rfl,c,_,0,.int (i:Nat),rfl,rfl,sqt hC1,rfl,_,_,rfl,rfl,_,rfl,?_⟩;rw [Ya4 (show (0:Int)<=(i:Nat) by omega)];refine iteT ⟨_,rfl,_,_,rfl,rfl,_,rfl,?_⟩;rw [Ya4 (show ((i:Nat):Int)<(r:Nat) by omega)];refine iteT ⟨_,rfl,c,_,1,.int (j:Nat),rfl,rfl,sqt hC1,rfl,_,_,rfl,rfl,_,rfl,?_⟩;rw [Ya4 (show (0:Int)<=(j:Nat) by omega)];refine iteT ⟨_,rfl,_,_,rfl,rfl,?_⟩;rw [Ya4 (show ((j:Nat):Int)<(p:Nat) by omega)];exact q H1 s1
def Zh2:Sp:=λvs H Q _=>∃ (t c:Addr) (prs:Prs) (i j:Nat),vs=[.ref t,.ref c]/\Tab H t prs/\tabB prs=true/\Cell H c i j/\i<prs.length/\j<w0 prs/\∀ H',Same H H'->Q (.bl true) H'
theorem Zge:FnScope ["table","thing"] ["table","thing"] (Zad ZfJ):=scm
theorem Zkz (T:Blt mg) (D:Zah K mg "is_cell" ZfJ ["table","thing"]) (G:FnAt P w K mg base 3 "is_cell_of_size" ["rows","places","thing"] Ze9):FnAt P w K mg base 4 "is_cell" ["table","thing"] Zh2:=by
 refine fao D Zge (λvs H Q E h=>?_) (λf g A o s H vs Q E hr h=>?_)
 ·obtain ⟨t,c,prs,i,j,rfl,_⟩:=h;rfl
 ·obtain ⟨t,c,prs,i,j,rfl,hT,hg,hC,hi,hj,q⟩:=h;obtain ⟨g,g1,g2,g3,g4⟩:=ZaF hg;obtain ⟨p0,hp0,hm0,hx0⟩:=Zbg (prs:=prs) g1;refine ⟨_,Zaf (Zak (pe_f G hr (Zab (pln T (pv 0)) (Zab (pln T (pix Zaj (pv 0) Zae)) (pa1 (pv 1)))))),?_⟩;exact ⟨_,rfl,t,_,rfl,.inl hT.sq,_,rfl,t,_,0,.ref p0.1,rfl,rfl,hT.sq,Zaz (j:=0) (by rw [Yaf,hx0];rfl),p0.1,_,rfl,.inl (hT.r p0 hm0).sq,_,rfl,c,prs.length,w0 prs,i,j,by rw [Yaa,Yaa,g.len p0 hm0],hC,hi,hj,q⟩
def ZbU:Sp:=λvs H Q _=>∃ (t c:Addr) (prs:Prs) (i j:Nat),vs=[.ref t,.ref c]/\Tab H t prs/\tabB prs=true/\Cell H c i j/\i<prs.length/\j<w0 prs/\∀ H',Same H H'->Q .non H'
theorem Zhh:FnScope ["table","thing"] ["table","thing"] (Zad Zes):=scm
theorem Zhp (D:Zah K mg "need_cell" Zes ["table","thing"]) (G:FnAt P w K mg base 4 "is_cell" ["table","thing"] Zh2):FnAt P w K mg base 5 "need_cell" ["table","thing"] ZbU:=by
 refine fao D Zhh (λvs H Q E h=>?_) (λf g A o s H vs Q E hr h=>?_)
 ·obtain ⟨t,c,prs,i,j,rfl,_⟩:=h;rfl
 ·obtain ⟨t,c,prs,i,j,rfl,hT,hg,hC,hi,hj,q⟩:=h;refine ⟨_,Zaf (Zbn (ZaC (ZaB (pe_f G hr (Zab (pv 0) (pa1 (pv 1)))))) ZaX ZaI),?_⟩;exact ⟨_,rfl,_,rfl,t,c,prs,i,j,rfl,hT,hg,hC,hi,hj,λH' sm=>⟨_,rfl,iteF (q H' sm)⟩⟩
def ZbF:Sp:=λvs H Q _=>∃ (t c:Addr) (prs:Prs) (i j:Nat),vs=[.ref t,.ref c]/\Tab H t prs/\tabB prs=true/\Cell H c i j/\i<prs.length/\j<w0 prs/\∀ H',Same H H'->Q (.int ((Zat prs i).getD j 0)) H'
theorem Zhe:FnScope ["table","cell"] ["table","cell"] (Zad Zep):=scm
theorem Zhm (D:Zah K mg "number_at" Zep ["table","cell"]) (G1:FnAt P w K mg base 6 "need_table" ["thing"] ZaH) (G2:FnAt P w K mg base 5 "need_cell" ["table","thing"] ZbU):FnAt P w K mg base 7 "number_at" ["table","cell"] ZbF:=by
 refine fao D Zhe (λvs H Q E h=>?_) (λf g A o s H vs Q E hr h=>?_)
 ·obtain ⟨t,c,prs,i,j,rfl,_⟩:=h;rfl
 ·obtain ⟨t,c,prs,i,j,rfl,hT,hg,hC,hi,hj,q⟩:=h;obtain ⟨g,g1,g2,g3,g4⟩:=ZaF hg;have hsm:Sm prs:=⟨by omega,λp hp=>by rw [g.len p hp];omega⟩;refine ⟨_,Zaa (Zaq (pe_f G1 hr (pa1 (pv 0)))) (Zaa (Zaq (pe_f G2 (hr.mono (by decide)) (Zab (pv 0) (pa1 (pv 1)))))
   (Zaf (Zak (pix Zaj (pix Zaj (pv 0) (pix ZaJ (pv 1) Zae)) (pix ZaJ (pv 1) Zae))))),?_⟩
  refine ⟨_,rfl,t,prs,rfl,hT,hsm,hg,λH1 s1=>⟨_,rfl,_,rfl,t,c,prs,i,j,rfl,hT.same s1,hg,s1 _ _ hC,hi,hj,λH2 s2=>?_⟩⟩;have s12:=s1.trans s2;have hT2:=hT.same s12;have hC2:Cell H2 c i j:=s12 _ _ hC;obtain ⟨p,hp1,hp2,hp3⟩:=ZaA hi;have hpl:=g.len p hp1;refine ⟨_,rfl,_,rfl,c,_,0,.int (i:Nat),rfl,rfl,sqt hC2,rfl,t,_,_,.ref p.1,rfl,rfl,hT2.sq,Zaz (by rw [Yaf,hp2];rfl),_,rfl,c,_,1,.int (j:Nat),rfl,rfl,sqt hC2,rfl,p.1,_,_,.int (p.2.getD j 0),rfl,rfl,(hT2.r p hp1).sq,ZaW (by omega),?_⟩;rw [<- hp3];exact q H2 s12
end
open PySem L2 PyProof.Rows
abbrev Es:=List (Addr × List Int)
def EntAt (H:Hp) (e:Addr × List Int):Prop:=H e.1=some (.tup (e.2.map V.int))
def dEnt (e:List Int):PyData:=.tuple (e.map PyData.int)
def ZfK (fs:List (List Int)):PyData:=.list (fs.map dEnt)
theorem EntAt.rd {K:Yab}{H:Hp}{e:Addr × List Int} (h:EntAt H e):RdD K H (.ref e.1) (dEnt e.2):=.tup (sqt h) (Zc9 e.2)
theorem ZeS {K:Yab}{H:Hp}:∀ es:Es,(∀ e∈es,EntAt H e)->RdAll K H (es.map λe=>V.ref e.1) ((es.map (·.2)).map dEnt)
 | [],_=>.nil
 |e :: r,h=>.cons (h e (by simp)).rd (ZeS r λq hq=>h q (by simp [hq]))
theorem Zek {K:Yab}{H:Hp}{L:Addr}{es:Es} (hL:H L=some (.lst (es.map λe=>V.ref e.1))) (h:∀ e∈es,EntAt H e):RdD K H (.ref L) (ZfK (es.map (·.2))):=.lst (sqo hL) (ZeS es h)
theorem Zik:∀ fs:List (List Int),PyData.canLayAll0 (fs.map dEnt)=true/\PyData.depthAll (fs.map dEnt)<=1
 | []=>by simp [PyData.canLayAll0,PyData.depthAll]
 |ns :: r=>by
  have h:=Zik r;have h2:=ZdE ns;simp only [Yaw,dEnt,PyData.canLayAll0,PyData.canLay0,PyData.depthAll,PyData.depth,h2.1];have a1:=h.2;have a2:=h2.2;refine ⟨by rw [Bool.true_and];exact h.1,?_⟩;show max (PyData.depthAll (ns.map PyData.int)+1) (PyData.depthAll (r.map dEnt))<=1;omega
theorem ZaL (fs:List (List Int)):SeqAt.shaped (ZfK fs)=true:=by
 have h:=Zik fs;have h2:=h.2;show (PyData.canLay0 (.list (fs.map dEnt)) && decide (PyData.depth (.list (fs.map dEnt))<=64))=true;rw [Yaj];exact ⟨by simp only [PyData.canLay0];exact h.1,Ya4 (by simp only [PyData.depth];omega)⟩
theorem Zlj (e:List Int):PyData.eqv (dEnt e) (dEnt e)=true:=by
 unfold dEnt;simp only [PyData.eqv];exact ZfF e
theorem ZgP:∀ fs:List (List Int),PyData.eqvAll (fs.map dEnt) (fs.map dEnt)=true
 | []=>by simp [PyData.eqvAll]
 |n :: r=>by simp [PyData.eqvAll,Zlj n,ZgP r]
theorem Zcx (fs:List (List Int)):PyData.eqv (ZfK fs) (ZfK fs)=true:=by
 unfold ZfK;simp only [PyData.eqv];exact ZgP fs
open PySem L2 PyProof.Rows
theorem Zjk (x n:Int) (ns:List Int):lessN x (n :: ns)=(if n<x then 1 else 0)+lessN x ns:=by
 unfold lessN;rw [List.filter_cons]
 by_cases h:n<x
 ·simp [h];omega
 ·simp [h]
def rc (i:Nat) (ns:List Int) (x:Int) (k:Nat):List (Nat × Nat):=((List.range k).filter λj=>decide (ns.getD j 0=x)).map λj=>(i,j)
def ZaK (prs:Prs) (x:Int) (n:Nat):List (Nat × Nat):=(List.range n).flatMap λi=>rc i (Zat prs i) x (Zat prs i).length
theorem Zka (i:Nat) (ns:List Int) (x:Int) (k:Nat):rc i ns x (k+1)=rc i ns x k ++ (if ns.getD k 0=x then [(i,k)] else []):=by
 unfold rc;rw [List.range_succ,List.filter_append,Yah]
 by_cases h:ns.getD k 0=x
 ·rw [Ya7 h,List.filter_cons,Ya4 h];rfl
 ·rw [Ya6 h,List.filter_cons,Ya5 h];rfl
theorem ZnW (i:Nat) (ns:List Int) (x:Int) (k:Nat):(rc i ns x k).length<=k:=by
 unfold rc;rw [Yaa];exact Yay (Ybm _ _) (by rw [List.length_range];omega)
theorem ZgX (prs:Prs) (x:Int) (n:Nat):ZaK prs x (n+1)=ZaK prs x n ++ rc n (Zat prs n) x (Zat prs n).length:=by
 unfold ZaK;rw [List.range_succ,List.flatMap_append];simp
def hasB (prs:Prs) (x:Int):Bool:=prs.any λp=>p.2.any λn=>n == x
theorem Zh7 {i:Nat}{ns:List Int}{x:Int}:(rc i ns x ns.length).isEmpty = !(ns.any λn=>n == x):=by
 rw [Bool.eq_iff_iff];unfold rc;simp only [List.isEmpty_iff,List.map_eq_nil_iff,List.filter_eq_nil_iff,List.mem_range,decide_eq_true_eq,Bool.not_eq_true',List.any_eq_false,beq_iff_eq];constructor
 ·intro h n hn e;obtain ⟨j,hj,rfl⟩:=List.getElem_of_mem hn;exact h j hj (by rw [Yat,Yac hj];exact e)
 ·intro h j hj e;rw [Yat,Yac hj] at e;exact h _ (YaL hj) e
theorem ZhO {prs:Prs}{x:Int}:(ZaK prs x prs.length).isEmpty = !hasB prs x:=by
 rw [Bool.eq_iff_iff];unfold ZaK hasB;simp only [List.isEmpty_iff,List.flatMap_eq_nil_iff,List.mem_range,Bool.not_eq_true',List.any_eq_false];constructor
 ·intro h p hp;obtain ⟨i,hi,rfl⟩:=List.getElem_of_mem hp;have e:Zat prs i=prs[i].2:=by
   unfold Zat;rw [Yac hi];rfl
  have:=Zh7 (i:=i) (ns:=Zat prs i) (x:=x);rw [h i hi,e] at this;simp only [List.isEmpty_nil] at this;intro q;simp only [List.any_eq_true] at q;obtain ⟨n,hn,hx⟩:=q;have h2:(prs[i].2.any λn=>n == x)=true:=List.any_eq_true.mpr ⟨n,hn,hx⟩;rw [h2] at this;cases this
 ·intro h i hi;have e:Zat prs i=prs[i].2:=by
   unfold Zat;rw [Yac hi];rfl
  have:=Zh7 (i:=i) (ns:=Zat prs i) (x:=x);rw [e] at this ⊢;have h3:(prs[i].2.any λn=>n == x)=false:=by
   cases q:(prs[i].2.any λn=>n == x) with
   |false=>rfl
   |true=>exact absurd q (h _ (YaL hi))
  rw [h3] at this;exact List.isEmpty_iff.mp this
theorem ZqN {i j:Int}:decide (V.int i=V.int j)=decide (i=j):=by
 rw [Ybb];constructor
 ·intro h;injection h
 ·rintro rfl;rfl
open PySem L2 PyProof.Rows
abbrev Cs:=List (Addr × Nat × Nat)
def Zce (c:Addr × Nat × Nat):V:=.ref c.1
def Za0 (H:Hp) (c:Addr × Nat × Nat):Prop:=H c.1=some (.tup [.int (c.2.1:Nat),.int (c.2.2:Nat)])
section
variable {P:Program}{w:World}{K:Yab}{mg:Str->Option Value}{base:Heap}
def Zc7:Sp:=λvs H Q _=>∃ (t:Addr) (prs:Prs) (x:Int),vs=[.ref t,.int x]/\Tab H t prs/\tabB prs=true /\
 ∀ L (cs:Cs) H',H L=none->Same H H'->H' L=some (.lst (cs.map Zce))->(∀ c∈cs,Za0 H' c/\H c.1=none)->cs.map (·.2)=ZaK prs x prs.length->cs.length<=36->Q (.ref L) H'
theorem sc_cells:FnScope ["table","x","cells","row","numbers"] ["table","x"] (Zad Ziy):=scm
theorem Zm8 (T:Blt mg) (D:Zah K mg "cells_of" Ziy ["table","x"]) (G1:FnAt P w K mg base 6 "need_table" ["thing"] ZaH) (G2:FnAt P w K mg base 2 "need_number" ["thing"] Za2):FnAt P w K mg base 7 "cells_of" ["table","x"] Zc7:=by
 refine fao D sc_cells (λvs H Q E h=>?_) (λf g A o s H vs Q E hr h=>?_)
 ·obtain ⟨t,prs,x,rfl,_⟩:=h;rfl
 ·obtain ⟨t,prs,x,rfl,hT,hg,q⟩:=h;obtain ⟨g,g1,g2,g3,g4⟩:=ZaF hg;have hs:=Zao hg;have nd:=sc_cells.nd;have nd1:(["place","number","row","x"]:List Str).Nodup:=by decide +kernel
  refine ⟨_,Zaa (Zaq (pe_f G1 hr (pa1 (pv 0)))) (Zaa (Zaq (pe_f G2 (hr.mono (by decide)) (pa1 (pv 1))))
   (Zaa (Zal (i:=2) nd rfl (Or.inl rfl) (ZaN ZaT))
   (Zaa (Zbi PassesOwn.never rfl (Zdb rfl T.enum (pa1 (pv 0))) (ZcR rfl (ZaS (Zax (i:=3) nd rfl (Or.inr rfl)) (ZaS (Zax (i:=4) nd rfl (Or.inl rfl)) Zb3)))
    (Zaf (Zaq (ZcK YaS PySem.F.slot_list_extend PySem.F.type_list_extend Zck (pv 2) (Zab
     (Zar ["place","number","row","x"] [none,none,some 3,some 1] (Zad Ziy) ["table","x","cells","row","numbers"] rfl (Zdb rfl T.enum (pa1 (pv 4))) (by decide +kernel)
      (λ_ _ _ _ _=>Zgm K rfl nd1) (λ_ _ _ _ _=>ZaR (pcm Zdy (pv 1) (pv 3))) (λ_ _ _ _ _=>ZaD (Zab (pv 2) (pa1 (pv 0))))) ZaT)))))
   (Zaf (Zak (pv 2)))))),?_⟩
  refine ⟨_,rfl,t,prs,rfl,hT,hs,hg,λH1 s1=>⟨_,rfl,x,rfl,len0,λL hL=>?_⟩⟩;have L0:H L=none:=s1.free hL;have s2:Same H (upd H1 L (.lst [])):=s1.trans (snw hL);refine ⟨_,rfl,t,rfl,⟨_,(hT.same s2).sq⟩,Zin (K:=K) (a:=t) (xs:=prs.map λp=>V.ref p.1) (λi σ H2=>∃ (cs:Cs) (o3 o4:Option V),σ = [some (.ref t),some (.int x),some (.ref L),o3,o4]/\Same H H2/\H2 L=some (.lst (cs.map Zce)) /\
   (∀ c∈cs,Za0 H2 c/\H c.1=none)/\cs.map (·.2)=ZaK prs x i/\cs.length<=6 * i)
   ⟨[],none,none,rfl,s2,Zac,λc hc=>(nomatch hc),rfl,by simp⟩ (λi σ H2 _ ⟨_,_,_,_,sm,_⟩=>(hT.same sm).sq) ?_ ?_⟩
  ·rintro i y σ H2 T1 hi ⟨cs,o3,o4,rfl,sm,hLl,hcs,hcm,hcl⟩ hT1;have hil:i<prs.length:=by
    have:=(Yai.mp hi).1;rw [Yaa] at this;exact this
   obtain ⟨p,hp1,hp2,hp3⟩:=ZaA hil;rw [Yaf,hp2] at hi;have hy:V.ref p.1=y:=Yae hi;subst hy;have hpl:=g.len p hp1;have smT:Same H2 (upd H2 T1 (.tup [.int (i:Nat),.ref p.1])):=snw hT1;have eT:(upd H2 T1 (.tup [.int (i:Nat),.ref p.1])) T1=some (.tup [.int (i:Nat),.ref p.1]):=Zac;generalize upd H2 T1 (.tup [.int (i:Nat),.ref p.1])=H3 at smT eT ⊢;refine ⟨T1,_,rfl,sqt eT,rfl,_,_,rfl,_,_,rfl,rfl,?_⟩;have sm3:=sm.trans smT;have hR3:=(hT.same sm3).r p hp1;have hL3:=smT _ _ hLl;refine ⟨_,rfl,.inl ⟨rfl,_,sqo hL3⟩,_,rfl,p.1,rfl,⟨_,hR3.sq⟩,?_⟩;refine Zex (xs:=p.2.map V.int) (λD2 k ys H'=>∃ qs:Cs,Same H3 H'/\H' D2=some (.lst ys)/\ys=qs.map Zce/\(∀ c∈qs,Za0 H' c/\H3 c.1=none/\c.1≠D2)/\qs.map (·.2)=rc i p.2 x k)
    (λD2 hD2=>⟨[],snw hD2,Zac,rfl,λc hc=>(nomatch hc),rfl⟩) (λD2 k ys H' _ _ ⟨_,sm',e,_⟩=>⟨e,(hR3.same sm').sq⟩) ?_ ?_
   ·rintro D2 k z ys H' T2 hD2 hz ⟨qs,sm',eD,hys,hqs,hqm⟩ hT2;have hkl:k<p.2.length:=by
     have:=(Yai.mp hz).1;rw [Yaa] at this;exact this
    have ez:z=.int (p.2.getD k 0):=by
     rw [Yaf,Yac hkl] at hz;rw [Yat,Yac hkl];exact (Yae hz).symm
    subst ez;have smT2:Same H' (upd H' T2 (.tup [.int (k:Nat),.int (p.2.getD k 0)])):=snw hT2;generalize upd H' T2 (.tup [.int (k:Nat),.int (p.2.getD k 0)])=H4 at smT2 ⊢;have ql:qs.length<=k:=by
     have:=congrArg List.length hqm;rw [Yaa] at this;rw [this];exact ZnW _ _ _ _
    refine ⟨_,rfl,_,rfl,rfl,_,rfl,?_⟩;rw [ZqN]
    by_cases hx:p.2.getD k 0=x
    ·rw [Ya4 hx];refine iteT ⟨_,rfl,_,rfl,len2,λT3 hT3=>?_⟩;have nT3:D2≠T3:=Zai (smT2 _ _ eD) hT3;have s3T:Same H4 (upd H4 T3 (.tup [.int (i:Nat),.int (k:Nat)])):=snw hT3;refine ⟨s3T _ _ (smT2 _ _ eD),?_,qs ++ [(T3,i,k)],((sm'.trans smT2).trans s3T).upd hD2,Zac,?_,λc hc=>?_,?_⟩
     ·rw [hys,Yaa];exact Zav (by omega)
     ·rw [hys,Yah];rfl
     ·rcases YaG.mp hc with z | z
      ·obtain ⟨z1,z2,z3⟩:=hqs c z;refine ⟨?_,z2,z3⟩;unfold Za0;rw [Zag z3];exact s3T _ _ (smT2 _ _ z1)
      ·have:c=(T3,i,k):=by simpa using z
       subst this;refine ⟨?_,(sm'.trans smT2).free hT3,Ne.symm nT3⟩;unfold Za0;rw [Zag (Ne.symm nT3)];exact Zac
     ·rw [Yah,hqm,Zka,Ya7 hx];rfl
    ·rw [Ya5 hx];refine iteF ⟨qs,sm'.trans smT2,smT2 _ _ eD,hys,λc hc=>?_,?_⟩
     ·obtain ⟨z1,z2,z3⟩:=hqs c hc;exact ⟨smT2 _ _ z1,z2,z3⟩
     ·rw [hqm,Zka,Ya6 hx,List.append_nil]
   ·rintro D2 ys H' hD2 ⟨qs,sm',eD,hys,hqs,hqm⟩;rw [Yaa] at hqm;have ql:qs.length<=p.2.length:=by
     have:=congrArg List.length hqm;rw [Yaa] at this;rw [this];exact ZnW _ _ _ _
    have hL4:=sm' _ _ hL3;refine ⟨L,D2,_,_,rfl,rfl,hL4,eD,?_,?_⟩
    ·rw [Yaa,hys,Yaa];exact sl6 (by omega)
    ·refine ⟨cs ++ qs,_,_,rfl,(sm3.trans sm').upd L0,?_,λc hc=>?_,?_,?_⟩
     ·rw [Zac,hys,Yah]
     ·have nL:∀ c:Addr × Nat × Nat,Za0 H' c->c.1≠L:=λc h=>Zhy h hL4 (by intro z;cases z);rcases YaG.mp hc with z | z
      ·obtain ⟨z1,z2⟩:=hcs c z;have z3:Za0 H' c:=sm' _ _ (smT _ _ z1);refine ⟨?_,z2⟩;unfold Za0;rw [Zag (nL c z3)];exact z3
      ·obtain ⟨z1,z2,z3⟩:=hqs c z;refine ⟨?_,sm3.free z2⟩;unfold Za0;rw [Zag (nL c z1)];exact z1
     ·rw [Yah,hcm,hqm,ZgX,hp3]
     ·rw [Yak];omega
  ·rintro σ H2 ⟨cs,o3,o4,rfl,sm,hLl,hcs,hcm,hcl⟩;rw [Yaa] at hcm hcl;exact ⟨_,rfl,q L cs H2 L0 sm hLl hcs hcm (by omega)⟩
def ZjO:Sp:=λvs H Q _=>∃ (t:Addr) (prs:Prs) (x:Int),vs=[.ref t,.int x]/\Tab H t prs/\tabB prs=true /\
 (hasB prs x=true->∀ H',Same H H'->Q .non H')/\(hasB prs x=false->∀ D H',H D=none->Same H H'->Row H' D (prs.map λp=>(lessN x p.2:Int))->Q (.ref D) H')
theorem Zmm:FnScope ["table","x"] ["table","x"] (Zad Zls):=scm
theorem ZmU (D:Zah K mg "stair_paper" Zls ["table","x"]) (G1:FnAt P w K mg base 7 "cells_of" ["table","x"] Zc7) (G2:FnAt P w K mg base 7 "stair_of" ["table","x"] (ZcI lessN)):FnAt P w K mg base 8 "stair_paper" ["table","x"] ZjO:=by
 refine fao D Zmm (λvs H Q E h=>?_) (λf g A o s H vs Q E hr h=>?_)
 ·obtain ⟨t,prs,x,rfl,_⟩:=h;rfl
 ·obtain ⟨t,prs,x,rfl,hT,hg,q1,q2⟩:=h;refine ⟨_,Zaa (Zbn (Zmy (pe_f G1 hr (Zab (pv 0) (pa1 (pv 1)))) (λ_=>rfl)) (Zaf (Zak ZbK)) ZaI) (Zaf (Zak (pe_f G2 hr (Zab (pv 0) (pa1 (pv 1)))))),?_⟩;refine ⟨_,rfl,_,rfl,t,prs,x,rfl,hT,hg,λL cs H1 hL s1 hLl hcs hcm hcl=>⟨_,.inl ⟨_,sqo hLl,rfl⟩,?_⟩⟩;have e:(cs.map Zce).isEmpty = !hasB prs x:=by
   rw [<- ZhO,<- hcm];cases cs <;> rfl
  rw [e];cases hb:hasB prs x with
  |true=>exact iteT (q1 hb H1 s1)
  |false=>exact iteF ⟨_,rfl,_,rfl,t,prs,x,rfl,hT.same s1,Zao hg,hg,λD H2 hD s2 rD=>q2 hb D H2 (s1.free hD) (s1.trans s2) rD⟩
end
open PySem L2 PyProof.Rows
def ZbB (prs:Prs):List Int:=(prs.map (·.2)).flatten
def amidN (a b:Int) (ns:List Int):Nat:=(ns.filter λn=>decide (a<=n) && decide (n<=b)).length
theorem Zdf (p:Addr × List Int) (r:Prs):ZbB (p :: r)=p.2 ++ ZbB r:=rfl
theorem ZgF (x:Int):∀ prs:Prs,(prs.map λp=>(lessN x p.2:Int)).sum=(lessN x (ZbB prs):Nat)
 | []=>rfl
 |p :: r=>by
  rw [Yaw,List.sum_cons,ZgF x r,Zdf];unfold lessN;rw [List.filter_append,Yak];omega
theorem ZgD (x:Int):∀ prs:Prs,(prs.map λp=>(mostN x p.2:Int)).sum=(mostN x (ZbB prs):Nat)
 | []=>rfl
 |p :: r=>by
  rw [Yaw,List.sum_cons,ZgD x r,Zdf];unfold mostN;rw [List.filter_append,Yak];omega
theorem ZlW {a b:Int} (h:a<=b):∀ ns:List Int,mostN b ns=lessN a ns+amidN a b ns
 | []=>rfl
 |n :: r=>by
  have ih:=ZlW h r;unfold mostN lessN amidN at ih ⊢;simp only [List.filter_cons]
  by_cases h1:n<a
  ·rw [Ya7 (Ya4 (show n<=b by omega)),Ya7 (Ya4 h1),Ya6 (by rw [Ya5 (show ¬ a<=n by omega)];simp)];simp only [YaC];omega
  ·by_cases h2:n<=b
   ·rw [Ya7 (Ya4 h2),Ya6 (by simpa using h1),Ya7 (by rw [Ya4 (show a<=n by omega),Ya4 h2];rfl)];simp only [YaC];omega
   ·rw [Ya6 (by simpa using h2),Ya6 (by simpa using h1),Ya6 (by rw [Ya5 h2];simp)];exact ih
theorem ZlX {a b:Int} (h:b<a):∀ ns:List Int,amidN a b ns=0/\mostN b ns<=lessN a ns
 | []=>⟨rfl,Yag _⟩
 |n :: r=>by
  have ih:=ZlX h r;unfold mostN lessN amidN at ih ⊢;simp only [List.filter_cons];have h3:¬ ((decide (a<=n) && decide (n<=b))=true):=by
   simp;omega
  rw [Ya6 h3];refine ⟨ih.1,?_⟩
  by_cases h2:n<=b
  ·rw [Ya7 (Ya4 h2),Ya7 (Ya4 (show n<a by omega))];simp only [YaC];omega
  ·rw [Ya6 (by simpa using h2)]
   by_cases h1:n<a
   ·rw [Ya7 (Ya4 h1)];simp only [YaC];omega
   ·rw [Ya6 (by simpa using h1)];exact ih.2
theorem ZnH (a b:Int) (ns:List Int):(if (mostN b ns:Int) - (lessN a ns:Int) > 0 then (mostN b ns:Int) - (lessN a ns:Int) else 0)=(amidN a b ns:Nat):=by
 by_cases h:a<=b
 ·have:=ZlW h ns;split <;> omega
 ·have:=ZlX (show b<a by omega) ns;split <;> omega
open PySem L2 PyProof.Rows
def valN (prs:Prs) (i j:Nat):Int:=(Zat prs i).getD j 0
def ZcC (prs:Prs) (x:Int):Nat->Nat->Nat->List (Nat × Nat)
 | 0,_,_=>[]
 |f+1,r,p=>if r<prs.length/\0<p then (r,p - 1) :: (if valN prs r (p - 1)=x then [] else if x<valN prs r (p - 1) then ZcC prs x f r (p - 1) else ZcC prs x f (r+1) p) else []
def ZdO (prs:Prs) (x:Int):Nat->Nat->Nat->Option (Nat × Nat)
 | 0,_,_=>none
 |f+1,r,p=>if r<prs.length/\0<p then (if valN prs r (p - 1)=x then some (r,p - 1) else if x<valN prs r (p - 1) then ZdO prs x f r (p - 1) else ZdO prs x f (r+1) p) else none
def Zg7 (prs:Prs) (x:Int):List (Nat × Nat):=ZcC prs x (prs.length+w0 prs) 0 (w0 prs)
def ZjA (prs:Prs) (x:Int):Option (Nat × Nat):=ZdO prs x (prs.length+w0 prs) 0 (w0 prs)
theorem Ze4 (prs:Prs) (x:Int):∀ f r p,∀ c∈ZcC prs x f r p,c.1<prs.length/\c.2<p
 | 0,_,_,c,h=>nomatch h
 |f+1,r,p,c,h=>by
  unfold ZcC at h;split at h
  ·rename_i hi
   rcases YaF.mp h with rfl | h
   ·exact ⟨hi.1,by show p - 1<p;omega⟩
   ·split at h
    ·nomatch h
    ·split at h
     ·have:=Ze4 prs x f r (p - 1) c h;omega
     ·exact Ze4 prs x f (r+1) p c h
  ·nomatch h
theorem Zc2 (prs:Prs) (x:Int):∀ f r p,(ZcC prs x f r p=[]/\ZdO prs x f r p=none)\/∃ c,(ZcC prs x f r p).getLast? = some c/\ZdO prs x f r p=if valN prs c.1 c.2=x then some c else none
 | 0,_,_=>.inl ⟨rfl,rfl⟩
 |f+1,r,p=>by
  unfold ZcC ZdO
  by_cases hi:r<prs.length/\0<p
  ·rw [Ya7 hi,Ya7 hi];right
   by_cases h1:valN prs r (p - 1)=x
   ·rw [Ya7 h1,Ya7 h1];exact ⟨(r,p - 1),rfl,by rw [Ya7 h1]⟩
   ·rw [Ya6 h1,Ya6 h1];have key:∀ l e,(l=[]/\e=none)\/(∃ c,l.getLast? = some c/\e=if valN prs c.1 c.2=x then some c else none)->∃ c,((r,p - 1) :: l).getLast? = some c/\e=if valN prs c.1 c.2=x then some c else none:=by
     rintro l e (⟨rfl,rfl⟩ | ⟨c,h,h2⟩)
     ·exact ⟨(r,p - 1),rfl,by rw [Ya6 h1]⟩
     ·refine ⟨c,?_,h2⟩;rw [List.getLast?_cons,h];rfl
    by_cases h2:x<valN prs r (p - 1)
    ·rw [Ya7 h2,Ya7 h2];exact key _ _ (Zc2 prs x f r (p - 1))
    ·rw [Ya6 h2,Ya6 h2];exact key _ _ (Zc2 prs x f (r+1) p)
  ·rw [Ya6 hi,Ya6 hi];exact .inl ⟨rfl,rfl⟩
theorem Zjz {prs:Prs} (x:Int) (h1:1<=prs.length) (h2:1<=w0 prs):∃ c,(Zg7 prs x).getLast? = some c/\ZjA prs x=if valN prs c.1 c.2=x then some c else none:=by
 rcases Zc2 prs x (prs.length+w0 prs) 0 (w0 prs) with z | z
 ·have:ZcC prs x (prs.length+w0 prs) 0 (w0 prs)≠[]:=by
   obtain ⟨f,hf⟩:∃ f,prs.length+w0 prs=f+1:=⟨prs.length+w0 prs - 1,by omega⟩;rw [hf];unfold ZcC;rw [Ya7 ⟨by omega,by omega⟩];exact List.cons_ne_nil _ _
  exact absurd z.1 this
 ·exact z
theorem ZeE {prs:Prs}{x:Int}{f r p:Nat} (h1:r<prs.length) (h2:0<p):ZcC prs x (f+1) r p=(r,p - 1) :: (if valN prs r (p - 1)=x then [] else if x<valN prs r (p - 1) then ZcC prs x f r (p - 1) else ZcC prs x f (r+1) p):=by
 show (if _ then _ else _)=_;rw [Ya7 ⟨h1,h2⟩]
theorem ZeD {prs:Prs}{x:Int}{f r p:Nat} (h:¬ (r<prs.length/\0<p)):ZcC prs x f r p=[]:=by
 cases f with
 |zero=>rfl
 |succ f =>
  show (if _ then _ else _)=_;rw [Ya6 h]
theorem ZiN {prs:Prs}{x:Int}{f r p:Nat} (h1:r<prs.length) (h2:0<p):ZdO prs x (f+1) r p=(if valN prs r (p - 1)=x then some (r,p - 1) else if x<valN prs r (p - 1) then ZdO prs x f r (p - 1) else ZdO prs x f (r+1) p):=by
 show (if _ then _ else _)=_;rw [Ya7 ⟨h1,h2⟩]
theorem ZiM {prs:Prs}{x:Int}{f r p:Nat} (h:¬ (r<prs.length/\0<p)):ZdO prs x f r p=none:=by
 cases f with
 |zero=>rfl
 |succ f =>
  show (if _ then _ else _)=_;rw [Ya6 h]
open PySem L2 PyProof.Rows
def ck (k:Nat × Nat):List Int:=[(k.1:Int),(k.2:Int)]
def IsCellO (H:Hp) (v:V):Option (Nat × Nat)->Prop
 |none=>v=.non
 |some k=>∃ T,v=.ref T/\Za0 H (T,k)
theorem IsCellO.same {H H':Hp}{v:V} (s:Same H H'):∀ {o:Option (Nat × Nat)},IsCellO H v o->IsCellO H' v o
 |none,h=>h
 |some k,⟨T,h1,h2⟩=>⟨T,h1,s _ _ h2⟩
theorem Zca {K:Yab}{H:Hp}{L:Addr}{cs:Cs} (hL:H L=some (.lst (cs.map Zce))) (h:∀ c∈cs,Za0 H c):RdD K H (.ref L) (ZfK ((cs.map (·.2)).map ck)):=by
 have e:=Zek (K:=K) (H:=H) (L:=L) (es:=cs.map λc=>(c.1,ck c.2)) (by rw [hL,Yau];rfl) (λe he=>by
  obtain ⟨c,hc,rfl⟩:=Yar.mp he
  exact h c hc)
 rw [Yau] at e ⊢;exact e
theorem ZeY {K:Yab}{H:Hp}{v:V}:∀ {o:Option (Nat × Nat)},IsCellO H v o->∃ d,RdD K H v d/\SeqAt.shaped d=true/\d=(o.map λk=>dEnt (ck k)).getD .none
 |none,h=>by
  cases h;exact ⟨.none,.non,rfl,rfl⟩
 |some k,⟨T,h1,h2⟩=>by
  cases h1;exact ⟨dEnt (ck k),EntAt.rd (e:=(T,ck k)) h2,rfl,rfl⟩
theorem Zrv:∀ o:Option (Nat × Nat),PyData.eqv ((o.map λk=>dEnt (ck k)).getD .none) ((o.map λk=>dEnt (ck k)).getD .none)=true
 |none=>rfl
 |some k=>Zlj (ck k)
theorem ZfR {H:Hp}{L:Addr}{xs:List V}{c:Addr × Nat × Nat} (h:Za0 H c) (hL:H L=some (.lst xs)):c.1≠L:=Zhy h hL (by intro z;cases z)
section
variable {P:Program}{w:World}{K:Yab}{mg:Str->Option Value}{base:Heap}
def ZhV:Sp:=λvs H Q _=>∃ (t:Addr) (prs:Prs) (x:Int),vs=[.ref t,.int x]/\Tab H t prs/\tabB prs=true /\
 ∀ L (cs:Cs) H',H L=none->Same H H'->H' L=some (.lst (cs.map Zce))->(∀ c∈cs,Za0 H' c/\H c.1=none)->cs.map (·.2)=Zg7 prs x->Q (.ref L) H'
theorem sc_walk:FnScope ["table","x","looked_at","row","place","number"] ["table","x"] (Zad Zpr):=scm
inductive WfA (H:Hp) (t L:Addr) (x:Int) (prs:Prs) (m:Nat) (σ:L2.St) (H3:Hp):Prop
 |mk (r p:Nat) (rr qq:Int) (cs:Cs) (o5:Option V) (h1:m=(prs.length - r)+p) (h2:r<=prs.length) (h3:p<=w0 prs) (h4:rr=(r:Nat)) (h5:qq=(p:Nat) - 1) (h6:σ = [some (.ref t),some (.int x),some (.ref L),some (.int rr),some (.int qq),o5]) (h7:Same H H3) (h8:H3 L=some (.lst (cs.map Zce)))
  (h9:∀ c∈cs,Za0 H3 c/\H c.1=none) (h10:cs.map (·.2) ++ ZcC prs x m r p=Zg7 prs x) (h11:cs.length+m<=12):WfA H t L x prs m σ H3
theorem ZoV (T:Blt mg) (D:Zah K mg "walk_for" Zpr ["table","x"]) (G1:FnAt P w K mg base 6 "need_table" ["thing"] ZaH) (G2:FnAt P w K mg base 2 "need_number" ["thing"] Za2):FnAt P w K mg base 7 "walk_for" ["table","x"] ZhV:=by
 refine fao D sc_walk (λvs H Q E h=>?_) (λf g A o s H vs Q E hr h=>?_)
 ·obtain ⟨t,prs,x,rfl,_⟩:=h;rfl
 ·obtain ⟨t,prs,x,rfl,hT,hg,q⟩:=h;obtain ⟨g,g1,g2,g3,g4⟩:=ZaF hg;obtain ⟨p0,hp0,hm0,hx0⟩:=Zbg (prs:=prs) g1;have nd:=sc_walk.nd;refine ⟨_,Zaa (Zaq (pe_f G1 hr (pa1 (pv 0)))) (Zaa (Zaq (pe_f G2 (hr.mono (by decide)) (pa1 (pv 1))))
   (Zaa (Zal (i:=2) nd rfl (Or.inl rfl) (ZaN ZaT)) (Zaa (Zal (i:=3) nd rfl (Or.inl rfl) Zae)
   (Zaa (Zal (i:=4) nd rfl (Or.inl rfl) (Zan Zb4 (pln T (pix Zaj (pv 0) Zae)) Zae))
   (Zaa (Zia PassesOwn.never (PW.pt (Zgi (pcm o_lt (pv 3) (pln T (pv 0))) (Zfh (pcm o_ge (pv 4) Zae))))
    (Zaa (Zaq (ZcK YaS YaU YaV Za7 (pv 2) (pa1 (ZaD (Zab (pv 3) (pa1 (pv 4)))))))
    (Zaa (Zal (i:=5) nd rfl (Or.inl rfl) (pix Zaj (pix Zaj (pv 0) (pv 3)) (pv 4)))
    (Zaa (Zbn (pcm Zdy (pv 1) (pv 5)) (Zaf ZmA) ZaI)
    (Zaf (Zbn (pcm o_lt (pv 1) (pv 5)) (Zaf (Zkd (i:=4) nd rfl (Or.inl rfl) Zae ZqF)) (Zaf (Zkd (i:=3) nd rfl (Or.inl rfl) Zae ZqG))))))))
   (Zaf (Zak (pv 2)))))))),?_⟩
  refine ⟨_,rfl,t,prs,rfl,hT,Zao hg,hg,λH1 s1=>⟨_,rfl,x,rfl,len0,λL hL=>?_⟩⟩;have L0:H L=none:=s1.free hL;have s2:Same H (upd H1 L (.lst [])):=s1.trans (snw hL);have e2:(upd H1 L (.lst [])) L=some (.lst []):=Zac;generalize upd H1 L (.lst [])=H2 at s2 e2 ⊢;have hT2:=hT.same s2;refine ⟨_,rfl,t,_,0,.ref p0.1,rfl,rfl,hT2.sq,Zaz (j:=0) (by rw [Yaf,hx0];rfl),p0.1,_,rfl,.inl (hT2.r p0 hm0).sq,_,_,rfl,rfl,?_⟩;rw [Yaa,g.len p0 hm0];refine ⟨WfA H t L x prs,⟨_,0,w0 prs,0,_,[],none,rfl,by omega,by omega,rfl,rfl,rfl,s2,e2,λc hc=>(nomatch hc),rfl,by simp;omega⟩,?_⟩;rintro m σ H3 ⟨r,p,rr,qq,cs,o5,hm,hr1,hp1,hrr,hqq,rfl,sm,hLl,hcs,hcw,hcl⟩;have hT3:=hT.same sm;have fin:¬ (r<prs.length/\0<p)->Q (.ref L) H3:=λhn=>by
   rw [ZeD hn,List.append_nil] at hcw;exact q L cs H3 L0 sm hLl hcs hcw
  refine ⟨_,rfl,_,rfl,t,_,rfl,.inl hT3.sq,_,_,rfl,rfl,_,rfl,?_⟩;rw [Yaa];refine ite2 (λh1=>?_) (λh1=>?_)
  rotate_left
  ·refine iteF ⟨_,rfl,fin λz=>h1 (Ya4 (by omega))⟩
  have h1':=of_decide_eq_true h1;have hrl:r<prs.length:=by omega
  clear h1';refine ⟨_,rfl,_,_,rfl,rfl,_,rfl,ite2 (λh2=>?_) (λh2=>?_)⟩
  rotate_left
  ·exact ⟨_,rfl,fin λz=>h2 (Ya4 (by omega))⟩
  have h2:=of_decide_eq_true h2;obtain ⟨k,rfl⟩:∃ k,p=k+1:=⟨p - 1,by omega⟩;have hk:qq=(k:Nat):=by omega
  subst hk hrr;obtain ⟨mm,rfl⟩:∃ mm,m=mm+1:=⟨m - 1,by omega⟩;rw [ZeE hrl (by omega),Nat.add_sub_cancel] at hcw;refine ⟨_,λ_ _ hh=>hh,⟨_,rfl,.inl ⟨rfl,_,sqo hLl⟩,_,rfl,_,rfl,len2,λT1 hT1=>?_⟩⟩;have s3:Same H3 (upd H3 T1 (.tup [.int (r:Nat),.int (k:Nat)])):=snw hT1;have e3:Za0 (upd H3 T1 (.tup [.int (r:Nat),.int (k:Nat)])) (T1,r,k):=Zac;generalize upd H3 T1 (.tup [.int (r:Nat),.int (k:Nat)])=H4 at s3 e3 ⊢;have hL4:=s3 _ _ hLl;refine ⟨L,_,_,rfl,rfl,hL4,by rw [Yaa];exact Zav (by omega),?_⟩;have e5:(upd H4 L (.lst (cs.map Zce ++ [.ref T1]))) L=some (.lst ((cs ++ [(T1,r,k)]).map Zce)):=by
   rw [Zac,Yah];rfl
  have s5:Same H (upd H4 L (.lst (cs.map Zce ++ [.ref T1]))):=(sm.trans s3).upd L0;have c5:∀ c∈cs ++ [(T1,r,k)],Za0 (upd H4 L (.lst (cs.map Zce ++ [.ref T1]))) c/\H c.1=none:=λc hc=>by
   have h4:Za0 H4 c/\H c.1=none:=by
    rcases YaG.mp hc with z | z
    ·exact ⟨s3 _ _ (hcs c z).1,(hcs c z).2⟩
    ·have:c=(T1,r,k):=by simpa using z
     subst this;exact ⟨e3,sm.free hT1⟩
   refine ⟨?_,h4.2⟩;unfold Za0;rw [Zag (ZfR h4.1 hL4)];exact h4.1
  generalize upd H4 L (.lst (cs.map Zce ++ [.ref T1]))=H5 at e5 s5 c5 ⊢;have hT5:=hT.same s5;obtain ⟨pr,hp1',hp2,hp3⟩:=ZaA hrl;have hpl:=g.len pr hp1';have ev:valN prs r k=pr.2.getD k 0:=by
   unfold valN;rw [hp3]
  refine ⟨_,rfl,_,rfl,t,_,_,.ref pr.1,rfl,rfl,hT5.sq,Zaz (by rw [Yaf,hp2];rfl),_,rfl,pr.1,_,_,.int (pr.2.getD k 0),rfl,rfl,(hT5.r pr hp1').sq,ZaW (by omega),?_⟩;rw [<- ev];generalize valN prs r k=n at hcw;refine ⟨_,rfl,_,rfl,rfl,_,rfl,?_⟩
  by_cases hx:n=x
  ·rw [Ya4 (by rw [hx])];refine iteT ⟨_,rfl,q L _ H5 L0 s5 e5 c5 ?_⟩;rw [Ya7 hx] at hcw;rw [Yah];exact hcw
  ·rw [Ya5 (by intro z;injection z with z;exact hx z.symm)];rw [Ya6 hx] at hcw;refine iteF ⟨_,rfl,_,rfl,_,_,rfl,rfl,_,rfl,ite2 (λh3=>?_) (λh3=>?_)⟩
   ·have h3:=of_decide_eq_true h3;rw [Ya7 h3] at hcw;refine ⟨_,rfl,_,_,rfl,rfl,mm,by omega,r,k,_,_,cs ++ [(T1,r,k)],_,by omega,hr1,by omega,rfl,rfl,rfl,s5,e5,c5,?_,?_⟩
    ·rw [Yah,List.append_assoc];exact hcw
    ·rw [Yak,YaI];omega
   ·have h3:¬ x<n:=λz=>h3 (Ya4 z);rw [Ya6 h3] at hcw;refine ⟨_,rfl,_,_,rfl,rfl,mm,by omega,r+1,k+1,_,_,cs ++ [(T1,r,k)],_,by omega,by omega,hp1,rfl,by omega,rfl,s5,e5,c5,?_,?_⟩
    ·rw [Yah,List.append_assoc];exact hcw
    ·rw [Yak,YaI];omega
def Zhc:Sp:=λvs H Q _=>∃ (t:Addr) (prs:Prs) (x:Int),vs=[.ref t,.int x]/\Tab H t prs/\tabB prs=true/\∀ v H',Same H H'->IsCellO H' v (ZjA prs x)->Q v H'
theorem sc_found:FnScope ["table","x","last"] ["table","x"] (Zad Zlw):=scm
theorem Zm3 (D:Zah K mg "found_at" Zlw ["table","x"]) (G1:FnAt P w K mg base 7 "walk_for" ["table","x"] ZhV) (G2:FnAt P w K mg base 7 "number_at" ["table","cell"] ZbF):FnAt P w K mg base 8 "found_at" ["table","x"] Zhc:=by
 refine fao D sc_found (λvs H Q E h=>?_) (λf g A o s H vs Q E hr h=>?_)
 ·obtain ⟨t,prs,x,rfl,_⟩:=h;rfl
 ·obtain ⟨t,prs,x,rfl,hT,hg,q⟩:=h;obtain ⟨g,g1,g2,g3,g4⟩:=ZaF hg;have nd:=sc_found.nd;refine ⟨_,Zaa (Zal (i:=2) nd rfl (Or.inl rfl) (pix Zaj (pe_f G1 hr (Zab (pv 0) (pa1 (pv 1)))) (Zfl Zfs Zae)))
   (Zaf (Zak (Zfm (pcm Zdy (pe_f G2 hr (Zab (pv 0) (pa1 (pv 2)))) (pv 1)) (pv 2) ZbK))),?_⟩
  refine ⟨_,rfl,_,rfl,t,prs,x,rfl,hT,hg,λL cs H1 hL s1 hLl hcs hcm=>?_⟩;obtain ⟨c0,hc0,hf0⟩:=Zjz x g1 g3;rw [<- hcm,List.getLast?_map] at hc0;obtain ⟨cc,hcc,rfl⟩:∃ cc,cs.getLast? = some cc/\cc.2=c0:=by
   cases e:cs.getLast? with
   |none=>rw [e] at hc0;cases hc0
   |some cc=>rw [e] at hc0;exact ⟨cc,rfl,Yae hc0⟩
  obtain ⟨cs',rfl⟩:=List.getLast?_eq_some_iff.mp hcc;have hcA:=(hcs cc (by simp)).1;have hin:=Ze4 prs x _ _ _ cc.2 (by
   show cc.2∈Zg7 prs x;rw [<- hcm]
   simp)
  refine ⟨_,rfl,L,_,_,.ref cc.1,rfl,rfl,sqo hLl,by rw [Yah];exact L2.ZfV _ _,?_⟩;refine ⟨_,rfl,_,rfl,t,cc.1,prs,cc.2.1,cc.2.2,rfl,hT.same s1,hg,hcA,hin.1,hin.2,λH2 s2=>⟨_,rfl,rfl,_,rfl,?_⟩⟩;have ev:(Zat prs cc.2.1).getD cc.2.2 0=valN prs cc.2.1 cc.2.2:=rfl;rw [ev]
  by_cases hx:valN prs cc.2.1 cc.2.2=x
  ·rw [Ya4 (by rw [hx])];rw [Ya7 hx] at hf0;refine iteT ⟨_,rfl,q _ H2 (s1.trans s2) ?_⟩;rw [hf0];exact ⟨cc.1,rfl,s2 _ _ hcA⟩
  ·rw [Ya5 (by intro z;injection z with z;exact hx z)];rw [Ya6 hx] at hf0;refine iteF (q _ H2 (s1.trans s2) ?_);rw [hf0];exact rfl
end
open PySem L2 PyProof.Rows
theorem ZbZ {α:Type}{lt:α->α->Bool} (tot:∀ a b,lt a b=false->lt b a=false->a=b):∀ {xs ys:List α},xs.Perm ys->xs.Pairwise (λr q=>lt q r=false)->ys.Pairwise (λr q=>lt q r=false)->xs=ys
 | [],ys,h,_,_=>(List.nil_perm.mp h).symm
 |a :: xs,[],h,_,_=>by have:=h.length_eq;simp at this
 |a :: xs,b :: ys,h,h1,h2=>by
  rw [List.pairwise_cons] at h1 h2;have e:a=b:=by
   have ha:a∈b :: ys:=h.subset (by simp);have hb:b∈a :: xs:=h.symm.subset (by simp);rcases YaF.mp ha with z | z
   ·exact z
   ·rcases YaF.mp hb with y | y
    ·exact y.symm
    ·exact tot a b (h2.1 a z) (h1.1 b y)
  subst e;rw [ZbZ tot (List.perm_cons a |>.mp h) h1.2 h2.2]
theorem Zki {xs ys:List Int} (x:Int) (h:xs.Perm ys):lessN x xs=lessN x ys:=(h.filter _).length_eq
theorem Zkh {xs ys:List Int} (x:Int) (h:xs.Perm ys):mostN x xs=mostN x ys:=(h.filter _).length_eq
def entR (i:Nat) (ns:List Int) (k:Nat):List (List Int):=(List.range k).map λj=>[ns.getD j 0,(i:Int),(j:Int)]
def Zbq (prs:Prs):Nat->List (List Int)
 | 0=>[]
 |i+1=>Zbq prs i ++ entR i (Zat prs i) (Zat prs i).length
theorem Zlk (i:Nat) (ns:List Int) (k:Nat):entR i ns (k+1)=entR i ns k ++ [[ns.getD k 0,(i:Int),(k:Int)]]:=by
 unfold entR;rw [List.range_succ,Yah];rfl
theorem Zis (i:Nat) (ns:List Int) (k:Nat):(entR i ns k).length=k:=by
 unfold entR;rw [Yaa,List.length_range]
theorem ZbH {prs:Prs}{e:List Int}:∀ {i:Nat},e∈Zbq prs i->∃ n r p:Int,e=[n,r,p]
 | 0,h=>nomatch h
 |i+1,h=>by
  rcases YaG.mp h with z | z
  ·exact ZbH z
  ·obtain ⟨j,_,rfl⟩:=Yar.mp z;exact ⟨_,_,_,rfl⟩
def hdI (e:List Int):Int:=e.getD 0 0
theorem Zi0:∀ ns:List Int,(List.range ns.length).map (λj=>ns.getD j 0)=ns:=λns=>by
 apply List.ext_getElem (by simp);intro i h1 h2;simp [h2]
theorem Zjp (i:Nat) (ns:List Int):(entR i ns ns.length).map hdI=ns:=by
 unfold entR;rw [Yau];exact Zi0 ns
theorem Zdu (prs:Prs):∀ i,i<=prs.length->(Zbq prs i).map hdI=ZbB (prs.take i)
 | 0,_=>by simp [Zbq,ZbB]
 |i+1,h=>by
  have ih:=Zdu prs i (by omega);show (Zbq prs i ++ _).map hdI=_;rw [Yah,ih,Zjp];unfold ZbB Zat;rw [List.take_add_one,Yac (by omega),Yah,List.flatten_append];simp
theorem Zem (prs:Prs):(Zbq prs prs.length).map hdI=ZbB prs:=by
 rw [Zdu prs _ (Yag _),List.take_length]
theorem ZkU {e f:List Int} (he:∃ n r p:Int,e=[n,r,p]) (hf:∃ n r p:Int,f=[n,r,p]) (h:HT.lexLt f e=false):hdI e<=hdI f:=by
 obtain ⟨n,r,p,rfl⟩:=he;obtain ⟨m,r',p',rfl⟩:=hf;rw [HT.lexLt_cons] at h;show n<=m
 by_cases z:m=n
 ·omega
 ·rw [Ya6 z] at h;have:=of_decide_eq_false h;omega
structure Sorted (prs:Prs) (fs:List (List Int)):Prop where
 pm:fs.Perm (Zbq prs prs.length)
 up:fs.Pairwise (λr q=>HT.lexLt q r=false)
theorem Sorted.heads {prs:Prs}{fs:List (List Int)} (h:Sorted prs fs):(fs.map hdI).Perm (ZbB prs)/\(fs.map hdI).Pairwise (·<=·):=by
 refine ⟨?_,?_⟩
 ·rw [<- Zem];exact h.pm.map hdI
 ·rw [List.pairwise_map];refine List.Pairwise.imp_of_mem (λ{a b} ha hb z=>?_) h.up;exact ZkU (ZbH (h.pm.subset ha)) (ZbH (h.pm.subset hb)) z
theorem Sorted.same {prs:Prs}{fs gs:List (List Int)} (h:Sorted prs fs) (g:Sorted prs gs):fs=gs:=ZbZ SrtT.lex_tot (h.pm.trans g.pm.symm) h.up g.up
theorem Zel {prs qs:Prs} (h:qs.map (·.2)=prs.map (·.2)):∀ i,Zbq qs i=Zbq prs i
 | 0=>rfl
 |i+1=>by
  have e:Zat qs i=Zat prs i:=by
   unfold Zat;rw [<- Yaf,<- Yaf,h]
  show Zbq qs i ++ _=Zbq prs i ++ _;rw [Zel h i,e]
theorem Sorted.rows {prs qs:Prs}{fs:List (List Int)} (h:qs.map (·.2)=prs.map (·.2)) (s:Sorted qs fs):Sorted prs fs:=by
 have hl:qs.length=prs.length:=by
  have:=congrArg List.length h;simpa using this
 refine ⟨?_,s.up⟩;have:=s.pm;rw [Zel h,hl] at this;exact this
theorem ZgN {prs:Prs}{wide:Nat} (h:∀ p∈prs,p.2.length=wide):(ZbB prs).length=prs.length * wide:=by
 induction prs with
 |nil=>simp [ZbB]
 |cons p r ih =>
  rw [Zdf,Yak,h p (by simp),ih λq hq=>h q (by simp [hq]),YaC,Nat.add_mul,Nat.one_mul,Nat.add_comm]
theorem Sorted.len {prs:Prs}{fs:List (List Int)} (s:Sorted prs fs):fs.length=(ZbB prs).length:=by
 have:=s.heads.1.length_eq;rw [Yaa] at this;exact this
open PySem L2 PyProof.Rows
section
variable {P:Program}{w:World}{K:Yab}{mg:Str->Option Value}{base:Heap}
def ZjP:Sp:=λvs H Q _=>∃ (t:Addr) (prs:Prs),vs=[.ref t]/\Tab H t prs/\tabB prs=true/\Q (.int ((prs.length:Int) * (w0 prs:Int))) H
theorem Zoy:FnScope ["table"] ["table"] (Zad Zpt):=scm
theorem Zo1 (T:Blt mg) (D:Zah K mg "how_many_cells" Zpt ["table"]):FnAt P w K mg base 1 "how_many_cells" ["table"] ZjP:=by
 refine fao D Zoy (λvs H Q E h=>?_) (λf g A o s H vs Q E hr h=>?_)
 ·obtain ⟨t,prs,rfl,_⟩:=h;rfl
 ·obtain ⟨t,prs,rfl,hT,hg,q⟩:=h;obtain ⟨g,g1,g2,g3,g4⟩:=ZaF hg;obtain ⟨p0,hp0,hm0,hx0⟩:=Zbg (prs:=prs) g1;refine ⟨_,Zaf (Zak (Zan Zdz (pln T (pv 0)) (pln T (pix Zaj (pv 0) Zae)))),?_⟩;refine ⟨_,rfl,t,_,rfl,.inl hT.sq,_,rfl,t,_,0,.ref p0.1,rfl,rfl,hT.sq,Zaz (j:=0) (by rw [Yaf,hx0];rfl),p0.1,_,rfl,.inl (hT.r p0 hm0).sq,_,_,rfl,rfl,.inl ⟨by omega,by rw [Yaa];omega⟩,?_⟩;rw [Yaa,Yaa,g.len p0 hm0];exact q
def Ze7:Sp:=λvs H Q _=>∃ (t:Addr) (prs:Prs),vs=[.ref t]/\Tab H t prs/\tabB prs=true /\
 ∀ L (es:Es) H',H L=none->Same H H'->H' L=some (.lst (es.map λe=>V.ref e.1))->(∀ e∈es,EntAt H' e/\H e.1=none)->Sorted prs (es.map (·.2))->Q (.ref L) H'
theorem sc_merged:FnScope ["table","entries","row","numbers"] ["table"] (Zad ZfH):=scm
theorem Zku (T:Blt mg) (hso:mg "sorted" = none) (D:Zah K mg "merged" ZfH ["table"]) (G1:FnAt P w K mg base 6 "need_table" ["thing"] ZaH):FnAt P w K mg base 7 "merged" ["table"] Ze7:=by
 refine fao D sc_merged (λvs H Q E h=>?_) (λf g A o s H vs Q E hr h=>?_)
 ·obtain ⟨t,prs,rfl,_⟩:=h;rfl
 ·obtain ⟨t,prs,rfl,hT,hg,q⟩:=h;obtain ⟨g,g1,g2,g3,g4⟩:=ZaF hg;have hs:=Zao hg;have nd:=sc_merged.nd;have nd1:(["place","number","row"]:List Str).Nodup:=by decide +kernel
  refine ⟨_,Zaa (Zaq (pe_f G1 hr (pa1 (pv 0))))
   (Zaa (Zal (i:=1) nd rfl (Or.inl rfl) (ZaN ZaT))
   (Zaa (Zbi PassesOwn.never rfl (Zdb rfl T.enum (pa1 (pv 0))) (ZcR rfl (ZaS (Zax (i:=2) nd rfl (Or.inr rfl)) (ZaS (Zax (i:=3) nd rfl (Or.inl rfl)) Zb3)))
    (Zaf (Zaq (ZcK YaS PySem.F.slot_list_extend PySem.F.type_list_extend Zck (pv 1) (Zab
     (Zar ["place","number","row"] [none,none,some 2] (Zad ZfH) ["table","entries","row","numbers"] rfl (Zdb rfl T.enum (pa1 (pv 3))) (by decide +kernel)
      (λ_ _ _ _ _=>Zgm K rfl nd1) (λ_ _ _ _ _=>Zam) (λ_ _ _ _ _=>ZaD (Zab (pv 1) (Zab (pv 2) (pa1 (pv 0)))))) ZaT)))))
   (Zaf (Zak (pe_b (ZbR hr.units) hso boot_sorted (pa1 (pv 1))))))),?_⟩
  refine ⟨_,rfl,t,prs,rfl,hT,hs,hg,λH1 s1=>⟨len0,λL hL=>?_⟩⟩;have L0:H L=none:=s1.free hL;have s2:Same H (upd H1 L (.lst [])):=s1.trans (snw hL);refine ⟨_,rfl,t,rfl,⟨_,(hT.same s2).sq⟩,Zin (K:=K) (a:=t) (xs:=prs.map λp=>V.ref p.1) (λi σ H2=>∃ (cs:Es) (o2 o3:Option V),σ = [some (.ref t),some (.ref L),o2,o3]/\Same H H2/\H2 L=some (.lst (cs.map λe=>V.ref e.1)) /\
   (∀ c∈cs,EntAt H2 c/\H c.1=none)/\cs.map (·.2)=Zbq prs i/\cs.length<=6 * i)
   ⟨[],none,none,rfl,s2,Zac,λc hc=>(nomatch hc),rfl,by simp⟩ (λi σ H2 _ ⟨_,_,_,_,sm,_⟩=>(hT.same sm).sq) ?_ ?_⟩
  ·rintro i y σ H2 T1 hi ⟨cs,o2,o3,rfl,sm,hLl,hcs,hcm,hcl⟩ hT1;have hil:i<prs.length:=by
    have:=(Yai.mp hi).1;rw [Yaa] at this;exact this
   obtain ⟨p,hp1,hp2,hp3⟩:=ZaA hil;rw [Yaf,hp2] at hi;have hy:V.ref p.1=y:=Yae hi;subst hy;have hpl:=g.len p hp1;have smT:Same H2 (upd H2 T1 (.tup [.int (i:Nat),.ref p.1])):=snw hT1;have eT:(upd H2 T1 (.tup [.int (i:Nat),.ref p.1])) T1=some (.tup [.int (i:Nat),.ref p.1]):=Zac;generalize upd H2 T1 (.tup [.int (i:Nat),.ref p.1])=H3 at smT eT ⊢;refine ⟨T1,_,rfl,sqt eT,rfl,_,_,rfl,_,_,rfl,rfl,?_⟩;have sm3:=sm.trans smT;have hR3:=(hT.same sm3).r p hp1;have hL3:=smT _ _ hLl;refine ⟨_,rfl,.inl ⟨rfl,_,sqo hL3⟩,_,rfl,p.1,rfl,⟨_,hR3.sq⟩,?_⟩;refine Zex (xs:=p.2.map V.int) (λD2 k ys H'=>∃ qs:Es,Same H3 H'/\H' D2=some (.lst ys)/\ys=(qs.map λe=>V.ref e.1)/\(∀ c∈qs,EntAt H' c/\H3 c.1=none/\c.1≠D2)/\qs.map (·.2)=entR i p.2 k)
    (λD2 hD2=>⟨[],snw hD2,Zac,rfl,λc hc=>(nomatch hc),rfl⟩) (λD2 k ys H' _ _ ⟨_,sm',e,_⟩=>⟨e,(hR3.same sm').sq⟩) ?_ ?_
   ·rintro D2 k z ys H' T2 hD2 hz ⟨qs,sm',eD,hys,hqs,hqm⟩ hT2;have hkl:k<p.2.length:=by
     have:=(Yai.mp hz).1;rw [Yaa] at this;exact this
    have ez:z=.int (p.2.getD k 0):=by
     rw [Yaf,Yac hkl] at hz;rw [Yat,Yac hkl];exact (Yae hz).symm
    subst ez;have smT2:Same H' (upd H' T2 (.tup [.int (k:Nat),.int (p.2.getD k 0)])):=snw hT2;generalize upd H' T2 (.tup [.int (k:Nat),.int (p.2.getD k 0)])=H4 at smT2 ⊢;have ql:qs.length=k:=by
     have:=congrArg List.length hqm;rw [Yaa,Zis] at this;exact this
    unfold Zbu;refine iteT ⟨_,rfl,_,rfl,_,rfl,len3,λT3 hT3=>?_⟩;have nT3:D2≠T3:=Zai (smT2 _ _ eD) hT3;have s3T:Same H4 (upd H4 T3 (.tup [.int (p.2.getD k 0),.int (i:Nat),.int (k:Nat)])):=snw hT3;refine ⟨s3T _ _ (smT2 _ _ eD),?_,qs ++ [(T3,[p.2.getD k 0,(i:Int),(k:Int)])],((sm'.trans smT2).trans s3T).upd hD2,Zac,?_,λc hc=>?_,?_⟩
    ·rw [hys,Yaa];exact Zav (by omega)
    ·rw [hys,Yah];rfl
    ·rcases YaG.mp hc with z | z
     ·obtain ⟨z1,z2,z3⟩:=hqs c z;refine ⟨?_,z2,z3⟩;unfold EntAt;rw [Zag z3];exact s3T _ _ (smT2 _ _ z1)
     ·have:c=(T3,[p.2.getD k 0,(i:Int),(k:Int)]):=by simpa using z
      subst this;refine ⟨?_,(sm'.trans smT2).free hT3,Ne.symm nT3⟩;unfold EntAt;rw [Zag (Ne.symm nT3)];exact Zac
    ·rw [Yah,hqm,Zlk];rfl
   ·rintro D2 ys H' hD2 ⟨qs,sm',eD,hys,hqs,hqm⟩;rw [Yaa] at hqm;have ql:qs.length=p.2.length:=by
     have:=congrArg List.length hqm;rw [Yaa,Zis] at this;exact this
    have hL4:=sm' _ _ hL3;refine ⟨L,D2,_,_,rfl,rfl,hL4,eD,?_,?_⟩
    ·rw [Yaa,hys,Yaa];exact sl6 (by omega)
    ·refine ⟨cs ++ qs,_,_,rfl,(sm3.trans sm').upd L0,?_,λc hc=>?_,?_,?_⟩
     ·rw [Zac,hys,Yah]
     ·have nL:∀ c:Addr × List Int,EntAt H' c->c.1≠L:=λc h=>Zhy h hL4 (by intro z;cases z);rcases YaG.mp hc with z | z
      ·obtain ⟨z1,z2⟩:=hcs c z;have z3:EntAt H' c:=sm' _ _ (smT _ _ z1);refine ⟨?_,z2⟩;unfold EntAt;rw [Zag (nL c z3)];exact z3
      ·obtain ⟨z1,z2,z3⟩:=hqs c z;refine ⟨?_,sm3.free z2⟩;unfold EntAt;rw [Zag (nL c z1)];exact z1
     ·rw [Yah,hcm,hqm];show _=Zbq prs i ++ _;rw [hp3]
     ·rw [Yak];omega
  ·rintro σ H2 ⟨cs,o2,o3,rfl,sm,hLl,hcs,hcm,hcl⟩;rw [Yaa] at hcm hcl;refine ⟨_,rfl,L,cs,rfl,sqo hLl,by omega,λc hc=>⟨sqt (hcs c hc).1,?_⟩,λD rs' hD hpm hup=>?_⟩
   ·have:c.2∈Zbq prs prs.length:=by
     rw [<- hcm];exact Yar.mpr ⟨c,hc,rfl⟩
    obtain ⟨n,r,p,e⟩:=ZbH this;rw [e];exact Nat.succ_pos _
   ·refine q D rs' _ (sm.free hD) (sm.trans (snw hD)) Zac (λe he=>?_) ⟨?_,?_⟩
    ·obtain ⟨z1,z2⟩:=hcs e (hpm.subset he);exact ⟨(snw hD) _ _ z1,z2⟩
    ·rw [<- hcm];exact hpm.map _
    ·rw [List.pairwise_map];exact hup
def ZdS:Sp:=λvs H Q _=>∃ (t:Addr) (prs:Prs) (k:Nat),vs=[.ref t,.int (k:Nat)]/\Tab H t prs/\tabB prs=true/\k<prs.length * w0 prs/\Q .non H
theorem Zgd:FnScope ["table","thing"] ["table","thing"] (Zad Zdk):=scm
theorem Zgs (D:Zah K mg "need_place" Zdk ["table","thing"]) (G1:FnAt P w K mg base 1 "is_whole" ["thing"] ZbI) (G2:FnAt P w K mg base 1 "how_many_cells" ["table"] ZjP):FnAt P w K mg base 2 "need_place" ["table","thing"] ZdS:=by
 refine fao D Zgd (λvs H Q E h=>?_) (λf g A o s H vs Q E hr h=>?_)
 ·obtain ⟨t,prs,k,rfl,_⟩:=h;rfl
 ·obtain ⟨t,prs,k,rfl,hT,hg,hk,q⟩:=h;refine ⟨_,Zaf (Zbn (PW.pt (Zbv (ZaC (ZaB (pe_f G1 hr (pa1 (pv 1))))) (Zbo (ZaC (ZdC o_le o_lt Zae (pv 1) (pe_f G2 hr (pa1 (pv 0)))))))) ZaX ZaI),?_⟩;refine ⟨_,rfl,_,rfl,_,rfl,iteF ⟨_,rfl,_,_,rfl,rfl,_,rfl,?_⟩⟩;rw [Ya4 (show (0:Int)<=(k:Nat) by omega)];refine iteT ⟨_,rfl,t,prs,rfl,hT,hg,_,_,rfl,rfl,_,rfl,?_⟩;rw [Ya4 (show ((k:Nat):Int)<(prs.length:Int) * (w0 prs:Int) by rw [<- Int.natCast_mul];omega)];exact iteF q
def Zcs:Sp:=λvs H Q _=>∃ (t:Addr) (prs:Prs) (k:Nat),vs=[.ref t,.int (k:Nat)]/\Tab H t prs/\tabB prs=true/\k<prs.length * w0 prs/\∀ fs H',Same H H'->Sorted prs fs->Q (.int (hdI (fs.getD k []))) H'
theorem Zhd:FnScope ["table","k"] ["table","k"] (Zad Zeo):=scm
theorem Zhl (D:Zah K mg "number_by" Zeo ["table","k"]) (G1:FnAt P w K mg base 6 "need_table" ["thing"] ZaH) (G2:FnAt P w K mg base 2 "need_place" ["table","thing"] ZdS) (G3:FnAt P w K mg base 7 "merged" ["table"] Ze7):FnAt P w K mg base 8 "number_by" ["table","k"] Zcs:=by
 refine fao D Zhd (λvs H Q E h=>?_) (λf g A o s H vs Q E hr h=>?_)
 ·obtain ⟨t,prs,k,rfl,_⟩:=h;rfl
 ·obtain ⟨t,prs,k,rfl,hT,hg,hk,q⟩:=h;obtain ⟨g,g1,g2,g3,g4⟩:=ZaF hg;refine ⟨_,Zaa (Zaq (pe_f G1 (hr.mono (by decide)) (pa1 (pv 0)))) (Zaa (Zaq (pe_f G2 (hr.mono (by decide)) (Zab (pv 0) (pa1 (pv 1)))))
   (Zaf (Zak (pix ZaJ (pix Zaj (pe_f G3 hr (pa1 (pv 0))) (pv 1)) Zae)))),?_⟩
  refine ⟨_,rfl,t,prs,rfl,hT,Zao hg,hg,λH1 s1=>⟨_,rfl,_,rfl,t,prs,k,rfl,hT.same s1,hg,hk,?_⟩⟩;refine ⟨_,rfl,t,prs,rfl,hT.same s1,hg,λL es H2 hL s2 hLl hes hso=>?_⟩;have hl:es.length=prs.length * w0 prs:=by
   have:=hso.len;rw [Yaa,ZgN g.len] at this;exact this
  have hk2:k<es.length:=by omega
  have he:=(hes es[k] (YaL hk2)).1;obtain ⟨n,r,p,e3⟩:∃ n r p:Int,es[k].2=[n,r,p]:=ZbH (hso.pm.subset (Yar.mpr ⟨es[k],YaL hk2,rfl⟩));unfold EntAt at he;rw [e3] at he;refine ⟨_,rfl,L,_,_,.ref es[k].1,rfl,rfl,sqo hLl,Zaz (by simp [hk2]),es[k].1,_,0,.int n,rfl,rfl,sqt he,rfl,?_⟩;have:=q (es.map (·.2)) H2 (s1.trans s2) hso;have e4:hdI ((es.map (·.2)).getD k [])=n:=by
   rw [Yat,Yaf,Yac hk2];show hdI es[k].2=n;rw [e3];rfl
  rw [e4] at this;exact this
end
open PySem L2 PyProof.Rows
section
variable {P:Program}{w:World}{K:Yab}{mg:Str->Option Value}{base:Heap}
def Zc6 (f:Int->List Int->Nat):Sp:=λvs H Q _=>∃ (t:Addr) (prs:Prs) (x:Int),vs=[.ref t,.int x]/\Tab H t prs/\tabB prs=true/\∀ H',Same H H'->Q (.int (f x (ZbB prs):Nat)) H'
theorem Zms:FnScope ["table","x"] ["table","x"] (Zad Zly):=scm
theorem Zm6 (hs:mg "sum" = none) (D:Zah K mg "count_less" Zly ["table","x"]) (G:FnAt P w K mg base 7 "stair_of" ["table","x"] (ZcI lessN)):FnAt P w K mg base 8 "count_less" ["table","x"] (Zc6 lessN):=by
 refine fao D Zms (λvs H Q E h=>?_) (λf g A o s H vs Q E hr h=>?_)
 ·obtain ⟨t,prs,x,rfl,_⟩:=h;rfl
 ·obtain ⟨t,prs,x,rfl,hT,hg,q⟩:=h;refine ⟨_,Zaf (Zak (pe_b (Zc1 rfl) hs boot_sum (pa1 (pe_f G hr (Zab (pv 0) (pa1 (pv 1))))))),?_⟩;refine ⟨_,rfl,_,rfl,t,prs,x,rfl,hT,Zao hg,hg,λD H' hD sm hR=>⟨D,_,rfl,hR.sq,?_⟩⟩;rw [ZgF];exact q H' sm
theorem Zmr:FnScope ["table","x"] ["table","x"] (Zad Zlx):=scm
theorem Zm5 (hs:mg "sum" = none) (D:Zah K mg "count_most" Zlx ["table","x"]) (G:FnAt P w K mg base 7 "high_stair" ["table","x"] (ZcI mostN)):FnAt P w K mg base 8 "count_most" ["table","x"] (Zc6 mostN):=by
 refine fao D Zmr (λvs H Q E h=>?_) (λf g A o s H vs Q E hr h=>?_)
 ·obtain ⟨t,prs,x,rfl,_⟩:=h;rfl
 ·obtain ⟨t,prs,x,rfl,hT,hg,q⟩:=h;refine ⟨_,Zaf (Zak (pe_b (Zc1 rfl) hs boot_sum (pa1 (pe_f G hr (Zab (pv 0) (pa1 (pv 1))))))),?_⟩;refine ⟨_,rfl,_,rfl,t,prs,x,rfl,hT,Zao hg,hg,λD H' hD sm hR=>⟨D,_,rfl,hR.sq,?_⟩⟩;rw [ZgD];exact q H' sm
def ZdW:Sp:=λvs H Q _=>∃ (t:Addr) (prs:Prs) (a b:Int),vs=[.ref t,.int a,.int b]/\Tab H t prs/\tabB prs=true/\∀ H',Same H H'->Q (.int (amidN a b (ZbB prs):Nat)) H'
theorem Zmt:FnScope ["table","a","b"] ["table","a","b"] (Zad Zlz):=scm
theorem Zm7 (T:Blt mg) (D:Zah K mg "count_from" Zlz ["table","a","b"]) (G1:FnAt P w K mg base 8 "count_less" ["table","x"] (Zc6 lessN)) (G2:FnAt P w K mg base 8 "count_most" ["table","x"] (Zc6 mostN)):FnAt P w K mg base 9 "count_from" ["table","a","b"] ZdW:=by
 refine fao D Zmt (λvs H Q E h=>?_) (λf g A o s H vs Q E hr h=>?_)
 ·obtain ⟨t,prs,a,b,rfl,_⟩:=h;rfl
 ·obtain ⟨t,prs,a,b,rfl,hT,hg,q⟩:=h;refine ⟨_,Zaf (Zak (pe_b (ZbX rfl) T.max boot_max (Zab Zae (pa1 (Zan Zb4 (pe_f G2 hr (Zab (pv 0) (pa1 (pv 2)))) (pe_f G1 hr (Zab (pv 0) (pa1 (pv 1))))))))),?_⟩;refine ⟨_,rfl,_,rfl,t,prs,b,rfl,hT,hg,λH1 s1=>⟨_,rfl,_,rfl,t,prs,a,rfl,hT.same s1,hg,λH2 s2=>⟨_,_,rfl,rfl,_,_,rfl,?_⟩⟩⟩;rw [ZnH];exact q H2 (s1.trans s2)
end
open PySem L2 PyProof.Rows
section
variable {P:Program}{w:World}{K:Yab}{mg:Str->Option Value}{base:Heap}
def ZhY:Sp:=λvs H Q _=>∃ (t:Addr) (prs:Prs),vs=[.ref t]/\Tab H t prs/\tabB prs=true/\∀ fs H',Same H H'->Sorted prs fs->Q (.int (hdI (fs.getD ((prs.length * w0 prs - 1) / 2) []))) H'
theorem Zj1:FnScope ["table"] ["table"] (Zad ZhG):=scm
theorem Zkt (D:Zah K mg "middle" ZhG ["table"]) (G1:FnAt P w K mg base 6 "need_table" ["thing"] ZaH) (G2:FnAt P w K mg base 8 "number_by" ["table","k"] Zcs) (G3:FnAt P w K mg base 1 "how_many_cells" ["table"] ZjP):FnAt P w K mg base 9 "middle" ["table"] ZhY:=by
 refine fao D Zj1 (λvs H Q E h=>?_) (λf g A o s H vs Q E hr h=>?_)
 ·obtain ⟨t,prs,rfl,_⟩:=h;rfl
 ·obtain ⟨t,prs,rfl,hT,hg,q⟩:=h;obtain ⟨g,g1,g2,g3,g4⟩:=ZaF hg;have hm:1 * 1<=prs.length * w0 prs:=Nat.mul_le_mul g1 g3;refine ⟨_,Zaa (Zaq (pe_f G1 (hr.mono (by decide)) (pa1 (pv 0))))
   (Zaf (Zak (pe_f G2 hr (Zab (pv 0) (pa1 (Zan Zhw (Zan Zb4 (pe_f G3 (hr.mono (by decide)) (pa1 (pv 0))) Zae) Zae)))))),?_⟩
  refine ⟨_,rfl,t,prs,rfl,hT,Zao hg,hg,λH1 s1=>⟨_,rfl,_,rfl,t,prs,rfl,hT.same s1,hg,_,_,rfl,rfl,_,_,rfl,rfl,⟨by decide,by decide⟩,t,prs,(prs.length * w0 prs - 1) / 2,?_,hT.same s1,hg,by omega,λfs H' s' hso=>q fs H' (s1.trans s') hso⟩⟩;have e:((prs.length:Int) * (w0 prs:Int) - 1) / 2=(((prs.length * w0 prs - 1) / 2:Nat):Int):=by
   rw [<- Int.natCast_mul];omega
  rw [e]
end
open PySem L2 PyProof.Rows
def But (s:Addr) (H H':Hp):Prop:=∀ b o,b≠s->H b=some o->H' b=some o
theorem But.refl (s:Addr) (H:Hp):But s H H:=λ_ _ _ e=>e
open PySem L2 PyProof.Rows
def setR (rows:List (List Int)) (i j:Nat) (x:Int):List (List Int):=rows.set i ((rows.getD i []).set j x)
section
variable {P:Program}{w:World}{K:Yab}{mg:Str->Option Value}{base:Heap}
def Ze8:Sp:=λvs H Q _=>∃ (t:Addr) (prs:Prs),vs=[.ref t]/\Tab H t prs/\Sm prs/\ZiL H Q (prs.map (·.2))
theorem Zj5:FnScope ["table"] ["table"] (Zad ZfL):=scm
theorem ZkB (T:Blt mg) (D:Zah K mg "copy_of" ZfL ["table"]):FnAt P w K mg base 1 "copy_of" ["table"] Ze8:=by
 refine fao D Zj5 (λvs H Q E h=>?_) (λf g A o s H vs Q E hr h=>?_)
 ·obtain ⟨t,prs,rfl,_⟩:=h;rfl
 ·obtain ⟨t,prs,rfl,hT,hs,q⟩:=h;have nd1:(["row"]:List Str).Nodup:=by decide +kernel
  refine ⟨_,Zaf (Zak (Zar ["row"] [none] (Zad ZfL) ["table"] rfl (Zau (pv 0)) (by decide +kernel)
   (λ_ _ _ _ _=>pg_c 0 nd1) (λ_ _ _ _ _=>Zam) (λ_ _ _ _ _=>pe_t (Zpd K) T.list boot_list (pa1 (pv 0))))),?_⟩
  refine ⟨_,rfl,t,rfl,⟨_,hT.sq⟩,Zdm (λp:Addr × List Int=>V.ref p.1) (λp=>.lst (p.2.map V.int)) hT.sq hs.1 (λp hp H' Q' sm q'=>⟨_,rfl,p.1,_,rfl,.inl ((hT.same sm).r p hp).sq,λl hl=>q' l _ hl (snw hl) Zac⟩) λM qs H2 hM hqm hnd hq s2 eM=>?_⟩;refine q M (qs.map λx=>(x.1,x.2.2)) H2 hM (λp hp=>?_) ?_ s2 ⟨?_,λp hp=>?_⟩ ?_
  ·obtain ⟨x,hx,rfl⟩:=Yar.mp hp;exact (hq x hx).2
  ·rw [Yau];exact hnd
  ·rw [eM,Yau];rfl
  ·obtain ⟨x,hx,rfl⟩:=Yar.mp hp;exact (hq x hx).1
  ·rw [Yau,<- hqm,Yau];rfl
def ZhU:Sp:=λvs H Q _=>∃ (t c:Addr) (prs:Prs) (i j:Nat) (x:Int),vs=[.ref t,.ref c,.int x]/\Tab H t prs/\Sm prs/\H c=some (.tup [.int (i:Nat),.int (j:Nat)])/\i<prs.length/\j<(Zat prs i).length/\ZiL H Q (setR (prs.map (·.2)) i j x)
theorem sc_with:FnScope ["table","cell","x","changed"] ["table","cell","x"] (Zad Zpq):=scm
theorem ZoU (D:Zah K mg "table_with" Zpq ["table","cell","x"]) (G:FnAt P w K mg base 1 "copy_of" ["table"] Ze8):FnAt P w K mg base 2 "table_with" ["table","cell","x"] ZhU:=by
 refine fao D sc_with (λvs H Q E h=>?_) (λf g A o s H vs Q E hr h=>?_)
 ·obtain ⟨t,c,prs,i,j,x,rfl,_⟩:=h;rfl
 ·obtain ⟨t,c,prs,i,j,x,rfl,hT,hs,hc,hi,hj,q⟩:=h;have nd:=sc_with.nd;refine ⟨_,Zaa (Zal (i:=3) nd rfl (Or.inl rfl) (pe_f G hr (pa1 (pv 0))))
   (Zaa (ZeT (pv 2) (Zkg (pix Zaj (pv 3) (pix ZaJ (pv 1) Zae)) (pix ZaJ (pv 1) Zae) Zfc))
   (Zaf (Zak (pv 3)))),?_⟩
  refine ⟨_,rfl,t,prs,rfl,hT,hs,λt' qs H1 ht' hqn hnd s1 hT1 hrows=>?_⟩;have hc1:=s1 _ _ hc;have hql:qs.length=prs.length:=by
   have:=congrArg List.length hrows;simpa using this
  have hiq:i<qs.length:=by omega
  have hqi:qs[i]? = some qs[i]:=Yac hiq;have mqi:qs[i]∈qs:=YaL hiq;have hri:qs[i].2=Zat prs i:=by
   have h1:(qs.map (·.2))[i]? = (prs.map (·.2))[i]?:=by rw [hrows]
   rw [Yaf,hqi,Yaf,Yac hi] at h1;have h2:qs[i].2=prs[i].2:=by simpa using h1
   rw [h2];unfold Zat;rw [Yac hi];rfl
  have hR:=hT1.r qs[i] mqi;refine ⟨_,rfl,_,rfl,_,rfl,c,_,0,.int (i:Nat),rfl,rfl,sqt hc1,rfl,t',_,_,.ref qs[i].1,rfl,rfl,hT1.sq,Zaz (by rw [Yaf,hqi];rfl),_,rfl,c,_,1,.int (j:Nat),rfl,rfl,sqt hc1,rfl,qs[i].1,_,_,j,rfl,rfl,hR,?_,_,rfl,?_⟩
  ·rw [Yaa,hri];unfold ixN;rw [Ya7 (by omega),Ya7 (by omega),Yav]
  rw [<- List.map_set];have hn:∀ p∈qs,p.1=qs[i].1->p=qs[i]:=λp hp e=>by
   obtain ⟨k,hk⟩:=List.mem_iff_getElem?.mp hp;have hkl:=(Yai.mp hk).1;have:k=i:=(List.getElem?_inj (l:=qs.map (·.1)) (by rw [Yaa];exact hkl) hnd).mp (by rw [Yaf,Yaf,hk,hqi];simp [e]);subst this;exact Yae (hk.symm.trans hqi)
  have key:∀ b o,b≠qs[i].1->H1 b=some o->(upd H1 qs[i].1 (.lst ((qs[i].2.set j x).map V.int))) b=some o:=λb o n e=>by rw [Zag n];exact e
  refine q t' (qs.set i (qs[i].1,qs[i].2.set j x)) _ ht' (λp hp=>?_) ?_ (λb o e=>key b o (λz=>?_) (s1 _ _ e)) ⟨?_,λp hp=>?_⟩ ?_
  ·rcases List.mem_or_eq_of_mem_set hp with z | z
   ·exact hqn p z
   ·rw [z];exact hqn qs[i] mqi
  ·have:(qs.set i (qs[i].1,qs[i].2.set j x)).map (·.1)=qs.map (·.1):=by
    rw [List.map_set];refine List.ext_getElem? λk=>?_;rw [List.getElem?_set];split
    ·next h =>
     subst h;rw [Yaa,Ya7 hiq,Yaf,hqi];rfl
    ·rfl
   rw [this];exact hnd
  ·rw [z,(hqn _ mqi).1] at e;cases e
  ·have:(qs.set i (qs[i].1,qs[i].2.set j x)).map (λp=>V.ref p.1)=qs.map λp=>V.ref p.1:=by
    rw [List.map_set];refine List.ext_getElem? λk=>?_;rw [List.getElem?_set];split
    ·next h =>
     subst h;rw [Yaa,Ya7 hiq,Yaf,hqi];rfl
    ·rfl
   rw [this];exact key _ _ (λz=>(hqn _ mqi).2 z.symm) hT1.l
  ·obtain ⟨k,hk⟩:=List.mem_iff_getElem?.mp hp;rw [List.getElem?_set] at hk
   by_cases h:i=k
   ·rw [Ya7 h,Ya7 hiq] at hk;rw [<- Yae hk];exact Zac
   ·rw [Ya6 h] at hk;have hkl:=(Yai.mp hk).1;refine key _ _ (λe=>h ?_) (hT1.r p (YaP hk));exact ((List.getElem?_inj (l:=qs.map (·.1)) (by rw [Yaa];exact hkl) hnd).mp (by rw [Yaf,Yaf,hk,hqi];simp [e])).symm
  ·rw [List.map_set,hrows];unfold setR;rw [show (prs.map (·.2)).getD i []=qs[i].2 by
    rw [hri];unfold Zat
    rw [Yat,Yaf]]
end
open PySem L2 PyProof.Rows
theorem ZjX {prs:Prs}{rows:List (List Int)}{i j:Nat}{x:Int} (hs:Sm prs) {prs':Prs} (h:prs'.map (·.2)=setR (prs.map (·.2)) i j x):Sm prs':=by
 have hl:prs'.length=prs.length:=by
  have:=congrArg List.length h;unfold setR at this;rw [YaK] at this;simpa using this
 refine ⟨by rw [hl];exact hs.1,λp hp=>?_⟩;have hm:p.2∈setR (prs.map (·.2)) i j x:=by rw [<- h];exact Yar.mpr ⟨p,hp,rfl⟩
 unfold setR at hm;rcases List.mem_or_eq_of_mem_set hm with z | z
 ·obtain ⟨q,hq,e⟩:=Yar.mp z;rw [<- e];exact hs.2 q hq
 ·rw [z,YaK,Yat,Yaf];cases hg:prs[i]? with
  |none=>simp
  |some q=>exact hs.2 q (YaP hg)
section
variable {P:Program}{w:World}{K:Yab}{mg:Str->Option Value}{base:Heap}{C:Addr}
def Zf7:Sp:=λvs H Q _=>∃ (t c:Addr) (prs:Prs) (i j:Nat) (x:Int),vs=[.ref t,.ref c,.int x]/\Tab H t prs/\tabB prs=true/\Cell H c i j/\i<prs.length/\j<w0 prs/\ZcF (setR (prs.map (·.2)) i j x)=true/\ZiL H Q (setR (prs.map (·.2)) i j x)
theorem sc_changed:FnScope ["table","cell","x","changed"] ["table","cell","x"] (Zad ZdK):=scm
theorem Zi9 (D:Zah K mg "changed_table" ZdK ["table","cell","x"]) (G1:FnAt P w K mg base 5 "need_cell" ["table","thing"] ZbU) (G2:FnAt P w K mg base 2 "need_number" ["thing"] Za2) (G3:FnAt P w K mg base 2 "table_with" ["table","cell","x"] ZhU) (G4:FnAt P w K mg base 5 "is_table" ["thing"] Zch) :
  FnAt P w K mg base 6 "changed_table" ["table","cell","x"] Zf7:=by
 refine fao D sc_changed (λvs H Q E h=>?_) (λf g A o s H vs Q E hr h=>?_)
 ·obtain ⟨t,c,prs,i,j,x,rfl,_⟩:=h;rfl
 ·obtain ⟨t,c,prs,i,j,x,rfl,hT,hg,hc,hi,hj,ok,q⟩:=h;have nd:=sc_changed.nd;obtain ⟨g,g1,g2,g3,g4⟩:=ZaF hg;have hli:(Zat prs i).length=w0 prs:=by
   obtain ⟨p,hp,_,e⟩:=ZaA hi;rw [e];exact g.len p hp
  refine ⟨_,Zaa (Zaq (pe_f G1 hr (Zab (pv 0) (pa1 (pv 1))))) (Zaa (Zaq (pe_f G2 (hr.mono (by decide)) (pa1 (pv 2))))
   (Zaa (Zal (i:=3) nd rfl (Or.inl rfl) (pe_f G3 (hr.mono (by decide)) (Zab (pv 0) (Zab (pv 1) (pa1 (pv 2))))))
   (Zaa (Zbn (ZaC (ZaB (pe_f G4 hr (pa1 (pv 3))))) ZaX ZaI) (Zaf (Zak (pv 3)))))),?_⟩
  refine ⟨_,rfl,_,rfl,t,c,prs,i,j,rfl,hT,hg,hc,hi,hj,λH1 s1=>⟨_,rfl,x,rfl,?_⟩⟩;refine ⟨_,rfl,_,rfl,_,rfl,t,c,prs,i,j,x,rfl,hT.same s1,Zao hg,s1 _ _ hc,hi,by omega,λt' prs' H2 ht' hq hnd s2 hT2 hrows=>?_⟩;refine ⟨_,rfl,t',prs',rfl,hT2,ZjX (rows:=[]) (Zao hg) hrows,λH3 s3=>⟨_,rfl,?_⟩⟩;rw [ZbJ hrows,ok];exact iteF ⟨_,rfl,q t' prs' H3 (s1.free ht') (λp hp=>⟨s1.free (hq p hp).1,(hq p hp).2⟩) hnd (s1.trans (s2.trans s3)) (hT2.same s3) hrows⟩
end
open PySem L2 PyProof.Rows
structure KpC (K:Yab) (C:Addr):Prop where
 cls:Cls K C
 nr:NoAttr K C "rows"
 nc:NoAttr K C "changes"
abbrev Ch:=List (Addr × Addr × Nat × Nat × Int)
structure Keep (H:Hp) (C a dx t l:Addr) (prs:Prs) (cs:Ch):Prop where
 ob:H a=some (.ins C dx [("rows", .ref t),("changes", .ref l)])
 T:Tab H t prs
 ok:tabB prs=true
 L:H l=some (.lst (cs.map λc=>V.ref c.1))
 ch:∀ c∈cs,H c.1=some (.tup [.ref c.2.1,.int c.2.2.2.2])/\Cell H c.2.1 c.2.2.1 c.2.2.2.1/\c.2.2.1<prs.length/\c.2.2.2.1<w0 prs
theorem Keep.same {H H':Hp}{C a dx t l:Addr}{prs:Prs}{cs:Ch} (h:Keep H C a dx t l prs cs) (s:Same H H'):Keep H' C a dx t l prs cs :=
 ⟨s _ _ h.ob,h.T.same s,h.ok,s _ _ h.L,λc hc=>let ⟨h1,h2,h3⟩:=h.ch c hc;⟨s _ _ h1,s _ _ h2,h3⟩⟩
section
variable {P:Program}{w:World}{K:Yab}{mg:Str->Option Value}{base:Heap}{C:Addr}
theorem sc_kInit:FnScope ["self","table"] ["self","table"] (Zad (Zaw ZaU 0)):=scm
def ZjU (C:Addr):Sp:=λvs H Q _=>∃ (a dx t0:Addr) (prs:Prs),vs=[.ref a,.ref t0]/\H a=some (.ins C dx [])/\Tab H t0 prs/\tabB prs=true /\
 ∀ t l prs' H',But a H H'->H t=none->H l=none->(∀ p∈prs',H p.1=none)->(prs'.map (·.1)).Nodup->prs'.map (·.2)=prs.map (·.2)->Keep H' C a dx t l prs' []->Q .non H'
theorem Zm1 (kc:KpC K C) (D:Zay K C "__init__" "Keeper.__init__" (Zaw ZaU 0) ["self","table"]) (G1:FnAt P w K mg base 6 "need_table" ["thing"] ZaH) (G2:FnAt P w K mg base 1 "copy_of" ["table"] Ze8):MtAt P w K mg base 7 C "__init__" ["self","table"] (ZjU C):=by
 refine MtAt.of D sc_kInit (λvs H Q E h=>?_) (λf g A o s H vs Q E hr h=>?_)
 ·obtain ⟨a,dx,t0,prs,rfl,_⟩:=h;rfl
 ·obtain ⟨a,dx,t0,prs,rfl,ea,hT,hg,q⟩:=h;have nd:=sc_kInit.nd;refine ⟨_,Zaa (Zaq (pe_f G1 hr (pa1 (pv 1)))) (Zaa (Zd5 (pv 0) (pe_f G2 (hr.mono (by decide)) (pa1 (pv 1))) rfl) (Zaf (Zd5 (pv 0) (ZaN ZaT) rfl))),?_⟩;refine ⟨_,rfl,t0,prs,rfl,hT,Zao hg,hg,λH1 s1=>?_⟩;have hT1:=hT.same s1;refine ⟨_,rfl,t0,prs,rfl,hT1,Zao hg,λt prs' H2 ht hq hnd s2 hT2 hrows=>?_⟩;have ea2:=s2 _ _ (s1 _ _ ea);refine ⟨_,rfl,a,C,dx,[],rfl,ea2,kc.cls,kc.nr,by decide,?_⟩;have na:∀ {x:Addr},H1 x=none->x≠a:=λhx z=>by
   rw [z] at hx;have:=s1 _ _ ea;rw [hx] at this;cases this
  have nat:=na ht;have nq:∀ p∈prs',p.1≠a:=λp hp=>na (hq p hp).1;have k3:∀ b o,b≠a->H2 b=some o->(upd H2 a (.ins C dx (putF "rows" (.ref t) []))) b=some o:=λb o n e=>by rw [Zag n];exact e
  have e3:(upd H2 a (.ins C dx (putF "rows" (.ref t) []))) a=some (.ins C dx [("rows", .ref t)]):=Zac;have T3:Tab (upd H2 a (.ins C dx (putF "rows" (.ref t) []))) t prs':=⟨k3 _ _ nat hT2.l,λp hp=>k3 _ _ (nq p hp) (hT2.r p hp)⟩;generalize upd H2 a (.ins C dx (putF "rows" (.ref t) []))=H3 at k3 e3 T3 ⊢;refine ⟨len0,λl hl=>⟨_,rfl,a,C,dx,_,rfl,(snw hl) _ _ e3,kc.cls,kc.nc,(by show 1<1000;decide),?_⟩⟩;have nla:l≠a:=λz=>by rw [z,e3] at hl;cases hl
  have k4:∀ b o,b≠a->H3 b=some o->(upd (upd H3 l (.lst [])) a (.ins C dx (putF "changes" (.ref l) [("rows", .ref t)]))) b=some o:=λb o n e=>by
   rw [Zag n];exact (snw hl) _ _ e
  refine q t l prs' _ (λb o n e=>k4 b o n (k3 b o n (s2 _ _ (s1 _ _ e)))) (s1.free ht) ?_ (λp hp=>s1.free (hq p hp).1) hnd hrows ⟨Zac,⟨k4 _ _ nat T3.l,λp hp=>k4 _ _ (nq p hp) (T3.r p hp)⟩,?_,?_,λc hc=>nomatch hc⟩
  ·cases e:H l with
   |none=>rfl
   |some o =>
    have:=k3 l o nla (s2 _ _ (s1 _ _ e));rw [hl] at this;cases this
  ·rw [ZdQ hrows];exact hg
  ·rw [Zag nla];exact Zac
theorem Zj2:FnScope ["self"] ["self"] (Zad (Zaw ZaU 3)):=scm
def ZhZ (C:Addr):Sp:=λvs H Q _=>∃ (a dx t l:Addr) (prs:Prs) (cs:Ch),vs=[.ref a]/\Keep H C a dx t l prs cs/\ZiL H Q (prs.map (·.2))
theorem Zkw (kc:KpC K C) (D:Zay K C "table" "Keeper.table" (Zaw ZaU 3) ["self"]) (G2:FnAt P w K mg base 1 "copy_of" ["table"] Ze8):MtAt P w K mg base 2 C "table" ["self"] (ZhZ C):=by
 refine MtAt.of D Zj2 (λvs H Q E h=>?_) (λf g A o s H vs Q E hr h=>?_)
 ·obtain ⟨a,dx,t,l,prs,cs,rfl,_⟩:=h;rfl
 ·obtain ⟨a,dx,t,l,prs,cs,rfl,hk,q⟩:=h;refine ⟨_,Zaf (Zak (pe_f G2 hr (pa1 (Zbp (pv 0) rfl)))),?_⟩;exact ⟨_,rfl,a,C,dx,_,_,rfl,hk.ob,kc.cls,kc.nr,rfl,t,prs,rfl,hk.T,Zao hk.ok,q⟩
theorem sc_kChange:FnScope ["self","cell","x","rows","before"] ["self","cell","x"] (Zad (Zaw ZaU 1)):=scm
def Zf3 (C:Addr):Sp:=λvs H Q _=>∃ (a dx t l c:Addr) (prs:Prs) (cs:Ch) (i j:Nat) (x:Int),vs=[.ref a,.ref c,.int x]/\Keep H C a dx t l prs cs/\Cell H c i j/\i<prs.length/\j<w0 prs/\cs.length<1000/\ZcF (setR (prs.map (·.2)) i j x)=true /\
 ∀ t' prs' u r H',H t'=none->(∀ p∈prs',H p.1=none/\p.1≠t')->(prs'.map (·.1)).Nodup->H u=none->H r=none->(∀ b o,b≠a->b≠l->H b=some o->H' b=some o)->prs'.map (·.2)=setR (prs.map (·.2)) i j x->H' r=some (.tup [.int ((Zat prs i).getD j 0),.int x])->r≠a->r≠l ->
  Keep H' C a dx t' l prs' (cs ++ [(u,c,i,j,(Zat prs i).getD j 0)])->Q (.ref r) H'
end
open PySem L2 PyProof.Rows
section
variable {P:Program}{w:World}{K:Yab}{mg:Str->Option Value}{base:Heap}{C:Addr}
theorem ZnL {prs prs':Prs}{i j:Nat}{x:Int} (h:prs'.map (·.2)=setR (prs.map (·.2)) i j x):prs'.length=prs.length/\w0 prs'=w0 prs:=by
 have hl:prs'.length=prs.length:=by
  have:=congrArg List.length h;unfold setR at this;rw [YaK] at this;simpa using this
 refine ⟨hl,?_⟩;have:=congrArg (λl:List (List Int)=>(l.head?.map List.length).getD 0) h;simp only [List.head?_map,Option.map_map] at this;have e:w0 prs'=((setR (prs.map (·.2)) i j x).head?.map List.length).getD 0:=this;rw [e];unfold setR;cases prs with
 |nil=>rfl
 |cons p r =>
  cases i with
  |zero=>simp [w0]
  |succ i=>simp [w0]
theorem Zi3 (kc:KpC K C) (D:Zay K C "change" "Keeper.change" (Zaw ZaU 1) ["self","cell","x"]) (G1:FnAt P w K mg base 6 "changed_table" ["table","cell","x"] Zf7) (G2:FnAt P w K mg base 7 "number_at" ["table","cell"] ZbF):MtAt P w K mg base 8 C "change" ["self","cell","x"] (Zf3 C):=by
 refine MtAt.of D sc_kChange (λvs H Q E h=>?_) (λf g A o s H vs Q E hr h=>?_)
 ·obtain ⟨a,dx,t,l,c,prs,cs,i,j,x,rfl,_⟩:=h;rfl
 ·obtain ⟨a,dx,t,l,c,prs,cs,i,j,x,rfl,hk,hc,hi,hj,hcl,ok,q⟩:=h;have nd:=sc_kChange.nd;refine ⟨_,Zaa (Zal (i:=3) nd rfl (Or.inl rfl) (pe_f G1 (hr.mono (by decide)) (Zab (Zbp (pv 0) rfl) (Zab (pv 1) (pa1 (pv 2))))))
   (Zaa (Zal (i:=4) nd rfl (Or.inl rfl) (pe_f G2 hr (Zab (Zbp (pv 0) rfl) (pa1 (pv 1)))))
   (Zaa (Zd5 (pv 0) (pv 3) rfl)
   (Zaa (Zaq (ZcK YaS YaU YaV Za7 (Zbp (pv 0) rfl) (pa1 (ZaD (Zab (pv 1) (pa1 (pv 4)))))))
   (Zaf (Zak (ZaD (Zab (pv 4) (pa1 (pv 2))))))))),?_⟩
  refine ⟨_,rfl,a,C,dx,_,_,rfl,hk.ob,kc.cls,kc.nr,rfl,_,rfl,_,rfl,t,c,prs,i,j,x,rfl,hk.T,hk.ok,hc,hi,hj,ok,λt' prs' H1 ht' hq hnd s1 hT1 hrows=>?_⟩;have hk1:=hk.same s1;have hc1:Cell H1 c i j:=s1 _ _ hc;refine ⟨_,rfl,a,C,dx,_,_,rfl,hk1.ob,kc.cls,kc.nr,rfl,_,rfl,t,c,prs,i,j,rfl,hk1.T,hk1.ok,hc1,hi,hj,λH2 s2=>?_⟩;have hk2:=hk1.same s2;have hc2:Cell H2 c i j:=s2 _ _ hc1;have hT2:=hT1.same s2;have nla:l≠a:=λz=>by
   have h1:=hk.L;have h2:=hk.ob;rw [z,h2] at h1;cases h1
  have nn:∀ {y:Addr},H y=none->y≠a/\y≠l:=λhy=>⟨(λz=>by rw [z,hk.ob] at hy;cases hy),(λz=>by rw [z,hk.L] at hy;cases hy)⟩;refine ⟨_,rfl,_,rfl,a,C,dx,_,rfl,hk2.ob,kc.cls,kc.nr,(by show 2<1000;decide),?_⟩;have e3:(upd H2 a (.ins C dx (putF "rows" (.ref t') [("rows", .ref t),("changes", .ref l)]))) a=some (.ins C dx [("rows", .ref t'),("changes", .ref l)]):=Zac;have k3:∀ b o,b≠a->H2 b=some o->(upd H2 a (.ins C dx (putF "rows" (.ref t') [("rows", .ref t),("changes", .ref l)]))) b=some o:=λb o n e=>by rw [Zag n];exact e
  generalize upd H2 a (.ins C dx (putF "rows" (.ref t') [("rows", .ref t),("changes", .ref l)]))=H3 at e3 k3 ⊢;have L3:=k3 _ _ nla hk2.L;refine ⟨_,rfl,a,C,dx,_,_,rfl,e3,kc.cls,kc.nc,rfl,.inl ⟨rfl,_,sqo L3⟩,_,rfl,_,rfl,len2,λu hu=>?_⟩;have nu:u≠a/\u≠l:=⟨(λz=>by rw [z,e3] at hu;cases hu),(λz=>by rw [z,L3] at hu;cases hu)⟩;refine ⟨l,_,_,rfl,rfl,(snw hu) _ _ L3,(by rw [Yaa];exact Zav (by omega)),?_⟩;have k5:∀ b o,b≠l->H3 b=some o->(upd (upd H3 u (.tup [.ref c,.int ((Zat prs i).getD j 0)])) l (.lst ((cs.map λc=>V.ref c.1) ++ [.ref u]))) b=some o:=λb o n e=>by
   rw [Zag n];exact (snw hu) _ _ e
  have eu:(upd (upd H3 u (.tup [.ref c,.int ((Zat prs i).getD j 0)])) l (.lst ((cs.map λc=>V.ref c.1) ++ [.ref u]))) u=some (.tup [.ref c,.int ((Zat prs i).getD j 0)]):=by
   rw [Zag nu.2];exact Zac
  have el:(upd (upd H3 u (.tup [.ref c,.int ((Zat prs i).getD j 0)])) l (.lst ((cs.map λc=>V.ref c.1) ++ [.ref u]))) l=some (.lst ((cs ++ [(u,c,i,j,(Zat prs i).getD j 0)]).map λc=>V.ref c.1)):=by
   rw [Zac,Yah];rfl
  generalize upd (upd H3 u (.tup [.ref c,.int ((Zat prs i).getD j 0)])) l (.lst ((cs.map λc=>V.ref c.1) ++ [.ref u]))=H5 at k5 eu el ⊢;have up:∀ b o,b≠a->b≠l->H2 b=some o->H5 b=some o:=λb o n1 n2 e=>k5 b o n2 (k3 b o n1 e);have hu0:H u=none:=by
   cases e:H u with
   |none=>rfl
   |some o =>
    have:=k3 u o nu.1 (s2 _ _ (s1 _ _ e));rw [hu] at this;cases this
  refine ⟨_,rfl,_,rfl,len2,λr hr'=>?_⟩;have nr:r≠a/\r≠l:=⟨(λz=>by rw [z,k5 _ _ (Ne.symm nla) e3] at hr';cases hr'),(λz=>by rw [z,el] at hr';cases hr')⟩;have hr0:H r=none:=by
   cases e:H r with
   |none=>rfl
   |some o =>
    have:=up r o nr.1 nr.2 (s2 _ _ (s1 _ _ e));rw [hr'] at this;cases this
  have s6:=snw (o:=.tup [.int ((Zat prs i).getD j 0),.int x]) hr';obtain ⟨wl,ww⟩:=ZnL hrows;refine q t' prs' u r _ ht' hq hnd hu0 hr0 (λb o n1 n2 e=>s6 _ _ (up b o n1 n2 (s2 _ _ (s1 _ _ e)))) hrows Zac nr.1 nr.2 ⟨s6 _ _ (k5 _ _ (Ne.symm nla) e3),⟨s6 _ _ (up _ _ (nn ht').1 (nn ht').2 hT2.l),λp hp=>s6 _ _ (up _ _ (nn (hq p hp).1).1 (nn (hq p hp).1).2 (hT2.r p hp))⟩,?_,s6 _ _ el,λy hy=>?_⟩
  ·rw [ZbJ hrows];exact ok
  ·have cel:∀ {y:Addr}{i' j':Nat},Cell H2 y i' j'->Cell H5 y i' j':=λ{y i' j'} hy=>up _ _ (λz=>by
     have h1:=hk2.ob;rw [<- z] at h1;have h2:H2 y=_:=hy;rw [h2] at h1;cases h1) (λz=>by
     have h1:=hk2.L;rw [<- z] at h1;have h2:H2 y=_:=hy;rw [h2] at h1
     cases h1) hy
   rcases YaG.mp hy with z | z
   ·obtain ⟨z1,z2,z3,z4⟩:=hk2.ch y z;refine ⟨s6 _ _ (up _ _ (λe=>?_) (λe=>?_) z1),s6 _ _ (cel z2),by omega,by omega⟩
    ·have h1:=hk2.ob;rw [<- e,z1] at h1;cases h1
    ·have h1:=hk2.L;rw [<- e,z1] at h1;cases h1
   ·have:y=(u,c,i,j,(Zat prs i).getD j 0):=by simpa using z
    subst this;exact ⟨s6 _ _ eu,s6 _ _ (cel hc2),by show i<_;omega,by show j<_;omega⟩
end
open PySem L2 PyProof.Rows
def Zl2 (H:Hp) (c:Addr) (a b:Int):Prop:=H c=some (.tup [.int a,.int b])
def inT (r p:Nat) (a b:Int):Bool:=decide (0<=a/\a<(r:Int)) && decide (0<=b/\b<(p:Int))
section
variable {P:Program}{w:World}{K:Yab}{mg:Str->Option Value}{base:Heap}
def ZdZ:Sp:=λvs H Q _=>∃ (c:Addr) (a b:Int),vs=[.ref c]/\Zl2 H c a b/\∀ H',Same H H'->Q (.bl true) H'
theorem Zgx (T:Blt mg) (D:Zah K mg "all_whole" Zbj ["things"]) (G1:FnAt P w K mg base 1 "is_whole" ["thing"] ZbI):FnAt P w K mg base 2 "all_whole" ["things"] ZdZ:=by
 refine fao D Zb1 (λvs H Q E h=>?_) (λf g A o s H vs Q E hr h=>?_)
 ·obtain ⟨c,i,j,rfl,_⟩:=h;rfl
 ·obtain ⟨c,i,j,rfl,hC,q⟩:=h;have nd1:(["thing"]:List Str).Nodup:=by decide +kernel
  refine ⟨_,Zaf (Zak (pe_b (Za5 rfl) T.all boot_all (pa1 (Zar ["thing"] [none] (Zad Zbj) ["things"] rfl (Zgk (pv 0)) (by decide +kernel)
   (λ_ _ _ _ _=>pg_c 0 nd1) (λ_ _ _ _ _=>Zam) (λ_ _ _ _ _=>pe_f G1 hr (pa1 (pv 0))))))),?_⟩
  refine ⟨_,rfl,c,rfl,⟨_,sqt hC⟩,ZiD V.int (ms:=[i,j]) (λ_=>.bl true) (sqt hC) (by show 2<=sizeLine;decide) (λn _ H' Q' sm q'=>?_) λL H' hL sm hLl=>?_⟩
  ·exact ⟨_,rfl,n,rfl,q' _ (srf _)⟩
  ·exact ⟨L,[true,true],rfl,sqo hLl,q H' sm⟩
def Zf8:Sp:=λvs H Q _=>∃ (c:Addr) (r p:Nat) (a b:Int),vs=[.int (r:Nat),.int (p:Nat),.ref c]/\Zl2 H c a b/\∀ H',Same H H'->Q (.bl (inT r p a b)) H'
theorem Zja (T:Blt mg) (htup:mg "tuple" = none) (D:Zah K mg "is_cell_of_size" ZfM ["rows","places","thing"]) (G:FnAt P w K mg base 2 "all_whole" ["things"] ZdZ):FnAt P w K mg base 3 "is_cell_of_size" ["rows","places","thing"] Zf8:=by
 refine fao D Zgg (λvs H Q E h=>?_) (λf g A o s H vs Q E hr h=>?_)
 ·obtain ⟨c,r,p,i,j,rfl,_⟩:=h;rfl
 ·obtain ⟨c,r,p,a,b,rfl,hC,q⟩:=h;refine ⟨_,Zaa (pifF (PW.pt (Zbv (ZaC (ZaB (pe_b ZaP T.isinst boot_isinstance (Zab (pv 2) (pa1 (Zd7 htup boot_tuple)))))) (Zbv (pcm ZcE (pln T (pv 2)) Zae) (Zbo (ZaC (ZaB (pe_f G hr (pa1 (pv 2))))))))))
   (Zaf (Zak (ZbQ (Zbt o_le o_lt Zae (pix ZaJ (pv 2) Zae) (pv 0))
    (Zbw (Zbt o_le o_lt Zae (pix ZaJ (pv 2) Zae) (pv 1)))))),?_⟩
  refine ⟨_,rfl,_,_,_,_,rfl,.tup hC,Zn8 _,_,rfl,iteF ⟨_,rfl,c,_,rfl,.inr (sqt hC),rfl,_,rfl,?_⟩⟩;refine iteF ⟨_,rfl,c,a,b,rfl,hC,λH1 s1=>⟨_,rfl,iteF ?_⟩⟩;have hC1:Zl2 H1 c a b:=s1 _ _ hC;have q1:=q H1 s1;unfold inT at q1;refine ⟨_,rfl,c,_,0,.int a,rfl,rfl,sqt hC1,rfl,_,_,rfl,rfl,_,rfl,?_⟩
  by_cases h1:(0:Int)<=a
  ·rw [Ya4 h1];refine iteT ⟨_,rfl,_,_,rfl,rfl,_,rfl,?_⟩
   by_cases h2:a<(r:Int)
   ·rw [Ya4 h2];refine iteT ⟨_,rfl,c,_,1,.int b,rfl,rfl,sqt hC1,rfl,_,_,rfl,rfl,_,rfl,?_⟩;rw [Ya4 (show 0<=a/\a<(r:Int) from ⟨h1,h2⟩),Bool.true_and] at q1
    by_cases h3:(0:Int)<=b
    ·rw [Ya4 h3];refine iteT ⟨_,rfl,_,_,rfl,rfl,?_⟩;have:decide (0<=b/\b<(p:Int))=decide (b<(p:Int)):=Ybb.mpr ⟨λz=>z.2,λz=>⟨h3,z⟩⟩;rw [this] at q1;exact q1
    ·rw [Ya5 h3];refine iteF ?_;rw [Ya5 (show ¬(0<=b/\b<(p:Int)) from λz=>h3 z.1)] at q1;exact q1
   ·rw [Ya5 h2];refine iteF ?_;rw [Ya5 (show ¬(0<=a/\a<(r:Int)) from λz=>h2 z.2),Bool.false_and] at q1;exact q1
  ·rw [Ya5 h1];refine iteF ⟨_,rfl,iteF ?_⟩;rw [Ya5 (show ¬(0<=a/\a<(r:Int)) from λz=>h1 z.1),Bool.false_and] at q1;exact q1
def Zf5:Sp:=λvs H Q _=>∃ (t c:Addr) (prs:Prs) (a b:Int),vs=[.ref t,.ref c]/\Tab H t prs/\tabB prs=true/\Zl2 H c a b/\∀ H',Same H H'->Q (.bl (inT prs.length (w0 prs) a b)) H'
theorem Zi7 (T:Blt mg) (D:Zah K mg "is_cell" ZfJ ["table","thing"]) (G:FnAt P w K mg base 3 "is_cell_of_size" ["rows","places","thing"] Zf8):FnAt P w K mg base 4 "is_cell" ["table","thing"] Zf5:=by
 refine fao D Zge (λvs H Q E h=>?_) (λf g A o s H vs Q E hr h=>?_)
 ·obtain ⟨t,c,prs,i,j,rfl,_⟩:=h;rfl
 ·obtain ⟨t,c,prs,i,j,rfl,hT,hg,hC,q⟩:=h;obtain ⟨g,g1,g2,g3,g4⟩:=ZaF hg;obtain ⟨p0,hp0,hm0,hx0⟩:=Zbg (prs:=prs) g1;refine ⟨_,Zaf (Zak (pe_f G hr (Zab (pln T (pv 0)) (Zab (pln T (pix Zaj (pv 0) Zae)) (pa1 (pv 1)))))),?_⟩;exact ⟨_,rfl,t,_,rfl,.inl hT.sq,_,rfl,t,_,0,.ref p0.1,rfl,rfl,hT.sq,Zaz (j:=0) (by rw [Yaf,hx0];rfl),p0.1,_,rfl,.inl (hT.r p0 hm0).sq,_,rfl,c,prs.length,w0 prs,i,j,by rw [Yaa,Yaa,g.len p0 hm0],hC,q⟩
abbrev CsI:=List (Addr × Int × Int)
def numI (prs:Prs) (c:Addr × Int × Int):Int:=(Zat prs c.2.1.toNat).getD c.2.2.toNat 0
def Zh4:Sp:=λvs H Q _=>∃ (t b:Addr) (prs:Prs) (cs:CsI),vs=[.ref t,.ref b]/\Tab H t prs/\tabB prs=true/\H b=some (.lst (cs.map λc=>V.ref c.1))/\cs.length<=1000/\(∀ c∈cs,Zl2 H c.1 c.2.1 c.2.2) /\
 ∀ L H',H L=none->Same H H'->H' L=some (.lst (((cs.filter λc=>inT prs.length (w0 prs) c.2.1 c.2.2).map (numI prs)).map V.int))->Q (.ref L) H'
theorem Zj7:FnScope ["table","beside"] ["table","beside"] (Zad ZfO):=scm
theorem ZkF (D:Zah K mg "numbers_beside" ZfO ["table","beside"]) (G1:FnAt P w K mg base 4 "is_cell" ["table","thing"] Zf5) (G2:FnAt P w K mg base 7 "number_at" ["table","cell"] ZbF):FnAt P w K mg base 8 "numbers_beside" ["table","beside"] Zh4:=by
 refine fao D Zj7 (λvs H Q E h=>?_) (λf g A o s H vs Q E hr h=>?_)
 ·obtain ⟨t,b,prs,cs,rfl,_⟩:=h;rfl
 ·obtain ⟨t,b,prs,cs,rfl,hT,hg,hb,hl,hc,q⟩:=h;have nd1:(["cell","table"]:List Str).Nodup:=by decide +kernel
  refine ⟨_,Zaf (Zak (Zar ["cell","table"] [none,some 0] (Zad ZfO) ["table","beside"] rfl (Zau (pv 1)) (by decide +kernel)
   (λ_ _ _ _ _=>pg_c 0 nd1) (λ_ _ _ _ _=>ZaR (ZaB (pe_f G1 (hr.mono (by decide)) (Zab (pv 1) (pa1 (pv 0)))))) (λ_ _ _ _ _=>pe_f G2 hr (Zab (pv 1) (pa1 (pv 0)))))),?_⟩
  refine ⟨_,rfl,b,rfl,⟨_,sqo hb⟩,Zbl (λc:Addr × Int × Int=>V.ref c.1) (λc=>inT prs.length (w0 prs) c.2.1 c.2.2) (λc=>.int (numI prs c)) (sqo hb) (Nat.le_of_lt (Zav hl)) (λc hcm H' Q' sm q'=>?_) (λc hcm hin H' Q' sm q'=>?_) λL H' hL sm hLl=>q L H' hL sm (by rw [Yau];exact hLl)⟩
  ·exact ⟨_,rfl,_,rfl,t,c.1,prs,c.2.1,c.2.2,rfl,hT.same sm,hg,sm _ _ (hc c hcm),λH2 s2=>⟨_,rfl,q' H2 s2⟩⟩
  ·unfold inT at hin;rw [Yaj,decide_eq_true_eq,decide_eq_true_eq] at hin;obtain ⟨⟨h1,h2⟩,h3,h4⟩:=hin;have e1:((c.2.1.toNat:Nat):Int)=c.2.1:=Int.toNat_of_nonneg h1;have e2:((c.2.2.toNat:Nat):Int)=c.2.2:=Int.toNat_of_nonneg h3;refine ⟨_,rfl,_,rfl,t,c.1,prs,c.2.1.toNat,c.2.2.toNat,rfl,hT.same sm,hg,?_,by omega,by omega,q'⟩;unfold Cell;rw [e1,e2];exact sm _ _ (hc c hcm)
end
open PySem L2 PyProof.Rows
def Zbb (rows:List (List Int)) (i j:Nat):Int:=(rows.getD i []).getD j 0
def wR (rows:List (List Int)):Nat:=(rows.getD 0 []).length
def Zbz (rows:List (List Int)) (i j:Nat):List Int:=(if 0<i then [Zbb rows (i - 1) j] else []) ++ (if 0<j then [Zbb rows i (j - 1)] else [])
def Zbh (rows:List (List Int)) (i j:Nat):List Int:=(if i+1<rows.length then [Zbb rows (i+1) j] else []) ++ (if j+1<wR rows then [Zbb rows i (j+1)] else [])
def oV:Option Int->V
 |none=>.non
 |some n=>.int n
theorem Zqs {ns:List Int}{M:Int} (h1:M∈ns) (h2:∀ a∈ns,a<=M):ns.max? = some M:=by
 rw [List.max?_eq_some_iff];exact ⟨h1,h2⟩
theorem Zqr {ns:List Int}{M:Int} (h1:M∈ns) (h2:∀ a∈ns,M<=a):ns.min? = some M:=by
 rw [List.min?_eq_some_iff];exact ⟨h1,h2⟩
theorem Zcu (prs:Prs) (i:Nat):Zat prs i=(prs.map (·.2)).getD i []:=by
 unfold Zat;rw [Yat,Yaf]
theorem ZbD (prs:Prs) (i j:Nat):Zbb (prs.map (·.2)) i j=(Zat prs i).getD j 0:=by
 unfold Zbb;rw [Zcu]
theorem ZeA (prs:Prs):wR (prs.map (·.2))=w0 prs:=by
 cases prs <;> rfl
theorem ZqI {prs:Prs} (a b:Addr) (x1 y1 x2 y2:Int):(([(a,x1,y1),(b,x2,y2)]:CsI).filter λc=>inT prs.length (w0 prs) c.2.1 c.2.2).map (numI prs) =
  (if inT prs.length (w0 prs) x1 y1=true then [(Zat prs x1.toNat).getD y1.toNat 0] else []) ++ (if inT prs.length (w0 prs) x2 y2=true then [(Zat prs x2.toNat).getD y2.toNat 0] else []):=by
 rw [List.filter_cons,List.filter_cons,List.filter_nil];cases inT prs.length (w0 prs) x1 y1 <;> cases inT prs.length (w0 prs) x2 y2 <;> rfl
theorem ZnJ {prs:Prs} (a b:Addr) {i j:Nat} (hi:i<prs.length) (hj:j<w0 prs) :
  (([(a,(i:Int) - 1,(j:Int)),(b,(i:Int),(j:Int) - 1)]:CsI).filter λc=>inT prs.length (w0 prs) c.2.1 c.2.2).map (numI prs)=Zbz (prs.map (·.2)) i j:=by
 rw [ZqI];unfold Zbz;rw [ZbD,ZbD];have e1:inT prs.length (w0 prs) ((i:Int) - 1) (j:Int)=decide (0<i):=by
  unfold inT;rw [<- Bool.decide_and];exact Ybb.mpr (by omega)
 have e2:inT prs.length (w0 prs) (i:Int) ((j:Int) - 1)=decide (0<j):=by
  unfold inT;rw [<- Bool.decide_and];exact Ybb.mpr (by omega)
 rw [e1,e2];simp only [decide_eq_true_eq];rw [show ((i:Int) - 1).toNat=i - 1 by omega,show ((j:Int) - 1).toNat=j - 1 by omega,Yav,Yav]
theorem ZlQ {prs:Prs} (a b:Addr) {i j:Nat} (hi:i<prs.length) (hj:j<w0 prs) :
  (([(a,(i:Int)+1,(j:Int)),(b,(i:Int),(j:Int)+1)]:CsI).filter λc=>inT prs.length (w0 prs) c.2.1 c.2.2).map (numI prs)=Zbh (prs.map (·.2)) i j:=by
 rw [ZqI];unfold Zbh;rw [ZbD,ZbD,ZeA,Yaa];have e1:inT prs.length (w0 prs) ((i:Int)+1) (j:Int)=decide (i+1<prs.length):=by
  unfold inT;rw [<- Bool.decide_and];exact Ybb.mpr (by omega)
 have e2:inT prs.length (w0 prs) (i:Int) ((j:Int)+1)=decide (j+1<w0 prs):=by
  unfold inT;rw [<- Bool.decide_and];exact Ybb.mpr (by omega)
 rw [e1,e2];simp only [decide_eq_true_eq];rw [show ((i:Int)+1).toNat=i+1 by omega,show ((j:Int)+1).toNat=j+1 by omega,Yav,Yav]
section
variable {P:Program}{w:World}{K:Yab}{mg:Str->Option Value}{base:Heap}{C:Addr}
def Zoh (H:Hp) (Q:VK) (rows:List (List Int)) (i j:Nat):Prop:=∀ r H',H r=none->Same H H'->H' r=some (.tup [oV (Zbz rows i j).max?,oV (Zbh rows i j).min?])->Q (.ref r) H'
def ZnP:Sp:=λvs H Q _=>∃ (t c:Addr) (prs:Prs) (i j:Nat),vs=[.ref t,.ref c]/\Tab H t prs/\tabB prs=true/\Cell H c i j/\i<prs.length/\j<w0 prs/\Zoh H Q (prs.map (·.2)) i j
theorem sc_span:FnScope ["table","cell","row","place","ahead","behind"] ["table","cell"] (Zad Zps):=scm
theorem ZoY (T:Blt mg) (hmin:mg "min" = none) (D:Zah K mg "span_of" Zps ["table","cell"]) (G1:FnAt P w K mg base 5 "need_cell" ["table","thing"] ZbU) (G2:FnAt P w K mg base 8 "numbers_beside" ["table","beside"] Zh4):FnAt P w K mg base 9 "span_of" ["table","cell"] ZnP:=by
 refine fao D sc_span (λvs H Q E h=>?_) (λf g A o s H vs Q E hr h=>?_)
 ·obtain ⟨t,c,prs,i,j,rfl,_⟩:=h;rfl
 ·obtain ⟨t,c,prs,i,j,rfl,hT,hg,hC,hi,hj,q⟩:=h;have nd:=sc_span.nd;refine ⟨_,Zaa (Zaq (pe_f G1 (hr.mono (by decide)) (Zab (pv 0) (pa1 (pv 1)))))
   (Zaa (Zal (i:=2) nd rfl (Or.inl rfl) (pix ZaJ (pv 1) Zae))
   (Zaa (Zal (i:=3) nd rfl (Or.inl rfl) (pix ZaJ (pv 1) Zae))
   (Zaa (Zal (i:=4) nd rfl (Or.inl rfl) (pe_f G2 hr (Zab (pv 0) (pa1 (ZaN (Zab (ZaD (Zab (Zan Zb4 (pv 2) Zae) (pa1 (pv 3)))) (pa1 (ZaD (Zab (pv 2) (pa1 (Zan Zb4 (pv 3) Zae)))))))))))
   (Zaa (Zal (i:=5) nd rfl (Or.inl rfl) (pe_f G2 hr (Zab (pv 0) (pa1 (ZaN (Zab (ZaD (Zab (Zan Zby (pv 2) Zae) (pa1 (pv 3)))) (pa1 (ZaD (Zab (pv 2) (pa1 (Zan Zby (pv 3) Zae)))))))))))
   (Zaf (Zak (ZaD (Zab (ZoM rfl rfl T.max (pv 4) ZbK) (pa1 (ZoK rfl rfl hmin (pv 5) ZbK)))))))))),?_⟩
  refine ⟨_,rfl,_,rfl,t,c,prs,i,j,rfl,hT,hg,hC,hi,hj,λH1 s1=>?_⟩;have hC1:Cell H1 c i j:=s1 _ _ hC;have hT1:=hT.same s1;refine ⟨_,rfl,c,_,0,.int (i:Nat),rfl,rfl,sqt hC1,rfl,_,rfl,c,_,1,.int (j:Nat),rfl,rfl,sqt hC1,rfl,?_⟩;refine ⟨_,rfl,_,rfl,_,_,rfl,rfl,_,rfl,len2,λu1 hu1=>⟨_,rfl,_,rfl,_,_,rfl,rfl,len2,λu2 hu2=>⟨len2,λl hl=>?_⟩⟩⟩;have m1:=snw (o:=.tup [.int ((i:Int) - 1),.int (j:Nat)]) hu1;have m2:=snw (o:=.tup [.int (i:Nat),.int ((j:Int) - 1)]) hu2;have m3:=snw (o:=.lst [.ref u1,.ref u2]) hl;refine ⟨t,l,prs,[(u1,(i:Int) - 1,(j:Int)),(u2,(i:Int),(j:Int) - 1)],rfl,((hT1.same m1).same m2).same m3,hg,Zac,(by show 2<=1000;decide),λc hc=>?_,λL H2 hL s2 eL=>?_⟩
  ·rcases YaF.mp hc with z | hc
   ·rw [z];exact m3 _ _ (m2 _ _ Zac)
   ·rcases YaF.mp hc with z | hc
    ·rw [z];exact m3 _ _ Zac
    ·cases hc
  rw [ZnJ u1 u2 hi hj] at eL;have s12:Same H1 H2:=((m1.trans m2).trans m3).trans s2;generalize hH:upd (upd (upd H1 u1 _) u2 _) l _=Hx at s2 hL;clear hH m3 m2 m1;have hT2:=hT1.same s12;refine ⟨_,rfl,_,rfl,_,_,rfl,rfl,_,rfl,len2,λu3 hu3=>⟨_,rfl,_,rfl,_,_,rfl,rfl,len2,λu4 hu4=>⟨len2,λl2 hl2=>?_⟩⟩⟩;have m1:=snw (o:=.tup [.int ((i:Int)+1),.int (j:Nat)]) hu3;have m2:=snw (o:=.tup [.int (i:Nat),.int ((j:Int)+1)]) hu4;have m3:=snw (o:=.lst [.ref u3,.ref u4]) hl2;refine ⟨t,l2,prs,[(u3,(i:Int)+1,(j:Int)),(u4,(i:Int),(j:Int)+1)],rfl,((hT2.same m1).same m2).same m3,hg,Zac,(by show 2<=1000;decide),λc hc=>?_,λL2 H3 hL2 s3 eL2=>?_⟩
  ·rcases YaF.mp hc with z | hc
   ·rw [z];exact m3 _ _ (m2 _ _ Zac)
   ·rcases YaF.mp hc with z | hc
    ·rw [z];exact m3 _ _ Zac
    ·cases hc
  rw [ZlQ u3 u4 hi hj] at eL2;have s23:Same H2 H3:=((m1.trans m2).trans m3).trans s3;have s13:=s12.trans s23;have eL3:=s23 _ _ eL;have fin:∀ r,H3 r=none->Q (.ref r) (upd H3 r (.tup [oV (Zbz (prs.map (·.2)) i j).max?,oV (Zbh (prs.map (·.2)) i j).min?])):=λr hr=>q r _ ((s1.trans s13).free hr) ((s1.trans s13).trans (snw hr)) Zac;have key:∀ v1,v1=oV (Zbz (prs.map (·.2)) i j).max?->rDef K (λa M=>M<=a) [.ref L2] [.non] H3 (λv2 H4=>[v1,v2].length<=sizeLine/\∀ r,H4 r=none->Q (.ref r) (upd H4 r (.tup [v1,v2]))):=by
   intro v1 e1;subst e1;refine ⟨L2,_,.non,rfl,rfl,sqo eL2,λz=>⟨len2,λr hr=>?_⟩,λ_ M h1 h2=>⟨len2,λr hr=>?_⟩⟩
   ·have:=fin r hr;rw [z] at this;exact this
   ·have:=fin r hr;rw [Zqr h1 h2] at this;exact this
  refine ⟨_,rfl,L,_,.non,rfl,rfl,sqo eL3,λz=>⟨_,rfl,?_⟩,λ_ M h1 h2=>⟨_,rfl,?_⟩⟩
  ·exact key .non (by rw [z];rfl)
  ·exact key (.int M) (by rw [Zqs h1 h2];rfl)
theorem Zmp:FnScope ["self","cell"] ["self","cell"] (Zad (Zaw ZaU 6)):=scm
def ZjS (C:Addr):Sp:=λvs H Q _=>∃ (a dx t l c:Addr) (prs:Prs) (cs:Ch) (i j:Nat),vs=[.ref a,.ref c]/\Keep H C a dx t l prs cs/\Cell H c i j/\i<prs.length/\j<w0 prs/\Zoh H Q (prs.map (·.2)) i j
theorem Zm0 (kc:KpC K C) (D:Zay K C "span" "Keeper.span" (Zaw ZaU 6) ["self","cell"]) (G:FnAt P w K mg base 9 "span_of" ["table","cell"] ZnP):MtAt P w K mg base 10 C "span" ["self","cell"] (ZjS C):=by
 refine MtAt.of D Zmp (λvs H Q E h=>?_) (λf g A o s H vs Q E hr h=>?_)
 ·obtain ⟨a,dx,t,l,c,prs,cs,i,j,rfl,_⟩:=h;rfl
 ·obtain ⟨a,dx,t,l,c,prs,cs,i,j,rfl,hk,hc,hi,hj,q⟩:=h;refine ⟨_,Zaf (Zak (pe_f G hr (Zab (Zbp (pv 0) rfl) (pa1 (pv 1))))),?_⟩;exact ⟨_,rfl,a,C,dx,_,_,rfl,hk.ob,kc.cls,kc.nr,rfl,_,rfl,t,c,prs,i,j,rfl,hk.T,hk.ok,hc,hi,hj,q⟩
end
open PySem L2 PyProof.Rows
def NumIs (rows:List (List Int)) (k:Nat) (n:Int):Prop:=∃ fs,Sorted (prs0 rows) fs/\n=hdI (fs.getD k [])
theorem NumIs.of {prs:Prs}{k:Nat}{fs:List (List Int)} (h:Sorted prs fs):NumIs (prs.map (·.2)) k (hdI (fs.getD k [])):=⟨fs,h.rows (by rw [ZcQ]),rfl⟩
section
variable {P:Program}{w:World}{K:Yab}{mg:Str->Option Value}{base:Heap}{C:Addr}
theorem ZiW:FnScope ["self","k"] ["self","k"] (Zad (Zaw ZaU 5)):=scm
def Zf2 (C:Addr):Sp:=λvs H Q _=>∃ (a dx t l:Addr) (prs:Prs) (cs:Ch) (k:Nat),vs=[.ref a,.int (k:Nat)]/\Keep H C a dx t l prs cs/\k<prs.length * w0 prs/\∀ n H',Same H H'->NumIs (prs.map (·.2)) k n->Q (.int n) H'
theorem Zi2 (kc:KpC K C) (D:Zay K C "number" "Keeper.number" (Zaw ZaU 5) ["self","k"]) (G:FnAt P w K mg base 8 "number_by" ["table","k"] Zcs):MtAt P w K mg base 9 C "number" ["self","k"] (Zf2 C):=by
 refine MtAt.of D ZiW (λvs H Q E h=>?_) (λf g A o s H vs Q E hr h=>?_)
 ·obtain ⟨a,dx,t,l,prs,cs,k,rfl,_⟩:=h;rfl
 ·obtain ⟨a,dx,t,l,prs,cs,k,rfl,hk,hl,q⟩:=h;refine ⟨_,Zaf (Zak (pe_f G hr (Zab (Zbp (pv 0) rfl) (pa1 (pv 1))))),?_⟩;exact ⟨_,rfl,a,C,dx,_,_,rfl,hk.ob,kc.cls,kc.nr,rfl,_,rfl,t,prs,k,rfl,hk.T,hk.ok,hl,λfs H' sm so=>q _ H' sm (.of so)⟩
theorem sc_kUndo:FnScope ["self","last","before"] ["self"] (Zad (Zaw ZaU 2)):=scm
def ZjR (C:Addr):Sp:=λvs H Q _=>∃ (a dx t l u c:Addr) (prs:Prs) (cs:Ch) (i j:Nat) (x:Int),vs=[.ref a]/\Keep H C a dx t l prs (cs ++ [(u,c,i,j,x)])/\cs.length<1000/\ZcF (setR (prs.map (·.2)) i j x)=true /\
 ∀ t' prs' r H',H t'=none->(∀ p∈prs',H p.1=none/\p.1≠t')->(prs'.map (·.1)).Nodup->H r=none->(∀ b o,b≠a->b≠l->H b=some o->H' b=some o)->prs'.map (·.2)=setR (prs.map (·.2)) i j x->H' r=some (.tup [.int ((Zat prs i).getD j 0),.int x])->r≠a->r≠l ->
  Keep H' C a dx t' l prs' cs->Q (.ref r) H'
theorem ZmZ (T:Blt mg) (kc:KpC K C) (D:Zay K C "undo" "Keeper.undo" (Zaw ZaU 2) ["self"]) (G1:FnAt P w K mg base 2 "table_with" ["table","cell","x"] ZhU) (G2:FnAt P w K mg base 7 "number_at" ["table","cell"] ZbF):MtAt P w K mg base 8 C "undo" ["self"] (ZjR C):=by
 refine MtAt.of D sc_kUndo (λvs H Q E h=>?_) (λf g A o s H vs Q E hr h=>?_)
 ·obtain ⟨a,dx,t,l,u,c,prs,cs,i,j,x,rfl,_⟩:=h;rfl
 ·obtain ⟨a,dx,t,l,u,c,prs,cs,i,j,x,rfl,hk,hcl,ok,q⟩:=h;have nd:=sc_kUndo.nd;obtain ⟨hu,hc,hi,hj⟩:=hk.ch (u,c,i,j,x) (Yaz _ (.head _));have hi:i<prs.length:=hi;have hj:j<w0 prs:=hj;have hu:H u=some (.tup [.ref c,.int x]):=hu;have hc:Cell H c i j:=hc;obtain ⟨g,g1,g2,g3,g4⟩:=ZaF hk.ok;have hli:(Zat prs i).length=w0 prs:=by
   obtain ⟨p,hp,_,e⟩:=ZaA hi;rw [e];exact g.len p hp
  refine ⟨_,Zaa (Zbn (pcm Zdy (pln T (Zbp (pv 0) rfl)) Zae) ZaX ZaI)
   (Zaa (Zal (i:=1) nd rfl (Or.inl rfl) (Zp8 YaS PySem.F.slot_list_pop PySem.F.type_list_pop Zqp (Zbp (pv 0) rfl)))
   (Zaa (Zal (i:=2) nd rfl (Or.inl rfl) (pe_f G2 hr (Zab (Zbp (pv 0) rfl) (pa1 (pix ZaJ (pv 1) Zae)))))
   (Zaa (Zd5 (pv 0) (pe_f G1 (hr.mono (by decide)) (Zab (Zbp (pv 0) rfl) (Zab (pix ZaJ (pv 1) Zae) (pa1 (pix ZaJ (pv 1) Zae))))) rfl)
   (Zaf (Zak (ZaD (Zab (pv 2) (pa1 (pix ZaJ (pv 1) Zae))))))))),?_⟩
  refine ⟨_,rfl,a,C,dx,_,_,rfl,hk.ob,kc.cls,kc.nc,rfl,l,_,rfl,.inl (sqo hk.L),rfl,_,rfl,?_⟩;have hz:¬ (V.int (((cs ++ [(u,c,i,j,x)]).map λc=>V.ref c.1).length:Nat)=V.int 0):=by
   intro z;injection z with z;simp at z;omega
  refine Zro hz ?_;refine ⟨_,rfl,a,C,dx,_,_,rfl,hk.ob,kc.cls,kc.nc,rfl,.inl ⟨rfl,_,sqo hk.L⟩,l,_,.ref u,rfl,rfl,hk.L,by simp,?_⟩;have hmu:V.ref u∈(cs ++ [(u,c,i,j,x)]).map λc=>V.ref c.1:=Yar.mpr ⟨_,Yaz _ (.head _),rfl⟩;have nla:a≠l:=λz=>by
   have h1:=hk.L;rw [<- z,hk.ob] at h1;cases h1
  have nul:u≠l:=λz=>by
   have h1:=hk.L;rw [<- z,hu] at h1;cases h1
  have ntl:t≠l:=λz=>by
   have h1:=hk.T.l;rw [z,hk.L] at h1;injection h1 with h1;injection h1 with h1;rw [h1] at hmu;obtain ⟨p,hp,e⟩:=Yar.mp hmu;injection e with e;have h2:H p.1=_:=hk.T.r p hp;rw [e,hu] at h2;cases h2
  have npl:∀ p∈prs,p.1≠l:=λp hp z=>by
   have h1:H p.1=_:=hk.T.r p hp;rw [z,hk.L] at h1;injection h1 with h1;injection h1 with h1;rw [h1] at hmu;obtain ⟨n,_,e⟩:=Yar.mp hmu;cases e
  have ncl:∀ {y:Addr}{i' j':Nat},Cell H y i' j'->y≠l:=λ{y i' j'} h z=>by
   have h1:H y=_:=h;rw [z,hk.L] at h1;cases h1
  have nca:∀ {y:Addr}{i' j':Nat},Cell H y i' j'->y≠a:=λ{y i' j'} h z=>by
   have h1:H y=_:=h;rw [z,hk.ob] at h1;cases h1
  have eL:(upd H l (.lst ((cs ++ [(u,c,i,j,x)]).map λc=>V.ref c.1).dropLast)) l=some (.lst (cs.map λc=>V.ref c.1)):=by
   rw [Zac,Yah];simp
  have k1:∀ b o,b≠l->H b=some o->(upd H l (.lst ((cs ++ [(u,c,i,j,x)]).map λc=>V.ref c.1).dropLast)) b=some o:=λb o n e=>by rw [Zag n];exact e
  generalize upd H l (.lst ((cs ++ [(u,c,i,j,x)]).map λc=>V.ref c.1).dropLast)=H1 at eL k1 ⊢;have hT1:Tab H1 t prs:=⟨k1 _ _ ntl hk.T.l,λp hp=>k1 _ _ (npl p hp) (hk.T.r p hp)⟩;have ob1:=k1 _ _ nla hk.ob;have hu1:=k1 _ _ nul hu;have hc1:Cell H1 c i j:=k1 _ _ (ncl hc) hc;refine ⟨_,rfl,a,C,dx,_,_,rfl,ob1,kc.cls,kc.nr,rfl,_,rfl,u,_,0,.ref c,rfl,rfl,sqt hu1,rfl,t,c,prs,i,j,rfl,hT1,hk.ok,hc1,hi,hj,λH2 s2=>?_⟩;refine ⟨_,rfl,a,C,dx,_,_,rfl,s2 _ _ ob1,kc.cls,kc.nr,rfl,_,rfl,u,_,0,.ref c,rfl,rfl,sqt (s2 _ _ hu1),rfl,_,rfl,u,_,1,.int x,rfl,rfl,sqt (s2 _ _ hu1),rfl,t,c,prs,i,j,x,rfl,hT1.same s2,Zao hk.ok,s2 _ _ hc1,hi,by omega,λt' prs' H3 ht' hq hnd s3 hT3 hrows=>?_⟩;have s13:=s2.trans s3;refine ⟨_,rfl,a,C,dx,_,rfl,s13 _ _ ob1,kc.cls,kc.nr,(by show 2<1000;decide),?_⟩;have k4:∀ b o,b≠a->H3 b=some o->(upd H3 a (.ins C dx (putF "rows" (.ref t') [("rows", .ref t),("changes", .ref l)]))) b=some o:=λb o n e=>by rw [Zag n];exact e
  have e4:(upd H3 a (.ins C dx (putF "rows" (.ref t') [("rows", .ref t),("changes", .ref l)]))) a=some (.ins C dx [("rows", .ref t'),("changes", .ref l)]):=Zac;generalize upd H3 a (.ins C dx (putF "rows" (.ref t') [("rows", .ref t),("changes", .ref l)]))=H4 at k4 e4 ⊢;have nua:u≠a:=λz=>by
   rw [z,hk.ob] at hu;cases hu
  have hu4:=k4 _ _ nua (s13 _ _ hu1);have up:∀ b o,b≠a->b≠l->H b=some o->H4 b=some o:=λb o n1 n2 e=>k4 b o n1 (s13 _ _ (k1 b o n2 e));have fr:∀ {y:Addr},H1 y=none->H y=none/\y≠a/\y≠l:=λ{y} hy=>by
   have n1:y≠l:=λz=>by rw [z,eL] at hy;cases hy
   refine ⟨?_,(λz=>by rw [z,ob1] at hy;cases hy),n1⟩;cases e:H y with
   |none=>rfl
   |some o =>
    rw [k1 y o n1 e] at hy;cases hy
  refine ⟨_,rfl,_,rfl,u,_,1,.int x,rfl,rfl,sqt hu4,rfl,len2,λr hr'=>?_⟩;have nra:r≠a:=λz=>by rw [z,e4] at hr';cases hr'
  have L4:=k4 _ _ nla.symm (s13 _ _ eL);have nrl:r≠l:=λz=>by rw [z,L4] at hr';cases hr'
  have hr0:H r=none:=by
   cases e:H r with
   |none=>rfl
   |some o =>
    rw [up r o nra nrl e] at hr';cases hr'
  have s5:=snw (o:=.tup [.int ((Zat prs i).getD j 0),.int x]) hr';obtain ⟨wl,ww⟩:=ZnL hrows;have ft:=fr (s2.free ht');refine q t' prs' r _ ft.1 (λp hp=>⟨(fr (s2.free (hq p hp).1)).1,(hq p hp).2⟩) hnd hr0 (λb o n1 n2 e=>s5 _ _ (up b o n1 n2 e)) hrows Zac nra nrl ⟨s5 _ _ e4,⟨s5 _ _ (k4 _ _ ft.2.1 hT3.l),λp hp=>s5 _ _ (k4 _ _ (fr (s2.free (hq p hp).1)).2.1 (hT3.r p hp))⟩,?_,s5 _ _ L4,λy hy=>?_⟩
  ·rw [ZbJ hrows];exact ok
  ·obtain ⟨z1,z2,z3,z4⟩:=hk.ch y (YaA _ hy);refine ⟨s5 _ _ (up _ _ (λe=>?_) (λe=>?_) z1),s5 _ _ (up _ _ (nca z2) (ncl z2) z2),by omega,by omega⟩
   ·have h1:=hk.ob;rw [<- e,z1] at h1;cases h1
   ·have h1:=hk.L;rw [<- e,z1] at h1;cases h1
end
end Seek
namespace L2
open PySem PySem.Spec PyProof.Rows
def tNew (C:Addr) (sp:Sp) (t:TA):TE:=λσ H Q=>t σ H λvs H1=>∀ x dx,H1 x=none->H1 dx=none->dx≠x->sp (.ref x :: vs) (upd (upd H1 dx (.own x)) x (.ins C dx [])) (λv H2=>v=.non/\Q (.ref x) H2) E0
theorem Zkl {X:Cx}{k:Nat}{C:Addr}{ps:List Str}{sp:Sp}{e:Expr}{es:List Expr}{x:Str}{p pos:Pos}{t:TA} (F:MtAt X.prog X.w X.K X.mg X.base k C "__init__" ps sp) (hmk:PySem.W.makesIn X.K C=true) (hkp:PySem.W.keepIn X.K (.ref C)=true) (hr:Room (k+1) X.A) (hg:Gl X x) (hm:X.mg x=some (.ref C))
  (ha:PA X (e :: es) t) (hdb:(x == ("__debug__" : Str))=false:=by decide) (he:starEach (e :: es) X.env=(false,eval e X.env) :: starEach es X.env:=by rfl) (hpl:(backTo pos (starEach es X.env)).any (·.1)=false:=by rfl) :
  PE X (.Call (.Name x p) (e :: es) [] pos) (tNew C sp t):=by
 obtain ⟨f,fd,F,hmt,hb⟩:=F;have q:=ZoN (p:=p) (pos:=pos) ⟨hmk,hmt.at_,hmt.fn,hkp⟩ F hr hg hm hb .nil (ZmI (X:=X)) ha hdb he hpl;intro pins s σ H Q I h;refine q pins s σ H Q I ?_;unfold ZpO;simp only [List.append_nil];exact h
theorem Zjf {K:Yab}{C f:Addr}{m qual:Str}{st:Stmt}{ps:List Str}{od an:Option Addr}{sl:Array (Option Value)}{oc kV dc pm cd ct:Value}
  (a:PySem.W.findIn K (.ref C) m=some (some (.ref f))) (i:PySem.W.isFn K (.ref f)=true) (l:K.lookup f=some ⟨oc,od,.func (PySem.W.fnOf m qual (Zcm st) (Zbr st) (Zad st) .none kV dc pm an cd ct),sl⟩) (c:PySem.W.codeIn K cd qual=true) (k:PySem.W.keepIn K (.ref f)=true)
  (b:∀ (kV doc pm:Value) (an:Option Addr) (cdv ct:Value) (us:List Value),us.length=ps.length->bindArgs (PySem.W.fnOf m qual (Zcm st) (Zbr st) (Zad st) .none kV doc pm an cdv ct) ⟨us,[]⟩=pure (ps.zip us)):Zay K C m qual st ps:=by
 have F:=Zob (st:=st) l c k;exact ⟨f,_,F,⟨a,i,k⟩,F.binds b⟩
end L2
namespace Seek
open PySem L2 PyProof.Rows
structure KpM (K:Yab) (mg:Str->Option Value) (C:Addr):Prop where
 c:KpC K C
 gl:mg "Keeper" = some (.ref C)
 mks:PySem.W.makesIn K C=true
 kp:PySem.W.keepIn K (.ref C)=true
theorem Zqu {K:Yab}{h:Heap}{mg:Str->Option Value}{C:Addr} (X:K.In h) (G:h.Ns mainGlobals mg) (aC:PySem.W.nsIn K mainGlobals "Keeper" = some (some (.ref C)))
  (pg:PySem.W.plainGet K C Str.empty=true) (hd:PySem.W.hasDictIn K C=true) (po:PySem.W.plainOver K C=true) (sa:PySem.W.findIn K (.ref C) "__setattr__" = some (some (.builtin "object.__setattr__"))) (mk:PySem.W.makesIn K C=true) (kc:PySem.W.keepIn K (.ref C)=true)
  (nr:PySem.W.findIn K (.ref C) "rows" = some none) (nc:PySem.W.findIn K (.ref C) "changes" = some none):KpM K mg C:=⟨⟨⟨pg,hd,po,sa⟩,nr,nc⟩,PySem.W.mg_of X G aC,mk,kc⟩
open PySem L2 PyProof.Rows
structure Rok (rows:List (List Int)):Prop where
 n1:1<=rows.length
 n6:rows.length<=6
 w1:1<=wR rows
 w6:wR rows<=6
 len:∀ i,i<rows.length->(rows.getD i []).length=wR rows
 row:∀ i j,i<rows.length->j+1<wR rows->Zbb rows i j<=Zbb rows i (j+1)
 down:∀ i j,i+1<rows.length->j<wR rows->Zbb rows i j<=Zbb rows (i+1) j
theorem ZeU (rows:List (List Int)) (i:Nat):Zat (prs0 rows) i=rows.getD i []:=by rw [Zcu,ZcQ]
theorem Zoj (rows:List (List Int)):w0 (prs0 rows)=wR rows:=by rw [<- ZeA,ZcQ]
theorem Zj9 {rows:List (List Int)} (h:ZcF rows=true):Rok rows:=by
 obtain ⟨g,g1,g2,g3,g4⟩:=ZaF (prs:=prs0 rows) h;have hl:(prs0 rows).length=rows.length:=Yaa ..;rw [Zoj] at g g3 g4;rw [hl] at g1 g2;have hlen:∀ i,i<rows.length->(rows.getD i []).length=wR rows:=λi hi=>by
  obtain ⟨p,hp,_,e⟩:=ZaA (prs:=prs0 rows) (i:=i) (by omega);rw [<- ZeU,e];exact g.len p hp
 refine ⟨g1,g2,g3,g4,hlen,λi j hi hj=>?_,λi j hi hj=>?_⟩
 ·obtain ⟨p,hp,_,e⟩:=ZaA (prs:=prs0 rows) (i:=i) (by omega);have:=g.row p hp j (by rw [g.len p hp];omega);unfold Zbb;rw [<- ZeU,e];exact this
 ·have:=g.down i (by omega) j hj;unfold Zbb;rw [<- ZeU,<- ZeU];exact this
theorem Zp0 {rows:List (List Int)} (h:Rok rows):ZcF rows=true:=by
 have hl:(prs0 rows).length=rows.length:=Yaa ..;have hm:∀ p∈prs0 rows,∃ i,i<rows.length/\p.2=rows.getD i []:=λp hp=>by
  obtain ⟨r,hr,rfl⟩:=Yar.mp hp;obtain ⟨i,hi,e⟩:=List.getElem_of_mem hr;exact ⟨i,hi,by rw [Yat,Yac hi,e];rfl⟩
 refine Ze6 (wide:=wR rows) (prs:=prs0 rows) ⟨λp hp=>?_,λp hp j hj=>?_,λi hi j hj=>?_⟩ (by rw [hl];exact h.n1) (by rw [hl];exact h.n6) h.w1 h.w6
 ·obtain ⟨i,hi,e⟩:=hm p hp;rw [e];exact h.len i hi
 ·obtain ⟨i,hi,e⟩:=hm p hp;rw [e] at hj ⊢;rw [h.len i hi] at hj;exact h.row i j hi (by omega)
 ·rw [ZeU,ZeU];exact h.down i j (by omega) hj
theorem ZcP (rows:List (List Int)) (i j:Nat) (x:Int):(setR rows i j x).length=rows.length:=by
 unfold setR;rw [YaK]
theorem Zfd {rows:List (List Int)}{i:Nat} (j:Nat) (x:Int) (hi:i<rows.length) (k:Nat):(setR rows i j x).getD k []=if k=i then (rows.getD i []).set j x else rows.getD k []:=by
 unfold setR;rw [Yat,List.getElem?_set]
 by_cases h:k=i
 ·rw [Ya7 h,Ya7 h.symm,Ya7 hi];rfl
 ·rw [Ya6 h,Ya6 (Ne.symm h),Yat]
theorem Zd2 {rows:List (List Int)}{i:Nat} (j:Nat) (x:Int) (hi:i<rows.length) (k:Nat):((setR rows i j x).getD k []).length=(rows.getD k []).length:=by
 rw [Zfd j x hi];split
 ·next h=>rw [YaK,h]
 ·rfl
theorem Zd1 {rows:List (List Int)}{i:Nat} (j:Nat) (x:Int) (hi:i<rows.length):wR (setR rows i j x)=wR rows:=Zd2 j x hi 0
theorem Zbk {rows:List (List Int)}{i j:Nat} (x:Int) (hi:i<rows.length) (hj:j<(rows.getD i []).length) (k m:Nat):Zbb (setR rows i j x) k m=if k=i/\m=j then x else Zbb rows k m:=by
 unfold Zbb;rw [Zfd j x hi]
 by_cases h:k=i
 ·rw [Ya7 h,Yat,List.getElem?_set]
  by_cases h2:m=j
  ·rw [Ya7 h2.symm,Ya7 hj,Ya7 ⟨h,h2⟩];rfl
  ·rw [Ya6 (Ne.symm h2),Ya6 (λz=>h2 z.2),h,<- Yat]
 ·rw [Ya6 h,Ya6 (λz=>h z.1)]
theorem fits {rows:List (List Int)}{i j:Nat}{x:Int} (h:Rok rows) (hi:i<rows.length) (hj:j<wR rows) (lo:∀ a∈Zbz rows i j,a<=x) (hi':∀ b∈Zbh rows i j,x<=b):Rok (setR rows i j x):=by
 have hjl:j<(rows.getD i []).length:=by rw [h.len i hi];exact hj
 have ew:=Zd1 j x hi;have el:=ZcP rows i j x;refine ⟨by rw [el];exact h.n1,by rw [el];exact h.n6,by rw [ew];exact h.w1,by rw [ew];exact h.w6,λk hk=>?_,λk m hk hm=>?_,λk m hk hm=>?_⟩
 ·rw [Zd2 j x hi,ew];exact h.len k (by omega)
 ·rw [Zbk x hi hjl,Zbk x hi hjl];rw [el] at hk;rw [ew] at hm;split
  ·next z =>
   rw [Ya6 (λy=>by omega)];obtain ⟨rfl,rfl⟩:=z;refine hi' _ ?_;unfold Zbh;rw [Ya7 (show m+1<wR rows from hm)];exact Yaz _ (.head _)
  ·split
   ·next z =>
    obtain ⟨rfl,rfl⟩:=z;refine lo _ ?_;unfold Zbz;rw [Ya7 (show 0<m+1 from Nat.succ_pos _)];exact Yaz _ (.head _)
   ·exact h.row k m hk hm
 ·rw [Zbk x hi hjl,Zbk x hi hjl];rw [el] at hk;rw [ew] at hm;split
  ·next z =>
   rw [Ya6 (λy=>by omega)];obtain ⟨rfl,rfl⟩:=z;refine hi' _ ?_;unfold Zbh;rw [Ya7 (show k+1<rows.length from hk)];exact YaA _ (.head _)
  ·split
   ·next z =>
    obtain ⟨rfl,rfl⟩:=z;refine lo _ ?_;unfold Zbz;rw [Ya7 (show 0<k+1 from Nat.succ_pos _)];exact YaA _ (.head _)
   ·exact h.down k m hk hm
theorem Zmh (r:List Int) (j:Nat) (x:Int):(r.set j x).set j (r.getD j 0)=r:=by
 rw [List.set_set];refine List.ext_getElem? λk=>?_;rw [List.getElem?_set];split
 ·next h =>
  subst h;split
  ·next h2=>rw [Yat,Yac h2];rfl
  ·next h2=>rw [List.getElem?_eq_none (by omega)]
 ·rfl
theorem Zga {rows:List (List Int)}{i:Nat} (j:Nat) (x:Int) (hi:i<rows.length):setR (setR rows i j x) i j (Zbb rows i j)=rows:=by
 show (setR rows i j x).set i (((setR rows i j x).getD i []).set j (Zbb rows i j))=rows;rw [Zfd j x hi,Ya7 rfl];unfold setR;rw [List.set_set];have:((rows.getD i []).set j x).set j (Zbb rows i j)=rows.getD i []:=Zmh _ j x;rw [this];refine List.ext_getElem? λk=>?_;rw [List.getElem?_set];split
 ·next h =>
  subst h;simp [hi]
 ·rfl
theorem ZnI {rows:List (List Int)}{i j:Nat} (h:Rok rows) (hi:i<rows.length) (hj:j<wR rows) {a:Int} (ha:a∈Zbz rows i j):a<=Zbb rows i j:=by
 unfold Zbz at ha;rcases YaG.mp ha with z | z
 ·split at z
  ·next h0 =>
   have:a=Zbb rows (i - 1) j:=by simpa using z
   rw [this];have:=h.down (i - 1) j (by omega) hj;rw [show i - 1+1=i by omega] at this;exact this
  ·cases z
 ·split at z
  ·next h0 =>
   have:a=Zbb rows i (j - 1):=by simpa using z
   rw [this];have:=h.row i (j - 1) hi (by omega);rw [show j - 1+1=j by omega] at this;exact this
  ·cases z
theorem ZlR {rows:List (List Int)}{i j:Nat} (h:Rok rows) (hi:i<rows.length) (hj:j<wR rows) {b:Int} (hb:b∈Zbh rows i j):Zbb rows i j<=b:=by
 unfold Zbh at hb;rcases YaG.mp hb with z | z
 ·split at z
  ·next h0 =>
   have:b=Zbb rows (i+1) j:=by simpa using z
   rw [this];exact h.down i j h0 hj
  ·cases z
 ·split at z
  ·next h0 =>
   have:b=Zbb rows i (j+1):=by simpa using z
   rw [this];exact h.row i j hi h0
  ·cases z
def Betw (lo hi:Option Int) (x:Int):Prop:=(∀ m,lo=some m->m<=x)/\∀ m,hi=some m->x<=m
theorem ZlP {rows:List (List Int)}{i j:Nat}{x:Int} (h:Rok rows) (hi:i<rows.length) (hj:j<wR rows) (b:Betw (Zbz rows i j).max? (Zbh rows i j).min? x):Rok (setR rows i j x):=by
 refine fits h hi hj (λa ha=>?_) λc hc=>?_
 ·cases e:(Zbz rows i j).max? with
  |none=>rw [List.max?_eq_none_iff] at e;rw [e] at ha;cases ha
  |some m=>exact Int.le_trans ((List.max?_eq_some_iff.mp e).2 a ha) (b.1 m e)
 ·cases e:(Zbh rows i j).min? with
  |none=>rw [List.min?_eq_none_iff] at e;rw [e] at hc;cases hc
  |some m=>exact Int.le_trans (b.2 m e) ((List.min?_eq_some_iff.mp e).2 c hc)
open PySem L2 PyProof.Rows
theorem ZnV {prs:Prs}{i:Nat} (h:i<prs.length):Zat prs i=prs[i].2:=by
 unfold Zat;rw [Yac h];rfl
open PySem L2 PyProof.Rows
theorem ZbL {H:Hp}{S:List Addr}:∀ {xs:List V}{ds:List PyData},RdSs S H xs ds->ds.all Zdt=true->∃ ns:List Int,xs=ns.map V.int/\ds=ns.map PyData.int
 |_,_,.nil,_=>⟨[],rfl,rfl⟩
 |_,_,.cons (x:=x) (d:=d) h t,ha=>by
  simp only [List.all_cons,Yaj] at ha;obtain ⟨ns,e1,e2⟩:=ZbL t ha.2;cases h with
  |int i=>exact ⟨i :: ns,by rw [e1];rfl,by rw [e2];rfl⟩
  |_=>exact absurd ha.1 (by simp [Zdt])
theorem ZdI {a b:List Int} (h:dRow a=dRow b):a=b:=by
 unfold dRow at h;injection h with h;exact List.map_inj_right (λx y e=>by injection e) |>.mp h
section
variable {P:Program}{w:World}{K:Yab}{mg:Str->Option Value}{base:Heap}
def ZeJ:Sp:=λvs H Q _=>∃ (x:V) (d:PyData),vs=[x]/\RdS [] H x d/\Q (.bl (Zdt d)) H
theorem Zhs (T:Blt mg) (D:Zah K mg "is_whole" ZdJ ["thing"]):FnAt P w K mg base 1 "is_whole" ["thing"] ZeJ:=by
 refine fao D ZeM (λvs H Q E h=>?_) (λf g A o s H vs Q E hr h=>?_)
 ·obtain ⟨x,d,rfl,_⟩:=h;rfl
 ·obtain ⟨x,d,rfl,rd,q⟩:=h;refine ⟨_,Zaf (Zak (ZbQ (pe_b ZaP T.isinst boot_isinstance (Zab (pv 0) (pa1 (Zd7 T.int boot_int))))
   (Zbw (Zkk (pe_b ZaP T.isinst boot_isinstance (Zab (pv 0) (pa1 (Zd7 T.bool boot_bool)))))))),?_⟩
  refine ⟨_,rfl,_,_,_,_,rfl,rd.ty,Zpf _ d,_,rfl,?_⟩;cases d with
  |int i=>exact iteT ⟨_,rfl,_,_,_,_,rfl,rd.ty,Zil _ _,_,rfl,q⟩
  |bool b=>exact iteT ⟨_,rfl,_,_,_,_,rfl,rd.ty,Zil _ _,_,rfl,q⟩
  |_=>exact iteF q
def Zd0:Sp:=λvs H Q _=>∃ (a:Addr) (xs:List V) (ds:List PyData),vs=[.ref a]/\H a=some (.lst xs)/\RdSs [] H xs ds/\ds.length<=1000/\∀ H',Same H H'->Q (.bl (ds.all Zdt)) H'
theorem Zgy (T:Blt mg) (D:Zah K mg "all_whole" Zbj ["things"]) (G1:FnAt P w K mg base 1 "is_whole" ["thing"] ZeJ):FnAt P w K mg base 2 "all_whole" ["things"] Zd0:=by
 refine fao D Zb1 (λvs H Q E h=>?_) (λf g A o s H vs Q E hr h=>?_)
 ·obtain ⟨a,xs,ds,rfl,_⟩:=h;rfl
 ·obtain ⟨a,xs,ds,rfl,hl,rs,hn,q⟩:=h;obtain ⟨ms,e1,e2,hm⟩:=rs.pairs;subst e1 e2;rw [Yaa] at hn;have nd1:(["thing"]:List Str).Nodup:=by decide +kernel
  refine ⟨_,Zaf (Zak (pe_b (Za5 rfl) T.all boot_all (pa1 (Zar ["thing"] [none] (Zad Zbj) ["things"] rfl (Zau (pv 0)) (by decide +kernel)
   (λ_ _ _ _ _=>pg_c 0 nd1) (λ_ _ _ _ _=>Zam) (λ_ _ _ _ _=>pe_f G1 hr (pa1 (pv 0))))))),?_⟩
  refine ⟨_,rfl,a,rfl,⟨_,sqo hl⟩,Zba (λm:V × PyData=>m.1) (λm=>.bl (Zdt m.2)) (sqo hl) (sl6 hn) (λm hx H' Q' sm q'=>?_) λD H' hD sm hDl=>?_⟩
  ·exact ⟨_,rfl,m.1,m.2,rfl,(hm m hx).same sm,q' _ (srf _)⟩
  ·refine ⟨D,ms.map λm=>Zdt m.2,rfl,sqo (by rw [hDl,ZcS]),?_⟩;have q1:=q H' sm;rw [List.all_map] at q1 ⊢;exact q1
end
end Seek
namespace L2
open PySem PySem.Spec PyProof.Rows
theorem ZlD {K:Yab}{a c:Addr}{xs zs:List V}{σ0:St}{H1:Hp}{te:TE}{Q:VK} (f:Nat->V) (hq:SqL K H1 a xs) (hq2:SqL K H1 c zs) (hlen:xs.length=zs.length) (hn:xs.length<=1000)
  (he:∀ i x z,xs[i]? = some x->zs[i]? = some z->Pu te ((σ0.set 0 (some x)).set 1 (some z)) H1 (f i))
  (fin:∀ D H',H1 D=none->Same H1 H'->H' D=some (.lst ((List.range xs.length).map f))->Q (.ref D) H') :
  ZaQ (Itz K a c) (gTup K 2 (Zb7 (Za1 0) (Zb7 (Za1 1) gNil))) Zbu te σ0 H1 Q:=by
 intro D hD;refine ⟨λi m ys σ' H'=>m=xs.length - i/\i<=xs.length/\(∀ u v,(σ'.set 0 u).set 1 v=(σ0.set 0 u).set 1 v)/\Same H1 H'/\H' D=some (.lst ys)/\ys=(List.range i).map f,⟨xs.length,by simp,YaH _,λ_ _=>rfl,snw hD,Zac,by simp⟩,?_⟩;rintro i m ys σ' H' ⟨rfl,hi,es,sm,hDl,hys⟩;refine ⟨hDl,?_⟩;have q:=sm.seq hq;have q2:=sm.seq hq2
 by_cases hlt:i<xs.length
 ·refine .inr ⟨⟨_,_,xs[i],zs[i]'(by omega),q,q2,by simp [hlt],by simp⟩,λx H2 y=>?_⟩;obtain ⟨T,z,z2,rfl,hT,rfl,y,y2⟩:=y;have y:=y _ q;have y2:=y2 _ q2;have smT:Same H' (upd H' T (.tup [z,z2])):=snw hT;refine ⟨T,_,rfl,sqt Zac,rfl,_,_,rfl,_,_,rfl,rfl,?_⟩;unfold Zbu;refine iteT ?_;rw [es];refine he i _ _ y y2 _ _ (sm.trans smT) λH5 s5=>⟨s5 _ _ (smT _ _ hDl),?_,xs.length - (i+1),by omega,rfl,hlt,λ_ _=>set2,((sm.trans smT).trans s5).upd hD,Zac,?_⟩
  ·rw [hys,Yaa,List.length_range];exact Zav (by omega)
  ·rw [List.range_succ,Yah,<- hys];rfl
 ·have e:i=xs.length:=by omega
  subst e;exact .inl ⟨⟨_,_,q,q2,.inl (Yag _)⟩,fin D H' hD sm (by rw [hDl,hys])⟩
end L2
namespace Seek
open PySem L2 PyProof.Rows
structure StairP (r p:Nat) (ns:List Int):Prop where
 len:ns.length=r
 bd:∀ n∈ns,0<=n/\n<=(p:Int)
 down:∀ i,i+1<ns.length->ns.getD (i+1) 0<=ns.getD i 0
theorem Zcw {ns:List Int}{i:Nat} (h:i<ns.length):ns.reverse.getD i 0=ns.getD (ns.length - 1 - i) 0:=by
 rw [Yat,Yat,List.getElem?_reverse h]
theorem Zqo {ns:List Int}:nfB ns=true ↔ ∀ i,i+1<ns.length->ns.getD i 0<=ns.getD (i+1) 0:=by
 unfold nfB;rw [List.all_map,YaO];constructor
 ·intro h i hi;exact of_decide_eq_true (h i (List.mem_range.mpr (by omega)))
 ·intro h i hi;exact Ya4 (h i (by have:=List.mem_range.mp hi;omega))
theorem Zqn {ns:List Int}:nfB ns.reverse=true ↔ ∀ i,i+1<ns.length->ns.getD (i+1) 0<=ns.getD i 0:=by
 rw [Zqo,List.length_reverse];constructor
 ·intro h i hi;have:=h (ns.length - 2 - i) (by omega);rw [Zcw (by omega),Zcw (by omega)] at this;rw [show ns.length - 1 - (ns.length - 2 - i)=i+1 by omega,show ns.length - 1 - (ns.length - 2 - i+1)=i by omega] at this;exact this
 ·intro h i hi;rw [Zcw (by omega),Zcw (by omega)];have:=h (ns.length - 1 - (i+1)) (by omega);rw [show ns.length - 1 - (i+1)+1=ns.length - 1 - i by omega] at this;exact this
def inB (p:Nat) (n:Int):Bool:=decide (0<=n) && decide (n<=(p:Int))
theorem ZjJ {r p:Nat}{ns:List Int}:StairP r p ns ↔ ns.length=r/\(ns.map (inB p)).all id=true/\nfB ns.reverse=true:=by
 rw [Zqn,List.all_map,YaO];constructor
 ·intro h;exact ⟨h.len,λn hn=>by
   have:=h.bd n hn;show inB p n=true;unfold inB;rw [Ya4 this.1,Ya4 this.2]
   rfl,h.down⟩
 ·rintro ⟨h1,h2,h3⟩;exact ⟨h1,λn hn=>by
   have:=h2 n hn;have:inB p n=true:=this;unfold inB at this;rw [Yaj,decide_eq_true_eq,decide_eq_true_eq] at this
   exact this,h3⟩
def Zfp (x:Int) (row:List Int) (k:Nat):Bool:=((row.take k).map λn=>decide (n<x)).all id && ((row.drop k).map λn=>decide (x<n)).all id
theorem ZiB {ns:List Int}{k:Nat}:cutV (ns.map V.int) none (some (k:Int))=(ns.take k).map V.int:=by
 unfold cutV;rw [HT.sIx_none,HT.sIx_nat,List.drop_zero,List.map_take,Nat.sub_zero,Yaa];rcases Nat.le_total k ns.length with h | h
 ·rw [Nat.min_eq_left h]
 ·rw [Nat.min_eq_right h,List.take_of_length_le (by simp),List.take_of_length_le (by simp;exact h)]
theorem ZiC {ns:List Int}{k:Nat}:cutV (ns.map V.int) (some (k:Int)) none=(ns.drop k).map V.int:=by
 unfold cutV;rw [HT.sIx_none,HT.sIx_nat,List.map_drop,Yaa];rcases Nat.le_total k ns.length with h | h
 ·rw [Nat.min_eq_left h,List.take_of_length_le (by simp)]
 ·rw [Nat.min_eq_right h,Nat.sub_self,List.take_zero,List.drop_eq_nil_of_le (by simp;exact h)]
structure ShowP (prs:Prs) (x:Int) (ks:List Int):Prop where
 st:StairP prs.length (w0 prs) ks
 part:∀ i,i<prs.length->Zfp x (Zat prs i) (ks.getD i 0).toNat=true
def ZnK (prs:Prs) (x:Int) (d:PyData):Prop:=∃ ks,d=dRow ks/\ShowP prs x ks
section
variable {P:Program}{w:World}{K:Yab}{mg:Str->Option Value}{base:Heap}
def ZeK:Sp:=λvs H Q _=>∃ (x:V) (d:PyData) (r p:Nat),vs=[x,.int (r:Nat),.int (p:Nat)]/\RdS [] H x d/\r<=100/\∀ b H',(b=true ↔ ∃ ks,d=dRow ks/\StairP r p ks)->Same H H'->Q (.bl b) H'
theorem ZeN:FnScope ["thing","rows","places"] ["thing","rows","places"] (Zad Zcy):=scm
theorem Zht (T:Blt mg) (hre:mg "reversed" = none) (D:Zah K mg "is_stair" Zcy ["thing","rows","places"]) (G1:FnAt P w K mg base 2 "all_whole" ["things"] Zd0) (G2:FnAt P w K mg base 1 "never_falls" ["numbers"] spNF):FnAt P w K mg base 3 "is_stair" ["thing","rows","places"] ZeK:=by
 refine fao D ZeN (λvs H Q E h=>?_) (λf g A o s H vs Q E hr h=>?_)
 ·obtain ⟨x,d,r,p,rfl,_⟩:=h;rfl
 ·obtain ⟨x,d,r,p,rfl,rd,hr4,q⟩:=h;have nd1:(["step","places"]:List Str).Nodup:=by decide +kernel
  refine ⟨_,Zaa (pifF (PW.pt (Zbv (ZaC (ZaB (pe_b ZaP T.isinst boot_isinstance (Zab (pv 0) (pa1 (Zd7 T.list boot_list)))))) (Zbv (pcm ZcE (pln T (pv 0)) (pv 1)) (Zbo (ZaC (ZaB (pe_f G1 hr (pa1 (pv 0))))))))))
   (Zaa (pifF (ZaC (ZaB (pe_b (Za5 rfl) T.all boot_all (pa1 (Zar ["step","places"] [none,some 2] (Zad Zcy) ["thing","rows","places"] rfl (Zau (pv 0)) (by decide +kernel)
    (λ_ _ _ _ _=>pg_c 0 nd1) (λ_ _ _ _ _=>Zam) (λ_ _ _ _ _=>Zbt o_le o_le Zae (pv 0) (pv 1))))))))
   (Zaf (Zak (pe_f G2 (hr.mono (by decide)) (pa1 (ZeW rfl T.list hre (pv 0))))))),?_⟩
  refine ⟨_,rfl,_,_,_,_,rfl,rd.ty,Zni _ d,_,rfl,?_⟩;cases rd with
  | @lst a xs ds e n ra =>
   have hlen:=ra.length;refine iteF ⟨_,rfl,a,_,rfl,.inl (sqo e),_,rfl,rfl,_,rfl,?_⟩;rw [ZhF]
   by_cases hl:xs.length=r
   ·rw [Ya4 hl];refine iteF ⟨_,rfl,a,xs,ds,rfl,e,ra,by omega,λH1 s1=>⟨_,rfl,?_⟩⟩;cases hA:ds.all Zdt with
    |false =>
     refine iteT (q false H1 ⟨(λz=>nomatch z),λ⟨ks,e1,_⟩=>?_⟩ s1);unfold dRow at e1;injection e1 with e1;rw [e1,List.all_map] at hA;have h1:ks.all (Zdt ∘ PyData.int)=true:=YaO.mpr λ_ _=>rfl;rw [h1] at hA;cases hA
    |true =>
     obtain ⟨ns,rfl,rfl⟩:=ZbL ra hA;rw [Yaa] at hl hlen;have hn:ns.length<=1000:=by omega
     have hR:Row H a ns:=e;have hR1:=hR.same s1;have inj:(∃ ks,PyData.list (ns.map PyData.int)=dRow ks/\StairP r p ks) ↔ StairP r p ns:=⟨λ⟨ks,e1,h⟩=>by
      rw [ZdI (a:=ns) (b:=ks) e1]
      exact h,λh=>⟨ns,rfl,h⟩⟩
     rw [inj,ZjJ] at q;refine iteF ?_;refine ⟨_,rfl,a,rfl,⟨_,hR1.sq⟩,Zba V.int (λn=>.bl (inB p n)) hR1.sq (sl6 hn) (λn hx H' Q' sm q'=>?_) λD1 H2 hD1 s2 hDl=>?_⟩
     ·refine ⟨_,rfl,_,_,rfl,rfl,_,rfl,?_⟩;have q2:=q' H' (srf _);unfold inB at q2;cases h0:decide (0<=n) with
      |true =>
       rw [h0] at q2;exact iteT ⟨_,rfl,_,_,rfl,rfl,q2⟩
      |false =>
       rw [h0] at q2;exact iteF q2
     ·refine ⟨D1,ns.map (inB p),rfl,sqo (by rw [hDl,ZcS]),_,rfl,?_⟩;have hR2:=hR1.same s2;cases hB:(ns.map (inB p)).all id with
      |false=>exact iteT (q false H2 (by rw [hB];simp) (s1.trans s2))
      |true =>
       refine iteF ⟨_,rfl,a,_,rfl,hR2.sq,λp2 hp2=>?_⟩;have r3:Row (upd H2 p2 (.lst (ns.map V.int).reverse)) p2 ns.reverse:=by
        unfold Row;rw [Zac,List.map_reverse]
       refine ⟨p2,ns.reverse,rfl,r3,by rw [List.length_reverse];exact hn,λH3 s3=>?_⟩;exact q _ H3 (by rw [hB];simp [hl]) (s1.trans (s2.trans ((snw hp2).trans s3)))
   ·rw [Ya5 hl];refine iteT (q false H ⟨(λz=>nomatch z),λ⟨ks,e1,h⟩=>?_⟩ (srf _));unfold dRow at e1;injection e1 with e1;have:=h.len;have h2:=congrArg List.length e1;rw [Yaa] at h2;omega
  |_=>exact iteT (q false H ⟨(λz=>nomatch z),λ⟨ks,e1,_⟩=>nomatch e1⟩ (srf _))
def ZjN:Sp:=λvs H Q _=>∃ (a:Addr) (ns:List Int) (k:Nat) (x:Int),vs=[.ref a,.int (k:Nat),.int x]/\Row H a ns/\ns.length<=1000/\∀ H',Same H H'->Q (.bl (Zfp x ns k)) H'
theorem Zml:FnScope ["row","step","x"] ["row","step","x"] (Zad ZgS):=scm
theorem ZmT (T:Blt mg) (D:Zah K mg "parts_row" ZgS ["row","step","x"]):FnAt P w K mg base 1 "parts_row" ["row","step","x"] ZjN:=by
 refine fao D Zml (λvs H Q E h=>?_) (λf g A o s H vs Q E hr h=>?_)
 ·obtain ⟨a,ns,k,x,rfl,_⟩:=h;rfl
 ·obtain ⟨a,ns,k,x,rfl,hR,hn,q⟩:=h;have nd1:(["number","x"]:List Str).Nodup:=by decide +kernel
  refine ⟨_,Zaf (Zak (ZbQ (pe_b (Za5 rfl) T.all boot_all (pa1 (Zar ["number","x"] [none,some 2] (Zad ZgS) ["row","step","x"] rfl (Zau (ZdD Zfb (pv 0) Zfj (Zda (pv 1)))) (by decide +kernel)
    (λ_ _ _ _ _=>pg_c 0 nd1) (λ_ _ _ _ _=>Zam) (λ_ _ _ _ _=>ZaM o_lt (pv 0) (pv 1) (Za6 _)))))
   (Zbw (pe_b (Za5 rfl) T.all boot_all (pa1 (Zar ["number","x"] [none,some 2] (Zad ZgS) ["row","step","x"] rfl (Zau (ZdD Zfb (pv 0) (Zda (pv 1)) Zfj)) (by decide +kernel)
    (λ_ _ _ _ _=>pg_c 0 nd1) (λ_ _ _ _ _=>Zam) (λ_ _ _ _ _=>ZaM o_gt (pv 0) (pv 1) (Za6 _)))))))),?_⟩
  have l1:(ns.take k).length<=1000:=Yay (by simp;omega) hn;have l2:(ns.drop k).length<=1000:=Yay (by simp) hn;refine ⟨_,rfl,_,rfl,_,rfl,a,_,rfl,hR.sq,λp hp=>⟨p,rfl,?_⟩⟩;rw [ZiB];have s1:Same H (upd H p (.lst ((ns.take k).map V.int))):=snw hp;have r1:Row (upd H p (.lst ((ns.take k).map V.int))) p (ns.take k):=Zac;generalize upd H p (.lst ((ns.take k).map V.int))=H1 at s1 r1 ⊢;refine ⟨⟨_,r1.sq⟩,Zba V.int (λn=>.bl (decide (n<x))) r1.sq (sl6 l1) (λn hx H' Q' sm q'=>⟨_,rfl,_,rfl,_,_,rfl,rfl,q' _ (srf _)⟩) λD1 H2 hD1 s2 hDl=>?_⟩;refine ⟨D1,(ns.take k).map λn=>decide (n<x),rfl,sqo (by rw [hDl,ZcS]),_,rfl,?_⟩;have hR2:=(hR.same s1).same s2;unfold Zfp at q;cases hA:((ns.take k).map λn=>decide (n<x)).all id with
  |false =>
   rw [hA] at q;exact iteF (q H2 (s1.trans s2))
  |true =>
   rw [hA,Bool.true_and] at q;refine iteT ⟨_,rfl,_,rfl,_,rfl,a,_,rfl,hR2.sq,λp2 hp2=>⟨p2,rfl,?_⟩⟩;rw [ZiC];have s3:Same H2 (upd H2 p2 (.lst ((ns.drop k).map V.int))):=snw hp2;have r3:Row (upd H2 p2 (.lst ((ns.drop k).map V.int))) p2 (ns.drop k):=Zac;generalize upd H2 p2 (.lst ((ns.drop k).map V.int))=H3 at s3 r3 ⊢;refine ⟨⟨_,r3.sq⟩,Zba V.int (λn=>.bl (decide (x<n))) r3.sq (sl6 l2) (λn hx H' Q' sm q'=>⟨_,rfl,_,rfl,_,_,rfl,rfl,q' _ (srf _)⟩) λD2 H4 hD2 s4 hDl2=>?_⟩;exact ⟨D2,(ns.drop k).map λn=>decide (x<n),rfl,sqo (by rw [hDl2,ZcS]),q H4 (s1.trans (s2.trans (s3.trans s4)))⟩
def ZjL:Sp:=λvs H Q _=>∃ (t:Addr) (prs:Prs) (x:Int) (v:V) (d:PyData),vs=[.ref t,.int x,v]/\Tab H t prs/\tabB prs=true/\RdS [] H v d/\∀ b H',(b=true ↔ ZnK prs x d)->Same H H'->Q (.bl b) H'
theorem Zmj:FnScope ["table","x","thing"] ["table","x","thing"] (Zad Zix):=scm
theorem Zmf {prs:Prs}{x:Int}{ks:List Int} (h:StairP prs.length (w0 prs) ks):ZnK prs x (dRow ks) ↔ ((List.range prs.length).map λi=>Zfp x (Zat prs i) (ks.getD i 0).toNat).all id=true:=by
 rw [List.all_map,YaO];constructor
 ·rintro ⟨ks2,e,h2⟩ i hi;rw [ZdI e];exact h2.part i (List.mem_range.mp hi)
 ·exact λh2=>⟨ks,rfl,h,λi hi=>h2 i (List.mem_range.mpr hi)⟩
theorem ZmQ (T:Blt mg) (hzip:mg "zip" = none) (D:Zah K mg "paper_shows" Zix ["table","x","thing"]) (G1:FnAt P w K mg base 6 "need_table" ["thing"] ZaH) (G2:FnAt P w K mg base 2 "need_number" ["thing"] Za2) (G3:FnAt P w K mg base 3 "is_stair" ["thing","rows","places"] ZeK) (G4:FnAt P w K mg base 1 "parts_row" ["row","step","x"] ZjN):FnAt P w K mg base 7 "paper_shows" ["table","x","thing"] ZjL:=by
 refine fao D Zmj (λvs H Q E h=>?_) (λf g A o s H vs Q E hr h=>?_)
 ·obtain ⟨t,prs,x,v,d,rfl,_⟩:=h;rfl
 ·obtain ⟨t,prs,x,v,d,rfl,hT,hg,rd,q⟩:=h;obtain ⟨g,g1,g2,g3,g4⟩:=ZaF hg;obtain ⟨p0,hp0,hm0,hx0⟩:=Zbg (prs:=prs) g1;have nd1:(["row","step","x"]:List Str).Nodup:=by decide +kernel
  have hr1:Room 1 _:=hr.mono (by decide);refine ⟨_,Zaa (Zaq (pe_f G1 hr (pa1 (pv 0))))
   (Zaa (Zaq (pe_f G2 (hr.mono (by decide)) (pa1 (pv 1))))
   (Zaa (pifF (ZaC (ZaB (pe_f G3 (hr.mono (by decide)) (Zab (pv 2) (Zab (pln T (pv 0)) (pa1 (pln T (pix Zaj (pv 0) Zae)))))))))
   (Zaf (Zak (pe_b (Za5 rfl) T.all boot_all (pa1 (Zar ["row","step","x"] [none,none,some 1] (Zad Zix) ["table","x","thing"] rfl (ZnZ rfl hzip (Zab (pv 0) (pa1 (pv 2)))) (by decide +kernel)
    (λ_ _ _ _ _=>Zp6 K rfl nd1) (λ_ _ _ _ _=>Zam) (λ_ _ _ _ _=>pe_f G4 hr1 (Zab (pv 0) (Zab (pv 1) (pa1 (pv 2)))))))))))),?_⟩
  refine ⟨_,rfl,t,prs,rfl,hT,Zao hg,hg,λH1 s1=>⟨_,rfl,x,rfl,?_⟩⟩;have hT1:=hT.same s1;refine ⟨_,rfl,_,rfl,t,_,rfl,.inl hT1.sq,_,rfl,t,_,0,.ref p0.1,rfl,rfl,hT1.sq,Zaz (j:=0) (by rw [Yaf,hx0];rfl),p0.1,_,rfl,.inl (hT1.r p0 hm0).sq,v,d,prs.length,w0 prs,by rw [Yaa,Yaa,g.len p0 hm0],rd.same s1,by omega,λb H2 hb s2=>⟨_,rfl,?_⟩⟩;have hT2:=hT1.same s2;cases b with
  |false =>
   refine iteT (q false H2 ⟨(λz=>nomatch z),λ⟨ks,e,h⟩=>?_⟩ (s1.trans s2));exact absurd (hb.mpr ⟨ks,e,h.st⟩) (by decide)
  |true =>
   obtain ⟨ks,rfl,hk⟩:=hb.mp rfl;have rd2:=(rd.same s1).same s2;unfold dRow at rd2;cases rd2 with
   | @lst a xs _ e n ra =>
    obtain ⟨ks2,rfl,e2⟩:=ZbL ra (by rw [List.all_map];exact YaO.mpr λ_ _=>rfl);have e3:ks=ks2:=ZdI (a:=ks) (b:=ks2) (congrArg PyData.list e2);subst e3;have hR:Row H2 a ks:=e;refine iteF ⟨_,rfl,_,rfl,t,a,rfl,⟨_,hT2.sq⟩,⟨_,hR.sq⟩,ZlD (λi=>.bl (Zfp x (Zat prs i) (ks.getD i 0).toNat)) hT2.sq hR.sq (by rw [Yaa,Yaa,hk.len]) (by rw [Yaa];omega) (λi y z hy hz H' Q' sm q'=>?_) λD1 H3 hD1 s3 hDl=>?_⟩
    ·obtain ⟨hi,rfl⟩:=ZfU hz;obtain ⟨p,hp1,hp2,hp3⟩:=ZaA (prs:=prs) (i:=i) (by rw [<- hk.len];exact hi);rw [Yaf,hp2] at hy;cases hy;have k0:0<=ks.getD i 0:=(hk.bd _ (by rw [Yat,Yac hi];exact YaL hi)).1;refine ⟨_,rfl,_,rfl,_,rfl,p.1,p.2,(ks.getD i 0).toNat,x,?_,(hT2.same sm).r p hp1,by rw [g.len p hp1];omega,λH4 s4=>?_⟩
     ·rw [Int.toNat_of_nonneg k0]
     ·rw [<- hp3];exact q' H4 s4
    ·refine ⟨D1,(List.range prs.length).map λi=>Zfp x (Zat prs i) (ks.getD i 0).toNat,rfl,sqo (by rw [hDl,Yaa,ZcS]),?_⟩;exact q _ H3 (Zmf hk).symm (s1.trans (s2.trans s3))
end
open PySem L2 PyProof.Rows
def ZcD (prs:Prs):List (List Int):=(List.range (w0 prs)).map (col prs)
def negR (ns:List Int):List Int:=ns.reverse.map λn=>-n
def ZbN (prs:Prs):List (List Int):=((prs.map (·.2)).reverse).map negR
section
variable {P:Program}{w:World}{K:Yab}{mg:Str->Option Value}{base:Heap}
def ZhX (f:Prs->List (List Int)):Sp:=λvs H Q _=>∃ (t:Addr) (prs:Prs),vs=[.ref t]/\Tab H t prs/\tabB prs=true/\∀ t' prs' H',H t'=none->(∀ p∈prs',H p.1=none)->(prs'.map (·.1)).Nodup->Same H H'->Tab H' t' prs'->prs'.map (·.2)=f prs->Q (.ref t') H'
theorem Zow:FnScope ["table"] ["table"] (Zad Zny):=scm
theorem ZoZ (T:Blt mg) (D:Zah K mg "laid_over" Zny ["table"]) (G1:FnAt P w K mg base 6 "need_table" ["thing"] ZaH) (G2:FnAt P w K mg base 1 "numbers_at_place" ["table","place"] ZdX):FnAt P w K mg base 7 "laid_over" ["table"] (ZhX ZcD):=by
 refine fao D Zow (λvs H Q E h=>?_) (λf g A o s H vs Q E hr h=>?_)
 ·obtain ⟨t,prs,rfl,_⟩:=h;rfl
 ·obtain ⟨t,prs,rfl,hT,hg,q⟩:=h;obtain ⟨g,g1,g2,g3,g4⟩:=ZaF hg;obtain ⟨p0,hp0,hm0,hx0⟩:=Zbg (prs:=prs) g1;have nd1:(["place","table"]:List Str).Nodup:=by decide +kernel
  refine ⟨_,Zaa (Zaq (pe_f G1 hr (pa1 (pv 0)))) (Zaf (Zak (Zar ["place","table"] [none,some 0] (Zad Zny) ["table"] rfl
   (ZaG rfl T.rng (pa1 (pln T (pix Zaj (pv 0) Zae)))) (by decide +kernel)
   (λ_ _ _ _ _=>pg_c 0 nd1) (λ_ _ _ _ _=>Zam) (λ_ _ _ _ _=>pe_f G2 (hr.mono (by decide)) (Zab (pv 1) (pa1 (pv 0))))))),?_⟩
  refine ⟨_,rfl,t,prs,rfl,hT,Zao hg,hg,λH1 s1=>?_⟩;have hT1:=hT.same s1;refine ⟨_,rfl,t,_,0,.ref p0.1,rfl,rfl,hT1.sq,Zaz (j:=0) (by rw [Yaf,hx0];rfl),p0.1,_,rfl,.inl (hT1.r p0 hm0).sq,_,rfl,by omega,by rw [Yaa,g.len p0 hm0];omega,?_⟩;rw [Yaa,g.len p0 hm0,Yav];refine ZbW (λj=>HO.lst ((col prs j).map V.int)) (by omega) (λj hj H' Q' sm q'=>?_) λD qs H' hD hqm hnd hq sm hDl=>?_
  ·exact ⟨_,rfl,_,rfl,t,prs,j,by rw [Int.zero_add],hT1.same sm,by omega,λp hp=>by rw [g.len p hp];exact hj,λD H'' hD s2 hR=>q' D H'' hD s2 hR⟩
  ·refine q D (qs.map λq=>(q.1,col prs q.2)) H' (s1.free hD) (λp hp=>?_) ?_ (s1.trans sm) ⟨?_,λp hp=>?_⟩ ?_
   ·obtain ⟨q,hq1,rfl⟩:=Yar.mp hp;exact s1.free (hq q hq1).2.1
   ·rw [Yau];exact hnd
   ·rw [hDl,Yau];rfl
   ·obtain ⟨q,hq1,rfl⟩:=Yar.mp hp;exact (hq q hq1).1
   ·unfold ZcD;rw [<- hqm,Yau,Yau];rfl
def ZnO:Sp:=λvs H Q _=>∃ (a:Addr) (ns:List Int),vs=[.ref a]/\Row H a ns/\ns.length<=1000/\∀ D H',H D=none->Same H H'->Row H' D (negR ns)->Q (.ref D) H'
theorem Zov:FnScope ["row"] ["row"] (Zad Znx):=scm
theorem ZoX (hrv:mg "reversed" = none) (D:Zah K mg "turned_row" Znx ["row"]):FnAt P w K mg base 1 "turned_row" ["row"] ZnO:=by
 refine fao D Zov (λvs H Q E h=>?_) (λf g A o s H vs Q E hr h=>?_)
 ·obtain ⟨a,ns,rfl,_⟩:=h;rfl
 ·obtain ⟨a,ns,rfl,hR,hn,q⟩:=h;have nd1:(["number"]:List Str).Nodup:=by decide +kernel
  refine ⟨_,Zaf (Zak (Zar ["number"] [none] (Zad Znx) ["row"] rfl (Zn0 rfl hrv (pa1 (pv 0))) (by decide +kernel)
   (λ_ _ _ _ _=>pg_c 0 nd1) (λ_ _ _ _ _=>Zam) (λ_ _ _ _ _=>Zfl Zfs (pv 0)))),?_⟩
  refine ⟨_,rfl,a,_,rfl,hR.sq,ZlA V.int (λn=>.int (-n)) hR.sq (sl6 hn) (λn hx H' Q' sm q'=>?_) λD H' hD sm hDl=>?_⟩
  ·exact ⟨_,rfl,n,rfl,q' _ (srf _)⟩
  ·refine q D H' hD sm ?_;unfold Row negR;rw [hDl,Yau];rfl
theorem Zmv:FnScope ["table"] ["table"] (Zad ZiA):=scm
theorem Zna (hrv:mg "reversed" = none) (D:Zah K mg "turned_about" ZiA ["table"]) (G1:FnAt P w K mg base 6 "need_table" ["thing"] ZaH) (G2:FnAt P w K mg base 1 "turned_row" ["row"] ZnO):FnAt P w K mg base 7 "turned_about" ["table"] (ZhX ZbN):=by
 refine fao D Zmv (λvs H Q E h=>?_) (λf g A o s H vs Q E hr h=>?_)
 ·obtain ⟨t,prs,rfl,_⟩:=h;rfl
 ·obtain ⟨t,prs,rfl,hT,hg,q⟩:=h;have nd1:(["row"]:List Str).Nodup:=by decide +kernel
  have hs:=Zao hg;refine ⟨_,Zaa (Zaq (pe_f G1 hr (pa1 (pv 0)))) (Zaf (Zak (Zar ["row"] [none] (Zad ZiA) ["table"] rfl (Zn0 rfl hrv (pa1 (pv 0))) (by decide +kernel)
   (λ_ _ _ _ _=>pg_c 0 nd1) (λ_ _ _ _ _=>Zam) (λ_ _ _ _ _=>pe_f G2 (hr.mono (by decide)) (pa1 (pv 0)))))),?_⟩
  refine ⟨_,rfl,t,prs,rfl,hT,hs,hg,λH1 s1=>?_⟩;have hT1:=hT.same s1;refine ⟨_,rfl,t,_,rfl,hT1.sq,ZlB (λp=>V.ref p.1) (λp=>HO.lst ((negR p.2).map V.int)) hT1.sq hs.1 (λp hp H' Q' sm q'=>?_) λD qs H' hD hqm hnd hq sm hDl=>?_⟩
  ·exact ⟨_,rfl,p.1,p.2,rfl,(hT1.r p (List.mem_reverse.mp hp)).same sm,hs.2 p (List.mem_reverse.mp hp),λD H'' hD s2 hR=>q' D H'' hD s2 hR⟩
  ·refine q D (qs.map λq=>(q.1,negR q.2.2)) H' (s1.free hD) (λp hp=>?_) ?_ (s1.trans sm) ⟨?_,λp hp=>?_⟩ ?_
   ·obtain ⟨q,hq1,rfl⟩:=Yar.mp hp;exact s1.free (hq q hq1).2.1
   ·rw [Yau];exact hnd
   ·rw [hDl,Yau];rfl
   ·obtain ⟨q,hq1,rfl⟩:=Yar.mp hp;exact (hq q hq1).1
   ·unfold ZbN;rw [<- List.map_reverse,<- hqm,Yau,Yau,Yau];rfl
end
open PySem L2 PyProof.Rows
theorem Zgo {prs prs':Prs} (hg:tabB prs=true) (h:prs'.map (·.2)=ZcD prs):tabB prs'=true/\prs'.length=w0 prs/\w0 prs'=prs.length:=by
 obtain ⟨g,g1,g2,g3,g4⟩:=ZaF hg;have hl:prs'.length=w0 prs:=by
  have:=congrArg List.length h;unfold ZcD at this;rw [Yaa,Yaa,List.length_range] at this;exact this
 have ha:∀ i,i<prs'.length->Zat prs' i=col prs i:=λi hi=>by
  have e:(prs'.map (·.2))[i]? = (ZcD prs)[i]?:=by rw [h]
  unfold ZcD at e;rw [Yaf,Yaf,List.getElem?_range (by omega)] at e;unfold Zat;rw [e];rfl
 have hm:∀ p∈prs',∃ j,j<w0 prs/\p.2=col prs j:=λp hp=>by
  have:p.2∈ZcD prs:=by rw [<- h];exact Yar.mpr ⟨p,hp,rfl⟩
  unfold ZcD at this;obtain ⟨j,hj,e⟩:=Yar.mp this;exact ⟨j,List.mem_range.mp hj,e.symm⟩
 have gp:GoodP prs.length prs':=by
  refine ⟨λp hp=>?_,λp hp i hi=>?_,λi hi j hj=>?_⟩
  ·obtain ⟨j,_,e⟩:=hm p hp;rw [e,ZfP]
  ·obtain ⟨j,hj,e⟩:=hm p hp;rw [e,ZfP] at hi;rw [e,Zc0 (by omega),Zc0 hi];exact g.down i hi j hj
  ·rw [ha i (by omega),ha (i+1) hi,Zc0 hj,Zc0 hj];obtain ⟨p,hp,_,hp3⟩:=ZaA hj;rw [hp3];exact g.row p hp i (by rw [g.len p hp];omega)
 refine ⟨Ze6 gp (by omega) (by omega) g1 g2,hl,Zok (by omega) gp.len⟩
theorem ZgB {ns:List Int}{i:Nat} (h:i<ns.length):(negR ns).getD i 0 = -(ns.getD (ns.length - 1 - i) 0):=by
 unfold negR;rw [Yat,Yat,Yaf,List.getElem?_reverse h,Yac (by omega)];rfl
theorem ZkK (ns:List Int):(negR ns).length=ns.length:=by
 unfold negR;rw [Yaa,List.length_reverse]
theorem ZfX {prs prs':Prs} (h:prs'.map (·.2)=ZbN prs) {i:Nat} (hi:i<prs.length):Zat prs' i=negR (Zat prs (prs.length - 1 - i)):=by
 have e:(prs'.map (·.2))[i]? = (ZbN prs)[i]?:=by rw [h]
 unfold ZbN at e;rw [Yaf,Yaf,List.getElem?_reverse (by rw [Yaa];exact hi),Yaa,Yaf,Yac (l:=prs) (i:=prs.length - 1 - i) (by omega)] at e;rw [ZnV (prs:=prs) (by omega)];unfold Zat;rw [e];rfl
theorem ZlZ {prs prs':Prs} (h:prs'.map (·.2)=ZbN prs):prs'.length=prs.length:=by
 have:=congrArg List.length h;unfold ZbN at this;rw [Yaa,Yaa,List.length_reverse,Yaa] at this;exact this
theorem Ze3 {prs prs':Prs} (hg:tabB prs=true) (h:prs'.map (·.2)=ZbN prs):tabB prs'=true/\prs'.length=prs.length/\w0 prs'=w0 prs:=by
 obtain ⟨g,g1,g2,g3,g4⟩:=ZaF hg;have hl:=ZlZ h;have hm:∀ p∈prs',∃ q∈prs,p.2=negR q.2:=λp hp=>by
  have:p.2∈ZbN prs:=by rw [<- h];exact Yar.mpr ⟨p,hp,rfl⟩
  unfold ZbN at this;obtain ⟨r,hr,e⟩:=Yar.mp this;obtain ⟨q,hq,e2⟩:=Yar.mp (List.mem_reverse.mp hr);exact ⟨q,hq,by rw [<- e,<- e2]⟩
 have gp:GoodP (w0 prs) prs':=by
  refine ⟨λp hp=>?_,λp hp i hi=>?_,λi hi j hj=>?_⟩
  ·obtain ⟨q,hq,e⟩:=hm p hp;rw [e,ZkK,g.len q hq]
  ·obtain ⟨q,hq,e⟩:=hm p hp;rw [e,ZkK] at hi;rw [e,ZgB (by omega),ZgB hi];have:=g.row q hq (q.2.length - 1 - (i+1)) (by omega);rw [show q.2.length - 1 - (i+1)+1=q.2.length - 1 - i by omega] at this;omega
  ·obtain ⟨p,hp,_,hp3⟩:=ZaA (prs:=prs) (i:=prs.length - 1 - i) (by omega);obtain ⟨q,hq,_,hq3⟩:=ZaA (prs:=prs) (i:=prs.length - 1 - (i+1)) (by omega);have l1:=g.len p hp;have l2:=g.len q hq;rw [ZfX h (by omega),ZfX h (by omega),hp3,hq3,ZgB (by omega),ZgB (by omega),<- hp3,<- hq3,hp3,hq3,l1,l2,<- hp3,<- hq3];have:=g.down (prs.length - 1 - (i+1)) (by omega) (w0 prs - 1 - j) (by omega);rw [show prs.length - 1 - (i+1)+1=prs.length - 1 - i by omega] at this;omega
 exact ⟨Ze6 gp (by omega) (by omega) g3 g4,hl,Zok (by omega) gp.len⟩
theorem Zje (x n:Int) (ns:List Int):mostN x (n :: ns)=(if n<=x then 1 else 0)+mostN x ns:=by
 unfold mostN;rw [List.filter_cons]
 by_cases h:n<=x
 ·simp [h];omega
 ·simp [h]
def eqN (x:Int) (ns:List Int):Nat:=(ns.filter λn=>decide (n=x)).length
theorem Zcl (x:Int):∀ ns:List Int,lessN x ns+eqN x ns=mostN x ns
 | []=>rfl
 |n :: ns=>by
  have:=Zcl x ns;have e:eqN x (n :: ns)=(if n=x then 1 else 0)+eqN x ns:=by
   unfold eqN;rw [List.filter_cons]
   by_cases h:n=x
   ·simp [h];omega
   ·simp [h]
  rw [Zjk,Zje,e];split <;> split <;> split <;> omega
def lowR (prs:Prs) (x:Int):List Int:=prs.map λp=>(lessN x p.2:Int)
def ZgJ (prs:Prs) (x:Int):List Int:=prs.map λp=>(mostN x p.2:Int)
theorem eqN_zero {x:Int}{ns:List Int}:eqN x ns=0 ↔ (ns.any λn=>n == x)=false:=by
 unfold eqN;rw [List.length_eq_zero_iff,List.filter_eq_nil_iff,List.any_eq_false];simp
theorem low_high {prs:Prs}{x:Int}:lowR prs x=ZgJ prs x ↔ hasB prs x=false:=by
 unfold lowR ZgJ hasB;rw [List.any_eq_false];constructor
 ·intro h p hp;have e:(lessN x p.2:Int)=(mostN x p.2:Int):=List.map_inj_left.mp h p hp;have:=Zcl x p.2;rw [eqN_zero.mp (by omega)];decide
 ·intro h;apply List.map_inj_left.mpr;intro p hp;have:=Zcl x p.2;have e:eqN x p.2=0:=eqN_zero.mpr (by
   have:=h p hp;rw [Bool.not_eq_true] at this
   exact this)
  omega
open PySem L2 PyProof.Rows
theorem StairP.nf {r p:Nat}{ns:List Int} (h:StairP r p ns):nfB ns.reverse=true:=by
 refine nfB_iff.mpr λi hi=>?_;rw [List.length_reverse] at hi;rw [Zcw (by omega),Zcw hi];have:=h.down (ns.length - 1 - (i+1)) (by omega);rw [show ns.length - 1 - (i+1)+1=ns.length - 1 - i by omega] at this;exact this
theorem Zla {ns:List Int}{i:Nat} (h:i<ns.length):ns.getD i 0∈ns:=by
 rw [Yat,Yac h];exact YaL h
theorem StairP.at {r p:Nat}{ns:List Int} (h:StairP r p ns) {i:Nat} (hi:i<r):0<=ns.getD i 0/\ns.getD i 0<=p:=h.bd _ (Zla (by rw [h.len];exact hi))
def hal (hs:List Int) (i j k:Nat):Int:=if i<=k then (if (j:Int)<hs.getD k 0 then (j:Int) else hs.getD k 0) else hs.getD k 0
def lag (ls:List Int) (i j k:Nat):Int:=if k<=i then (if (j:Int)+1 > ls.getD k 0 then (j:Int)+1 else ls.getD k 0) else ls.getD k 0
def halL (hs:List Int) (i j:Nat):List Int:=(List.range hs.length).map (hal hs i j)
def lagL (ls:List Int) (i j:Nat):List Int:=(List.range ls.length).map (lag ls i j)
theorem ZfA {hs:List Int}{i j k:Nat} (h:k<hs.length):(halL hs i j).getD k 0=hal hs i j k:=by
 unfold halL;simp [h]
theorem Zfx {ls:List Int}{i j k:Nat} (h:k<ls.length):(lagL ls i j).getD k 0=lag ls i j k:=by
 unfold lagL;simp [h]
open PySem L2 PyProof.Rows
section
variable {P:Program}{w:World}{K:Yab}{mg:Str->Option Value}{base:Heap}
def Zf4:Sp:=λvs H Q _=>∃ (a:Addr) (ns:List Int) (r p:Nat),vs=[.ref a,.int (r:Nat),.int (p:Nat)]/\Row H a ns/\StairP r p ns/\r<=100/\∀ H',Same H H'->Q (.bl true) H'
theorem Zi6 (T:Blt mg) (hre:mg "reversed" = none) (D:Zah K mg "is_stair" Zcy ["thing","rows","places"]) (G1:FnAt P w K mg base 2 "all_whole" ["things"] (Zc8 K)) (G2:FnAt P w K mg base 1 "never_falls" ["numbers"] spNF):FnAt P w K mg base 3 "is_stair" ["thing","rows","places"] Zf4:=by
 refine fao D ZeN (λvs H Q E h=>?_) (λf g A o s H vs Q E hr h=>?_)
 ·obtain ⟨a,ns,r,p,rfl,_⟩:=h;rfl
 ·obtain ⟨a,ns,r,p,rfl,hR,hs,hr4,q⟩:=h;have hn:ns.length<=1000:=by rw [hs.len];omega
  have nd1:(["step","places"]:List Str).Nodup:=by decide +kernel
  refine ⟨_,Zaa (pifF (PW.pt (Zbv (ZaC (ZaB (pe_b ZaP T.isinst boot_isinstance (Zab (pv 0) (pa1 (Zd7 T.list boot_list)))))) (Zbv (pcm ZcE (pln T (pv 0)) (pv 1)) (Zbo (ZaC (ZaB (pe_f G1 hr (pa1 (pv 0))))))))))
   (Zaa (pifF (ZaC (ZaB (pe_b (Za5 rfl) T.all boot_all (pa1 (Zar ["step","places"] [none,some 2] (Zad Zcy) ["thing","rows","places"] rfl (Zau (pv 0)) (by decide +kernel)
    (λ_ _ _ _ _=>pg_c 0 nd1) (λ_ _ _ _ _=>Zam) (λ_ _ _ _ _=>Zbt o_le o_le Zae (pv 0) (pv 1))))))))
   (Zaf (Zak (pe_f G2 (hr.mono (by decide)) (pa1 (ZeW rfl T.list hre (pv 0))))))),?_⟩
  refine ⟨_,rfl,_,_,_,_,rfl,.lst hR,ZkW _,_,rfl,iteF ⟨_,rfl,a,_,rfl,.inl hR.sq,_,rfl,rfl,_,rfl,?_⟩⟩;rw [Yaa,hs.len,Ya4 rfl];refine iteF ⟨_,rfl,a,ns,rfl,hR,hn,λH1 s1=>⟨_,rfl,iteF ?_⟩⟩;have hR1:=hR.same s1;refine ⟨_,rfl,a,rfl,⟨_,hR1.sq⟩,Zba V.int (λ_=>.bl true) hR1.sq (sl6 hn) (λn hx H' Q' sm q'=>?_) λD1 H2 hD1 s2 hDl=>?_⟩
  ·obtain ⟨b1,b2⟩:=hs.bd n hx;refine ⟨_,rfl,_,_,rfl,rfl,_,rfl,?_⟩;rw [Ya4 b1];refine iteT ⟨_,rfl,_,_,rfl,rfl,?_⟩;rw [Ya4 b2];exact q' _ (srf _)
  ·refine ⟨D1,ns.map λ_=>true,rfl,sqo (by rw [hDl];simp [Function.comp]),_,rfl,?_⟩;rw [ZfW];have hR2:=hR1.same s2;refine iteF ⟨_,rfl,a,_,rfl,hR2.sq,λp2 hp2=>?_⟩;have r3:Row (upd H2 p2 (.lst (ns.map V.int).reverse)) p2 ns.reverse:=by
    unfold Row;rw [Zac,List.map_reverse]
   refine ⟨p2,ns.reverse,rfl,r3,by rw [List.length_reverse];exact hn,λH3 s3=>?_⟩;rw [hs.nf];exact q H3 (s1.trans (s2.trans ((snw hp2).trans s3)))
def Zh1:Sp:=λvs H Q _=>∃ r:Nat,vs=[.int (r:Nat)]/\1<=r/\r<=4/\Q (.bl true) H
theorem Zj4:FnScope ["thing"] ["thing"] (Zad ZhH):=scm
theorem Zky (T:Blt mg) (D:Zah K mg "is_side" ZhH ["thing"]) (G:FnAt P w K mg base 1 "is_whole" ["thing"] ZbI):FnAt P w K mg base 2 "is_side" ["thing"] Zh1:=by
 refine fao D Zj4 (λvs H Q E h=>?_) (λf g A o s H vs Q E hr h=>?_)
 ·obtain ⟨r,rfl,_⟩:=h;rfl
 ·obtain ⟨r,rfl,h1,h4,q⟩:=h;obtain ⟨tk,ms⟩:=T.ms;refine ⟨_,Zaf (Zak (ZbQ (pe_f G hr (pa1 (pv 0))) (Zbw (Zbt o_le o_le Zae (pv 0) (Zhj (v:=.int 4) rfl ms ⟨_,rfl⟩))))),?_⟩;refine ⟨_,rfl,_,rfl,_,rfl,iteT ⟨_,rfl,_,_,rfl,rfl,_,rfl,?_⟩⟩;rw [Ya4 (show (1:Int)<=(r:Nat) by omega)];refine iteT ⟨_,_,rfl,rfl,?_⟩;rw [Ya4 (show ((r:Nat):Int)<=4 by omega)];exact q
def ZbT:Sp:=λvs H Q _=>∃ r p:Nat,vs=[.int (r:Nat),.int (p:Nat)]/\1<=r/\r<=4/\1<=p/\p<=4/\Q .non H
theorem Zhf:FnScope ["r","p"] ["r","p"] (Zad Zeq):=scm
theorem Zhn (D:Zah K mg "need_size" Zeq ["r","p"]) (G:FnAt P w K mg base 2 "is_side" ["thing"] Zh1):FnAt P w K mg base 3 "need_size" ["r","p"] ZbT:=by
 refine fao D Zhf (λvs H Q E h=>?_) (λf g A o s H vs Q E hr h=>?_)
 ·obtain ⟨r,p,rfl,_⟩:=h;rfl
 ·obtain ⟨r,p,rfl,h1,h2,h3,h4,q⟩:=h;refine ⟨_,Zaf (Zbn (PW.pt (Zbv (ZaC (ZaB (pe_f G hr (pa1 (pv 0))))) (Zbo (ZaC (ZaB (pe_f G hr (pa1 (pv 1)))))))) ZaX ZaI),?_⟩;exact ⟨_,rfl,r,rfl,h1,h2,_,rfl,iteF ⟨_,rfl,p,rfl,h3,h4,_,rfl,iteF q⟩⟩
def ZjW:Sp:=λvs H Q _=>∃ (a b:Addr) (ls hs:List Int),vs=[.ref a,.ref b]/\Row H a ls/\Row H b hs/\ls.length=hs.length/\ls.length<=100/\(∀ i,i<ls.length->ls.getD i 0<=hs.getD i 0)/\∀ H',Same H H'->Q (.bl true) H'
theorem Zmu:FnScope ["low","high"] ["low","high"] (Zad Ziz):=scm
theorem Zm9 (T:Blt mg) (hzip:mg "zip" = none) (D:Zah K mg "is_at_no_row_above" Ziz ["low","high"]):FnAt P w K mg base 1 "is_at_no_row_above" ["low","high"] ZjW:=by
 refine fao D Zmu (λvs H Q E h=>?_) (λf g A o s H vs Q E hr h=>?_)
 ·obtain ⟨a,b,ls,hs,rfl,_⟩:=h;rfl
 ·obtain ⟨a,b,ls,hs,rfl,hA,hB,hl,hn,hle,q⟩:=h;have nd1:(["lower","higher"]:List Str).Nodup:=by decide +kernel
  refine ⟨_,Zaf (Zak (pe_b (Za5 rfl) T.all boot_all (pa1 (Zar ["lower","higher"] [none,none] (Zad Ziz) ["low","high"] rfl (ZnZ rfl hzip (Zab (pv 0) (pa1 (pv 1)))) (by decide +kernel)
    (λ_ _ _ _ _=>Zp6 K rfl nd1) (λ_ _ _ _ _=>Zam) (λ_ _ _ _ _=>ZaM o_le (pv 0) (pv 1) (Za6 _)))))),?_⟩
  refine ⟨_,rfl,_,rfl,a,b,rfl,⟨_,hA.sq⟩,⟨_,hB.sq⟩,ZlC (λ_=>.bl true) hA.sq hB.sq hl (by omega) (λi hi H' Q' sm q'=>?_) λD1 H2 hD1 s2 hDl=>?_⟩
  ·refine ⟨_,rfl,_,rfl,_,_,rfl,rfl,?_⟩;rw [Ya4 (hle i hi)];exact q' _ (srf _)
  ·refine ⟨D1,(List.range ls.length).map λ_=>true,rfl,sqo (by rw [hDl];simp [Function.comp]),?_⟩;rw [ZfW];exact q H2 s2
structure TwoSt (r p:Nat) (ls hs:List Int):Prop where
 lo:StairP r p ls
 hi:StairP r p hs
 le:∀ i,i<r->ls.getD i 0<=hs.getD i 0
def ZbO:Sp:=λvs H Q _=>∃ (r p:Nat) (a b:Addr) (ls hs:List Int),vs=[.int (r:Nat),.int (p:Nat),.ref a,.ref b]/\r<=4/\Row H a ls/\Row H b hs/\TwoSt r p ls hs/\∀ H',Same H H'->Q .non H'
theorem Zfe:FnScope ["r","p","low","high"] ["r","p","low","high"] (Zad ZcM):=scm
theorem Zfq (D:Zah K mg "need_stairs" ZcM ["r","p","low","high"]) (G1:FnAt P w K mg base 3 "is_stair" ["thing","rows","places"] Zf4) (G2:FnAt P w K mg base 1 "is_at_no_row_above" ["low","high"] ZjW):FnAt P w K mg base 4 "need_stairs" ["r","p","low","high"] ZbO:=by
 refine fao D Zfe (λvs H Q E h=>?_) (λf g A o s H vs Q E hr h=>?_)
 ·obtain ⟨r,p,a,b,ls,hs,rfl,_⟩:=h;rfl
 ·obtain ⟨r,p,a,b,ls,hs,rfl,h4,hA,hB,hS,q⟩:=h;refine ⟨_,Zaf (Zbn (PW.pt (Zbv (ZaC (ZaB (pe_f G1 hr (Zab (pv 2) (Zab (pv 0) (pa1 (pv 1))))))) (Zbv (ZaC (ZaB (pe_f G1 hr (Zab (pv 3) (Zab (pv 0) (pa1 (pv 1))))))) (Zbo (ZaC (ZaB (pe_f G2 (hr.mono (by decide)) (Zab (pv 2) (pa1 (pv 3)))))))))) ZaX ZaI),?_⟩;exact ⟨_,rfl,_,rfl,_,rfl,a,ls,r,p,rfl,hA,hS.lo,by omega,λH1 s1=>⟨_,rfl,iteF ⟨_,rfl,_,rfl,_,rfl,b,hs,r,p,rfl,hB.same s1,hS.hi,by omega,λH2 s2=>⟨_,rfl,iteF ⟨_,rfl,_,rfl,a,b,ls,hs,rfl,(hA.same s1).same s2,(hB.same s1).same s2,by rw [hS.lo.len,hS.hi.len],by rw [hS.lo.len];omega,λi hi=>hS.le i (by rw [<- hS.lo.len];exact hi),λH3 s3=>⟨_,rfl,iteF (q H3 (s1.trans (s2.trans s3)))⟩⟩⟩⟩⟩⟩
def ZeI:Sp:=λvs H Q _=>∃ (a b c:Addr) (ls hs:List Int) (i j:Nat),vs=[.ref a,.ref b,.ref c]/\Row H a ls/\Row H b hs/\Cell H c i j/\i<ls.length/\i<hs.length/\ls.getD i 0<=j/\(j:Int)<hs.getD i 0/\Q (.bl true) H
theorem Zd3:FnScope ["low","high","cell"] ["low","high","cell"] (Zad ZcY):=scm
theorem Zhr (D:Zah K mg "is_left_open" ZcY ["low","high","cell"]):FnAt P w K mg base 1 "is_left_open" ["low","high","cell"] ZeI:=by
 refine fao D Zd3 (λvs H Q E h=>?_) (λf g A o s H vs Q E hr h=>?_)
 ·obtain ⟨a,b,c,ls,hs,i,j,rfl,_⟩:=h;rfl
 ·obtain ⟨a,b,c,ls,hs,i,j,rfl,hA,hB,hC,i1,i2,h1,h2,q⟩:=h;refine ⟨_,Zaf (Zak (Zbt o_le o_lt (pix Zaj (pv 0) (pix ZaJ (pv 2) Zae)) (pix ZaJ (pv 2) Zae) (pix Zaj (pv 1) (pix ZaJ (pv 2) Zae)))),?_⟩;refine ⟨_,rfl,_,rfl,c,_,0,.int (i:Nat),rfl,rfl,sqt hC,rfl,a,_,_,.int (ls.getD i 0),rfl,rfl,hA.sq,ZaW i1,_,rfl,c,_,1,.int (j:Nat),rfl,rfl,sqt hC,rfl,_,_,rfl,rfl,_,rfl,?_⟩;rw [Ya4 h1];refine iteT ⟨_,rfl,_,rfl,c,_,0,.int (i:Nat),rfl,rfl,sqt hC,rfl,b,_,_,.int (hs.getD i 0),rfl,rfl,hB.sq,ZaW i2,_,_,rfl,rfl,?_⟩;rw [Ya4 h2];exact q
def ZeG:Sp:=λvs H Q _=>∃ (r p:Nat) (a b c:Addr) (ls hs:List Int) (i j:Nat) (wd:Str),vs=[.int (r:Nat),.int (p:Nat),.ref a,.ref b,.ref c,.str wd]/\(wd = "less" \/ wd = "greater")/\Row H a ls/\Row H b hs/\TwoSt r p ls hs/\Cell H c i j/\i<r/\ls.getD i 0<=j/\(j:Int)<hs.getD i 0/\∀ H',Same H H'->Q .non H'
theorem Zhg:FnScope ["r","p","low","high","cell","word"] ["r","p","low","high","cell","word"] (Zad Zer):=scm
theorem Zqw (K:Yab):PySem.W.kitOne K (.type "str") (.type "str")=some true:=by kernel_rfl
theorem Znl {wd:Str} (h:wd = "less" \/ wd = "greater"):inV (.str wd) [.str "less", .str "greater"]=true:=by
 rcases h with rfl | rfl <;> decide +kernel
theorem Zho (T:Blt mg) (hstr:mg "str" = none) (D:Zah K mg "need_look" Zer ["r","p","low","high","cell","word"]) (G1:FnAt P w K mg base 3 "is_cell_of_size" ["rows","places","thing"] Ze9) (G2:FnAt P w K mg base 1 "is_left_open" ["low","high","cell"] ZeI):FnAt P w K mg base 4 "need_look" ["r","p","low","high","cell","word"] ZeG:=by
 refine fao D Zhg (λvs H Q E h=>?_) (λf g A o s H vs Q E hr h=>?_)
 ·obtain ⟨r,p,a,b,c,ls,hs,i,j,wd,rfl,_⟩:=h;rfl
 ·obtain ⟨r,p,a,b,c,ls,hs,i,j,wd,rfl,hw,hA,hB,hS,hC,hi,h1,h2,q⟩:=h;have hb:=hS.hi.at hi;refine ⟨_,Zaa (Zbn (PW.pt (Zbv (ZaC (ZaB (pe_f G1 hr (Zab (pv 0) (Zab (pv 1) (pa1 (pv 4))))))) (Zbo (ZaC (ZaB (pe_f G2 (hr.mono (by decide)) (Zab (pv 2) (Zab (pv 3) (pa1 (pv 4)))))))))) ZaX ZaI)
   (Zaf (Zbn (PW.pt (Zbv (ZaC (ZaB (pe_b ZaP T.isinst boot_isinstance (Zab (pv 5) (pa1 (Zd7 hstr boot_str)))))) (Zbo (Zkb Zgp (pv 5) (ZaD (Zab Zd8 (pa1 Zd8))) rfl)))) ZaX ZaI)),?_⟩
  refine ⟨_,rfl,_,rfl,_,rfl,c,r,p,i,j,rfl,hC,hi,by omega,λH1 s1=>⟨_,rfl,iteF ⟨_,rfl,_,rfl,_,rfl,a,b,c,ls,hs,i,j,rfl,hA.same s1,hB.same s1,s1 _ _ hC,by rw [hS.lo.len];exact hi,by rw [hS.hi.len];exact hi,h1,h2,_,rfl,iteF ?_⟩⟩⟩;refine ⟨_,rfl,_,_,_,_,rfl,.str wd,Zqw _,_,rfl,iteF ⟨_,rfl,len2,λT1 hT1=>⟨T1,_,rfl,.inr (sqt Zac),rfl,rfl,_,rfl,?_⟩⟩⟩;have e:inV (.str wd) [.str "less", .str "greater"]=true:=Znl hw;rw [show (if true=true then !inV (.str wd) [V.str "less", .str "greater"] else inV (.str wd) [V.str "less", .str "greater"])=false by rw [e];rfl];exact iteF (q _ (s1.trans (snw hT1)))
def ZdV:Sp:=λvs H Q _=>∃ (b c:Addr) (hs:List Int) (i j:Nat),vs=[.ref b,.ref c]/\Row H b hs/\hs.length<=100/\Cell H c i j/\∀ D H',H D=none->Same H H'->Row H' D (halL hs i j)->Q (.ref D) H'
theorem Zgf:FnScope ["high","cell"] ["high","cell"] (Zad Zcz):=scm
theorem Zgv (T:Blt mg) (hmin:mg "min" = none) (D:Zah K mg "high_after_less" Zcz ["high","cell"]):FnAt P w K mg base 1 "high_after_less" ["high","cell"] ZdV:=by
 refine fao D Zgf (λvs H Q E h=>?_) (λf g A o s H vs Q E hr h=>?_)
 ·obtain ⟨b,c,hs,i,j,rfl,_⟩:=h;rfl
 ·obtain ⟨b,c,hs,i,j,rfl,hB,hn,hC,q⟩:=h;have nd1:(["row","step","cell"]:List Str).Nodup:=by decide +kernel
  refine ⟨_,Zaf (Zak (Zar ["row","step","cell"] [none,none,some 1] (Zad Zcz) ["high","cell"] rfl (Zdb rfl T.enum (pa1 (pv 0))) (by decide +kernel)
    (λ_ _ _ _ _=>Zgm K rfl nd1) (λ_ _ _ _ _=>Zam) (λ_ _ _ _ _=>Zfm (pcm o_ge (pv 0) (pix (ixT K) (pv 2) Zae)) (pe_b (Zg0 rfl) hmin boot_min (Zab (pv 1) (pa1 (pix (ixT K) (pv 2) Zae)))) (pv 1)))),?_⟩
  refine ⟨_,rfl,b,rfl,⟨_,hB.sq⟩,ZgW (λk=>.int (hal hs i j k)) hB.sq (by omega) (λk hk H' Q' sm q'=>?_) λD1 H2 hD1 s2 hDl=>?_⟩
  ·have q2:=q' _ (srf _);have hC':Cell H' c i j:=sm _ _ hC;unfold hal at q2;refine ⟨_,rfl,_,rfl,c,_,0,.int (i:Nat),rfl,rfl,sqt hC',rfl,_,_,rfl,rfl,_,rfl,?_⟩
   by_cases h1:i<=k
   ·rw [Ya7 h1] at q2;rw [Ya4 (show ((i:Nat):Int)<=(k:Nat) by omega)];exact iteT ⟨_,rfl,_,rfl,c,_,1,.int (j:Nat),rfl,rfl,sqt hC',rfl,_,_,rfl,q2⟩
   ·rw [Ya6 h1] at q2;rw [Ya5 (show ¬ ((i:Nat):Int)<=(k:Nat) by omega)];exact iteF ⟨_,rfl,q2⟩
  ·refine q D1 H2 hD1 s2 ?_;unfold Row halL;rw [hDl,Yau];rfl
def ZeH:Sp:=λvs H Q _=>∃ (b c:Addr) (ls:List Int) (i j:Nat),vs=[.ref b,.ref c]/\Row H b ls/\ls.length<=100/\Cell H c i j/\∀ D H',H D=none->Same H H'->Row H' D (lagL ls i j)->Q (.ref D) H'
theorem Zhi:FnScope ["low","cell"] ["low","cell"] (Zad ZcX):=scm
theorem Zhq (T:Blt mg) (D:Zah K mg "low_after_greater" ZcX ["low","cell"]):FnAt P w K mg base 1 "low_after_greater" ["low","cell"] ZeH:=by
 refine fao D Zhi (λvs H Q E h=>?_) (λf g A o s H vs Q E hr h=>?_)
 ·obtain ⟨b,c,hs,i,j,rfl,_⟩:=h;rfl
 ·obtain ⟨b,c,hs,i,j,rfl,hB,hn,hC,q⟩:=h;have nd1:(["row","step","cell"]:List Str).Nodup:=by decide +kernel
  refine ⟨_,Zaf (Zak (Zar ["row","step","cell"] [none,none,some 1] (Zad ZcX) ["low","cell"] rfl (Zdb rfl T.enum (pa1 (pv 0))) (by decide +kernel)
    (λ_ _ _ _ _=>Zgm K rfl nd1) (λ_ _ _ _ _=>Zam) (λ_ _ _ _ _=>Zfm (pcm o_le (pv 0) (pix (ixT K) (pv 2) Zae)) (pe_b (ZbX rfl) T.max boot_max (Zab (pv 1) (pa1 (Zan Zby (pix (ixT K) (pv 2) Zae) Zae)))) (pv 1)))),?_⟩
  refine ⟨_,rfl,b,rfl,⟨_,hB.sq⟩,ZgW (λk=>.int (lag hs i j k)) hB.sq (by omega) (λk hk H' Q' sm q'=>?_) λD1 H2 hD1 s2 hDl=>?_⟩
  ·have q2:=q' _ (srf _);have hC':Cell H' c i j:=sm _ _ hC;unfold lag at q2;refine ⟨_,rfl,_,rfl,c,_,0,.int (i:Nat),rfl,rfl,sqt hC',rfl,_,_,rfl,rfl,_,rfl,?_⟩
   by_cases h1:k<=i
   ·rw [Ya7 h1] at q2;rw [Ya4 (show ((k:Nat):Int)<=(i:Nat) by omega)];exact iteT ⟨_,rfl,_,rfl,c,_,1,.int (j:Nat),rfl,rfl,sqt hC',rfl,_,_,rfl,rfl,_,_,rfl,q2⟩
   ·rw [Ya6 h1] at q2;rw [Ya5 (show ¬ ((k:Nat):Int)<=(i:Nat) by omega)];exact iteF ⟨_,rfl,q2⟩
  ·refine q D1 H2 hD1 s2 ?_;unfold Row lagL;rw [hDl,Yau];rfl
def lowB (wd:Str) (ls:List Int) (i j:Nat):List Int:=if wd = "less" then ls else lagL ls i j
def ZeC (wd:Str) (hs:List Int) (i j:Nat):List Int:=if wd = "less" then halL hs i j else hs
def ZdR:Sp:=λvs H Q _=>∃ (r p:Nat) (a b c:Addr) (ls hs:List Int) (i j:Nat) (wd:Str),vs=[.int (r:Nat),.int (p:Nat),.ref a,.ref b,.ref c,.str wd]/\1<=r/\r<=4/\1<=p/\p<=4/\(wd = "less" \/ wd = "greater")/\Row H a ls/\Row H b hs/\TwoSt r p ls hs/\Cell H c i j/\i<r/\ls.getD i 0<=j/\(j:Int)<hs.getD i 0 /\
 ∀ T1 A1 B1 H',H T1=none->H A1=none->H B1=none->A1≠B1->Same H H'->H' T1=some (.tup [.ref A1,.ref B1])->Row H' A1 (lowB wd ls i j)->Row H' B1 (ZeC wd hs i j)->Q (.ref T1) H'
theorem Zgb:FnScope ["r","p","low","high","cell","word"] ["r","p","low","high","cell","word"] (Zad Zdi):=scm
theorem Zgq (T:Blt mg) (D:Zah K mg "open_after" Zdi ["r","p","low","high","cell","word"]) (G1:FnAt P w K mg base 3 "need_size" ["r","p"] ZbT) (G2:FnAt P w K mg base 4 "need_stairs" ["r","p","low","high"] ZbO)
  (G3:FnAt P w K mg base 4 "need_look" ["r","p","low","high","cell","word"] ZeG) (G4:FnAt P w K mg base 1 "high_after_less" ["high","cell"] ZdV) (G5:FnAt P w K mg base 1 "low_after_greater" ["low","cell"] ZeH):FnAt P w K mg base 5 "open_after" ["r","p","low","high","cell","word"] ZdR:=by
 refine fao D Zgb (λvs H Q E h=>?_) (λf g A o s H vs Q E hr h=>?_)
 ·obtain ⟨r,p,a,b,c,ls,hs,i,j,wd,rfl,_⟩:=h;rfl
 ·obtain ⟨r,p,a,b,c,ls,hs,i,j,wd,rfl,r1,r4,p1,p4,hw,hA,hB,hS,hC,hi,h1,h2,q⟩:=h;have hr1:Room 1 _:=hr.mono (by decide);refine ⟨_,Zaa (Zaq (pe_f G1 (hr.mono (by decide)) (Zab (pv 0) (pa1 (pv 1)))))
   (Zaa (Zaq (pe_f G2 hr (Zab (pv 0) (Zab (pv 1) (Zab (pv 2) (pa1 (pv 3)))))))
   (Zaa (Zaq (pe_f G3 hr (Zab (pv 0) (Zab (pv 1) (Zab (pv 2) (Zab (pv 3) (Zab (pv 4) (pa1 (pv 5)))))))))
   (Zaa (Zbn (pcm Zdy (pv 5) Zd8) (Zaf (Zak (ZaD (Zab (pe_t Zbm T.list boot_list (pa1 (pv 2))) (pa1 (pe_f G4 hr1 (Zab (pv 3) (pa1 (pv 4))))))))) ZaI)
   (Zaf (Zak (ZaD (Zab (pe_f G5 hr1 (Zab (pv 2) (pa1 (pv 4)))) (pa1 (pe_t Zbm T.list boot_list (pa1 (pv 3))))))))))),?_⟩
  refine ⟨_,rfl,_,rfl,r,p,rfl,r1,r4,p1,p4,?_⟩;refine ⟨_,rfl,_,rfl,_,rfl,_,rfl,r,p,a,b,ls,hs,rfl,r4,hA,hB,hS,λH1 s1=>?_⟩;refine ⟨_,rfl,_,rfl,_,rfl,_,rfl,_,rfl,_,rfl,r,p,a,b,c,ls,hs,i,j,wd,rfl,hw,hA.same s1,hB.same s1,hS,s1 _ _ hC,hi,h1,h2,λH2 s2=>?_⟩;have s12:=s1.trans s2;have hA2:=hA.same s12;have hB2:=hB.same s12;have hC2:Cell H2 c i j:=s12 _ _ hC;have hln:ls.length<=100:=by rw [hS.lo.len];omega
  have hhn:hs.length<=100:=by rw [hS.hi.len];omega
  refine ⟨_,rfl,rfl,_,rfl,?_⟩
  by_cases hl:wd = "less"
  ·rw [Ya4 (by rw [hl])];refine iteT ⟨_,rfl,a,_,rfl,.inl hA2.sq,λA1 hA1=>?_⟩;have s3:Same H2 (upd H2 A1 (.lst (ls.map V.int))):=snw hA1;have e3:Row (upd H2 A1 (.lst (ls.map V.int))) A1 ls:=Zac;generalize upd H2 A1 (.lst (ls.map V.int))=H3 at s3 e3 ⊢;refine ⟨_,rfl,_,rfl,b,c,hs,i,j,rfl,hB2.same s3,hhn,s3 _ _ hC2,λB1 H4 hB1 s4 e4=>⟨len2,λT1 hT1=>?_⟩⟩;have s5:Same H4 (upd H4 T1 (.tup [.ref A1,.ref B1])):=snw hT1;have e5:(upd H4 T1 (.tup [.ref A1,.ref B1])) T1=some (.tup [.ref A1,.ref B1]):=Zac;generalize upd H4 T1 (.tup [.ref A1,.ref B1])=H5 at s5 e5 ⊢;refine q T1 A1 B1 H5 ((s12.trans (s3.trans s4)).free hT1) (s12.free hA1) ((s12.trans s3).free hB1) (λz=>?_) (s12.trans (s3.trans (s4.trans s5))) e5 ?_ ?_
   ·rw [<- z] at hB1;unfold Row at e3;rw [e3] at hB1;cases hB1
   ·unfold lowB;rw [Ya7 hl];exact (e3.same s4).same s5
   ·unfold ZeC;rw [Ya7 hl];exact e4.same s5
  ·rw [Ya5 (by intro z;injection z with z;exact hl z)];refine iteF ⟨_,rfl,_,rfl,a,c,ls,i,j,rfl,hA2,hln,hC2,λA1 H3 hA1 s3 e3=>?_⟩;have hB3:=hB2.same s3;refine ⟨_,rfl,b,_,rfl,.inl hB3.sq,λB1 hB1=>⟨len2,λT1 hT1=>?_⟩⟩;have s4:Same H3 (upd H3 B1 (.lst (hs.map V.int))):=snw hB1;have e4:Row (upd H3 B1 (.lst (hs.map V.int))) B1 hs:=Zac;generalize upd H3 B1 (.lst (hs.map V.int))=H4 at s4 e4 hT1 ⊢;have s5:Same H4 (upd H4 T1 (.tup [.ref A1,.ref B1])):=snw hT1;have e5:(upd H4 T1 (.tup [.ref A1,.ref B1])) T1=some (.tup [.ref A1,.ref B1]):=Zac;generalize upd H4 T1 (.tup [.ref A1,.ref B1])=H5 at s5 e5 ⊢;refine q T1 A1 B1 H5 ((s12.trans (s3.trans s4)).free hT1) (s12.free hA1) ((s12.trans s3).free hB1) (λz=>?_) (s12.trans (s3.trans (s4.trans s5))) e5 ?_ ?_
   ·rw [<- z] at hB1;unfold Row at e3;rw [e3] at hB1;cases hB1
   ·unfold lowB;rw [Ya6 hl];exact (e3.same s4).same s5
   ·unfold ZeC;rw [Ya6 hl];exact e4.same s5
end
open PySem L2 PyProof.Rows
section
variable {P:Program}{w:World}{K:Yab}{mg:Str->Option Value}{base:Heap}
def opnB (ls hs:List Int) (i j:Nat):Bool:=decide (ls.getD i 0<=(j:Int)) && decide ((j:Int)<hs.getD i 0)
def ZdU:Sp:=λvs H Q _=>∃ (a b c:Addr) (ls hs:List Int) (i j:Nat),vs=[.ref a,.ref b,.ref c]/\Row H a ls/\Row H b hs/\Cell H c i j/\i<ls.length/\i<hs.length/\Q (.bl (opnB ls hs i j)) H
theorem Zgu (D:Zah K mg "is_left_open" ZcY ["low","high","cell"]):FnAt P w K mg base 1 "is_left_open" ["low","high","cell"] ZdU:=by
 refine fao D Zd3 (λvs H Q E h=>?_) (λf g A o s H vs Q E hr h=>?_)
 ·obtain ⟨a,b,c,ls,hs,i,j,rfl,_⟩:=h;rfl
 ·obtain ⟨a,b,c,ls,hs,i,j,rfl,hA,hB,hC,i1,i2,q⟩:=h;refine ⟨_,Zaf (Zak (Zbt o_le o_lt (pix Zaj (pv 0) (pix ZaJ (pv 2) Zae)) (pix ZaJ (pv 2) Zae) (pix Zaj (pv 1) (pix ZaJ (pv 2) Zae)))),?_⟩;refine ⟨_,rfl,_,rfl,c,_,0,.int (i:Nat),rfl,rfl,sqt hC,rfl,a,_,_,.int (ls.getD i 0),rfl,rfl,hA.sq,ZaW i1,_,rfl,c,_,1,.int (j:Nat),rfl,rfl,sqt hC,rfl,_,_,rfl,rfl,_,rfl,?_⟩;unfold opnB at q
  by_cases h1:ls.getD i 0<=(j:Int)
  ·rw [Ya4 h1] at q ⊢;refine iteT ⟨_,rfl,_,rfl,c,_,0,.int (i:Nat),rfl,rfl,sqt hC,rfl,b,_,_,.int (hs.getD i 0),rfl,rfl,hB.sq,ZaW i2,_,_,rfl,rfl,?_⟩;rw [Bool.true_and] at q;exact q
  ·rw [Ya5 h1] at q ⊢;rw [Bool.false_and] at q;exact iteF q
end
end Seek
namespace Seek
def lsI (w c o:Nat):Bool:=decide (o / w<c / w) || decide (o % w<c % w)
def mrI (w c o:Nat):Bool:=decide (c / w<o / w) || decide (c % w<o % w)
def minN:List Nat->Nat
 | []=>0
 | [a]=>a
 |a :: b :: r=>min a (minN (b :: r))
theorem ZhB:∀ {L:List Nat}{a:Nat},a∈L->minN L<=a
 | [],_,h=>nomatch h
 | [x],a,h=>by
  have:a=x:=by simpa using h
  subst this;exact Yag _
 |x :: y :: r,a,h=>by
  rcases YaF.mp h with z | z
  ·subst z;exact Nat.min_le_left _ _
  ·exact Yay (Nat.min_le_right _ _) (ZhB z)
theorem Zii:∀ {L:List Nat},L≠[]->minN L∈L
 | [],h=>absurd rfl h
 | [x],_=>by simp [minN]
 |x :: y :: r,_=>by
  have ih:minN (y :: r)∈y :: r:=Zii (by simp);unfold minN;rcases Nat.le_total x (minN (y :: r)) with z | z
  ·rw [Nat.min_eq_left z];exact .head _
  ·rw [Nat.min_eq_right z];exact .tail _ ih
theorem ZkN {L:List Nat}{M:Nat} (h:M∈L) (hm:∀ a∈L,M<=a):M=minN L :=
 Nat.le_antisymm (hm _ (Zii (λz=>by rw [z] at h;nomatch h))) (ZhB h)
def fwN (w:Nat):Nat->List Nat->Nat
 | 0,_=>0
 |n+1,L=>minN (L.map λc=>1+max (fwN w n (L.filter (lsI w c))) (fwN w n (L.filter (mrI w c))))
theorem Zjj {w c:Nat}{L:List Nat} (h:c∈L):(L.filter (lsI w c)).length<L.length:=List.length_filter_lt_length_iff_exists.mpr ⟨c,h,by simp [lsI]⟩
theorem Zjd {w c:Nat}{L:List Nat} (h:c∈L):(L.filter (mrI w c)).length<L.length:=List.length_filter_lt_length_iff_exists.mpr ⟨c,h,by simp [mrI]⟩
theorem ZfC (w n:Nat):fwN w n []=0:=by cases n <;> simp [fwN,minN]
theorem ZgK (w:Nat):∀ (n m:Nat) (L:List Nat),L.length<=n->L.length<=m->fwN w n L=fwN w m L
 | 0,m,L,h,_=>by
  have:L=[]:=List.length_eq_zero_iff.mp (by omega);rw [this,ZfC,ZfC]
 |n+1,0,L,_,h=>by
  have:L=[]:=List.length_eq_zero_iff.mp (by omega);rw [this,ZfC,ZfC]
 |n+1,m+1,L,h1,h2=>by
  unfold fwN;refine congrArg minN (List.map_congr_left λc hc=>?_);have a1:=Zjj (w:=w) hc;have a2:=Zjd (w:=w) hc;rw [ZgK w n m _ (by omega) (by omega),ZgK w n m _ (by omega) (by omega)]
def fw (w:Nat) (L:List Nat):Nat:=fwN w L.length L
def thr (w:Nat) (L:List Nat) (c:Nat):Nat:=1+max (fw w (L.filter (lsI w c))) (fw w (L.filter (mrI w c)))
theorem Zlb (w:Nat):fw w []=0:=rfl
theorem Zpi (w:Nat) (L:List Nat):fw w L=minN (L.map (thr w L)):=by
 unfold fw;rw [ZgK w L.length (L.length+1) L (Yag _) (Nat.le_succ _)];unfold fwN;refine congrArg minN (List.map_congr_left λc hc=>?_);have a1:=Zjj (w:=w) hc;have a2:=Zjd (w:=w) hc;unfold thr fw;rw [ZgK w L.length _ _ (by omega) (Yag _),ZgK w L.length _ (L.filter (mrI w c)) (by omega) (Yag _)]
theorem Zno (w:Nat):∀ (n:Nat) (L:List Nat),L.length<=n->fw w L<=L.length
 | 0,L,h=>by
  have:L=[]:=List.length_eq_zero_iff.mp (by omega);rw [this,Zlb];exact Yag _
 |n+1,[],_=>by rw [Zlb];exact Yag _
 |n+1,c :: r,h=>by
  have hc:c∈c :: r:=.head _;have a1:=Zjj (w:=w) hc;have a2:=Zjd (w:=w) hc;have b1:=Zno w n ((c :: r).filter (lsI w c)) (by omega);have b2:=Zno w n ((c :: r).filter (mrI w c)) (by omega);rw [Zpi];have:=ZhB (L:=(c :: r).map (thr w (c :: r))) (a:=thr w (c :: r) c) (Yar.mpr ⟨c,hc,rfl⟩);unfold thr at this ⊢;have m:max (fw w ((c :: r).filter (lsI w c))) (fw w ((c :: r).filter (mrI w c)))<=(c :: r).length - 1:=Nat.max_le.mpr ⟨by omega,by omega⟩;omega
theorem ZpJ {w:Nat}{L:List Nat}{c:Nat} (hc:c∈L):thr w L c<=L.length:=by
 have a1:=Zjj (w:=w) hc;have a2:=Zjd (w:=w) hc;have b1:=Zno w _ (L.filter (lsI w c)) (Yag _);have b2:=Zno w _ (L.filter (mrI w c)) (Yag _);unfold thr;have m:max (fw w (L.filter (lsI w c))) (fw w (L.filter (mrI w c)))<=L.length - 1:=Nat.max_le.mpr ⟨by omega,by omega⟩;omega
theorem Za4 {α β:Type} (g:α->β) (q:β->Bool):∀ L:List α,(L.map g).filter q=(L.filter λa=>q (g a)).map g
 | []=>rfl
 |a :: r=>by
  rw [Yaw,List.filter_cons,List.filter_cons,Za4 g q r];split <;> simp
theorem ZhC {w w':Nat}{g:Nat->Nat} (hg:∀ i,g i / w'=i / w/\g i % w'=i % w):∀ (n:Nat) (L:List Nat),fwN w' n (L.map g)=fwN w n L
 | 0,_=>rfl
 |n+1,L=>by
  unfold fwN;rw [Yau];refine congrArg minN (List.map_congr_left λc hc=>?_);have e1:(L.map g).filter (lsI w' (g c))=(L.filter (lsI w c)).map g:=by
   rw [Za4]
   congr 2
   funext o
   unfold lsI;rw [(hg o).1,(hg o).2,(hg c).1,(hg c).2]
  have e2:(L.map g).filter (mrI w' (g c))=(L.filter (mrI w c)).map g:=by
   rw [Za4]
   congr 2
   funext o
   unfold mrI;rw [(hg o).1,(hg o).2,(hg c).1,(hg c).2]
  show 1+max (fwN w' n ((L.map g).filter (lsI w' (g c)))) (fwN w' n ((L.map g).filter (mrI w' (g c))))=_;rw [e1,e2,ZhC hg n,ZhC hg n]
theorem Zim {w w':Nat}{g:Nat->Nat} (hg:∀ i,g i / w'=i / w/\g i % w'=i % w) (L:List Nat):fw w' (L.map g)=fw w L:=by
 unfold fw;rw [Yaa,ZhC hg]
theorem Zom {w w':Nat}{g:Nat->Nat} (hg:∀ i,g i / w'=i / w/\g i % w'=i % w) (L:List Nat) (c:Nat):thr w' (L.map g) (g c)=thr w L c:=by
 unfold thr;have e1:(L.map g).filter (lsI w' (g c))=(L.filter (lsI w c)).map g:=by
  rw [Za4]
  congr 2
  funext o
  unfold lsI;rw [(hg o).1,(hg o).2,(hg c).1,(hg c).2]
 have e2:(L.map g).filter (mrI w' (g c))=(L.filter (mrI w c)).map g:=by
  rw [Za4]
  congr 2
  funext o
  unfold mrI;rw [(hg o).1,(hg o).2,(hg c).1,(hg c).2]
 rw [e1,e2,Zim hg,Zim hg]
def phi (p i:Nat):Nat:=4 * (i / p)+i % p
theorem ZbP {p:Nat} (h1:1<=p) (h4:p<=4) (i:Nat):phi p i / 4=i / p/\phi p i % 4=i % p:=by
 have:i % p<4:=Yan (Nat.mod_lt i h1) h4;unfold phi;omega
theorem Zq4:∀ r:Fin 5,∀ p:Fin 5,1<=p.val->(List.range (r.val * p.val)).map (phi p.val)=(List.range 16).filter λs=>decide (s / 4<r.val) && decide (s % 4<p.val):=by decide
def Zas (n m:Nat):List Nat:=(List.range n).filter λi=>m.testBit i
theorem Zcp (n m:Nat):(Zas n m).length<=n:=by
 have:=Ybm (λi=>m.testBit i) (List.range n);rw [List.length_range] at this;exact this
theorem mem_bitsN {n m i:Nat}:i∈Zas n m ↔ i<n/\m.testBit i=true:=by
 unfold Zas;rw [List.mem_filter,List.mem_range]
theorem ZlO (n m k:Nat):Zas n (m &&& k)=(Zas n m).filter λi=>k.testBit i:=by
 unfold Zas;rw [List.filter_filter]
 congr 1
 funext i
 rw [Nat.testBit_and,Bool.and_comm]
theorem ZcA {n m k:Nat}{q:Nat->Bool} (h:∀ i,i<n->k.testBit i=q i):Zas n (m &&& k)=(Zas n m).filter q:=by
 rw [ZlO];refine List.filter_congr λi hi=>h i (mem_bitsN.mp hi).1
theorem Zjt (n:Nat):Zas n 0=[]:=by
 unfold Zas;rw [List.filter_eq_nil_iff];intro i _;simp
def msum (n:Nat) (S:Nat->Bool):Nat:=(((List.range n).filter S).map λi=>2 ^ i).sum
theorem ZgC (n:Nat) (S:Nat->Bool):msum (n+1) S=msum n S+if S n then 2 ^ n else 0:=by
 unfold msum;rw [List.range_succ,List.filter_append,Yah,List.sum_append]
 congr 1
 by_cases h:S n=true
 ·rw [Ya7 h,List.filter_cons,Ya7 h];simp
 ·rw [Ya6 h,List.filter_cons,Ya6 h];simp
theorem Zdc (S:Nat->Bool):∀ n,msum n S<2 ^ n
 | 0=>by simp [msum]
 |n+1=>by
  rw [ZgC,Nat.pow_succ];have:=Zdc S n;split <;> omega
theorem Zcv (S:Nat->Bool):∀ n i,(msum n S).testBit i=(decide (i<n) && S i)
 | 0,i=>by simp [msum]
 |n+1,i=>by
  rw [ZgC];have hl:=Zdc S n;have ih:=Zcv S n;rcases Nat.lt_trichotomy i n with z | z | z
  ·rw [Ya4 (show i<n+1 by omega)];split
   ·rw [Nat.add_comm,Nat.testBit_two_pow_add_gt z,ih i,Ya4 z]
   ·rw [Nat.add_zero,ih i,Ya4 z]
  ·subst z;rw [Ya4 (show i<i+1 by omega)];split
   ·rename_i h
    rw [Nat.add_comm,Nat.testBit_two_pow_add_eq,Nat.testBit_lt_two_pow hl,h];rfl
   ·rename_i h
    rw [Nat.add_zero,Nat.testBit_lt_two_pow hl];simp at h;rw [h];rfl
  ·rw [Ya5 (show ¬ i<n+1 by omega),Bool.false_and];refine Nat.testBit_lt_two_pow (Yan (m:=2 ^ (n+1)) ?_ (Nat.pow_le_pow_right (by decide) z));rw [Nat.pow_succ];split <;> omega
theorem Zdq (n:Nat) (S:Nat->Bool):Zas n (msum n S)=(List.range n).filter S:=by
 unfold Zas;refine List.filter_congr λi hi=>?_;rw [Zcv,Ya4 (List.mem_range.mp hi),Bool.true_and]
theorem ZpD {m i:Nat}:(m &&& 2 ^ i=0)=(m.testBit i=false):=by
 apply propext;constructor
 ·intro h;have:=congrArg (λz=>z.testBit i) h;simp only [Nat.testBit_and,Nat.testBit_two_pow_self,Bool.and_true,Nat.zero_testBit] at this;exact this
 ·intro h;apply Nat.eq_of_testBit_eq;intro j;rw [Nat.testBit_and,Nat.testBit_two_pow,Nat.zero_testBit]
  by_cases e:i=j
  ·subst e;rw [h];rfl
  ·rw [Ya5 e,Bool.and_false]
open PySem L2 PyProof.Rows
theorem ZdG {i:Nat}{v:V}{σ:L2.St}{H:Hp}{F:L2.St->Hp->Prop} (h:F (σ.set i (some v)) H):Za1 i v σ H F:=h
section
variable {P:Program}{w:World}{K:Yab}{mg:Str->Option Value}{base:Heap}
end
end Seek
namespace Seek
theorem Zpc:∀ (N:Nat) (l:List Nat),l.Nodup->(∀ x∈l,x<N)->l.length<=N
 | 0,[],_,_=>Yag _
 | 0,x :: r,_,h=>absurd (h x (.head _)) (by omega)
 |N+1,l,hn,h=>by
  have h1:=Zpc N (l.filter λx=>decide (x≠N)) (hn.filter _) (λx hx=>by
   have:=List.mem_filter.mp hx;have h2:=h x this.1;have h3:x≠N:=by simpa using this.2
   omega)
  have h2:(l.filter λx=>!decide (x≠N)).length<=1:=by
   have hn2:(l.filter λx=>!decide (x≠N)).Nodup:=hn.filter _;have hm:∀ x∈l.filter (λx=>!decide (x≠N)),x=N:=λx hx=>by simpa using (List.mem_filter.mp hx).2
   generalize l.filter (λx=>!decide (x≠N))=q at hn2 hm
   match q,hn2,hm with
   | [],_,_=>exact YaH _
   | [_],_,_=>exact Yag _
   |a :: b :: r,hn2,hm =>
    exfalso;have e1:=hm a (.head _);have e2:=hm b (.tail _ (.head _));have:=(Yba.mp hn2).1;exact this (by rw [e1,<- e2];exact .head _)
  have h3:=List.length_eq_countP_add_countP (λx=>decide (x≠N)) (l:=l);rw [List.countP_eq_length_filter,List.countP_eq_length_filter] at h3;have e:(l.filter λx=>decide ¬decide (x≠N)=true)=l.filter λx=>!decide (x≠N):=by
   congr 1
   funext x
   by_cases z:x=N <;> simp [z]
  rw [e] at h3;omega
theorem ZlN {n m:Nat} (hm:m<2 ^ n) (h:Zas n m=[]):m=0:=by
 apply Nat.eq_of_testBit_eq;intro i;rw [Nat.zero_testBit]
 by_cases hi:i<n
 ·cases e:m.testBit i with
  |false=>rfl
  |true =>
   have:i∈Zas n m:=mem_bitsN.mpr ⟨hi,e⟩;rw [h] at this
   nomatch this
 ·exact Nat.testBit_lt_two_pow (Yan hm (Nat.pow_le_pow_right (by decide) (by omega)))
theorem ZiK {m k n:Nat} (h:m<2 ^ n):m &&& k<2 ^ n:=YaZ Nat.and_le_left h
theorem Zru {w:Nat}{L:List Nat}{b:Nat} (h1:∀ c∈L,b<=thr w L c) (h2:∃ c∈L,b=thr w L c):b=fw w L:=by
 rw [Zpi];obtain ⟨c,hc,e⟩:=h2;refine ZkN (Yar.mpr ⟨c,hc,e.symm⟩) λa ha=>?_;obtain ⟨c',hc',rfl⟩:=Yar.mp ha;exact h1 c' hc'
open PySem L2 PyProof.Rows
def But1 (s:Addr) (H H':Hp):Prop:=∀ b o,b≠s->H b=some o->H' b=some o
theorem But1.refl (s:Addr) (H:Hp):But1 s H H:=λ_ _ _ e=>e
theorem But1.trans {s:Addr}{H H1 H2:Hp} (a:But1 s H H1) (b:But1 s H1 H2):But1 s H H2:=λc o n e=>b c o n (a c o n e)
structure Kno (w n:Nat) (kvs:List (Key × V)):Prop where
 nd:(kvs.map (·.1)).Nodup
 ok:∀ k v,valV kvs k=some v->∃ m:Nat,k=.inl (m:Int)/\m<2 ^ n/\v=.int ((fw w (Zas n m):Nat):Int)
theorem Zl5 {kvs:List (Key × V)}{p:Key × V} (h:p∈kvs):∃ v,valV kvs p.1=some v:=by
 cases e:valV kvs p.1 with
 |some v=>exact ⟨v,rfl⟩
 |none=>exact absurd (Yar.mpr ⟨p,h,rfl⟩) (Ze5 e)
theorem Kno.len {w n:Nat}{kvs:List (Key × V)} (h:Kno w n kvs):kvs.length<=2 ^ n:=by
 have f:∀ p∈kvs,∃ m:Nat,p.1=.inl (m:Int)/\m<2 ^ n:=λp hp=>by
  obtain ⟨v,e⟩:=Zl5 hp;obtain ⟨m,h1,h2,_⟩:=h.ok _ _ e;exact ⟨m,h1,h2⟩
 let g:Key->Nat:=λk=>match k with | .inl i=>i.toNat | .inr _=>0
 have hg:∀ p∈kvs,p.1=.inl ((g p.1:Nat):Int)/\g p.1<2 ^ n:=λp hp=>by
  obtain ⟨m,h1,h2⟩:=f p hp;have:g p.1=m:=by rw [h1];exact Yav m
  rw [this];exact ⟨h1,h2⟩
 have h1:((kvs.map (·.1)).map g).Nodup:=by
  refine List.pairwise_map.mpr (List.Pairwise.imp_of_mem ?_ h.nd);intro a b ha hb hne e;obtain ⟨p,hp,rfl⟩:=Yar.mp ha;obtain ⟨q,hq,rfl⟩:=Yar.mp hb;exact hne (by rw [(hg p hp).1,(hg q hq).1,e])
 have:=Zpc (2 ^ n) _ h1 (λx hx=>by
  obtain ⟨k,hk,rfl⟩:=Yar.mp hx;obtain ⟨p,hp,rfl⟩:=Yar.mp hk
  exact (hg p hp).2)
 rw [Yaa,Yaa] at this;exact this
theorem Kno.put' {w n m:Nat}{kvs:List (Key × V)} (h:Kno w n kvs) (hm:m<2 ^ n):Kno w n (putK kvs (.inl (m:Int)) (.int ((fw w (Zas n m):Nat):Int))):=by
 refine ⟨?_,λk v e=>?_⟩
 ·cases hv:valV kvs (.inl (m:Int)) with
  |none=>exact Zpb _ h.nd hv
  |some v =>
   have:(putK kvs (.inl (m:Int)) (.int ((fw w (Zas n m):Nat):Int))).map (·.1)=kvs.map (·.1):=by
    unfold putK;rw [Ya7 (by rw [Zbs,hv];rfl),Yau];refine List.map_congr_left λp hp=>?_;show (if p.1=_ then _ else p).1=p.1;split <;> rfl
   rw [this];exact h.nd
 ·rw [Zcq] at e
  by_cases hk:k=.inl (m:Int)
  ·rw [Ya7 hk] at e;cases e;exact ⟨m,hk,hm,rfl⟩
  ·rw [Ya6 hk] at e;exact h.ok k v e
section
variable {P:Program}{w:World}{K:Yab}{mg:Str->Option Value}{base:Heap}
end
open PySem L2 PyProof.Rows
section
variable {P:Program}{w:World}{K:Yab}{mg:Str->Option Value}{base:Heap}
theorem Zhx {D:Ends}{σ:L2.St}{H:Hp} (h:D.nx σ H):Zma D σ H:=h
theorem ZeQ {k:Nat}{A:Around} (r:Room k A):A.units+1<cLine:=YaZ (Nat.add_le_add_left (by decide:1<=64) _) r.units
theorem ZqM {a b:Nat}:decide (V.int ((a:Nat):Int)=V.int ((b:Nat):Int))=decide (a=b):=by
 rw [ZqN]
 by_cases h:a=b
 ·rw [Ya4 h,Ya4 (by omega)]
 ·rw [Ya5 h,Ya5 (by omega)]
end
open PySem L2 PyProof.Rows
theorem ZcL {tc:TT}{t u:TS}{D:Ends}{σ0:L2.St}{H0:Hp} (C:(L2.St->Hp->Prop)->Prop) (h:C (u D)) (hA:C (u D)->tc σ0 H0 (λb H1=>if b=true then t { D with nx:=u D } σ0 H1 else u D σ0 H1)):tSeq (tIfS tc t Zma) u D σ0 H0:=hA h
open PySem L2 PyProof.Rows
theorem ZgT {o:Obj}{d:Addr}{kvs:List (List Key × V)}{σ0:L2.St}{H1:Hp}{tc:TT}{te:TE}{Q:VK} (p:Nat->Bool) (R:Nat->V->Hp->Prop) (hq:H1 d=some (.frz o (.dT kvs))) (hn:kvs.length<=1000)
  (hR:∀ i y H H',Same H H'->R i y H->R i y H') (hU:∀ i y H D ys u,H D=some (.lst ys)->R i y H->R i y (upd H D u))
  (ht:∀ i ks v b,kvs[i]? = some (ks,v)->∀ H',Same H1 H'->H' b=some (.tup (ks.map kV))->PuT tc (σ0.set 0 (some (.ref b))) H' (p i))
  (he:∀ i ks v b,kvs[i]? = some (ks,v)->p i=true->∀ (H':Hp) (Q':VK),Same H1 H'->H' b=some (.tup (ks.map kV))->(∀ y H'',Same H' H''->R i y H''->Q' y H'')->te (σ0.set 0 (some (.ref b))) H' Q')
  (fin:∀ D H' (zs:List (Nat × V)),H1 D=none->Same H1 H'->H' D=some (.lst (zs.map (·.2)))->zs.map (·.1)=(List.range kvs.length).filter p->(∀ z∈zs,R z.1 z.2 H')->Q (.ref D) H'):ZaQ (Itd o d kvs) (Za1 0) tc te σ0 H1 Q:=by
 intro D hD;refine Zcn (n:=kvs.length) (λi ys H'=>∃ zs:List (Nat × V),Same H1 H'/\H' D=some (.lst ys)/\ys=zs.map (·.2)/\zs.map (·.1)=(List.range i).filter p/\∀ z∈zs,R z.1 z.2 H')
  ⟨[],snw hD,Zac,rfl,rfl,λz hz=>nomatch hz⟩ (λi ys H' _ ⟨_,_,h,_⟩=>h) (λi ys H' hi ⟨_,sm,_⟩=>⟨sm _ _ hq,hi⟩) (λys H' ⟨_,sm,_⟩=>⟨sm _ _ hq,Yag _⟩) ?_ ?_
 ·rintro i ys H' x H2 hi ⟨zs,sm,hDl,rfl,hz1,hzR⟩ ⟨rfl,b,ks,v,hk,rfl,hb⟩;refine ht i ks v b hk H2 sm hb H2 _ (srf _) λH4 s4=>?_;cases hp:p i with
  |false =>
   refine iteF ⟨zs,sm.trans s4,s4 _ _ hDl,rfl,?_,λz hz=>hR _ _ _ _ s4 (hzR z hz)⟩;rw [hz1,List.range_succ,List.filter_append,List.filter_cons,hp];simp
  |true =>
   refine iteT (he i ks v b hk hp H4 _ (sm.trans s4) (s4 _ _ hb) λy H5 s5 hy=>⟨s5 _ _ (s4 _ _ hDl),?_,zs ++ [(i,y)],((sm.trans s4).trans s5).upd hD,Zac,?_,?_,λz hz=>?_⟩)
   ·rw [Yaa];have e:=congrArg List.length hz1;rw [Yaa] at e;have e2:=Ybm p (List.range i);rw [List.length_range] at e2;exact Zav (by omega)
   ·rw [Yah];rfl
   ·rw [Yah,hz1,List.range_succ,List.filter_append,List.filter_cons,hp];simp
   ·refine hU _ _ _ _ _ _ (s5 _ _ (s4 _ _ hDl)) ?_;rcases YaG.mp hz with z1 | z1
    ·exact hR _ _ _ _ (s4.trans s5) (hzR z z1)
    ·have e:z=(i,y):=by simpa using z1
     subst e;exact hy
 ·rintro ys H' ⟨zs,sm,hDl,rfl,hz1,hzR⟩;exact fin D H' zs hD sm hDl hz1 hzR
theorem Zdn {o:Obj}{d:Addr}{kvs:List (List Key × V)}{σ0:L2.St}{H1:Hp}{tc:TT}{te:TE}{Q:VK} (p:Nat->Bool) (f:Nat->V) (hq:H1 d=some (.frz o (.dT kvs))) (hn:kvs.length<=1000)
  (ht:∀ i ks v b,kvs[i]? = some (ks,v)->∀ H',Same H1 H'->H' b=some (.tup (ks.map kV))->PuT tc (σ0.set 0 (some (.ref b))) H' (p i))
  (he:∀ i ks v b,kvs[i]? = some (ks,v)->∀ H',Same H1 H'->H' b=some (.tup (ks.map kV))->Pu te (σ0.set 0 (some (.ref b))) H' (f i))
  (fin:∀ D H',H1 D=none->Same H1 H'->H' D=some (.lst (((List.range kvs.length).filter p).map f))->Q (.ref D) H'):ZaQ (Itd o d kvs) (Za1 0) tc te σ0 H1 Q :=
 ZgT p (λi y _=>y=f i) hq hn (λ_ _ _ _ _ h=>h) (λ_ _ _ _ _ _ _ h=>h) ht (λi ks v b hk _ H' Q' sm hb q'=>he i ks v b hk H' sm hb H' Q' (srf _) λH'' s=>q' _ _ s rfl)
  λD H' zs hD sm hDl hz hR=>fin D H' hD sm (by
   rw [hDl,<- hz,Yau]
   congr 2
   exact List.map_congr_left λz hz=>hR z hz)
def ZaY (p i:Nat):List Key:=[.inl ((i / p:Nat):Int),.inl ((i % p:Nat):Int)]
def Zbc (p n:Nat):List (List Key × V):=(List.range n).map λi=>(ZaY p i,V.int ((2 ^ i:Nat):Int))
theorem Zbf (p n:Nat):(Zbc p n).length=n:=by
 unfold Zbc;rw [Yaa,List.length_range]
theorem ZbM {p n i:Nat}{ks:List Key}{v:V} (h:(Zbc p n)[i]? = some (ks,v)):i<n/\ks=ZaY p i/\v=.int ((2 ^ i:Nat):Int):=by
 unfold Zbc at h;rw [Yaf] at h
 by_cases hi:i<n
 ·rw [List.getElem?_range hi] at h;have h:=Yae h;injection h with h1 h2;exact ⟨hi,h1.symm,h2.symm⟩
 ·rw [List.getElem?_eq_none (by rw [List.length_range];omega)] at h;cases h
theorem Zeg {p i j:Nat} (h:ZaY p i=ZaY p j):i=j:=by
 unfold ZaY at h;injection h with h1 h2;injection h2 with h2 _;have h1:=Sum.inl.inj h1;have h2:=Sum.inl.inj h2;have a:i / p=j / p:=by omega
 have b:i % p=j % p:=by omega
 rw [<- Nat.div_add_mod i p,<- Nat.div_add_mod j p,a,b]
theorem Zju (p n:Nat):valV (Zbc p n) (ZaY p n)=none:=by
 cases e:valV (Zbc p n) (ZaY p n) with
 |none=>rfl
 |some v =>
  have:=Zol e;unfold Zbc at this;rw [Yau] at this;obtain ⟨i,hi,e2⟩:=Yar.mp this;have:=Zeg e2;have:=List.mem_range.mp hi;omega
theorem Zey (p n:Nat):putK (Zbc p n) (ZaY p n) (.int ((2 ^ n:Nat):Int))=Zbc p (n+1):=by
 rw [Zfi _ (Zju p n)];unfold Zbc;rw [List.range_succ,Yah];rfl
theorem ZcB {p n i:Nat} (h:i<n):valV (Zbc p n) (ZaY p i)=some (.int ((2 ^ i:Nat):Int)):=by
 induction n with
 |zero=>omega
 |succ n ih =>
  rw [<- Zey,Zcq]
  by_cases e:i=n
  ·subst e;rw [Ya7 rfl]
  ·rw [Ya6 (λz=>e (Zeg z))];exact ih (by omega)
section
variable {P:Program}{w:World}{K:Yab}{mg:Str->Option Value}{base:Heap}
def Zh3:Sp:=λvs H Q _=>∃ r p:Nat,vs=[.int (r:Nat),.int (p:Nat)]/\r<=4/\1<=p/\p<=4/\∀ d H',H d=none->Same H H'->H' d=some (.dT (Zbc p (r * p)))->Q (.ref d) H'
theorem sc_bitsOf:FnScope ["r","p","bits","bit","row","place"] ["r","p"] (Zad ZhJ):=scm
theorem ZkE (T:Blt mg) (D:Zah K mg "bits_of_cells" ZhJ ["r","p"]):FnAt P w K mg base 1 "bits_of_cells" ["r","p"] Zh3:=by
 refine fao D sc_bitsOf (λvs H Q E h=>?_) (λf g A o s H vs Q E hr h=>?_)
 ·obtain ⟨r,p,rfl,_⟩:=h;rfl
 ·obtain ⟨r,p,rfl,r4,p1,p4,q⟩:=h;have nd:=sc_bitsOf.nd;have hu1:=ZeQ hr;refine ⟨_,Zaa (Zal (i:=2) nd rfl (Or.inl rfl) ZmF)
   (Zaa (Zal (i:=3) nd rfl (Or.inl rfl) Zae)
   (Zaa (Zbi PassesOwn.never rfl (ZaG rfl T.rng (pa1 (pv 0))) (Zax (i:=4) nd rfl (Or.inl rfl))
    (Zaf (Zbi PassesOwn.never rfl (ZaG rfl T.rng (pa1 (pv 1))) (Zax (i:=5) nd rfl (Or.inl rfl))
     (Zaa (Zkc hu1 (pv 2) (ZaD (Zab (pv 4) (pa1 (pv 5)))) (pv 3) rfl)
     (Zaf (Zkd (i:=3) nd rfl (Or.inl rfl) (pv 3) Zpg))))))
   (Zaf (Zak (pv 2))))),?_⟩
  intro bd hbd;have e0:(upd H bd (.dT [])) bd=some (.dT []):=Zac;have s0:Same H (upd H bd (.dT [])):=snw hbd;generalize upd H bd (.dT [])=H0 at e0 s0 ⊢;refine ⟨_,rfl,_,rfl,by omega,by omega,ZaZ (λi σ H2=>∃ (o4 o5:Option V),σ = [some (.int (r:Nat)),some (.int (p:Nat)),some (.ref bd),some (.int ((2 ^ (i * p):Nat):Int)),o4,o5]/\Same H H2/\H2 bd=some (.dT (Zbc p (i * p)))) ⟨none,none,by rw [Nat.zero_mul];rfl,s0,by rw [Nat.zero_mul];exact e0⟩ ?_ ?_⟩
  ·rintro i σ H2 hi ⟨o4,o5,rfl,sm,eD⟩;refine ⟨_,rfl,_,rfl,by omega,by omega,ZaZ (λj σ H2=>∃ (o5:Option V),σ = [some (.int (r:Nat)),some (.int (p:Nat)),some (.ref bd),some (.int ((2 ^ (i * p+j):Nat):Int)),some (.int (0+(i:Nat))),o5]/\Same H H2/\H2 bd=some (.dT (Zbc p (i * p+j)))) ⟨o5,rfl,sm,eD⟩ ?_ ?_⟩
   ·rintro j σ H3 hj ⟨o5,rfl,sm,eD⟩;rw [Yav] at hj;refine ⟨_,rfl,_,rfl,_,rfl,_,rfl,len2,λtb htb=>?_⟩;have ed:(upd H3 tb (.tup [.int (0+(i:Nat)),.int (0+(j:Nat))])) bd=some (.dT (Zbc p (i * p+j))):=(snw htb) _ _ eD;have et:(upd H3 tb (.tup [.int (0+(i:Nat)),.int (0+(j:Nat))])) tb=some (.tup ((ZaY p (i * p+j)).map kV)):=by
     have a:(i * p+j) / p=i:=by rw [Nat.mul_comm,Nat.mul_add_div (by omega),Nat.div_eq_of_lt hj,Nat.add_zero]
     have b:(i * p+j) % p=j:=by rw [Nat.mul_comm,Nat.mul_add_mod,Nat.mod_eq_of_lt hj]
     rw [Zac];unfold ZaY;rw [a,b,Int.zero_add,Int.zero_add];rfl
    have smt:Same H (upd H3 tb (.tup [.int (0+(i:Nat)),.int (0+(j:Nat))])):=sm.trans (snw htb);generalize upd H3 tb (.tup [.int (0+(i:Nat)),.int (0+(j:Nat))])=H4 at ed et smt ⊢;refine ⟨bd,_,rfl,DPut.t ed et (by rw [Zbf];have:=Nat.mul_le_mul_right p (show i<=4 by omega);exact Zav (by omega)),?_⟩;refine ⟨_,rfl,_,rfl,_,_,rfl,rfl,?_⟩;refine ⟨some (.int (0+(j:Nat))),?_,smt.upd hbd,by rw [Zac,Zey];rfl⟩;show [some (V.int (r:Nat)),some (.int (p:Nat)),some (.ref bd),some (.int (((2 ^ (i * p+j):Nat):Int)+((2 ^ (i * p+j):Nat):Int))),some (.int (0+(i:Nat))),some (.int (0+(j:Nat)))]=_;rw [show ((2 ^ (i * p+j):Nat):Int)+((2 ^ (i * p+j):Nat):Int)=((2 ^ (i * p+(j+1)):Nat):Int) by rw [<- Nat.add_assoc,Nat.pow_succ];omega]
   ·rintro σ H3 ⟨o5,rfl,sm,eD⟩;rw [Yav] at *;refine ⟨some (.int (0+(i:Nat))),o5,?_,sm,by rw [eD,Nat.succ_mul]⟩;rw [Nat.succ_mul]
  ·rintro σ H2 ⟨o4,o5,rfl,sm,eD⟩;exact ⟨_,rfl,q bd H2 hbd sm eD⟩
end
open PySem L2 PyProof.Rows
theorem ZhT (g:Nat->Nat):∀ L:List Nat,(L.map λi=>((g i:Nat):Int)).sum=(((L.map g).sum:Nat):Int)
 | []=>rfl
 |a :: r=>by
  rw [Yaw,List.sum_cons,ZhT g r,Yaw,List.sum_cons];omega
theorem ZbV (n:Nat) (S:Nat->Bool):((((List.range n).filter S).map λi=>V.int ((2 ^ i:Nat):Int))=(((List.range n).filter S).map λi=>((2 ^ i:Nat):Int)).map V.int)/\(((List.range n).filter S).map λi=>((2 ^ i:Nat):Int)).sum=((msum n S:Nat):Int) :=
 ⟨by rw [Yau];rfl,ZhT (λi=>2 ^ i) _⟩
theorem ZcH {a b:Nat}:decide ((a:Int)<(b:Int))=decide (a<b):=by
 by_cases h:a<b
 ·rw [Ya4 h,Ya4 (by omega)]
 ·rw [Ya5 h,Ya5 (by omega)]
section
variable {P:Program}{w:World}{K:Yab}{mg:Str->Option Value}{base:Heap}
def spBy (S:Nat->Nat->Nat->Bool):Sp:=λvs H Q _=>∃ (d c:Addr) (o:Obj) (p n i:Nat),vs=[.ref d,.ref c]/\H d=some (.frz o (.dT (Zbc p n)))/\n<=16/\H c=some (.tup ((ZaY p i).map kV))/\∀ H',Same H H'->Q (.int ((msum n (S p i):Nat):Int)) H'
theorem Zj6:FnScope ["bits","cell"] ["bits","cell"] (Zad ZfN):=scm
theorem ZoB:FnScope ["bits","cell"] ["bits","cell"] (Zad ZnC):=scm
theorem key0 {p i:Nat}:atI ((ZaY p i).map kV) 0=some (.int ((i / p:Nat):Int)):=rfl
theorem key1 {p i:Nat}:atI ((ZaY p i).map kV) 1=some (.int ((i % p:Nat):Int)):=rfl
theorem ZkD (hsum:mg "sum" = none) (D:Zah K mg "left_by_less" ZfN ["bits","cell"]):FnAt P w K mg base 1 "left_by_less" ["bits","cell"] (spBy lsI):=by
 refine fao D Zj6 (λvs H Q E h=>?_) (λf g A o s H vs Q E hr h=>?_)
 ·obtain ⟨d,c,o,p,n,i,rfl,_⟩:=h;rfl
 ·obtain ⟨d,c,o,p,n,i,rfl,hd,hn,hc,q⟩:=h;have nd1:(["other","bits","cell"]:List Str).Nodup:=by decide +kernel
  have hu1:=ZeQ hr;refine ⟨_,Zaf (Zak (pe_b (Zc1 rfl) hsum boot_sum (pa1 (Zar ["other","bits","cell"] [none,some 0,some 1] (Zad ZfN) ["bits","cell"] rfl (Zfk (pv 0)) (by decide +kernel)
   (λ_ _ _ _ _=>pg_c 0 nd1) (λ_ _ _ _ _=>ZaR (PW.pt (Zbv (pcm o_lt (pix (ixT K) (pv 0) Zae) (pix (ixT K) (pv 2) Zae)) (Zbo (pcm o_lt (pix (ixT K) (pv 0) Zae) (pix (ixT K) (pv 2) Zae))))))
   (λ_ _ _ _ _=>Zd9 hu1 (pv 1) (pv 0) (λ_ _=>rfl)))))),?_⟩
  refine ⟨_,rfl,d,_,rfl,.inr ⟨o,hd,Zdn (lsI p i) (λj=>V.int ((2 ^ j:Nat):Int)) hd (by rw [Zbf];omega) (λj ks v b hj H1 s1 hb H2 Q2 s2 q2=>?_) (λj ks v b hj H1 s1 hb H2 Q2 s2 q2=>?_) λD H' hD sm hDl=>?_⟩⟩
  ·obtain ⟨hj1,rfl,rfl⟩:=ZbM hj;refine ⟨_,rfl,b,_,0,_,rfl,rfl,sqt (s2 _ _ hb),key0,_,rfl,c,_,0,_,rfl,rfl,sqt ((s1.trans s2) _ _ hc),key0,_,_,rfl,rfl,_,rfl,?_⟩;have q3:=q2 H2 (srf _);unfold lsI at q3;rw [ZcH]
   by_cases h1:j / p<i / p
   ·rw [Ya4 h1] at q3 ⊢;exact iteT q3
   ·rw [Ya5 h1,Bool.false_or] at q3;rw [Ya5 h1];refine iteF ⟨_,rfl,b,_,1,_,rfl,rfl,sqt (s2 _ _ hb),key1,_,rfl,c,_,1,_,rfl,rfl,sqt ((s1.trans s2) _ _ hc),key1,_,_,rfl,rfl,_,rfl,?_⟩;rw [ZcH];exact q3
  ·obtain ⟨hj1,rfl,rfl⟩:=ZbM hj;refine ⟨_,rfl,_,rfl,d,_,rfl,?_,q2 H2 (srf _)⟩;exact .inr ⟨_,_,b,.inr ⟨o,(s1.trans s2) _ _ hd⟩,rfl,s2 _ _ hb,(ZcB hj1).symm⟩
  ·rw [Zbf,(ZbV n (lsI p i)).1] at hDl;refine ⟨D,_,rfl,sqo hDl,?_⟩;rw [(ZbV n (lsI p i)).2];exact q H' sm
theorem Zo5 (hsum:mg "sum" = none) (D:Zah K mg "left_by_greater" ZnC ["bits","cell"]):FnAt P w K mg base 1 "left_by_greater" ["bits","cell"] (spBy mrI):=by
 refine fao D ZoB (λvs H Q E h=>?_) (λf g A o s H vs Q E hr h=>?_)
 ·obtain ⟨d,c,o,p,n,i,rfl,_⟩:=h;rfl
 ·obtain ⟨d,c,o,p,n,i,rfl,hd,hn,hc,q⟩:=h;have nd1:(["other","bits","cell"]:List Str).Nodup:=by decide +kernel
  have hu1:=ZeQ hr;refine ⟨_,Zaf (Zak (pe_b (Zc1 rfl) hsum boot_sum (pa1 (Zar ["other","bits","cell"] [none,some 0,some 1] (Zad ZnC) ["bits","cell"] rfl (Zfk (pv 0)) (by decide +kernel)
   (λ_ _ _ _ _=>pg_c 0 nd1) (λ_ _ _ _ _=>ZaR (PW.pt (Zbv (pcm o_gt (pix (ixT K) (pv 0) Zae) (pix (ixT K) (pv 2) Zae)) (Zbo (pcm o_gt (pix (ixT K) (pv 0) Zae) (pix (ixT K) (pv 2) Zae))))))
   (λ_ _ _ _ _=>Zd9 hu1 (pv 1) (pv 0) (λ_ _=>rfl)))))),?_⟩
  refine ⟨_,rfl,d,_,rfl,.inr ⟨o,hd,Zdn (mrI p i) (λj=>V.int ((2 ^ j:Nat):Int)) hd (by rw [Zbf];omega) (λj ks v b hj H1 s1 hb H2 Q2 s2 q2=>?_) (λj ks v b hj H1 s1 hb H2 Q2 s2 q2=>?_) λD H' hD sm hDl=>?_⟩⟩
  ·obtain ⟨hj1,rfl,rfl⟩:=ZbM hj;refine ⟨_,rfl,b,_,0,_,rfl,rfl,sqt (s2 _ _ hb),key0,_,rfl,c,_,0,_,rfl,rfl,sqt ((s1.trans s2) _ _ hc),key0,_,_,rfl,rfl,_,rfl,?_⟩;have q3:=q2 H2 (srf _);unfold mrI at q3;rw [ZcH]
   by_cases h1:i / p<j / p
   ·rw [Ya4 h1] at q3 ⊢;exact iteT q3
   ·rw [Ya5 h1,Bool.false_or] at q3;rw [Ya5 h1];refine iteF ⟨_,rfl,b,_,1,_,rfl,rfl,sqt (s2 _ _ hb),key1,_,rfl,c,_,1,_,rfl,rfl,sqt ((s1.trans s2) _ _ hc),key1,_,_,rfl,rfl,_,rfl,?_⟩;rw [ZcH];exact q3
  ·obtain ⟨hj1,rfl,rfl⟩:=ZbM hj;refine ⟨_,rfl,_,rfl,d,_,rfl,?_,q2 H2 (srf _)⟩;exact .inr ⟨_,_,b,.inr ⟨o,(s1.trans s2) _ _ hd⟩,rfl,s2 _ _ hb,(ZcB hj1).symm⟩
  ·rw [Zbf,(ZbV n (mrI p i)).1] at hDl;refine ⟨D,_,rfl,sqo hDl,?_⟩;rw [(ZbV n (mrI p i)).2];exact q H' sm
end
end Seek
namespace L2
open PySem PySem.Spec PyProof.Rows
theorem Zfn {X:Cx}{e:Expr}{ta:TE}{f:Str}{pos:Pos} (K:Yab) (he:PE X e ta) (hb:attributeBase e f X.env (eval e X.env)=eval e X.env) (hK:X.K=K:=by rfl):PE X (.Attribute e f pos) (tFld K ta f):=by
 subst hK;exact Zbp he hb
end L2
namespace Seek
open PySem L2 PyProof.Rows
structure RkC (K:Yab) (C:Addr):Prop where
 cls:Cls K C
 nb:NoAttr K C "bits"
 nl:NoAttr K C "looks"
 nk:NoAttr K C "known"
abbrev rkF (db dl dk:Addr):List (Str × V):=[("bits", .ref db),("looks", .ref dl),("known", .ref dk)]
structure Rk (H:Hp) (C a dx db dl dk:Addr) (o:Obj) (p n:Nat) (qs:List (Addr × Addr)) (kvs:List (Key × V)):Prop where
 ob:H a=some (.ins C dx (rkF db dl dk))
 hb:H db=some (.frz o (.dT (Zbc p n)))
 hl:H dl=some (.lst (qs.map λq=>V.ref q.1))
 ln:qs.length=n
 hq:∀ i q,qs[i]? = some q->H q.1=some (.tup [.ref q.2,.int ((msum n (lsI p i):Nat):Int),.int ((msum n (mrI p i):Nat):Int)])/\H q.2=some (.tup ((ZaY p i).map kV))
 hk:H dk=some (.dK kvs)
 kn:Kno p n kvs
 kz:(valV kvs (.inl 0)).isSome=true
 n16:n<=16
theorem Rk.same {H H':Hp}{C a dx db dl dk:Addr}{o:Obj}{p n:Nat}{qs:List (Addr × Addr)}{kvs:List (Key × V)} (h:Rk H C a dx db dl dk o p n qs kvs) (s:Same H H'):Rk H' C a dx db dl dk o p n qs kvs :=
 ⟨s _ _ h.ob,s _ _ h.hb,s _ _ h.hl,h.ln,λi q hi=>let ⟨h1,h2⟩:=h.hq i q hi;⟨s _ _ h1,s _ _ h2⟩,s _ _ h.hk,h.kn,h.kz,h.n16⟩
theorem Rk.but {H H':Hp}{C a dx db dl dk:Addr}{o:Obj}{p n:Nat}{qs:List (Addr × Addr)}{kvs kvs':List (Key × V)} (h:Rk H C a dx db dl dk o p n qs kvs) (b:But1 dk H H') (e:H' dk=some (.dK kvs')) (k:Kno p n kvs') (kz:(valV kvs' (.inl 0)).isSome=true):Rk H' C a dx db dl dk o p n qs kvs':=by
 have f:∀ {x:Addr}{u:HO},H x=some u->(∀ kv,u≠.dK kv)->H' x=some u:=λ{x u} hx hu=>b _ _ (λz=>by
  rw [z,h.hk] at hx
  exact hu _ (Yae hx).symm) hx
 exact ⟨f h.ob (λ_ z=>by cases z),f h.hb (λ_ z=>by cases z),f h.hl (λ_ z=>by cases z),h.ln,λi q hi=>let ⟨h1,h2⟩:=h.hq i q hi;⟨f h1 (λ_ z=>by cases z),f h2 (λ_ z=>by cases z)⟩,e,k,kz,h.n16⟩
section
variable {P:Program}{w:World}{K:Yab}{mg:Str->Option Value}{base:Heap}{C:Addr}
theorem sc_rInit:FnScope ["self","r","p"] ["self","r","p"] (Zad (Zaw Zap 0)):=scm
def kn0:List (Key × V):=[(.inl 0,.int 0)]
theorem Zqv (p n:Nat):Kno p n kn0:=by
 refine ⟨by unfold kn0;simp,λk v e=>?_⟩;unfold kn0 at e
 by_cases hk:(Sum.inl 0:Key)=k
 ·rw [Zbd hk] at e;cases e;exact ⟨0,hk.symm,Nat.pow_pos (by decide),by rw [Zjt,Zlb];rfl⟩
 ·rw [Zbe hk,Zl4] at e;cases e
def Zha (C:Addr):Sp:=λvs H Q _=>∃ (a dx:Addr) (r p:Nat),vs=[.ref a,.int (r:Nat),.int (p:Nat)]/\H a=some (.ins C dx [])/\r<=4/\1<=p/\p<=4 /\
 ∀ db dl dk o qs H',But1 a H H'->H db=none->H dl=none->H dk=none->Rk H' C a dx db dl dk o p (r * p) qs kn0->Q .non H'
theorem ZmS (kc:RkC K C) (D:Zay K C "__init__" "Reckoning.__init__" (Zaw Zap 0) ["self","r","p"]) (G1:FnAt P w K mg base 1 "bits_of_cells" ["r","p"] Zh3) (G2:FnAt P w K mg base 1 "left_by_less" ["bits","cell"] (spBy lsI)) (G3:FnAt P w K mg base 1 "left_by_greater" ["bits","cell"] (spBy mrI)) :
  MtAt P w K mg base 2 C "__init__" ["self","r","p"] (Zha C):=by
 refine MtAt.of D sc_rInit (λvs H Q E h=>?_) (λf g A o s H vs Q E hr h=>?_)
 ·obtain ⟨a,dx,r,p,rfl,_⟩:=h;rfl
 ·obtain ⟨a,dx,r,p,rfl,ea,r4,p1,p4,q⟩:=h;have nd:=sc_rInit.nd;have nd1:(["cell","self"]:List Str).Nodup:=by decide +kernel
  refine ⟨_,Zaa (Zd5 (pv 0) (pe_f G1 hr (Zab (pv 1) (pa1 (pv 2)))) rfl)
   (Zaa (Zd5 (pv 0) (Zar ["cell","self"] [none,some 0] (Zad (Zaw Zap 0)) ["self","r","p"] rfl (Zfk (Zbp (pv 0) rfl)) (by decide +kernel)
    (λ_ _ _ _ _=>pg_c 0 nd1) (λ_ _ _ _ _=>Zam) (λ_ _ _ _ _=>ZaD (Zab (pv 0) (Zab (pe_f G2 hr (Zab (Zfn K (pv 1) rfl) (pa1 (pv 0)))) (pa1 (pe_f G3 hr (Zab (Zfn K (pv 1) rfl) (pa1 (pv 0))))))))) rfl)
   (Zaf (Zd5 (pv 0) (ZoO (ZmB Zae Zae ZoH) rfl rfl (List.cons_ne_nil _ _) (show 1<=15 by decide)) rfl))),?_⟩
  refine ⟨_,rfl,_,rfl,r,p,rfl,r4,p1,p4,λdb H1 hdb s1 e1=>?_⟩;refine ⟨_,rfl,a,C,dx,[],rfl,s1 _ _ ea,kc.cls,kc.nb,by decide,?_⟩;have nba:db≠a:=λz=>by rw [z,ea] at hdb;cases hdb
  have k2:∀ b o,b≠a->H1 b=some o->(upd H1 a (.ins C dx (putF "bits" (.ref db) []))) b=some o:=λb o n e=>by rw [Zag n];exact e
  have e2:(upd H1 a (.ins C dx (putF "bits" (.ref db) []))) a=some (.ins C dx [("bits", .ref db)]):=Zac;have d2:=k2 _ _ nba e1;generalize upd H1 a (.ins C dx (putF "bits" (.ref db) []))=H2 at k2 e2 d2 ⊢;have B2:But1 a H H2:=λb o n e=>k2 b o n (s1 _ _ e);refine ⟨_,rfl,a,C,dx,_,_,rfl,e2,kc.cls,kc.nb,rfl,db,_,rfl,.inl ⟨d2,λo=>?_⟩⟩;have f3:(upd H2 db (.frz o (.dT (Zbc p (r * p))))) db=some (.frz o (.dT (Zbc p (r * p)))):=Zac;have e3:(upd H2 db (.frz o (.dT (Zbc p (r * p))))) a=some (.ins C dx [("bits", .ref db)]):=by rw [Zag (Ne.symm nba)];exact e2
  have B3:But1 a H (upd H2 db (.frz o (.dT (Zbc p (r * p))))):=λb u n e=>by
   rw [Zag (λz=>by rw [z,hdb] at e;cases e)];exact B2 b u n e
  have free3:∀ x,(upd H2 db (.frz o (.dT (Zbc p (r * p))))) x=none->x≠a->H x=none:=λx hx n=>by
   cases e:H x with
   |none=>rfl
   |some u=>rw [B3 x u n e] at hx;cases hx
  generalize upd H2 db (.frz o (.dT (Zbc p (r * p))))=H3 at f3 e3 B3 free3 ⊢;have hn:r * p<=16:=by
   have:=Nat.mul_le_mul r4 p4;omega
  refine ZgT (λ_=>true) (λi y H'=>∃ q b:Addr,y=.ref q/\H' q=some (.tup [.ref b,.int ((msum (r * p) (lsI p i):Nat):Int),.int ((msum (r * p) (mrI p i):Nat):Int)])/\H' b=some (.tup ((ZaY p i).map kV))) f3 (by rw [Zbf];omega)
   (λi y H4 H5 s5 ⟨q,b,h1,h2,h3⟩=>⟨q,b,h1,s5 _ _ h2,s5 _ _ h3⟩) (λi y H4 D ys u hD ⟨q,b,h1,h2,h3⟩=>⟨q,b,h1,by rw [Zag (λz=>by rw [z,hD] at h2;cases h2)];exact h2,by rw [Zag (λz=>by rw [z,hD] at h3;cases h3)];exact h3⟩)
   (λi ks v b _ H4 _ _=>Zh9) (λi ks v b hk _ H4 Q4 s4 hb q4=>?_) λDl H4 zs hDl s4 eDl hz hzR=>?_
  ·obtain ⟨hi,rfl,rfl⟩:=ZbM hk;refine ⟨_,rfl,_,rfl,a,C,dx,_,_,rfl,s4 _ _ e3,kc.cls,kc.nb,rfl,_,rfl,db,b,o,p,r * p,i,rfl,s4 _ _ f3,hn,hb,λH5 s5=>?_⟩;refine ⟨_,rfl,a,C,dx,_,_,rfl,s5 _ _ (s4 _ _ e3),kc.cls,kc.nb,rfl,_,rfl,db,b,o,p,r * p,i,rfl,s5 _ _ (s4 _ _ f3),hn,s5 _ _ hb,λH6 s6=>?_⟩;refine ⟨len3,λt ht=>q4 _ _ ((s5.trans s6).trans (snw ht)) ⟨t,b,rfl,Zac,?_⟩⟩;exact (snw ht) _ _ (s6 _ _ (s5 _ _ hb))
  ·have hzl:zs.map (·.1)=List.range (r * p):=by
    rw [hz,Zbf];exact List.filter_eq_self.mpr λ_ _=>rfl
   have nDa:Dl≠a:=λz=>by rw [z,e3] at hDl;cases hDl
   refine ⟨_,rfl,a,C,dx,_,rfl,s4 _ _ e3,kc.cls,kc.nl,(by show 1<1000;decide),?_⟩;have k5:∀ b u,b≠a->H4 b=some u->(upd H4 a (.ins C dx (putF "looks" (.ref Dl) [("bits", .ref db)]))) b=some u:=λb u n e=>by rw [Zag n];exact e
   have e5:(upd H4 a (.ins C dx (putF "looks" (.ref Dl) [("bits", .ref db)]))) a=some (.ins C dx [("bits", .ref db),("looks", .ref Dl)]):=Zac;generalize upd H4 a (.ins C dx (putF "looks" (.ref Dl) [("bits", .ref db)]))=H5 at k5 e5 ⊢;have B5:But1 a H H5:=λb u n e=>k5 b u n (s4 _ _ (B3 b u n e));intro dk hdk;refine ⟨Zac,[(.inl 0,.int 0)],rfl,by decide,?_⟩;have nka:dk≠a:=λz=>by rw [z,e5] at hdk;cases hdk
   have s6:Same H5 (upd (upd H5 dk (.dK [])) dk (.dK (Zds [] [(.inl 0,.int 0)]))):=((srf H5).upd hdk).upd hdk;have e6:(upd (upd H5 dk (.dK [])) dk (.dK (Zds [] [(.inl 0,.int 0)]))) dk=some (.dK kn0):=Zac;generalize upd (upd H5 dk (.dK [])) dk (.dK (Zds [] [(.inl 0,.int 0)]))=H6 at s6 e6 ⊢;refine ⟨_,rfl,a,C,dx,_,rfl,s6 _ _ e5,kc.cls,kc.nk,(by show 2<1000;decide),?_⟩;have k7:∀ b u,b≠a->H6 b=some u->(upd H6 a (.ins C dx (putF "known" (.ref dk) [("bits", .ref db),("looks", .ref Dl)]))) b=some u:=λb u n e=>by rw [Zag n];exact e
   have na:∀ {x:Addr}{u:HO},H4 x=some u->(∀ fs,u≠.ins C dx fs)->x≠a:=λ{x u} hx hu z=>by
    rw [z,s4 _ _ e3] at hx;exact hu _ (Yae hx).symm
   have up:∀ {x:Addr}{u:HO},H4 x=some u->(∀ fs,u≠.ins C dx fs)->(upd H6 a (.ins C dx (putF "known" (.ref dk) [("bits", .ref db),("looks", .ref Dl)]))) x=some u:=λ{x u} hx hu=>k7 _ _ (na hx hu) (s6 _ _ (k5 _ _ (na hx hu) hx));have hdk0:H dk=none:=by
    cases e:H dk with
    |none=>rfl
    |some u=>rw [B5 dk u nka e] at hdk;cases hdk
   refine q db Dl dk o (zs.map λz=>match z.2 with | .ref q=>(q,match H4 q with | some (.tup (.ref b :: _))=>b | _=>0) | _=>(0,0)) _ (λb u n e=>k7 b u n (s6 _ _ (B5 b u n e))) hdb (free3 Dl hDl nDa) hdk0 ⟨Zac,up (s4 _ _ f3) (λ_ z=>by cases z),?_,?_,?_,k7 _ _ nka e6,Zqv _ _,rfl,hn⟩
   ·rw [up eDl (λ_ z=>by cases z),Yau]
    congr 2
    refine List.map_congr_left λz hz'=>?_;obtain ⟨q,b,h1,_⟩:=hzR z hz';show z.2=_;simp only [Function.comp,h1]
   ·rw [Yaa];have:=congrArg List.length hzl;rw [Yaa,List.length_range] at this;exact this
   ·intro i q' hi;rw [Yaf] at hi;cases ez:zs[i]? with
    |none=>rw [ez] at hi;cases hi
    |some z =>
     rw [ez] at hi;have hi:=Yae hi;have hz':=YaP ez;obtain ⟨q,b,h1,h2,h3⟩:=hzR z hz';have e1:z.1=i:=by
      have h5:(zs.map (·.1))[i]? = some z.1:=by rw [Yaf,ez];rfl
      rw [hzl] at h5;have h6:=(Yai.mp h5);obtain ⟨h7,h8⟩:=h6;rw [List.getElem_range] at h8;exact h8.symm
     rw [e1] at h2 h3;have e2:q'=(q,b):=by
      rw [<- hi];simp only [h1,h2]
     subst e2;exact ⟨up h2 (λ_ z=>by cases z),up h3 (λ_ z=>by cases z)⟩
end
end Seek
namespace L2
open PySem PySem.Spec PyProof.Rows
def tI (t:TE):TT:=λσ H Q=>t σ H λx H1=>∃ i:Int,x=.int i/\Q (i != 0) H1
theorem Zp5 {X:Cx}{e:Expr}{t:TE} (h:PE X e t) (he:∀ whole,isTrue e X.env whole=(do let v <- whole;standAt e.pos;holding [v] (truthy v)):=by intro _;rfl):PT X e (tI t):=by
 intro pins s σ H Q I hw;refine isTrue_plain (thn (h pins s σ H _ I hw) λv s1 ⟨x,H1,I1,r1,q1⟩=>?_) (he _);obtain ⟨i,rfl,q⟩:=q1;obtain ⟨t,rfl⟩:=r1;exact PySem.P.truthy_int ⟨H1,I1,q⟩
end L2
namespace Seek
open PySem L2 PyProof.Rows
theorem Zjx (m i:Nat):((((m:Int).toNat &&& ((2 ^ i:Nat):Int).toNat:Nat):Int) != 0)=m.testBit i:=by
 rw [Yav,Yav];have h:=ZpD (m:=m) (i:=i);cases e:m.testBit i with
 |false =>
  rw [e] at h;rw [show m &&& 2 ^ i=0 from by rw [h]];rfl
 |true =>
  rw [e] at h;have h2:m &&& 2 ^ i≠0:=by rw [Ne,h];simp
  rw [bne_iff_ne];omega
section
variable {P:Program}{w:World}{K:Yab}{mg:Str->Option Value}{base:Heap}{C:Addr}
def Zhb (C:Addr):Sp:=λvs H Q _=>∃ (a dx db dl dk la lb:Addr) (o:Obj) (r p:Nat) (qs:List (Addr × Addr)) (kvs:List (Key × V)) (ls hs:List Int),vs=[.ref a,.ref la,.ref lb]/\Rk H C a dx db dl dk o p (r * p) qs kvs/\Row H la ls/\Row H lb hs/\ls.length=r/\hs.length=r /\
 ∀ H',Same H H'->Q (.int ((msum (r * p) (λi=>opnB ls hs (i / p) (i % p)):Nat):Int)) H'
theorem Zmn:FnScope ["self","low","high"] ["self","low","high"] (Zad (Zaw Zap 1)):=scm
theorem ZmW (hsum:mg "sum" = none) (kc:RkC K C) (D:Zay K C "left_between" "Reckoning.left_between" (Zaw Zap 1) ["self","low","high"]) (G:FnAt P w K mg base 1 "is_left_open" ["low","high","cell"] ZdU):MtAt P w K mg base 2 C "left_between" ["self","low","high"] (Zhb C):=by
 refine MtAt.of D Zmn (λvs H Q E h=>?_) (λf g A o s H vs Q E hr h=>?_)
 ·obtain ⟨a,dx,db,dl,dk,la,lb,o,r,p,qs,kvs,ls,hs,rfl,_⟩:=h;rfl
 ·obtain ⟨a,dx,db,dl,dk,la,lb,o,r,p,qs,kvs,ls,hs,rfl,R,hA,hB,hla,hlb,q⟩:=h;have nd1:(["cell","high","low","self"]:List Str).Nodup:=by decide +kernel
  have hu1:=ZeQ hr;refine ⟨_,Zaf (Zak (pe_b (Zc1 rfl) hsum boot_sum (pa1 (Zar ["cell","high","low","self"] [none,some 2,some 1,some 0] (Zad (Zaw Zap 1)) ["self","low","high"] rfl (Zfk (Zbp (pv 0) rfl)) (by decide +kernel)
   (λ_ _ _ _ _=>pg_c 0 nd1) (λ_ _ _ _ _=>ZaR (ZaB (pe_f G hr (Zab (pv 2) (Zab (pv 1) (pa1 (pv 0))))))) (λ_ _ _ _ _=>Zd9 hu1 (Zfn K (pv 3) rfl) (pv 0) (λ_ _=>rfl)))))),?_⟩
  refine ⟨_,rfl,a,C,dx,_,_,rfl,R.ob,kc.cls,kc.nb,rfl,db,_,rfl,.inr ⟨o,R.hb,Zdn (λi=>opnB ls hs (i / p) (i % p)) (λj=>V.int ((2 ^ j:Nat):Int)) R.hb (by rw [Zbf];have:=R.n16;omega) (λj ks v b hj H1 s1 hb H2 Q2 s2 q2=>?_) (λj ks v b hj H1 s1 hb H2 Q2 s2 q2=>?_) λD H' hD sm hDl=>?_⟩⟩
  ·obtain ⟨hj1,rfl,rfl⟩:=ZbM hj;have hjr:j / p<r:=Nat.div_lt_of_lt_mul (by rw [Nat.mul_comm];exact hj1);exact ⟨_,rfl,_,rfl,_,rfl,la,lb,b,ls,hs,j / p,j % p,rfl,(hA.same s1).same s2,(hB.same s1).same s2,s2 _ _ hb,by omega,by omega,_,rfl,q2 H2 (srf _)⟩
  ·obtain ⟨hj1,rfl,rfl⟩:=ZbM hj;refine ⟨_,rfl,a,C,dx,_,_,rfl,(s1.trans s2) _ _ R.ob,kc.cls,kc.nb,rfl,_,rfl,db,_,rfl,?_,q2 H2 (srf _)⟩;exact .inr ⟨_,_,b,.inr ⟨o,(s1.trans s2) _ _ R.hb⟩,rfl,s2 _ _ hb,(ZcB hj1).symm⟩
  ·rw [Zbf,(ZbV (r * p) _).1] at hDl;refine ⟨D,_,rfl,sqo hDl,?_⟩;rw [(ZbV (r * p) _).2];exact q H' sm
abbrev ZeB (qs:List (Addr × Addr)) (i:Nat):Addr:=(qs.getD i (0,0)).1
theorem Zed {qs:List (Addr × Addr)}{i:Nat} (h:i<qs.length):qs[i]? = some (qs.getD i (0,0)):=by
 rw [Yat,Yac h];rfl
theorem ZkR {qs:List (Addr × Addr)}{n:Nat} (h:qs.length=n):(qs.map λq=>V.ref q.1)=(List.range n).map λi=>V.ref (ZeB qs i):=by
 apply List.ext_getElem?;intro i;rw [Yaf,Yaf]
 by_cases hi:i<n
 ·rw [Zed (by omega),List.getElem?_range hi];rfl
 ·rw [List.getElem?_eq_none (by omega),List.getElem?_eq_none (by rw [List.length_range];omega)];rfl
def Zcg (C:Addr):Sp:=λvs H Q _=>∃ (a dx db dl dk:Addr) (o:Obj) (p n m:Nat) (qs:List (Addr × Addr)) (kvs:List (Key × V)),vs=[.ref a,.int ((m:Nat):Int)]/\Rk H C a dx db dl dk o p n qs kvs /\
 ∀ D H',H D=none->Same H H'->H' D=some (.lst ((Zas n m).map λi=>V.ref (ZeB qs i)))->Q (.ref D) H'
theorem ZiV:FnScope ["self","left"] ["self","left"] (Zad (Zaw Zap 3)):=scm
theorem Zi1 (kc:RkC K C) (D:Zay K C "looks_at" "Reckoning.looks_at" (Zaw Zap 3) ["self","left"]):MtAt P w K mg base 1 C "looks_at" ["self","left"] (Zcg C):=by
 refine MtAt.of D ZiV (λvs H Q E h=>?_) (λf g A o s H vs Q E hr h=>?_)
 ·obtain ⟨a,dx,db,dl,dk,o,p,n,m,qs,kvs,rfl,_⟩:=h;rfl
 ·obtain ⟨a,dx,db,dl,dk,o,p,n,m,qs,kvs,rfl,R,q⟩:=h;have nd1:(["look","left","self"]:List Str).Nodup:=by decide +kernel
  have hu1:=ZeQ hr;have hn:=R.n16;refine ⟨_,Zaf (Zak (Zar ["look","left","self"] [none,some 1,some 0] (Zad (Zaw Zap 3)) ["self","left"] rfl (Zau (Zbp (pv 0) rfl)) (by decide +kernel)
   (λ_ _ _ _ _=>pg_c 0 nd1) (λ_ _ _ _ _=>ZaR (Zp5 (Zan Zo8 (pv 1) (Zd9 hu1 (Zfn K (pv 2) rfl) (pix (ixT K) (pv 0) Zae) (λ_ _=>rfl))))) (λ_ _ _ _ _=>pv 0))),?_⟩
  have hl:SqL K H dl ((List.range n).map λi=>V.ref (ZeB qs i)):=by
   rw [<- ZkR R.ln];exact sqo R.hl
  refine ⟨_,rfl,a,C,dx,_,_,rfl,R.ob,kc.cls,kc.nl,rfl,dl,rfl,⟨_,hl⟩,Zbl (ms:=List.range n) (λi=>V.ref (ZeB qs i)) (λi=>m.testBit i) (λi=>V.ref (ZeB qs i)) hl (sl6 (by rw [List.length_range];omega)) (λi hi H1 Q1 s1 q1=>?_) (λi hi _ H1 Q1 s1 q1=>⟨_,rfl,q1 _ (srf _)⟩) λD H' hD sm hDl=>q D H' hD sm hDl⟩;have hi:=List.mem_range.mp hi;obtain ⟨h1,h2⟩:=R.hq i _ (Zed (by rw [R.ln];exact hi));refine ⟨_,rfl,_,rfl,a,C,dx,_,_,rfl,s1 _ _ R.ob,kc.cls,kc.nb,rfl,_,rfl,_,_,0,_,rfl,rfl,sqt (s1 _ _ h1),rfl,db,.int ((2 ^ i:Nat):Int),rfl,.inr ⟨_,_,_,.inr ⟨o,s1 _ _ R.hb⟩,rfl,s1 _ _ h2,(ZcB hi).symm⟩,_,_,rfl,rfl,⟨Ybc _,Ybc _⟩,_,rfl,?_⟩;rw [Zjx];exact q1 _ (srf _)
end
open PySem L2 PyProof.Rows
theorem ZiJ {m k:Nat}:((m:Int).toNat &&& ((k:Nat):Int).toNat)=(m &&& k):=by
 rw [Yav,Yav]
theorem Same.but1 {H H':Hp}{x:Addr} (s:Same H H'):But1 x H H':=λ_ _ _ e=>s _ _ e
theorem ZnD {K:Yab}{Dl:Addr}{ms:List Nat}{σ0:L2.St}{H1:Hp}{te:TE}{Q:VK} (u f:Nat->V) (J:Addr->Hp->Prop) (hn:ms.length<=1000) (h0:∀ D,H1 D=none->J D (upd H1 D (.lst []))) (hq:∀ D H',H1 D=none->J D H'->SqL K H' Dl (ms.map u))
  (step:∀ D c H' ys Q',H1 D=none->c∈ms->J D H'->H' D=some (.lst ys)->(∀ H'',J D H''->H'' D=some (.lst ys)->Q' (f c) H'')->te (σ0.set 0 (some (u c))) H' Q')
  (hU:∀ D H' ys zs,H1 D=none->J D H'->H' D=some (.lst ys)->J D (upd H' D (.lst zs))) (fin:∀ D H',H1 D=none->J D H'->H' D=some (.lst (ms.map f))->Q (.ref D) H'):ZaQ (Itl K Dl) (Za1 0) Zbu te σ0 H1 Q:=by
 intro D hD;refine Zcn (n:=ms.length) (λi ys H'=>J D H'/\H' D=some (.lst ys)/\ys=(ms.take i).map f) ⟨h0 D hD,Zac,by simp⟩ (λi ys H' _ q=>q.2.1) (λi ys H' hi q=>⟨_,u ms[i],hq D H' hD q.1,by simp [hi]⟩) (λys H' q=>⟨_,hq D H' hD q.1,by simp⟩) ?_ ?_
 ·rintro i ys H' x H2 hi ⟨j,eD,rfl⟩ ⟨rfl,hy⟩;have hx:=hy _ (hq D H2 hD j);rw [Yaf,Yac hi] at hx;have hx:u ms[i]=x:=Yae hx;subst hx;unfold Zbu;refine iteT (step D ms[i] H2 _ _ hD (YaL hi) j eD λH'' j2 e2=>⟨e2,?_,hU D H'' _ _ hD j2 e2,Zac,?_⟩)
  ·rw [Yaa,YaR];exact Zav (by omega)
  ·rw [List.take_add_one,Yac hi,Yah];rfl
 ·rintro ys H' ⟨j,eD,rfl⟩;rw [List.take_length] at eD;exact fin D H' hD j eD
section
variable {P:Program}{w:World}{K:Yab}{mg:Str->Option Value}{base:Heap}{C:Addr}
def RkQ (H:Hp) (C a dx db dl dk:Addr) (o:Obj) (p n:Nat) (qs:List (Addr × Addr)) (Q:VK) (v:Nat):Prop:=∀ kvs' H',But1 dk H H'->Rk H' C a dx db dl dk o p n qs kvs'->Q (.int ((v:Nat):Int)) H'
def ZiT (C:Addr) (k:Nat):Sp:=λvs H Q _=>∃ (a dx db dl dk:Addr) (o:Obj) (p n m:Nat) (qs:List (Addr × Addr)) (kvs:List (Key × V)),vs=[.ref a,.int ((m:Nat):Int)]/\m<2 ^ n/\(Zas n m).length<=k/\Rk H C a dx db dl dk o p n qs kvs/\RkQ H C a dx db dl dk o p n qs Q (fw p (Zas n m))
def ZeF (C:Addr) (k:Nat):Sp:=λvs H Q _=>∃ (a dx db dl dk:Addr) (o:Obj) (p n m i:Nat) (qs:List (Addr × Addr)) (kvs:List (Key × V)),vs=[.ref a,.int ((m:Nat):Int),.ref (ZeB qs i)]/\m<2 ^ n/\(Zas n m).length<=k/\i∈Zas n m/\Rk H C a dx db dl dk o p n qs kvs/\RkQ H C a dx db dl dk o p n qs Q (thr p (Zas n m) i)
theorem ZpY:FnScope ["self","left"] ["self","left"] (Zad (Zaw Zap 2)):=scm
theorem ZjZ:FnScope ["self","left","look"] ["self","left","look"] (Zad (Zaw Zap 4)):=scm
theorem Zif (D:Zay K C "fewest_through" "Reckoning.fewest_through" (Zaw Zap 4) ["self","left","look"]):MtAt P w K mg base 1 C "fewest_through" ["self","left","look"] (ZeF C 0):=by
 have no:∀ {vs H Q E},ZeF C 0 vs H Q E->False:=λ{vs H Q E} h=>by
  obtain ⟨a,dx,db,dl,dk,o,p,n,m,i,qs,kvs,rfl,h1,h2,h3,_⟩:=h;have:Zas n m=[]:=List.length_eq_zero_iff.mp (by omega);rw [this] at h3
  nomatch h3
 exact MtAt.of D ZjZ (λvs H Q E h=>(no h).elim) (λf cdv A outer s H vs Q E hr h=>(no h).elim)
theorem ZmM (T:Blt mg) (kc:RkC K C) {k:Nat} (D:Zay K C "fewest_through" "Reckoning.fewest_through" (Zaw Zap 4) ["self","left","look"]) (G:MtAt P w K mg base (2 * k+2) C "fewest" ["self","left"] (ZiT C k)):MtAt P w K mg base (2 * k+3) C "fewest_through" ["self","left","look"] (ZeF C (k+1)):=by
 refine MtAt.of D ZjZ (λvs H Q E h=>?_) (λf g A o s H vs Q E hr h=>?_)
 ·obtain ⟨a,dx,db,dl,dk,o,p,n,m,i,qs,kvs,rfl,_⟩:=h;rfl
 ·obtain ⟨a,dx,db,dl,dk,o,p,n,m,i,qs,kvs,rfl,hm,hk,hi,R,q⟩:=h;have hin:i<n:=(mem_bitsN.mp hi).1;refine ⟨_,Zaf (Zak (Zan Zby Zae (pe_b (ZbX rfl) T.max boot_max (Zab (pe_m G kc.cls hr (pv 0) (pa1 (Zan Zo8 (pv 1) (pix ZaJ (pv 2) Zae)))) (pa1 (pe_m G kc.cls hr (pv 0) (pa1 (Zan Zo8 (pv 1) (pix ZaJ (pv 2) Zae))))))))),?_⟩;obtain ⟨h1,h2⟩:=R.hq i _ (Zed (by rw [R.ln];exact hin));have b1:Zas n (m &&& msum n (lsI p i))=(Zas n m).filter (lsI p i):=ZcA λj hj=>by rw [Zcv,Ya4 hj,Bool.true_and]
  have b2:Zas n (m &&& msum n (mrI p i))=(Zas n m).filter (mrI p i):=ZcA λj hj=>by rw [Zcv,Ya4 hj,Bool.true_and]
  have s1:=Zjj (w:=p) hi;have s2:=Zjd (w:=p) hi;refine ⟨_,rfl,a,dx,_,rfl,R.ob,rfl,_,rfl,_,rfl,_,_,1,_,rfl,rfl,sqt h1,rfl,_,_,rfl,rfl,⟨Ybc _,Ybc _⟩,?_⟩;rw [ZiJ];refine ⟨a,dx,db,dl,dk,o,p,n,_,qs,kvs,rfl,ZiK hm,by rw [b1];omega,R,λkv1 H1 B1 R1=>?_⟩;obtain ⟨h1',_⟩:=R1.hq i _ (Zed (by rw [R1.ln];exact hin));refine ⟨_,rfl,a,dx,_,rfl,R1.ob,rfl,_,rfl,_,rfl,_,_,2,_,rfl,rfl,sqt h1',rfl,_,_,rfl,rfl,⟨Ybc _,Ybc _⟩,?_⟩;rw [ZiJ];refine ⟨a,dx,db,dl,dk,o,p,n,_,qs,kv1,rfl,ZiK hm,by rw [b2];omega,R1,λkv2 H2 B2 R2=>⟨_,_,rfl,_,_,rfl,rfl,?_⟩⟩;have:=q kv2 H2 (B1.trans B2) R2;unfold thr at this;rw [b1,b2];generalize fw p ((Zas n m).filter (lsI p i))=x at this ⊢;generalize fw p ((Zas n m).filter (mrI p i))=y at this ⊢;have e:(1:Int)+(if (y:Int) > (x:Int) then (y:Int) else (x:Int))=((1+max x y:Nat):Int):=by
   rw [Nat.max_def];split <;> split <;> omega
  rw [e];exact this
theorem Zn3 (hmin:mg "min" = none) (kc:RkC K C) {k:Nat} (D:Zay K C "fewest" "Reckoning.fewest" (Zaw Zap 2) ["self","left"]) (G:MtAt P w K mg base (2 * k+1) C "fewest_through" ["self","left","look"] (ZeF C k)) (G2:MtAt P w K mg base 1 C "looks_at" ["self","left"] (Zcg C)):MtAt P w K mg base (2 * k+2) C "fewest" ["self","left"] (ZiT C k):=by
 refine MtAt.of D ZpY (λvs H Q E h=>?_) (λf g A o s H vs Q E hr h=>?_)
 ·obtain ⟨a,dx,db,dl,dk,o,p,n,m,qs,kvs,rfl,_⟩:=h;rfl
 ·obtain ⟨a,dx,db,dl,dk,o,p,n,m,qs,kvs,rfl,hm,hk,R,q⟩:=h;have nd1:(["look","left","self"]:List Str).Nodup:=by decide +kernel
  have hu1:=ZeQ hr;have hr1:Room 1 _:=hr.mono (show 1<=2 * k+1 by omega);refine ⟨_,Zaa (Zbn (ZnX (Zkn hu1 (pv 1) (Zbp (pv 0) rfl)))
    (Zaf (Zkc hu1 (Zbp (pv 0) rfl) (pv 1) (pe_b (ZlJ rfl) hmin boot_min (pa1 (Zar ["look","left","self"] [none,some 1,some 0] (Zad (Zaw Zap 2)) ["self","left"] rfl (Zau (pe_m G2 kc.cls hr1 (pv 0) (pa1 (pv 1)))) (by decide +kernel)
     (λ_ _ _ _ _=>pg_c 0 nd1) (λ_ _ _ _ _=>Zam) (λ_ _ _ _ _=>pe_m G kc.cls hr (pv 2) (Zab (pv 1) (pa1 (pv 0))))))) rfl)) ZaI)
   (Zaf (Zak (Zd9 hu1 (Zbp (pv 0) rfl) (pv 1) (λ_ _=>rfl)))),?_⟩
  refine ZcL (λN=>∀ kv H',But1 dk H H'->Rk H' C a dx db dl dk o p n qs kv->valV kv (.inl (m:Int))=some (.int ((fw p (Zas n m):Nat):Int))->N [some (.ref a),some (.int ((m:Nat):Int))] H') (λkv H' B R' hv=>?_) (λtail=>?_)
  ·refine ⟨_,rfl,a,C,dx,_,_,rfl,R'.ob,kc.cls,kc.nk,rfl,_,rfl,dk,.int ((fw p (Zas n m):Nat):Int),rfl,?_,q kv H' B R'⟩;rw [<- hv];exact DGet.k (k:=.inl (m:Int)) R'.hk
  ·refine ⟨_,rfl,_,rfl,a,C,dx,_,_,rfl,R.ob,kc.cls,kc.nk,rfl,dk,_,rfl,DGet.k (k:=.inl (m:Int)) R.hk,_,rfl,?_⟩;cases hv:valV kvs (.inl (m:Int)) with
   |some v =>
    obtain ⟨m',e1,e2,e3⟩:=R.kn.ok _ _ hv;have e4:m=m':=by
     have:=Sum.inl.inj e1;omega
    subst e4;exact iteF (tail kvs H (But1.refl _ _) R (by rw [hv,e3]))
   |none =>
    have m0:m≠0:=λz=>by
     have:=R.kz;rw [z] at hv;rw [show (Sum.inl 0:Key)=.inl ((0:Nat):Int) from rfl,hv] at this;cases this
    have hne:Zas n m≠[]:=λz=>m0 (ZlN hm z);have hn:=R.n16;have hbl:=Zcp n m;refine iteT ?_;refine ⟨_,rfl,a,dx,_,rfl,R.ob,rfl,_,rfl,a,dx,db,dl,dk,o,p,n,m,qs,kvs,rfl,R,λDl H1 hDl s1 eDl=>?_⟩;have R1:=R.same s1;have sq1:SqL K H1 Dl ((Zas n m).map λi=>V.ref (ZeB qs i)):=sqo eDl;have nDk:Dl≠dk:=λz=>by rw [z,R.hk] at hDl;cases hDl
    refine ⟨Dl,rfl,⟨_,sq1⟩,ZnD (λi=>V.ref (ZeB qs i)) (λc=>V.int ((thr p (Zas n m) c:Nat):Int)) (λD H'=>But1 dk H1 H'/\∃ kv,Rk H' C a dx db dl dk o p n qs kv) (by omega)
     (λD hD=>⟨Same.but1 (snw hD),kvs,R1.same (snw hD)⟩) (λD H' _ h=>sqo (h.1 _ _ nDk eDl)) ?_ ?_ ?_⟩
    ·rintro DD c H' ys Q' hDD hc ⟨B',kv,R'⟩ eDD q';have nDD:DD≠dk:=λz=>by rw [z,R1.hk] at hDD;cases hDD
     exact ⟨_,rfl,a,dx,_,rfl,R'.ob,rfl,_,rfl,_,rfl,a,dx,db,dl,dk,o,p,n,m,c,qs,kv,rfl,hm,hk,hc,R',λkv3 H3 B3 R3=>q' H3 ⟨B'.trans B3,kv3,R3⟩ (B3 _ _ nDD eDD)⟩
    ·rintro DD H3 ys zs hDD ⟨B',kv,R3⟩ eDD;have nDD:DD≠dk:=λz=>by rw [z,R1.hk] at hDD;cases hDD
     have f:∀ {x:Addr}{u:HO},H3 x=some u->(∀ ys,u≠.lst ys)->x≠DD:=λ{x u} h1 h2 z=>by
      rw [z,eDD] at h1;exact h2 _ (Yae h1).symm
     have dd1:dl≠DD:=λz=>by rw [<- z,R1.hl] at hDD;cases hDD
     exact ⟨λb u nb e=>by rw [Zag (Zai e hDD)];exact B' _ _ nb e,kv,by rw [Zag (f R3.ob (λ_ z=>by cases z))];exact R3.ob,by rw [Zag (f R3.hb (λ_ z=>by cases z))];exact R3.hb,by rw [Zag dd1];exact R3.hl,R3.ln,
      λj q hj=>let ⟨g1,g2⟩:=R3.hq j q hj;⟨by rw [Zag (f g1 (λ_ z=>by cases z))];exact g1,by rw [Zag (f g2 (λ_ z=>by cases z))];exact g2⟩,by rw [Zag (Ne.symm nDD)];exact R3.hk,R3.kn,R3.kz,R3.n16⟩
    ·rintro DD H' hDD ⟨B',kv,R'⟩ eDD;have sqD:SqL K H' DD (((Zas n m).map λc=>((thr p (Zas n m) c:Nat):Int)).map V.int):=sqo (by rw [eDD,Yau];rfl);refine ⟨DD,_,rfl,sqD,?_,λM hM hle=>?_⟩
     ·rw [Yaa];exact List.length_pos_iff.mpr hne
     have hMe:M=((fw p (Zas n m):Nat):Int):=by
      obtain ⟨c,hc,e⟩:=Yar.mp hM;rw [<- e]
      congr 1
      refine Zru (λc' hc'=>?_) ⟨c,hc,rfl⟩;have:=hle _ (Yar.mpr ⟨c',hc',rfl⟩);omega
     subst hMe;have hz:kv.length<sizeLine:=by
      have h1:=R'.kn.len;have h2:=Nat.pow_le_pow_right (show 0<2 by decide) hn;rw [sizeLine_eq];have e:2 ^ 16=65536:=by decide
      omega
     refine ⟨_,rfl,a,C,dx,_,_,rfl,R'.ob,kc.cls,kc.nk,rfl,_,rfl,dk,_,rfl,DPut.k (k:=.inl (m:Int)) R'.hk hz,?_⟩;have Bk:But1 dk H' (upd H' dk (.dK (putK kv (.inl (m:Int)) (.int ((fw p (Zas n m):Nat):Int))))):=λb u nb e=>by rw [Zag nb];exact e
     refine tail _ _ ((Same.but1 s1).trans (B'.trans Bk)) (R'.but Bk Zac (R'.kn.put' hm) ?_) (by rw [Zcq,Ya7 rfl]);rw [Zcq];split
     ·rfl
     ·exact R'.kz
theorem Zhu (T:Blt mg) (hmin:mg "min" = none) (kc:RkC K C) (D1:Zay K C "fewest" "Reckoning.fewest" (Zaw Zap 2) ["self","left"]) (D2:Zay K C "fewest_through" "Reckoning.fewest_through" (Zaw Zap 4) ["self","left","look"]) (G2:MtAt P w K mg base 1 C "looks_at" ["self","left"] (Zcg C)) :
  ∀ k,MtAt P w K mg base (2 * k+1) C "fewest_through" ["self","left","look"] (ZeF C k)/\MtAt P w K mg base (2 * k+2) C "fewest" ["self","left"] (ZiT C k)
 | 0=>⟨Zif D2,Zn3 (k:=0) hmin kc D1 (Zif D2) G2⟩
 |k+1=>by
  have h:=ZmM T kc D2 (Zhu T hmin kc D1 D2 G2 k).2;exact ⟨h,Zn3 (k:=k+1) hmin kc D1 h G2⟩
theorem ZkA (T:Blt mg) (hmin:mg "min" = none) (kc:RkC K C) (D1:Zay K C "fewest" "Reckoning.fewest" (Zaw Zap 2) ["self","left"]) (D2:Zay K C "fewest_through" "Reckoning.fewest_through" (Zaw Zap 4) ["self","left","look"]) (G2:MtAt P w K mg base 1 C "looks_at" ["self","left"] (Zcg C)) :
  MtAt P w K mg base 34 C "fewest" ["self","left"] (ZiT C 16):=(Zhu T hmin kc D1 D2 G2 16).2
end
open PySem L2 PyProof.Rows
structure RkM (K:Yab) (mg:Str->Option Value) (C:Addr):Prop where
 c:RkC K C
 gl:mg "Reckoning" = some (.ref C)
 mks:PySem.W.makesIn K C=true
 kp:PySem.W.keepIn K (.ref C)=true
theorem Zp1 {K:Yab}{h:Heap}{mg:Str->Option Value}{C:Addr} (X:K.In h) (G:h.Ns mainGlobals mg) (aC:PySem.W.nsIn K mainGlobals "Reckoning" = some (some (.ref C)))
  (pg:PySem.W.plainGet K C Str.empty=true) (hd:PySem.W.hasDictIn K C=true) (po:PySem.W.plainOver K C=true) (sa:PySem.W.findIn K (.ref C) "__setattr__" = some (some (.builtin "object.__setattr__"))) (mk:PySem.W.makesIn K C=true) (kc:PySem.W.keepIn K (.ref C)=true)
  (n1:PySem.W.findIn K (.ref C) "bits" = some none) (n2:PySem.W.findIn K (.ref C) "looks" = some none) (n3:PySem.W.findIn K (.ref C) "known" = some none):RkM K mg C:=⟨⟨⟨pg,hd,po,sa⟩,n1,n2,n3⟩,PySem.W.mg_of X G aC,mk,kc⟩
def opnL (r p:Nat) (ls hs:List Int):List Nat:=(List.range (r * p)).filter λi=>opnB ls hs (i / p) (i % p)
section
variable {P:Program}{w:World}{K:Yab}{mg:Str->Option Value}{base:Heap}{C:Addr}
def ZcJ:Sp:=λvs H Q _=>∃ (r p:Nat) (a b:Addr) (ls hs:List Int),vs=[.int (r:Nat),.int (p:Nat),.ref a,.ref b]/\1<=r/\r<=4/\1<=p/\p<=4/\Row H a ls/\Row H b hs/\TwoSt r p ls hs/\∀ H',Same H H'->Q (.int ((fw p (opnL r p ls hs):Nat):Int)) H'
theorem sc_looksLeft:FnScope ["r","p","low","high","reckoning"] ["r","p","low","high"] (Zad Zdl):=scm
theorem Zgt (zK:RkM K mg C) (D:Zah K mg "looks_left" Zdl ["r","p","low","high"]) (G1:FnAt P w K mg base 3 "need_size" ["r","p"] ZbT) (G2:FnAt P w K mg base 4 "need_stairs" ["r","p","low","high"] ZbO)
  (M0:MtAt P w K mg base 2 C "__init__" ["self","r","p"] (Zha C)) (M1:MtAt P w K mg base 2 C "left_between" ["self","low","high"] (Zhb C)) (M2:MtAt P w K mg base 34 C "fewest" ["self","left"] (ZiT C 16)):FnAt P w K mg base 35 "looks_left" ["r","p","low","high"] ZcJ:=by
 refine fao D sc_looksLeft (λvs H Q E h=>?_) (λf g A o s H vs Q E hr h=>?_)
 ·obtain ⟨r,p,a,b,ls,hs,rfl,_⟩:=h;rfl
 ·obtain ⟨r,p,a,b,ls,hs,rfl,r1,r4,p1,p4,hA,hB,S,q⟩:=h;have nd:=sc_looksLeft.nd;have hr3:Room 3 _:=hr.mono (show 3<=34 by decide);have hr4:Room 4 _:=hr.mono (show 4<=34 by decide);have hr2:Room 2 _:=hr.mono (show 2<=34 by decide);refine ⟨_,Zaa (Zaq (pe_f G1 hr3 (Zab (pv 0) (pa1 (pv 1)))))
   (Zaa (Zaq (pe_f G2 hr4 (Zab (pv 0) (Zab (pv 1) (Zab (pv 2) (pa1 (pv 3)))))))
   (Zaa (Zal (i:=4) nd rfl (Or.inl rfl) (Zkl M0 zK.mks zK.kp hr3 rfl zK.gl (Zab (pv 0) (pa1 (pv 1)))))
   (Zaf (Zak (pe_m M2 zK.c.cls hr (pv 4) (pa1 (pe_m M1 zK.c.cls hr2 (pv 4) (Zab (pv 2) (pa1 (pv 3)))))))))),?_⟩
  refine ⟨_,rfl,_,rfl,r,p,rfl,r1,r4,p1,p4,_,rfl,_,rfl,_,rfl,_,rfl,r,p,a,b,ls,hs,rfl,r4,hA,hB,S,λH1 s1=>?_⟩;refine ⟨_,rfl,_,rfl,λx dx hx hdx ndx=>?_⟩;have s2:Same H1 (upd (upd H1 dx (.own x)) x (.ins C dx [])):=((srf H1).upd hdx).upd hx;have e2:(upd (upd H1 dx (.own x)) x (.ins C dx [])) x=some (.ins C dx []):=Zac;generalize upd (upd H1 dx (.own x)) x (.ins C dx [])=H2 at s2 e2 ⊢;refine ⟨x,dx,r,p,rfl,e2,r4,p1,p4,λdb dl dk o qs H3 B3 hdb hdl hdk R=>⟨rfl,?_⟩⟩;have s3:Same H1 H3:=λb u e=>B3 _ _ (Zai e hx) (s2 _ _ e);have hdk1:H1 dk=none:=s2.free hdk;refine ⟨_,rfl,x,dx,_,rfl,R.ob,rfl,_,rfl,x,dx,_,rfl,R.ob,rfl,_,rfl,_,rfl,x,dx,db,dl,dk,a,b,o,r,p,qs,kn0,ls,hs,rfl,R,(hA.same s1).same s3,(hB.same s1).same s3,S.lo.len,S.hi.len,λH4 s4=>?_⟩;have R4:=R.same s4;have eb:Zas (r * p) (msum (r * p) λi=>opnB ls hs (i / p) (i % p))=opnL r p ls hs:=Zdq _ _;refine ⟨x,dx,db,dl,dk,o,p,r * p,_,qs,kn0,rfl,Zdc _ _,?_,R4,λkv H5 B5 R5=>?_⟩
  ·have:=Zcp (r * p) (msum (r * p) λi=>opnB ls hs (i / p) (i % p));have:=R.n16;omega
  ·rw [eb];exact q H5 λb u e=>B5 _ _ (Zai (s1 _ _ e) hdk1) (s4 _ _ (s3 _ _ (s1 _ _ e)))
end
open PySem L2 PyProof.Rows
def bst (w:Nat) (L:List Nat):Option Nat:=L.find? λc=>decide (thr w L c=fw w L)
def Zcb (w c:Nat):Nat × Nat:=(c / w,c % w)
theorem Zlf {q:Nat->Bool}{L:List Nat}{i c:Nat} (h:∀ x∈L.take i,¬ q x=true) (hc:L[i]? = some c) (hq:q c=true):L.find? q=some c:=by
 obtain ⟨hi,e⟩:=Yai.mp hc;have e1:L=L.take i ++ c :: L.drop (i+1):=by
  rw [<- e,<- List.drop_eq_getElem_cons hi,List.take_append_drop]
 rw [e1,List.find?_append,List.find?_eq_none.mpr h,List.find?_cons,hq];rfl
theorem Zio (q:Nat->Bool) (g:Nat->Nat):∀ L:List Nat,(L.map g).find? q=(L.find? λa=>q (g a)).map g
 | []=>rfl
 |a :: r=>by
  rw [Yaw,List.find?_cons,List.find?_cons,Zio q g r];cases q (g a) <;> rfl
theorem Zpx {w w':Nat}{g:Nat->Nat} (hg:∀ i,g i / w'=i / w/\g i % w'=i % w) (L:List Nat):(bst w' (L.map g)).map (Zcb w')=(bst w L).map (Zcb w):=by
 unfold bst;rw [Zio,Option.map_map];have e:(λa=>decide (thr w' (L.map g) (g a)=fw w' (L.map g)))=λa=>decide (thr w L a=fw w L):=by
  funext a
  rw [Zom hg,Zim hg]
 rw [e]
 congr 1
 funext c
 show (g c / w',g c % w')=(c / w,c % w);rw [(hg c).1,(hg c).2]
def AnsP (H:Hp) (v:V):Option (Nat × Nat)->Prop
 |none=>v=.non
 |some c=>∃ b,v=.ref b/\H b=some (.tup [.int ((c.1:Nat):Int),.int ((c.2:Nat):Int)])
theorem AnsP.same {H H':Hp}{v:V}{c:Option (Nat × Nat)} (h:AnsP H v c) (s:Same H H'):AnsP H' v c:=by
 cases c with
 |none=>exact h
 |some c =>
  obtain ⟨b,e,hb⟩:=h;exact ⟨b,e,s _ _ hb⟩
def dAns:Option (Nat × Nat)->PyData
 |none=>.none
 |some c=>.tuple [.int ((c.1:Nat):Int),.int ((c.2:Nat):Int)]
theorem AnsP.rd {K:Yab}{H:Hp}{v:V}{c:Option (Nat × Nat)} (h:AnsP H v c):RdD K H v (dAns c):=by
 cases c with
 |none =>
  cases (show v=.non from h);exact .non
 |some c =>
  obtain ⟨b,rfl,hb⟩:=h;exact .tup (sqt hb) (.cons (.int _) (.cons (.int _) .nil))
theorem ZeL (c:Option (Nat × Nat)):SeqAt.shaped (dAns c)=true:=by
 cases c with
 |none=>rfl
 |some c=>rfl
theorem Zpm (c:Option (Nat × Nat)):PyData.eqv (dAns c) (dAns c)=true:=by
 cases c with
 |none=>rfl
 |some c=>simp [dAns,PyData.eqv,PyData.eqvAll]
section
variable {P:Program}{w:World}{K:Yab}{mg:Str->Option Value}{base:Heap}{C:Addr}
def ZjV (C:Addr):Sp:=λvs H Q _=>∃ (a dx db dl dk:Addr) (o:Obj) (p n m:Nat) (qs:List (Addr × Addr)) (kvs:List (Key × V)),vs=[.ref a,.int ((m:Nat):Int)]/\m<2 ^ n/\Rk H C a dx db dl dk o p n qs kvs /\
 ∀ v kvs' H',But1 dk H H'->Rk H' C a dx db dl dk o p n qs kvs'->AnsP H' v ((bst p (Zas n m)).map (Zcb p))->Q v H'
theorem sc_first:FnScope ["self","left","look"] ["self","left"] (Zad (Zaw Zap 5)):=scm
theorem Zm4 (kc:RkC K C) (D:Zay K C "first_cell" "Reckoning.first_cell" (Zaw Zap 5) ["self","left"]) (G1:MtAt P w K mg base 1 C "looks_at" ["self","left"] (Zcg C)) (G2:MtAt P w K mg base 33 C "fewest_through" ["self","left","look"] (ZeF C 16)) (G3:MtAt P w K mg base 34 C "fewest" ["self","left"] (ZiT C 16)) :
  MtAt P w K mg base 35 C "first_cell" ["self","left"] (ZjV C):=by
 refine MtAt.of D sc_first (λvs H Q E h=>?_) (λf g A o s H vs Q E hr h=>?_)
 ·obtain ⟨a,dx,db,dl,dk,o,p,n,m,qs,kvs,rfl,_⟩:=h;rfl
 ·obtain ⟨a,dx,db,dl,dk,o,p,n,m,qs,kvs,rfl,hm,R,q⟩:=h;have nd:=sc_first.nd;have hr1:Room 1 _:=hr.mono (show 1<=34 by decide);have hr33:Room 33 _:=hr.mono (show 33<=34 by decide);have hn:=R.n16;have hbl:=Zcp n m;refine ⟨_,Zaa (Zbi PassesOwn.never rfl (Zau (pe_m G1 kc.cls hr1 (pv 0) (pa1 (pv 1)))) (Zax (i:=2) nd rfl (Or.inl rfl))
    (Zaf (Zbn (pcm Zdy (pe_m G2 kc.cls hr33 (pv 0) (Zab (pv 1) (pa1 (pv 2)))) (pe_m G3 kc.cls hr (pv 0) (pa1 (pv 1)))) (Zaf (Zak (pix ZaJ (pv 2) Zae))) ZaI)))
   (Zaf (Zak ZbK)),?_⟩
  refine ⟨_,rfl,a,dx,_,rfl,R.ob,rfl,_,rfl,a,dx,db,dl,dk,o,p,n,m,qs,kvs,rfl,R,λDl H1 hDl s1 eDl=>?_⟩;have nDk:Dl≠dk:=λz=>by rw [z,R.hk] at hDl;cases hDl
  refine ⟨Dl,rfl,⟨_,sqo eDl⟩,ZcU (xs:=(Zas n m).map λi=>V.ref (ZeB qs i)) (λi σ H2=>∃ (kv:List (Key × V)) (o2:Option V),σ = [some (.ref a),some (.int ((m:Nat):Int)),o2]/\But1 dk H1 H2/\Rk H2 C a dx db dl dk o p n qs kv/\∀ x∈(Zas n m).take i,¬ decide (thr p (Zas n m) x=fw p (Zas n m))=true)
   ⟨kvs,none,rfl,But1.refl _ _,R.same s1,λx hx=>by simp at hx⟩ (λi σ H2 _ ⟨_,_,_,B2,_⟩=>sqo (B2 _ _ nDk eDl)) ?_ ?_⟩
  ·rintro i x σ H2 hi ⟨kv,o2,rfl,B2,R2,hno⟩;rw [Yaf] at hi;cases hc:(Zas n m)[i]? with
   |none=>rw [hc] at hi;cases hi
   |some c =>
    rw [hc] at hi;have hx:V.ref (ZeB qs c)=x:=Yae hi;subst hx;have hcm:c∈Zas n m:=YaP hc;have hcn:c<n:=(mem_bitsN.mp hcm).1;refine ⟨_,rfl,a,dx,_,rfl,R2.ob,rfl,_,rfl,_,rfl,a,dx,db,dl,dk,o,p,n,m,c,qs,kv,rfl,hm,by omega,hcm,R2,λkv3 H3 B3 R3=>?_⟩;refine ⟨_,rfl,a,dx,_,rfl,R3.ob,rfl,_,rfl,a,dx,db,dl,dk,o,p,n,m,qs,kv3,rfl,hm,by omega,R3,λkv4 H4 B4 R4=>⟨rfl,_,rfl,?_⟩⟩;rw [ZqM]
    by_cases e:thr p (Zas n m) c=fw p (Zas n m)
    ·rw [Ya4 e];obtain ⟨g1,g2⟩:=R4.hq c _ (Zed (by rw [R4.ln];exact hcn));refine iteT ⟨_,rfl,_,_,0,_,rfl,rfl,sqt g1,rfl,q _ kv4 H4 ((Same.but1 s1).trans (B2.trans (B3.trans B4))) R4 ?_⟩;have eb:bst p (Zas n m)=some c:=Zlf hno hc (Ya4 e);rw [eb];exact ⟨_,rfl,g2⟩
    ·rw [Ya5 e];refine iteF ⟨kv4,_,rfl,B2.trans (B3.trans B4),R4,λx hx=>?_⟩;rw [List.take_add_one,hc] at hx;rcases YaG.mp hx with z | z
     ·exact hno x z
     ·have:x=c:=by simpa using z
      subst this;rw [Ya5 e];exact Yaq
  ·rintro σ H2 ⟨kv,o2,rfl,B2,R2,hno⟩;rw [Yaa,List.take_length] at hno;refine q _ kv H2 ((Same.but1 s1).trans B2) R2 ?_;have eb:bst p (Zas n m)=none:=List.find?_eq_none.mpr hno;rw [eb];rfl
def ZnT:Sp:=λvs H Q _=>∃ (r p:Nat) (a b:Addr) (ls hs:List Int),vs=[.int (r:Nat),.int (p:Nat),.ref a,.ref b]/\1<=r/\r<=4/\1<=p/\p<=4/\Row H a ls/\Row H b hs/\TwoSt r p ls hs/\∀ v H',Same H H'->AnsP H' v ((bst p (opnL r p ls hs)).map (Zcb p))->Q v H'
theorem sc_best:FnScope ["r","p","low","high","reckoning"] ["r","p","low","high"] (Zad Zpu):=scm
theorem Zo6 (zK:RkM K mg C) (D:Zah K mg "best_look" Zpu ["r","p","low","high"]) (G1:FnAt P w K mg base 3 "need_size" ["r","p"] ZbT) (G2:FnAt P w K mg base 4 "need_stairs" ["r","p","low","high"] ZbO)
  (M0:MtAt P w K mg base 2 C "__init__" ["self","r","p"] (Zha C)) (M1:MtAt P w K mg base 2 C "left_between" ["self","low","high"] (Zhb C)) (M2:MtAt P w K mg base 35 C "first_cell" ["self","left"] (ZjV C)):FnAt P w K mg base 36 "best_look" ["r","p","low","high"] ZnT:=by
 refine fao D sc_best (λvs H Q E h=>?_) (λf g A o s H vs Q E hr h=>?_)
 ·obtain ⟨r,p,a,b,ls,hs,rfl,_⟩:=h;rfl
 ·obtain ⟨r,p,a,b,ls,hs,rfl,r1,r4,p1,p4,hA,hB,S,q⟩:=h;have nd:=sc_best.nd;have hr3:Room 3 _:=hr.mono (show 3<=35 by decide);have hr4:Room 4 _:=hr.mono (show 4<=35 by decide);have hr2:Room 2 _:=hr.mono (show 2<=35 by decide);refine ⟨_,Zaa (Zaq (pe_f G1 hr3 (Zab (pv 0) (pa1 (pv 1)))))
   (Zaa (Zaq (pe_f G2 hr4 (Zab (pv 0) (Zab (pv 1) (Zab (pv 2) (pa1 (pv 3)))))))
   (Zaa (Zal (i:=4) nd rfl (Or.inl rfl) (Zkl M0 zK.mks zK.kp hr3 rfl zK.gl (Zab (pv 0) (pa1 (pv 1)))))
   (Zaf (Zak (pe_m M2 zK.c.cls hr (pv 4) (pa1 (pe_m M1 zK.c.cls hr2 (pv 4) (Zab (pv 2) (pa1 (pv 3)))))))))),?_⟩
  refine ⟨_,rfl,_,rfl,r,p,rfl,r1,r4,p1,p4,_,rfl,_,rfl,_,rfl,_,rfl,r,p,a,b,ls,hs,rfl,r4,hA,hB,S,λH1 s1=>?_⟩;refine ⟨_,rfl,_,rfl,λx dx hx hdx ndx=>?_⟩;have s2:Same H1 (upd (upd H1 dx (.own x)) x (.ins C dx [])):=((srf H1).upd hdx).upd hx;have e2:(upd (upd H1 dx (.own x)) x (.ins C dx [])) x=some (.ins C dx []):=Zac;generalize upd (upd H1 dx (.own x)) x (.ins C dx [])=H2 at s2 e2 ⊢;refine ⟨x,dx,r,p,rfl,e2,r4,p1,p4,λdb dl dk o qs H3 B3 hdb hdl hdk R=>⟨rfl,?_⟩⟩;have s3:Same H1 H3:=λb u e=>B3 _ _ (Zai e hx) (s2 _ _ e);have hdk1:H1 dk=none:=s2.free hdk;refine ⟨_,rfl,x,dx,_,rfl,R.ob,rfl,_,rfl,x,dx,_,rfl,R.ob,rfl,_,rfl,_,rfl,x,dx,db,dl,dk,a,b,o,r,p,qs,kn0,ls,hs,rfl,R,(hA.same s1).same s3,(hB.same s1).same s3,S.lo.len,S.hi.len,λH4 s4=>?_⟩;have R4:=R.same s4;have eb:Zas (r * p) (msum (r * p) λi=>opnB ls hs (i / p) (i % p))=opnL r p ls hs:=Zdq _ _;refine ⟨x,dx,db,dl,dk,o,p,r * p,_,qs,kn0,rfl,Zdc _ _,R4,λv kv H5 B5 R5 hv=>?_⟩;rw [eb] at hv;exact q v H5 (λb u e=>B5 _ _ (Zai (s1 _ _ e) hdk1) (s4 _ _ (s3 _ _ (s1 _ _ e)))) hv
end
open PySem L2 PyProof.Rows
theorem ZdH (k:Nat) (c:Int):(List.replicate k [V.int c]).flatten=(List.replicate k c).map V.int:=by
 induction k with
 |zero=>rfl
 |succ k ih=>rw [List.replicate_succ,List.flatten_cons,ih,List.replicate_succ];rfl
open PySem L2 PyProof.Rows
theorem Zf1 {r p:Nat}{c:Int} (h0:0<=c) (h1:c<=p):StairP r p (List.replicate r c):=by
 refine ⟨List.length_replicate,λn hn=>?_,λi hi=>?_⟩
 ·rw [List.eq_of_mem_replicate hn];exact ⟨h0,h1⟩
 ·rw [List.length_replicate] at hi;have e:∀ k,k<r->(List.replicate r c).getD k 0=c:=λk hk=>by simp [hk]
  rw [e _ hi,e _ (by omega)];exact Int.le_refl _
open PySem L2 PyProof.Rows
theorem Zg8 {r p:Nat}{a b:Int} (ha:0<=a) (hab:a<=b) (hb:b<=p):TwoSt r p (List.replicate r a) (List.replicate r b) :=
 ⟨Zf1 ha (by omega),Zf1 (by omega) hb,λi hi=>by
  rw [Yat,Yat,List.getElem?_replicate,List.getElem?_replicate,Ya7 hi,Ya7 hi]
  exact hab⟩
open PySem L2 PyProof.Rows
section
variable {P:Program}{w:World}{K:Yab}{mg:Str->Option Value}{base:Heap}
def allL (r p:Nat):List Nat:=opnL r p (List.replicate r 0) (List.replicate r (p:Int))
def Zf6:Sp:=λvs H Q _=>∃ r p:Nat,vs=[.int (r:Nat),.int (p:Nat)]/\1<=r/\r<=4/\1<=p/\p<=4/\∀ H',Same H H'->Q (.int ((fw p (allL r p):Nat):Int)) H'
theorem ZiY:FnScope ["r","p"] ["r","p"] (Zad ZhI):=scm
theorem Zi8 (D:Zah K mg "fewest_looks" ZhI ["r","p"]) (G1:FnAt P w K mg base 3 "need_size" ["r","p"] ZbT) (G2:FnAt P w K mg base 35 "looks_left" ["r","p","low","high"] ZcJ):FnAt P w K mg base 36 "fewest_looks" ["r","p"] Zf6:=by
 refine fao D ZiY (λvs H Q E h=>?_) (λf g A o s H vs Q E hr h=>?_)
 ·obtain ⟨r,p,rfl,_⟩:=h;rfl
 ·obtain ⟨r,p,rfl,r1,r4,p1,p4,q⟩:=h;have hr3:Room 3 _:=hr.mono (show 3<=35 by decide);refine ⟨_,Zaa (Zaq (pe_f G1 hr3 (Zab (pv 0) (pa1 (pv 1))))) (Zaf (Zak (pe_f G2 hr (Zab (pv 0) (Zab (pv 1) (Zab (Zan Zid (ZaN (pa1 Zae)) (pv 0)) (pa1 (Zan Zid (ZaN (pa1 (pv 1))) (pv 0))))))))),?_⟩;refine ⟨_,rfl,_,rfl,r,p,rfl,r1,r4,p1,p4,_,rfl,_,rfl,len1,λl1 h1=>?_⟩;have s1:Same H (upd H l1 (.lst [.int 0])):=snw h1;have e1:(upd H l1 (.lst [.int 0])) l1=some (.lst [.int 0]):=Zac;generalize upd H l1 (.lst [.int 0])=H1 at s1 e1 ⊢;refine ⟨_,rfl,l1,_,_,rfl,rfl,e1,by omega,by omega,?_,λl2 h2=>?_⟩
  ·rw [Yav];exact sl6 (by simp;omega)
  rw [Yav,ZdH];have s2:Same H1 (upd H1 l2 (.lst ((List.replicate r (0:Int)).map V.int))):=snw h2;have e2:Row (upd H1 l2 (.lst ((List.replicate r (0:Int)).map V.int))) l2 (List.replicate r 0):=Zac;generalize upd H1 l2 (.lst ((List.replicate r (0:Int)).map V.int))=H2 at s2 e2 ⊢;refine ⟨_,rfl,len1,λl3 h3=>?_⟩;have s3:Same H2 (upd H2 l3 (.lst [.int (p:Nat)])):=snw h3;have e3:(upd H2 l3 (.lst [.int (p:Nat)])) l3=some (.lst [.int (p:Nat)]):=Zac;generalize upd H2 l3 (.lst [.int (p:Nat)])=H3 at s3 e3 ⊢;refine ⟨_,rfl,l3,_,_,rfl,rfl,e3,by omega,by omega,?_,λl4 h4=>?_⟩
  ·rw [Yav];exact sl6 (by simp;omega)
  rw [Yav,ZdH];have s4:Same H3 (upd H3 l4 (.lst ((List.replicate r (p:Int)).map V.int))):=snw h4;have e4:Row (upd H3 l4 (.lst ((List.replicate r (p:Int)).map V.int))) l4 (List.replicate r (p:Int)):=Zac;generalize upd H3 l4 (.lst ((List.replicate r (p:Int)).map V.int))=H4 at s4 e4 ⊢;exact ⟨r,p,l2,l4,_,_,rfl,r1,r4,p1,p4,(e2.same s3).same s4,e4,Zg8 (by decide) (by omega) (by omega),λH5 s5=>q H5 (s1.trans (s2.trans (s3.trans (s4.trans s5))))⟩
end
open PySem L2 PyProof.Rows
def Bd27 (ns:List Int):Prop:=∀ n∈ns,n.natAbs<10 ^ 27
theorem e25n:(10:Int) ^ (25:Int).toNat=10000000000000000000000000:=by decide
theorem e12n:(10:Int) ^ (12:Int).toNat=1000000000000:=by decide
def Stq (m:Int) (n:Int):Prop:=-40<=n/\n<=10000000000000000000000000+m * 1000000000000
theorem Zcj {p:Prop} [Decidable p] (h:¬ decide p=true):¬ p:=λz=>h (Ya4 z)
section
variable {P:Program}{w:World}{K:Yab}{mg:Str->Option Value}{base:Heap}
def ZdT:Sp:=λvs H Q _=>∃ (c:Int) (k:Nat),vs=[.int c,.int (k:Nat)]/\k<=100/\∀ v H',0<=v->v<10000000000000->Same H H'->Q (.int v) H'
theorem sc_mixed:FnScope ["cell","k","number","some"] ["cell","k"] (Zad Zlt):=scm
theorem ZmV (D:Zah K mg "_law_mixed" Zlt ["cell","k"]):FnAt P w K mg base 1 "_law_mixed" ["cell","k"] ZdT:=by
 refine fao D sc_mixed (λvs H Q E h=>?_) (λf g A o s H vs Q E hr h=>?_)
 ·obtain ⟨c,k,rfl,_⟩:=h;rfl
 ·obtain ⟨c,k,rfl,hk,q⟩:=h;have nd:=sc_mixed.nd;refine ⟨_,Zaa (Zal (i:=2) nd rfl (Or.inl rfl) (Zan ZbA (Zan Zby (Zan Zby (Zan Zby (Zan Zdz (pv 0) Zae) (Zan Zdz (Zan Zdz Zae (pv 1)) (pv 1))) (Zan Zdz Zae (pv 1))) Zae) Zae))
   (Zaa (Zal (i:=3) nd rfl (Or.inl rfl) (ZaN (Zab Zae (Zab Zae (Zab Zae (Zab Zae (Zab Zae (Zab Zae (pa1 Zae)))))))))
   (Zaa (Zal (i:=2) nd rfl (Or.inl rfl) (Zan ZbA (Zan Zdz (pv 2) (pv 2)) (pix Zaj (pv 3) (Zan ZbA (pv 1) Zae))))
   (Zaf (Zak (Zan Zhw (Zan Zby (Zan Zdz (pv 2) Zae) (Zan ZbA (pv 0) Zae)) Zae))))),?_⟩
  refine ⟨_,rfl,_,_,rfl,rfl,.inr ⟨by decide,by decide⟩,_,rfl,_,_,rfl,rfl,.inl ⟨by decide,by decide⟩,_,rfl,_,_,rfl,rfl,.inr ⟨by omega,by omega⟩,_,_,rfl,rfl,_,rfl,_,_,rfl,rfl,.inl ⟨by decide,by decide⟩,_,_,rfl,rfl,_,_,rfl,rfl,_,_,rfl,rfl,by decide,?_⟩;have m0:=Ybj (c * 48271+7919 * (k:Int) * (k:Int)+104729 * (k:Int)+11) (show (2147483647:Int)≠0 by decide);have m1:=Ybk (c * 48271+7919 * (k:Int) * (k:Int)+104729 * (k:Int)+11) (show (0:Int)<2147483647 by decide);generalize (c * 48271+7919 * (k:Int) * (k:Int)+104729 * (k:Int)+11) % 2147483647=m at m0 m1;refine ⟨sl6 (by decide),λl hl=>?_⟩;have s1:Same H (upd H l (.lst [.int 2147483629,.int 2147483587,.int 2147483579,.int 2147483563,.int 2147483549,.int 2147483543,.int 2147483497])):=snw hl;have e1:(upd H l (.lst [.int 2147483629,.int 2147483587,.int 2147483579,.int 2147483563,.int 2147483549,.int 2147483543,.int 2147483497])) l=some (.lst ([2147483629,2147483587,2147483579,2147483563,2147483549,2147483543,2147483497].map V.int)):=Zac;generalize upd H l (.lst [.int 2147483629,.int 2147483587,.int 2147483579,.int 2147483563,.int 2147483549,.int 2147483543,.int 2147483497])=H1 at s1 e1 ⊢;obtain ⟨r,hr1,hr2⟩:=ZlS (ns:=[2147483629,2147483587,2147483579,2147483563,2147483549,2147483543,2147483497]) (d:=(k:Int) % 7) (by omega) (show (k:Int) % 7<7 by omega);have hr3:0<r/\r<2147483647:=by
   simp only [YaF,Yax,or_false] at hr1;omega
  refine ⟨_,rfl,_,rfl,_,_,rfl,rfl,.inl ⟨by omega,by omega⟩,_,rfl,_,rfl,_,_,rfl,rfl,by decide,l,_,_,.int r,rfl,rfl,sqo e1,hr2,_,_,rfl,rfl,hr3.1,?_⟩;have n0:=Ybj (m * m) (show r≠0 by omega);have n1:=Ybk (m * m) hr3.1;generalize m * m % r=n at n0 n1;refine ⟨_,rfl,_,_,rfl,rfl,.inl ⟨by omega,by omega⟩,_,rfl,_,_,rfl,rfl,by decide,_,_,rfl,rfl,_,_,rfl,rfl,⟨by decide,by decide⟩,q _ H1 (by omega) (by omega) s1⟩
def ZjK:Sp:=λvs H Q _=>∃ (c:Int),vs=[.int c,.int 4]/\0<=c/\∀ t prs H',H t=none->(∀ p∈prs,H p.1=none)->(prs.map (·.1)).Nodup->Same H H'->Tab H' t prs->tabB prs=true->(∀ p∈prs,Bd27 p.2)->Q (.ref t) H'
theorem sc_tab34:FnScope ["cell","most","rows","places","kind","first","table","r","row","c","least","one","some"] ["cell","most"] (Zad Zlr):=scm
inductive TbA (H:Hp) (cc rows wide kind first:Int) (tb:Addr) (i:Nat) (σ:L2.St) (H2:Hp):Prop
 |mk (prs:Prs) (o7 o8 o9 o10 o11 o12:Option V) (h1:σ = [some (.int cc),some (.int 4),some (.int rows),some (.int wide),some (.int kind),some (.int first),some (.ref tb),o7,o8,o9,o10,o11,o12]) (h2:Same H H2) (h3:Tab H2 tb prs) (h4:prs.length=i) (h5:GoodP wide.toNat prs) (h6:(prs.map (·.1)).Nodup) (h7:∀ p∈prs,H p.1=none) (h8:∀ p∈prs,∀ n∈p.2,Stq (6 * (i:Nat)) n):TbA H cc rows wide kind first tb i σ H2
inductive TbB (H:Hp) (cc rows wide kind first:Int) (tb nn:Addr) (prs:Prs) (i j:Nat) (σ:L2.St) (H3:Hp):Prop
 |mk (cur:List Int) (o9 o10 o11 o12:Option V) (h1:σ = [some (.int cc),some (.int 4),some (.int rows),some (.int wide),some (.int kind),some (.int first),some (.ref tb),some (.int (0+(i:Nat))),some (.ref nn),o9,o10,o11,o12]) (h2:Same H H3) (h3:Tab H3 tb prs) (h4:Row H3 nn cur) (h5:cur.length=j) (h6:nfP cur) (h7:i=0\/∀ k,k<j->(Zat prs (i - 1)).getD k 0<=cur.getD k 0) (h8:∀ n∈cur,Stq (6 * (i:Nat)+(j:Nat)) n):TbB H cc rows wide kind first tb nn prs i j σ H3
theorem ZmN (T:Blt mg) (D:Zah K mg "_law_table" Zlr ["cell","most"]) (G:FnAt P w K mg base 1 "_law_mixed" ["cell","k"] ZdT):FnAt P w K mg base 2 "_law_table" ["cell","most"] ZjK:=by
 refine fao D sc_tab34 (λvs H Q E h=>?_) (λf g A o s H vs Q E hr h=>?_)
 ·obtain ⟨c,rfl,_⟩:=h;rfl
 ·obtain ⟨cc,rfl,hc0,q⟩:=h;have nd:=sc_tab34.nd;refine ⟨_,Zaa (Zib (i:=2) (j:=3) rfl nd rfl rfl (by decide) rfl rfl (Zab (Zan Zby Zae (Zan ZbA (pv 0) (pv 1))) (pa1 (Zan Zby Zae (Zan ZbA (Zan Zhw (pv 0) (pv 1)) (pv 1))))) rfl)
   (Zaa (Zal (i:=4) nd rfl (Or.inl rfl) (Zan ZbA (Zan Zhw (pv 0) (Zan Zdz (pv 1) (pv 1))) Zae))
   (Zaa (Zal (i:=5) nd rfl (Or.inl rfl) (pix Zaj (ZaN (Zab Zae (Zab Zae (Zab (Zfl Zfs Zae) (Zab (Zan Zqm Zae Zae) (pa1 (Zfl Zfs Zae))))))) (pv 4)))
   (Zaa (Zal (i:=6) nd rfl (Or.inl rfl) (ZaN ZaT))
   (Zaa (Zbi PassesOwn.never rfl (ZaG rfl T.rng (pa1 (pv 2))) (Zax (i:=7) nd rfl (Or.inl rfl))
    (Zaa (Zal (i:=8) nd rfl (Or.inl rfl) (ZaN ZaT))
    (Zaa (Zbi PassesOwn.never rfl (ZaG rfl T.rng (pa1 (pv 3))) (Zax (i:=9) nd rfl (Or.inl rfl))
     (Zaa (Zal (i:=10) nd rfl (Or.inl rfl) (pv 5))
     (Zaa (Zbn (pcm o_gt (pv 7) Zae) (Zaf (Zal (i:=10) nd rfl (Or.inl rfl) (pix Zaj (pix Zaj (pv 6) (Zan Zb4 (pv 7) Zae)) (pv 9)))) ZaI)
     (Zaa (Zbn (pcm o_gt (pv 9) Zae) (Zaf (Zal (i:=10) nd rfl (Or.inl rfl) (pe_b (ZbX rfl) T.max boot_max (Zab (pv 10) (pa1 (pix Zaj (pv 8) (Zfl Zfs Zae))))))) ZaI)
     (Zaa (Zal (i:=11) nd rfl (Or.inl rfl) (pe_f G hr (Zab (pv 0) (pa1 (Zan Zby (Zan Zdz Zae (pv 7)) (pv 9))))))
     (Zaa (Zal (i:=12) nd rfl (Or.inl rfl) (ZaN (Zab (Zan ZbA (pv 11) Zae) (Zab (Zan ZbA (pv 11) Zae) (Zab (Zan Zby Zae (Zan ZbA (pv 11) Zae)) (Zab (Zan ZbA (pv 11) (Zan Zqm Zae Zae)) (pa1 (Zan Zhw (Zan ZbA (pv 11) Zae) Zae))))))))
     (Zaf (Zaq (ZcK YaS YaU YaV Za7 (pv 8) (pa1 (Zan Zby (pv 10) (pix Zaj (pv 12) (pv 4)))))))))))))
    (Zaf (Zaq (ZcK YaS YaU YaV Za7 (pv 6) (pa1 (pv 8))))))))
   (Zaf (Zak (pv 6))))))),?_⟩
  refine ⟨_,rfl,_,rfl,_,_,rfl,rfl,by decide,_,_,rfl,rfl,_,rfl,_,rfl,_,_,rfl,rfl,⟨by decide,by decide⟩,_,rfl,_,_,rfl,rfl,by decide,_,_,rfl,rfl,_,_,rfl,?_⟩;have r1:1<=1+cc % 4/\1+cc % 4<=6:=by omega
  have p1:1<=1+cc / 4 % 4/\1+cc / 4 % 4<=6:=by omega
  generalize 1+cc % 4=rows at r1 ⊢;generalize 1+cc / 4 % 4=wide at p1 ⊢;refine ⟨_,rfl,_,rfl,_,rfl,_,_,rfl,rfl,.inl ⟨by decide,by decide⟩,_,_,rfl,rfl,⟨by decide,by decide⟩,_,_,rfl,rfl,by decide,?_⟩;have k0:0<=cc / (4 * 4) % 5:=by omega
  have k1:cc / (4 * 4) % 5<5:=by omega
  generalize cc / (4 * 4) % 5=kind at k0 k1 ⊢;refine ⟨_,rfl,_,_,rfl,rfl,⟨by decide,by decide,by decide⟩,_,rfl,len5,λl3 hl3=>?_⟩;rw [e25n];obtain ⟨first,hf1,hf2⟩:=ZlS (ns:=[0,0,-3,10000000000000000000000000,-40]) k0 k1;have hfirst:Stq 0 first:=by
   simp only [YaF,Yax,or_false] at hf1;unfold Stq;omega
  refine ⟨_,rfl,l3,_,_,.int first,rfl,rfl,sqo Zac,hf2,?_⟩;have s3:Same H (upd H l3 (.lst [.int 0,.int 0,.int (-3),.int 10000000000000000000000000,.int (-40)])):=snw hl3;generalize upd H l3 (.lst [.int 0,.int 0,.int (-3),.int 10000000000000000000000000,.int (-40)])=H2 at s3 ⊢;have B6:=s3;clear s3 hf1 hf2;refine ⟨len0,λtb htb=>?_⟩;have tb0:H tb=none:=B6.free htb;refine ⟨_,rfl,rows,rfl,by omega,by omega,ZaZ (TbA H cc rows wide kind first tb)
   ⟨[],none,none,none,none,none,none,rfl,B6.trans (snw htb),⟨Zac,λp hp=>nomatch hp⟩,rfl,⟨λp hp=>(nomatch hp),λp hp=>(nomatch hp),λi hi=>absurd hi (by simp)⟩,by simp,(λp hp=>nomatch hp),λp hp=>nomatch hp⟩ ?_ ?_⟩
  ·rintro i σ H2 hi ⟨prs,o7,o8,o9,o10,o11,o12,rfl,B,hT,hlen,hg,hnd,hfr,hbd⟩;refine ⟨len0,λnn hnn=>?_⟩;have nn0:H nn=none:=B.free hnn;have nnt:tb≠nn:=Zai hT.l hnn;have nnp:∀ p∈prs,p.1≠nn:=λp hp=>Zai (hT.r p hp) hnn;refine ⟨_,rfl,wide,rfl,by omega,by omega,ZaZ (TbB H cc rows wide kind first tb nn prs i)
    ⟨[],o9,o10,o11,o12,rfl,B.trans (snw hnn),hT.same (snw hnn),Row.new,rfl,λk hk=>absurd hk (by simp),.inr λk hk=>absurd hk (by simp),λn hn=>nomatch hn⟩ ?_ ?_⟩
   ·rintro j σ H3 hj ⟨cur,o9,o10,o11,o12,rfl,B3,hT3,hR3,hcl,hnf,hab,hcb⟩;have hd1:∀ (ah:Int) (mo:Int) (H6:Hp),0<=mo->mo<=1000000000000->Same H3 H6->(i=0\/(Zat prs (i - 1)).getD j 0<=ah)->(∀ k,k+1=cur.length->cur.getD k 0<=ah)->Stq (6 * (i:Nat)+(j:Nat)) ah ->
      Same H (upd H6 nn (.lst (cur.map V.int ++ [.int (ah+mo)])))/\Tab (upd H6 nn (.lst (cur.map V.int ++ [.int (ah+mo)]))) tb prs/\(cur ++ [ah+mo]).length=j+1/\nfP (cur ++ [ah+mo])/\(i=0\/∀ k,k<j+1->(Zat prs (i - 1)).getD k 0<=(cur ++ [ah+mo]).getD k 0)/\∀ n∈cur ++ [ah+mo],Stq (6 * (i:Nat)+(j+1:Nat)) n:=by
     intro ah mo H6 mo0 mo1 s6 hm1 hm2 hm3;refine ⟨λb o e=>?_,⟨by rw [Zag nnt];exact (hT3.same s6).l,λp hp=>?_⟩,?_,?_,?_,?_⟩
     ·rw [Zag (Zai e nn0)];exact s6 _ _ (B3 b o e)
     ·unfold Row;rw [Zag (nnp p hp)];exact (hT3.same s6).r p hp
     ·rw [Yak,YaI,hcl]
     ·refine Znc hnf λk hk=>?_;have:=hm2 k hk;omega
     ·rcases hab with z | z
      ·exact .inl z
      ·rcases hm1 with z2 | z2
       ·exact .inl z2
       ·refine .inr λk hk=>?_;rw [Zei]
        by_cases hkj:k<cur.length
        ·rw [Ya7 hkj];exact z k (by omega)
        ·rw [Ya6 hkj,Ya7 (by omega),show k=j by omega];omega
     ·intro n hn;rcases YaG.mp hn with z | z
      ·have:=hcb n z;unfold Stq at this ⊢;omega
      ·rw [YaJ.mp z];unfold Stq at hm3 ⊢;omega
    have hfirst':Stq (6 * (i:Nat)+(j:Nat)) first:=by
     unfold Stq at hfirst ⊢;omega
    refine ⟨_,rfl,?_⟩;dsimp only [Za1];refine ZcL (λN=>∀ ah:Int,(i=0\/(Zat prs (i - 1)).getD j 0<=ah)->Stq (6 * (i:Nat)+(j:Nat)) ah->N [some (.int cc),some (.int 4),some (.int rows),some (.int wide),some (.int kind),some (.int first),some (.ref tb),some (.int (0+(i:Nat))),some (.ref nn),some (.int (0+(j:Nat))),some (.int ah),o11,o12] H3) (λah hm1 hm3=>?_) (λtail=>?_)
    ·refine ZcL (λN=>∀ ah:Int,(i=0\/(Zat prs (i - 1)).getD j 0<=ah)->(∀ k,k+1=cur.length->cur.getD k 0<=ah)->Stq (6 * (i:Nat)+(j:Nat)) ah->N [some (.int cc),some (.int 4),some (.int rows),some (.int wide),some (.int kind),some (.int first),some (.ref tb),some (.int (0+(i:Nat))),some (.ref nn),some (.int (0+(j:Nat))),some (.int ah),o11,o12] H3) (λah hm1 hm2 hm3=>?_) (λtail=>?_)
     ·refine ⟨_,rfl,_,rfl,_,_,rfl,rfl,.inl ⟨by decide,by decide⟩,_,rfl,_,_,rfl,rfl,cc,7 * i+j,?_,by omega,λmo H5 m0 m1 s5=>?_⟩
      ·rw [show 7 * (0+(i:Int))+(0+(j:Int))=((7 * i+j:Nat):Int) by omega]
      refine ⟨_,rfl,_,_,rfl,rfl,by decide,_,rfl,_,_,rfl,rfl,by decide,_,rfl,_,_,rfl,rfl,by decide,_,_,rfl,rfl,_,rfl,_,_,rfl,rfl,⟨by decide,by decide,by decide⟩,_,_,rfl,rfl,(by rw [e12n];decide),_,rfl,_,_,rfl,rfl,by decide,_,_,rfl,rfl,⟨by decide,by decide⟩,len5,λls hls=>?_⟩;rw [e12n];have sls:Same H5 (upd H5 ls (.lst [.int (mo % 2),.int (mo % 3),.int (1+mo % 4),.int (mo % 1000000000000),.int (mo % 7 / 5)])):=snw hls;have hls2:(upd H5 ls (.lst [.int (mo % 2),.int (mo % 3),.int (1+mo % 4),.int (mo % 1000000000000),.int (mo % 7 / 5)])) ls=some (.lst ([mo % 2,mo % 3,1+mo % 4,mo % 1000000000000,mo % 7 / 5].map V.int)):=Zac;generalize upd H5 ls (.lst [.int (mo % 2),.int (mo % 3),.int (1+mo % 4),.int (mo % 1000000000000),.int (mo % 7 / 5)])=H6 at sls hls2 ⊢;obtain ⟨r,hr1,hr2⟩:=ZlS (ns:=[mo % 2,mo % 3,1+mo % 4,mo % 1000000000000,mo % 7 / 5]) k0 k1;have hr0:0<=r/\r<=1000000000000:=by
       simp only [YaF,Yax,or_false] at hr1;omega
      have s6:=s5.trans sls;have hR6:=hR3.same s6;refine ⟨_,rfl,.inl ⟨rfl,_,hR6.sq⟩,_,rfl,_,rfl,_,rfl,ls,_,_,.int r,rfl,rfl,sqo hls2,hr2,_,_,rfl,rfl,nn,_,_,rfl,rfl,hR6,?_,?_⟩
      ·rw [Yaa];exact Zav (by omega)
      ·obtain ⟨z1,z2,z3,z4,z5,z6⟩:=hd1 ah r H6 hr0.1 hr0.2 s6 hm1 hm2 hm3;exact ⟨cur ++ [ah+r],_,_,_,_,rfl,z1,z2,Row.push,z3,z4,z5,z6⟩
     ·refine ⟨_,rfl,_,_,rfl,rfl,_,rfl,ite2 (λhcol=>?_) (λhcol=>?_)⟩
      ·have hcol:=of_decide_eq_true hcol;refine ⟨_,rfl,_,rfl,_,rfl,nn,_,_,_,rfl,rfl,hR3.sq,ZpB (by omega),_,_,rfl,?_⟩;have hla:=hcb (cur.getD (cur.length - 1) 0) (by rw [Yat,Yac (by omega)];exact YaL _);have hlk:∀ k,k+1=cur.length->cur.getD k 0=cur.getD (cur.length - 1) 0:=λk hk=>by rw [show cur.length - 1=k by omega]
       generalize cur.getD (cur.length - 1) 0=la at hla hlk ⊢;refine tail _ ?_ (λk hk=>?_) ?_
       ·rcases hm1 with z | z
        ·exact .inl z
        ·exact .inr (by split <;> omega)
       ·rw [hlk k hk];split <;> omega
       ·split
        ·exact hla
        ·exact hm3
      ·have hcol:=Zcj hcol;exact tail ah hm1 (λk hk=>by omega) hm3
    ·refine ⟨_,rfl,_,_,rfl,rfl,_,rfl,ite2 (λhrow=>?_) (λhrow=>?_)⟩
     ·have hrow:=of_decide_eq_true hrow;obtain ⟨p,hp1,hp2,hp3⟩:=ZaA (prs:=prs) (i:=i - 1) (by omega);have hpl:=hg.len p hp1;refine ⟨_,rfl,_,rfl,_,_,rfl,rfl,tb,_,_,.ref p.1,rfl,rfl,hT3.sq,?_,_,rfl,p.1,_,_,.int (p.2.getD j 0),rfl,rfl,(hT3.r p hp1).sq,?_,tail _ (.inr (by rw [hp3];exact Int.le_refl _)) ?_⟩
      ·rw [show (0:Int)+(i:Int) - 1=((i - 1:Nat):Int) by omega];exact Zaz (by rw [Yaf,hp2];rfl)
      ·rw [Int.zero_add];exact ZaW (by omega)
      ·have:=hbd p hp1 (p.2.getD j 0) (by rw [Yat,Yac (by omega)];exact YaL _);unfold Stq at this ⊢;omega
     ·have hrow:=Zcj hrow;exact tail first (.inl (by omega)) hfirst'
   ·
    rintro σ H3 ⟨cur,o9,o10,o11,o12,rfl,B3,hT3,hR3,hcl,hnf,hab,hcb⟩;refine ⟨_,rfl,.inl ⟨rfl,_,hT3.sq⟩,_,rfl,tb,_,_,rfl,rfl,hT3.l,?_,?_⟩
    ·rw [Yaa];exact Zav (by omega)
    ·have key:∀ b o,b≠tb->H3 b=some o->(upd H3 tb (.lst ((prs.map λp=>V.ref p.1) ++ [.ref nn]))) b=some o:=λb o hb e=>by
      rw [Zag hb];exact e
     have ntb:∀ p∈prs,p.1≠tb:=λp hp z=>by
      have h1:=hT3.r p hp;rw [z] at h1;have h2:=hT3.l;unfold Row at h1;rw [h1] at h2;have h3:=hg.len p hp;cases e:p.2 with
      |nil=>rw [e] at h3;simp at h3;omega
      |cons u v =>
       rw [e] at h2;cases prs with
       |nil=>simp at h2
       |cons a b=>simp at h2
     refine ⟨prs ++ [(nn,cur)],_,_,_,_,_,_,rfl,?_,?_,?_,?_,?_,?_,?_⟩
     ·intro b o e;exact key b o (Zai e tb0) (B3 b o e)
     ·refine ⟨by rw [Zac,Yah];rfl,λp hp=>?_⟩;rcases YaG.mp hp with z | z
      ·exact key _ _ (ntb p z) (hT3.r p z)
      ·have:p=(nn,cur):=by simpa using z
       subst this;exact key _ _ (Ne.symm nnt) hR3
     ·rw [Yak,YaI,hlen]
     ·refine Zk8 hg (by omega) hnf ?_;rcases hab with z | z
      ·exact .inl (by omega)
      ·refine .inr λk hk=>?_;rw [hlen];exact z k (by omega)
     ·rw [Yah,List.nodup_append];refine ⟨hnd,by simp,λa ha b hb=>?_⟩;obtain ⟨p,hp,rfl⟩:=Yar.mp ha;have:b=nn:=by simpa using hb
      subst this;exact nnp p hp
     ·intro p hp;rcases YaG.mp hp with z | z
      ·exact hfr p z
      ·have:p=(nn,cur):=by simpa using z
       subst this;exact nn0
     ·intro p hp n hn;rcases YaG.mp hp with z | z
      ·have:=hbd p z n hn;unfold Stq at this ⊢;omega
      ·have:p=(nn,cur):=by simpa using z
       subst this;have:=hcb n hn;unfold Stq at this ⊢;omega
  ·rintro σ H2 ⟨prs,o7,o8,o9,o10,o11,o12,rfl,B,hT,hlen,hg,hnd,hfr,hbd⟩;refine ⟨_,rfl,q tb prs H2 tb0 hfr hnd B hT (Ze6 hg (by omega) (by omega) (by omega) (by omega)) λp hp n hn=>?_⟩;have:=hbd p hp n hn;unfold Stq at this;omega
end
open PySem L2 PyProof.Rows
structure CL (H:Hp) (L:Addr) (cs:Cs):Prop where
 l:H L=some (.lst (cs.map Zce))
 c:∀ c∈cs,Za0 H c
theorem CL.same {H H':Hp}{L:Addr}{cs:Cs} (h:CL H L cs) (s:Same H H'):CL H' L cs:=⟨s _ _ h.l,λc hc=>s _ _ (h.c c hc)⟩
theorem CL.rd {K:Yab}{H:Hp}{L:Addr}{cs:Cs} (h:CL H L cs):RdD K H (.ref L) (ZfK ((cs.map (·.2)).map ck)):=Zca h.l h.c
def ZbC (r p:Nat):List (Nat × Nat):=(List.range r).flatMap λi=>(List.range p).map λj=>(i,j)
theorem ZbY (r p:Nat):ZbC (r+1) p=ZbC r p ++ (List.range p).map λj=>(r,j):=by
 unfold ZbC;rw [List.range_succ,List.flatMap_append];simp
theorem Zcr (r p:Nat):(ZbC r p).length=r * p:=by
 induction r with
 |zero=>simp [ZbC]
 |succ r ih=>rw [ZbY,Yak,ih,Yaa,List.length_range,Nat.succ_mul]
theorem Zc5 {r p:Nat}{c:Nat × Nat} (h:c∈ZbC r p):c.1<r/\c.2<p:=by
 unfold ZbC at h;obtain ⟨i,hi,h⟩:=List.mem_flatMap.mp h;obtain ⟨j,hj,rfl⟩:=Yar.mp h;exact ⟨List.mem_range.mp hi,List.mem_range.mp hj⟩
section
variable {P:Program}{w:World}{K:Yab}{mg:Str->Option Value}{base:Heap}
def Zg9:Sp:=λvs H Q _=>∃ (t:Addr) (prs:Prs),vs=[.ref t]/\Tab H t prs/\tabB prs=true/\∀ L cs H',H L=none->Same H H'->CL H' L cs->cs.map (·.2)=ZbC prs.length (w0 prs)->Q (.ref L) H'
theorem sc_spots:FnScope ["table","found","r"] ["table"] (Zad Ziw):=scm
theorem ZmP (T:Blt mg) (D:Zah K mg "_law_spots" Ziw ["table"]):FnAt P w K mg base 1 "_law_spots" ["table"] Zg9:=by
 refine fao D sc_spots (λvs H Q E h=>?_) (λf g A o s H vs Q E hr h=>?_)
 ·obtain ⟨t,prs,rfl,_⟩:=h;rfl
 ·obtain ⟨t,prs,rfl,hT,hg,q⟩:=h;obtain ⟨g,g1,g2,g3,g4⟩:=ZaF hg;obtain ⟨p0,hp0,hm0,hx0⟩:=Zbg (prs:=prs) g1;have nd:=sc_spots.nd;have nd1:(["c","r"]:List Str).Nodup:=by decide +kernel
  refine ⟨_,Zaa (Zal (i:=1) nd rfl (Or.inl rfl) (ZaN ZaT))
   (Zaa (Zbi PassesOwn.never rfl (ZaG rfl T.rng (pa1 (pln T (pv 0)))) (Zax (i:=2) nd rfl (Or.inr rfl))
    (Zaf (Zaq (ZcK YaS PySem.F.slot_list_extend PySem.F.type_list_extend Zck (pv 1) (Zab
     (Zar ["c","r"] [none,some 2] (Zad Ziw) ["table","found","r"] rfl (ZaG rfl T.rng (pa1 (pln T (pix Zaj (pv 0) Zae)))) (by decide +kernel)
      (λ_ _ _ _ _=>pg_c 0 nd1) (λ_ _ _ _ _=>Zam) (λ_ _ _ _ _=>ZaD (Zab (pv 1) (pa1 (pv 0))))) ZaT)))))
   (Zaf (Zak (pv 1)))),?_⟩
  refine ⟨len0,λL hL=>?_⟩;have s1:Same H (upd H L (.lst [])):=snw hL;have e1:(upd H L (.lst [])) L=some (.lst []):=Zac;generalize upd H L (.lst [])=H1 at s1 e1 ⊢;refine ⟨_,rfl,t,_,rfl,.inl (hT.same s1).sq,_,rfl,?_⟩;rw [Yaa];have g2':prs.length<=6:=g2;refine ⟨by omega,by omega,ZaZ (λi σ H2=>∃ (cs:Cs) (o2:Option V),σ = [some (.ref t),some (.ref L),o2]/\Same H H2/\CL H2 L cs/\cs.map (·.2)=ZbC i (w0 prs)) ⟨[],none,rfl,s1,⟨e1,λc hc=>nomatch hc⟩,rfl⟩ ?_ ?_⟩
  ·rintro i σ H2 hi ⟨cs,o2,rfl,sm,C2,hcm⟩;have hT2:=hT.same sm;have hil:i<prs.length:=by rw [Yav] at hi;exact hi
   have hcl:=congrArg List.length hcm;rw [Yaa,Zcr] at hcl;have hb:i * w0 prs<=6 * 6:=Nat.mul_le_mul (by omega) g4;refine ⟨_,rfl,.inl ⟨rfl,_,sqo C2.l⟩,_,rfl,t,_,0,.ref p0.1,rfl,rfl,hT2.sq,Zaz (j:=0) (by rw [Yaf,hx0];rfl),p0.1,_,rfl,.inl (hT2.r p0 hm0).sq,_,rfl,?_⟩;rw [Yaa,g.len p0 hm0];refine ⟨by omega,by omega,?_⟩;rw [Yav];refine ZbW (λj=>.tup [.int (i:Nat),.int (j:Nat)]) (by omega) (λj hj H3 Q3 s3 q3=>⟨_,rfl,_,rfl,len2,λT1 hT1=>?_⟩) λD2 qs H3 hD2 hqm _ hqs s3 eD=>?_
   ·rw [Int.zero_add,Int.zero_add];exact q3 T1 _ hT1 (snw hT1) Zac
   ·have hL3:=s3 _ _ C2.l;have hql:=congrArg List.length hqm;rw [Yaa,List.length_range] at hql;refine ⟨L,D2,_,_,rfl,rfl,hL3,eD,?_,?_⟩
    ·rw [Yaa,Yaa];exact sl6 (by omega)
    ·refine ⟨cs ++ qs.map λq=>(q.1,i,q.2),_,rfl,(sm.trans s3).upd hL,⟨?_,λc hc=>?_⟩,?_⟩
     ·rw [Zac,Yah,Yau];rfl
     ·have cA:Za0 H3 c:=by
       rcases YaG.mp hc with z | z
       ·exact s3 _ _ (C2.c c z)
       ·obtain ⟨q,hq,rfl⟩:=Yar.mp z;exact (hqs q hq).1
      unfold Za0;rw [Zag (ZfR cA hL3)];exact cA
     ·rw [Yah,hcm,ZbY,Yau,<- hqm,Yau];rfl
  ·rintro σ H2 ⟨cs,o2,rfl,sm,C2,hcm⟩;rw [Yav] at hcm;exact ⟨_,rfl,q L cs H2 hL sm C2 hcm⟩
def spTX:Sp:=λvs H Q _=>∃ (t:Addr) (prs:Prs) (x:Int),vs=[.ref t,.int x]/\Tab H t prs/\tabB prs=true/\∀ H',Same H H'->Q (.bl true) H'
theorem sc_walkG:FnScope ["table","x","r","c","found","at"] ["table","x"] (Zad Zlq):=scm
inductive WkA (H:Hp) (t L:Addr) (x:Int) (prs:Prs) (m:Nat) (σ:L2.St) (H3:Hp):Prop
 |mk (r p:Nat) (rr qq:Int) (v:V) (cs:Cs) (h1:m<=12) (h2:rr=(r:Nat)) (h3:qq=(p:Nat) - 1) (h4:σ = [some (.ref t),some (.int x),some (.int rr),some (.int qq),some (.ref L),some v]) (h5:Same H H3) (h6:CL H3 L cs) (h7:cs.length+m<=12)
  (h8:(v=.non/\m=(prs.length - r)+p/\r<=prs.length/\p<=w0 prs/\cs.map (·.2) ++ ZcC prs x m r p=Zg7 prs x/\ZdO prs x m r p=ZjA prs x)\/(v≠.non/\cs.map (·.2)=Zg7 prs x/\IsCellO H3 v (ZjA prs x))):WkA H t L x prs m σ H3
theorem ZmL (T:Blt mg) (D:Zah K mg "_law_walk_good" Zlq ["table","x"]) (G1:FnAt P w K mg base 7 "walk_for" ["table","x"] ZhV) (G2:FnAt P w K mg base 8 "found_at" ["table","x"] Zhc):FnAt P w K mg base 9 "_law_walk_good" ["table","x"] spTX:=by
 refine fao D sc_walkG (λvs H Q E h=>?_) (λf g A o s H vs Q E hr h=>?_)
 ·obtain ⟨t,prs,x,rfl,_⟩:=h;rfl
 ·obtain ⟨t,prs,x,rfl,hT,hg,q⟩:=h;obtain ⟨g,g1,g2,g3,g4⟩:=ZaF hg;obtain ⟨p0,hp0,hm0,hx0⟩:=Zbg (prs:=prs) g1;have nd:=sc_walkG.nd;have hr7:Room 7 _:=hr.mono (show 7<=8 by decide);refine ⟨_,Zaa (Zib (i:=2) (j:=3) rfl nd rfl rfl (by decide) rfl rfl (Zab Zae (pa1 (Zan Zb4 (pln T (pix Zaj (pv 0) Zae)) Zae))) rfl)
   (Zaa (Zal (i:=4) nd rfl (Or.inl rfl) (ZaN ZaT))
   (Zaa (Zal (i:=5) nd rfl (Or.inl rfl) ZbK)
   (Zaa (Zia PassesOwn.never (PW.pt (Zgi (pcm Zie (pv 5) ZbK) (Zgi (pcm o_lt (pv 2) (pln T (pv 0))) (Zfh (pcm o_ge (pv 3) Zae)))))
    (Zaa (Zaq (ZcK YaS YaU YaV Za7 (pv 4) (pa1 (ZaD (Zab (pv 2) (pa1 (pv 3)))))))
    (Zaf (Zbn (pcm Zdy (pix Zaj (pix Zaj (pv 0) (pv 2)) (pv 3)) (pv 1)) (Zaf (Zal (i:=5) nd rfl (Or.inl rfl) (ZaD (Zab (pv 2) (pa1 (pv 3))))))
     (Zaf (Zbn (pcm o_lt (pv 1) (pix Zaj (pix Zaj (pv 0) (pv 2)) (pv 3))) (Zaf (Zal (i:=3) nd rfl (Or.inl rfl) (Zan Zb4 (pv 3) Zae))) (Zaf (Zal (i:=2) nd rfl (Or.inl rfl) (Zan Zby (pv 2) Zae)))))))))
   (Zaf (Zak (ZbQ (ZaM (ZcG hr.units) (pe_f G1 hr7 (Zab (pv 0) (pa1 (pv 1)))) (pv 4) (Za6 _)) (Zbw (ZaM (ZcG hr.units) (pe_f G2 hr (Zab (pv 0) (pa1 (pv 1)))) (pv 5) (Za6 _))))))))),?_⟩
  refine ⟨_,rfl,t,_,0,.ref p0.1,rfl,rfl,hT.sq,Zaz (j:=0) (by rw [Yaf,hx0];rfl),p0.1,_,rfl,.inl (hT.r p0 hm0).sq,_,_,rfl,rfl,_,_,rfl,len0,λL hL=>?_⟩;rw [Yaa,g.len p0 hm0];have L0:H L=none:=hL;have s2:Same H (upd H L (.lst [])):=snw hL;have e2:(upd H L (.lst [])) L=some (.lst []):=Zac;generalize upd H L (.lst [])=H2 at s2 e2 ⊢;have fin:∀ (rr qq:Int) (v:V) (cs:Cs) (H3:Hp),Same H H3->CL H3 L cs->cs.map (·.2)=Zg7 prs x->IsCellO H3 v (ZjA prs x) ->
    Zos (tOp (rEqD K false) (tF ZhV (Zc3 (tVar 0) (Zc3 (tVar 1) tNil))) (tVar 4)) (tOp (rEqD K false) (tF Zhc (Zc3 (tVar 0) (Zc3 (tVar 1) tNil))) (tVar 5)) [some (.ref t),some (.int x),some (.int rr),some (.int qq),some (.ref L),some v] H3 Q:=by
   intro rr qq v cs H3 sm C3 hcw hv;refine ⟨_,rfl,_,rfl,t,prs,x,rfl,hT.same sm,hg,λL4 cs4 H4 hL4 s4 e4 c4 m4=>?_⟩;have C4:=C3.same s4;refine ⟨_,rfl,ZfK ((cs4.map (·.2)).map ck),ZfK ((cs.map (·.2)).map ck),Zca e4 (λc hc=>(c4 c hc).1),C4.rd,ZaL _,ZaL _,_,rfl,?_⟩;rw [m4,hcw,Zcx];refine iteT ⟨_,rfl,_,rfl,t,prs,x,rfl,hT.same (sm.trans s4),hg,λv5 H5 s5 h5=>?_⟩;obtain ⟨d1,r1,h1,e1⟩:=ZeY (K:=K) h5;obtain ⟨d2,r2,h2,e2⟩:=ZeY (K:=K) ((hv.same s4).same s5);refine ⟨_,rfl,d1,d2,r1,r2,h1,h2,?_⟩;rw [e1,e2,Zrv];exact q H5 (sm.trans (s4.trans s5))
  refine ⟨WkA H t L x prs,
   ⟨_,0,w0 prs,0,_,.non,[],?_,rfl,rfl,rfl,s2,⟨e2,λc hc=>(nomatch hc)⟩,?_,.inl ⟨rfl,rfl,YaH _,Yag _,rfl,rfl⟩⟩,?_⟩
  ·have g2':prs.length<=6:=g2;omega
  ·have g2':prs.length<=6:=g2;simp;omega
  rintro m σ H3 ⟨r,p,rr,qq,v,cs,hm12,hrr,hqq,rfl,sm,C3,hcl,hw⟩;have hT3:=hT.same sm;refine ⟨_,rfl,rfl,_,rfl,?_⟩;rcases hw with ⟨rfl,hm,hr1,hp1,hcw,hce⟩ | ⟨hvn,hcw,hv⟩
  rotate_left
  ·rw [Ya5 hvn];exact iteF (fin rr qq v cs H3 sm C3 hcw hv)
  rw [Ya4 rfl];have fin2:¬ (r<prs.length/\0<p)->_:=λhn=>fin rr qq .non cs H3 sm C3 (by rw [ZeD hn,List.append_nil] at hcw;exact hcw) (by rw [ZiM hn] at hce;rw [<- hce];rfl);refine iteT ⟨_,rfl,_,rfl,t,_,rfl,.inl hT3.sq,_,_,rfl,rfl,_,rfl,?_⟩;rw [Yaa];refine ite2 (λh1=>?_) (λh1=>?_)
  rotate_left
  ·exact iteF (fin2 λz=>h1 (Ya4 (by omega)))
  have h1':=of_decide_eq_true h1;have hrl:r<prs.length:=by omega
  clear h1';refine ⟨_,rfl,_,_,rfl,rfl,_,rfl,ite2 (λh2=>?_) (λh2=>?_)⟩
  rotate_left
  ·exact fin2 λz=>h2 (Ya4 (by omega))
  have h2:=of_decide_eq_true h2;obtain ⟨k,rfl⟩:∃ k,p=k+1:=⟨p - 1,by omega⟩;have hk:qq=(k:Nat):=by omega
  subst hk hrr;obtain ⟨mm,rfl⟩:∃ mm,m=mm+1:=⟨m - 1,by omega⟩;rw [ZeE hrl (by omega),Nat.add_sub_cancel] at hcw;rw [ZiN hrl (by omega),Nat.add_sub_cancel] at hce;refine ⟨_,λ_ _ hh=>hh,⟨_,rfl,.inl ⟨rfl,_,sqo C3.l⟩,_,rfl,_,rfl,len2,λT1 hT1=>?_⟩⟩;have s3:Same H3 (upd H3 T1 (.tup [.int (r:Nat),.int (k:Nat)])):=snw hT1;have e3:Za0 (upd H3 T1 (.tup [.int (r:Nat),.int (k:Nat)])) (T1,r,k):=Zac;generalize upd H3 T1 (.tup [.int (r:Nat),.int (k:Nat)])=H4 at s3 e3 ⊢;have hL4:=s3 _ _ C3.l;refine ⟨L,_,_,rfl,rfl,hL4,by rw [Yaa];exact Zav (by omega),?_⟩;have s5:Same H (upd H4 L (.lst (cs.map Zce ++ [.ref T1]))):=(sm.trans s3).upd L0;have C5:CL (upd H4 L (.lst (cs.map Zce ++ [.ref T1]))) L (cs ++ [(T1,r,k)]):=⟨by rw [Zac,Yah];rfl,λc hc=>by
   have h4:Za0 H4 c:=by
    rcases YaG.mp hc with z | z
    ·exact s3 _ _ (C3.c c z)
    ·have:c=(T1,r,k):=by simpa using z
     subst this;exact e3
   unfold Za0;rw [Zag (ZfR h4 hL4)]
   exact h4⟩
  generalize upd H4 L (.lst (cs.map Zce ++ [.ref T1]))=H5 at s5 C5 ⊢;have hT5:=hT.same s5;obtain ⟨pr,hp1',hp2,hp3⟩:=ZaA hrl;have hpl:=g.len pr hp1';have ev:valN prs r k=pr.2.getD k 0:=by
   unfold valN;rw [hp3]
  have at1:atI ((prs.map λp=>V.ref p.1)) ((r:Nat):Int)=some (V.ref pr.1):=Zaz (by rw [Yaf,hp2];rfl);have at2:atI (pr.2.map V.int) ((k:Nat):Int)=some (V.int (pr.2.getD k 0)):=ZaW (by omega);rw [<- ev] at at2;generalize valN prs r k=n at hcw hce at2;refine ⟨_,rfl,_,rfl,t,_,_,.ref pr.1,rfl,rfl,hT5.sq,at1,_,rfl,pr.1,_,_,.int n,rfl,rfl,(hT5.r pr hp1').sq,at2,_,rfl,rfl,_,rfl,?_⟩;have hc1:(cs ++ [(T1,r,k)]).length+mm<=12:=by
   rw [Yak,YaI];omega
  by_cases hx:n=x
  ·rw [Ya4 (by rw [hx])];rw [Ya7 hx] at hcw hce;refine iteT ⟨_,rfl,_,rfl,len2,λT2 hT2=>?_⟩;have s6:Same H5 (upd H5 T2 (.tup [.int (r:Nat),.int (k:Nat)])):=snw hT2;refine ⟨mm,by omega,r,k+1,_,_,.ref T2,cs ++ [(T1,r,k)],by omega,rfl,by omega,rfl,s5.trans s6,C5.same s6,hc1,.inr ⟨(λz=>nomatch z),?_,?_⟩⟩
   ·rw [Yah];exact hcw
   ·rw [<- hce];exact ⟨T2,rfl,Zac⟩
  ·rw [Ya5 (by intro z;injection z with z;exact hx z)];rw [Ya6 hx] at hcw hce;refine iteF ⟨_,rfl,_,rfl,_,rfl,t,_,_,.ref pr.1,rfl,rfl,hT5.sq,at1,_,rfl,pr.1,_,_,.int n,rfl,rfl,(hT5.r pr hp1').sq,at2,_,_,rfl,rfl,_,rfl,ite2 (λh3=>?_) (λh3=>?_)⟩
   ·have h3:=of_decide_eq_true h3;rw [Ya7 h3] at hcw hce;refine ⟨_,rfl,_,_,rfl,rfl,mm,by omega,r,k,_,_,.non,cs ++ [(T1,r,k)],by omega,rfl,rfl,rfl,s5,C5,hc1,.inl ⟨rfl,by omega,hr1,by omega,?_,hce⟩⟩;rw [Yah,List.append_assoc];exact hcw
   ·have h3:¬ x<n:=λz=>h3 (Ya4 z);rw [Ya6 h3] at hcw hce;refine ⟨_,rfl,_,_,rfl,rfl,mm,by omega,r+1,k+1,_,_,.non,cs ++ [(T1,r,k)],by omega,rfl,by omega,rfl,s5,C5,hc1,.inl ⟨rfl,by omega,by omega,hp1,?_,hce⟩⟩;rw [Yah,List.append_assoc];exact hcw
end
open PySem L2 PyProof.Rows
theorem ZgO:∀ a b:List Int,PyData.eqvAll (a.map PyData.int) (b.map PyData.int)=decide (a=b)
 | [],[]=>by simp [PyData.eqvAll]
 | [],b :: bs=>by simp [PyData.eqvAll]
 |a :: as,[]=>by simp [PyData.eqvAll]
 |a :: as,b :: bs=>by
  rw [Yaw,Yaw];simp only [PyData.eqvAll,PyData.eqv,ZgO as bs];rw [Bool.eq_iff_iff];simp
theorem ZcV (a b:List Int):PyData.eqv (dRow a) (dRow b)=decide (a=b):=by
 unfold dRow;simp only [PyData.eqv];exact ZgO a b
theorem ZoC {H:Hp}{a:Addr}{ns:List Int} (h:Row H a ns):RdS [] H (.ref a) (dRow ns):=.lst h (by simp) (rdsI ns)
 where rdsI:∀ ns:List Int,RdSs [] H (ns.map V.int) (ns.map PyData.int)
  | []=>.nil
  |n :: r=>.cons (.int n) (rdsI r)
open PySem L2 PyProof.Rows
theorem nf_pair {ns:List Int}:nfB ns=true ↔ ns.Pairwise (·<=·):=by
 rw [nfB_iff];constructor
 ·intro h;rw [List.pairwise_iff_getElem];have key:∀ d i,i+d<ns.length->ns.getD i 0<=ns.getD (i+d) 0:=by
   intro d
   induction d with
   |zero=>intro i _;exact Int.le_refl _
   |succ d ih =>
    intro i hi;have a:=ih i (by omega);have b:=h (i+d) (by omega);have:ns.getD (i+d+1) 0=ns.getD (i+(d+1)) 0:=rfl;omega
  intro i j hi hj hij;have:=key (j - i) i (by omega);rw [show i+(j - i)=j by omega,Yat,Yat,Yac hi,Yac hj] at this;exact this
 ·intro h i hi;have:=List.pairwise_iff_getElem.mp h i (i+1) (by omega) hi (by omega);rw [Yat,Yat,Yac (show i<ns.length by omega),Yac hi];exact this
theorem Zgz {ns ms:List Int} (hp:ms.Perm ns) (hs:ms.Pairwise (·<=·)):decide (ns=ms)=nfB ns:=by
 cases hb:nfB ns with
 |true =>
  rw [decide_eq_true_iff];refine (hp.symm.eq_of_pairwise (le:=(·<=·)) (λa b _ _ h1 h2=>by omega) (nf_pair.mp hb) hs)
 |false =>
  rw [decide_eq_false_iff_not];intro z;rw [<- z] at hs;rw [nf_pair.mpr hs] at hb;cases hb
theorem ZpR {prs:Prs}{p:Addr × List Int} (hp:p∈prs) (h:nfB p.2=false):srB prs=false:=by
 unfold srB;rw [Bool.and_eq_false_iff];left;rw [List.all_eq_false];exact ⟨_,Yar.mpr ⟨p,hp,rfl⟩,by simp [h]⟩
theorem ZpS {prs:Prs}{j:Nat} (hj:j<w0 prs) (h:nfB (col prs j)=false):srB prs=false:=by
 unfold srB;rw [Bool.and_eq_false_iff];right;rw [List.all_eq_false];exact ⟨_,Yar.mpr ⟨j,List.mem_range.mpr hj,rfl⟩,by simp [h]⟩
section
variable {P:Program}{w:World}{K:Yab}{mg:Str->Option Value}{base:Heap}
def ZpU:Sp:=λvs H Q _=>∃ (t:Addr) (prs:Prs),vs=[.ref t]/\Tab H t prs/\1<=prs.length/\prs.length<=6/\(∀ p∈prs,p.2.length=w0 prs)/\w0 prs<=6/\∀ H',Same H H'->Q (.bl (srB prs)) H'
abbrev ZqE:List Str:=["table","row","c","line"]
theorem sc_lis:FnScope ZqE ["table"] (Zad dIs):=scm
theorem Zqj (T:Blt mg) (hso:mg "sorted" = none) (D:Zah K mg "_law_is" dIs ["table"]):FnAt P w K mg base 1 "_law_is" ["table"] ZpU:=by
 refine fao D sc_lis (λvs H Q E h=>?_) (λf g A o s H vs Q E hr h=>?_)
 ·obtain ⟨t,prs,rfl,_⟩:=h;rfl
 ·obtain ⟨t,prs,rfl,hT,h1,h6,hw,hw6,q⟩:=h;obtain ⟨p0,hp0,hm0,hx0⟩:=Zbg (prs:=prs) h1;have nd:=sc_lis.nd;have nd1:(["row","c"]:List Str).Nodup:=by decide +kernel
  refine ⟨_,Zaa (Zbi PassesOwn.never rfl (Zau (pv 0)) (Zax (i:=1) nd rfl (Or.inl rfl)) (Zaf (pifF (pcm (Zbx hr.units) (pv 1) (pe_b Zco hso boot_sorted (pa1 (pv 1)))))))
   (Zaa (Zbi PassesOwn.never rfl (ZaG rfl T.rng (pa1 (pln T (pix Zaj (pv 0) Zae)))) (Zax (i:=2) nd rfl (Or.inr rfl))
    (Zaa (Zb2 ["row","c"] [none,some 2] (Zad dIs) ZqE (i:=3) nd rfl (Or.inl rfl) rfl (Zau (pv 0)) (by decide +kernel) (λ_ _ _ _ _=>pg_c 0 nd1) (λ_ _ _ _ _=>Zam) (λ_ _ _ _ _=>pix (ixL K) (pv 0) (pv 1)))
    (Zaf (pifF (pcm (Zbx hr.units) (pv 3) (pe_b Zco hso boot_sorted (pa1 (pv 3))))))))
   (Zaf (Zak Zgn))),?_⟩
  refine ⟨_,rfl,t,rfl,⟨_,hT.sq⟩,ZcU (K:=K) (xs:=prs.map λp=>V.ref p.1) (λi σ H2=>∃ o1,σ = [some (.ref t),o1,none,none]/\Same H H2/\∀ p∈prs.take i,nfB p.2=true) ⟨none,rfl,srf _,by simp⟩ (λi σ H2 _ ⟨_,_,sm,_⟩=>(hT.same sm).sq) ?_ ?_⟩
  ·rintro i x σ H2 hx ⟨o1,rfl,sm,hf⟩;rw [Yaf] at hx;cases hp:prs[i]? with
   |none=>rw [hp] at hx;cases hx
   |some p =>
    rw [hp] at hx;have hx:V.ref p.1=x:=Yae hx;subst hx;have hpm:=YaP hp;have hR:=(hT.same sm).r p hpm;refine ⟨_,rfl,_,rfl,p.1,p.2,rfl,hR.sq,by rw [hw p hpm];omega,λD1 ms hD1 hpm2 hso2=>?_⟩;have s3:Same H2 (upd H2 D1 (.lst (ms.map V.int))):=snw hD1;refine ⟨dRow p.2,dRow ms,(hR.same s3).rd,Row.rd (show Row _ D1 ms from Zac),ZaE _,ZaE _,_,rfl,?_⟩;rw [ZcV,Zgz hpm2 hso2];cases hb:nfB p.2 with
    |false=>exact iteT (by rw [ZpR hpm hb] at q;exact q _ (sm.trans s3))
    |true =>
     refine iteF ⟨_,rfl,sm.trans s3,λp' hp'=>?_⟩;rw [List.take_add_one,hp] at hp';rcases YaG.mp hp' with z | z
     ·exact hf p' z
     ·rw [YaJ.mp z];exact hb
  ·rintro σ H2 ⟨o1,rfl,sm,hf⟩;rw [Yaa,List.take_length] at hf;have hT2:=hT.same sm;refine ⟨_,rfl,t,_,0,.ref p0.1,rfl,rfl,hT2.sq,Zaz (j:=0) (by rw [Yaf,hx0];rfl),p0.1,_,rfl,.inl (hT2.r p0 hm0).sq,_,rfl,?_⟩;rw [Yaa,hw p0 hm0];refine ⟨by omega,by omega,ZaZ (λj σ H3=>∃ o2 o3,σ = [some (.ref t),o1,o2,o3]/\Same H H3/\∀ k,k<j->nfB (col prs k)=true) ⟨none,none,rfl,sm,λk hk=>absurd hk (by omega)⟩ ?_ ?_⟩
   ·rintro j σ H3 hj ⟨o2,o3,rfl,sm3,hc⟩;rw [Yav] at hj;have hT3:=hT.same sm3;refine ⟨_,rfl,t,rfl,⟨_,hT3.sq⟩,Zbl (ms:=prs) (λp=>V.ref p.1) (λ_=>true) (λp=>V.int (p.2.getD j 0)) hT3.sq (sl6 (by omega)) (λp hp H4 Q4 s4 q4=>q4 _ (srf _)) (λp hp _ H4 Q4 s4 q4=>?_) λD1 H4 hD1 s4 e4=>?_⟩
    ·refine ⟨_,rfl,_,rfl,p.1,_,_,_,rfl,rfl,((hT3.r p hp).same s4).sq,?_,q4 _ (srf _)⟩;rw [Int.zero_add];exact ZaW (by rw [hw p hp];exact hj)
    rw [List.filter_eq_self.mpr (λ_ _=>rfl)] at e4;have hR4:Row H4 D1 (col prs j):=by
     unfold Row col;rw [e4,Yau];rfl
    refine ⟨_,rfl,_,rfl,D1,col prs j,rfl,hR4.sq,by unfold col;rw [Yaa];omega,λD2 ms hD2 hpm2 hso2=>?_⟩;have s5:Same H4 (upd H4 D2 (.lst (ms.map V.int))):=snw hD2;refine ⟨dRow (col prs j),dRow ms,(hR4.same s5).rd,Row.rd (show Row _ D2 ms from Zac),ZaE _,ZaE _,_,rfl,?_⟩;rw [ZcV,Zgz hpm2 hso2];cases hb:nfB (col prs j) with
    |false=>exact iteT (by rw [ZpS hj hb] at q;exact q _ (sm3.trans (s4.trans s5)))
    |true =>
     refine iteF ⟨_,_,rfl,sm3.trans (s4.trans s5),λk hk=>?_⟩;rcases Nat.lt_or_ge k j with z | z
     ·exact hc k z
     ·rw [show k=j by omega];exact hb
   ·rintro σ H3 ⟨o2,o3,rfl,sm3,hc⟩;rw [Yav] at hc;have e:srB prs=true:=by
     unfold srB;rw [Yaj,YaO,YaO];refine ⟨λb hb=>?_,λb hb=>?_⟩
     ·obtain ⟨p,hp,rfl⟩:=Yar.mp hb;exact hf p hp
     ·obtain ⟨k,hk,rfl⟩:=Yar.mp hb;exact hc k (List.mem_range.mp hk)
    rw [e] at q;exact q H3 sm3
end
open PySem L2 PyProof.Rows
theorem Zfo {X:Cx}{tg iter elt:Expr}{ifs:List Expr}{scope:Scope}{pos:Pos}{wi:TI}{g:TG}{tc:TT}{te:TE} (N':List Str) (ix:List (Option Nat)) (hc:X.calm=true) (hi:PI X tg iter wi) (ok:ZgV X.env.scope scope X.N N' ix=true)
  (hg:∀ cl C s2 H2 ex,PG (X.comp N' scope cl C s2 H2 ex) tg g) (ht:∀ cl C s2 H2 ex,PIfs (X.comp N' scope cl C s2 H2 ex) ifs tc) (he:∀ cl C s2 H2 ex,PE (X.comp N' scope cl C s2 H2 ex) elt te)
  (hs:∀ x,foldedSetIterable iter X.env x=pure x:=by intro _;rfl):PE X (.ListComp elt [⟨tg,iter,ifs,0⟩] scope pos) (Zmc wi g tc te ix):=Zar N' ix X.env.scope X.N hc hi ok hg ht he rfl rfl hs
theorem Zd6 {X:Cx}{tg l:Expr}{tl:TE} (K:Yab) (hl:PE X l tl) (hK:X.K=K:=by rfl):PI X tg l (ZqH K tl):=by subst hK;exact Zau hl
open PySem L2 PyProof.Rows
def cLt (a b:Nat × Nat):Prop:=a.1<b.1\/(a.1=b.1/\a.2<b.2)
theorem mem_cells {prs:Prs}{x:Int}{n:Nat}{c:Nat × Nat}:c∈ZaK prs x n ↔ c.1<n/\c.2<(Zat prs c.1).length/\(Zat prs c.1).getD c.2 0=x:=by
 unfold ZaK rc;simp only [List.mem_flatMap,Yar,List.mem_filter,List.mem_range,decide_eq_true_eq];constructor
 ·rintro ⟨i,hi,j,⟨hj,e⟩,rfl⟩;exact ⟨hi,hj,e⟩
 ·rintro ⟨h1,h2,h3⟩;exact ⟨c.1,h1,c.2,⟨h2,h3⟩,rfl⟩
theorem ZdM (prs:Prs) (x:Int) (n:Nat):(ZaK prs x n).Pairwise cLt:=by
 unfold ZaK;rw [List.pairwise_flatMap];constructor
 ·intro i _;unfold rc;rw [List.pairwise_map];exact (List.pairwise_lt_range.filter _).imp λh=>.inr ⟨rfl,h⟩
 ·refine List.pairwise_lt_range.imp λh a ha b hb=>?_;unfold rc at ha hb;obtain ⟨j,_,rfl⟩:=Yar.mp ha;obtain ⟨k,_,rfl⟩:=Yar.mp hb;exact .inl h
theorem Zpw {a b:Nat × Nat} (h:cLt a b):HT.lexLt (ck b) (ck a)=false:=by
 unfold ck;rw [HT.lexLt_cons,HT.lexLt_cons,HT.lexLt_nil_nil];rcases h with h | ⟨h1,h2⟩
 ·rw [Ya6 (by omega)];exact Ya5 (by omega)
 ·rw [Ya7 (by omega),Ya6 (by omega)];exact Ya5 (by omega)
theorem Zg1 {L:List (Nat × Nat)} (h:L.Pairwise cLt):L.Nodup:=h.imp λ{a b} z e=>by
 subst e;rcases z with z | ⟨_,z⟩ <;> omega
theorem Zdr {L M:List (Nat × Nat)}{g:Nat × Nat->Nat × Nat}{fs:List (List Int)} (hL:L.Pairwise cLt) (hM:M.Pairwise cLt) (hg:∀ a∈M,∀ b∈M,g a=g b->a=b) (mem:∀ c,c∈L ↔ ∃ d∈M,g d=c)
  (pm:fs.Perm (M.map λd=>ck (g d))) (up:fs.Pairwise (λr q=>HT.lexLt q r=false)):fs=L.map ck:=by
 refine ZbZ SrtT.lex_tot (pm.trans ?_) up ?_
 ·have e:(M.map λd=>ck (g d))=(M.map g).map ck:=by rw [Yau];rfl
  rw [e];refine List.Perm.map ck ((List.perm_ext_iff_of_nodup ?_ (Zg1 hL)).mpr λc=>?_)
  ·have hd:=Zg1 hM;unfold List.Nodup at hd ⊢;rw [List.pairwise_map];exact hd.imp_of_mem λha hb z e=>z (hg _ ha _ hb e)
  ·rw [Yar];exact (mem c).symm
 ·rw [List.pairwise_map];exact hL.imp Zpw
theorem ZmJ {prs prs':Prs} (h:prs'.map (·.2)=ZcD prs) {j:Nat} (hj:j<w0 prs):Zat prs' j=col prs j:=by
 have e:(prs'.map (·.2))[j]? = (ZcD prs)[j]?:=by rw [h]
 unfold ZcD at e;rw [Yaf,Yaf,List.getElem?_range hj] at e;unfold Zat;rw [e];rfl
theorem Zic {prs prs':Prs} (h:prs'.map (·.2)=ZcD prs) {i j:Nat} (hj:j<w0 prs) (hi:i<prs.length):(Zat prs' j).getD i 0=(Zat prs i).getD j 0:=by
 rw [ZmJ h hj,Zc0 hi]
theorem Zcf {prs:Prs} (hg:tabB prs=true) {i:Nat} (hi:i<prs.length):(Zat prs i).length=w0 prs:=by
 rw [ZnV hi];exact (ZaF hg).1.len _ (YaL hi)
theorem Zg6 {prs prs':Prs} (hg:tabB prs=true) (h:prs'.map (·.2)=ZbN prs) {i j:Nat} (hi:i<prs.length) (hj:j<w0 prs):(Zat prs' i).getD j 0 = -((Zat prs (prs.length - 1 - i)).getD (w0 prs - 1 - j) 0):=by
 have hw:=Zcf hg (i:=prs.length - 1 - i) (by omega);rw [ZfX h hi,ZgB (by omega),hw]
theorem Zrt (fs:List (List Int)) (k:Nat):hdI (fs.getD k [])=(fs.map hdI).getD k 0:=by
 rw [Yat,Yat,Yaf];cases fs[k]? <;> rfl
theorem Zjs {prs prs':Prs} (hg:tabB prs=true) (h:prs'.map (·.2)=ZcD prs) {x:Int}{fs:List (List Int)} (pm:fs.Perm ((ZaK prs x prs.length).map λd=>ck (d.2,d.1))) (up:fs.Pairwise (λr q=>HT.lexLt q r=false)):fs=(ZaK prs' x prs'.length).map ck:=by
 obtain ⟨g1,l1,w1⟩:=Zgo hg h;refine Zdr (g:=λd=>(d.2,d.1)) (ZdM _ _ _) (ZdM prs x prs.length) (λa _ b _ e=>?_) (λc=>?_) pm up
 ·injection e with e1 e2;exact Prod.ext e2 e1
 ·rw [mem_cells,l1];constructor
  ·rintro ⟨h1,h2,h3⟩;rw [Zcf g1 (by omega),w1] at h2;rw [Zic h h1 h2] at h3;exact ⟨(c.2,c.1),mem_cells.mpr ⟨h2,by rw [Zcf hg h2];exact h1,h3⟩,rfl⟩
  ·rintro ⟨d,hd,rfl⟩;obtain ⟨h1,h2,h3⟩:=mem_cells.mp hd;rw [Zcf hg h1] at h2;exact ⟨h2,by rw [Zcf g1 (by show d.2<_;omega),w1];exact h1,by rw [Zic h h2 h1];exact h3⟩
theorem ZhP {prs prs':Prs} (hg:tabB prs=true) (h:prs'.map (·.2)=ZbN prs) {x:Int}{fs:List (List Int)} (pm:fs.Perm ((ZaK prs x prs.length).map λd=>ck (prs.length - 1 - d.1,w0 prs - 1 - d.2))) (up:fs.Pairwise (λr q=>HT.lexLt q r=false)):fs=(ZaK prs' (0 - x) prs'.length).map ck:=by
 obtain ⟨g1,l1,w1⟩:=Ze3 hg h;have bd:∀ d∈ZaK prs x prs.length,d.1<prs.length/\d.2<w0 prs:=λd hd=>by
  obtain ⟨h1,h2,h3⟩:=mem_cells.mp hd;rw [Zcf hg h1] at h2;exact ⟨h1,h2⟩
 refine Zdr (g:=λd=>(prs.length - 1 - d.1,w0 prs - 1 - d.2)) (ZdM _ _ _) (ZdM prs x prs.length) (λa ha b hb e=>?_) (λc=>?_) pm up
 ·have:=bd a ha;have:=bd b hb;injection e with e1 e2;exact Prod.ext (by omega) (by omega)
 ·rw [mem_cells,l1];constructor
  ·rintro ⟨h1,h2,h3⟩;rw [Zcf g1 (by omega),w1] at h2;rw [Zg6 hg h h1 h2] at h3;refine ⟨(prs.length - 1 - c.1,w0 prs - 1 - c.2),mem_cells.mpr ⟨by show prs.length - 1 - c.1<_;omega,?_,?_⟩,?_⟩
   ·rw [Zcf hg (by show prs.length - 1 - c.1<_;omega)];show w0 prs - 1 - c.2<_;omega
   ·show (Zat prs (prs.length - 1 - c.1)).getD (w0 prs - 1 - c.2) 0=x;omega
   ·exact Prod.ext (by show prs.length - 1 - (prs.length - 1 - c.1)=_;omega) (by show w0 prs - 1 - (w0 prs - 1 - c.2)=_;omega)
  ·rintro ⟨d,hd,rfl⟩;have b:=bd d hd;obtain ⟨h1,h2,h3⟩:=mem_cells.mp hd;refine ⟨by show prs.length - 1 - d.1<_;omega,?_,?_⟩
   ·rw [Zcf g1 (by show prs.length - 1 - d.1<_;omega),w1];show w0 prs - 1 - d.2<_;omega
   ·show (Zat prs' (prs.length - 1 - d.1)).getD (w0 prs - 1 - d.2) 0=0 - x;rw [Zg6 hg h (by omega) (by omega),show prs.length - 1 - (prs.length - 1 - d.1)=d.1 by omega,show w0 prs - 1 - (w0 prs - 1 - d.2)=d.2 by omega,h3,Int.zero_sub]
open PySem L2 PyProof.Rows
theorem Zpa (ns:List Int):(ns.reverse.map λn=>0 - n)=negR ns:=by
 unfold negR;exact List.map_congr_left λn _=>by omega
section
variable {P:Program}{w:World}{K:Yab}{mg:Str->Option Value}{base:Heap}
abbrev tgN:List Str:=["table","x","over","about","rows","row","spots","last","due"]
theorem sc_turG:FnScope tgN ["table","x"] (Zad Zb8):=scm
inductive TgA (H H5:Hp) (t to ta R:Addr) (x:Int) (prs:Prs) (i:Nat) (σ:L2.St) (H6:Hp):Prop
 |mk (o5:Option V) (rs:Prs) (h1:σ = [some (.ref t),some (.int x),some (.ref to),some (.ref ta),some (.ref R),o5,none,none,none]) (h2:But R H5 H6) (h3:Same H H6) (h4:Tab H6 R rs) (h5:rs.map (·.2)=(prs.reverse.take i).map λp=>negR p.2):TgA H H5 t to ta R x prs i σ H6
theorem ZoW (T:Blt mg) (hso:mg "sorted" = none) (D:Zah K mg "_law_turned_good" Zb8 ["table","x"]) (G1:FnAt P w K mg base 5 "is_table" ["thing"] Zch) (G2:FnAt P w K mg base 7 "laid_over" ["table"] (ZhX ZcD)) (G3:FnAt P w K mg base 7 "turned_about" ["table"] (ZhX ZbN)) (G4:FnAt P w K mg base 7 "cells_of" ["table","x"] Zc7) :
  FnAt P w K mg base 8 "_law_turned_good" ["table","x"] spTX:=by
 refine fao D sc_turG (λvs H Q E h=>?_) (λf g A o s H vs Q E hr h=>?_)
 ·obtain ⟨t,prs,x,rfl,_⟩:=h;rfl
 ·obtain ⟨t,prs,x,rfl,hT,hg,q⟩:=h;obtain ⟨g,g1,g2,g3,g4⟩:=ZaF hg;obtain ⟨p0,hp0,hm0,hx0⟩:=Zbg (prs:=prs) g1;have nd:=sc_turG.nd;have nd1:(["c","table"]:List Str).Nodup:=by decide +kernel
  have nd2:(["row","c"]:List Str).Nodup:=by decide +kernel
  have nd3:(["one"]:List Str).Nodup:=by decide +kernel
  have nd4:(["r","c"]:List Str).Nodup:=by decide +kernel
  have nd5:(["r","c","last"]:List Str).Nodup:=by decide +kernel
  have hr5:Room 5 _:=hr.mono (show 5<=7 by decide);refine ⟨_,(Zaa (Zal (i:=2) nd rfl (Or.inl rfl) (pe_f G2 hr (pa1 (pv 0))))
   (Zaa (Zal (i:=3) nd rfl (Or.inl rfl) (pe_f G3 hr (pa1 (pv 0))))
   (Zaa (pifF (pcm (Zbx hr.units) (pv 2) (ZmG ["c","table"] [none,some 0] (Zad Zb8) tgN rfl (ZaG rfl T.rng (pa1 (pln T (pix Zaj (pv 0) Zae)))) (by decide +kernel) (λ_ _ _ _ _=>Zrh 0 nd1) (λ_ _ _ _ _=>Zam)
     (λ_ _ _ _ _=>Zfo ["row","c"] [none,some 0] rfl (Zd6 K (pv 1)) (by kernel_rfl) (λ_ _ _ _ _=>pg_c 0 nd2) (λ_ _ _ _ _=>Zam) (λ_ _ _ _ _=>pix (ixL K) (pv 0) (pv 1))))))
   (Zaa (Zal (i:=4) nd rfl (Or.inl rfl) (ZaN ZaT))
   (Zaa (Zbi PassesOwn.never rfl (Zau (Zn1 (pv 0) (Zda (Zfl Zfs Zae)))) (Zax (i:=5) nd rfl (Or.inl rfl))
    (Zaf (Zaq (ZcK YaS YaU YaV Za7 (pv 4) (Zab
     (Zar ["one"] [none] (Zad Zb8) tgN rfl (Zau (Zn1 (pv 5) (Zda (Zfl Zfs Zae)))) (by decide +kernel) (λ_ _ _ _ _=>pg_c 0 nd3) (λ_ _ _ _ _=>Zam) (λ_ _ _ _ _=>Zan Zb4 Zae (pv 0))) ZaT)))))
   (Zaa (pifF (PW.pt (Zbv (pcm (Zbx hr.units) (pv 3) (pv 4)) (Zbv (ZaC (ZaB (pe_f G1 hr5 (pa1 (pv 2))))) (Zbo (ZaC (ZaB (pe_f G1 hr5 (pa1 (pv 3))))))))))
   (Zaa (Zal (i:=6) nd rfl (Or.inl rfl) (pe_f G4 hr (Zab (pv 0) (pa1 (pv 1)))))
   (Zaa (pifF (pcm (Zbx hr.units) (pe_f G4 hr (Zab (pv 2) (pa1 (pv 1)))) (pe_b (ZbR hr.units) hso boot_sorted (pa1 (Zar ["r","c"] [none,none] (Zad Zb8) tgN rfl (Zau (pv 6)) (by decide +kernel)
     (λ_ _ _ _ _=>Zgm K rfl nd4) (λ_ _ _ _ _=>Zam) (λ_ _ _ _ _=>ZaD (Zab (pv 1) (pa1 (pv 0)))))))))
   (Zaa (Zal (i:=7) nd rfl (Or.inr rfl) (ZaD (Zab (Zan Zb4 (pln T (pv 0)) Zae) (pa1 (Zan Zb4 (pln T (pix Zaj (pv 0) Zae)) Zae)))))
   (Zaa (Zb2 ["r","c","last"] [none,none,some 7] (Zad Zb8) tgN (i:=8) nd rfl (Or.inl rfl) rfl (Zau (pv 6)) (by decide +kernel) (λ_ _ _ _ _=>Zgm K rfl nd5) (λ_ _ _ _ _=>Zam)
    (λ_ _ _ _ _=>ZaD (Zab (Zan Zb4 (pix (ixT K) (pv 2) Zae) (pv 0)) (pa1 (Zan Zb4 (pix (ixT K) (pv 2) Zae) (pv 1))))))
   (Zaf (Zak (ZaM (ZcG hr.units) (pe_f G4 hr (Zab (pv 3) (pa1 (Zan Zb4 Zae (pv 1))))) (pe_b (ZbR hr.units) hso boot_sorted (pa1 (pv 8))) (Za6 _)))))))))))))),?_⟩
  refine ⟨_,rfl,t,prs,rfl,hT,hg,λto os H1 hto hos hon s1 hTo hom=>?_⟩;obtain ⟨go,lo,wo⟩:=Zgo hg hom;refine ⟨_,rfl,t,prs,rfl,hT.same s1,hg,λta bs H2 hta hbs hbn s2 hTa hbm=>?_⟩;obtain ⟨ga,la,wa⟩:=Ze3 hg hbm;have hT2:=hT.same (s1.trans s2);have hTo2:=hTo.same s2;refine ⟨_,rfl,_,rfl,t,_,0,.ref p0.1,rfl,rfl,hT2.sq,Zaz (j:=0) (by rw [Yaf,hx0];rfl),p0.1,_,rfl,.inl (hT2.r p0 hm0).sq,_,rfl,by omega,by rw [Yaa,g.len p0 hm0];omega,?_⟩;rw [Yaa,g.len p0 hm0,Yav];refine ZbW (λj=>.lst ((col prs j).map V.int)) (by omega) (λj hj H' Q' sm q'=>?_) λU qs H3 hU hqm hqn hqs s3 hUl=>?_
  ·have hT':=hT2.same sm;refine ⟨_,rfl,t,rfl,⟨_,hT'.sq⟩,Zbl (ms:=prs) (λp=>V.ref p.1) (λ_=>true) (λp=>V.int (p.2.getD j 0)) hT'.sq (sl6 (by have g2':prs.length<=6:=g2;omega)) (λp hp H4 Q4 s4 q4=>q4 _ (srf _)) (λp hp _ H4 Q4 s4 q4=>?_) λD1 H4 hD1 s4 e4=>?_⟩
   ·refine ⟨_,rfl,_,rfl,p.1,_,_,_,rfl,rfl,((hT'.r p hp).same s4).sq,?_,q4 _ (srf _)⟩;rw [Int.zero_add];exact ZaW (by rw [g.len p hp];exact hj)
   ·rw [List.filter_eq_self.mpr (λ_ _=>rfl)] at e4;refine q' D1 H4 hD1 s4 ?_;rw [e4];unfold col;rw [Yau];rfl
  have hTq:Tab H3 U (qs.map λq=>(q.1,col prs q.2)):=⟨by rw [hUl,Yau];rfl,λp hp=>by
   obtain ⟨q',hq',rfl⟩:=Yar.mp hp
   exact (hqs q' hq').1⟩
  have hqr:(qs.map λq=>(q.1,col prs q.2)).map (·.2)=ZcD prs:=by
   unfold ZcD;rw [<- hqm,Yau,Yau];rfl
  refine ⟨_,_,(hTo2.same s3).rd,hTq.rd,Za8 _,Za8 _,_,rfl,?_⟩;rw [hom,hqr,Zej];refine iteF ⟨len0,λR hR=>?_⟩;have s4:Same H3 (upd H3 R (.lst [])):=snw hR;have e4:(upd H3 R (.lst [])) R=some (.lst []):=Zac;generalize upd H3 R (.lst [])=H4 at s4 e4 ⊢;have s24:=s3.trans s4;have s04:=s1.trans (s2.trans s24);have R0:H R=none:=s1.free (s2.free (s3.free hR));have hT4:=hT.same s04;refine ⟨_,rfl,_,rfl,_,rfl,t,_,rfl,rfl,hT4.l,λW hW=>?_⟩;have s5:Same H4 (upd H4 W (.lst (prs.map λp=>V.ref p.1).reverse)):=snw hW;have e5:(upd H4 W (.lst (prs.map λp=>V.ref p.1).reverse)) W=some (.lst (prs.reverse.map λp=>V.ref p.1)):=by rw [Zac,List.map_reverse]
  have eR5:=s5 _ _ e4;generalize upd H4 W (.lst (prs.map λp=>V.ref p.1).reverse)=H5 at s5 e5 eR5 ⊢;have nWR:W≠R:=λz=>by rw [z,e4] at hW;cases hW
  have old:∀ {b:Addr}{o:HO},H3 b=some o->b≠R:=λe=>Zai e hR;have s35:=s4.trans s5;have s05:=s04.trans s5;have g2':prs.length<=6:=g2;have tbut:∀ {H6:Hp}{t':Addr}{ps:Prs},But R H5 H6->Tab H3 t' ps->Tab H6 t' ps:=λB h=>⟨B _ _ (old h.l) (s35 _ _ h.l),λp hp=>B _ _ (old (h.r p hp)) (s35 _ _ (h.r p hp))⟩;have hT3:=hT2.same s3;refine ⟨W,rfl,⟨_,sqo e5⟩,ZcU (K:=K) (xs:=prs.reverse.map λp=>V.ref p.1) (TgA H H5 t to ta R x prs)
   ⟨none,[],rfl,But.refl _ _,s05,⟨eR5,λp hp=>nomatch hp⟩,rfl⟩ (λi σ H6 _ h=>by obtain ⟨_,_,_,B,_⟩:=h;exact sqo (B _ _ nWR e5)) ?_ ?_⟩
  ·rintro i y σ H6 hy ⟨o5,rs,rfl,B,sm6,hTr,hrm⟩;rw [Yaf] at hy;cases hp:prs.reverse[i]? with
   |none=>rw [hp] at hy;cases hy
   |some p =>
    rw [hp] at hy;have hy:V.ref p.1=y:=Yae hy;subst hy;have hpm:p∈prs:=List.mem_reverse.mp (YaP hp);have hil:i<prs.length:=by
     have:=(Yai.mp hp).1;rw [List.length_reverse] at this;exact this
    have hrl:=congrArg List.length hrm;rw [Yaa,Yaa,YaR,List.length_reverse] at hrl;have hT6:=hT.same sm6;have hRp:=hT6.r p hpm;refine ⟨_,rfl,.inl ⟨rfl,_,sqo hTr.l⟩,_,rfl,_,rfl,_,rfl,p.1,_,rfl,rfl,hRp,λW2 hW2=>?_⟩;have s7:Same H6 (upd H6 W2 (.lst (p.2.map V.int).reverse)):=snw hW2;have e7:SqL K (upd H6 W2 (.lst (p.2.map V.int).reverse)) W2 (p.2.reverse.map V.int):=sqo (by rw [Zac,List.map_reverse]);generalize upd H6 W2 (.lst (p.2.map V.int).reverse)=H7 at s7 e7 ⊢;refine ⟨W2,rfl,⟨_,e7⟩,Zbl (ms:=p.2.reverse) V.int (λ_=>true) (λn=>V.int (0 - n)) e7 (sl6 (by rw [List.length_reverse,g.len p hpm];omega)) (λn hn H8 Q8 s8 q8=>q8 _ (srf _)) (λn hn _ H8 Q8 s8 q8=>⟨_,rfl,_,_,rfl,rfl,q8 _ (srf _)⟩) λD1 H8 hD1 s8 e8=>?_⟩;rw [List.filter_eq_self.mpr (λ_ _=>rfl)] at e8;have r8:Row H8 D1 (negR p.2):=by
     unfold Row;rw [e8,<- Zpa,Yau];rfl
    have s68:=s7.trans s8;have hTr8:=hTr.same s68;refine ⟨R,_,_,rfl,rfl,hTr8.l,by rw [Yaa];exact Zav (by omega),?_⟩;have nR:∀ {b:Addr}{o:HO},H6 b=none->H8 b=some o->b≠R:=λh _ z=>by rw [z,hTr.l] at h;cases h
    refine ⟨_,rs ++ [(D1,negR p.2)],rfl,λb o nb e=>by rw [Zag nb];exact s68 _ _ (B _ _ nb e),(sm6.trans s68).upd R0,⟨by rw [Zac,Yah];rfl,λr hr'=>?_⟩,?_⟩
    ·have hne:∀ {b:Addr}{ns:List Int},Row H8 b ns->(b=D1\/∃ r'∈rs,r'.1=b)->b≠R:=λ{b ns} hb hc z=>by
      rcases hc with hc | ⟨r',hr2,hc⟩
      ·rw [hc] at z;exact nR (s7.free hD1) e8 z
      ·have h1:=hTr.r r' hr2;rw [hc,z] at h1;unfold Row at h1;rw [hTr.l] at h1;have h1:=HO.lst.inj (Yae h1);cases rs with
       |nil=>nomatch hr2
       |cons r0 rr =>
        rw [Yaw] at h1;cases hn:r'.2 with
        |nil=>rw [hn] at h1;cases h1
        |cons n nn =>
         rw [hn,Yaw] at h1;injection h1 with h1 _;cases h1
     unfold Row;rcases YaG.mp hr' with z | z
     ·rw [Zag (hne (hTr8.r r z) (.inr ⟨r,z,rfl⟩))];exact hTr8.r r z
     ·have:=YaJ.mp z;subst this;rw [Zag (hne r8 (.inl rfl))];exact r8
    ·rw [Yah,hrm,List.take_add_one,hp,Yah];rfl
  ·rintro σ H6 ⟨o5,rs,rfl,B,sm6,hTr,hrm⟩;rw [Yaa,List.take_length] at hrm;have hrA:rs.map (·.2)=ZbN prs:=by
    rw [hrm];unfold ZbN;rw [<- List.map_reverse,Yau];rfl
   have hT6:=hT.same sm6;have hTo6:=tbut B (hTo2.same s3);have hTa6:=tbut B (hTa.same s3);refine ⟨_,rfl,_,rfl,_,_,hTa6.rd,hTr.rd,Za8 _,Za8 _,_,rfl,?_⟩;rw [hbm,hrA,Zej];refine iteF ⟨_,rfl,to,os,rfl,hTo6,Zao go,λH7 s7=>?_⟩;rw [go];refine ⟨_,rfl,iteF ⟨_,rfl,ta,bs,rfl,hTa6.same s7,Zao ga,λH8 s8=>?_⟩⟩;rw [ga];have s68:=s7.trans s8;refine ⟨_,rfl,iteF ⟨_,rfl,_,rfl,t,prs,x,rfl,hT6.same s68,hg,λM ds H9 hM s9 hMl hds hdw hdl=>?_⟩⟩;have hin:∀ c∈ds,c.2.1<prs.length/\c.2.2<w0 prs:=λc hc=>by
    have:c.2∈ZaK prs x prs.length:=by rw [<- hdw];exact Yar.mpr ⟨c,hc,rfl⟩
    obtain ⟨h1,h2,_⟩:=mem_cells.mp this;rw [Zcf hg h1] at h2;exact ⟨h1,h2⟩
   have hTo9:=(hTo6.same s68).same s9;have hTa9:=(hTa6.same s68).same s9;have hT9:=(hT6.same s68).same s9;have CD:CL H9 M ds:=⟨hMl,λc hc=>(hds c hc).1⟩;refine ⟨_,rfl,_,rfl,to,os,x,rfl,hTo9,go,λL cs H10 hL s10 hLl hcs hcw hcl=>?_⟩;have CD10:=CD.same s10;refine ⟨_,rfl,M,rfl,⟨_,sqo CD10.l⟩,Ze0 (cs:=ds) (·.1) (λc=>.int (c.2.1:Nat)) (λc=>.int (c.2.2:Nat)) (λc=>HO.tup ((ck (c.2.2,c.2.1)).map V.int)) (sqo CD10.l) CD10.c (show ds.length<=1000 by omega) (λc hc H' Q' sm q'=>?_) λU2 qs2 H11 hU2 hqm2 hqs2 s11 hUl2=>?_⟩
   ·exact ⟨_,rfl,_,rfl,len2,λl hl=>q' l _ hl (snw hl) Zac⟩
   have hql:qs2.length=ds.length:=by rw [<- hqm2,Yaa]
   refine ⟨U2,qs2.map λq=>(q.1,ck (q.2.2.2,q.2.2.1)),rfl,?_,by rw [Yaa];omega,λr hr'=>?_,λV1 rs2 hV1 hpm hup=>?_⟩
   ·rw [Yau];exact sqo hUl2
   ·obtain ⟨q',hq',rfl⟩:=Yar.mp hr';exact ⟨sqt (hqs2 q' hq').1,by show 0<2;decide⟩
   have s12:Same H11 (upd H11 V1 (.lst (rs2.map λr=>V.ref r.1))):=snw hV1;have e12:(upd H11 V1 (.lst (rs2.map λr=>V.ref r.1))) V1=some (.lst (rs2.map λr=>V.ref r.1)):=Zac;generalize upd H11 V1 (.lst (rs2.map λr=>V.ref r.1))=H12 at s12 e12 ⊢;have hrs:∀ e∈rs2,EntAt H12 e:=λe he=>by
    obtain ⟨q',hq',rfl⟩:=Yar.mp (hpm.mem_iff.mp he);exact s12 _ _ (hqs2 q' hq').1
   have hfs:rs2.map (·.2)=(ZaK os x os.length).map ck:=by
    refine Zjs hg hom ?_ ?_
    ·have h1:=hpm.map (·.2);rw [Yau] at h1;rw [<- hdw,<- hqm2,Yau,Yau];exact h1
    ·rw [List.pairwise_map];exact hup
   have sA:=s11.trans s12;refine ⟨_,_,Zca (sA _ _ hLl) (λc hc=>sA _ _ (hcs c hc).1),Zek e12 hrs,ZaL _,ZaL _,_,rfl,?_⟩;rw [hcw,hfs,Zcx];have s912:=s10.trans sA;have hT12:=hT9.same s912;have hTa12:=hTa9.same s912;refine iteF ⟨_,rfl,t,_,rfl,.inl hT12.sq,_,_,rfl,rfl,_,rfl,t,_,0,.ref p0.1,rfl,rfl,hT12.sq,Zaz (j:=0) (by rw [Yaf,hx0];rfl),p0.1,_,rfl,.inl (hT12.r p0 hm0).sq,_,_,rfl,rfl,len2,λZ hZ=>?_⟩;rw [Yaa,Yaa,g.len p0 hm0];have s13:Same H12 (upd H12 Z (.tup [.int ((prs.length:Nat) - 1),.int ((w0 prs:Nat) - 1)])):=snw hZ;have e13:(upd H12 Z (.tup [.int ((prs.length:Nat) - 1),.int ((w0 prs:Nat) - 1)])) Z=some (.tup [.int ((prs.length:Nat) - 1),.int ((w0 prs:Nat) - 1)]):=Zac;generalize upd H12 Z (.tup [.int ((prs.length:Nat) - 1),.int ((w0 prs:Nat) - 1)])=H13 at s13 e13 ⊢;have CD13:=(CD.same s912).same s13;refine ⟨_,rfl,M,rfl,⟨_,sqo CD13.l⟩,Ze0 (cs:=ds) (·.1) (λc=>.int (c.2.1:Nat)) (λc=>.int (c.2.2:Nat)) (λc=>HO.tup ((ck (prs.length - 1 - c.2.1,w0 prs - 1 - c.2.2)).map V.int)) (sqo CD13.l) CD13.c (show ds.length<=1000 by omega) (λc hc H' Q' sm q'=>?_) λU3 qs3 H14 hU3 hqm3 hqs3 s14 hUl3=>?_⟩
   ·have hi:=hin c hc;refine ⟨_,rfl,Z,_,0,_,rfl,rfl,sqt (sm _ _ e13),rfl,_,rfl,_,_,rfl,rfl,_,rfl,Z,_,1,_,rfl,rfl,sqt (sm _ _ e13),rfl,_,rfl,_,_,rfl,rfl,len2,λl hl=>q' l _ hl (snw hl) ?_⟩;rw [Zac];unfold ck;rw [show (((w0 prs - 1 - c.2.2:Nat):Int))=(w0 prs:Int) - 1 - (c.2.2:Int) by omega,show (((prs.length - 1 - c.2.1:Nat):Int))=(prs.length:Int) - 1 - (c.2.1:Int) by omega];rfl
   have hql3:qs3.length=ds.length:=by rw [<- hqm3,Yaa]
   have hTa14:=(hTa12.same s13).same s14;refine ⟨_,rfl,_,rfl,_,_,rfl,rfl,ta,bs,0 - x,rfl,hTa14,ga,λL2 cs2 H15 hL2 s15 hLl2 hcs2 hcw2 hcl2=>?_⟩;refine ⟨_,rfl,U3,qs3.map λq=>(q.1,ck (prs.length - 1 - q.2.2.1,w0 prs - 1 - q.2.2.2)),rfl,?_,by rw [Yaa];omega,λr hr'=>?_,λV2 rs3 hV2 hpm3 hup3=>?_⟩
   ·rw [Yau];exact sqo (s15 _ _ hUl3)
   ·obtain ⟨q',hq',rfl⟩:=Yar.mp hr';exact ⟨sqt (s15 _ _ (hqs3 q' hq').1),by show 0<2;decide⟩
   have s16:Same H15 (upd H15 V2 (.lst (rs3.map λr=>V.ref r.1))):=snw hV2;have e16:(upd H15 V2 (.lst (rs3.map λr=>V.ref r.1))) V2=some (.lst (rs3.map λr=>V.ref r.1)):=Zac;generalize upd H15 V2 (.lst (rs3.map λr=>V.ref r.1))=H16 at s16 e16 ⊢;have hrs3:∀ e∈rs3,EntAt H16 e:=λe he=>by
    obtain ⟨q',hq',rfl⟩:=Yar.mp (hpm3.mem_iff.mp he);exact s16 _ _ (s15 _ _ (hqs3 q' hq').1)
   have hfs3:rs3.map (·.2)=(ZaK bs (0 - x) bs.length).map ck:=by
    refine ZhP hg hbm ?_ ?_
    ·have h1:=hpm3.map (·.2);rw [Yau] at h1;rw [<- hdw,<- hqm3,Yau,Yau];exact h1
    ·rw [List.pairwise_map];exact hup3
   refine ⟨_,_,Zca (s16 _ _ hLl2) (λc hc=>s16 _ _ (hcs2 c hc).1),Zek e16 hrs3,ZaL _,ZaL _,?_⟩;rw [hcw2,hfs3,Zcx];exact q H16 (sm6.trans (s68.trans (s9.trans (s912.trans (s13.trans (s14.trans (s15.trans s16)))))))
end
open PySem L2 PyProof.Rows
theorem Zc4 {prs:Prs} (h:∀ p∈prs,p.2.length=w0 prs):∀ n,n<=prs.length->(ZbC n (w0 prs)).map (λc=>[valN prs c.1 c.2,(c.1:Int),(c.2:Int)])=Zbq prs n
 | 0,_=>rfl
 |n+1,hn=>by
  rw [ZbY,Yah,Zc4 h n (by omega),Yau];show _=Zbq prs n ++ entR n (Zat prs n) (Zat prs n).length;obtain ⟨p,hp,_,e⟩:=ZaA (show n<prs.length by omega)
  congr 1
  unfold entR;rw [e,h p hp,<- e];rfl
theorem ZiS {prs:Prs} (h:∀ p∈prs,p.2.length=w0 prs):(ZbC prs.length (w0 prs)).map (λc=>valN prs c.1 c.2)=ZbB prs:=by
 rw [<- Zem,<- Zc4 h prs.length (Yag _),Yau];rfl
theorem Zkj {xs ys:List Int} (a b:Int) (h:xs.Perm ys):amidN a b xs=amidN a b ys:=(h.filter _).length_eq
theorem Zk6 {prs:Prs}{fs:List (List Int)}{ms:List Int} (S:Sorted prs fs) (hp:ms.Perm (ZbB prs)) (hs:ms.Pairwise (·<=·)):fs.map hdI=ms :=
 (S.heads.1.trans hp.symm).eq_of_pairwise (le:=(·<=·)) (λa b _ _ h1 h2=>by omega) S.heads.2 hs
theorem Zn6 {prs:Prs}{fs:List (List Int)}{ms:List Int} (S:Sorted prs fs) (hp:ms.Perm (ZbB prs)) (hs:ms.Pairwise (·<=·)) (k:Nat):hdI (fs.getD k [])=ms.getD k 0:=by
 rw [Zrt,Zk6 S hp hs]
section
variable {P:Program}{w:World}{K:Yab}{mg:Str->Option Value}{base:Heap}
def spOG:Sp:=λvs H Q _=>∃ (t:Addr) (prs:Prs) (x y:Int),vs=[.ref t,.int x,.int y]/\Tab H t prs/\tabB prs=true/\∀ H',Same H H'->Q (.bl true) H'
abbrev ogN:List Str:=["table","x","other","numbers","rows","r","c","k","between"]
theorem sc_orderG:FnScope ogN ["table","x","other"] (Zad Zdh):=scm
inductive OgA (H:Hp) (t L N R:Addr) (x y:Int) (prs:Prs) (cs:Cs) (i:Nat) (σ:L2.St) (H6:Hp):Prop
 |mk (o5 o6:Option V) (es:Es) (h1:σ = [some (.ref t),some (.int x),some (.int y),some (.ref N),some (.ref R),o5,o6,none,none]) (h2:Same H H6) (h3:CL H6 L cs) (h4:Row H6 N ((cs.take i).map λc=>valN prs c.2.1 c.2.2)) (h5:H6 R=some (.lst (es.map λe=>V.ref e.1))) (h6:∀ e∈es,EntAt H6 e) (h7:es.map (·.2)=(cs.take i).map λc=>[valN prs c.2.1 c.2.2,(c.2.1:Int),(c.2.2:Int)]):OgA H t L N R x y prs cs i σ H6
theorem Zks (T:Blt mg) (hso:mg "sorted" = none) (D:Zah K mg "_law_order_good" Zdh ["table","x","other"]) (G0:FnAt P w K mg base 1 "_law_spots" ["table"] Zg9) (G1:FnAt P w K mg base 8 "number_by" ["table","k"] Zcs) (G2:FnAt P w K mg base 8 "count_less" ["table","x"] (Zc6 lessN)) (G3:FnAt P w K mg base 8 "count_most" ["table","x"] (Zc6 mostN))
  (G4:FnAt P w K mg base 9 "count_from" ["table","a","b"] ZdW) (G5:FnAt P w K mg base 7 "merged" ["table"] Ze7) (G6:FnAt P w K mg base 9 "middle" ["table"] ZhY):FnAt P w K mg base 10 "_law_order_good" ["table","x","other"] spOG:=by
 refine fao D sc_orderG (λvs H Q E h=>?_) (λf g A o s H vs Q E hr h=>?_)
 ·obtain ⟨t,prs,x,y,rfl,_⟩:=h;rfl
 ·obtain ⟨t,prs,x,y,rfl,hT,hg,q⟩:=h;obtain ⟨g,g1,g2,g3,g4⟩:=ZaF hg;have g2':prs.length<=6:=g2;have nd:=sc_orderG.nd;have nd1:(["one","x"]:List Str).Nodup:=by decide +kernel
  have nd2:(["one","other","x"]:List Str).Nodup:=by decide +kernel
  have hr1:Room 1 _:=hr.mono (show 1<=9 by decide);have hr7:Room 7 _:=hr.mono (show 7<=9 by decide);have hr8:Room 8 _:=hr.mono (show 8<=9 by decide);refine ⟨_,(Zaa (Zal (i:=3) nd rfl (Or.inl rfl) (ZaN ZaT))
   (Zaa (Zal (i:=4) nd rfl (Or.inl rfl) (ZaN ZaT))
   (Zaa (Zbi PassesOwn.never rfl (Zau (pe_f G0 hr1 (pa1 (pv 0)))) (ZcR rfl (ZaS (Zax (i:=5) nd rfl (Or.inl rfl)) (ZaS (Zax (i:=6) nd rfl (Or.inl rfl)) Zb3)))
    (Zaa (Zaq (ZcK YaS YaU YaV Za7 (pv 3) (pa1 (pix Zaj (pix Zaj (pv 0) (pv 5)) (pv 6)))))
   (Zaf (Zaq (ZcK YaS YaU YaV Za7 (pv 4) (pa1 (ZaD (Zab (pix Zaj (pix Zaj (pv 0) (pv 5)) (pv 6)) (Zab (pv 5) (pa1 (pv 6)))))))))))
   (Zaa (Zal (i:=3) nd rfl (Or.inl rfl) (pe_b Zco hso boot_sorted (pa1 (pv 3))))
   (Zaa (Zbi PassesOwn.never rfl (ZaG rfl T.rng (pa1 (pln T (pv 3)))) (Zax (i:=7) nd rfl (Or.inl rfl))
    (Zaf (pifF (pcm ZcE (pe_f G1 hr8 (Zab (pv 0) (pa1 (pv 7)))) (pix Zaj (pv 3) (pv 7))))))
   (Zaa (pifF (pcm ZcE (pe_f G2 hr8 (Zab (pv 0) (pa1 (pv 1)))) (pln T (Zar ["one","x"] [none,some 1] (Zad Zdh) ogN rfl (Zau (pv 3)) (by decide +kernel) (λ_ _ _ _ _=>pg_c 0 nd1) (λ_ _ _ _ _=>ZaR (pcm o_lt (pv 0) (pv 1))) (λ_ _ _ _ _=>pv 0)))))
   (Zaa (pifF (pcm ZcE (pe_f G3 hr8 (Zab (pv 0) (pa1 (pv 1)))) (pln T (Zar ["one","x"] [none,some 1] (Zad Zdh) ogN rfl (Zau (pv 3)) (by decide +kernel) (λ_ _ _ _ _=>pg_c 0 nd1) (λ_ _ _ _ _=>ZaR (pcm o_le (pv 0) (pv 1))) (λ_ _ _ _ _=>pv 0)))))
   (Zaa (Zb2 ["one","other","x"] [none,some 2,some 1] (Zad Zdh) ogN (i:=8) nd rfl (Or.inl rfl) rfl (Zau (pv 3)) (by decide +kernel) (λ_ _ _ _ _=>pg_c 0 nd2) (λ_ _ _ _ _=>ZaR (ZdC Zea Zea (pv 2) (pv 0) (pv 1))) (λ_ _ _ _ _=>pv 0))
   (Zaa (pifF (pcm ZcE (pe_f G4 hr (Zab (pv 0) (Zab (pv 1) (pa1 (pv 2))))) (pln T (pv 8))))
   (Zaf (Zak (ZbQ (ZaM (ZcG hr.units) (pe_f G5 hr7 (pa1 (pv 0))) (pe_b (ZbR hr.units) hso boot_sorted (pa1 (pv 4))) (Za6 _)) (Zbw (ZaM Zdy (pe_f G6 hr (pa1 (pv 0))) (pix Zaj (pv 3) (Zan Zhw (Zan Zb4 (pln T (pv 3)) Zae) Zae)) (Za6 _))))))))))))))),?_⟩
  refine ⟨len0,λN hN=>?_⟩;have s1:Same H (upd H N (.lst [])):=snw hN;have e1:(upd H N (.lst [])) N=some (.lst []):=Zac;generalize upd H N (.lst [])=H1 at s1 e1 ⊢;refine ⟨len0,λR hR=>?_⟩;have s2:Same H1 (upd H1 R (.lst [])):=snw hR;have e2:(upd H1 R (.lst [])) R=some (.lst []):=Zac;have R0:H R=none:=s1.free hR;have nNR:N≠R:=Zai e1 hR;generalize upd H1 R (.lst [])=H2 at s2 e2 ⊢;have eN2:=s2 _ _ e1;have hT2:=hT.same (s1.trans s2);refine ⟨_,rfl,t,prs,rfl,hT2,hg,λL cs H3 hL s3 C3 hcm=>?_⟩;have nLN:L≠N:=(Zai eN2 hL).symm;have nLR:L≠R:=(Zai e2 hL).symm;have s03:=s1.trans (s2.trans s3);have hcl:=congrArg List.length hcm;rw [Yaa,Zcr] at hcl;have hb36:prs.length * w0 prs<=6 * 6:=Nat.mul_le_mul g2' g4;have cin:∀ c∈cs,c.2.1<prs.length/\c.2.2<w0 prs:=λc hc=>Zc5 (by rw [<- hcm];exact Yar.mpr ⟨c,hc,rfl⟩);refine ⟨L,rfl,⟨_,sqo C3.l⟩,ZcU (K:=K) (xs:=cs.map Zce) (OgA H t L N R x y prs cs)
   ⟨none,none,[],rfl,s03,C3,s3 _ _ eN2,s3 _ _ e2,λe he=>(nomatch he),rfl⟩ (λi σ H6 _ h=>by obtain ⟨_,_,_,_,_,C6,_⟩:=h;exact sqo C6.l) ?_ ?_⟩
  ·rintro i z σ H6 hz ⟨o5,o6,es,rfl,sm,C6,rN,eR,hes,hem⟩;rw [Yaf] at hz;cases hc:cs[i]? with
   |none=>rw [hc] at hz;cases hz
   |some c =>
    rw [hc] at hz;have hz:V.ref c.1=z:=Yae hz;subst hz;have hcm':=YaP hc;obtain ⟨c1,c2⟩:=cin c hcm';have hT6:=hT.same sm;obtain ⟨pr,hp1,hp2,hp3⟩:=ZaA c1;have hpl:=g.len pr hp1;have ev:valN prs c.2.1 c.2.2=pr.2.getD c.2.2 0:=by
     unfold valN;rw [hp3]
    have at1:atI ((prs.map λp=>V.ref p.1)) ((c.2.1:Nat):Int)=some (V.ref pr.1):=Zaz (by rw [Yaf,hp2];rfl);have at2:atI (pr.2.map V.int) ((c.2.2:Nat):Int)=some (V.int (valN prs c.2.1 c.2.2)):=by rw [ev];exact ZaW (by omega)
    have hil:i<cs.length:=(Yai.mp hc).1;have tk:cs.take (i+1)=cs.take i ++ [c]:=by
     rw [List.take_add_one,hc];rfl
    refine ⟨c.1,_,rfl,sqt (C6.c c hcm'),rfl,_,_,rfl,_,_,rfl,rfl,?_⟩;refine ⟨_,rfl,.inl ⟨rfl,_,sqo rN⟩,_,rfl,_,rfl,t,_,_,.ref pr.1,rfl,rfl,hT6.sq,at1,_,rfl,pr.1,_,_,_,rfl,rfl,(hT6.r pr hp1).sq,at2,N,_,_,rfl,rfl,rN,by rw [Yaa,Yaa,YaR];exact Zav (by omega),?_⟩;have N0:H N=none:=hN;have tup_ne:∀ {H':Hp}{b M:Addr}{xs ys:List V},H' b=some (.tup xs)->H' M=some (.lst ys)->b≠M:=λh1 h2=>Zhy h1 h2 (by intro z;cases z);have s7:=sm.upd (o:=.lst ((((cs.take i).map λc=>valN prs c.2.1 c.2.2).map V.int) ++ [.int (valN prs c.2.1 c.2.2)])) N0;have C7:CL (upd H6 N (.lst ((((cs.take i).map λc=>valN prs c.2.1 c.2.2).map V.int) ++ [.int (valN prs c.2.1 c.2.2)]))) L cs:=⟨by rw [Zag nLN];exact C6.l,λd hd=>by unfold Za0;rw [Zag (tup_ne (C6.c d hd) rN)];exact C6.c d hd⟩;have rN7:Row (upd H6 N (.lst ((((cs.take i).map λc=>valN prs c.2.1 c.2.2).map V.int) ++ [.int (valN prs c.2.1 c.2.2)]))) N ((cs.take (i+1)).map λc=>valN prs c.2.1 c.2.2):=by
     unfold Row;rw [Zac,tk,Yah,Yah];rfl
    have eR7:(upd H6 N (.lst ((((cs.take i).map λc=>valN prs c.2.1 c.2.2).map V.int) ++ [.int (valN prs c.2.1 c.2.2)]))) R=some (.lst (es.map λe=>V.ref e.1)):=by rw [Zag nNR.symm];exact eR
    have hes7:∀ e∈es,EntAt (upd H6 N (.lst ((((cs.take i).map λc=>valN prs c.2.1 c.2.2).map V.int) ++ [.int (valN prs c.2.1 c.2.2)]))) e:=λe he=>by unfold EntAt;rw [Zag (tup_ne (hes e he) rN)];exact hes e he
    generalize upd H6 N (.lst ((((cs.take i).map λc=>valN prs c.2.1 c.2.2).map V.int) ++ [.int (valN prs c.2.1 c.2.2)]))=H7 at s7 C7 rN7 eR7 hes7 ⊢;have hT7:=hT.same s7;refine ⟨_,rfl,.inl ⟨rfl,_,sqo eR7⟩,_,rfl,_,rfl,t,_,_,.ref pr.1,rfl,rfl,hT7.sq,at1,_,rfl,pr.1,_,_,_,rfl,rfl,(hT7.r pr hp1).sq,at2,_,rfl,_,rfl,len3,λT1 hT1=>?_⟩;have s8:Same H7 (upd H7 T1 (.tup [.int (valN prs c.2.1 c.2.2),.int (c.2.1:Nat),.int (c.2.2:Nat)])):=snw hT1;have e8:EntAt (upd H7 T1 (.tup [.int (valN prs c.2.1 c.2.2),.int (c.2.1:Nat),.int (c.2.2:Nat)])) (T1,[valN prs c.2.1 c.2.2,(c.2.1:Int),(c.2.2:Int)]):=Zac;generalize upd H7 T1 (.tup [.int (valN prs c.2.1 c.2.2),.int (c.2.1:Nat),.int (c.2.2:Nat)])=H8 at s8 e8 ⊢;have eR8:=s8 _ _ eR7;have hel:=congrArg List.length hem;rw [Yaa,Yaa,YaR] at hel;refine ⟨R,_,_,rfl,rfl,eR8,by rw [Yaa];exact Zav (by omega),?_⟩;have C8:=C7.same s8;refine ⟨_,_,es ++ [(T1,[valN prs c.2.1 c.2.2,(c.2.1:Int),(c.2.2:Int)])],rfl,(s7.trans s8).upd R0,⟨by rw [Zag nLR];exact C8.l,λd hd=>by unfold Za0;rw [Zag (tup_ne (C8.c d hd) eR8)];exact C8.c d hd⟩,?_,by rw [Zac,Yah];rfl,λe he=>?_,?_⟩
    ·unfold Row;rw [Zag nNR];exact s8 _ _ rN7
    ·have h8:EntAt H8 e:=by
      rcases YaG.mp he with z | z
      ·exact s8 _ _ (hes7 e z)
      ·rw [YaJ.mp z];exact e8
     unfold EntAt;rw [Zag (tup_ne h8 eR8)];exact h8
    ·rw [Yah,hem,tk,Yah];rfl
  ·rintro σ H6 ⟨o5,o6,es,rfl,sm,C6,rN,eR,hes,hem⟩;rw [Yaa,List.take_length] at rN hem;have hw:∀ p∈prs,p.2.length=w0 prs:=g.len;have hflat:(cs.map λc=>valN prs c.2.1 c.2.2)=ZbB prs:=by
    rw [<- ZiS hw,<- hcm,Yau];rfl
   have hents:es.map (·.2)=Zbq prs prs.length:=by
    rw [hem,<- Zc4 hw prs.length (Yag _),<- hcm,Yau];rfl
   rw [hflat] at rN;have hfl:(ZbB prs).length=prs.length * w0 prs:=ZgN hw;have hT6:=hT.same sm;refine ⟨_,rfl,N,ZbB prs,rfl,rN.sq,by omega,λM ms hM hpm hps=>?_⟩;have s7:Same H6 (upd H6 M (.lst (ms.map V.int))):=snw hM;have rM:Row (upd H6 M (.lst (ms.map V.int))) M ms:=Zac;generalize upd H6 M (.lst (ms.map V.int))=H7 at s7 rM ⊢;have hml:ms.length=prs.length * w0 prs:=by rw [hpm.length_eq,hfl]
   refine ⟨_,rfl,M,_,rfl,.inl rM.sq,_,rfl,by omega,by rw [Yaa];omega,?_⟩;rw [Yaa,Yav];refine ZaZ (λk σ H8=>∃ o7,σ = [some (.ref t),some (.int x),some (.int y),some (.ref M),some (.ref R),o5,o6,o7,none]/\Same H7 H8) ⟨none,rfl,srf _⟩ ?_ ?_
   ·rintro k σ H8 hk ⟨o7,rfl,s8⟩;rw [Int.zero_add];refine ⟨_,rfl,_,rfl,t,prs,k,rfl,(hT6.same s7).same s8,hg,by omega,λfs H9 s9 S=>?_⟩;refine ⟨_,rfl,_,rfl,M,_,_,.int (ms.getD k 0),rfl,rfl,(((rM.same s8).same s9)).sq,ZaW hk,rfl,_,rfl,?_⟩;rw [Zn6 S hpm hps k,Ya4 rfl];exact iteF ⟨_,rfl,s8.trans s9⟩
   ·rintro σ H8 ⟨o7,rfl,s8⟩;have hT8:=(hT6.same s7).same s8;have rM8:=rM.same s8;refine ⟨_,rfl,_,rfl,t,prs,x,rfl,hT8,hg,λH9 s9=>?_⟩;have rM9:=rM8.same s9;refine ⟨_,rfl,M,rfl,⟨_,rM9.sq⟩,Zbl V.int (λn=>decide (n<x)) V.int rM9.sq (sl6 (by omega)) (λn _ H' Q' sm' q'=>⟨_,rfl,_,rfl,_,_,rfl,rfl,_,rfl,q' _ (srf _)⟩) (λn _ _ H' Q' sm' q'=>⟨_,rfl,q' _ (srf _)⟩) λD1 H10 hD1 s10 e10=>⟨D1,_,rfl,.inl (sqo e10),rfl,_,rfl,?_⟩⟩;rw [Yaa,show ((ms.filter λn=>decide (n<x)).length:Int)=((lessN x (ZbB prs):Nat):Int) by rw [<- Zki x hpm];rfl,Ya4 rfl];have s810:=s9.trans s10;have hT10:=hT8.same s810;have rM10:=rM8.same s810;refine iteF ⟨_,rfl,_,rfl,t,prs,x,rfl,hT10,hg,λH11 s11=>?_⟩;have rM11:=rM10.same s11;refine ⟨_,rfl,M,rfl,⟨_,rM11.sq⟩,Zbl V.int (λn=>decide (n<=x)) V.int rM11.sq (sl6 (by omega)) (λn _ H' Q' sm' q'=>⟨_,rfl,_,rfl,_,_,rfl,rfl,_,rfl,q' _ (srf _)⟩) (λn _ _ H' Q' sm' q'=>⟨_,rfl,q' _ (srf _)⟩) λD2 H12 hD2 s12 e12=>⟨D2,_,rfl,.inl (sqo e12),rfl,_,rfl,?_⟩⟩;rw [Yaa,show ((ms.filter λn=>decide (n<=x)).length:Int)=((mostN x (ZbB prs):Nat):Int) by rw [<- Zkh x hpm];rfl,Ya4 rfl];have s1012:=s11.trans s12;have hT12:=hT10.same s1012;have rM12:=rM10.same s1012;refine iteF ⟨_,rfl,M,rfl,⟨_,rM12.sq⟩,Zbl V.int (λn=>decide (x<=n) && decide (n<=y)) V.int rM12.sq (sl6 (by omega)) (λn _ H' Q' sm' q'=>?_) (λn _ _ H' Q' sm' q'=>⟨_,rfl,q' _ (srf _)⟩) λD3 H13 hD3 s13 e13=>?_⟩
    ·have q2:=q' _ (srf _);refine ⟨_,rfl,_,rfl,_,_,rfl,rfl,_,rfl,ite2 (λh1=>?_) (λh1=>?_)⟩
     ·rw [h1,Bool.true_and] at q2;exact ⟨_,rfl,_,_,rfl,rfl,_,rfl,q2⟩
     ·rw [Bool.eq_false_iff.mpr h1,Bool.false_and] at q2;exact ⟨_,rfl,q2⟩
    have hT13:=hT12.same s13;refine ⟨_,rfl,_,rfl,_,rfl,t,prs,x,y,rfl,hT13,hg,λH14 s14=>⟨_,rfl,D3,_,rfl,.inl (sqo (s14 _ _ e13)),rfl,_,rfl,?_⟩⟩;rw [Yaa,show ((ms.filter λn=>decide (x<=n) && decide (n<=y)).length:Int)=((amidN x y (ZbB prs):Nat):Int) by rw [<- Zkj x y hpm];rfl,Ya4 rfl];have s714:=s8.trans (s810.trans (s1012.trans (s13.trans s14)));have hT14:=hT13.same s14;refine iteF ⟨_,rfl,t,prs,rfl,hT14,hg,λLL fs H15 hLL s15 eL hfe S=>?_⟩;have s615:=s7.trans (s714.trans s15);refine ⟨_,rfl,R,es,rfl,sqo (s615 _ _ eR),by have:=congrArg List.length hem;rw [Yaa,Yaa] at this;omega,λr hr'=>⟨sqt (s615 _ _ (hes r hr')),?_⟩,λW rs hW hpm2 hup=>?_⟩
    ·have:r.2∈Zbq prs prs.length:=by rw [<- hents];exact Yar.mpr ⟨r,hr',rfl⟩
     obtain ⟨a,b,c,e⟩:=ZbH this;rw [e];show 0<3;decide
    have s16:Same H15 (upd H15 W (.lst (rs.map λr=>V.ref r.1))):=snw hW;have e16:(upd H15 W (.lst (rs.map λr=>V.ref r.1))) W=some (.lst (rs.map λr=>V.ref r.1)):=Zac;generalize upd H15 W (.lst (rs.map λr=>V.ref r.1))=H16 at s16 e16 ⊢;have hrs:∀ e∈rs,EntAt H16 e:=λe he=>s16 _ _ (s615 _ _ (hes e (hpm2.mem_iff.mp he)));have S2:Sorted prs (rs.map (·.2)):=⟨by rw [<- hents];exact hpm2.map _,by rw [List.pairwise_map];exact hup⟩;refine ⟨_,_,Zek (s16 _ _ eL) (λe he=>s16 _ _ (hfe e he).1),Zek e16 hrs,ZaL _,ZaL _,_,rfl,?_⟩;rw [S.same S2,Zcx];have hT16:=(hT14.same s15).same s16;have s716:=s714.trans (s15.trans s16);refine iteT ⟨_,rfl,t,prs,rfl,hT16,hg,λgs H17 s17 S3=>?_⟩;have rM17:=(rM.same s716).same s17;have hi:(prs.length * w0 prs - 1) / 2<ms.length:=by
     have:1 * 1<=prs.length * w0 prs:=Nat.mul_le_mul g1 g3;omega
    have ei:(((ms.length:Nat):Int) - 1) / 2=(((prs.length * w0 prs - 1) / 2:Nat):Int):=by
     have:1 * 1<=prs.length * w0 prs:=Nat.mul_le_mul g1 g3;omega
    refine ⟨_,rfl,_,rfl,M,_,rfl,.inl rM17.sq,_,_,rfl,rfl,_,_,rfl,rfl,⟨by decide,by decide⟩,M,_,_,.int (ms.getD ((prs.length * w0 prs - 1) / 2) 0),rfl,rfl,rM17.sq,?_,rfl,?_⟩
    ·rw [Yaa,ei];exact ZaW hi
    rw [Zn6 S3 hpm hps,Ya4 rfl];exact q H17 (sm.trans (s7.trans (s716.trans s17)))
end
open PySem L2 PyProof.Rows
structure RowSh (prs:Prs) (x:Int) (ks:List Int) (r:Nat):Prop where
 b0:0<=ks.getD r 0
 b1:ks.getD r 0<=(w0 prs:Int)
 dn:0<r->ks.getD r 0<=ks.getD (r - 1) 0
 pt:Zfp x (Zat prs r) (ks.getD r 0).toNat=true
theorem showD_iff {prs:Prs}{x:Int}{ks:List Int}:ZnK prs x (dRow ks) ↔ ks.length=prs.length/\∀ r,r<prs.length->RowSh prs x ks r:=by
 constructor
 ·rintro ⟨ks2,e,h⟩;have e:=ZdI e;subst e;refine ⟨h.st.len,λr hr=>?_⟩;have hr':r<ks.length:=by rw [h.st.len];exact hr
  have hm:ks.getD r 0∈ks:=by
   rw [Yat,Yac hr'];exact YaL hr'
  refine ⟨(h.st.bd _ hm).1,(h.st.bd _ hm).2,λh0=>?_,h.part r hr⟩;have:=h.st.down (r - 1) (by omega);rw [show r - 1+1=r by omega] at this;exact this
 ·rintro ⟨hl,h⟩;refine ⟨ks,rfl,⟨hl,λn hn=>?_,λi hi=>?_⟩,λi hi=>(h i hi).pt⟩
  ·obtain ⟨i,hi,rfl⟩:=List.mem_iff_getElem.mp hn;have:=h i (by omega);have e:ks.getD i 0=ks[i]:=by rw [Yat,Yac hi];rfl
   rw [<- e];exact ⟨this.b0,this.b1⟩
  ·exact (h (i+1) (by omega)).dn (by omega)
theorem Zkp (x:Int) (ns:List Int):(ns.filter (λn=>decide (n ≥ x))=[]) ↔ (ns.map λn=>decide (n<x)).all id=true:=by
 rw [List.filter_eq_nil_iff,List.all_map,YaO];constructor
 ·intro h n hn;have:=h n hn;simp at this ⊢;omega
 ·intro h n hn;have:=h n hn;simp at this ⊢;omega
theorem Zko (x:Int) (ns:List Int):(ns.filter (λn=>decide (n<=x))=[]) ↔ (ns.map λn=>decide (x<n)).all id=true:=by
 rw [List.filter_eq_nil_iff,List.all_map,YaO];constructor
 ·intro h n hn;have:=h n hn;simp at this ⊢;omega
 ·intro h n hn;have:=h n hn;simp at this ⊢;omega
section
variable {P:Program}{w:World}{K:Yab}{mg:Str->Option Value}{base:Heap}
def ZpT:Sp:=λvs H Q _=>∃ (t p:Addr) (prs:Prs) (x:Int) (ks:List Int),vs=[.ref t,.int x,.ref p]/\Tab H t prs/\tabB prs=true/\Row H p ks/\ks.length<=100/\∀ b H',(b=true ↔ ZnK prs x (dRow ks))->Same H H'->Q (.bl b) H'
abbrev Zot:List Str:=["table","x","paper","r"]
theorem sc_lsh:FnScope Zot ["table","x","paper"] (Zad Zev):=scm
theorem Zqf (T:Blt mg) (D:Zah K mg "_law_shows" Zev ["table","x","paper"]):FnAt P w K mg base 1 "_law_shows" ["table","x","paper"] ZpT:=by
 refine fao D sc_lsh (λvs H Q E h=>?_) (λf g A o s H vs Q E hr h=>?_)
 ·obtain ⟨t,p,prs,x,ks,rfl,_⟩:=h;rfl
 ·obtain ⟨t,pp,prs,x,ks,rfl,hT,hg,hP,hk,q⟩:=h;obtain ⟨g,g1,g2,g3,g4⟩:=ZaF hg;have g2':prs.length<=6:=g2;have nd:=sc_lsh.nd;have nd1:(["one","x"]:List Str).Nodup:=by decide +kernel
  refine ⟨_,(Zaa (pifF (pcm ZcE (pln T (pv 2)) (pln T (pv 0))))
   (Zaa (Zbi PassesOwn.never rfl (ZaG rfl T.rng (pa1 (pln T (pv 0)))) (Zax (i:=3) nd rfl (Or.inl rfl))
    (Zaa (pifF (ZaC (ZdC Zea Zea Zae (pix Zaj (pv 2) (pv 3)) (pln T (pix Zaj (pv 0) (pv 3))))))
   (Zaa (pifF (PW.pt (Zgi (pcm o_gt (pv 3) Zae) (Zfh (pcm o_gt (pix Zaj (pv 2) (pv 3)) (pix Zaj (pv 2) (Zan Zb4 (pv 3) Zae)))))))
   (Zaa (pifF (pcm (Zbx hr.units) (Zar ["one","x"] [none,some 1] (Zad Zev) Zot rfl (Zau (ZdD Zfb (pix Zaj (pv 0) (pv 3)) Zfj (Zda (pix Zaj (pv 2) (pv 3))))) (by decide +kernel) (λ_ _ _ _ _=>pg_c 0 nd1) (λ_ _ _ _ _=>ZaR (pcm o_ge (pv 0) (pv 1))) (λ_ _ _ _ _=>pv 0)) (ZaN ZaT)))
   (Zaf (pifF (pcm (Zbx hr.units) (Zar ["one","x"] [none,some 1] (Zad Zev) Zot rfl (Zau (ZdD Zfb (pix Zaj (pv 0) (pv 3)) (Zda (pix Zaj (pv 2) (pv 3))) Zfj)) (by decide +kernel) (λ_ _ _ _ _=>pg_c 0 nd1) (λ_ _ _ _ _=>ZaR (pcm o_le (pv 0) (pv 1))) (λ_ _ _ _ _=>pv 0)) (ZaN ZaT))))))))
   (Zaf (Zak Zgn)))),?_⟩
  refine ⟨_,rfl,pp,_,rfl,.inl hP.sq,_,rfl,t,_,rfl,.inl hT.sq,rfl,_,rfl,?_⟩;rw [Yaa,Yaa,ZhF]
  by_cases hl:ks.length=prs.length
  rotate_left
  ·rw [Ya5 hl];exact iteT (q false H ⟨(λz=>nomatch z),λz=>absurd (showD_iff.mp z).1 hl⟩ (srf _))
  rw [Ya4 hl];have no:∀ {r:Nat} (H':Hp),r<prs.length->¬ RowSh prs x ks r->Same H H'->Q (.bl false) H':=λH' hr' hn sm=>q false H' ⟨(λz=>nomatch z),λz=>absurd ((showD_iff.mp z).2 _ hr') hn⟩ sm;refine iteF ⟨_,rfl,t,_,rfl,.inl hT.sq,_,rfl,by omega,by rw [Yaa];omega,?_⟩;rw [Yaa,Yav];refine ZaZ (λi σ H2=>∃ o3,σ = [some (.ref t),some (.int x),some (.ref pp),o3]/\Same H H2/\∀ r,r<i->RowSh prs x ks r) ⟨none,rfl,srf _,λr hr'=>absurd hr' (by omega)⟩ ?_ ?_
  ·rintro i σ H2 hi ⟨o3,rfl,sm,hf⟩;rw [Int.zero_add];have hT2:=hT.same sm;have hP2:=hP.same sm;obtain ⟨pr,hp1,hp2,hp3⟩:=ZaA hi;have hpl:=g.len pr hp1;have at1:atI ((prs.map λp=>V.ref p.1)) ((i:Nat):Int)=some (V.ref pr.1):=Zaz (by rw [Yaf,hp2];rfl);have atk:atI (ks.map V.int) ((i:Nat):Int)=some (V.int (ks.getD i 0)):=ZaW (by omega);have hrow:=hT2.r pr hp1;refine ⟨_,rfl,_,rfl,pp,_,_,_,rfl,rfl,hP2.sq,atk,_,_,rfl,rfl,_,rfl,ite2 (λh1=>?_) (λh1=>?_)⟩
   rotate_left
   ·exact ⟨_,rfl,iteT (no H2 hi (λz=>h1 (Ya4 z.b0)) sm)⟩
   have h1:=of_decide_eq_true h1;refine ⟨_,rfl,_,rfl,t,_,_,.ref pr.1,rfl,rfl,hT2.sq,at1,pr.1,_,rfl,.inl hrow.sq,_,_,rfl,rfl,_,rfl,?_⟩;rw [Yaa,hpl]
   by_cases h2:ks.getD i 0<=(w0 prs:Int)
   rotate_left
   ·rw [Ya5 h2];exact iteT (no H2 hi (λz=>h2 z.b1) sm)
   rw [Ya4 h2];refine iteF ?_;refine Zhx ?_;dsimp only;refine ZcL (λN=>(0<i->ks.getD i 0<=ks.getD (i - 1) 0)->N [some (.ref t),some (.int x),some (.ref pp),some (.int (i:Nat))] H2) (λhdn=>?_) (λtail=>?_)
   rotate_left
   ·refine ⟨_,rfl,_,_,rfl,rfl,_,rfl,?_⟩
    by_cases h0:0<i
    rotate_left
    ·rw [Ya5 (show ¬ ((i:Int) > 0) by omega)];exact iteF (iteF (tail λz=>absurd z h0))
    rw [Ya4 (show (i:Int) > 0 by omega)];have atk1:atI (ks.map V.int) (((i:Nat):Int) - 1)=some (V.int (ks.getD (i - 1) 0)):=by
     rw [show (((i:Nat):Int) - 1)=((i - 1:Nat):Int) by omega];exact ZaW (by omega)
    refine iteT ⟨_,rfl,_,rfl,pp,_,_,_,rfl,rfl,hP2.sq,atk,_,rfl,_,rfl,_,_,rfl,rfl,pp,_,_,_,rfl,rfl,hP2.sq,atk1,_,_,rfl,rfl,_,rfl,?_⟩
    by_cases h3:ks.getD i 0 > ks.getD (i - 1) 0
    ·rw [Ya4 h3];exact iteT (no H2 hi (λz=>by have:=z.dn h0;omega) sm)
    ·rw [Ya5 h3];exact iteF (tail λ_=>by omega)
   obtain ⟨k,hk'⟩:∃ k:Nat,ks.getD i 0=(k:Nat):=⟨(ks.getD i 0).toNat,by omega⟩;have part:RowSh prs x ks i->((pr.2.take k).map λn=>decide (n<x)).all id=true/\((pr.2.drop k).map λn=>decide (x<n)).all id=true:=λz=>by
    have:=z.pt;rw [hk',Yav,hp3] at this;unfold Zfp at this;rw [Yaj] at this;exact this
   rw [hk'] at atk;refine ⟨_,rfl,_,rfl,t,_,_,.ref pr.1,rfl,rfl,hT2.sq,at1,_,rfl,_,rfl,pp,_,_,_,rfl,rfl,hP2.sq,atk,_,rfl,pr.1,_,rfl,hrow.sq,λW hW=>⟨W,rfl,?_⟩⟩;rw [ZiB];have s3:Same H2 (upd H2 W (.lst ((pr.2.take k).map V.int))):=snw hW;have r3:Row (upd H2 W (.lst ((pr.2.take k).map V.int))) W (pr.2.take k):=Zac;generalize upd H2 W (.lst ((pr.2.take k).map V.int))=H3 at s3 r3 ⊢;have hl1:(pr.2.take k).length<=6:=by rw [YaR];omega
   refine ⟨⟨_,r3.sq⟩,Zbl V.int (λn=>decide (n ≥ x)) V.int r3.sq (sl6 (by omega)) (λn _ H' Q' sm' q'=>⟨_,rfl,_,rfl,_,_,rfl,rfl,_,rfl,q' _ (srf _)⟩) (λn _ _ H' Q' sm' q'=>⟨_,rfl,q' _ (srf _)⟩) λD1 H4 hD1 s4 e4=>⟨len0,λZ hZ=>?_⟩⟩;have s5:Same H4 (upd H4 Z (.lst [])):=snw hZ;have r5:Row (upd H4 Z (.lst [])) Z []:=Zac;generalize upd H4 Z (.lst [])=H5 at s5 r5 ⊢;have r4:Row H5 D1 ((pr.2.take k).filter λn=>decide (n ≥ x)):=s5 _ _ e4;refine ⟨_,_,r4.rd,r5.rd,ZaE _,ZaE _,_,rfl,?_⟩;rw [ZcV];have sm5:=sm.trans (s3.trans (s4.trans s5))
   by_cases ha:(pr.2.take k).filter (λn=>decide (n ≥ x))=[]
   rotate_left
   ·rw [Ya5 ha];exact iteT (no H5 hi (λz=>ha ((Zkp x _).mpr (part z).1)) sm5)
   rw [Ya4 ha];have hT5:=hT.same sm5;have hP5:=hP.same sm5;have hrow5:=hT5.r pr hp1;refine iteF ⟨_,rfl,_,rfl,t,_,_,.ref pr.1,rfl,rfl,hT5.sq,at1,_,rfl,_,rfl,pp,_,_,_,rfl,rfl,hP5.sq,atk,_,rfl,pr.1,_,rfl,hrow5.sq,λW2 hW2=>⟨W2,rfl,?_⟩⟩;rw [ZiC];have s6:Same H5 (upd H5 W2 (.lst ((pr.2.drop k).map V.int))):=snw hW2;have r6:Row (upd H5 W2 (.lst ((pr.2.drop k).map V.int))) W2 (pr.2.drop k):=Zac;generalize upd H5 W2 (.lst ((pr.2.drop k).map V.int))=H6 at s6 r6 ⊢;have hl2:(pr.2.drop k).length<=6:=by rw [List.length_drop];omega
   refine ⟨⟨_,r6.sq⟩,Zbl V.int (λn=>decide (n<=x)) V.int r6.sq (sl6 (by omega)) (λn _ H' Q' sm' q'=>⟨_,rfl,_,rfl,_,_,rfl,rfl,_,rfl,q' _ (srf _)⟩) (λn _ _ H' Q' sm' q'=>⟨_,rfl,q' _ (srf _)⟩) λD2 H7 hD2 s7 e7=>⟨len0,λZ2 hZ2=>?_⟩⟩;have s8:Same H7 (upd H7 Z2 (.lst [])):=snw hZ2;have r8:Row (upd H7 Z2 (.lst [])) Z2 []:=Zac;generalize upd H7 Z2 (.lst [])=H8 at s8 r8 ⊢;have r7:Row H8 D2 ((pr.2.drop k).filter λn=>decide (n<=x)):=s8 _ _ e7;refine ⟨_,_,r7.rd,r8.rd,ZaE _,ZaE _,_,rfl,?_⟩;rw [ZcV];have sm8:=sm5.trans (s6.trans (s7.trans s8))
   by_cases hb:(pr.2.drop k).filter (λn=>decide (n<=x))=[]
   rotate_left
   ·rw [Ya5 hb];exact iteT (no H8 hi (λz=>hb ((Zko x _).mpr (part z).2)) sm8)
   rw [Ya4 hb];refine iteF ⟨_,rfl,sm8,λr hr'=>?_⟩;rcases Nat.lt_or_ge r i with z | z
   ·exact hf r z
   ·rw [show r=i by omega];refine ⟨h1,h2,hdn,?_⟩;rw [hk',Yav,hp3];unfold Zfp;rw [Yaj];exact ⟨(Zkp x _).mp ha,(Zko x _).mp hb⟩
  ·rintro σ H2 ⟨o3,rfl,sm,hf⟩;exact q true H2 ⟨λ_=>showD_iff.mpr ⟨hl,hf⟩,λ_=>rfl⟩ sm
end
open PySem L2 PyProof.Rows
theorem ZqD {n k:Nat} (h:k<n):ixN n (k:Int)=some k:=by
 unfold ixN;rw [Ya7 (by omega),Ya7 (by omega),Yav]
theorem ZqQ {α:Type}{f:α->V}{xs:List α}{c:Nat} (h:0<xs.length):∃ x,atI (xs.map f) ((c:Int) % ((xs.map f).length:Int))=some (f x):=by
 have hl:c % xs.length<xs.length:=Nat.mod_lt _ h;refine ⟨xs[c % xs.length],?_⟩;rw [Yaa,show ((c:Int) % (xs.length:Int))=((c % xs.length:Nat):Int) from (Int.natCast_emod _ _).symm];exact Zaz (by rw [Yaf,Yac hl];rfl)
theorem ZpC {a b c d:Int} (m:Nat):∃ x,atI [V.int a,.int b,.int c,.int d] ((m:Int) % 4)=some (V.int x):=ZqQ (f:=V.int) (xs:=[a,b,c,d]) (c:=m) (by simp)
theorem ZdA {te:TE}{g:TG}{u:TS}{D:Ends}{σ:L2.St}{H:Hp} (C:(V->Hp->Prop)->Prop) (h:C (λx H1=>g x σ H1 (u D))) (hA:C (λx H1=>g x σ H1 (u D))->te σ H (λx H1=>g x σ H1 (u D))):tSeq (tAsg te g) u D σ H:=hA h
theorem Zmg (ks:List Int) (j:Nat) (v:Int):(ks.map V.int).set j (.int v)=(ks.set j v).map V.int:=by rw [List.map_set]
section
variable {P:Program}{w:World}{K:Yab}{mg:Str->Option Value}{base:Heap}
def spSG:Sp:=λvs H Q _=>∃ (t:Addr) (prs:Prs) (x c:Int),vs=[.ref t,.int x,.int c]/\Tab H t prs/\tabB prs=true/\∀ H',Same H H'->Q (.bl true) H'
abbrev sgN:List Str:=["table","x","cell","low","high","told","k","paper","at"]
theorem sc_stairG:FnScope sgN ["table","x","cell"] (Zad ZcW):=scm
theorem Zkq (T:Blt mg) (D:Zah K mg "_law_stairs_good" ZcW ["table","x","cell"]) (G0:FnAt P w K mg base 1 "_law_mixed" ["cell","k"] ZdT) (G1:FnAt P w K mg base 7 "stair_of" ["table","x"] (ZcI lessN)) (G2:FnAt P w K mg base 7 "high_stair" ["table","x"] (ZcI mostN)) (G3:FnAt P w K mg base 8 "stair_paper" ["table","x"] ZjO)
  (G4:FnAt P w K mg base 7 "paper_shows" ["table","x","thing"] ZjL) (G5:FnAt P w K mg base 1 "_law_shows" ["table","x","paper"] ZpT):FnAt P w K mg base 9 "_law_stairs_good" ["table","x","cell"] spSG:=by
 refine fao D sc_stairG (λvs H Q E h=>?_) (λf g A o s H vs Q E hr h=>?_)
 ·obtain ⟨t,prs,x,c,rfl,_⟩:=h;rfl
 ·obtain ⟨t,prs,x,c,rfl,hT,hg,q⟩:=h;obtain ⟨g,g1,g2,g3,g4⟩:=ZaF hg;have g2':prs.length<=6:=g2;have nd:=sc_stairG.nd;have nd1:(["row","x"]:List Str).Nodup:=by decide +kernel
  have nd2:(["one","x"]:List Str).Nodup:=by decide +kernel
  have hr1:Room 1 _:=hr.mono (show 1<=8 by decide);have hr7:Room 7 _:=hr.mono (show 7<=8 by decide);refine ⟨_,(Zaa (Zb2 ["row","x"] [none,some 1] (Zad ZcW) sgN (i:=3) nd rfl (Or.inl rfl) rfl (Zau (pv 0)) (by decide +kernel) (λ_ _ _ _ _=>pg_c 0 nd1) (λ_ _ _ _ _=>Zam) (λ_ _ _ _ _=>pe_b (lenK K) T.len boot_len (pa1 (Zfo ["one","x"] [none,some 1] rfl (Zd6 K (pv 0)) (by kernel_rfl) (λ_ _ _ _ _=>pg_c 0 nd2) (λ_ _ _ _ _=>ZaR (pcm o_lt (pv 0) (pv 1))) (λ_ _ _ _ _=>pv 0)))))
   (Zaa (Zb2 ["row","x"] [none,some 1] (Zad ZcW) sgN (i:=4) nd rfl (Or.inl rfl) rfl (Zau (pv 0)) (by decide +kernel) (λ_ _ _ _ _=>pg_c 0 nd1) (λ_ _ _ _ _=>Zam) (λ_ _ _ _ _=>pe_b (lenK K) T.len boot_len (pa1 (Zfo ["one","x"] [none,some 1] rfl (Zd6 K (pv 0)) (by kernel_rfl) (λ_ _ _ _ _=>pg_c 0 nd2) (λ_ _ _ _ _=>ZaR (pcm o_le (pv 0) (pv 1))) (λ_ _ _ _ _=>pv 0)))))
   (Zaa (pifF (PW.pt (Zbv (pcm (Zbx hr.units) (pe_f G1 hr7 (Zab (pv 0) (pa1 (pv 1)))) (pv 3)) (Zbo (pcm (Zbx hr.units) (pe_f G2 hr7 (Zab (pv 0) (pa1 (pv 1)))) (pv 4))))))
   (Zaa (Zal (i:=5) nd rfl (Or.inl rfl) (pe_f G3 hr (Zab (pv 0) (pa1 (pv 1)))))
   (Zaa (pifF (PW.pt (Zbv (pcm ZcE (ZaM Zie (pv 5) ZbK (Za6 _)) (ZaM (Zbx hr.units) (pv 3) (pv 4) (Za6 _))) (Zbo (PW.pt (Zgi (pcm ZoS (pv 5) ZbK) (Zfh (pcm (Zbx hr.units) (pv 5) (pv 3)))))))))
   (Zaa (Zbi PassesOwn.never rfl (ZaG rfl T.rng (pa1 Zae)) (Zax (i:=6) nd rfl (Or.inl rfl))
    (Zaa (Zal (i:=7) nd rfl (Or.inl rfl) (pe_t Zbm T.list boot_list (pa1 (pix Zaj (ZaN (Zab (pv 3) (pa1 (pv 4)))) (Zan ZbA (pv 6) Zae)))))
   (Zaa (Zal (i:=8) nd rfl (Or.inl rfl) (Zan ZbA (pe_f G0 hr1 (Zab (pv 2) (pa1 (pv 6)))) (pln T (pv 7))))
   (Zaa (ZeT (Zan Zby (pix Zaj (pv 7) (pv 8)) (pix Zaj (ZaN (Zab (Zfl Zfs Zae) (Zab Zae (Zab Zae (pa1 Zae))))) (Zan ZbA (pe_f G0 hr1 (Zab (pv 2) (pa1 (Zan Zby Zae (pv 6))))) Zae))) (Zkg (pv 7) (pv 8) Zfc))
   (Zaa (Zbn (pcm Zdy (pv 6) Zae) (Zaf (Zaq (ZcK YaS YaU YaV Za7 (pv 7) (pa1 Zae)))) ZaI)
   (Zaf (pifF (pcm ZcE (pe_f G4 hr7 (Zab (pv 0) (Zab (pv 1) (pa1 (pv 7))))) (pe_f G5 hr1 (Zab (pv 0) (Zab (pv 1) (pa1 (pv 7)))))))))))))
   (Zaf (Zak Zgn)))))))),?_⟩
  have len_comp:∀ (pr:Int->Bool) (p:Addr × List Int) (H':Hp) (R:VK),p∈prs->Tab H' t prs->(∀ H'',Same H' H''->R (.int ((p.2.filter pr).length:Nat)) H'')->∀ D1 H2,Same H' H2->H2 D1=some (.lst ((p.2.filter pr).map V.int))->R (.int (((p.2.filter pr).map V.int).length:Nat)) H2:=λpr p H' R _ _ hq D1 H2 s2 _=>by
   rw [Yaa];exact hq H2 s2
  refine ⟨_,rfl,t,rfl,⟨_,hT.sq⟩,Zba (λp:Addr × List Int=>V.ref p.1) (λp=>V.int (lessN x p.2:Nat)) hT.sq (sl6 (by omega)) (λp hp H' Q' sm q'=>?_) λL1 H1 hL1 s1 e1=>?_⟩
  ·have hrow:=(hT.same sm).r p hp;refine ⟨_,rfl,p.1,rfl,⟨_,hrow.sq⟩,Zbl V.int (λn=>decide (n<x)) V.int hrow.sq (sl6 (by rw [g.len p hp];omega)) (λn _ H2 Q2 s2 q2=>⟨_,rfl,_,rfl,_,_,rfl,rfl,_,rfl,q2 _ (srf _)⟩) (λn _ _ H2 Q2 s2 q2=>⟨_,rfl,q2 _ (srf _)⟩) λD1 H2 hD1 s2 e2=>⟨D1,_,rfl,.inl (sqo e2),?_⟩⟩;rw [Yaa];exact q' H2 s2
  have r1:Row H1 L1 (lowR prs x):=by
   unfold Row lowR;rw [e1,Yau];rfl
  have hT1:=hT.same s1;refine ⟨_,rfl,t,rfl,⟨_,hT1.sq⟩,Zba (λp:Addr × List Int=>V.ref p.1) (λp=>V.int (mostN x p.2:Nat)) hT1.sq (sl6 (by omega)) (λp hp H' Q' sm q'=>?_) λL2 H2 hL2 s2 e2=>?_⟩
  ·have hrow:=(hT1.same sm).r p hp;refine ⟨_,rfl,p.1,rfl,⟨_,hrow.sq⟩,Zbl V.int (λn=>decide (n<=x)) V.int hrow.sq (sl6 (by rw [g.len p hp];omega)) (λn _ H3 Q3 s3 q3=>⟨_,rfl,_,rfl,_,_,rfl,rfl,_,rfl,q3 _ (srf _)⟩) (λn _ _ H3 Q3 s3 q3=>⟨_,rfl,q3 _ (srf _)⟩) λD1 H3 hD1 s3 e3=>⟨D1,_,rfl,.inl (sqo e3),?_⟩⟩;rw [Yaa];exact q' H3 s3
  have r2:Row H2 L2 (ZgJ prs x):=by
   unfold Row ZgJ;rw [e2,Yau];rfl
  have hs:=Zao hg;have hT2:=hT1.same s2;refine ⟨_,rfl,_,rfl,t,prs,x,rfl,hT2,hs,hg,λD3 H3 hD3 s3 r3=>?_⟩;have r3:Row H3 D3 (lowR prs x):=r3;have r13:=(r1.same s2).same s3;refine ⟨_,rfl,_,_,r3.rd,r13.rd,ZaE _,ZaE _,_,rfl,?_⟩;rw [ZfE];refine iteF ⟨_,rfl,_,rfl,t,prs,x,rfl,hT2.same s3,hs,hg,λD4 H4 hD4 s4 r4=>?_⟩;have r4:Row H4 D4 (ZgJ prs x):=r4;have r24:=(r2.same s3).same s4;have r14:=r13.same s4;refine ⟨_,rfl,_,_,r4.rd,r24.rd,ZaE _,ZaE _,_,rfl,?_⟩;rw [ZfE];have s04:=s1.trans (s2.trans (s3.trans s4));have hT4:=hT.same s04;refine iteF ?_;refine Zhx ?_;dsimp only;refine ZdA (λN=>∀ v H5,Same H4 H5->((v=.non/\hasB prs x=true)\/(∃ D,v=.ref D/\hasB prs x=false/\Row H5 D (lowR prs x)))->N v H5) (λv H5 s5 hv=>ZdG ?_) (λtail=>?_)
  rotate_left
  ·refine ⟨_,rfl,_,rfl,t,prs,x,rfl,hT4,hg,λhb H5 s5=>tail _ H5 s5 (.inl ⟨rfl,hb⟩),λhb D5 H5 _ s5 r5=>tail _ H5 s5 (.inr ⟨D5,rfl,hb,r5⟩)⟩
  have r15:=r14.same s5;have r25:=r24.same s5;refine ZcL (λN=>N [some (.ref t),some (.int x),some (.int c),some (.ref L1),some (.ref L2),some v,none,none,none] H5) ?_ (λtail=>?_)
  rotate_left
  ·refine ⟨_,rfl,rfl,_,rfl,_,rfl,_,_,r15.rd,r25.rd,ZaE _,ZaE _,rfl,_,rfl,?_⟩;rw [ZcV];rcases hv with ⟨rfl,hb⟩ | ⟨D5,rfl,hb,r5⟩
   ·have e:decide (lowR prs x=ZgJ prs x)=false:=Ya5 λz=>by rw [low_high.mp z] at hb;cases hb
    rw [e];exact iteF ⟨_,rfl,rfl,_,rfl,iteF (iteF tail)⟩
   ·have e:decide (lowR prs x=ZgJ prs x)=true:=Ya4 (low_high.mpr hb);rw [e];refine iteF ⟨_,rfl,rfl,_,rfl,iteT ⟨_,rfl,_,rfl,_,_,r5.rd,r15.rd,ZaE _,ZaE _,_,rfl,?_⟩⟩;rw [ZfE];exact iteF tail
  refine ⟨_,rfl,by omega,by omega,ZaZ (λk σ H6=>∃ o6 o7 o8,σ = [some (.ref t),some (.int x),some (.int c),some (.ref L1),some (.ref L2),some v,o6,o7,o8]/\Same H5 H6) ⟨none,none,none,rfl,srf _⟩ ?_ ?_⟩
  rotate_left
  ·rintro σ H6 ⟨o6,o7,o8,rfl,s6⟩;exact q H6 (s04.trans (s5.trans s6))
  rintro k σ H6 hk ⟨o6,o7,o8,rfl,s6⟩;rw [Int.zero_add];have hk8:k<8:=hk;refine ⟨_,rfl,_,rfl,len2,λl1 hl1=>?_⟩;have s7:Same H6 (upd H6 l1 (.lst [.ref L1,.ref L2])):=snw hl1;have e7:SqL K (upd H6 l1 (.lst [.ref L1,.ref L2])) l1 [.ref L1,.ref L2]:=sqo Zac;generalize upd H6 l1 (.lst [.ref L1,.ref L2])=H7 at s7 e7 ⊢;have s57:=s6.trans s7;obtain ⟨A1,ks,hA,rA,hkl⟩:∃ A1 ks,atI [V.ref L1,.ref L2] ((k:Int) % 2)=some (.ref A1)/\Row H7 A1 ks/\ks.length=prs.length:=by
   rcases Nat.mod_two_eq_zero_or_one k with z | z
   ·exact ⟨L1,lowR prs x,by rw [show ((k:Int) % 2)=0 by omega];rfl,r15.same s57,Yaa _⟩
   ·exact ⟨L2,ZgJ prs x,by rw [show ((k:Int) % 2)=1 by omega];rfl,r25.same s57,Yaa _⟩
  refine ⟨_,rfl,_,_,rfl,rfl,by decide,l1,_,_,_,rfl,rfl,e7,hA,A1,_,rfl,.inl rA.sq,λB1 hB1=>?_⟩;have s8:Same H7 (upd H7 B1 (.lst (ks.map V.int))):=snw hB1;have r8:Row (upd H7 B1 (.lst (ks.map V.int))) B1 ks:=Zac;generalize upd H7 B1 (.lst (ks.map V.int))=H8 at s8 r8 ⊢;refine ⟨_,rfl,_,rfl,c,k,rfl,by omega,λv1 H9 v10 _ s9=>?_⟩;have r9:=r8.same s9;have g1':1<=prs.length:=g1;refine ⟨_,rfl,B1,_,rfl,.inl r9.sq,_,_,rfl,rfl,by rw [Yaa];omega,?_⟩;rw [Yaa];obtain ⟨a,ha,hal⟩:∃ a:Nat,v1 % ((ks.length:Nat):Int)=(a:Nat)/\a<ks.length:=by
   have h1:=Ybj v1 (show ((ks.length:Nat):Int)≠0 by omega);have h2:=Ybk v1 (show 0<((ks.length:Nat):Int) by omega);exact ⟨(v1 % ((ks.length:Nat):Int)).toNat,by omega,by omega⟩
  rw [ha];refine ⟨_,rfl,_,rfl,B1,_,_,_,rfl,rfl,r9.sq,ZaW hal,_,rfl,len4,λl2 hl2=>?_⟩;have s10:Same H9 (upd H9 l2 (.lst [.int (-1),.int 1,.int 0,.int 2])):=snw hl2;have e10:SqL K (upd H9 l2 (.lst [.int (-1),.int 1,.int 0,.int 2])) l2 [.int (-1),.int 1,.int 0,.int 2]:=sqo Zac;generalize upd H9 l2 (.lst [.int (-1),.int 1,.int 0,.int 2])=H10 at s10 e10 ⊢;refine ⟨_,rfl,_,rfl,_,_,rfl,rfl,c,20+k,rfl,by omega,λv2 H11 v20 _ s11=>?_⟩;obtain ⟨dd,hd⟩:=ZpC (a:=-1) (b:=1) (c:=0) (d:=2) v2.toNat;rw [Int.toNat_of_nonneg v20] at hd;have r11:=(r9.same s10).same s11;refine ⟨_,_,rfl,rfl,by decide,l2,_,_,_,rfl,rfl,s11.seq e10,hd,_,_,rfl,rfl,_,rfl,_,rfl,B1,_,_,a,rfl,rfl,r11,by rw [Yaa];exact ZqD hal,?_⟩;rw [Zmg];have B0:H7 B1=none:=hB1;have s711:=s8.trans (s9.trans (s10.trans s11));have s12:Same H7 (upd H11 B1 (.lst ((ks.set a (ks.getD a 0+dd)).map V.int))):=s711.upd B0;have r12:Row (upd H11 B1 (.lst ((ks.set a (ks.getD a 0+dd)).map V.int))) B1 (ks.set a (ks.getD a 0+dd)):=Zac;have hl12:(ks.set a (ks.getD a 0+dd)).length=prs.length:=by rw [YaK,hkl]
  generalize ks.set a (ks.getD a 0+dd)=ms at r12 hl12 s12 ⊢;generalize upd H11 B1 (.lst (ms.map V.int))=H12 at s12 r12 ⊢;dsimp only;refine ZcL (λN=>∀ ns H13,Same H7 H13->Row H13 B1 ns->ns.length<=10->N [some (.ref t),some (.int x),some (.int c),some (.ref L1),some (.ref L2),some v,some (.int (k:Nat)),some (.ref B1),some (.int (a:Nat))] H13) (λns H13 s13 r13 hn=>?_) (λtail=>?_)
  rotate_left
  ·refine ⟨_,rfl,rfl,_,rfl,ite2 (λ_=>?_) (λ_=>tail ms H12 s12 r12 (by omega))⟩;refine ⟨_,rfl,.inl ⟨rfl,_,r12.sq⟩,B1,_,_,rfl,rfl,r12,by rw [Yaa];exact Zav (by omega),?_⟩;refine tail (ms ++ [0]) _ (s12.upd B0) ?_ (by rw [Yak,YaI];omega);unfold Row;rw [Zac,Yah];rfl
  have s513:=s57.trans s13;have hT13:=hT4.same (s5.trans s513);refine ⟨_,rfl,_,rfl,_,rfl,t,prs,x,.ref B1,dRow ns,rfl,hT13,hg,ZoC r13,λb1 H14 hb1 s14=>?_⟩;refine ⟨_,rfl,_,rfl,_,rfl,t,B1,prs,x,ns,rfl,hT13.same s14,hg,r13.same s14,by omega,λb2 H15 hb2 s15=>⟨rfl,_,rfl,?_⟩⟩;have e:b1=b2:=by rw [Bool.eq_iff_iff,hb1,hb2]
  rw [e,Ya4 rfl];exact iteF ⟨_,_,_,rfl,s513.trans (s14.trans s15)⟩
end
open PySem L2 PyProof.Rows
def keyN (m:Nat):List (List Key):=(Zas 16 m).map (ZaY 4)
theorem Znk {a b:Nat} (h:keyN a=keyN b):Zas 16 a=Zas 16 b:=by
 unfold keyN at h;exact (List.map_inj_right λ_ _ z=>Zeg z).mp h
theorem ZfZ {kvs:List (List (List Key) × V)}{p:List (List Key) × V} (h:p∈kvs):∃ v,valV kvs p.1=some v:=by
 cases e:valV kvs p.1 with
 |some v=>exact ⟨v,rfl⟩
 |none=>exact absurd (Yar.mpr ⟨p,h,rfl⟩) (Ze5 e)
def AnsT (H:Hp) (v:V) (n:Nat) (c:Option (Nat × Nat)):Prop:=∃ T cv,v=.ref T/\H T=some (.tup [.int (n:Nat),cv])/\AnsP H cv c
theorem AnsP.tupS {H H':Hp}{v:V}{c:Option (Nat × Nat)} (h:AnsP H v c) (s:TupS H H'):AnsP H' v c:=by
 cases c with
 |none=>exact h
 |some c =>
  obtain ⟨b,e,hb⟩:=h;exact ⟨b,e,s _ _ hb⟩
theorem AnsT.tupS {H H':Hp}{v:V}{n:Nat}{c:Option (Nat × Nat)} (h:AnsT H v n c) (s:TupS H H'):AnsT H' v n c:=let ⟨T,cv,e,hT,hc⟩:=h;⟨T,cv,e,s _ _ hT,hc.tupS s⟩
def ansV (H:Hp) (v:V) (m:Nat):Prop:=AnsT H v (fw 4 (Zas 16 m)) ((bst 4 (Zas 16 m)).map (Zcb 4))
structure KnM (H:Hp) (kvs:List (List (List Key) × V)):Prop where
 nd:(kvs.map (·.1)).Nodup
 ok:∀ k v,valV kvs k=some v->∃ m:Nat,k=keyN m/\m<2 ^ 16/\ansV H v m
theorem KnM.nil (H:Hp):KnM H []:=⟨.nil,λk v e=>by cases e⟩
theorem KnM.tupS {H H':Hp}{kvs:List (List (List Key) × V)} (h:KnM H kvs) (s:TupS H H'):KnM H' kvs:=⟨h.nd,λk v e=>let ⟨m,a,b,c⟩:=h.ok k v e;⟨m,a,b,c.tupS s⟩⟩
theorem KnM.len {H:Hp}{kvs:List (List (List Key) × V)} (h:KnM H kvs):kvs.length<=2 ^ 16:=by
 have f:∀ k∈kvs.map (·.1),∃ m:Nat,k=keyN m/\m<2 ^ 16:=λk hk=>by
  obtain ⟨p,hp,rfl⟩:=Yar.mp hk;obtain ⟨v,e⟩:=ZfZ hp;obtain ⟨m,h1,h2,_⟩:=h.ok _ _ e;exact ⟨m,h1,h2⟩
 have key:∀ (l:List (List (List Key))),l.Nodup->(∀ k∈l,∃ m:Nat,k=keyN m/\m<2 ^ 16)->∃ ms:List Nat,ms.Nodup/\(∀ m∈ms,m<2 ^ 16)/\ms.map keyN=l:=by
  intro l
  induction l with
  |nil=>intro _ _;exact ⟨[],.nil,(λ_ z=>nomatch z),rfl⟩
  |cons k l ih =>
   intro n a;rw [Yba] at n;obtain ⟨ms,h1,h2,h3⟩:=ih n.2 λx hx=>a x (.tail _ hx);obtain ⟨m,e,hm⟩:=a k (.head _);refine ⟨m :: ms,Yba.mpr ⟨λz=>n.1 ?_,h1⟩,λx hx=>?_,by rw [Yaw,h3,e]⟩
   ·rw [<- h3,e];exact Yar.mpr ⟨m,z,rfl⟩
   ·rcases YaF.mp hx with z | z
    ·rw [z];exact hm
    ·exact h2 x z
 obtain ⟨ms,h1,h2,h3⟩:=key _ h.nd f;have:=Zpc (2 ^ 16) ms h1 h2;have e:=congrArg List.length h3;rw [Yaa,Yaa] at e;omega
theorem KnM.put {H:Hp}{kvs:List (List (List Key) × V)}{m:Nat}{x:V} (h:KnM H kvs) (hm:m<2 ^ 16) (hx:ansV H x m):KnM H (putK kvs (keyN m) x):=by
 refine ⟨?_,λk v e=>?_⟩
 ·cases hv:valV kvs (keyN m) with
  |none =>
   rw [Zfi _ hv,Yah];refine List.nodup_append.mpr ⟨h.nd,by simp,λa ha b hb z=>?_⟩;have hb:b=keyN m:=by simpa using hb
   subst hb z;obtain ⟨p,hp,e⟩:=Yar.mp ha;obtain ⟨v,e2⟩:=ZfZ hp;rw [e,hv] at e2;cases e2
  |some v =>
   have:(putK kvs (keyN m) x).map (·.1)=kvs.map (·.1):=by
    unfold putK;rw [Ya7 (by rw [Zbs,hv];rfl),Yau];refine List.map_congr_left λp hp=>?_;show (if p.1=_ then _ else p).1=p.1;split <;> rfl
   rw [this];exact h.nd
 ·rw [Zcq] at e
  by_cases hk:k=keyN m
  ·rw [Ya7 hk] at e;cases e;exact ⟨m,hk,hm,hx⟩
  ·rw [Ya6 hk] at e;exact h.ok k v e
theorem KnM.at {H:Hp}{kvs:List (List (List Key) × V)}{m:Nat}{v:V} (h:KnM H kvs) (e:valV kvs (keyN m)=some v):ansV H v m:=by
 obtain ⟨m',h1,_,h3⟩:=h.ok _ _ e;unfold ansV at h3 ⊢;rw [Znk h1];exact h3
def bsF (L:List Nat) (K:List Nat):Nat × Option Nat:=K.foldl (λs i=>if thr 4 L i<s.1 then (thr 4 L i,some i) else s) (L.length+1,none)
theorem ZfT (L K:List Nat) (i:Nat):bsF L (K ++ [i])=if thr 4 L i<(bsF L K).1 then (thr 4 L i,some i) else bsF L K:=by
 unfold bsF;rw [List.foldl_append];rfl
theorem ZqO {L:List Nat}:∀ (n:Nat) (K:List Nat),K.length=n+1->(∀ c∈K,c∈L)->(∃ c∈K,thr 4 L c=(bsF L K).1)/\(∀ c∈K,(bsF L K).1<=thr 4 L c)/\(bsF L K).2=K.find? λc=>decide (thr 4 L c=(bsF L K).1):=by
 intro n
 induction n with
 |zero =>
  intro K hK hL;obtain ⟨i,rfl⟩:=List.length_eq_one_iff.mp hK;have hi:=ZpJ (w:=4) (hL i (.head _));have e:bsF L [i]=(thr 4 L i,some i):=Ya7 (show thr 4 L i<L.length+1 by omega);rw [e];refine ⟨⟨i,.head _,rfl⟩,λc hc=>?_,?_⟩
  ·rw [YaJ.mp hc];exact Yag _
  ·simp
 |succ n ih =>
  intro K hK hL;obtain ⟨K',i,rfl⟩:∃ K' i,K=K' ++ [i]:=by
   have hne:K≠[]:=λz=>by rw [z] at hK;cases hK
   exact ⟨K.dropLast,K.getLast hne,(List.dropLast_concat_getLast hne).symm⟩
  rw [Yak,YaI] at hK;obtain ⟨⟨c0,h0,e0⟩,h1,h2⟩:=ih K' (by omega) λc hc=>hL c (YaA _ hc);rw [ZfT]
  by_cases hlt:thr 4 L i<(bsF L K').1
  ·rw [Ya7 hlt];refine ⟨⟨i,by simp,rfl⟩,λc hc=>?_,?_⟩
   ·rcases YaG.mp hc with z | z
    ·have:=h1 c z;show thr 4 L i<=_;omega
    ·rw [YaJ.mp z];exact Yag _
   ·rw [List.find?_append,List.find?_eq_none.mpr (λc hc z=>by
     have a:=of_decide_eq_true z;have b:=h1 c hc;have a:thr 4 L c=thr 4 L i:=a
     omega)]
    simp
  ·rw [Ya6 hlt];refine ⟨⟨c0,by simp [h0],e0⟩,λc hc=>?_,?_⟩
   ·rcases YaG.mp hc with z | z
    ·exact h1 c z
    ·rw [YaJ.mp z];omega
   ·rw [List.find?_append,<- h2];cases e:(bsF L K').2 with
    |some c=>rfl
    |none =>
     rw [e] at h2;have:=List.find?_eq_none.mp h2.symm c0 h0;rw [Ya4 e0] at this;exact absurd rfl this
theorem Zpz {L:List Nat} (h:L≠[]):bsF L L=(fw 4 L,bst 4 L):=by
 obtain ⟨⟨c,hc,ec⟩,h1,h2⟩:=ZqO (L:=L) (L.length - 1) L (by have:=List.length_pos_iff.mpr h;omega) λ_ z=>z;have e:(bsF L L).1=fw 4 L:=by
  rw [Zpi];refine ZkN (Yar.mpr ⟨c,hc,ec⟩) λa ha=>?_;obtain ⟨d,hd,rfl⟩:=Yar.mp ha;exact h1 d hd
 rw [e] at h2;exact Prod.ext e h2
open PySem L2 PyProof.Rows
structure Cls (H:Hp) (b:Addr) (ps:List (Nat × Addr)):Prop where
 t:H b=some (.tup (ps.map λp=>V.ref p.2))
 c:∀ p∈ps,H p.2=some (.tup ((ZaY 4 p.1).map kV))
theorem Cls.nt {H:Hp}{b:Addr}{ps:List (Nat × Addr)} (h:Cls H b ps):NT H b ((ps.map (·.1)).map (ZaY 4)):=by
 refine ⟨ps.map (·.2),by rw [Yau];exact h.t,?_⟩;have:=h.c;clear h
 induction ps with
 |nil=>exact .nil
 |cons p r ih=>exact .cons (this p (.head _)) (ih λq hq=>this q (.tail _ hq))
theorem Cls.keeps {H H':Hp}{b:Addr}{ps:List (Nat × Addr)} (h:Cls H b ps) (t:TupS H H'):Cls H' b ps:=⟨t _ _ h.t,λp hp=>t _ _ (h.c p hp)⟩
theorem Same.tupS {H H':Hp} (s:Same H H'):TupS H H':=λ_ _ e=>s _ _ e
theorem Za9 {P:Program}{w:World}{H H':Hp}{d:Addr}{kvs:List (List (List Key) × V)} (x:DN P w H d kvs) (s:Same H H'):DN P w H' d kvs:=x.keeps (let ⟨xs,e,_⟩:=x;by rw [s _ _ e,e]) (Same.tupS s)
theorem Zpo {P:Program}{w:World}{H:Hp}{d b:Addr}{kvs:List (List (List Key) × V)}{ys:List V} (x:DN P w H d kvs) (e:H b=some (.tup ys)):b≠d:=λz=>by
 obtain ⟨xs,e2,_⟩:=x;rw [<- z,e] at e2;cases e2
theorem ZfS {P:Program}{w:World}{H H':Hp}{d:Addr}{kvs:List (List (List Key) × V)} (B:But1 d H H') (x:DN P w H d kvs):TupS H H':=λb ys e=>B _ _ (Zpo x e) e
def celD (i:Nat):PyData:=.tuple [.int ((i / 4:Nat):Int),.int ((i % 4:Nat):Int)]
theorem Zfw:∀ cs:List Nat,PyData.canLayAll0 (cs.map celD)=true/\PyData.depthAll (cs.map celD)<=2
 | []=>⟨rfl,by simp [PyData.depthAll]⟩
 |c :: cs=>by
  have:=Zfw cs;refine ⟨by simp [PyData.canLayAll0,PyData.canLay0,celD,this.1],?_⟩;simp [PyData.depthAll,PyData.depth,celD];have:=this.2;omega
theorem Zb0 (cs:List Nat):SeqAt.shaped (.tuple (cs.map celD))=true:=by
 have h:=Zfw cs;unfold SeqAt.shaped;simp [PyData.canLay0,PyData.depth,h.1];omega
theorem Ziq (cs:List Nat):PyData.eqv (.tuple (cs.map celD)) (.tuple [])=cs.isEmpty:=by
 cases cs <;> simp [PyData.eqv,PyData.eqvAll]
theorem Cls.rd {K:Yab}{H:Hp}:∀ {ps:List (Nat × Addr)},(∀ p∈ps,H p.2=some (.tup ((ZaY 4 p.1).map kV)))->RdAll K H (ps.map λp=>V.ref p.2) ((ps.map (·.1)).map celD)
 | [],_=>.nil
 |p :: ps,h=>.cons (.tup (sqt (h p (.head _))) (.cons (.int _) (.cons (.int _) .nil))) (Cls.rd λq hq=>h q (.tail _ hq))
theorem Ziu {a b:Nat}:decide ((a:Int) > (b:Int))=decide (b<a):=ZcH
theorem ZfD {α:Type} (q:Nat->Bool):∀ ps:List (Nat × α),(ps.filter λp=>q p.1).map (·.1)=(ps.map (·.1)).filter q
 | []=>rfl
 |p :: ps=>by
  rw [List.filter_cons,Yaw,List.filter_cons];cases q p.1 <;> simp [ZfD q ps]
section
variable {P:Program}{w:World}{K:Yab}{mg:Str->Option Value}{base:Heap}
def spLm (P:Program) (w:World) (k:Nat):Sp:=λvs H Q _=>∃ (b d:Addr) (ps:List (Nat × Addr)) (m:Nat) (kvs:List (List (List Key) × V)),vs=[.ref b,.ref d]/\Cls H b ps/\ps.map (·.1)=Zas 16 m/\m<2 ^ 16/\ps.length<=k/\DN P w H d kvs/\KnM H kvs /\
 ∀ v kvs' H',But1 d H H'->DN P w H' d kvs'->KnM H' kvs'->ansV H' v m->Q v H'
abbrev lmN:List Str:=["cells","known","best","r","c","less","more","one","here"]
theorem sc_looks:FnScope lmN ["cells","known"] (Zad Zeu):=scm
theorem ZlF {H H1:Hp}{b l t:Addr}{ps:List (Nat × Addr)} (h:Cls H b ps) (q:Nat->Bool) (s:Same H H1) (ht:H1 t=none):Cls (upd H1 t (.tup ((ps.filter λp=>q p.1).map λp=>V.ref p.2))) t (ps.filter λp=>q p.1) :=
 ⟨Zac,λp hp=>by
  have e:=s _ _ (h.c p (List.mem_filter.mp hp).1);rw [Zag (Zai e ht)]
  exact e⟩
theorem ZpZ {k:Nat}{A:Around} (r:Room k A):A.units+9<cLine:=YaZ (Nat.add_le_add_left (by decide:9<=64) _) r.units
theorem Zqh (D:Zah K mg "_law_looks" Zeu ["cells","known"]):FnAt P w K mg base 1 "_law_looks" ["cells","known"] (spLm P w 0):=by
 refine fao D sc_looks (λvs H Q E h=>?_) (λf g A o s H vs Q E hr h=>?_)
 ·obtain ⟨b,d,ps,m,kvs,rfl,_⟩:=h;rfl
 ·obtain ⟨b,d,ps,m,kvs,rfl,hC,hm,hm2,hk,hD,hN,q⟩:=h;obtain rfl:ps=[]:=List.length_eq_zero_iff.mp (by omega);refine ⟨_,Zaa (Zbn (pcm (ZcG hr.units) (pv 0) (ZaD ZaT)) (Zaf (Zak (ZaD (Zab Zae (pa1 ZbK))))) ZaI) ZaX,?_⟩;refine ⟨_,rfl,sl6 (by decide),λt ht=>?_⟩;have s1:=snw (o:=.tup []) ht;refine ⟨.tuple (([]:List Nat).map celD),.tuple (([]:List Nat).map celD),.tup (sqt (s1 _ _ hC.t)) .nil,.tup (sqt Zac) .nil,Zb0 [],Zb0 [],_,rfl,?_⟩;rw [show PyData.eqv (.tuple (([]:List Nat).map celD)) (.tuple (([]:List Nat).map celD))=true from Ziq []];refine iteT ⟨len2,λT hT=>?_⟩;have s2:=s1.trans (snw (o:=.tup [.int 0,.non]) hT);refine q _ kvs _ (Same.but1 s2) (Za9 hD s2) (hN.tupS (Same.tupS s2)) ?_;unfold ansV;rw [<- hm];exact ⟨T,.non,rfl,Zac,rfl⟩
theorem Zqg (T:Blt mg) (htup:mg "tuple" = none) {k:Nat} (D:Zah K mg "_law_looks" Zeu ["cells","known"]) (G:FnAt P w K mg base (k+1) "_law_looks" ["cells","known"] (spLm P w k)):FnAt P w K mg base (k+2) "_law_looks" ["cells","known"] (spLm P w (k+1)):=by
 refine fao D sc_looks (λvs H Q E h=>?_) (λf g A o s H vs Q E hr h=>?_)
 ·obtain ⟨b,d,ps,m,kvs,rfl,_⟩:=h;rfl
 ·obtain ⟨b,d,ps,m,kvs,rfl,hC,hm,hm2,hk,hD,hN,q⟩:=h;have nd:=sc_looks.nd;have nd1:(["spot","c","r"]:List Str).Nodup:=by decide +kernel
  have hu9:=ZpZ hr;refine ⟨_,(Zaa (Zbn (pcm (ZcG hr.units) (pv 0) (ZaD ZaT)) (Zaf (Zak (ZaD (Zab Zae (pa1 ZbK))))) ZaI)
   (Zaa (Zbn (ZnX (ZoR hu9 (pv 0) (pv 1)))
    (Zaa (Zal (i:=2) nd rfl (Or.inl rfl) (ZaD (Zab (Zan Zby (pln T (pv 0)) Zae) (pa1 ZbK))))
   (Zaa (Zbi PassesOwn.never rfl (Zgk (pv 0)) (ZcR rfl (ZaS (Zax (i:=3) nd rfl (Or.inr rfl)) (ZaS (Zax (i:=4) nd rfl (Or.inr rfl)) Zb3)))
     (Zaa (Zb2 ["spot","c","r"] [none,some 4,some 3] (Zad Zeu) lmN (i:=5) nd rfl (Or.inl rfl) rfl (Zgk (pv 0)) (by decide +kernel) (λ_ _ _ _ _=>pg_c 0 nd1)
      (λ_ _ _ _ _=>ZaR (PW.pt (Zbv (pcm o_lt (pix (ixT K) (pv 0) Zae) (pv 2)) (Zbo (pcm o_lt (pix (ixT K) (pv 0) Zae) (pv 1)))))) (λ_ _ _ _ _=>pv 0))
   (Zaa (Zb2 ["spot","c","r"] [none,some 4,some 3] (Zad Zeu) lmN (i:=6) nd rfl (Or.inl rfl) rfl (Zgk (pv 0)) (by decide +kernel) (λ_ _ _ _ _=>pg_c 0 nd1)
      (λ_ _ _ _ _=>ZaR (PW.pt (Zbv (pcm o_gt (pix (ixT K) (pv 0) Zae) (pv 2)) (Zbo (pcm o_gt (pix (ixT K) (pv 0) Zae) (pv 1)))))) (λ_ _ _ _ _=>pv 0))
   (Zaa (Zal (i:=7) nd rfl (Or.inl rfl) (pix ZaJ (pe_f G hr (Zab (pe_t ZbE htup boot_tuple (pa1 (pv 5))) (pa1 (pv 1)))) Zae))
   (Zaa (Zal (i:=8) nd rfl (Or.inl rfl) (Zan Zby Zae (pe_b (ZbX rfl) T.max boot_max (Zab (pv 7) (pa1 (pix ZaJ (pe_f G hr (Zab (pe_t ZbE htup boot_tuple (pa1 (pv 6))) (pa1 (pv 1)))) Zae))))))
   (Zaf (Zbn (pcm o_lt (pv 8) (pix ZaJ (pv 2) Zae)) (Zaf (Zal (i:=2) nd rfl (Or.inl rfl) (ZaD (Zab (pv 8) (pa1 (ZaD (Zab (pv 3) (pa1 (pv 4))))))))) ZaI)))))))
   (Zaf (ZoG hu9 (pv 1) (pv 0) (pv 2) rfl)))) ZaI)
   (Zaf (Zak (ZoJ hu9 (pv 1) (pv 0) (λ_ _=>rfl)))))),?_⟩
  refine ⟨_,rfl,sl6 (by decide),λt ht=>?_⟩;have s1:Same H (upd H t (.tup [])):=snw ht;have e1:(upd H t (.tup [])) t=some (.tup []):=Zac;generalize upd H t (.tup [])=H1 at s1 e1 ⊢;refine ⟨.tuple ((ps.map (·.1)).map celD),.tuple [],.tup (sqt (s1 _ _ hC.t)) (Cls.rd λp hp=>s1 _ _ (hC.c p hp)),.tup (sqt e1) .nil,Zb0 _,Zb0 [],_,rfl,?_⟩;rw [Ziq];have hD1:=Za9 hD s1;have hC1:=hC.keeps (Same.tupS s1);have hN1:=hN.tupS (Same.tupS s1);cases hps:ps with
  |nil =>
   refine iteT ⟨len2,λT hT=>?_⟩;have s2:=s1.trans (snw (o:=.tup [.int 0,.non]) hT);refine q _ kvs _ (Same.but1 s2) (Za9 hD s2) (hN.tupS (Same.tupS s2)) ?_;unfold ansV;rw [<- hm,hps];exact ⟨T,.non,rfl,Zac,rfl⟩
  |cons p0 pr =>
   rw [<- hps];have hne:Zas 16 m≠[]:=by rw [<- hm,hps];simp
   rw [show (ps.map (·.1)).isEmpty=false by rw [hps];rfl];refine iteF (Zhx ?_);dsimp only;have hkey:(ps.map (·.1)).map (ZaY 4)=keyN m:=by rw [hm];rfl
   have hnt:∀ {H'},Cls H' b ps->NT H' b (keyN m):=λh=>by rw [<- hkey];exact h.nt
   refine ZcL (λN=>∀ v kv H' o2 o3 o4 o5 o6 o7 o8,But1 d H H'->DN P w H' d kv->KnM H' kv->valV kv (keyN m)=some v->Cls H' b ps->N [some (.ref b),some (.ref d),o2,o3,o4,o5,o6,o7,o8] H') (λv kv H' o2 o3 o4 o5 o6 o7 o8 B' D' N' hv C'=>?_) (λtail=>?_)
   ·exact ⟨_,rfl,_,rfl,d,b,kv,keyN m,_,rfl,rfl,D',hnt C',hv,q v kv H' B' D' N' (N'.at hv)⟩
   refine ⟨_,rfl,_,rfl,d,b,kvs,keyN m,rfl,rfl,hD1,hnt hC1,_,rfl,?_⟩;cases hv:valV kvs (keyN m) with
   |some v=>exact iteF (tail v kvs H1 _ _ _ _ _ _ _ (Same.but1 s1) hD1 hN1 hv hC1)
   |none =>
    have hLl:ps.length=(Zas 16 m).length:=by rw [<- hm,Yaa]
    refine iteT ⟨_,rfl,b,_,rfl,.inr (sqt hC1.t),_,_,rfl,rfl,len2,λT0 hT0=>?_⟩;rw [Yaa,show (((ps.length:Nat):Int)+1)=((((Zas 16 m).length+1:Nat)):Int) by omega];have s2:Same H1 (upd H1 T0 (.tup [.int (((Zas 16 m).length+1:Nat)),.non])):=snw hT0;have a2:AnsT (upd H1 T0 (.tup [.int (((Zas 16 m).length+1:Nat)),.non])) (.ref T0) ((Zas 16 m).length+1) none:=⟨T0,.non,rfl,Zac,rfl⟩;generalize upd H1 T0 (.tup [.int (((Zas 16 m).length+1:Nat)),.non])=H2 at s2 a2 ⊢;have hC2:=hC1.keeps (Same.tupS s2);have hD2:=Za9 hD1 s2;refine ⟨_,rfl,b,rfl,⟨_,sqt hC2.t⟩,Zpj (λi σ H'=>∃ vb o3 o4 o5 o6 o7 o8,σ = [some (.ref b),some (.ref d),some vb,o3,o4,o5,o6,o7,o8]/\AnsT H' vb (bsF (Zas 16 m) ((ps.take i).map (·.1))).1 ((bsF (Zas 16 m) ((ps.take i).map (·.1))).2.map (Zcb 4))/\But1 d H2 H'/\Cls H' b ps/\∃ kv,DN P w H' d kv/\KnM H' kv)
     ⟨_,none,none,none,none,none,none,rfl,a2,But1.refl _ _,hC2,kvs,hD2,hN1.tupS (Same.tupS s2)⟩ (λi σ H' _ h=>by obtain ⟨_,_,_,_,_,_,_,_,_,_,C',_⟩:=h;exact sqt C'.t) ?_ ?_⟩
    ·rintro i x σ H' hx ⟨vb,o3,o4,o5,o6,o7,o8,rfl,ha,B',C',kv,D',N'⟩;rw [Yaf] at hx;cases hp:ps[i]? with
     |none=>rw [hp] at hx;cases hx
     |some p =>
      rw [hp] at hx;have hx:V.ref p.2=x:=Yae hx;subst hx;have hpm:p∈ps:=YaP hp;have hpb:p.1∈Zas 16 m:=by rw [<- hm];exact Yar.mpr ⟨p,hpm,rfl⟩
      have cp:=C'.c p hpm;refine ⟨p.2,_,rfl,sqt cp,rfl,_,_,rfl,_,_,rfl,rfl,?_⟩;have hn16:ps.length<=sizeLine:=by
       have:=Zcp 16 m;exact sl6 (by omega)
      refine ⟨_,rfl,b,rfl,⟨_,sqt C'.t⟩,ZiF (ms:=ps) (λp=>V.ref p.2) (λp'=>lsI 4 p.1 p'.1) (λp'=>V.ref p'.2) (sqt C'.t) hn16 (λp' hp' H2' Q2 s2' q2=>?_) (λp' hp' _ H2' Q2 s2' q2=>⟨_,rfl,q2 _ (srf _)⟩) λl1 H2' hl1 s2' e5=>?_⟩
      ·refine ⟨_,rfl,p'.2,_,0,_,rfl,rfl,sqt (s2' _ _ (C'.c p' hp')),key0,_,rfl,_,_,rfl,rfl,_,rfl,?_⟩;have q3:=q2 H2' (srf _);unfold lsI at q3;rw [ZcH]
       by_cases h1:p'.1 / 4<p.1 / 4
       ·rw [Ya4 h1] at q3 ⊢;exact iteT q3
       ·rw [Ya5 h1,Bool.false_or] at q3;rw [Ya5 h1];refine iteF ⟨_,rfl,p'.2,_,1,_,rfl,rfl,sqt (s2' _ _ (C'.c p' hp')),key1,_,rfl,_,_,rfl,rfl,_,rfl,?_⟩;rw [ZcH];exact q3
      have C2:=C'.keeps (Same.tupS s2');refine ⟨_,rfl,b,rfl,⟨_,sqt C2.t⟩,ZiF (ms:=ps) (λp=>V.ref p.2) (λp'=>mrI 4 p.1 p'.1) (λp'=>V.ref p'.2) (sqt C2.t) hn16 (λp' hp' H3 Q3 s3 q3=>?_) (λp' hp' _ H3 Q3 s3 q3=>⟨_,rfl,q3 _ (srf _)⟩) λl2 H3 hl2 s3 e6=>?_⟩
      ·refine ⟨_,rfl,p'.2,_,0,_,rfl,rfl,sqt (s3 _ _ (C2.c p' hp')),key0,_,rfl,_,_,rfl,rfl,_,rfl,?_⟩;have q4:=q3 H3 (srf _);unfold mrI at q4;rw [Ziu]
       by_cases h1:p.1 / 4<p'.1 / 4
       ·rw [Ya4 h1] at q4 ⊢;exact iteT q4
       ·rw [Ya5 h1,Bool.false_or] at q4;rw [Ya5 h1];refine iteF ⟨_,rfl,p'.2,_,1,_,rfl,rfl,sqt (s3 _ _ (C2.c p' hp')),key1,_,rfl,_,_,rfl,rfl,_,rfl,?_⟩;rw [Ziu];exact q4
      have C3:=C2.keeps (Same.tupS s3);have D3:=Za9 (Za9 D' s2') s3;have e5':=s3 _ _ e5;have b1:Zas 16 (m &&& msum 16 (lsI 4 p.1))=(Zas 16 m).filter (lsI 4 p.1):=ZcA λj hj=>by rw [Zcv,Ya4 hj,Bool.true_and]
      have b2:Zas 16 (m &&& msum 16 (mrI 4 p.1))=(Zas 16 m).filter (mrI 4 p.1):=ZcA λj hj=>by rw [Zcv,Ya4 hj,Bool.true_and]
      have f1:(ps.filter λp'=>lsI 4 p.1 p'.1).map (·.1)=Zas 16 (m &&& msum 16 (lsI 4 p.1)):=by rw [ZfD,hm,b1]
      have f2:(ps.filter λp'=>mrI 4 p.1 p'.1).map (·.1)=Zas 16 (m &&& msum 16 (mrI 4 p.1)):=by rw [ZfD,hm,b2]
      have n1:=Zjj (w:=4) hpb;have n2:=Zjd (w:=4) hpb;have g1:=congrArg List.length f1;have g2:=congrArg List.length f2;rw [Yaa,b1] at g1;rw [Yaa,b2] at g2;refine ⟨_,rfl,l1,_,rfl,.inl ⟨sqo e5',λt1 ht1=>?_⟩⟩;have s4:Same H3 (upd H3 t1 (.tup ((ps.filter λp'=>lsI 4 p.1 p'.1).map λp'=>V.ref p'.2))):=snw ht1;have c4:=ZlF (l:=0) C3 (lsI 4 p.1) (srf _) ht1;generalize upd H3 t1 (.tup ((ps.filter λp'=>lsI 4 p.1 p'.1).map λp'=>V.ref p'.2))=H4 at s4 c4 ⊢;have s14:=s2'.trans (s3.trans s4);have N4:=N'.tupS (Same.tupS s14);have a4:=ha.tupS (Same.tupS s14);refine ⟨_,rfl,t1,d,_,m &&& msum 16 (lsI 4 p.1),kv,rfl,c4,f1,ZiK hm2,by omega,Za9 D3 s4,N4,λv5 kv5 H5 B5 D5 N5 A5=>?_⟩;obtain ⟨T5,w5,rfl,hT5,_⟩:=A5;rw [b1] at hT5;refine ⟨T5,_,0,_,rfl,rfl,sqt hT5,rfl,?_⟩;have nl2:l2≠d:=λz=>by
       obtain ⟨xs,e,_⟩:=Za9 D' s2';rw [z,e] at hl2;cases hl2
      have e6':=B5 _ _ nl2 (s4 _ _ e6);refine ⟨_,rfl,_,rfl,l2,_,rfl,.inl ⟨sqo e6',λt2 ht2=>?_⟩⟩;have tB5:=ZfS B5 (Za9 D3 s4);have C5:=(C3.keeps (Same.tupS s4)).keeps tB5;have a5:=a4.tupS tB5;have s6:Same H5 (upd H5 t2 (.tup ((ps.filter λp'=>mrI 4 p.1 p'.1).map λp'=>V.ref p'.2))):=snw ht2;have c6:=ZlF (l:=0) C5 (mrI 4 p.1) (srf _) ht2;generalize upd H5 t2 (.tup ((ps.filter λp'=>mrI 4 p.1 p'.1).map λp'=>V.ref p'.2))=H6 at s6 c6 ⊢;refine ⟨_,rfl,t2,d,_,m &&& msum 16 (mrI 4 p.1),kv5,rfl,c6,f2,ZiK hm2,by omega,Za9 D5 s6,N5.tupS (Same.tupS s6),λv7 kv7 H7 B7 D7 N7 A7=>?_⟩;obtain ⟨T7,w7,rfl,hT7,_⟩:=A7;rw [b2] at hT7;refine ⟨T7,_,0,_,rfl,rfl,sqt hT7,rfl,_,_,rfl,_,_,rfl,rfl,?_⟩;have tB7:=ZfS B7 (Za9 D5 s6);have C7:=(C5.keeps (Same.tupS s6)).keeps tB7;have a7:=(a5.tupS (Same.tupS s6)).tupS tB7;have B27:But1 d H2 H7:=B'.trans ((Same.but1 s14).trans (B5.trans ((Same.but1 s6).trans B7)));have eh:((1:Int)+if ((fw 4 ((Zas 16 m).filter (mrI 4 p.1)):Nat):Int) > ((fw 4 ((Zas 16 m).filter (lsI 4 p.1)):Nat):Int) then ((fw 4 ((Zas 16 m).filter (mrI 4 p.1)):Nat):Int) else ((fw 4 ((Zas 16 m).filter (lsI 4 p.1)):Nat):Int))=((thr 4 (Zas 16 m) p.1:Nat):Int):=by
       unfold thr;generalize fw 4 ((Zas 16 m).filter (mrI 4 p.1))=y;generalize fw 4 ((Zas 16 m).filter (lsI 4 p.1))=z;rw [Nat.max_def];split <;> split <;> omega
      rw [eh];have tk:(ps.take (i+1)).map (·.1)=(ps.take i).map (·.1) ++ [p.1]:=by
       rw [List.take_add_one,hp,Yah];rfl
      obtain ⟨Tb,cvb,rfl,hTb,hcb⟩:=a7;refine ⟨_,rfl,_,rfl,Tb,_,0,_,rfl,rfl,sqt hTb,rfl,_,_,rfl,rfl,_,rfl,?_⟩;rw [ZcH]
      by_cases hlt:thr 4 (Zas 16 m) p.1<(bsF (Zas 16 m) ((ps.take i).map (·.1))).1
      ·rw [Ya4 hlt];refine iteT ⟨_,rfl,_,rfl,_,rfl,len2,λU1 hU1=>⟨len2,λU2 hU2=>?_⟩⟩;have s8:Same H7 (upd H7 U1 (.tup ((ZaY 4 p.1).map kV))):=snw hU1;have e8:(upd H7 U1 (.tup ((ZaY 4 p.1).map kV))) U1=some (.tup ((ZaY 4 p.1).map kV)):=Zac;have hU2':(upd H7 U1 (.tup ((ZaY 4 p.1).map kV))) U2=none:=hU2;have s9:Same (upd H7 U1 (.tup ((ZaY 4 p.1).map kV))) (upd (upd H7 U1 (.tup ((ZaY 4 p.1).map kV))) U2 (.tup [.int ((thr 4 (Zas 16 m) p.1:Nat):Int),.ref U1])):=snw hU2';have e9:(upd (upd H7 U1 (.tup ((ZaY 4 p.1).map kV))) U2 (.tup [.int ((thr 4 (Zas 16 m) p.1:Nat):Int),.ref U1])) U2=some (.tup [.int ((thr 4 (Zas 16 m) p.1:Nat):Int),.ref U1]):=Zac;have s79:=s8.trans s9;refine ⟨.ref U2,_,_,_,_,_,_,rfl,?_,B27.trans (Same.but1 s79),C7.keeps (Same.tupS s79),kv7,Za9 D7 s79,N7.tupS (Same.tupS s79)⟩;rw [tk,ZfT,Ya7 hlt];exact ⟨U2,.ref U1,rfl,e9,U1,rfl,s9 _ _ e8⟩
      ·rw [Ya5 hlt];refine iteF ⟨.ref Tb,_,_,_,_,_,_,rfl,?_,B27,C7,kv7,D7,N7⟩;rw [tk,ZfT,Ya6 hlt];exact ⟨Tb,cvb,rfl,hTb,hcb⟩
    ·rintro σ H' ⟨vb,o3,o4,o5,o6,o7,o8,rfl,ha,B',C',kv,D',N'⟩;have hz:kv.length<sizeLine:=by
      have h1:=N'.len;rw [sizeLine_eq];have e:2 ^ 16=65536:=by decide
      omega
     rw [Yaa,List.take_length,hm,Zpz hne] at ha;refine ⟨_,rfl,_,rfl,_,rfl,d,b,kv,keyN m,rfl,rfl,D',hnt C',hz,λH4 e4 D4=>?_⟩;have B4:But1 d H' H4:=λc o n e=>by rw [e4 c n];exact e
     have t4:=ZfS B4 D';exact tail vb _ _ _ _ _ _ _ _ _ ((Same.but1 s1).trans ((Same.but1 s2).trans (B'.trans B4))) D4 ((N'.put hm2 ha).tupS t4) (by rw [Zcq,Ya7 rfl]) (C'.keeps t4)
theorem Zqi (T:Blt mg) (htup:mg "tuple" = none) (D:Zah K mg "_law_looks" Zeu ["cells","known"]):∀ k,FnAt P w K mg base (k+1) "_law_looks" ["cells","known"] (spLm P w k)
 | 0=>Zqh D
 |k+1=>Zqg T htup D (Zqi T htup D k)
end
open PySem L2 PyProof.Rows
theorem StairP.dn {r p:Nat}{ns:List Int} (h:StairP r p ns) {i k:Nat} (hik:i<=k) (hk:k<r):ns.getD k 0<=ns.getD i 0:=by
 induction k with
 |zero =>
  obtain rfl:i=0:=by omega
  exact Int.le_refl _
 |succ k ih =>
  rcases Nat.lt_or_ge k i with z | z
  ·obtain rfl:i=k+1:=by omega
   exact Int.le_refl _
  ·exact Int.le_trans (h.down k (by rw [h.len];exact hk)) (ih z (by omega))
theorem mem_opn {r p:Nat}{ls hs:List Int}{c:Nat}:c∈opnL r p ls hs ↔ c<r * p/\ls.getD (c / p) 0<=((c % p:Nat):Int)/\((c % p:Nat):Int)<hs.getD (c / p) 0:=by
 unfold opnL opnB;rw [List.mem_filter,List.mem_range,Yaj,decide_eq_true_iff,decide_eq_true_iff]
theorem Zhk {r p c:Nat} (hp:1<=p) (h:c<r * p):c / p<r/\c % p<p:=⟨(Nat.div_lt_iff_lt_mul hp).mpr h,Nat.mod_lt _ hp⟩
theorem ZmK {r p:Nat}{ls hs:List Int} (S:TwoSt r p ls hs) (hp:1<=p) {i j:Nat}{c:Nat} (hc:c / p=i/\c % p=j):opnL r p ls (halL hs i j)=(opnL r p ls hs).filter (lsI p c):=by
 unfold opnL;rw [List.filter_filter];refine List.filter_congr λo ho=>?_;obtain ⟨o1,o2⟩:=Zhk hp (List.mem_range.mp ho);unfold opnB lsI;rw [hc.1,hc.2,ZfA (by rw [S.hi.len];exact o1)];unfold hal;rw [Bool.eq_iff_iff];simp only [Yaj,Bool.or_eq_true,decide_eq_true_eq];split
 ·split <;> omega
 ·omega
theorem Zp9 {r p:Nat}{ls hs:List Int} (S:TwoSt r p ls hs) (hp:1<=p) {i j:Nat}{c:Nat} (hc:c / p=i/\c % p=j):opnL r p (lagL ls i j) hs=(opnL r p ls hs).filter (mrI p c):=by
 unfold opnL;rw [List.filter_filter];refine List.filter_congr λo ho=>?_;obtain ⟨o1,o2⟩:=Zhk hp (List.mem_range.mp ho);unfold opnB mrI;rw [hc.1,hc.2,Zfx (by rw [S.lo.len];exact o1)];unfold lag;rw [Bool.eq_iff_iff];simp only [Yaj,Bool.or_eq_true,decide_eq_true_eq];split
 ·split <;> omega
 ·omega
theorem Zl7 {r p:Nat}{ls hs:List Int} (S:TwoSt r p ls hs) {i j:Nat} (hi:i<r) (h1:ls.getD i 0<=(j:Int)) (h2:(j:Int)<hs.getD i 0):TwoSt r p ls (halL hs i j):=by
 have hl:(halL hs i j).length=hs.length:=by unfold halL;rw [Yaa,List.length_range]
 refine ⟨S.lo,⟨by rw [hl,S.hi.len],λn hn=>?_,λk hk=>?_⟩,λk hk=>?_⟩
 ·unfold halL at hn;obtain ⟨k,hk,rfl⟩:=Yar.mp hn;have hk:=List.mem_range.mp hk;rw [S.hi.len] at hk;have:=S.hi.at hk;unfold hal;split
  ·split <;> omega
  ·exact this
 ·rw [hl] at hk;rw [ZfA hk,ZfA (by omega)];have:=S.hi.down k hk;unfold hal
  repeat' split
  all_goals omega
 ·rw [ZfA (by rw [S.hi.len];exact hk)];have a:=S.le k hk;unfold hal;split
  ·rename_i z
   have:=S.lo.dn z hk;split <;> omega
  ·exact a
theorem ZpH {r p:Nat}{ls hs:List Int} (S:TwoSt r p ls hs) {i j:Nat} (hi:i<r) (h1:ls.getD i 0<=(j:Int)) (h2:(j:Int)<hs.getD i 0):TwoSt r p (lagL ls i j) hs:=by
 have hl:(lagL ls i j).length=ls.length:=by unfold lagL;rw [Yaa,List.length_range]
 have hj:=(S.hi.at hi).2;refine ⟨⟨by rw [hl,S.lo.len],λn hn=>?_,λk hk=>?_⟩,S.hi,λk hk=>?_⟩
 ·unfold lagL at hn;obtain ⟨k,hk,rfl⟩:=Yar.mp hn;have hk:=List.mem_range.mp hk;rw [S.lo.len] at hk;have:=S.lo.at hk;unfold lag;split
  ·split <;> omega
  ·exact this
 ·rw [hl] at hk;rw [Zfx hk,Zfx (by omega)];have:=S.lo.down k hk;unfold lag
  repeat' split
  all_goals omega
 ·rw [Zfx (by rw [S.lo.len];exact hk)];have a:=S.le k hk;unfold lag;split
  ·rename_i z
   have:=S.hi.dn z hi;split <;> omega
  ·exact a
open PySem L2 PyProof.Rows
def S4 (r p:Nat) (ls hs:List Int) (s:Nat):Bool:=(decide (s / 4<r) && decide (s % 4<p)) && opnB ls hs (s / 4) (s % 4)
theorem opn4 {r p:Nat} (hr:r<=4) (p1:1<=p) (p4:p<=4) (ls hs:List Int):(opnL r p ls hs).map (phi p)=(List.range 16).filter (S4 r p ls hs):=by
 have h:=Zq4 ⟨r,by omega⟩ ⟨p,by omega⟩ p1;have e:(opnL r p ls hs).map (phi p)=((List.range (r * p)).map (phi p)).filter λs=>opnB ls hs (s / 4) (s % 4):=by
  rw [Za4];unfold opnL
  congr 2
  funext i
  rw [(ZbP p1 p4 i).1,(ZbP p1 p4 i).2]
 rw [e];have h:(List.range (r * p)).map (phi p)=(List.range 16).filter λs=>decide (s / 4<r) && decide (s % 4<p):=h;rw [h,List.filter_filter]
 congr 1
 funext s
 unfold S4;rw [Bool.and_comm]
def mOf (r p:Nat) (ls hs:List Int):Nat:=msum 16 (S4 r p ls hs)
theorem ZdN {r p:Nat} (hr:r<=4) (p1:1<=p) (p4:p<=4) (ls hs:List Int):Zas 16 (mOf r p ls hs)=(opnL r p ls hs).map (phi p):=by
 rw [opn4 hr p1 p4];exact Zdq _ _
theorem Zoa {r p:Nat} (hr:r<=4) (p1:1<=p) (p4:p<=4) (ls hs:List Int):fw 4 (Zas 16 (mOf r p ls hs))=fw p (opnL r p ls hs):=by
 rw [ZdN hr p1 p4];exact Zim (ZbP p1 p4) _
theorem Zpy {r p:Nat} (hr:r<=4) (p1:1<=p) (p4:p<=4) (ls hs:List Int):(bst 4 (Zas 16 (mOf r p ls hs))).map (Zcb 4)=(bst p (opnL r p ls hs)).map (Zcb p):=by
 rw [ZdN hr p1 p4];exact Zpx (ZbP p1 p4) _
theorem Zqt {p:Nat} (p1:1<=p) (p4:p<=4) (L:List Nat) (c:Nat):(L.map (phi p)).filter (lsI 4 (phi p c))=(L.filter (lsI p c)).map (phi p):=by
 rw [Za4]
 congr 2
 funext o
 unfold lsI;rw [(ZbP p1 p4 o).1,(ZbP p1 p4 o).2,(ZbP p1 p4 c).1,(ZbP p1 p4 c).2]
theorem Zqq {p:Nat} (p1:1<=p) (p4:p<=4) (L:List Nat) (c:Nat):(L.map (phi p)).filter (mrI 4 (phi p c))=(L.filter (mrI p c)).map (phi p):=by
 rw [Za4]
 congr 2
 funext o
 unfold mrI;rw [(ZbP p1 p4 o).1,(ZbP p1 p4 o).2,(ZbP p1 p4 c).1,(ZbP p1 p4 c).2]
def Zfg (ls hs:List Int) (r:Nat):List (Nat × Nat):=(List.range r).flatMap λa=>(List.range (hs.getD a 0 - ls.getD a 0).toNat).map λj=>(a,(ls.getD a 0).toNat+j)
theorem ZeO (ls hs:List Int) (r:Nat):Zfg ls hs (r+1)=Zfg ls hs r ++ (List.range (hs.getD r 0 - ls.getD r 0).toNat).map λj=>(r,(ls.getD r 0).toNat+j):=by
 unfold Zfg;rw [List.range_succ,List.flatMap_append];simp
theorem row4:∀ l h:Fin 5,l.val<=h.val->((List.range 4).filter λq=>decide (l.val<=q) && decide (q<h.val))=(List.range (h.val - l.val)).map λj=>l.val+j:=by decide
theorem Zp3:List.range 16=(List.range 4).flatMap λa=>(List.range 4).map λq=>4 * a+q:=by decide
theorem Zdg {α β:Type}{f g:α->List β}:∀ {l:List α},(∀ a∈l,f a=g a)->l.flatMap f=l.flatMap g
 | [],_=>rfl
 |a :: l,h=>by rw [List.flatMap_cons,List.flatMap_cons,h a (.head _),Zdg λb hb=>h b (.tail _ hb)]
theorem ZhD {α:Type} (f:Nat->List α) {r n:Nat} (hr:r<=n) (h:∀ a,r<=a->f a=[]):(List.range n).flatMap f=(List.range r).flatMap f:=by
 induction n with
 |zero=>rw [show r=0 by omega]
 |succ n ih =>
  rcases Nat.lt_or_ge n r with z | z
  ·rw [show r=n+1 by omega]
  ·rw [List.range_succ,List.flatMap_append,ih z];simp [h n z]
theorem Zh5 {r p:Nat} (hr:r<=4) (p1:1<=p) (p4:p<=4) {ls hs:List Int} (S:TwoSt r p ls hs):Zfg ls hs r=((opnL r p ls hs).map (phi p)).map (Zcb 4):=by
 rw [opn4 hr p1 p4,Zp3,List.filter_flatMap,List.map_flatMap];rw [ZhD _ hr]
 ·unfold Zfg;refine Zdg λa ha=>?_;have ha:=List.mem_range.mp ha;obtain ⟨l0,l1⟩:=S.lo.at ha;obtain ⟨h0,h1⟩:=S.hi.at ha;have hle:=S.le a ha;obtain ⟨l,hl⟩:∃ l:Nat,ls.getD a 0=(l:Nat):=⟨(ls.getD a 0).toNat,by omega⟩;obtain ⟨h,hh⟩:∃ h:Nat,hs.getD a 0=(h:Nat):=⟨(hs.getD a 0).toNat,by omega⟩;have key:=row4 ⟨l,by omega⟩ ⟨h,by omega⟩ (show l<=h by omega);have key:((List.range 4).filter λq=>decide (l<=q) && decide (q<h))=(List.range (h - l)).map λj=>l+j:=key;rw [hl,hh,Yav,show (((h:Nat):Int) - ((l:Nat):Int)).toNat=h - l by omega,Za4,Yau];have e:((List.range 4).filter λq=>S4 r p ls hs (4 * a+q))=(List.range 4).filter λq=>decide (l<=q) && decide (q<h):=by
   refine List.filter_congr λq hq=>?_;have hq:=List.mem_range.mp hq;unfold S4 opnB;rw [show (4 * a+q) / 4=a by omega,show (4 * a+q) % 4=q by omega,hl,hh,Ya4 ha];rw [Bool.eq_iff_iff];simp only [Yaj,decide_eq_true_eq,Bool.true_and];omega
  rw [e,key,Yau];refine List.map_congr_left λj hj=>?_;have hj:=List.mem_range.mp hj;show (a,l+j)=((4 * a+(l+j)) / 4,(4 * a+(l+j)) % 4);rw [show (4 * a+(l+j)) / 4=a by omega,show (4 * a+(l+j)) % 4=l+j by omega]
 ·intro a ha;rw [List.map_eq_nil_iff,List.filter_eq_nil_iff];intro s hs';obtain ⟨q,hq,rfl⟩:=Yar.mp hs';have hq:=List.mem_range.mp hq;unfold S4;rw [show (4 * a+q) / 4=a by omega,Ya5 (show ¬ a<r by omega)];simp
theorem Zmx (r p:Nat) (hr:r<=4) (p1:1<=p) (p4:p<=4):ZbC r p=((allL r p).map (phi p)).map (Zcb 4):=by
 unfold allL;rw [<- Zh5 hr p1 p4 (Zg8 (by omega) (by omega) (by omega))];unfold ZbC Zfg;refine Zdg λa ha=>?_;have ha:=List.mem_range.mp ha;rw [Yat,Yat,List.getElem?_replicate,List.getElem?_replicate,Ya7 ha,Ya7 ha];show _=(List.range (((p:Nat):Int) - 0).toNat).map λj=>(a,(0:Int).toNat+j);rw [show (((p:Nat):Int) - 0).toNat=p by omega];refine List.map_congr_left λj _=>?_;rw [show (0:Int).toNat+j=j by omega]
open PySem L2 PyProof.Rows
theorem ZdF (cs:List Nat):SeqAt.shaped (.list (cs.map celD))=true:=by
 have h:=Zfw cs;unfold SeqAt.shaped;simp [PyData.canLay0,PyData.depth,h.1];omega
theorem Znr (cs:List Nat):PyData.eqv (.list (cs.map celD)) (.list [])=cs.isEmpty:=by
 cases cs <;> simp [PyData.eqv,PyData.eqvAll]
theorem Zir:∀ cs:List Nat,PyData.eqvAll (cs.map celD) (cs.map celD)=true
 | []=>by simp [PyData.eqvAll]
 |c :: cs=>by
  have h:=Zir cs;simp [PyData.eqvAll,PyData.eqv,celD] at h ⊢;exact h
theorem Znq (cs:List Nat):PyData.eqv (.list (cs.map celD)) (.list (cs.map celD))=true:=by
 simp only [PyData.eqv];exact Zir cs
theorem ZgZ {a b:Nat} (h:Zcb 4 a=Zcb 4 b):a=b:=by
 unfold Zcb at h;injection h with h1 h2;omega
theorem Zn9 {a j:Nat} (hj:j<4):(ZaY 4 (4 * a+j)).map kV=[V.int (a:Nat),.int (j:Nat)]:=by
 unfold ZaY;rw [show (4 * a+j) / 4=a by omega,show (4 * a+j) % 4=j by omega];rfl
theorem Zgh {ls hs:List Int}:∀ {r:Nat},(∀ a,a<r->hs.getD a 0 - ls.getD a 0<=4)->(Zfg ls hs r).length<=4 * r
 | 0,_=>by simp [Zfg]
 |r+1,h=>by
  have:=Zgh (r:=r) λa ha=>h a (by omega);have:=h r (by omega);rw [ZeO,Yak,Yaa,List.length_range];omega
structure PL (H:Hp) (L:Addr) (ps:List (Nat × Addr)):Prop where
 l:H L=some (.lst (ps.map λq=>V.ref q.2))
 c:∀ q∈ps,H q.2=some (.tup ((ZaY 4 q.1).map kV))
theorem PL.same {H H':Hp}{L:Addr}{ps:List (Nat × Addr)} (h:PL H L ps) (s:Same H H'):PL H' L ps:=⟨s _ _ h.l,λq hq=>s _ _ (h.c q hq)⟩
theorem ZjF {H:Hp}{b M:Addr}{xs ys:List V} (h1:H b=some (.tup xs)) (h2:H M=some (.lst ys)):b≠M:=Zhy h1 h2 (by intro z;cases z)
theorem PL.grow {H:Hp}{L:Addr}{ps qs:List (Nat × Addr)} (h:PL H L ps) (hq:∀ q∈qs,H q.2=some (.tup ((ZaY 4 q.1).map kV))):PL (upd H L (.lst ((ps.map λq=>V.ref q.2) ++ qs.map λq=>V.ref q.2))) L (ps ++ qs) :=
 ⟨by rw [Zac,Yah],λq hq'=>by
  have:H q.2=some (.tup ((ZaY 4 q.1).map kV)):=(YaG.mp hq').elim (h.c q) (hq q);rw [Zag (ZjF this h.l)]
  exact this⟩
theorem PL.rd {K:Yab}{H:Hp}{L:Addr}{ps:List (Nat × Addr)} (h:PL H L ps):RdD K H (.ref L) (.list ((ps.map (·.1)).map celD)):=.lst (sqo h.l) (Cls.rd h.c)
structure LG (P:Program) (w:World) (r p:Nat) (kn CLa LO HI:Addr) (H0 H:Hp) (ls hs:List Int) (ps:List (Nat × Addr)) (kv:List (List (List Key) × V)):Prop where
 sm:Same H0 H
 lo:Row H LO ls
 hi:Row H HI hs
 two:TwoSt r p ls hs
 cl:H CLa=some (.lst (ps.map λq=>V.ref q.2))
 ct:∀ q∈ps,H q.2=some (.tup ((ZaY 4 q.1).map kV))
 eq:ps.map (·.1)=(opnL r p ls hs).map (phi p)
 dn:DN P w H kn kv
 km:KnM H kv
section
variable {P:Program}{w:World}{r p:Nat}{kn CLa LO HI:Addr}{H0 H H':Hp}{ls hs:List Int}{ps:List (Nat × Addr)}{kv kv':List (List (List Key) × V)}
theorem LG.same (h:LG P w r p kn CLa LO HI H0 H ls hs ps kv) (s:Same H H'):LG P w r p kn CLa LO HI H0 H' ls hs ps kv :=
 ⟨h.sm.trans s,h.lo.same s,h.hi.same s,h.two,s _ _ h.cl,λq hq=>s _ _ (h.ct q hq),h.eq,Za9 h.dn s,h.km.tupS (Same.tupS s)⟩
theorem ZgQ {d b:Addr}{kvs:List (List (List Key) × V)}{ys:List V} (x:DN P w H d kvs) (e:H b=some (.lst ys)):b≠d:=λz=>by
 obtain ⟨xs,e2,_⟩:=x;rw [<- z,e] at e2;cases e2
theorem LG.but (h:LG P w r p kn CLa LO HI H0 H ls hs ps kv) (k0:H0 kn=none) (B:But1 kn H H') (d':DN P w H' kn kv') (m':KnM H' kv'):LG P w r p kn CLa LO HI H0 H' ls hs ps kv' :=
 ⟨λb o e=>B _ _ (Zai e k0) (h.sm _ _ e),B _ _ (ZgQ h.dn h.lo) h.lo,B _ _ (ZgQ h.dn h.hi) h.hi,h.two,B _ _ (ZgQ h.dn h.cl) h.cl,λq hq=>B _ _ (Zpo h.dn (h.ct q hq)) (h.ct q hq),h.eq,d',m'⟩
theorem LG.len (h:LG P w r p kn CLa LO HI H0 H ls hs ps kv) (hr:r<=4) (hp:p<=4):ps.length<=16:=by
 have e:=congrArg List.length h.eq;rw [Yaa,Yaa] at e;have:(opnL r p ls hs).length<=r * p:=by
  unfold opnL;refine Yay (Ybm _ _) ?_;rw [List.length_range];exact Yag _
 have:=Nat.mul_le_mul hr hp;omega
theorem LG.ctD (h:LG P w r p kn CLa LO HI H0 H ls hs ps kv) {K:Yab}:RdD K H (.ref CLa) (.list ((ps.map (·.1)).map celD)):=.lst (sqo h.cl) (Cls.rd h.ct)
end
section
variable {P:Program}{w:World}{K:Yab}{mg:Str->Option Value}{base:Heap}
def ZpV:Sp:=λvs H Q _=>∃ (r p:Nat) (c:Int),vs=[.int (r:Nat),.int (p:Nat),.int c]/\1<=r/\r<=4/\1<=p/\p<=4/\∀ H',Same H H'->Q (.bl true) H'
abbrev lgN:List Str:=["r","p","cell","known","cells","a","low","high","k","due","at","word","told","left","b","ahead","behind","here"]
theorem sc_looksG:FnScope lgN ["r","p","cell"] (Zad Zet):=scm
inductive LgA (P:Program) (w:World) (H:Hp) (r p:Nat) (c:Int) (kn Ca:Addr) (i:Nat) (σ:L2.St) (H2:Hp):Prop
 |mk (ps:List (Nat × Addr)) (o5:Option V) (h1:σ = [some (.int (r:Nat)),some (.int (p:Nat)),some (.int c),some (.ref kn),some (.ref Ca),o5,none,none,none,none,none,none,none,none,none,none,none,none]) (h2:Same H H2) (h3:PL H2 Ca ps) (h4:DN P w H2 kn []) (h5:ps.map (λq=>Zcb 4 q.1)=ZbC i p):LgA P w H r p c kn Ca i σ H2
inductive LgB (P:Program) (w:World) (H:Hp) (r p:Nat) (c:Int) (kn:Addr) (σ:L2.St) (H1:Hp):Prop
 |mk (Cb LP HP:Addr) (ls hs:List Int) (qs:List (Nat × Addr)) (kv:List (List (List Key) × V)) (o5 o8 o9 oa ob oc od oe of og oh:Option V) (h1:σ = [some (.int (r:Nat)),some (.int (p:Nat)),some (.int c),some (.ref kn),some (.ref Cb),o5,some (.ref LP),some (.ref HP),o8,o9,oa,ob,oc,od,oe,of,og,oh]) (h2:LG P w r p kn Cb LP HP H H1 ls hs qs kv):LgB P w H r p c kn σ H1
inductive LgC (J11:Hp) (r p k:Nat) (c:Int) (kn Cb LP HP T2 qa T11 LF:Addr) (wd:Str) (oh:Option V) (qs:List (Nat × Addr)) (pr:Nat->Bool) (i:Nat) (σ:L2.St) (J:Hp):Prop
 |mk (us:List (Nat × Addr)) (o5 oe of og:Option V) (h1:σ = [some (.int (r:Nat)),some (.int (p:Nat)),some (.int c),some (.ref kn),some (.ref Cb),o5,some (.ref LP),some (.ref HP),some (.int (k:Nat)),some (.ref T2),some (.ref qa),some (.str wd),some (.ref T11),some (.ref LF),oe,of,og,oh]) (h2:Same J11 J) (h3:PL J LF us) (h4:us.map (·.1)=((qs.take i).map (·.1)).filter pr):LgC J11 r p k c kn Cb LP HP T2 qa T11 LF wd oh qs pr i σ J
inductive LgD (J:Hp) (r p k:Nat) (c:Int) (kn LF A11 B11 T2 qa T11 HE:Addr) (wd:Str) (oe of og:Option V) (lt ht:List Int) (i:Nat) (σ:L2.St) (M:Hp):Prop
 |mk (ws:List (Nat × Addr)) (o5:Option V) (h1:σ = [some (.int (r:Nat)),some (.int (p:Nat)),some (.int c),some (.ref kn),some (.ref LF),o5,some (.ref A11),some (.ref B11),some (.int (k:Nat)),some (.ref T2),some (.ref qa),some (.str wd),some (.ref T11),some (.ref LF),oe,of,og,some (.ref HE)]) (h2:Same J M) (h3:PL M HE ws) (h4:ws.map (λq=>Zcb 4 q.1)=Zfg lt ht i):LgD J r p k c kn LF A11 B11 T2 qa T11 HE wd oe of og lt ht i σ M
theorem Zkv (T:Blt mg) (htup:mg "tuple" = none) (D:Zah K mg "_law_looks_good" Zet ["r","p","cell"]) (G0:FnAt P w K mg base 1 "_law_mixed" ["cell","k"] ZdT) (G1:FnAt P w K mg base 17 "_law_looks" ["cells","known"] (spLm P w 16)) (G2:FnAt P w K mg base 36 "fewest_looks" ["r","p"] Zf6) (G3:FnAt P w K mg base 35 "looks_left" ["r","p","low","high"] ZcJ)
  (G4:FnAt P w K mg base 36 "best_look" ["r","p","low","high"] ZnT) (G5:FnAt P w K mg base 5 "open_after" ["r","p","low","high","cell","word"] ZdR):FnAt P w K mg base 37 "_law_looks_good" ["r","p","cell"] ZpV:=by
 refine fao D sc_looksG (λvs H Q E h=>?_) (λf g A o s H vs Q E hr h=>?_)
 ·obtain ⟨r,p,c,rfl,_⟩:=h;rfl
 ·obtain ⟨r,p,c,rfl,r1,r4,p1,p4,q⟩:=h;have nd:=sc_looksG.nd;have nd1:(["b","a"]:List Str).Nodup:=by decide +kernel
  have hr1:Room 1 _:=hr.mono (show 1<=36 by decide);have hr5:Room 5 _:=hr.mono (show 5<=36 by decide);have hr17:Room 17 _:=hr.mono (show 17<=36 by decide);have hr35:Room 35 _:=hr.mono (show 35<=36 by decide);refine ⟨_,(Zaa (Zal (i:=3) nd rfl (Or.inl rfl) ZoI)
   (Zaa (Zal (i:=4) nd rfl (Or.inl rfl) (ZaN ZaT))
   (Zaa (Zbi PassesOwn.never rfl (ZaG rfl T.rng (pa1 (pv 0))) (Zax (i:=5) nd rfl (Or.inr rfl))
    (Zaf (Zaq (ZcK YaS PySem.F.slot_list_extend PySem.F.type_list_extend Zck (pv 4) (Zab
     (Zar ["b","a"] [none,some 5] (Zad Zet) lgN rfl (ZaG rfl T.rng (pa1 (pv 1))) (by decide +kernel) (λ_ _ _ _ _=>pg_c 0 nd1) (λ_ _ _ _ _=>Zam) (λ_ _ _ _ _=>ZaD (Zab (pv 1) (pa1 (pv 0))))) ZaT)))))
   (Zaa (pifF (pcm ZcE (pe_f G2 hr (Zab (pv 0) (pa1 (pv 1)))) (pix ZaJ (pe_f G1 hr17 (Zab (pe_t ZbE htup boot_tuple (pa1 (pv 4))) (pa1 (pv 3)))) Zae)))
   (Zaa (Zib (i:=6) (j:=7) rfl nd rfl rfl (by decide) rfl rfl (Zab (Zan Zid (ZaN (pa1 Zae)) (pv 0)) (pa1 (Zan Zid (ZaN (pa1 (pv 1))) (pv 0)))) rfl)
   (Zaa (Zbi PassesOwn.never rfl (ZaG rfl T.rng (pa1 Zae)) (Zax (i:=8) nd rfl (Or.inl rfl))
    (Zaa (Zal (i:=9) nd rfl (Or.inl rfl) (pe_f G1 hr17 (Zab (pe_t ZbE htup boot_tuple (pa1 (pv 4))) (pa1 (pv 3)))))
   (Zaa (pifF (pcm ZcE (pe_f G3 hr35 (Zab (pv 0) (Zab (pv 1) (Zab (pe_t Zbm T.list boot_list (pa1 (pv 6))) (pa1 (pe_t Zbm T.list boot_list (pa1 (pv 7)))))))) (pix ZaJ (pv 9) Zae)))
   (Zaa (pifF (pcm (Zbx hr.units) (pe_f G4 hr (Zab (pv 0) (Zab (pv 1) (Zab (pv 6) (pa1 (pv 7)))))) (pix ZaJ (pv 9) Zae)))
   (Zaa (pifF (pcm (ZcG hr.units) (pv 4) (ZaN ZaT)))
   (Zaa (Zal (i:=10) nd rfl (Or.inl rfl) (pix Zaj (pv 4) (Zan ZbA (pe_f G0 hr1 (Zab (pv 2) (pa1 (pv 8)))) (pln T (pv 4)))))
   (Zaa (Zal (i:=11) nd rfl (Or.inl rfl) (pix Zaj (ZaN (Zab Zd8 (pa1 Zd8))) (Zan ZbA (pe_f G0 hr1 (Zab (pv 2) (pa1 (Zan Zby Zae (pv 8))))) Zae)))
   (Zaa (Zal (i:=12) nd rfl (Or.inl rfl) (pe_f G5 hr5 (Zab (pv 0) (Zab (pv 1) (Zab (pv 6) (Zab (pv 7) (Zab (pv 10) (pa1 (pv 11)))))))))
   (Zaa (Zal (i:=13) nd rfl (Or.inl rfl) (ZaN ZaT))
   (Zaa (Zbi PassesOwn.never rfl (Zau (pv 4)) (ZcR rfl (ZaS (Zax (i:=5) nd rfl (Or.inr rfl)) (ZaS (Zax (i:=14) nd rfl (Or.inl rfl)) Zb3)))
     (Zaa (Zal (i:=15) nd rfl (Or.inl rfl) (ZmC (ZaM o_lt (pv 5) (pix ZaJ (pv 10) Zae) (Za6 _)) (Zbw (ZaM o_lt (pv 14) (pix ZaJ (pv 10) Zae) (Za6 _)))))
   (Zaa (Zal (i:=16) nd rfl (Or.inl rfl) (ZmC (ZaM o_gt (pv 5) (pix ZaJ (pv 10) Zae) (Za6 _)) (Zbw (ZaM o_gt (pv 14) (pix ZaJ (pv 10) Zae) (Za6 _)))))
   (Zaf (Zbn (ZaB (pix Zaj (ZaN (Zab (pv 16) (pa1 (pv 15)))) (pe_t ZlM T.int boot_int (pa1 (ZaM Zdy (pv 11) Zd8 (Za6 _)))))) (Zaf (Zaq (ZcK YaS YaU YaV Za7 (pv 13) (pa1 (ZaD (Zab (pv 5) (pa1 (pv 14)))))))) ZaI)))))
   (Zaa (Zal (i:=4) nd rfl (Or.inl rfl) (pv 13))
   (Zaa (ZeT (pv 12) (ZcR rfl (ZaS (Zax (i:=6) nd rfl (Or.inl rfl)) (ZaS (Zax (i:=7) nd rfl (Or.inl rfl)) Zb3))))
   (Zaa (Zal (i:=17) nd rfl (Or.inl rfl) (ZaN ZaT))
   (Zaa (Zbi PassesOwn.never rfl (ZaG rfl T.rng (pa1 (pv 0))) (Zax (i:=5) nd rfl (Or.inr rfl))
     (Zaf (Zaq (ZcK YaS PySem.F.slot_list_extend PySem.F.type_list_extend Zck (pv 17) (Zab
      (Zar ["b","a"] [none,some 5] (Zad Zet) lgN rfl (Zgl rfl T.rng (Zab (pix Zaj (pv 6) (pv 5)) (pa1 (pix Zaj (pv 7) (pv 5))))) (by decide +kernel) (λ_ _ _ _ _=>pg_c 0 nd1) (λ_ _ _ _ _=>Zam) (λ_ _ _ _ _=>ZaD (Zab (pv 1) (pa1 (pv 0))))) ZaT)))))
   (Zaf (pifF (pcm (Zbx hr.units) (pv 17) (pv 4))))))))))))))))))
   (Zaf (Zak Zgn)))))))),?_⟩
  refine λkn Ha hkn ea dna=>⟨len0,λCa hCa=>?_⟩;have sa:Same H Ha:=λb o e=>by rw [ea b (Zai e hkn)];exact e
  have sb:Same Ha (upd Ha Ca (.lst [])):=snw hCa;have eb:(upd Ha Ca (.lst [])) Ca=some (.lst []):=Zac;have hC0:H Ca=none:=sa.free hCa;have dnb:=Za9 dna sb;generalize upd Ha Ca (.lst [])=Hb at sb eb dnb ⊢;have sab:=sa.trans sb;have hb16:∀ i,i<=4->i * p<=16:=λi hi=>Nat.mul_le_mul hi p4;refine ⟨_,rfl,_,rfl,by omega,by omega,?_⟩;rw [Yav];refine ZaZ (LgA P w H r p c kn Ca)
   ⟨[],none,rfl,sab,⟨eb,λq hq=>nomatch hq⟩,dnb,rfl⟩ ?_ ?_
  ·rintro i σ H2 hi ⟨ps,o5,rfl,sm,L2,dn2,hcm⟩;have hpl:=congrArg List.length hcm;rw [Yaa,Zcr] at hpl;have:=hb16 i (by omega);rw [Int.zero_add];refine ⟨_,rfl,.inl ⟨rfl,_,sqo L2.l⟩,_,rfl,_,rfl,by omega,by omega,?_⟩;rw [Yav];refine ZbW (λj=>.tup [.int (i:Nat),.int (j:Nat)]) (by omega) (λj hj H3 Q3 s3 q3=>⟨_,rfl,_,rfl,len2,λT1 hT1=>?_⟩) λD2 qs H3 hD2 hqm _ hqs s3 eD=>?_
   ·rw [Int.zero_add];exact q3 T1 _ hT1 (snw hT1) Zac
   have L3:=L2.same s3;have hql:=congrArg List.length hqm;rw [Yaa,List.length_range] at hql;have hqj:∀ x∈qs,x.2<p:=λx hx=>List.mem_range.mp (by rw [<- hqm];exact Yar.mpr ⟨x,hx,rfl⟩);have gr:=L3.grow (qs:=qs.map λx=>(4 * i+x.2,x.1)) (λx hx=>by
    obtain ⟨y,hy,rfl⟩:=Yar.mp hx;show H3 y.1=some (.tup ((ZaY 4 (4 * i+y.2)).map kV));rw [Zn9 (by have:=hqj y hy;omega)]
    exact (hqs y hy).1)
   rw [Yau] at gr;refine ⟨Ca,D2,_,_,rfl,rfl,L3.l,eD,by rw [Yaa,Yaa];exact sl6 (by omega),?_⟩;have nCk:Ca≠kn:=ZgQ dn2 L2.l;refine ⟨ps ++ qs.map λx=>(4 * i+x.2,x.1),_,rfl,(sm.trans s3).upd hC0,gr,(Za9 dn2 s3).keeps (Zag nCk.symm) (λb ys e=>by rw [Zag (ZjF e L3.l)];exact e),?_⟩;rw [Yah,hcm,ZbY,Yau,<- hqm,Yau]
   congr 1
   refine List.map_congr_left λx hx=>?_;have:=hqj x hx;show ((4 * i+x.2) / 4,(4 * i+x.2) % 4)=(i,x.2);rw [show (4 * i+x.2) / 4=i by omega,show (4 * i+x.2) % 4=x.2 by omega]
  rintro σ H2 ⟨ps,o5,rfl,sm,L2,dn2,hcm⟩;have hps:ps.map (·.1)=(allL r p).map (phi p):=by
   rw [Zmx r p r4 p1 p4] at hcm;have e:ps.map (λq=>Zcb 4 q.1)=(ps.map (·.1)).map (Zcb 4):=by rw [Yau];rfl
   rw [e] at hcm;exact (List.map_inj_right λ_ _ z=>ZgZ z).mp hcm
  have hbits:ps.map (·.1)=Zas 16 (mOf r p (List.replicate r 0) (List.replicate r (p:Int))):=by rw [ZdN r4 p1 p4,hps];rfl
  have hp16:ps.length<=16:=by
   have e:=congrArg List.length hbits;rw [Yaa] at e;have:=Zcp 16 (mOf r p (List.replicate r 0) (List.replicate r (p:Int)));omega
  have hk0:H kn=none:=hkn;refine ⟨_,rfl,_,rfl,r,p,rfl,r1,r4,p1,p4,λH3 s3=>?_⟩;have L3:=L2.same s3;refine ⟨_,rfl,Ca,_,rfl,.inl ⟨sqo L3.l,λt1 ht1=>?_⟩⟩;have s4:Same H3 (upd H3 t1 (.tup (ps.map λq=>V.ref q.2))):=snw ht1;have c4:Cls (upd H3 t1 (.tup (ps.map λq=>V.ref q.2))) t1 ps:=⟨Zac,λq hq=>s4 _ _ (L3.c q hq)⟩;generalize upd H3 t1 (.tup (ps.map λq=>V.ref q.2))=H4 at s4 c4 ⊢;have dn4:=Za9 (Za9 dn2 s3) s4;refine ⟨_,rfl,t1,kn,ps,_,[],rfl,c4,hbits,Zdc _ _,hp16,dn4,KnM.nil _,λv5 kv5 H5 B5 D5 N5 A5=>?_⟩;obtain ⟨T5,w5,rfl,hT5,_⟩:=A5;rw [Zoa r4 p1 p4] at hT5;refine ⟨T5,_,0,_,rfl,rfl,sqt hT5,rfl,rfl,_,rfl,?_⟩;rw [show fw p (opnL r p (List.replicate r 0) (List.replicate r (p:Int)))=fw p (allL r p) from rfl,Ya4 rfl];have L4:=L3.same s4;have L5:PL H5 Ca ps:=⟨B5 _ _ (ZgQ dn4 L4.l) L4.l,λq hq=>B5 _ _ (Zpo dn4 (L4.c q hq)) (L4.c q hq)⟩;have sm5:Same H H5:=λb o e=>B5 _ _ (Zai e hk0) ((sm.trans (s3.trans s4)) _ _ e);refine iteF ⟨len1,λl1 h1=>?_⟩;have s6:Same H5 (upd H5 l1 (.lst [.int 0])):=snw h1;have e6:(upd H5 l1 (.lst [.int 0])) l1=some (.lst [.int 0]):=Zac;generalize upd H5 l1 (.lst [.int 0])=H6 at s6 e6 ⊢;refine ⟨_,rfl,l1,_,_,rfl,rfl,e6,by omega,by omega,?_,λLO hLO=>?_⟩
  ·rw [Yav];exact sl6 (by simp;omega)
  rw [Yav,ZdH];have s7:Same H6 (upd H6 LO (.lst ((List.replicate r (0:Int)).map V.int))):=snw hLO;have e7:Row (upd H6 LO (.lst ((List.replicate r (0:Int)).map V.int))) LO (List.replicate r 0):=Zac;generalize upd H6 LO (.lst ((List.replicate r (0:Int)).map V.int))=H7 at s7 e7 ⊢;refine ⟨_,rfl,len1,λl3 h3=>?_⟩;have s8:Same H7 (upd H7 l3 (.lst [.int (p:Nat)])):=snw h3;have e8:(upd H7 l3 (.lst [.int (p:Nat)])) l3=some (.lst [.int (p:Nat)]):=Zac;generalize upd H7 l3 (.lst [.int (p:Nat)])=H8 at s8 e8 ⊢;refine ⟨_,rfl,l3,_,_,rfl,rfl,e8,by omega,by omega,?_,λHI hHI=>?_⟩
  ·rw [Yav];exact sl6 (by simp;omega)
  rw [Yav,ZdH];have s9:Same H8 (upd H8 HI (.lst ((List.replicate r (p:Int)).map V.int))):=snw hHI;have e9:Row (upd H8 HI (.lst ((List.replicate r (p:Int)).map V.int))) HI (List.replicate r (p:Int)):=Zac;generalize upd H8 HI (.lst ((List.replicate r (p:Int)).map V.int))=H9 at s9 e9 ⊢;have s59:=s6.trans (s7.trans (s8.trans s9));have hLG:LG P w r p kn Ca LO HI H H9 (List.replicate r 0) (List.replicate r (p:Int)) ps kv5 :=
   ⟨sm5.trans s59,(e7.same s8).same s9,e9,Zg8 (by omega) (by omega) (by omega),s59 _ _ L5.l,λq hq=>s59 _ _ (L5.c q hq),hps,Za9 D5 s59,N5.tupS (Same.tupS s59)⟩
  refine ⟨_,_,rfl,?_⟩;refine ⟨_,rfl,by omega,by omega,ZaZ (λ_=>LgB P w H r p c kn)
   ⟨Ca,LO,HI,_,_,ps,kv5,o5,none,none,none,none,none,none,none,none,none,none,rfl,hLG⟩ ?_ ?_⟩
  rotate_left
  ·rintro σ H1 ⟨Cb,LP,HP,ls,hs,qs,kv,o5,o8,o9,oa,ob,oc,od,oe,of,og,oh,rfl,g⟩;exact q H1 g.sm
  rintro k σ H1 hk ⟨Cb,LP,HP,ls,hs,qs,kv,o5,o8,o9,oa,ob,oc,od,oe,of,og,oh,rfl,g⟩;rw [Int.zero_add];have hk8:k<8:=hk;have hq16:=g.len r4 p4;have hqb:qs.map (·.1)=Zas 16 (mOf r p ls hs):=by rw [ZdN r4 p1 p4,g.eq]
  refine ⟨_,rfl,Cb,_,rfl,.inl ⟨sqo g.cl,λt2 ht2=>?_⟩⟩;have z1:Same H1 (upd H1 t2 (.tup (qs.map λq=>V.ref q.2))):=snw ht2;have c2:Cls (upd H1 t2 (.tup (qs.map λq=>V.ref q.2))) t2 qs:=⟨Zac,λq hq=>z1 _ _ (g.ct q hq)⟩;generalize upd H1 t2 (.tup (qs.map λq=>V.ref q.2))=J1 at z1 c2 ⊢;have g1:=g.same z1;refine ⟨_,rfl,t2,kn,qs,_,kv,rfl,c2,hqb,Zdc _ _,hq16,g1.dn,g1.km,λv2 kv2 J2 B2 D2 N2 A2=>?_⟩;have g2:=g1.but hk0 B2 D2 N2;obtain ⟨T2,w2,rfl,hT2,hw2⟩:=A2;rw [Zoa r4 p1 p4] at hT2;rw [Zpy r4 p1 p4] at hw2;refine ⟨_,rfl,_,rfl,_,rfl,LP,_,rfl,.inl g2.lo.sq,λl4 h4=>?_⟩;have z3:Same J2 (upd J2 l4 (.lst (ls.map V.int))):=snw h4;have r4':Row (upd J2 l4 (.lst (ls.map V.int))) l4 ls:=Zac;generalize upd J2 l4 (.lst (ls.map V.int))=J3 at z3 r4' ⊢;refine ⟨_,rfl,HP,_,rfl,.inl (g2.hi.same z3).sq,λl5 h5=>?_⟩;have z4:Same J3 (upd J3 l5 (.lst (hs.map V.int))):=snw h5;have r5':Row (upd J3 l5 (.lst (hs.map V.int))) l5 hs:=Zac;generalize upd J3 l5 (.lst (hs.map V.int))=J4 at z4 r5' ⊢;refine ⟨r,p,l4,l5,ls,hs,rfl,r1,r4,p1,p4,r4'.same z4,r5',g2.two,λJ5 z5=>?_⟩;have z25:=z3.trans (z4.trans z5);have hT5':=z25 _ _ hT2;refine ⟨_,rfl,T2,_,0,_,rfl,rfl,sqt hT5',rfl,rfl,_,rfl,?_⟩;rw [Ya4 rfl];have g5:=g2.same z25;refine iteF ⟨_,rfl,_,rfl,_,rfl,_,rfl,r,p,LP,HP,ls,hs,rfl,r1,r4,p1,p4,g5.lo,g5.hi,g5.two,λv6 J6 z6 a6=>?_⟩;have g6:=g5.same z6;have hT6:=z6 _ _ hT5';have hw6:=(hw2.same z25).same z6;refine ⟨_,rfl,T2,_,1,_,rfl,rfl,sqt hT6,rfl,_,_,a6.rd,hw6.rd,ZeL _,ZeL _,_,rfl,?_⟩;rw [Zpm];refine iteF ⟨_,rfl,len0,λl7 h7=>?_⟩;have z7:Same J6 (upd J6 l7 (.lst [])):=snw h7;have e7':(upd J6 l7 (.lst [])) l7=some (.lst []):=Zac;generalize upd J6 l7 (.lst [])=J7 at z7 e7' ⊢;have g7:=g6.same z7;refine ⟨.list ((qs.map (·.1)).map celD),.list [],g7.ctD,.lst (sqo e7') .nil,ZdF _,ZdF [],_,rfl,?_⟩;rw [Znr]
  by_cases hqe:qs=[]
  ·rw [hqe];exact iteT (q J7 g7.sm)
  have hql0:0<qs.length:=List.length_pos_iff.mpr hqe;rw [show (qs.map (·.1)).isEmpty=false by cases qs with | nil=>exact absurd rfl hqe | cons _ _=>rfl];refine iteF ⟨_,rfl,_,rfl,_,rfl,c,k,rfl,by omega,λv8 J8 v80 _ z8=>?_⟩;have g8:=g7.same z8;obtain ⟨j,hj,hjl⟩:∃ j:Nat,v8 % ((qs.length:Nat):Int)=(j:Nat)/\j<qs.length:=by
   have h1:=Ybj v8 (show ((qs.length:Nat):Int)≠0 by omega);have h2:=Ybk v8 (show 0<((qs.length:Nat):Int) by omega);exact ⟨(v8 % ((qs.length:Nat):Int)).toNat,by omega,by omega⟩
  refine ⟨_,rfl,Cb,_,rfl,.inl (sqo g8.cl),_,_,rfl,rfl,by rw [Yaa];omega,Cb,_,_,.ref (qs[j]).2,rfl,rfl,sqo g8.cl,?_,?_⟩
  ·rw [Yaa,hj];exact Zaz (by rw [Yaf,Yac hjl];rfl)
  have hqm:qs[j]∈qs:=YaL hjl;generalize qs[j]=q0 at hqm ⊢;obtain ⟨c0,hc0,hphi⟩:∃ c0∈opnL r p ls hs,phi p c0=q0.1:=by
   have:q0.1∈qs.map (·.1):=Yar.mpr ⟨q0,hqm,rfl⟩;rw [g.eq] at this;exact Yar.mp this
  obtain ⟨hcl,hc1,hc2⟩:=mem_opn.mp hc0;have hcr:=Zhk p1 hcl;have hd1:q0.1 / 4=c0 / p:=by rw [<- hphi];exact (ZbP p1 p4 c0).1
  have hd2:q0.1 % 4=c0 % p:=by rw [<- hphi];exact (ZbP p1 p4 c0).2
  refine ⟨len2,λl9 h9=>?_⟩;have z9:Same J8 (upd J8 l9 (.lst [.str "less", .str "greater"])):=snw h9;have e9':SqL K (upd J8 l9 (.lst [.str "less", .str "greater"])) l9 [.str "less", .str "greater"]:=sqo Zac;generalize upd J8 l9 (.lst [.str "less", .str "greater"])=J9 at z9 e9' ⊢;refine ⟨_,rfl,_,rfl,_,_,rfl,rfl,c,20+k,rfl,by omega,λv10 J10 v100 _ z10=>?_⟩;obtain ⟨wd,hwd,hwa⟩:∃ wd:Str,(wd = "less" \/ wd = "greater")/\atI [V.str "less", .str "greater"] (v10 % 2)=some (.str wd):=by
   have h1:=Ybj v10 (show (2:Int)≠0 by decide);have h2:=Ybk v10 (show (0:Int)<2 by decide);rcases (show v10 % 2=0\/v10 % 2=1 by omega) with z | z
   ·exact ⟨_,.inl rfl,by rw [z];rfl⟩
   ·exact ⟨_,.inr rfl,by rw [z];rfl⟩
  refine ⟨_,_,rfl,rfl,by decide,l9,_,_,_,rfl,rfl,z10.seq e9',hwa,?_⟩;have g10:=g8.same (z9.trans z10);have hat:=g10.ct q0 hqm;have hat2:Cell J10 q0.2 (c0 / p) (c0 % p):=by
   have:(ZaY 4 q0.1).map kV=[V.int ((c0 / p:Nat):Int),V.int ((c0 % p:Nat):Int)]:=by
    unfold ZaY;rw [hd1,hd2];rfl
   rw [this] at hat;exact hat
  refine ⟨_,rfl,_,rfl,_,rfl,_,rfl,_,rfl,_,rfl,r,p,LP,HP,q0.2,ls,hs,c0 / p,c0 % p,wd,rfl,r1,r4,p1,p4,hwd,g10.lo,g10.hi,g10.two,hat2,hcr.1,hc1,hc2,λT11 A11 B11 J11 hT11 hA11 hB11 nAB z11 eT11 rA rB=>?_⟩;have g11:=g10.same z11;have hat11:=z11 _ _ hat;obtain ⟨pr,hpr1,hpr2,S2⟩:∃ pr:Nat->Bool,((wd = "less" /\ pr=lsI 4 q0.1)\/(wd = "greater" /\ pr=mrI 4 q0.1))/\((opnL r p ls hs).map (phi p)).filter pr=(opnL r p (lowB wd ls (c0 / p) (c0 % p)) (ZeC wd hs (c0 / p) (c0 % p))).map (phi p)/\TwoSt r p (lowB wd ls (c0 / p) (c0 % p)) (ZeC wd hs (c0 / p) (c0 % p)):=by
   rcases hwd with rfl | rfl
   ·refine ⟨lsI 4 q0.1,.inl ⟨rfl,rfl⟩,?_,?_⟩
    ·unfold lowB ZeC;rw [Ya7 rfl,Ya7 rfl,ZmK g.two p1 ⟨rfl,rfl⟩,<- hphi];exact Zqt p1 p4 _ _
    ·unfold lowB ZeC;rw [Ya7 rfl,Ya7 rfl];exact Zl7 g.two hcr.1 hc1 hc2
   ·have hne:¬ (("greater" : Str) = "less"):=by decide +kernel
    refine ⟨mrI 4 q0.1,.inr ⟨rfl,rfl⟩,?_,?_⟩
    ·unfold lowB ZeC;rw [Ya6 hne,Ya6 hne,Zp9 g.two p1 ⟨rfl,rfl⟩,<- hphi];exact Zqq p1 p4 _ _
    ·unfold lowB ZeC;rw [Ya6 hne,Ya6 hne];exact ZpH g.two hcr.1 hc1 hc2
  generalize lowB wd ls (c0 / p) (c0 % p)=lt at rA hpr2 S2;generalize ZeC wd hs (c0 / p) (c0 % p)=ht at rB hpr2 S2;refine ⟨len0,λLF hLF=>?_⟩;have z12:Same J11 (upd J11 LF (.lst [])):=snw hLF;have e12:(upd J11 LF (.lst [])) LF=some (.lst []):=Zac;generalize upd J11 LF (.lst [])=J12 at z12 e12 ⊢;have g12:=g11.same z12;refine ⟨_,rfl,Cb,rfl,⟨_,sqo g12.cl⟩,ZcU (K:=K) (xs:=qs.map λq=>V.ref q.2) (LgC J11 r p k c kn Cb LP HP T2 q0.2 T11 LF wd oh qs pr)
   ⟨[],o5,oe,of,og,rfl,z12,⟨e12,λq hq=>nomatch hq⟩,rfl⟩ (λi σ J _ h=>by obtain ⟨_,_,_,_,_,_,zz,_⟩:=h;exact sqo (zz _ _ g11.cl)) ?_ ?_⟩
  ·rintro i y σ J hy ⟨us,o5,oe,of,og,rfl,zz,pl,hum⟩;rw [Yaf] at hy;cases hqi:qs[i]? with
   |none=>rw [hqi] at hy;cases hy
   |some q1 =>
    rw [hqi] at hy;have hy:V.ref q1.2=y:=Yae hy;subst hy;have hq1:=YaP hqi;have gJ:=g11.same zz;have hatJ:=zz _ _ hat11;have tk:(qs.take (i+1)).map (·.1)=(qs.take i).map (·.1) ++ [q1.1]:=by
     rw [List.take_add_one,hqi,Yah];rfl
    refine ⟨q1.2,_,rfl,sqt (gJ.ct q1 hq1),rfl,_,_,rfl,_,_,rfl,rfl,?_⟩;refine ZdA (λN=>N (.bl (lsI 4 q0.1 q1.1)) J) (ZdG ?_) (λtail=>?_)
    rotate_left
    ·refine ⟨_,rfl,_,rfl,q0.2,_,0,_,rfl,rfl,sqt hatJ,key0,_,_,rfl,rfl,_,rfl,?_⟩;unfold lsI at tail;rw [ZcH]
     by_cases h1:q1.1 / 4<q0.1 / 4
     ·rw [Ya4 h1] at tail ⊢;exact iteT tail
     ·rw [Ya5 h1,Bool.false_or] at tail;rw [Ya5 h1];refine iteF ⟨_,rfl,_,rfl,q0.2,_,1,_,rfl,rfl,sqt hatJ,key1,_,_,rfl,rfl,?_⟩;rw [ZcH];exact tail
    refine ZdA (λN=>N (.bl (mrI 4 q0.1 q1.1)) J) (ZdG ?_) (λtail=>?_)
    rotate_left
    ·refine ⟨_,rfl,_,rfl,q0.2,_,0,_,rfl,rfl,sqt hatJ,key0,_,_,rfl,rfl,_,rfl,?_⟩;unfold mrI at tail;rw [Ziu]
     by_cases h1:q0.1 / 4<q1.1 / 4
     ·rw [Ya4 h1] at tail ⊢;exact iteT tail
     ·rw [Ya5 h1,Bool.false_or] at tail;rw [Ya5 h1];refine iteF ⟨_,rfl,_,rfl,q0.2,_,1,_,rfl,rfl,sqt hatJ,key1,_,_,rfl,rfl,?_⟩;rw [Ziu];exact tail
    refine ⟨_,rfl,_,rfl,len2,λl13 h13=>?_⟩;have z13:Same J (upd J l13 (.lst [.bl (mrI 4 q0.1 q1.1),.bl (lsI 4 q0.1 q1.1)])):=snw h13;have e13:SqL K (upd J l13 (.lst [.bl (mrI 4 q0.1 q1.1),.bl (lsI 4 q0.1 q1.1)])) l13 [.bl (mrI 4 q0.1 q1.1),.bl (lsI 4 q0.1 q1.1)]:=sqo Zac;generalize upd J l13 (.lst [.bl (mrI 4 q0.1 q1.1),.bl (lsI 4 q0.1 q1.1)])=J13 at z13 e13 ⊢;have hix:atI [V.bl (mrI 4 q0.1 q1.1),.bl (lsI 4 q0.1 q1.1)] (if decide (V.str wd=V.str "less")=true then 1 else 0)=some (.bl (pr q1.1)):=by
     rcases hpr1 with ⟨rfl,rfl⟩ | ⟨rfl,rfl⟩
     ·rw [Ya7 (Ya4 rfl)];rfl
     ·rw [Ya6 (by rw [Ya5 (λz=>by injection z with z;exact absurd z (by decide +kernel))];decide)];rfl
    refine ⟨_,rfl,rfl,.inr ⟨_,rfl,l13,_,_,_,rfl,rfl,e13,hix,_,rfl,?_⟩⟩;have pl13:=pl.same z13;have hul:=congrArg List.length hum;rw [Yaa] at hul;have hul2:us.length<=16:=by
     rw [hul];refine Yay (Ybm _ _) ?_;rw [Yaa,YaR];omega
    cases hb:pr q1.1 with
    |false =>
     refine iteF ⟨us,_,_,_,_,rfl,zz.trans z13,pl13,?_⟩;rw [tk,List.filter_append,hum,List.filter_cons,hb];simp
    |true =>
     refine iteT ⟨_,rfl,.inl ⟨rfl,_,sqo pl13.l⟩,_,rfl,_,rfl,len2,λT14 hT14=>?_⟩;have z14:Same J13 (upd J13 T14 (.tup ((ZaY 4 q1.1).map kV))):=snw hT14;have e14:(upd J13 T14 (.tup ((ZaY 4 q1.1).map kV))) T14=some (.tup ((ZaY 4 q1.1).map kV)):=Zac;refine ⟨LF,_,_,rfl,rfl,z14 _ _ pl13.l,by rw [Yaa];exact Zav (by omega),?_⟩;have gr:=(pl13.same z14).grow (qs:=[(q1.1,T14)]) (λx hx=>by rw [YaJ.mp hx];exact e14);refine ⟨us ++ [(q1.1,T14)],_,_,_,_,rfl,(zz.trans (z13.trans z14)).upd hLF,gr,?_⟩;rw [tk,List.filter_append,Yah,hum,List.filter_cons,hb];simp
  rintro σ J ⟨us,o5,oe,of,og,rfl,zz,pl,hum⟩;rw [Yaa,List.take_length,g.eq,hpr2] at hum;refine ⟨_,rfl,_,rfl,T11,_,rfl,sqt (zz _ _ eT11),rfl,_,_,rfl,_,_,rfl,rfl,?_⟩;have rAJ:=rA.same zz;have rBJ:=rB.same zz;have gJ:=g11.same zz;refine ⟨len0,λHE hHE=>?_⟩;have z15:Same J (upd J HE (.lst [])):=snw hHE;have e15:(upd J HE (.lst [])) HE=some (.lst []):=Zac;generalize upd J HE (.lst [])=J15 at z15 e15 ⊢;refine ⟨_,rfl,_,rfl,by omega,by omega,?_⟩;rw [Yav];refine ZaZ (LgD J r p k c kn LF A11 B11 T2 q0.2 T11 HE wd oe of og lt ht)
   ⟨[],_,rfl,z15,⟨e15,λq hq=>nomatch hq⟩,rfl⟩ ?_ ?_
  ·rintro i σ M hi ⟨ws,o5,rfl,zM,plM,hwm⟩;rw [Int.zero_add];obtain ⟨l0,l1'⟩:=S2.lo.at hi;obtain ⟨h0,h1'⟩:=S2.hi.at hi;have hle:=S2.le i hi;have hwl:ws.length<=16:=by
    have e:=congrArg List.length hwm;rw [Yaa] at e;have:=Zgh (ls:=lt) (hs:=ht) (r:=i) λa ha=>by
     have h1:=S2.lo.at (i:=a) (by omega);have h2:=S2.hi.at (i:=a) (by omega);omega
    omega
   have atA:atI (lt.map V.int) ((i:Nat):Int)=some (.int (lt.getD i 0)):=ZaW (by rw [S2.lo.len];exact hi);have atB:atI (ht.map V.int) ((i:Nat):Int)=some (.int (ht.getD i 0)):=ZaW (by rw [S2.hi.len];exact hi);refine ⟨_,rfl,.inl ⟨rfl,_,sqo plM.l⟩,_,rfl,_,rfl,A11,_,_,_,rfl,rfl,(rAJ.same zM).sq,atA,_,rfl,_,rfl,B11,_,_,_,rfl,rfl,(rBJ.same zM).sq,atB,_,_,rfl,⟨by omega,by omega,by omega,by omega⟩,?_⟩;refine ZbW (λj=>.tup [.int (i:Nat),.int (lt.getD i 0+(j:Nat))]) (by omega) (λj hj H3 Q3 s3 q3=>⟨_,rfl,_,rfl,len2,λT1 hT1=>q3 T1 _ hT1 (snw hT1) Zac⟩) λD2 xs M2 hD2 hqm _ hqs s3 eD=>?_;have plM2:=plM.same s3;have hxj:∀ x∈xs,x.2<(ht.getD i 0 - lt.getD i 0).toNat:=λx hx=>List.mem_range.mp (by rw [<- hqm];exact Yar.mpr ⟨x,hx,rfl⟩);have gr:=plM2.grow (qs:=xs.map λx=>(4 * i+((lt.getD i 0).toNat+x.2),x.1)) (λx hx=>by
    obtain ⟨y,hy,rfl⟩:=Yar.mp hx;have:=hxj y hy;show M2 y.1=some (.tup ((ZaY 4 (4 * i+((lt.getD i 0).toNat+y.2))).map kV))
    rw [Zn9 (by omega),(hqs y hy).1,show lt.getD i 0+((y.2:Nat):Int)=(((lt.getD i 0).toNat+y.2:Nat):Int) by omega])
   rw [Yau] at gr;have hxl:=congrArg List.length hqm;rw [Yaa,List.length_range] at hxl;refine ⟨HE,D2,_,_,rfl,rfl,plM2.l,eD,by rw [Yaa,Yaa];exact sl6 (by omega),?_⟩;refine ⟨ws ++ xs.map λx=>(4 * i+((lt.getD i 0).toNat+x.2),x.1),_,rfl,(zM.trans s3).upd hHE,gr,?_⟩;rw [Yah,hwm,ZeO,Yau,<- hqm,Yau]
   congr 1
   refine List.map_congr_left λx hx=>?_;have:=hxj x hx;show ((4 * i+((lt.getD i 0).toNat+x.2)) / 4,(4 * i+((lt.getD i 0).toNat+x.2)) % 4)=(i,(lt.getD i 0).toNat+x.2);rw [show (4 * i+((lt.getD i 0).toNat+x.2)) / 4=i by omega,show (4 * i+((lt.getD i 0).toNat+x.2)) % 4=(lt.getD i 0).toNat+x.2 by omega]
  rintro σ M ⟨ws,o5,rfl,zM,plM,hwm⟩;have hws:ws.map (·.1)=us.map (·.1):=by
   rw [Zh5 r4 p1 p4 S2,<- hum] at hwm;have e:ws.map (λq=>Zcb 4 q.1)=(ws.map (·.1)).map (Zcb 4):=by rw [Yau];rfl
   rw [e] at hwm;exact (List.map_inj_right λ_ _ z=>ZgZ z).mp hwm
  refine ⟨_,rfl,_,rfl,_,_,plM.rd,(pl.same zM).rd,ZdF _,ZdF _,_,rfl,?_⟩;rw [hws,Znq];have zJM:=zz.trans zM;have gM:=g11.same zJM;exact iteF ⟨LF,A11,B11,lt,ht,us,_,_,_,_,_,_,_,_,_,_,_,_,rfl,gM.sm,rAJ.same zM,rBJ.same zM,S2,(pl.same zM).l,(pl.same zM).c,hum,gM.dn,gM.km⟩
end
end Seek
namespace L2
open PySem PySem.Spec PyProof.Rows
def ZqS (K:Yab) (Dc:Addr) (th:TS) (D:Ends):St->Value->Hp->Prop:=λσ cls H'=>∃ C,cls=.ref C/\ExcK K C/\PySem.W.mroIn K C (.ref Dc)=some true/\∀ e,H' e=none->th D σ (upd H' e (excO e C))
def ZqU (K:Yab) (Dc:Addr) (tb:(St->Value->Hp->Prop)->TS) (th:TS):TS:=λD σ H=>tb (ZqS K Dc th D) D σ H
section
variable {X:Cx}
theorem ZoF {body hs:List Stmt}{b₀:Stmt}{cn:Str}{np hpos pos:Pos}{Dc:Addr}{tb:(St->Value->Hp->Prop)->TS}{th:TS} (hst:X.stack=X.env :: X.outer) (hfr:X.env.frame=some X.env.locals) (hD:ExcK X.K Dc) (hm:X.mg cn=some (.ref Dc))
  (hb:∀ (pn:List (Addr × Obj)) (W:Value->Shared->Prop) (R:St->Value->Hp->Prop),Zl1 (X.tryC pn W) R->PSs (X.tryC pn W) body (tb R)) (hh:∀ v,PSs (X.hand v) (b₀ :: hs) th)
  (hg:Gl X cn:=by rfl) (hdb:(cn == ("__debug__" : Str))=false:=by decide) :
  PS X (.Try body [.ExceptHandler (some (.Name cn np)) none (b₀ :: hs) hpos] [] [] pos) (ZqU X.K Dc tb th):=by
 intro pins s σ H D I h;refine wpAny_Try_except ?_;have key:Zl1 (X.tryC pins λe s₁=>wpAny (model X.prog X.w) X.A (noteFrame e X.env) (λ_ s₂=>wpAny (model X.prog X.w) X.A (setFlight e none) (λ_ s₃=>wpAny (model X.prog X.w) X.A (handleBy e X.env [.ExceptHandler (some (.Name cn np)) none (b₀ :: hs) hpos]) (SP X pins D) X.xe s₃) X.xe s₂) X.xe s₁)
   (ZqS X.K Dc th D):=by
  rintro pins' σ' H1 s1 e cls H' s' I0 F ⟨C,rfl,kC,hmC,hth⟩;have I1:Inv X pins σ' H1 s1:=I0.tryOut;have F:Fli X.prog X.w X.stack H1 s1 e (.ref C) .none H' s':=F;have J:=I1.fly F;obtain ⟨B,a0,fl,st⟩:=Zoc F J.stack J.stkFree;have frm:X.A.frames=some (X.env :: X.outer):=by rw [<- hst];exact I1.ok.frames
  rw [hst] at fl;refine wpAny_looks_onW frm hfr fl λh4 g4 u4=>?_;refine wpAny_landsW g4 λh5 g5 u5=>?_;have F5:=st h5 .none g5.1 g5.2.2.2 (u4.trans u5);have J5:=I1.fly F5;obtain ⟨_,oe,_,_,_,_,he,⟨hc,_⟩,_⟩:=F5.tr;refine wpAny_handleBy_cons (codeAny_handlers_test (Zdd (X:=X.hand (.ref e)) (J5.hand (.ref e)) hg hm ?_ hdb)) (by intro q;cases q);refine Zlh J5.kIn hD hmC he hc ?_;refine codeAny_handlers_suite ?_;refine lands_againW g5 λh6 g6 u6=>?_;have F6:=st h6 .none g6.1 g6.2.2.2 ((u4.trans u5).trans u6);obtain ⟨_,_,_,_,_,_,_,_,_,_,_,_,_,_,⟨he0,_⟩,_,_⟩:=F6.tr;have J6:=(I1.catch F6).hand (.ref e);refine Ya9 (hh (.ref e) pins _ _ _ D J6 (hth e he0)) (λf s8 q8=>?_) λ_ _ z=>False.elim z;cases f with
  |next =>
   obtain ⟨σ8,H8,I8,q⟩:=q8;exact ⟨_,H8,I8.unhand I.ok,q⟩
  |brk =>
   obtain ⟨σ8,H8,I8,q⟩:=q8;exact ⟨_,H8,I8.unhand I.ok,q⟩
  |cont =>
   obtain ⟨σ8,H8,I8,q⟩:=q8;exact ⟨_,H8,I8.unhand I.ok,q⟩
  |ret u =>
   obtain ⟨v,σ8,H8,I8,r,q⟩:=q8;exact ⟨v,_,H8,I8.unhand I.ok,r,q⟩
 refine Ya9 (hb pins _ _ key [] s σ H D (I.tryIn _) h) (λf s1 q=>?_) λ_ _ z=>z;have q:=SP.tryOut q;cases f with
 |next=>exact wpAny_execs_nil q
 |brk=>exact q
 |cont=>exact q
 |ret u=>exact q
end
end L2
namespace Seek
open PySem L2 PyProof.Rows
theorem ZlY {rows:List (List Int)}{i j:Nat} (x:Int) (h:Rok rows) (hi:i<rows.length) (hj:j<wR rows):Zbz (setR rows i j x) i j=Zbz rows i j:=by
 have hjl:j<(rows.getD i []).length:=by rw [h.len i hi];exact hj
 unfold Zbz;rw [Zbk x hi hjl,Zbk x hi hjl]
 by_cases h1:0<i <;> by_cases h2:0<j <;> simp [h1,h2] <;> omega
theorem Zjw {rows:List (List Int)}{i j:Nat} (x:Int) (h:Rok rows) (hi:i<rows.length) (hj:j<wR rows):Zbh (setR rows i j x) i j=Zbh rows i j:=by
 have hjl:j<(rows.getD i []).length:=by rw [h.len i hi];exact hj
 unfold Zbh;rw [Zbk x hi hjl,Zbk x hi hjl,ZcP,Zd1 j x hi]
 by_cases h1:i+1<rows.length <;> by_cases h2:j+1<wR rows <;> simp [h1,h2]
theorem Zle {rows:List (List Int)}{i j:Nat}{x:Int} (h:Rok rows) (hi:i<rows.length) (hj:j<wR rows) (g:Rok (setR rows i j x)):Betw (Zbz rows i j).max? (Zbh rows i j).min? x:=by
 have hjl:j<(rows.getD i []).length:=by rw [h.len i hi];exact hj
 have ex:Zbb (setR rows i j x) i j=x:=by rw [Zbk x hi hjl,Ya7 ⟨rfl,rfl⟩]
 have hi':i<(setR rows i j x).length:=by rw [ZcP];exact hi
 have hj':j<wR (setR rows i j x):=by rw [Zd1 j x hi];exact hj
 refine ⟨λm hm=>?_,λm hm=>?_⟩
 ·have:=ZnI g hi' hj' (by rw [ZlY x h hi hj];exact (List.max?_eq_some_iff.mp hm).1);rw [ex] at this;exact this
 ·have:=ZlR g hi' hj' (by rw [Zjw x h hi hj];exact (List.min?_eq_some_iff.mp hm).1);rw [ex] at this;exact this
theorem Zct (x y:Int):SeqAt.shaped (.tuple [.int x,.int y])=true:=rfl
theorem Zli (x y:Int):PyData.eqv (.tuple [.int x,.int y]) (.tuple [.int x,.int y])=true:=by simp [PyData.eqv,PyData.eqvAll]
theorem Zh6 {K:Yab}{H:Hp}{p:Addr}{x y:Int} (h:H p=some (.tup [.int x,.int y])):RdD K H (.ref p) (.tuple [.int x,.int y]):=.tup (sqt h) (.cons (.int x) (.cons (.int y) .nil))
theorem ZpK {prs:Prs} (h1:1<=prs.length) (h6:prs.length<=6) (hw:∀ p∈prs,p.2.length=w0 prs) (w1:1<=w0 prs) (w6:w0 prs<=6):tabB prs=srB prs:=by
 have:shB prs=true:=by
  unfold shB;rw [Ya4 h1,Ya4 h6,Bool.true_and,Bool.true_and,Yaj,YaO,YaO];refine ⟨λb hb=>?_,λb hb=>?_⟩
  ·obtain ⟨p,hp,rfl⟩:=Yar.mp hb;have:=hw p hp;simp [rowB];omega
  ·obtain ⟨p,hp,rfl⟩:=Yar.mp hb;exact Ya4 (hw p hp)
 unfold tabB;rw [this,Bool.true_and]
section
variable {P:Program}{w:World}{K:Yab}{mg:Str->Option Value}{base:Heap}{C c7:Addr}
theorem Znd {H1:Hp}{t0 a dx:Addr}{prs:Prs}{W:VK} (ha:H1 a=none) (hdx:H1 dx=none) (nd:dx≠a) (hT:Tab H1 t0 prs) (hg:tabB prs=true)
  (q:∀ t l prs' H2,Same H1 H2->H1 t=none->H1 l=none->a≠l->a≠t->(∀ p∈prs',H1 p.1=none)->(prs'.map (·.1)).Nodup->prs'.map (·.2)=prs.map (·.2)->Keep H2 C a dx t l prs' []->W .non H2) :
  ZjU C [.ref a,.ref t0] (upd (upd H1 dx (.own a)) a (.ins C dx [])) W E0:=by
 have s1:Same H1 (upd (upd H1 dx (.own a)) a (.ins C dx [])):=(snw hdx).trans (snw (by rw [Zag (Ne.symm nd)];exact ha));have ex:(upd (upd H1 dx (.own a)) a (.ins C dx [])) a=some (.ins C dx []):=Zac;generalize upd (upd H1 dx (.own a)) a (.ins C dx [])=H2 at s1 ex;refine ⟨a,dx,t0,prs,rfl,ex,hT.same s1,hg,λt l prs' H' b ht hl hp hnd hrows hk=>q t l prs' H' (λc o e=>b c o (λz=>by rw [z,ha] at e;cases e) (s1 _ _ e)) (s1.free ht) (s1.free hl) (Zai ex hl) (Zai ex ht) (λp h=>s1.free (hp p h)) hnd hrows hk⟩
def ZpW (c7:Addr):Sp:=λvs H _ E=>∃ (t c:Addr) (prs:Prs) (i j:Nat) (x:Int),vs=[.ref t,.ref c,.int x]/\Tab H t prs/\tabB prs=true/\Cell H c i j/\i<prs.length/\j<w0 prs/\ZcF (setR (prs.map (·.2)) i j x)=false/\∀ H',Same H H'->E (.ref c7) none H'
theorem Zql (hk:ExcK K c7) (hm:mg "NoFit" = some (.ref c7)) (D:Zah K mg "changed_table" ZdK ["table","cell","x"]) (G1:FnAt P w K mg base 5 "need_cell" ["table","thing"] ZbU)
  (G2:FnAt P w K mg base 2 "need_number" ["thing"] Za2) (G3:FnAt P w K mg base 2 "table_with" ["table","cell","x"] ZhU) (G4:FnAt P w K mg base 5 "is_table" ["thing"] Zch) :
  FnAtX P w K mg base 6 "changed_table" ["table","cell","x"] (ZpW c7):=by
 refine FnAtX.of D sc_changed (λvs H Q E h=>?_) (λf g A o s H vs Q E hr h=>?_)
 ·obtain ⟨t,c,prs,i,j,x,rfl,_⟩:=h;rfl
 ·obtain ⟨t,c,prs,i,j,x,rfl,hT,hg,hc,hi,hj,ok,he⟩:=h;have nd:=sc_changed.nd;obtain ⟨g,g1,g2,g3,g4⟩:=ZaF hg;have hli:(Zat prs i).length=w0 prs:=by
   obtain ⟨p,hp,_,e⟩:=ZaA hi;rw [e];exact g.len p hp
  refine ⟨_,Zaa (Zaq (pe_f G1 hr (Zab (pv 0) (pa1 (pv 1))))) (Zaa (Zaq (pe_f G2 (hr.mono (by decide)) (pa1 (pv 2))))
   (Zaa (Zal (i:=3) nd rfl (Or.inl rfl) (pe_f G3 (hr.mono (by decide)) (Zab (pv 0) (Zab (pv 1) (pa1 (pv 2))))))
   (Zaa (Zbn (ZaC (ZaB (pe_f G4 hr (pa1 (pv 3))))) (Zaf (Zmz ZiR hk Zd8 hm)) ZaI) ZaX))),?_⟩
  refine ⟨_,rfl,_,rfl,t,c,prs,i,j,rfl,hT,hg,hc,hi,hj,λH1 s1=>⟨_,rfl,x,rfl,?_⟩⟩;refine ⟨_,rfl,_,rfl,_,rfl,t,c,prs,i,j,x,rfl,hT.same s1,Zao hg,s1 _ _ hc,hi,by omega,λt' prs' H2 ht' hq hnd s2 hT2 hrows=>?_⟩;refine ⟨_,rfl,t',prs',rfl,hT2,ZjX (rows:=[]) (Zao hg) hrows,λH3 s3=>⟨_,rfl,?_⟩⟩;rw [ZbJ hrows,ok];exact iteT (he H3 (s1.trans (s2.trans s3)))
def ZnS (C c7:Addr):Sp:=λvs H _ E=>∃ (a dx t l c:Addr) (prs:Prs) (cs:Ch) (i j:Nat) (x:Int),vs=[.ref a,.ref c,.int x]/\Keep H C a dx t l prs cs/\Cell H c i j/\i<prs.length/\j<w0 prs/\ZcF (setR (prs.map (·.2)) i j x)=false/\∀ H',Same H H'->E (.ref c7) none H'
theorem Zo3 (kc:KpC K C) (D:Zay K C "change" "Keeper.change" (Zaw ZaU 1) ["self","cell","x"]) (G1:FnAtX P w K mg base 6 "changed_table" ["table","cell","x"] (ZpW c7)):MtAtX P w K mg base 8 C "change" ["self","cell","x"] (ZnS C c7):=by
 refine MtAtX.of D sc_kChange (λvs H Q E h=>?_) (λf g A o s H vs Q E hr h=>?_)
 ·obtain ⟨a,dx,t,l,c,prs,cs,i,j,x,rfl,_⟩:=h;rfl
 ·obtain ⟨a,dx,t,l,c,prs,cs,i,j,x,rfl,hk,hc,hi,hj,ok,he⟩:=h;have nd:=sc_kChange.nd;refine ⟨_,Zaa (Zal (i:=3) nd rfl (Or.inl rfl) (Zrk G1 (hr.mono (by decide)) Zld (Zab (Zbp (pv 0) rfl) (Zab (pv 1) (pa1 (pv 2)))))) ZaX,?_⟩;exact ⟨_,rfl,a,C,dx,_,_,rfl,hk.ob,kc.cls,kc.nr,rfl,_,rfl,_,rfl,t,c,prs,i,j,x,rfl,hk.T,hk.ok,hc,hi,hj,ok,he⟩
theorem Zj3:FnScope ["self","x"] ["self","x"] (Zad (Zaw ZaU 4)):=scm
def Zh0 (C:Addr):Sp:=λvs H Q _=>∃ (a dx t l:Addr) (prs:Prs) (cs:Ch) (x:Int),vs=[.ref a,.int x]/\Keep H C a dx t l prs cs /\
 ∀ L (es:Cs) H',H L=none->Same H H'->H' L=some (.lst (es.map Zce))->(∀ c∈es,Za0 H' c/\H c.1=none)->es.map (·.2)=ZaK prs x prs.length->es.length<=36->Q (.ref L) H'
theorem Zkx (kc:KpC K C) (D:Zay K C "cells" "Keeper.cells" (Zaw ZaU 4) ["self","x"]) (G:FnAt P w K mg base 7 "cells_of" ["table","x"] Zc7):MtAt P w K mg base 8 C "cells" ["self","x"] (Zh0 C):=by
 refine MtAt.of D Zj3 (λvs H Q E h=>?_) (λf g A o s H vs Q E hr h=>?_)
 ·obtain ⟨a,dx,t,l,prs,cs,x,rfl,_⟩:=h;rfl
 ·obtain ⟨a,dx,t,l,prs,cs,x,rfl,hk,q⟩:=h;refine ⟨_,Zaf (Zak (pe_f G hr (Zab (Zbp (pv 0) rfl) (pa1 (pv 1))))),?_⟩;exact ⟨_,rfl,a,C,dx,_,_,rfl,hk.ob,kc.cls,kc.nr,rfl,_,rfl,t,prs,x,rfl,hk.T,hk.ok,q⟩
end
open PySem L2 PyProof.Rows
theorem ZgY {prs qs:Prs} (h:qs.map (·.2)=prs.map (·.2)) (x:Int):ZaK qs x qs.length=ZaK prs x prs.length:=by
 have hl:qs.length=prs.length:=by
  have:=congrArg List.length h;simpa using this
 unfold ZaK;rw [hl]
 congr 1
 funext i
 rw [Zcu,Zcu,h]
theorem Zd4 {rows:List (List Int)} (h:Rok rows):∀ i j,i<rows.length->j<wR rows->Zbb rows 0 0<=Zbb rows i j
 | 0,0,_,_=>Int.le_refl _
 |i+1,0,hi,hj=>Int.le_trans (Zd4 h i 0 (by omega) hj) (h.down i 0 hi hj)
 |i,j+1,hi,hj=>Int.le_trans (Zd4 h i j hi (by omega)) (h.row i j hi hj)
theorem ZkH {rows:List (List Int)} (h:Rok rows) {n:Int} (hn:NumIs rows 0 n):n=Zbb rows 0 0:=by
 obtain ⟨fs,S,rfl⟩:=hn;obtain ⟨hp,hs⟩:=S.heads;have hfl:ZbB (prs0 rows)=rows.flatten:=by
  unfold ZbB;rw [ZcQ]
 rw [hfl] at hp;have h0:=h.n1;have hw:=h.w1;have mem:∀ a∈rows.flatten,Zbb rows 0 0<=a:=λa ha=>by
  obtain ⟨r,hr,har⟩:=List.mem_flatten.mp ha;obtain ⟨i,hi,rfl⟩:=List.getElem_of_mem hr;obtain ⟨j,hj,rfl⟩:=List.getElem_of_mem har;have e1:rows.getD i []=rows[i]:=by rw [Yat,Yac hi];rfl
  have e2:Zbb rows i j=rows[i][j]:=by
   unfold Zbb;rw [e1,Yat,Yac hj];rfl
  rw [<- e2];refine Zd4 h i j hi ?_;have:=h.len i hi;rw [e1] at this;omega
 have m0:Zbb rows 0 0∈rows.flatten:=by
  have hl:=h.len 0 h0;have e1:rows.getD 0 []=rows[0]:=by rw [Yat,Yac h0];rfl
  rw [e1] at hl;have hl0:0<rows[0].length:=by omega
  have e2:Zbb rows 0 0=rows[0][0]:=by
   unfold Zbb;rw [e1,Yat,Yac hl0];rfl
  rw [e2];exact List.mem_flatten.mpr ⟨_,YaL h0,YaL hl0⟩
 cases fs with
 |nil =>
  have:=hp.length_eq;cases hz:rows.flatten with
  |nil=>rw [hz] at m0;cases m0
  |cons a r=>rw [hz] at this;cases this
 |cons f fs =>
  show hdI f=_;have h1:hdI f∈rows.flatten:=hp.mem_iff.mp (.head _);have h2:=hp.mem_iff.mpr m0;have a1:=mem _ h1;rw [Yaw] at h2 hs;rcases YaF.mp h2 with z | z
  ·exact z.symm
  ·have:=(List.pairwise_cons.mp hs).1 _ z;omega
theorem Zon {H1:Hp}{t':Addr}{qs:Prs}{i:Nat} (j:Nat) (x:Int) (hT1:Tab H1 t' qs) (hnd:(qs.map (·.1)).Nodup) (hne:∀ p∈qs,p.1≠t') (hiq:i<qs.length) :
  Tab (upd H1 qs[i].1 (.lst ((qs[i].2.map V.int).set j (.int x)))) t' (qs.set i (qs[i].1,qs[i].2.set j x))/\(qs.set i (qs[i].1,qs[i].2.set j x)).map (·.2)=setR (qs.map (·.2)) i j x:=by
 have hqi:qs[i]? = some qs[i]:=Yac hiq;have mqi:qs[i]∈qs:=YaL hiq;rw [<- List.map_set];refine ⟨⟨?_,λp hp=>?_⟩,?_⟩
 ·have:(qs.set i (qs[i].1,qs[i].2.set j x)).map (λp=>V.ref p.1)=qs.map λp=>V.ref p.1:=by
   rw [List.map_set];refine List.ext_getElem? λk=>?_;rw [List.getElem?_set];split
   ·next h =>
    subst h;rw [Yaa,Ya7 hiq,Yaf,hqi];rfl
   ·rfl
  rw [this,Zag (λz=>hne _ mqi z.symm)];exact hT1.l
 ·obtain ⟨k,hk⟩:=List.mem_iff_getElem?.mp hp;rw [List.getElem?_set] at hk
  by_cases h:i=k
  ·rw [Ya7 h,Ya7 hiq] at hk;rw [<- Yae hk];exact Zac
  ·rw [Ya6 h] at hk;have hkl:=(Yai.mp hk).1;unfold Row;rw [Zag (λe=>h ((List.getElem?_inj (l:=qs.map (·.1)) (by rw [Yaa];exact hkl) hnd).mp (by rw [Yaf,Yaf,hk,hqi];simp [e])).symm)];exact hT1.r p (YaP hk)
 ·rw [List.map_set];unfold setR;rw [Yat,Yaf,hqi];rfl
theorem ZjG {H H':Hp}{M:Addr}{prs:Prs}{qs:List (Addr × Addr × List Int)} (eM:H' M=some (.lst (qs.map λx=>V.ref x.1))) (hq:∀ x∈qs,H' x.1=some (.lst (x.2.2.map V.int))) (hqm:qs.map (·.2)=prs):Tab H' M (qs.map λx=>(x.1,x.2.2))/\(qs.map λx=>(x.1,x.2.2)).map (·.2)=prs.map (·.2):=by
 refine ⟨⟨by rw [eM,Yau];rfl,λp hp=>?_⟩,by rw [Yau,<- hqm,Yau];rfl⟩;obtain ⟨x,hx,rfl⟩:=Yar.mp hp;exact hq x hx
section
variable {P:Program}{w:World}{K:Yab}{mg:Str->Option Value}{base:Heap}{C c7:Addr}
def spKG:Sp:=λvs H Q _=>∃ (t:Addr) (prs:Prs) (x c:Int),vs=[.ref t,.int x,.int c]/\Tab H t prs/\tabB prs=true/\0<=c/\∀ H',Same H H'->Q (.bl true) H'
abbrev kgN:List Str:=["table","x","cell","keeper","r","c","more","low","high","within","refused","told"]
theorem sc_keepG:FnScope kgN ["table","x","cell"] (Zad ZcZ):=scm
theorem Zjy {lo hi:Option Int}{x:Int}{H:Hp}{σ:L2.St}{Q:VK}{W:Bool} (h7:σ[7]? = some (some (oV lo))) (h8:σ[8]? = some (some (oV hi))) (h1:σ[1]? = some (some (.int x))) (hW:W=true ↔ Betw lo hi x) (q:Q (.bl W) H) :
  Zos (tOrV (tOp (λx y H Q=>y=.non/\Q (.bl (decide (x=.non))) H) (tVar 7) (tC .non)) (tOp rLeI (tVar 7) (tVar 1))) (tOrV (tOp (λx y H Q=>y=.non/\Q (.bl (decide (x=.non))) H) (tVar 8) (tC .non)) (tOp rLeI (tVar 1) (tVar 8))) σ H Q:=by
 have second:(∀ m,lo=some m->m<=x)->tOrV (tOp (λx y H Q=>y=.non/\Q (.bl (decide (x=.non))) H) (tVar 8) (tC .non)) (tOp rLeI (tVar 1) (tVar 8)) σ H Q:=λhl=>by
  cases hi with
  |none =>
   refine ⟨_,h8,rfl,_,rfl,iteT ?_⟩;rw [hW.mpr ⟨hl,λm hm=>nomatch hm⟩] at q;exact q
  |some m =>
   refine ⟨_,h8,rfl,_,rfl,iteF ⟨_,h1,_,h8,_,_,rfl,rfl,?_⟩⟩
   by_cases hx:x<=m
   ·rw [hW.mpr ⟨hl,λm' hm=>by cases hm;exact hx⟩] at q;rw [Ya4 hx];exact q
   ·rw [Ya5 hx];cases hb:W with
    |false=>rw [hb] at q;exact q
    |true=>exact absurd ((hW.mp hb).2 m rfl) hx
 cases lo with
 |none=>exact ⟨_,h7,rfl,_,rfl,iteT ⟨_,rfl,iteT (second λm hm=>nomatch hm)⟩⟩
 |some m =>
  refine ⟨_,h7,rfl,_,rfl,iteF ⟨_,h7,_,h1,_,_,rfl,rfl,_,rfl,?_⟩⟩
  by_cases hx:m<=x
  ·rw [Ya4 hx];exact iteT (second λm' hm=>by cases hm;exact hx)
  ·rw [Ya5 hx];refine iteF ?_;cases hb:W with
   |false=>rw [hb] at q;exact q
   |true=>exact absurd ((hW.mp hb).1 m rfl) hx
theorem ZmY (T:Blt mg) (kF:ExcK K c7) (hmF:mg "NoFit" = some (.ref c7)) (hsF:PySem.W.mroIn K c7 (.ref c7)=some true) (zK:KpM K mg C) (D:Zah K mg "_law_keeper_good" ZcZ ["table","x","cell"])
  (M0:MtAt P w K mg base 7 C "__init__" ["self","table"] (ZjU C)) (M1:MtAt P w K mg base 8 C "change" ["self","cell","x"] (Zf3 C)) (M1X:MtAtX P w K mg base 8 C "change" ["self","cell","x"] (ZnS C c7)) (M2:MtAt P w K mg base 8 C "undo" ["self"] (ZjR C)) (M3:MtAt P w K mg base 2 C "table" ["self"] (ZhZ C))
  (M4:MtAt P w K mg base 8 C "cells" ["self","x"] (Zh0 C)) (M5:MtAt P w K mg base 9 C "number" ["self","k"] (Zf2 C)) (M6:MtAt P w K mg base 10 C "span" ["self","cell"] (ZjS C)) (G1:FnAt P w K mg base 7 "cells_of" ["table","x"] Zc7) (G2:FnAt P w K mg base 1 "_law_is" ["table"] ZpU) :
  FnAt P w K mg base 11 "_law_keeper_good" ["table","x","cell"] spKG:=by
 refine fao D sc_keepG (λvs H Q E h=>?_) (λf g A o s H vs Q E hr h=>?_)
 ·obtain ⟨t,prs,x,c,rfl,_⟩:=h;rfl
 ·obtain ⟨t,prs,x,c,rfl,hT,hg,hc0,q⟩:=h;obtain ⟨g,g1,g2,g3,g4⟩:=ZaF hg;obtain ⟨p0,hp0,hm0,hx0⟩:=Zbg (prs:=prs) g1;have nd:=sc_keepG.nd;have nd1:(["row"]:List Str).Nodup:=by decide +kernel
  have kc:=zK.c;have gC:=M1.toX.or M1X;have hr1:Room 1 _:=hr.mono (show 1<=10 by decide);have hr2:Room 2 _:=hr.mono (show 2<=10 by decide);have hr7:Room 7 _:=hr.mono (show 7<=10 by decide);have hr8:Room 8 _:=hr.mono (show 8<=10 by decide);have hr9:Room 9 _:=hr.mono (show 9<=10 by decide);refine ⟨_,(Zaa (Zal (i:=3) nd rfl (Or.inl rfl) (Zkl M0 zK.mks zK.kp hr8 rfl zK.gl (pa1 (Zar ["row"] [none] (Zad ZcZ) kgN rfl (Zau (pv 0)) (by decide +kernel) (λ_ _ _ _ _=>pg_c 0 nd1) (λ_ _ _ _ _=>Zam) (λ_ _ _ _ _=>pe_t (Zpd K) T.list boot_list (pa1 (pv 0)))))))
   (Zaa (Zib (i:=4) (j:=5) rfl nd rfl rfl (by decide) rfl rfl (Zab (Zan ZbA (pv 2) (pln T (pv 0))) (pa1 (Zan ZbA (Zan Zhw (pv 2) Zae) (pln T (pix Zaj (pv 0) Zae))))) rfl)
   (Zaa (Zb2 ["row"] [none] (Zad ZcZ) kgN (i:=6) nd rfl (Or.inl rfl) rfl (Zau (pv 0)) (by decide +kernel) (λ_ _ _ _ _=>pg_c 0 nd1) (λ_ _ _ _ _=>Zam) (λ_ _ _ _ _=>pe_t (Zpd K) T.list boot_list (pa1 (pv 0))))
   (Zaa (ZeT (pv 1) (Zkg (pix Zaj (pv 6) (pv 4)) (pv 5) Zfc))
   (Zaa (ZeT (pe_m M6 kc.cls hr (pv 3) (pa1 (ZaD (Zab (pv 4) (pa1 (pv 5)))))) (ZcR rfl (ZaS (Zax (i:=7) nd rfl (Or.inl rfl)) (ZaS (Zax (i:=8) nd rfl (Or.inl rfl)) Zb3))))
   (Zaa (Zal (i:=9) nd rfl (Or.inl rfl) (ZbQ (ZmC (ZaM Zie (pv 7) ZbK (Za6 _)) (Zbw (ZaM o_le (pv 7) (pv 1) (Za6 _)))) (Zbw (ZmC (ZaM Zie (pv 8) ZbK (Za6 _)) (Zbw (ZaM o_le (pv 1) (pv 8) (Za6 _)))))))
   (Zaa (pifF (pcm ZcE (pv 9) (pe_f G2 hr1 (pa1 (pv 6)))))
   (Zaa (Zal (i:=10) nd rfl (Or.inl rfl) Zgn)
   (Zaa (Zal (i:=11) nd rfl (Or.inl rfl) ZbK)
   (Zaa (ZoF rfl rfl kF hmF (λpn W R hR=>Zaf (Zal (i:=11) nd rfl (Or.inl rfl) (Zri gC kc.cls hr8 hR (pv 3) (Zab (ZaD (Zab (pv 4) (pa1 (pv 5)))) (pa1 (pv 1)))))) (λv=>Zaf (Zal (i:=10) nd rfl (Or.inl rfl) Zgn)))
   (Zaa (Zbn (ZaB (pv 10)) (Zaf (Zak (ZbQ (Zkk (pv 9)) (Zbw (ZaM (ZcG hr.units) (ZmE M3 kc.cls hr2 (pv 3)) (pv 0) (Za6 _)))))) ZaI)
   (Zaa (pifF (PW.pt (Zbv (pcm (Zbx hr.units) (pv 11) (ZaD (Zab (pix Zaj (pix Zaj (pv 0) (pv 4)) (pv 5)) (pa1 (pv 1))))) (Zbv (pcm (Zbx hr.units) (ZmE M3 kc.cls hr2 (pv 3)) (pv 6)) (Zbo (ZaC (ZaB (pv 9))))))))
   (Zaa (pifF (PW.pt (Zbv (pcm (Zbx hr.units) (pe_m M4 kc.cls hr8 (pv 3) (pa1 (pv 1))) (pe_f G1 hr7 (Zab (pv 6) (pa1 (pv 1))))) (Zbo (pcm ZcE (pe_m M5 kc.cls hr9 (pv 3) (pa1 Zae)) (pix Zaj (pix Zaj (pv 6) Zae) Zae))))))
   (Zaf (Zak (ZbQ (ZaM (ZcG hr.units) (ZmE M2 kc.cls hr8 (pv 3)) (ZaD (Zab (pv 1) (pa1 (pix Zaj (pix Zaj (pv 0) (pv 4)) (pv 5))))) (Za6 _)) (Zbw (ZaM (ZcG hr.units) (ZmE M3 kc.cls hr2 (pv 3)) (pv 0) (Za6 _))))))))))))))))))),?_⟩
  refine ⟨_,rfl,t,rfl,⟨_,hT.sq⟩,Zdm (λp:Addr × List Int=>V.ref p.1) (λp=>.lst (p.2.map V.int)) hT.sq (Zao hg).1 (λp hp H' Q' sm q'=>⟨_,rfl,p.1,_,rfl,.inl ((hT.same sm).r p hp).sq,λl hl=>q' l _ hl (snw hl) Zac⟩) λM qs H1 hM hqm hnd hq s1 eM=>?_⟩;obtain ⟨hTk,hkr⟩:=ZjG (H:=H) (prs:=prs) eM (λx hx=>(hq x hx).1) hqm;intro a dx ha hdx nda;refine Znd ha hdx nda hTk (by rw [ZdQ hkr];exact hg) λt1 l qs1 H2 s2 ht1 hl hal hat hp1 hnd1 hr1' hk1=>⟨rfl,?_⟩;have s02:=s1.trans s2;have hT2:=hT.same s02;obtain ⟨i,hi,hil⟩:∃ i:Nat,c % ((prs.length:Nat):Int)=(i:Nat)/\i<prs.length:=by
   have h1:=Ybj c (show ((prs.length:Nat):Int)≠0 by omega);have h2:=Ybk c (show 0<((prs.length:Nat):Int) by omega);exact ⟨(c % ((prs.length:Nat):Int)).toNat,by omega,by omega⟩
  obtain ⟨j,hj,hjl⟩:∃ j:Nat,c / 7 % ((w0 prs:Nat):Int)=(j:Nat)/\j<w0 prs:=by
   have h1:=Ybj (c / 7) (show ((w0 prs:Nat):Int)≠0 by omega);have h2:=Ybk (c / 7) (show 0<((w0 prs:Nat):Int) by omega);exact ⟨(c / 7 % ((w0 prs:Nat):Int)).toNat,by omega,by omega⟩
  refine ⟨_,rfl,_,rfl,t,_,rfl,.inl hT2.sq,_,_,rfl,rfl,by rw [Yaa];omega,_,rfl,_,_,rfl,rfl,⟨by decide,by decide⟩,_,rfl,t,_,0,.ref p0.1,rfl,rfl,hT2.sq,Zaz (j:=0) (by rw [Yaf,hx0];rfl),p0.1,_,rfl,.inl (hT2.r p0 hm0).sq,_,_,rfl,rfl,by rw [Yaa,g.len p0 hm0];omega,_,_,rfl,?_⟩;rw [Yaa,Yaa,g.len p0 hm0,hi,hj];refine ⟨_,rfl,t,rfl,⟨_,hT2.sq⟩,Zdm (λp:Addr × List Int=>V.ref p.1) (λp=>.lst (p.2.map V.int)) hT2.sq (Zao hg).1 (λp hp H' Q' sm q'=>⟨_,rfl,p.1,_,rfl,.inl ((hT2.same sm).r p hp).sq,λl hl=>q' l _ hl (snw hl) Zac⟩) λM2 qs2 H3 hM2 hqm2 hnd2 hq2 s3 eM2=>?_⟩;obtain ⟨hTm,hmr⟩:=ZjG (H:=H2) (prs:=prs) eM2 (λx hx=>(hq2 x hx).1) hqm2;have hmn:((qs2.map λx=>(x.1,x.2.2)).map (·.1)).Nodup:=by
   rw [Yau];exact hnd2
  have hmf:∀ p∈qs2.map λx=>(x.1,x.2.2),H2 p.1=none/\p.1≠M2:=λp hp=>by
   obtain ⟨x,hx,rfl⟩:=Yar.mp hp;exact (hq2 x hx).2
  generalize (qs2.map λx=>(x.1,x.2.2))=ms at hTm hmr hmn hmf;clear hq2 eM2 hqm2 hnd2;have hml:ms.length=prs.length:=by
   have:=congrArg List.length hmr;simpa using this
  have him:i<ms.length:=by omega
  have mmi:ms[i]∈ms:=YaL him;have hmi:ms[i]? = some ms[i]:=Yac him;obtain ⟨p,hp1,hp2,hp3⟩:=ZaA (prs:=prs) (i:=i) hil;have hmi2:ms[i].2=p.2:=by
   have h1:(ms.map (·.2))[i]? = (prs.map (·.2))[i]?:=by rw [hmr]
   rw [Yaf,hmi,Yaf,hp2] at h1;simpa using h1
  have hpl:p.2.length=w0 prs:=g.len p hp1;refine ⟨_,rfl,_,rfl,_,rfl,M2,_,_,.ref ms[i].1,rfl,rfl,hTm.sq,Zaz (by rw [Yaf,hmi];rfl),_,rfl,ms[i].1,_,_,j,rfl,rfl,hTm.r ms[i] mmi,?_,?_⟩
  ·rw [Yaa,hmi2];unfold ixN;rw [Ya7 (by omega),Ya7 (by omega),Yav]
  obtain ⟨hTs,hsr⟩:=Zon j x hTm hmn (λp hp=>(hmf p hp).2) him;have z4:Same H2 (upd H3 ms[i].1 (.lst ((ms[i].2.map V.int).set j (.int x)))):=s3.upd (hmf _ mmi).1;have nms:∀ p∈ms.set i (ms[i].1,ms[i].2.set j x),H2 p.1=none:=λp hp=>by
   rcases List.mem_or_eq_of_mem_set hp with z | z
   ·exact (hmf p z).1
   ·rw [z];exact (hmf _ mmi).1
  generalize upd H3 ms[i].1 (.lst ((ms[i].2.map V.int).set j (.int x)))=H4 at hTs z4 ⊢;generalize ms.set i (ms[i].1,ms[i].2.set j x)=ns at hTs hsr nms;rw [hmr] at hsr;have hrk:Rok (prs.map (·.2)):=Zj9 (by rw [<- ZbJ rfl];exact hg);have hir:i<(prs.map (·.2)).length:=by rw [Yaa];exact hil
  have hjr:j<wR (prs.map (·.2)):=by rw [ZeA];exact hjl
  have hk4:=hk1.same z4;have hq1:qs1.map (·.2)=prs.map (·.2):=hr1'.trans hkr;have hq1l:qs1.length=prs.length:=by
   have:=congrArg List.length hq1;simpa using this
  have hq1w:w0 qs1=w0 prs:=by rw [<- ZeA,hq1,ZeA]
  have hnl:ns.length=prs.length:=by
   have:=congrArg List.length hsr;rw [Yaa,ZcP,Yaa] at this;exact this
  have hnw:w0 ns=w0 prs:=by rw [<- ZeA,hsr,Zd1 j x hir,ZeA]
  refine ⟨_,rfl,a,dx,_,rfl,hk4.ob,rfl,_,rfl,_,rfl,len2,λc5 hc5=>?_⟩;have z5:Same H4 (upd H4 c5 (.tup [.int (i:Nat),.int (j:Nat)])):=snw hc5;have e5:Cell (upd H4 c5 (.tup [.int (i:Nat),.int (j:Nat)])) c5 i j:=Zac;generalize upd H4 c5 (.tup [.int (i:Nat),.int (j:Nat)])=H5 at z5 e5 ⊢;refine ⟨a,dx,t1,l,c5,qs1,[],i,j,rfl,hk4.same z5,e5,by omega,by omega,λr6 H6 hr6 z6 e6=>?_⟩;rw [hq1] at e6;refine ⟨r6,_,rfl,sqt e6,rfl,_,_,rfl,_,_,rfl,rfl,?_⟩;obtain ⟨W,hWe⟩:∃ W,W=ZcF (setR (prs.map (·.2)) i j x):=⟨_,rfl⟩;have hW:W=true ↔ Betw (Zbz (prs.map (·.2)) i j).max? (Zbh (prs.map (·.2)) i j).min? x:=by
   rw [hWe];exact ⟨λh=>Zle hrk hir hjr (Zj9 h),λh=>Zp0 (ZlP hrk hir hjr h)⟩
  have hWt:tabB ns=W:=by rw [ZbJ hsr,<- hWe]
  refine ZdA (λN=>N (.bl W) H6) (ZdG ?_) (λtail=>Zjy rfl rfl rfl hW tail);have z46:=z5.trans z6;have hTs6:=hTs.same z46;have hnlen:∀ p∈ns,p.2.length=w0 ns:=λp hp=>by
   obtain ⟨k,hk,rfl⟩:=List.getElem_of_mem hp;have e1:(setR (prs.map (·.2)) i j x).getD k []=ns[k].2:=by
    rw [<- hsr,Yat,Yaf,Yac hk];rfl
   rw [<- e1,Zd2 j x hir,hnw,<- ZeA];exact hrk.len k (by rw [Yaa];omega)
  refine ⟨_,rfl,_,rfl,M2,ns,rfl,hTs6,by omega,by omega,hnlen,by omega,λH7 z7=>⟨rfl,_,rfl,?_⟩⟩;rw [<- ZpK (by omega) (by omega) hnlen (by omega) (by omega),hWt,Ya4 rfl];refine iteF ?_;have z47:=z46.trans z7;have hk7:=hk4.same z47;have hTs7:=hTs.same z47;have s07:Same H H7:=s02.trans (z4.trans z47);have hT7:=hT.same s07;have a0:H a=none:=s1.free ha;have l0:H l=none:=s1.free hl;have na2:H2 a≠none:=λz=>by rw [hk1.ob] at z;cases z
  have nl2:H2 l≠none:=λz=>by rw [hk1.L] at z;cases z
  refine ⟨_,rfl,a,dx,_,rfl,hk7.ob,rfl,_,rfl,_,rfl,len2,λc8 hc8=>?_⟩;have z8:Same H7 (upd H7 c8 (.tup [.int (i:Nat),.int (j:Nat)])):=snw hc8;have e8:Cell (upd H7 c8 (.tup [.int (i:Nat),.int (j:Nat)])) c8 i j:=Zac;generalize upd H7 c8 (.tup [.int (i:Nat),.int (j:Nat)])=H8 at z8 e8 ⊢;have hk8:=hk7.same z8;have hTs8:=hTs7.same z8;have hT8:=hT7.same z8;have s08:=s07.trans z8;refine ⟨_,rfl,?_⟩;cases W with
  |false =>
   refine .inr ⟨a,dx,t1,l,c8,qs1,[],i,j,x,rfl,hk8,e8,by omega,by omega,by rw [hq1,<- hWe],λH9 z9=>⟨c7,rfl,kF,hsF,λe he=>?_⟩⟩;have z10:=z9.trans (snw (o:=excO e c7) he);generalize upd H9 e (excO e c7)=H10 at z10 ⊢;have hk10:=hk8.same z10;refine ⟨_,rfl,_,rfl,iteT ⟨_,rfl,_,rfl,_,rfl,iteT ⟨_,rfl,a,dx,_,rfl,hk10.ob,rfl,a,dx,t1,l,qs1,[],rfl,hk10,λtt qt H11 htt hqt hndt z11 hTt hrt=>⟨_,rfl,_,_,hTt.rd,(hT8.same (z10.trans z11)).rd,Za8 _,Za8 _,?_⟩⟩⟩⟩;rw [hrt,hq1,Zej];exact q H11 (s08.trans (z10.trans z11))
  |true =>
   refine .inl ⟨a,dx,t1,l,c8,qs1,[],i,j,x,rfl,hk8,e8,by omega,by omega,by decide,by rw [hq1,<- hWe],λt9 qs9 u9 r9 H9 ht9 hq9 hnd9 hu9 hr9 fr9 hrows9 er9 nra9 nrl9 hk9=>?_⟩;have ex0:(Zat qs1 i).getD j 0=p.2.getD j 0:=by rw [<- ZbD,hq1,ZbD,hp3]
   rw [hq1] at hrows9;rw [ex0] at er9 hk9;have tb9:∀ {t':Addr}{ps:Prs}{HH:Hp},Tab H8 t' ps->(∀ b o,b≠a->b≠l->H8 b=some o->HH b=some o)->t'≠a->t'≠l->(∀ p∈ps,p.1≠a/\p.1≠l)->Tab HH t' ps:=λh f n1 n2 n3=>⟨f _ _ n1 n2 h.l,λp hp=>f _ _ (n3 p hp).1 (n3 p hp).2 (h.r p hp)⟩;have off0:∀ {b:Addr}{o:HO},H b=some o->b≠a/\b≠l:=λe=>⟨Zai e a0,Zai e l0⟩;have off2:∀ {b:Addr},H2 b=none->b≠a/\b≠l:=λe=>⟨λz=>na2 (by rw [<- z];exact e),λz=>nl2 (by rw [<- z];exact e)⟩;have hT9:Tab H9 t prs:=tb9 hT8 fr9 (off0 hT.l).1 (off0 hT.l).2 λp hp=>off0 (hT.r p hp);have hTs9:Tab H9 M2 ns:=tb9 hTs8 fr9 (off2 hM2).1 (off2 hM2).2 λp hp=>off2 (nms p hp);have s09:Same H H9:=λb o e=>fr9 b o (off0 e).1 (off0 e).2 (s08 _ _ e);have hrk':Rok (setR (prs.map (·.2)) i j x):=Zj9 hWe.symm;have hpc:Zbb (prs.map (·.2)) i j=p.2.getD j 0:=by rw [ZbD,hp3]
   refine ⟨_,rfl,_,rfl,iteF ⟨_,rfl,_,rfl,_,rfl,t,_,_,.ref p.1,rfl,rfl,hT9.sq,Zaz (by rw [Yaf,hp2];rfl),_,rfl,p.1,_,_,.int (p.2.getD j 0),rfl,rfl,(hT9.r p hp1).sq,ZaW (by rw [hpl];exact hjl),_,rfl,len2,λT10 hT10=>?_⟩⟩;have z10:Same H9 (upd H9 T10 (.tup [.int (p.2.getD j 0),.int x])):=snw hT10;have e10:(upd H9 T10 (.tup [.int (p.2.getD j 0),.int x])) T10=some (.tup [.int (p.2.getD j 0),.int x]):=Zac;generalize upd H9 T10 (.tup [.int (p.2.getD j 0),.int x])=H10 at z10 e10 ⊢;refine ⟨_,_,Zh6 (z10 _ _ er9),Zh6 e10,Zct _ _,Zct _ _,_,rfl,?_⟩;rw [Zli];have hk10:=hk9.same z10;have hTs10:=hTs9.same z10;refine iteF ⟨_,rfl,a,dx,_,rfl,hk10.ob,rfl,a,dx,t9,l,qs9,_,rfl,hk10,λtt qt H11 htt hqt hndt z11 hTt hrt=>⟨_,rfl,_,_,hTt.rd,(hTs10.same z11).rd,Za8 _,Za8 _,_,rfl,?_⟩⟩;rw [hrt,hrows9,hsr,Zej];refine iteF ⟨_,rfl,_,rfl,iteF ?_⟩;have z911:=z10.trans z11;have hk11:=hk9.same z911;have hTs11:=hTs9.same z911;refine ⟨_,rfl,a,dx,_,rfl,hk11.ob,rfl,_,rfl,a,dx,t9,l,qs9,_,x,rfl,hk11,λL12 es12 H12 hL12 z12 e12 hes12 hcu12 hcl12=>?_⟩;refine ⟨_,rfl,_,rfl,M2,ns,x,rfl,hTs11.same z12,hWt,λL13 es13 H13 hL13 z13 e13 hes13 hcu13 hcl13=>?_⟩;refine ⟨_,_,Zca (z13 _ _ e12) (λc hc=>z13 _ _ (hes12 c hc).1),Zca e13 (λc hc=>(hes13 c hc).1),ZaL _,ZaL _,_,rfl,?_⟩;rw [hcu12,hcu13,ZgY (hrows9.trans hsr.symm),Zcx];have z1113:=z12.trans z13;have hk13:=hk11.same z1113;have hTs13:=hTs11.same z1113;have hq9l:qs9.length=prs.length:=by
    have:=congrArg List.length hrows9;rw [Yaa,ZcP,Yaa] at this;exact this
   have hq9w:w0 qs9=w0 prs:=by rw [<- ZeA,hrows9,Zd1 j x hir,ZeA]
   refine iteF ⟨_,rfl,a,dx,_,rfl,hk13.ob,rfl,a,dx,t9,l,qs9,_,0,rfl,hk13,Nat.mul_pos (by omega) (by omega),λn H14 z14 hn=>?_⟩;rw [hrows9] at hn;obtain ⟨m0,hmm0,hmmem,hmx0⟩:=Zbg (prs:=ns) (by omega);have hTs14:=hTs13.same z14;have en:n=m0.2.getD 0 0:=by
    rw [ZkH hrk' hn,<- hsr,ZbD];unfold Zat;rw [hmx0];rfl
   refine ⟨_,rfl,M2,_,0,.ref m0.1,rfl,rfl,hTs14.sq,Zaz (j:=0) (by rw [Yaf,hmx0];rfl),m0.1,_,0,.int (m0.2.getD 0 0),rfl,rfl,(hTs14.r m0 hmmem).sq,ZaW (i:=0) (by rw [hnlen m0 hmmem];omega),rfl,_,rfl,?_⟩;rw [en,Ya4 rfl];refine iteF ?_;have z914:=z911.trans (z1113.trans z14);have hk14:=hk9.same z914;refine ⟨_,rfl,a,dx,_,rfl,hk14.ob,rfl,a,dx,t9,l,u9,c8,qs9,[],i,j,p.2.getD j 0,rfl,hk14,by decide,?_,λt15 qs15 r15 H15 ht15 hq15 hnd15 hr15 fr15 hrows15 er15 nra15 nrl15 hk15=>?_⟩
   ·rw [hrows9,<- hpc,Zga j x hir];exact (ZbJ (prs:=prs) rfl).symm.trans hg
   have exx:(Zat qs9 i).getD j 0=x:=by
    rw [<- ZbD,hrows9,Zbk x hir (by rw [hrk.len i hir];exact hjr),Ya7 ⟨rfl,rfl⟩]
   rw [exx] at er15;rw [hrows9,<- hpc,Zga j x hir] at hrows15;have s014:=s09.trans z914;have s015:Same H H15:=λb o e=>fr15 b o (off0 e).1 (off0 e).2 (s014 _ _ e);have hT15:=hT.same s015;refine ⟨_,rfl,_,rfl,_,rfl,t,_,_,.ref p.1,rfl,rfl,hT15.sq,Zaz (by rw [Yaf,hp2];rfl),_,rfl,p.1,_,_,.int (p.2.getD j 0),rfl,rfl,(hT15.r p hp1).sq,ZaW (by rw [hpl];exact hjl),len2,λT16 hT16=>?_⟩;have z16:Same H15 (upd H15 T16 (.tup [.int x,.int (p.2.getD j 0)])):=snw hT16;have e16:(upd H15 T16 (.tup [.int x,.int (p.2.getD j 0)])) T16=some (.tup [.int x,.int (p.2.getD j 0)]):=Zac;generalize upd H15 T16 (.tup [.int x,.int (p.2.getD j 0)])=H16 at z16 e16 ⊢;refine ⟨_,_,Zh6 (z16 _ _ er15),Zh6 e16,Zct _ _,Zct _ _,_,rfl,?_⟩;rw [Zli];have hk16:=hk15.same z16;refine iteT ⟨_,rfl,a,dx,_,rfl,hk16.ob,rfl,a,dx,t15,l,qs15,_,rfl,hk16,λtt2 qt2 H17 htt2 hqt2 hndt2 z17 hTt2 hrt2=>⟨_,rfl,_,_,hTt2.rd,(hT15.same (z16.trans z17)).rd,Za8 _,Za8 _,?_⟩⟩;rw [hrt2,hrows15,Zej];exact q H17 (s015.trans (z16.trans z17))
end
end Seek
namespace L2
open PySem PySem.Spec PyProof.Rows
theorem ZhL {α:Type}{K:Yab}{a:Addr}{cs:List α}{σ0:St}{H1:Hp}{tc:TT}{te:TE}{Q:VK} (ad:α->Addr) (f1 f2:α->V) (p:α->Bool) (o:α->HO) (hq:SqL K H1 a (cs.map λc=>V.ref (ad c))) (hc:∀ c∈cs,H1 (ad c)=some (.tup [f1 c,f2 c])) (hn:cs.length<=1000)
  (ht:∀ c∈cs,∀ (H':Hp) (Q':Bool->Hp->Prop),Same H1 H'->Q' (p c) H'->tc ((σ0.set 0 (some (f1 c))).set 1 (some (f2 c))) H' Q')
  (he:∀ c∈cs,∀ (H':Hp) (Q':VK),Same H1 H'->(∀ l H'',H' l=none->Same H' H''->H'' l=some (o c)->Q' (.ref l) H'')->te ((σ0.set 0 (some (f1 c))).set 1 (some (f2 c))) H' Q')
  (fin:∀ (D:Addr) (qs:List (Addr × α)) (H':Hp),H1 D=none->qs.map (·.2)=cs.filter p->(∀ q∈qs,H' q.1=some (o q.2)/\H1 q.1=none/\q.1≠D)->Same H1 H'->H' D=some (.lst (qs.map λq=>V.ref q.1))->Q (.ref D) H') :
  ZaQ (Itl K a) (gTup K 2 (Zb7 (Za1 0) (Zb7 (Za1 1) gNil))) tc te σ0 H1 Q:=by
 intro D hD;refine ⟨λi m ys σ' H'=>m=cs.length - i/\i<=cs.length/\(∀ u v,(σ'.set 0 u).set 1 v=(σ0.set 0 u).set 1 v)/\∃ qs:List (Addr × α),Same H1 H'/\H' D=some (.lst ys)/\ys=(qs.map λq=>V.ref q.1)/\qs.map (·.2)=(cs.take i).filter p/\∀ q∈qs,H' q.1=some (o q.2)/\H1 q.1=none/\q.1≠D,
  ⟨cs.length,by simp,YaH _,λ_ _=>rfl,[],snw hD,Zac,rfl,by simp,λq hq=>nomatch hq⟩,?_⟩
 rintro i m ys σ' H' ⟨rfl,hi,es,qs,sm,hDl,hys,hqm,hqs⟩;refine ⟨hDl,?_⟩;have q:=sm.seq hq
 by_cases hlt:i<cs.length
 ·refine .inr ⟨⟨_,V.ref (ad cs[i]),q,by simp [hlt]⟩,λx H2 y=>?_⟩;obtain ⟨rfl,y⟩:=y;have y:=y _ q;rw [Yaf,Yac hlt] at y;have hx:V.ref (ad cs[i])=x:=Yae y;subst hx;refine ⟨ad cs[i],_,rfl,sqt (sm _ _ (hc cs[i] (YaL hlt))),rfl,_,_,rfl,_,_,rfl,rfl,?_⟩;have tk:cs.take (i+1)=cs.take i ++ [cs[i]]:=by
   rw [List.take_add_one,Yac hlt];rfl
  have ql:qs.length<=i:=by
   have:=congrArg List.length hqm;rw [Yaa] at this;have h2:((cs.take i).filter p).length<=(cs.take i).length:=Ybm _ _;rw [YaR] at h2;omega
  rw [es];refine ht cs[i] (YaL hlt) _ _ sm ?_;cases hp:p cs[i] with
  |false =>
   refine iteF ⟨cs.length - (i+1),by omega,rfl,hlt,λ_ _=>set2,qs,sm,hDl,hys,?_,hqs⟩;rw [tk,List.filter_append,hqm,List.filter_cons,hp];simp
  |true =>
   refine iteT (he cs[i] (YaL hlt) _ _ sm λl H5 hl s5 el=>?_);have nlD:D≠l:=Zai hDl hl;refine ⟨s5 _ _ hDl,?_,cs.length - (i+1),by omega,rfl,hlt,λ_ _=>set2,qs ++ [(l,cs[i])],(sm.trans s5).upd hD,Zac,?_,?_,?_⟩
   ·rw [hys,Yaa];exact Zav (by omega)
   ·rw [hys,Yah];rfl
   ·rw [Yah,hqm,tk,List.filter_append,List.filter_cons,hp];rfl
   ·intro r hr;rcases YaG.mp hr with z | z
    ·obtain ⟨z1,z2,z3⟩:=hqs r z;exact ⟨by rw [Zag z3];exact s5 _ _ z1,z2,z3⟩
    ·have:r=(l,cs[i]):=by simpa using z
     subst this;exact ⟨by rw [Zag (Ne.symm nlD)];exact el,sm.free hl,Ne.symm nlD⟩
 ·have e:i=cs.length:=by omega
  subst e;rw [List.take_length] at hqm;refine .inl ⟨⟨_,q,by simp⟩,fin D qs H' hD hqm hqs sm ?_⟩;rw [hDl,hys]
end L2
namespace Seek
open PySem L2 PyProof.Rows
theorem Zmd {prs:Prs} (hg:tabB prs=true) (x:Int):((ZbC prs.length (w0 prs)).filter λc=>decide ((Zat prs c.1).getD c.2 0=x))=ZaK prs x prs.length:=by
 unfold ZbC ZaK;rw [List.filter_flatMap];have key:∀ {α β:Type}{l:List α}{f g:α->List β},(∀ a∈l,f a=g a)->l.flatMap f=l.flatMap g:=λ{α β l f g} h=>by
  induction l with
  |nil=>rfl
  |cons a r ih=>rw [List.flatMap_cons,List.flatMap_cons,h a (.head _),ih λb hb=>h b (.tail _ hb)]
 refine key λi hi=>?_;rw [List.filter_map,Zcf hg (List.mem_range.mp hi)];rfl
section
variable {P:Program}{w:World}{K:Yab}{mg:Str->Option Value}{base:Heap}{C:Addr}
def Zme (K:Yab):Sp:=λvs H Q _=>∃ (a:Addr) (ns:List Int),vs=[.ref a]/\SqL K H a (ns.map V.int)/\ns.length<=63/\∀ H',Q (.bl true) H'
abbrev lawN:List Str:=["script","k","cell","table","spots","r","c","x","due","rows","places"]
theorem sc_law:FnScope lawN ["script"] (Zad dLaw):=scm
inductive LwA (H:Hp) (a:Addr) (σ:L2.St) (H2:Hp):Prop
 |mk (o1 o2 o3 o4 o5 o6 o7 o8 o9 o10:Option V) (h1:σ = [some (.ref a),o1,o2,o3,o4,o5,o6,o7,o8,o9,o10]) (h2:Same H H2):LwA H a σ H2
theorem Zqk (T:Blt mg) (hmin:mg "min" = none) {f:Addr}{fd:FuncData} (F:Fun K "law" "law" dLaw f fd) (G1:FnAt P w K mg base 1 "_law_cell" ["script","k"] (ZjQ K)) (G2:FnAt P w K mg base 1 "_law_mixed" ["cell","k"] ZdT) (G3:FnAt P w K mg base 2 "_law_table" ["cell","most"] ZjK)
  (G4:FnAt P w K mg base 1 "_law_spots" ["table"] Zg9) (G5:FnAt P w K mg base 7 "cells_of" ["table","x"] Zc7) (G6:FnAt P w K mg base 7 "number_at" ["table","cell"] ZbF) (G7:FnAt P w K mg base 9 "_law_walk_good" ["table","x"] spTX) (G8:FnAt P w K mg base 9 "_law_stairs_good" ["table","x","cell"] spSG)
  (G9:FnAt P w K mg base 10 "_law_order_good" ["table","x","other"] spOG) (G10:FnAt P w K mg base 37 "_law_looks_good" ["r","p","cell"] ZpV) (G11:FnAt P w K mg base 8 "_law_turned_good" ["table","x"] spTX) (G12:FnAt P w K mg base 11 "_law_keeper_good" ["table","x","cell"] spKG):FnOk P w K mg base CX0 38 f fd ["script"] (Zme K):=by
 refine F.ok sc_law (λvs H Q E h=>?_) (λg A o s H vs Q E hr h=>?_)
 ·obtain ⟨a,ns,rfl,_⟩:=h;rfl
 ·obtain ⟨a0,ns,rfl,hS,hlen,q⟩:=h;have nd:=sc_law.nd;have nd5:(["a","b","table","x"]:List Str).Nodup:=by decide +kernel
  have hr1:Room 1 _:=hr.mono (show 1<=37 by decide);have hr2:Room 2 _:=hr.mono (show 2<=37 by decide);have hr7:Room 7 _:=hr.mono (show 7<=37 by decide);have hr8:Room 8 _:=hr.mono (show 8<=37 by decide);have hr9:Room 9 _:=hr.mono (show 9<=37 by decide);have hr10:Room 10 _:=hr.mono (show 10<=37 by decide);have hr11:Room 11 _:=hr.mono (show 11<=37 by decide);refine ⟨_,Zaa (Zbi PassesOwn.never rfl (ZaG rfl T.rng (pa1 (pe_b (ZbX rfl) T.max boot_max (Zab Zae (pa1 (pe_b (Zg0 rfl) hmin boot_min (Zab (pln T (pv 0)) (pa1 Zae)))))))) (Zax (i:=1) nd rfl (Or.inl rfl))
   (Zaa (Zal (i:=2) nd rfl (Or.inl rfl) (pe_b ZnG T.abs boot_abs (pa1 (pe_f G1 hr1 (Zab (pv 0) (pa1 (pv 1)))))))
   (Zaa (Zal (i:=3) nd rfl (Or.inr rfl) (pe_f G3 hr2 (Zab (pe_f G2 hr1 (Zab (pv 2) (pa1 (pv 1)))) (pa1 Zae))))
   (Zaa (Zal (i:=4) nd rfl (Or.inl rfl) (pe_f G4 hr1 (pa1 (pv 3))))
   (Zaa (ZeT (pix Zaj (pv 4) (Zan ZbA (pe_f G2 hr1 (Zab (pv 2) (pa1 Zae))) (pln T (pv 4)))) (ZcR rfl (ZaS (Zax (i:=5) nd rfl (Or.inl rfl)) (ZaS (Zax (i:=6) nd rfl (Or.inl rfl)) Zb3))))
   (Zaa (Zal (i:=7) nd rfl (Or.inr rfl) (Zan Zby (pix Zaj (pix Zaj (pv 3) (pv 5)) (pv 6)) (pix Zaj (ZaN (Zab Zae (Zab Zae (Zab (Zfl Zfs Zae) (Zab Zae (pa1 Zae)))))) (Zan ZbA (pe_f G2 hr1 (Zab (pv 2) (pa1 Zae))) Zae))))
   (Zaa (Zb2 ["a","b","table","x"] [none,none,some 3,some 7] (Zad dLaw) lawN (i:=8) nd rfl (Or.inl rfl) rfl (Zau (pv 4)) (by decide +kernel) (λ_ _ _ _ _=>Zgm K rfl nd5) (λ_ _ _ _ _=>ZaR (pcm Zdy (pix (ixL K) (pix (ixL K) (pv 2) (pv 0)) (pv 1)) (pv 3)))
    (λ_ _ _ _ _=>ZaD (Zab (pv 0) (pa1 (pv 1)))))
   (Zaa (pifF (pcm (Zbx hr.units) (pe_f G5 hr7 (Zab (pv 3) (pa1 (pv 7)))) (pv 8)))
   (Zaa (pifF (pcm ZcE (pe_f G6 hr7 (Zab (pv 3) (pa1 (ZaD (Zab (pv 5) (pa1 (pv 6))))))) (pix Zaj (pix Zaj (pv 3) (pv 5)) (pv 6))))
   (Zaa (pifF (ZaC (ZaB (pe_f G7 hr9 (Zab (pv 3) (pa1 (pv 7)))))))
   (Zaa (pifF (ZaC (ZaB (pe_f G8 hr9 (Zab (pv 3) (Zab (pv 7) (pa1 (pe_f G2 hr1 (Zab (pv 2) (pa1 Zae))))))))))
   (Zaa (pifF (ZaC (ZaB (pe_f G9 hr10 (Zab (pv 3) (Zab (pv 7) (pa1 (Zan Zb4 (Zan Zby (pv 7) (Zan ZbA (pe_f G2 hr1 (Zab (pv 2) (pa1 Zae))) Zae)) Zae))))))))
   (Zaa (Zal (i:=9) nd rfl (Or.inl rfl) (Zan Zby Zae (Zan ZbA (pe_f G2 hr1 (Zab (pv 2) (pa1 Zae))) Zae)))
   (Zaa (Zal (i:=10) nd rfl (Or.inl rfl) (Zan Zby Zae (Zan ZbA (pe_f G2 hr1 (Zab (pv 2) (pa1 Zae))) (pix Zaj (ZaN (Zab Zae (Zab Zae (pa1 Zae)))) (Zan Zb4 (pv 9) Zae)))))
   (Zaa (pifF (ZaC (ZaB (pe_f G10 hr (Zab (pv 9) (Zab (pv 10) (pa1 (pe_f G2 hr1 (Zab (pv 2) (pa1 Zae))))))))))
   (Zaa (pifF (ZaC (ZaB (pe_f G11 hr8 (Zab (pv 3) (pa1 (pv 7)))))))
   (Zaf (pifF (ZaC (ZaB (pe_f G12 hr11 (Zab (pv 3) (Zab (Zan Zb4 (Zan Zby (pv 7) (Zan ZbA (pe_f G2 hr1 (Zab (pv 2) (pa1 Zae))) Zae)) Zae) (pa1 (pe_f G2 hr1 (Zab (pv 2) (pa1 Zae)))))))))))))))))))))))))))
   (Zaf (Zak Zgn)),?_⟩
  refine ⟨_,rfl,a0,_,rfl,.inl hS,_,_,rfl,_,_,rfl,?_⟩;rw [Yaa];have hb:∀ y:Int,y=(if (if (7:Int)<(ns.length:Int) then 7 else (ns.length:Int)) > 2 then (if (7:Int)<(ns.length:Int) then 7 else (ns.length:Int)) else 2)->0<=y/\y<=12:=λy hy=>by
   subst hy;split
   ·split at * <;> omega
   ·omega
  have hb:=hb _ rfl;generalize (if (if (7:Int)<(ns.length:Int) then 7 else (ns.length:Int)) > 2 then (if (7:Int)<(ns.length:Int) then 7 else (ns.length:Int)) else 2)=many at hb ⊢;refine ⟨many,rfl,by omega,by omega,ZaZ (λ_=>LwA H a0) ⟨none,none,none,none,none,none,none,none,none,none,rfl,srf _⟩ ?_ (λσ H2 _=>q H2)⟩;rintro i σ H2 hi ⟨o1,o2,o3,o4,o5,o6,o7,o8,o9,o10,rfl,sm⟩;rw [Int.zero_add];refine ⟨_,rfl,_,rfl,a0,ns,i,rfl,sm.seq hS,by omega,λc=>⟨c,rfl,?_⟩⟩;generalize (if c<0 then -c else c)=cell;refine ⟨_,rfl,_,rfl,cell,i,rfl,by omega,λv3 H3 v30 _ z3=>⟨v3,rfl,v30,λt prs H4 ht hpn hnd z4 hT hg hb27=>?_⟩⟩;obtain ⟨g,g1,g2,g3,g4⟩:=ZaF hg;refine ⟨_,rfl,t,prs,rfl,hT,hg,λL cs H5 hL z5 C5 hcs=>?_⟩;have hcl:=congrArg List.length hcs;rw [Yaa,Zcr] at hcl;have hcp:0<cs.length:=by rw [hcl];exact Nat.mul_pos (by omega) (by omega)
  have hc36:cs.length<=36:=by rw [hcl];exact Nat.mul_le_mul (show prs.length<=6 from g2) g4
  refine ⟨_,rfl,_,rfl,cell,61,rfl,by decide,λv6 H6 v60 _ z6=>?_⟩;have C6:=C5.same z6;obtain ⟨n,hn,hnl⟩:∃ n:Nat,v6 % ((cs.length:Nat):Int)=(n:Nat)/\n<cs.length:=by
   have h1:=Ybj v6 (show ((cs.length:Nat):Int)≠0 by omega);have h2:=Ybk v6 (show 0<((cs.length:Nat):Int) by omega);exact ⟨(v6 % ((cs.length:Nat):Int)).toNat,by omega,by omega⟩
  refine ⟨_,rfl,L,_,rfl,.inl (sqo C6.l),_,_,rfl,rfl,by rw [Yaa];omega,L,_,_,.ref cs[n].1,rfl,rfl,sqo C6.l,?_,?_⟩
  ·rw [Yaa,hn];exact Zaz (by rw [Yaf,Yac hnl];rfl)
  have hcm:cs[n]∈cs:=YaL hnl;generalize cs[n]=s0 at hcm ⊢;have hs0:s0.2.1<prs.length/\s0.2.2<w0 prs:=Zc5 (by rw [<- hcs];exact Yar.mpr ⟨s0,hcm,rfl⟩);obtain ⟨hs1,hs2⟩:=hs0;refine ⟨s0.1,_,rfl,sqt (C6.c s0 hcm),rfl,_,_,rfl,_,_,rfl,rfl,?_⟩;obtain ⟨p,hp1,hp2,hp3⟩:=ZaA (prs:=prs) (i:=s0.2.1) hs1;have hpl:s0.2.2<p.2.length:=by rw [g.len p hp1];exact hs2
  have hT6:=(hT.same z5).same z6;refine ⟨_,rfl,_,rfl,t,_,_,.ref p.1,rfl,rfl,hT6.sq,Zaz (by rw [Yaf,hp2];rfl),_,rfl,p.1,_,_,.int (p.2.getD s0.2.2 0),rfl,rfl,(hT6.r p hp1).sq,ZaW hpl,_,rfl,sl6 (by decide),λl7 hl7=>?_⟩;have z7:Same H6 (upd H6 l7 (.lst [.int 0,.int 1,.int (-1),.int 0,.int 5])):=snw hl7;have e7:SqL K (upd H6 l7 (.lst [.int 0,.int 1,.int (-1),.int 0,.int 5])) l7 [.int 0,.int 1,.int (-1),.int 0,.int 5]:=sqo Zac;generalize upd H6 l7 (.lst [.int 0,.int 1,.int (-1),.int 0,.int 5])=H7 at z7 e7 ⊢;refine ⟨_,rfl,cell,62,rfl,by decide,λv8 H8 v80 _ z8=>?_⟩;obtain ⟨e,he⟩:∃ e:Int,atI [V.int 0,.int 1,.int (-1),.int 0,.int 5] (v8 % 5)=some (.int e):=by
   have h1:=Ybj v8 (show (5:Int)≠0 by decide);have h2:=Ybk v8 (show (0:Int)<5 by decide);rcases (show v8 % 5=0\/v8 % 5=1\/v8 % 5=2\/v8 % 5=3\/v8 % 5=4 by omega) with z | z | z | z | z <;> rw [z] <;> exact ⟨_,rfl⟩
  refine ⟨_,_,rfl,rfl,by decide,l7,_,_,_,rfl,rfl,z8.seq e7,he,_,_,rfl,rfl,?_⟩;generalize p.2.getD s0.2.2 0+e=x;have C8:=(C6.same z7).same z8;have hT8:=(hT6.same z7).same z8;have s08:Same H H8:=sm.trans (z3.trans (z4.trans (z5.trans (z6.trans (z7.trans z8)))));refine ⟨_,rfl,L,rfl,⟨_,sqo C8.l⟩,ZhL (cs:=cs) (·.1) (λc=>.int (c.2.1:Nat)) (λc=>.int (c.2.2:Nat)) (λc=>decide ((Zat prs c.2.1).getD c.2.2 0=x)) (λc=>.tup [.int (c.2.1:Nat),.int (c.2.2:Nat)]) (sqo C8.l) C8.c (by omega) (λc hc H' Q' sm' q'=>?_) (λc hc H' Q' sm' q'=>⟨_,rfl,_,rfl,len2,λl hl=>q' l _ hl (snw hl) Zac⟩) λD9 qs9 H9 hD9 hqm9 hqs9 z9 eD9=>?_⟩
  ·obtain ⟨hc1,hc2⟩:c.2.1<prs.length/\c.2.2<w0 prs:=Zc5 (by rw [<- hcs];exact Yar.mpr ⟨c,hc,rfl⟩);obtain ⟨pc,hq1,hq2,hq3⟩:=ZaA (prs:=prs) (i:=c.2.1) hc1;have hT':=hT8.same sm';refine ⟨_,rfl,_,rfl,t,_,_,.ref pc.1,rfl,rfl,hT'.sq,Zaz (by rw [Yaf,hq2];rfl),_,rfl,pc.1,_,_,.int (pc.2.getD c.2.2 0),rfl,rfl,(hT'.r pc hq1).sq,ZaW (by rw [g.len pc hq1];exact hc2),_,rfl,rfl,_,rfl,?_⟩;rw [hq3] at q';rw [show decide (V.int (pc.2.getD c.2.2 0)=V.int x)=decide (pc.2.getD c.2.2 0=x) from Ybb.mpr ⟨λh=>V.int.inj h,λh=>by rw [h]⟩];exact q'
  have CD:CL H9 D9 (qs9.map λq=>(q.1,q.2.2)):=⟨by rw [eD9,Yau];rfl,λc hc=>by
   obtain ⟨q',hq',rfl⟩:=Yar.mp hc
   exact (hqs9 q' hq').1⟩
  have hdu:(qs9.map λq=>(q.1,q.2.2)).map (·.2)=ZaK prs x prs.length:=by
   rw [<- Zmd hg x,<- hcs,List.filter_map,Yau];have:qs9.map (λq=>q.2.2)=(qs9.map (·.2)).map (·.2):=by rw [Yau];rfl
   show qs9.map (λq=>q.2.2)=_;rw [this,hqm9];rfl
  have hT9:=hT8.same z9;refine ⟨_,rfl,_,rfl,t,prs,x,rfl,hT9,hg,λL10 es10 H10 hL10 z10 e10 hes10 hcu10 hcl10=>⟨_,rfl,_,_,Zca e10 (λc hc=>(hes10 c hc).1),(CD.same z10).rd,ZaL _,ZaL _,_,rfl,?_⟩⟩;rw [hcu10,hdu,Zcx];have hT10:=hT9.same z10;refine iteF ⟨_,rfl,_,rfl,_,rfl,len2,λc11 hc11=>?_⟩;have z11:Same H10 (upd H10 c11 (.tup [.int (s0.2.1:Nat),.int (s0.2.2:Nat)])):=snw hc11;have e11:Cell (upd H10 c11 (.tup [.int (s0.2.1:Nat),.int (s0.2.2:Nat)])) c11 s0.2.1 s0.2.2:=Zac;generalize upd H10 c11 (.tup [.int (s0.2.1:Nat),.int (s0.2.2:Nat)])=H11 at z11 e11 ⊢;have hT11:=hT10.same z11;refine ⟨t,c11,prs,s0.2.1,s0.2.2,rfl,hT11,hg,e11,hs1,hs2,λH12 z12=>?_⟩;have hT12:=hT11.same z12;refine ⟨_,rfl,_,rfl,t,_,_,.ref p.1,rfl,rfl,hT12.sq,Zaz (by rw [Yaf,hp2];rfl),_,rfl,p.1,_,_,.int (p.2.getD s0.2.2 0),rfl,rfl,(hT12.r p hp1).sq,ZaW hpl,rfl,_,rfl,?_⟩;rw [hp3,Ya4 rfl];refine iteF ⟨_,rfl,_,rfl,t,prs,x,rfl,hT12,hg,λH13 z13=>⟨_,rfl,iteF ?_⟩⟩;refine ⟨_,rfl,_,rfl,_,rfl,cell,63,rfl,by decide,λv14 H14 _ _ z14=>⟨t,prs,x,v14,rfl,(hT12.same z13).same z14,hg,λH15 z15=>⟨_,rfl,iteF ?_⟩⟩⟩;have hT15:=((hT12.same z13).same z14).same z15;refine ⟨_,rfl,_,rfl,_,rfl,_,rfl,cell,64,rfl,by decide,λv16 H16 _ _ z16=>⟨_,_,rfl,rfl,by decide,_,_,rfl,rfl,_,_,rfl,rfl,t,prs,x,_,rfl,hT15.same z16,hg,λH17 z17=>⟨_,rfl,iteF ?_⟩⟩⟩;have hT17:=(hT15.same z16).same z17;refine ⟨_,rfl,cell,65,rfl,by decide,λv18 H18 _ _ z18=>⟨_,_,rfl,rfl,by decide,_,_,rfl,rfl,?_⟩⟩;obtain ⟨R,hR,hR1,hR3⟩:∃ R:Nat,1+v18 % 3=(R:Nat)/\1<=R/\R<=3:=by
   have h1:=Ybj v18 (show (3:Int)≠0 by decide);have h2:=Ybk v18 (show (0:Int)<3 by decide);exact ⟨(1+v18 % 3).toNat,by omega,by omega,by omega⟩
  rw [hR];refine ⟨_,rfl,cell,66,rfl,by decide,λv19 H19 _ _ z19=>⟨sl6 (by decide),λl20 hl20=>?_⟩⟩;have z20:Same H19 (upd H19 l20 (.lst [.int 4,.int 4,.int 3])):=snw hl20;have e20:SqL K (upd H19 l20 (.lst [.int 4,.int 4,.int 3])) l20 [.int 4,.int 4,.int 3]:=sqo Zac;generalize upd H19 l20 (.lst [.int 4,.int 4,.int 3])=H20 at z20 e20 ⊢;obtain ⟨m,hm,hm1,hm4⟩:∃ m:Int,atI [V.int 4,.int 4,.int 3] ((R:Int) - 1)=some (.int m)/\1<=m/\m<=4:=by
   rcases (show (R:Int) - 1=0\/(R:Int) - 1=1\/(R:Int) - 1=2 by omega) with z | z | z <;> rw [z]
   ·exact ⟨4,rfl,by decide,by decide⟩
   ·exact ⟨4,rfl,by decide,by decide⟩
   ·exact ⟨3,rfl,by decide,by decide⟩
  refine ⟨_,rfl,_,_,rfl,rfl,l20,_,_,.int m,rfl,rfl,e20,hm,_,_,rfl,rfl,by omega,_,_,rfl,rfl,?_⟩;obtain ⟨N,hN,hN1,hN4⟩:∃ N:Nat,1+v19 % m=(N:Nat)/\1<=N/\N<=4:=by
   have h1:=Ybj v19 (show m≠0 by omega);have h2:=Ybk v19 (show 0<m by omega);exact ⟨(1+v19 % m).toNat,by omega,by omega,by omega⟩
  rw [hN];refine ⟨_,rfl,_,rfl,_,rfl,cell,67,rfl,by decide,λv21 H21 _ _ z21=>⟨R,N,v21,rfl,hR1,by omega,hN1,hN4,λH22 z22=>⟨_,rfl,iteF ?_⟩⟩⟩;have hT22:=hT17.same (z18.trans (z19.trans (z20.trans (z21.trans z22))));refine ⟨_,rfl,_,rfl,t,prs,x,rfl,hT22,hg,λH23 z23=>⟨_,rfl,iteF ?_⟩⟩;refine ⟨_,rfl,_,rfl,_,rfl,cell,68,rfl,by decide,λv24 H24 _ _ z24=>⟨_,_,rfl,rfl,by decide,_,_,rfl,rfl,_,_,rfl,rfl,_,rfl,cell,69,rfl,by decide,λv25 H25 v250 _ z25=>⟨t,prs,_,v25,rfl,hT22.same (z23.trans (z24.trans z25)),hg,v250,λH26 z26=>⟨_,rfl,iteF ?_⟩⟩⟩⟩;exact ⟨_,_,_,_,_,_,_,_,_,_,rfl,s08.trans (z9.trans (z10.trans (z11.trans (z12.trans (z13.trans (z14.trans (z15.trans (z16.trans (z17.trans (z18.trans (z19.trans (z20.trans (z21.trans (z22.trans (z23.trans (z24.trans (z25.trans z26)))))))))))))))))⟩
end
open PySem L2 PyProof.Rows
theorem Znw {K:Yab}{h:Heap}{mg:Str->Option Value}{x:Str}{st:Stmt}{ps:List Str}{f:Addr} (X:K.In h) (G:h.Ns mainGlobals mg) {od an:Option Addr}{sl:Array (Option Value)}{oc kV dc pm cd ct:Value}
  (a:PySem.W.nsIn K mainGlobals x=some (some (.ref f))) (l:K.lookup f=some ⟨oc,od,.func (PySem.W.fnOf x x (Zcm st) (Zbr st) (Zad st) .none kV dc pm an cd ct),sl⟩) (c:PySem.W.codeIn K cd x=true) (k:PySem.W.keepIn K (.ref f)=true)
  (b:∀ (kV doc pm:Value) (an:Option Addr) (cdv ct:Value) (us:List Value),us.length=ps.length->bindArgs (PySem.W.fnOf x x (Zcm st) (Zbr st) (Zad st) .none kV doc pm an cdv ct) ⟨us,[]⟩=pure (ps.zip us)):Zah K mg x st ps:=by
 have F:=Zob (st:=st) l c k;exact ⟨f,_,F,PySem.W.mg_of X G a,F.binds b⟩
theorem ZqP {K:Yab}{h:Heap}{mg:Str->Option Value}{t1 t2 t3:Tok} (X:K.In h) (G:h.Ns mainGlobals mg) (e1:PySem.W.nsIn K mainGlobals "len" = some none) (e2:PySem.W.nsIn K mainGlobals "all" = some none) (e3:PySem.W.nsIn K mainGlobals "isinstance" = some none)
  (e4:PySem.W.nsIn K mainGlobals "range" = some none) (e5:PySem.W.nsIn K mainGlobals "int" = some none) (e6:PySem.W.nsIn K mainGlobals "bool" = some none) (e7:PySem.W.nsIn K mainGlobals "list" = some none) (e8:PySem.W.nsIn K mainGlobals "enumerate" = some none)
  (e9:PySem.W.nsIn K mainGlobals "abs" = some none) (e10:PySem.W.nsIn K mainGlobals "max" = some none) (e11:PySem.W.nsIn K mainGlobals "MOST_ROWS" = some (some (.int 6 t1))) (e12:PySem.W.nsIn K mainGlobals "MOST_PLACES" = some (some (.int 6 t2))) (e13:PySem.W.nsIn K mainGlobals "MOST_TO_A_SIDE" = some (some (.int 4 t3))):Blt mg :=
 ⟨YaB X G e1,YaB X G e2,YaB X G e3,YaB X G e4,YaB X G e5,YaB X G e6,YaB X G e7,YaB X G e8,YaB X G e9,YaB X G e10,
  ⟨_,PySem.W.mg_of X G e11⟩,⟨_,PySem.W.mg_of X G e12⟩,⟨_,PySem.W.mg_of X G e13⟩⟩
theorem walk {l:PySem.W.OpenLaw}{q:Program}{loose:List Str}{XP:(Str->Option Value)->Heap->Prop}{YP:World->Heap->Prop}{d:DefRec}{K:Params->Yab} (hn:l.most=some 63) (hdf:d.params.defaults=[])
  (hY:∀ (w:World) (h:Heap),YP w h->(K w.params).In h)
  (F:∀ (w:World) (mg:Str->Option Value) (fa:Addr) (h:Heap),(K w.params).In h->h.Ns mainGlobals mg->mg d.name=some (.ref fa) ->
   ∃ fd:FuncData,(∀ (s:Shared) (u:Value),BindsTo s fd ⟨[u],[]⟩ [("script",u)])/\∀ base:Heap,(K w.params).In base->base.Ns mainGlobals mg->FnOk l.prog w (K w.params) mg base CX0 60 fa fd ["script"] (Zme (K w.params))) :
  PySem.W.WalkO q loose XP YP l.row.toRowW d [] (λf vs=>PySem.call f vs) :=
 L2.Zoi (n:=63) (k:=60) (x := "script") (CX:=λ_=>CX0) (sp:=λw=>Zme (K w.params)) hn (by decide) hdf ⟨rfl,by decide,by decide,rfl⟩ hY F (λ_ _ a ns hl _ hS=>⟨a,ns,rfl,hS,hl,λ_=>rfl⟩) λ_ _ _ _ _ z=>z
open PySem L2 PyProof.Rows
theorem ZqR {l:PySem.W.OpenLaw}{w:World}{K:Yab}{mg:Str->Option Value}{fa c7 C D:Addr} (hfa:mg "law" = some (.ref fa)) (T:Blt mg) (h_tuple:mg "tuple" = none) (h_reversed:mg "reversed" = none) (h_zip:mg "zip" = none) (h_min:mg "min" = none) (h_str:mg "str" = none) (h_sorted:mg "sorted" = none) (h_sum:mg "sum" = none) (zK:KpM K mg C) (zD:RkM K mg D) (hmF:mg "NoFit" = some (.ref c7)) (kF:ExcK K c7) (hsF:PySem.W.mroIn K c7 (.ref c7)=some true)
  (o_init:Zay K D "__init__" "Reckoning.__init__" (Zaw Zap 0) ["self","r","p"])
  (o_left_between:Zay K D "left_between" "Reckoning.left_between" (Zaw Zap 1) ["self","low","high"])
  (o_fewest:Zay K D "fewest" "Reckoning.fewest" (Zaw Zap 2) ["self","left"])
  (o_looks_at:Zay K D "looks_at" "Reckoning.looks_at" (Zaw Zap 3) ["self","left"])
  (o_fewest_through:Zay K D "fewest_through" "Reckoning.fewest_through" (Zaw Zap 4) ["self","left","look"])
  (o_first_cell:Zay K D "first_cell" "Reckoning.first_cell" (Zaw Zap 5) ["self","left"])
  (m_init:Zay K C "__init__" "Keeper.__init__" (Zaw ZaU 0) ["self","table"])
  (m_change:Zay K C "change" "Keeper.change" (Zaw ZaU 1) ["self","cell","x"])
  (m_undo:Zay K C "undo" "Keeper.undo" (Zaw ZaU 2) ["self"])
  (m_table:Zay K C "table" "Keeper.table" (Zaw ZaU 3) ["self"])
  (m_cells:Zay K C "cells" "Keeper.cells" (Zaw ZaU 4) ["self","x"])
  (m_number:Zay K C "number" "Keeper.number" (Zaw ZaU 5) ["self","k"])
  (m_span:Zay K C "span" "Keeper.span" (Zaw ZaU 6) ["self","cell"])
  (d_is_whole:Zah K mg "is_whole" ZdJ ["thing"])
  (d_all_whole:Zah K mg "all_whole" Zbj ["things"])
  (d_never_falls:Zah K mg "never_falls" Zb9 ["numbers"])
  (d_is_row:Zah K mg "is_row" Zlv ["thing"])
  (d_has_table_shape:Zah K mg "has_table_shape" ZgR ["thing"])
  (d_numbers_at_place:Zah K mg "numbers_at_place" ZdL ["table","place"])
  (d_is_sorted_both_ways:Zah K mg "is_sorted_both_ways" Zen ["table"])
  (d_is_table:Zah K mg "is_table" ZfI ["thing"])
  (d_is_cell_of_size:Zah K mg "is_cell_of_size" ZfM ["rows","places","thing"])
  (d_is_cell:Zah K mg "is_cell" ZfJ ["table","thing"])
  (d_need_table:Zah K mg "need_table" Zdj ["thing"])
  (d_need_cell:Zah K mg "need_cell" Zes ["table","thing"])
  (d_need_number:Zah K mg "need_number" ZcN ["thing"])
  (d_number_at:Zah K mg "number_at" Zep ["table","cell"])
  (d_cells_of:Zah K mg "cells_of" Ziy ["table","x"])
  (d_how_many_less:Zah K mg "how_many_less" ZnA ["row","x"])
  (d_how_many_at_most:Zah K mg "how_many_at_most" Znz ["row","x"])
  (d_stair_of:Zah K mg "stair_of" Ziv ["table","x"])
  (d_high_stair:Zah K mg "high_stair" ZnB ["table","x"])
  (d_how_many_cells:Zah K mg "how_many_cells" Zpt ["table"])
  (d_merged:Zah K mg "merged" ZfH ["table"])
  (d_need_place:Zah K mg "need_place" Zdk ["table","thing"])
  (d_number_by:Zah K mg "number_by" Zeo ["table","k"])
  (d_middle:Zah K mg "middle" ZhG ["table"])
  (d_count_less:Zah K mg "count_less" Zly ["table","x"])
  (d_count_most:Zah K mg "count_most" Zlx ["table","x"])
  (d_count_from:Zah K mg "count_from" Zlz ["table","a","b"])
  (d_laid_over:Zah K mg "laid_over" Zny ["table"])
  (d_turned_row:Zah K mg "turned_row" Znx ["row"])
  (d_turned_about:Zah K mg "turned_about" ZiA ["table"])
  (d_parts_row:Zah K mg "parts_row" ZgS ["row","step","x"])
  (d_paper_shows:Zah K mg "paper_shows" Zix ["table","x","thing"])
  (d_stair_paper:Zah K mg "stair_paper" Zls ["table","x"])
  (d_walk_for:Zah K mg "walk_for" Zpr ["table","x"])
  (d_found_at:Zah K mg "found_at" Zlw ["table","x"])
  (d_is_stair:Zah K mg "is_stair" Zcy ["thing","rows","places"])
  (d_is_side:Zah K mg "is_side" ZhH ["thing"])
  (d_need_size:Zah K mg "need_size" Zeq ["r","p"])
  (d_is_at_no_row_above:Zah K mg "is_at_no_row_above" Ziz ["low","high"])
  (d_need_stairs:Zah K mg "need_stairs" ZcM ["r","p","low","high"])
  (d_is_left_open:Zah K mg "is_left_open" ZcY ["low","high","cell"])
  (d_need_look:Zah K mg "need_look" Zer ["r","p","low","high","cell","word"])
  (d_high_after_less:Zah K mg "high_after_less" Zcz ["high","cell"])
  (d_low_after_greater:Zah K mg "low_after_greater" ZcX ["low","cell"])
  (d_open_after:Zah K mg "open_after" Zdi ["r","p","low","high","cell","word"])
  (d_bits_of_cells:Zah K mg "bits_of_cells" ZhJ ["r","p"])
  (d_left_by_less:Zah K mg "left_by_less" ZfN ["bits","cell"])
  (d_left_by_greater:Zah K mg "left_by_greater" ZnC ["bits","cell"])
  (d_looks_left:Zah K mg "looks_left" Zdl ["r","p","low","high"])
  (d_best_look:Zah K mg "best_look" Zpu ["r","p","low","high"])
  (d_fewest_looks:Zah K mg "fewest_looks" ZhI ["r","p"])
  (d_copy_of:Zah K mg "copy_of" ZfL ["table"])
  (d_table_with:Zah K mg "table_with" Zpq ["table","cell","x"])
  (d_changed_table:Zah K mg "changed_table" ZdK ["table","cell","x"])
  (d_numbers_beside:Zah K mg "numbers_beside" ZfO ["table","beside"])
  (d_span_of:Zah K mg "span_of" Zps ["table","cell"])
  (d__law_cell:Zah K mg "_law_cell" Zlu ["script","k"])
  (d__law_mixed:Zah K mg "_law_mixed" Zlt ["cell","k"])
  (d__law_table:Zah K mg "_law_table" Zlr ["cell","most"])
  (d__law_spots:Zah K mg "_law_spots" Ziw ["table"])
  (d__law_shows:Zah K mg "_law_shows" Zev ["table","x","paper"])
  (d__law_stairs_good:Zah K mg "_law_stairs_good" ZcW ["table","x","cell"])
  (d__law_walk_good:Zah K mg "_law_walk_good" Zlq ["table","x"])
  (d__law_order_good:Zah K mg "_law_order_good" Zdh ["table","x","other"])
  (d__law_looks:Zah K mg "_law_looks" Zeu ["cells","known"])
  (d__law_looks_good:Zah K mg "_law_looks_good" Zet ["r","p","cell"])
  (d__law_turned_good:Zah K mg "_law_turned_good" Zb8 ["table","x"])
  (d__law_is:Zah K mg "_law_is" dIs ["table"])
  (d__law_keeper_good:Zah K mg "_law_keeper_good" ZcZ ["table","x","cell"])
  (d_law:Zah K mg "law" dLaw ["script"])
  : ∃ fd:FuncData,(∀ (s:Shared) (v:Value),BindsTo s fd ⟨[v],[]⟩ [("script",v)])/\∀ base:Heap,K.In base->base.Ns mainGlobals mg->FnOk l.prog w K mg base CX0 60 fa fd ["script"] (Zme K):=by
 obtain ⟨f,fd,F,hm,hb⟩:=d_law;have e:=hfa.symm.trans hm;cases e;refine ⟨fd,?_,λbase _ _=>?_⟩
 ·obtain ⟨oc,od,kV,doc,pm,an,cdv,ct,osl,rfl,lk,hcd⟩:=F.ex;exact λs v=>.of_eq rfl
 ·have g_is_whole:=Zi4 (P:=l.prog) (w:=w) (base:=base) T d_is_whole;have g_all_whole:=Zhv T d_all_whole g_is_whole;have g_never_falls:=Zrn (P:=l.prog) (w:=w) (base:=base) T d_never_falls;have g_is_row:=Zm2 T d_is_row g_all_whole;have g_has_table_shape:=ZmR T d_has_table_shape g_is_row;have g_numbers_at_place:=Zjb (P:=l.prog) (w:=w) (base:=base) d_numbers_at_place;have g_is_sorted_both_ways:=Zkr T d_is_sorted_both_ways g_never_falls g_numbers_at_place;have g_is_table:=Zi5 d_is_table g_has_table_shape g_is_sorted_both_ways;have g_is_cell_of_size:=ZkC T h_tuple d_is_cell_of_size (Zgw T d_all_whole g_is_whole);have g_is_cell:=Zkz T d_is_cell g_is_cell_of_size;have g_need_table:=Zgr d_need_table g_is_table;have g_need_cell:=Zhp d_need_cell g_is_cell;have g_need_number:=Zfr d_need_number g_is_whole;have g_number_at:=Zhm d_number_at g_need_table g_need_cell;have g_cells_of:=Zm8 T d_cells_of g_need_table g_need_number;have g_how_many_less:=Zo2 (P:=l.prog) (w:=w) (base:=base) T d_how_many_less;have g_how_many_at_most:=Zo0 (P:=l.prog) (w:=w) (base:=base) T d_how_many_at_most;have g_stair_of:=ZmO d_stair_of g_need_table g_need_number g_how_many_less;have g_high_stair:=Zo4 d_high_stair g_need_table g_need_number g_how_many_at_most;have g_how_many_cells:=Zo1 (P:=l.prog) (w:=w) (base:=base) T d_how_many_cells;have g_merged:=Zku T h_sorted d_merged g_need_table;have g_need_place:=Zgs d_need_place g_is_whole g_how_many_cells;have g_number_by:=Zhl d_number_by g_need_table g_need_place g_merged;have g_middle:=Zkt d_middle g_need_table g_number_by g_how_many_cells;have g_count_less:=Zm6 h_sum d_count_less g_stair_of;have g_count_most:=Zm5 h_sum d_count_most g_high_stair;have g_count_from:=Zm7 T d_count_from g_count_less g_count_most;have g_laid_over:=ZoZ T d_laid_over g_need_table g_numbers_at_place;have g_turned_row:=ZoX (P:=l.prog) (w:=w) (base:=base) h_reversed d_turned_row;have g_turned_about:=Zna h_reversed d_turned_about g_need_table g_turned_row;have g_stairA:=Zht T h_reversed d_is_stair (Zgy T d_all_whole (Zhs (P:=l.prog) (w:=w) (base:=base) T d_is_whole)) g_never_falls;have g_parts_row:=ZmT (P:=l.prog) (w:=w) (base:=base) T d_parts_row;have g_paper_shows:=ZmQ T h_zip d_paper_shows g_need_table g_need_number g_stairA g_parts_row;have g_stair_paper:=ZmU d_stair_paper g_cells_of g_stair_of;have g_walk_for:=ZoV T d_walk_for g_need_table g_need_number;have g_found_at:=Zm3 d_found_at g_walk_for g_number_at;have g_is_stair:=Zi6 T h_reversed d_is_stair g_all_whole g_never_falls;have g_is_side:=Zky T d_is_side g_is_whole;have g_need_size:=Zhn d_need_size g_is_side;have g_is_at_no_row_above:=Zm9 (P:=l.prog) (w:=w) (base:=base) T h_zip d_is_at_no_row_above;have g_need_stairs:=Zfq d_need_stairs g_is_stair g_is_at_no_row_above;have g_is_left_open:=Zhr (P:=l.prog) (w:=w) (base:=base) d_is_left_open;have g_need_look:=Zho T h_str d_need_look g_is_cell_of_size g_is_left_open;have g_high_after_less:=Zgv (P:=l.prog) (w:=w) (base:=base) T h_min d_high_after_less;have g_low_after_greater:=Zhq (P:=l.prog) (w:=w) (base:=base) T d_low_after_greater;have g_open_after:=Zgq T d_open_after g_need_size g_need_stairs g_need_look g_high_after_less g_low_after_greater;have g_openB:=Zgu (P:=l.prog) (w:=w) (base:=base) d_is_left_open;have g_bits_of_cells:=ZkE (P:=l.prog) (w:=w) (base:=base) T d_bits_of_cells;have g_left_by_less:=ZkD (P:=l.prog) (w:=w) (base:=base) h_sum d_left_by_less;have g_left_by_greater:=Zo5 (P:=l.prog) (w:=w) (base:=base) h_sum d_left_by_greater;have g_rInit:=ZmS zD.c o_init g_bits_of_cells g_left_by_less g_left_by_greater;have g_leftB:=ZmW h_sum zD.c o_left_between g_openB;have g_looksAt:=Zi1 (P:=l.prog) (w:=w) (base:=base) (mg:=mg) zD.c o_looks_at;have g_fewest:=ZkA T h_min zD.c o_fewest o_fewest_through g_looksAt;have g_thru:=(Zhu (P:=l.prog) (w:=w) (base:=base) T h_min zD.c o_fewest o_fewest_through g_looksAt 16).1;have g_first:=Zm4 zD.c o_first_cell g_looksAt g_thru g_fewest;have g_looks_left:=Zgt zD d_looks_left g_need_size g_need_stairs g_rInit g_leftB g_fewest;have g_best_look:=Zo6 zD d_best_look g_need_size g_need_stairs g_rInit g_leftB g_first;have g_fewest_looks:=Zi8 d_fewest_looks g_need_size g_looks_left;have g_copy_of:=ZkB (P:=l.prog) (w:=w) (base:=base) T d_copy_of;have g_table_with:=ZoU d_table_with g_copy_of;have g_changed_table:=Zi9 d_changed_table g_need_cell g_need_number g_table_with g_is_table;have g_chF:=Zql kF hmF d_changed_table g_need_cell g_need_number g_table_with g_is_table;have g_cellI:=Zi7 T d_is_cell (Zja T h_tuple d_is_cell_of_size (Zgx T d_all_whole g_is_whole));have g_numbers_beside:=ZkF d_numbers_beside g_cellI g_number_at;have g_span_of:=ZoY T h_min d_span_of g_need_cell g_numbers_beside;have g_kInit:=Zm1 zK.c m_init g_need_table g_copy_of;have g_kTable:=Zkw zK.c m_table g_copy_of;have g_kChange:=Zi3 zK.c m_change g_changed_table g_number_at;have g_kChF:=Zo3 zK.c m_change g_chF;have g_kUndo:=ZmZ T zK.c m_undo g_table_with g_number_at;have g_kCells:=Zkx zK.c m_cells g_cells_of;have g_kSpan:=Zm0 zK.c m_span g_span_of;have g_kNumber:=Zi2 zK.c m_number g_number_by;have g__law_cell:=ZmX (P:=l.prog) (w:=w) (base:=base) T d__law_cell;have g__law_mixed:=ZmV (P:=l.prog) (w:=w) (base:=base) d__law_mixed;have g__law_table:=ZmN T d__law_table g__law_mixed;have g__law_spots:=ZmP (P:=l.prog) (w:=w) (base:=base) T d__law_spots;have g__law_shows:=Zqf (P:=l.prog) (w:=w) (base:=base) T d__law_shows;have g__law_stairs_good:=Zkq T d__law_stairs_good g__law_mixed g_stair_of g_high_stair g_stair_paper g_paper_shows g__law_shows;have g__law_walk_good:=ZmL T d__law_walk_good g_walk_for g_found_at;have g__law_order_good:=Zks T h_sorted d__law_order_good g__law_spots g_number_by g_count_less g_count_most g_count_from g_merged g_middle;have g__law_looks:=Zqi (P:=l.prog) (w:=w) (base:=base) T h_tuple d__law_looks 16;have g__law_looks_good:=Zkv T h_tuple d__law_looks_good g__law_mixed g__law_looks g_fewest_looks g_looks_left g_best_look g_open_after;have g__law_turned_good:=ZoW T h_sorted d__law_turned_good g_is_table g_laid_over g_turned_about g_cells_of;have g__law_is:=Zqj (P:=l.prog) (w:=w) (base:=base) T h_sorted d__law_is;have g__law_keeper_good:=ZmY T kF hmF hsF zK d__law_keeper_good g_kInit g_kChange g_kChF g_kUndo g_kTable g_kCells g_kNumber g_kSpan g_cells_of g__law_is;exact FnOk.mono (Zqk T h_min F g__law_cell g__law_mixed g__law_table g__law_spots g_cells_of g_number_at g__law_walk_good g__law_stairs_good g__law_order_good g__law_looks_good g__law_turned_good g__law_keeper_good) (by decide)
end Seek
namespace PySem.W.Fast
def tw13095759204281961513:=()
def tw16950259328219684102:=()
def tw13412249527661126299:=()
def tw3807645289488355961:=()
def tw4166131347943428644:=()
def tw17718204292397500369:=()
def tw15687893543712793163:=()
def tw4065924754145879610:=()
def tw7216536421453610510:=()
def tw4148853173049703496:=()
def tw16476049875497893997:=()
def tw7327887698642481537:=()
def tw8035627115362124360:=()
def tw10755691303156471383:=()
def tw9377570328875583778:=()
def tw10959278845840341918:=()
def tw8337371645751153246:=()
def tw11606911500539710424:=()
def tw17325715779315576643:=()
def tw4008593630252388039:=()
def tw3026576796643346681:=()
def tw8993929280472740392:=()
def tw6288645373825266517:=()
def tw13142813029924690747:=()
def tw4406778997274743232:=()
def tw1908082262591671644:=()
def tw13829070932963155640:=()
def tw2020181972112857155:=()
def tw11875375186939833141:=()
def tw8470237914453526151:=()
def tw369113347103386811:=()
def tw9517396522195633801:=()
def tw16031404657294081448:=()
def tw6185466996557393305:=()
def tw2048773097075367496:=()
def tw9235735378137236817:=()
def tw5676529960686369272:=()
def tw12949358175909054420:=()
def tw13165762902883953717:=()
def tw18300593182678374083:=()
def tw13274324618862979563:=()
def tw8393789913438875154:=()
def tw1963530038344141273:=()
def tw15364461628664337255:=()
def tw15829306738342050671:=()
def tw6014635270880198683:=()
def tw12941918765195978714:=()
def tw18265146814261192738:=()
def tw4230719245343093818:=()
def tw4977948785054927758:=()
def tw3834882430296498025:=()
def tw12266263775091512662:=()
def tw3608981790836281722:=()
def tw1501064347736447534:=()
def tw13223346917293996231:=()
def tw9320896842939755196:=()
def tw5679967808430247250:=()
def tw17058219317703754390:=()
def tw14873208751408256441:=()
def tw6508422516373580114:=()
def tw4708858759569939478:=()
def tw13987528940149745890:=()
def tw15205138880726544172:=()
def tw13892027488645553162:=()
def tw12199800103169147794:=()
def tw8292223889972874980:=()
def tw8696211415690943871:=()
def tw11189313305890478755:=()
def tw9635781133082286669:=()
def tw14404751769929248116:=()
def tw2026115480291451368:=()
def tw11130598498434397743:=()
def tw785066504527419636:=()
def tw3375685677622019556:=()
def tw17865876568812209883:=()
def tw3307777101587025726:=()
def tw6871764906953263873:=()
def tw8190893997201255775:=()
def tw16626166889120519056:=()
def tw15353593809750644068:=()
def tw5153305098914514619:=()
def tw17088912833212242988:=()
def tw2379164435283828156:=()
def tw17004274663380472985:=()
def tw6208006336355813957:=()
def tw9411824205213569943:=()
def tw8937767415060506796:=()
def tw13736837695187711089:=()
def tw8555251315466099956:=()
def tw11041054186254649751:=()
def tw3828865923372932741:=()
def tw7809124863465309112:=()
def tw7565035113154858222:=()
def tw10043401075986323893:=()
def tw12774019643702454996:=()
def tw5252907601332299092:=()
def tw5623671415911389805:=()
def tw2735049550832014418:=()
def tw8469010647427040983:=()
def tw10285820110751791321:=()
def tw12205680235910507828:=()
def tw8890418481029077531:=()
def tw12830741176208336982:=()
def tw3935467054522425411:=()
def tw1916399791530059857:=()
def tw13910948158317238406:=()
def tw15051975749028952883:=()
def tw2054007437581612495:=()
def tw11803604773599273672:=()
def tw2062709503726438533:=()
def tw4601735718336917527:=()
def tw8680691372847166745:=()
def tw15179826204059722827:=()
def tw3235796511880142087:=()
def tw2256570641167144930:=()
def tw1318037929754802553:=()
def tw11329840928005155909:=()
def tw14762263163854029381:=()
def tw11707814577346604467:=()
def tw475970095537318771:=()
def tw6501766812640849739:=()
def tw9516927476971626727:=()
def tw17328201034832277455:=()
def tw11181634663801431866:=()
def tw6875369993886501380:=()
def tw7674972644922343252:=()
def tw5639781055656369155:=()
def tw1179373503089150054:=()
def tw4048374853836522662:=()
def tw4042423056643890763:=()
def tw10567550311692611017:=()
def tw6690294070690053933:=()
def tw13286459537372635519:=()
def tw11957969808930094253:=()
def tw15353200665984496769:=()
def tw16326505664044786734:=()
def tw17904079413400485784:=()
def tw14155464094695912541:=()
def tw1899339929408685764:=()
def tw15270550811940569385:=()
def tw4864043289963301384:=()
def tw1717351174944005012:=()
def tw4695581473937567405:=()
def tw14070202799709558827:=()
def tw6471596446060547175:=()
def tw3247925013061643574:=()
def tw900004533499243923:=()
def tw2786106039655137471:=()
def tw16065738312460200488:=()
def tw8177828570497369336:=()
def tw1959281670683020177:=()
def tw9444886932362913436:=()
def tw16340676183585430279:=()
def tw3227389449178219864:=()
def tw5878787994762024694:=()
def tw3951469902102545586:=()
def tw9728994035665637496:=()
def tw17007832970614319490:=()
def tw13623284180098592038:=()
def tw5137294737833954818:=()
def tw14961607420826424749:=()
def tw8481928770836905222:=()
def tw7733137602505727626:=()
def tw11350033064863437679:=()
def tw13608862661914131987:=()
def tw14597020236554797106:=()
def tw5679641485054532057:=()
def tw5297804885214854309:=()
def tw16790594985053262049:=()
def tw18160010030951518809:=()
def tw1845844621501689109:=()
def tw12318740080222353387:=()
def tw11334182280546153472:=()
def tw3756035443969977136:=()
def tw11115503515193006770:=()
def tw17502428889306391514:=()
def tw5982461327406891454:=()
def tw2980561945502064757:=()
def tw8140384300843697224:=()
def tw13879727428058746178:=()
def tw2714892021061690031:=()
def tw5642042470441677845:=()
def tw9941843623639988094:=()
def tw18395402686932694351:=()
def tw16234819620721415916:=()
def tw12989488218131206312:=()
def tw7117920688148689392:=()
def tw14857416205922092453:=()
def tw13639777872806606038:=()
def tw1923646545493343863:=()
def tw4207846160741170451:=()
def tw4528276810227118504:=()
def tw11708224735644898262:=()
def tw6304524731906431980:=()
def tw14430408986375291980:=()
def tw9687445831951181724:=()
def tw3861582058694953017:=()
def tw5300653322837681026:=()
def tw1561842014592261222:=()
def tw18419821747800194505:=()
def tw18438420431878289773:=()
def tw12865255844334048170:=()
def tw2222949164894818887:=()
def tw921719238830887527:=()
def tw10121946615234249883:=()
def tw2607649441584059911:=()
def tw32058662151772337:=()
def tw869338682717674657:=()
def tw9173425615574995601:=()
def tw11884696079880302113:=()
def tw5435569849285022070:=()
def tw11132404364791303053:=()
def tw14601256082193454627:=()
def tw10242811906838317777:=()
def tw9335237855107367327:=()
def tw4324405355863170661:=()
def tw11392050791781017883:=()
def tw9922167829479468838:=()
def tw14833304844144380200:=()
def tw13014996754424869305:=()
def tw8821009449694025362:=()
def tw9869835999762436349:=()
def tw3187100948415118387:=()
def tw5443588103946540319:=()
def tw7150445599157071410:=()
def tw15617252522863509346:=()
def tw9994790851582926051:=()
def tw16507443228932127216:=()
def tw16353758823949746376:=()
def tw13183729336611088542:=()
def tw12131434284151050614:=()
def tw12209909655355176505:=()
def tw7746193074918332673:=()
def tw7434110725162299046:=()
def tw18243871885039222410:=()
def tw17440428203106791329:=()
def tw17292058769893163850:=()
def tw13664551647244860909:=()
def tw1303815973090962212:=()
def tw12014237698983579693:=()
def tw10214601953296637622:=()
def tw9270287606533853836:=()
def tw5949160071667550395:=()
def tw11444336995191142940:=()
def tw16439649642118681501:=()
def tw6376182817638754467:=()
def tw738461829971014081:=()
def tw10984455083432070445:=()
def tw13907038478004562280:=()
def tw1919197047911070239:=()
def tw18319191210019413117:=()
def tw12989275958353152175:=()
def tw8148532601650241494:=()
def tw9622005730816491159:=()
def tw6917943160908523451:=()
def tw15255354152897178251:=()
def tw5802346969558314987:=()
def tw10328614383355455995:=()
def tw1377299705449254218:=()
def tw16393788501468789981:=()
def tw383319056542979232:=()
def tw593371354136621580:=()
def tw14086695285061328459:=()
def tw15538659619974154671:=()
def tw7446894311548141730:=()
def tw7134113116712248529:=()
def tw4903470773572943789:=()
def tw16797579427320269075:=()
def tw18325467681895055444:=()
def tw8886927991080777223:=()
def tw1767354713804202734:=()
def tw8211408871286638407:=()
def tw7343928314307539099:=()
def tw5935142249142469241:=()
def tw5084181596475052057:=()
def tw9599617973032828819:=()
def tw42545675707631095:=()
def tw12633218730400604368:=()
def tw3954187029552468092:=()
def tw13129021164454068174:=()
def tw7141195033954134857:=()
def tw14384753815272243197:=()
def tw4867788306406960570:=()
def tw2519309965051479729:=()
def tw6839331820210692722:=()
def tw2029353757229890843:=()
def tw8323929003965263091:=()
def tw11818558830124161698:=()
def tw8490632983138705684:=()
def tw15516072697518968996:=()
def tw15099336658205197563:=()
def tw9727349168007057463:=()
def tw12648879418112061204:=()
def tw8290971580503143938:=()
def tw968050978461911601:=()
def tw6087654774679472176:=()
def tw359960357751884170:=()
def tw2064927594400730245:=()
def tw10860389874750568079:=()
def tw7873269083988885814:=()
def tw3268485716964976897:=()
def tw18118125457601080122:=()
def tw1805269362951337974:=()
def tw12376382835873697228:=()
def tw8497250885149468452:=()
def tw8122719864515512019:=()
def tw3319940868922653351:=()
def tw14235626587022559265:=()
def tw17457869496335406623:=()
def tw13012987931883205762:=()
def tw4614854176965952672:=()
def tw3034144267496253152:=()
def tw201611893725707977:=()
def tw17338542718324820411:=()
def tw15154005682643195202:=()
def tw12146907382163706595:=()
def tw10833233537886008628:=()
def tw9011506933293900849:=()
def tw10715324543204472067:=()
end PySem.W.Fast
open PySem PySem.W PyProof.Rows
theorem PySem.Challenge.cw_stairseek_k45_whole_all_cells_looked_at_holds : PySem.Challenge.rw_stairseek_k45_whole_all_cells_looked_at.Holds := by
 w_on;o_law;k_head;(case hw=>w_witness2)
 k_fill
 refine Seek.walk (l:=PySem.Challenge.rw_stairseek_k45_whole_all_cells_looked_at) rfl rfl (λw h Y=>PySem.W.kIn_of Y) ?F
 case F =>
  intro w mg fa h KX G hmg
  refine' Seek.ZqR hmg ?T ?_ ?_ ?_ ?_ ?_ ?_ ?_ ?zK ?zD ?hmF ?kF ?hsF ?_ ?_ ?_ ?_ ?_ ?_ ?_ ?_ ?_ ?_ ?_ ?_ ?_ ?_ ?_ ?_ ?_ ?_ ?_ ?_ ?_ ?_ ?_ ?_ ?_ ?_ ?_ ?_ ?_ ?_ ?_ ?_ ?_ ?_ ?_ ?_ ?_ ?_ ?_ ?_ ?_ ?_ ?_ ?_ ?_ ?_ ?_ ?_ ?_ ?_ ?_ ?_ ?_ ?_ ?_ ?_ ?_ ?_ ?_ ?_ ?_ ?_ ?_ ?_ ?_ ?_ ?_ ?_ ?_ ?_ ?_ ?_ ?_ ?_ ?_ ?_ ?_ ?_ ?_ ?_ ?_ ?_ ?_
  case T =>
   refine' Seek.ZqP KX G ?e1 ?e2 ?e3 ?e4 ?e5 ?e6 ?e7 ?e8 ?e9 ?e10 ?e11 ?e12 ?e13
   (case e1=>k_is);(case e2=>k_is);(case e3=>k_is);(case e4=>k_is);(case e5=>k_is);(case e6=>k_is);(case e7=>k_is);(case e8=>k_is);(case e9=>k_is);(case e10=>k_is);(case e11=>k_is);(case e12=>k_is);(case e13=>k_is)
  case hmF =>
   refine' PySem.W.mg_of KX G ?e
   (case e=>k_is)
  case kF =>
   refine' L2.ExcK.mk ?exc ?ga ?gt ?cl ?ob ?bx
   (case exc=>k_exc);(case ga=>k_is);(case gt=>k_is);(case cl=>k_is);(case ob=>k_is);(case bx=>k_is)
  case hsF=>k_is
  case zK =>
   refine' Seek.Zqu KX G ?aC ?pg ?hd ?po ?sa ?mk ?kc ?nr ?nc
   (case aC=>k_is);(case pg=>k_is);(case hd=>k_is);(case po=>k_is);(case sa=>k_is);(case mk=>k_is);(case kc=>k_is);(case nr=>k_is);(case nc=>k_is)
  case zD =>
   refine' Seek.Zp1 KX G ?aC ?pg ?hd ?po ?sa ?mk ?kc ?n1 ?n2 ?n3
   (case aC=>k_is);(case pg=>k_is);(case hd=>k_is);(case po=>k_is);(case sa=>k_is);(case mk=>k_is);(case kc=>k_is);(case n1=>k_is);(case n2=>k_is);(case n3=>k_is)
  all_goals first
   | (refine' Seek.Znw KX G ?a ?l ?c ?k ?b;(case a=>k_is);(case l=>k_is);(case c=>k_is);(case k=>k_is);(case b=>first | (exact λ_ _ _ _ _ _ us hl=>match us,hl with | [_],_=>rfl) | (exact λ_ _ _ _ _ _ us hl=>match us,hl with | [_,_],_=>rfl) | (exact λ_ _ _ _ _ _ us hl=>match us,hl with | [_,_,_],_=>rfl) | (exact λ_ _ _ _ _ _ us hl=>match us,hl with | [_,_,_,_],_=>rfl) | (exact λ_ _ _ _ _ _ us hl=>match us,hl with | [_,_,_,_,_,_],_=>rfl)))
   | (refine' PySem.W.mg_none_of KX G ?e;(case e=>k_is))
   | (refine' L2.Zjf ?a ?i ?l ?c ?k ?b;(case a=>k_is);(case i=>k_is);(case l=>k_is);(case c=>k_is);(case k=>k_is);(case b=>first | (exact λ_ _ _ _ _ _ us hl=>match us,hl with | [_],_=>rfl) | (exact λ_ _ _ _ _ _ us hl=>match us,hl with | [_,_],_=>rfl) | (exact λ_ _ _ _ _ _ us hl=>match us,hl with | [_,_,_],_=>rfl) | (exact λ_ _ _ _ _ _ us hl=>match us,hl with | [_,_,_,_],_=>rfl) | (exact λ_ _ _ _ _ _ us hl=>match us,hl with | [_,_,_,_,_,_],_=>rfl)))