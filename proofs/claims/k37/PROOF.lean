import PyProof.Rows.All
import Wide.All
import OpenK.AllK
import Wide.FinOn
import Lean
import PyProof.EqAt
import PyProof.EqKinds
import PyProof.TupleCall
import PySem.Challenge.RW_stairseek_k37_rows_that_are_none
set_option Elab.async false
set_option linter.all false
set_option maxRecDepth 100000
set_option maxHeartbeats 0
abbrev Yaa:=@List.length_map
abbrev Yab:=@PySem.W.Frag
abbrev Yac:=@List.getElem?_eq_getElem
abbrev Yad:=@PySem.Heap.get?_push_of_some
abbrev Yae:=@Option.some.inj
abbrev Yaf:=@List.getElem?_map
abbrev Yag:=@Nat.le_refl
abbrev Yah:=@List.map_append
abbrev Yai:=@List.getElem?_eq_some_iff
abbrev Yaj:=@Bool.and_eq_true
abbrev Yak:=@List.length_append
abbrev Yal:=@PySem.Heap.lt_size
abbrev Yam:=@List.size_toArray
abbrev Yan:=@Nat.lt_of_lt_of_le
abbrev Yao:=@PySem.Heap.get?_push_size
abbrev Yap:=@Nat.ne_of_lt
abbrev Yaq:=@Bool.false_ne_true
abbrev Yar:=@List.mem_map
abbrev Yas:=@List.mem_cons_of_mem
abbrev Yat:=@List.getD_eq_getElem?_getD
abbrev Yau:=@List.map_map
abbrev Yav:=@Int.toNat_natCast
abbrev Yaw:=@List.map_cons
abbrev Yax:=@List.not_mem_nil
abbrev Yay:=@Nat.le_trans
abbrev Yaz:=@List.mem_append_right
abbrev YaA:=@List.mem_append_left
abbrev YaB:=@PySem.W.mg_none_of
abbrev YaC:=@List.length_cons
abbrev YaD:=@Array.length_toList
abbrev YaE:=@PySem.W.mg_of
abbrev YaF:=@List.mem_cons
abbrev YaG:=@List.mem_append
abbrev YaH:=@Nat.zero_le
abbrev YaI:=@List.length_singleton
abbrev YaJ:=@List.mem_singleton
abbrev YaK:=@List.length_set
abbrev YaL:=@List.getElem_mem
abbrev YaM:=@List.mem_cons_self
abbrev YaN:=@decide_eq_true_iff
abbrev YaO:=@List.all_eq_true
abbrev YaP:=@List.mem_of_getElem?
abbrev YaR:=@List.length_take
abbrev YaS:=@PySem.F.plainAttrs_list
abbrev YaU:=@PySem.F.slot_list_append
abbrev YaV:=@PySem.F.type_list_append
abbrev YaZ:=@Nat.lt_of_le_of_lt
abbrev Ya1:=@beq_eq_false_iff_ne
abbrev Ya3:=@PySem.wpAny_bind
abbrev Ya4:=@decide_eq_true
abbrev Ya5:=@decide_eq_false
abbrev Ya6:=@if_neg
abbrev Ya7:=@if_pos
abbrev Ya8:=@PySem.wpAny_pure
abbrev Ya9:=@PySem.wpAny_mono
abbrev Yba:=@List.nodup_cons
abbrev Ybb:=@decide_eq_decide
abbrev Ybc:=@Int.natCast_nonneg
abbrev Ybi:=@Array.getElem?_toList
abbrev Ybl:=@Nat.mod_lt
abbrev Ybm:=@List.length_filter_le
abbrev Ybq:=@Nat.lt_irrefl
namespace L2
open PySem PySem.Spec PyProof.Rows
abbrev Key:=Sum Int Str
def Zis:Key->Value->Bool
 | .inl k,v=>Value.isInt k v
 | .inr x,v=>Value.isStrOf x v
def keyH (w:World):Key->Int
 | .inl k=>hashInt k
 | .inr x=>hashStr w x
theorem ZaV:∀ {k:Key}{v:Value},Zis k v=true->(∃ i t,k=Sum.inl i/\v=Value.int i t)\/(∃ x t,k=Sum.inr x/\v=Value.str x t)
 | .inl i,v,h=>by
  obtain ⟨t,e⟩:=Value.isInt_shape (k:=i) (v:=v) h;exact .inl ⟨i,t,rfl,e⟩
 | .inr x,v,h=>by
  obtain ⟨t,e⟩:=Value.isStrOf_shape (x:=x) (v:=v) h;exact .inr ⟨x,t,rfl,e⟩
theorem Zku (i:Int) (t:Tok):Zis (.inl i) (.int i t)=true:=by simp [Zis,Value.isInt]
theorem Zkt (x:Str) (t:Tok):Zis (.inr x) (.str x t)=true:=by simp [Zis,Value.isStrOf]
theorem ZqN (a b:Int):decide ((Sum.inl a:Key)=Sum.inl b)=(a == b):=by
 by_cases e:a=b
 ·subst e;simp
 ·have h:¬ (Sum.inl a:Key)=Sum.inl b:=λq=>e (Sum.inl.inj q);rw [Ya5 h];exact (Ya1.mpr e).symm
theorem ZqK (a b:Str):decide ((Sum.inr a:Key)=Sum.inr b)=decide (a=b):=by
 by_cases e:a=b
 ·subst e;simp
 ·have h:¬ (Sum.inr a:Key)=Sum.inr b:=λq=>e (Sum.inr.inj q);rw [Ya5 h,Ya5 e]
theorem ZqM (a:Int) (b:Str):decide ((Sum.inl a:Key)=Sum.inr b)=false:=Ya5 (λq=>nomatch q)
theorem ZqL (a:Str) (b:Int):decide ((Sum.inr a:Key)=Sum.inl b)=false:=Ya5 (λq=>nomatch q)
def ZaM (prog:Program) (w:World):PySem.KeyKind prog w Key where
 is:=Zis
 hash:=keyH w
 inj:=λv a b ha hb=>by
  rcases ZaV ha with ⟨i,t,rfl,rfl⟩ | ⟨x,t,rfl,rfl⟩
  ·rcases ZaV hb with ⟨j,u,rfl,e⟩ | ⟨y,u,rfl,e⟩
   ·injection e with e1 _;rw [e1]
   ·exact nomatch e
  ·rcases ZaV hb with ⟨j,u,rfl,e⟩ | ⟨y,u,rfl,e⟩
   ·exact nomatch e
   ·injection e with e1 _;rw [e1]
 byValue:=λk v h=>by
  rcases ZaV h with ⟨i,t,rfl,rfl⟩ | ⟨x,t,rfl,rfl⟩ <;> rfl
 pyHash:=λhv h=>by
  rcases ZaV hv with ⟨i,t,rfl,rfl⟩ | ⟨x,t,rfl,rfl⟩
  ·exact wpAny_pyHash_int h
  ·exact wpAny_pyHash_str h
 eqBool:=λhu hv h=>by
  rcases ZaV hu with ⟨i,t,rfl,rfl⟩ | ⟨x,t,rfl,rfl⟩
  ·rcases ZaV hv with ⟨j,u,rfl,rfl⟩ | ⟨y,u,rfl,rfl⟩
   ·rw [ZqN] at h;exact wpAny_eqBool_int h
   ·rw [ZqM] at h;exact SeqAt.EqAt.int_str i t y u _ _ _ _ h
  ·rcases ZaV hv with ⟨j,u,rfl,rfl⟩ | ⟨y,u,rfl,rfl⟩
   ·rw [ZqL] at h;exact SeqAt.EqAt.str_int x t j u _ _ _ _ h
   ·rw [ZqK] at h;exact wpAny_eqBool_str h
 «strs»:=λk x t v h=>by
  rcases ZaV h with ⟨i,u,rfl,e⟩ | ⟨y,u,rfl,e⟩
  ·exact nomatch e
  ·injection e with e1 _;subst e1;cases v <;> rfl
theorem Zgx (prog:Program) (w:World) (i:Int) (t:Tok):(ZaM prog w).is (.inl i) (.int i t)=true:=Zku i t
theorem Zgw (prog:Program) (w:World) (x:Str) (t:Tok):(ZaM prog w).is (.inr x) (.str x t)=true:=Zkt x t
open PySem PySem.Spec PyProof.Rows
inductive V where
 |non | bl (b:Bool) | int (i:Int) | str (x:Str) | byt (b:Array UInt8) | flt (b:UInt64) | ref (a:Addr) | ty (n:String)
 deriving DecidableEq
def RelV:V->Value->Prop
 | .non,u=>u=Value.none
 | .bl b,u=>u=Value.bool b
 | .int i,u=>∃ t,u=Value.int i t
 | .str x,u=>∃ t,u=Value.str x t
 | .byt b,u=>∃ t,u=Value.bytes b t
 | .flt b,u=>∃ t,u=Value.float b t
 | .ref a,u=>u=Value.ref a
 | .ty n,u=>u=Value.type n
abbrev Vals:List V->List Value->Prop:=Paired RelV
theorem Vals.length {xs:List V}{us:List Value} (r:Vals xs us):xs.length=us.length:=Paired.length r
theorem Vals.get:∀ {xs:List V}{us:List Value}{i:Nat}{x:V},Vals xs us->xs[i]? = some x->∃ u,us[i]? = some u/\RelV x u
 |_,_,_,_,.nil,e=>by simp at e
 |_,_,0,_,.cons r _,e=>by simp at e;subst e;exact ⟨_,rfl,r⟩
 |_,_,i+1,x,.cons _ t,e=>by
  obtain ⟨u,h1,h2⟩:=Vals.get (i:=i) (x:=x) t (by simpa using e);exact ⟨u,by simpa using h1,h2⟩
theorem Vals.set {x:V}{u:Value} (r:RelV x u):∀ {xs:List V}{us:List Value} (i:Nat),Vals xs us->Vals (xs.set i x) (us.set i u)
 |_,_,_,.nil=>.nil
 |_,_,0,.cons _ t=>.cons r t
 |_,_,i+1,.cons q t=>.cons q (Vals.set r i t)
theorem Vals.append:∀ {xs ys:List V}{us ws:List Value},Vals xs us->Vals ys ws->Vals (xs ++ ys) (us ++ ws)
 |_,_,_,_,.nil,s=>s
 |_,_,_,_,.cons r t,s=>.cons r (Vals.append t s)
theorem Vals.take:∀ {xs:List V}{us:List Value} (n:Nat),Vals xs us->Vals (xs.take n) (us.take n)
 |_,_,0,_=>.nil
 |_,_,_+1,.nil=>.nil
 |_,_,n+1,.cons r t=>.cons r (Vals.take n t)
theorem Vals.drop:∀ {xs:List V}{us:List Value} (n:Nat),Vals xs us->Vals (xs.drop n) (us.drop n)
 |_,_,0,r=>r
 |_,_,_+1,.nil=>.nil
 |_,_,n+1,.cons _ t=>Vals.drop n t
def RelO:Option V->Option Value->Prop
 |some v,some u=>RelV v u
 |none,none=>True
 |_,_=>False
def KV {κ:Type}:List (κ × V)->List (κ × Value)->Prop:=Paired λ(p:κ × V) (q:κ × Value)=>p.1=q.1/\RelV p.2 q.2
def kV:Key->V
 | .inl i=>.int i
 | .inr x=>.str x
inductive HO where
 |lst (xs:List V)
 |tup (xs:List V)
 |dK (kvs:List (Key × V)) | dT (kvs:List (List Key × V))
 |set (S:Int->Bool) (n:Nat)
 |ins (C dx:Addr) (fs:List (Str × V))
 |own (x:Addr)
 |xd (fs:List (Str × V))
 |met (f x:Addr)
 |rng (lo hi:Int)
 |frz (o:Obj) (u:HO)
 |tbl (ps:Array Value)
 |ext (φ:Heap->Prop)
abbrev Hp:=Addr->Option HO
def upd (H:Hp) (a:Addr) (o:HO):Hp:=λb=>if b=a then some o else H b
theorem Zad {H:Hp}{a:Addr}{o:HO}:upd H a o a=some o:=by unfold upd;rw [Ya7 rfl]
theorem Zai {H:Hp}{a b:Addr}{o:HO} (h:b≠a):upd H a o b=H b:=by unfold upd;rw [Ya6 h]
theorem Zmi {H:Hp}{a b:Addr}{o u:HO} (h:H a=some o) (h':H b=some u) (d:o≠u):a≠b:=by
 intro e;subst e;rw [h] at h';exact d (Yae h')
theorem Zav {H:Hp}{a b:Addr}{o:HO} (h:H a=some o) (h':H b=none):a≠b:=by
 intro e;subst e;rw [h] at h';cases h'
section
variable (P:Program) (w:World)
def ObjOk (H:Hp) (h:Heap) (a:Addr):HO->Prop
 | .lst xs=>xs.length<=sizeLine/\∃ (its:List Value) (n:Nat),Vals xs its/\h.get? a=some { cls:=.type "list",data:=.seq its.toArray n }
 | .tup xs=>xs.length<=sizeLine/\∃ its:List Value,Vals xs its/\IsTup h a its.toArray
 | .dK kvs=>kvs.length<=sizeLine/\(a == sysModules)=false/\∃ vs,KV kvs vs/\h.DictOf (ZaM P w) a vs
 | .dT kvs=>kvs.length<=sizeLine/\(a == sysModules)=false/\∃ xs:List (List Key × Addr × Value),
   Paired (λ(p:List Key × V) (q:List Key × Addr × Value)=>p.1=q.1/\H q.2.1=some (.tup (p.1.map kV))/\RelV p.2 q.2.2) kvs xs /\
   ∃ o es ep,h.get? a=some o/\o.ExactDict/\o.data=.dict es ep/\es.toList=xs.map (entryOfKey (tupleKind (ZaM P w)))/\(xs.map (·.1)).Nodup
 | .set S n=>h.SetOf (intKind P w) a S n
 | .ins C dx fs=>H dx=some (.own a)/\fs.length<=1000/\dx≠a/\h.get? a=some (PySem.W.instObj C dx) /\
   ∃ mA,h.Ns1 dx mA/\(∀ f,RelO (fs.lookup f) (mA f))/\PySem.Within mA (fs.map (·.1))
 | .own _=>∃ o,h.get? a=some o
 | .xd fs=>∃ mA,h.Ns1 a mA/\∀ f,RelO (fs.lookup f) (mA f)
 | .rng lo hi=>∃ t u v,h.get? a=some { cls:=.type "range",data:=.fields #[.int lo t,.int hi u,.int 1 v] }
 | .frz o u=>h.get? a=some o/\ObjOk H h a u
 | .tbl ps=>h.get? a=some { cls:=.none,data:=.fields ps }
 | .met f x=>h.get? a=some (PySem.W.methodObj (.ref f) (.ref x))
 | .ext φ=>φ h/\(∃ o,h.get? a=some o)/\∀ h1 h2:Heap,φ h1->(∀ o,h1.get? a=some o->h2.get? a=some o)->φ h2
def HOk (H:Hp) (h:Heap):Prop:=∀ a o,H a=some o->ObjOk P w H h a o
end
section
variable {P:Program}{w:World}{H H':Hp}{h h':Heap}{a:Addr}{o:HO}
theorem ObjOk.lt (x:ObjOk P w H h a o):a<h.objs.size:=by
 cases o with
 |lst xs=>obtain ⟨_,_,_,_,e⟩:=x;exact Yal e
 |tup xs=>obtain ⟨_,_,_,p⟩:=x;exact p.lt
 |dK kvs=>obtain ⟨_,_,_,_,o,_,_,e,_⟩:=x;exact Yal e
 |dT kvs=>obtain ⟨_,_,_,_,o,_,_,e,_⟩:=x;exact Yal e
 |set S n=>obtain ⟨o,_,_,_,e,_⟩:=x;exact Yal e
 |ins C dx fs=>obtain ⟨_,_,_,e,_⟩:=x;exact Yal e
 |own y=>obtain ⟨_,e⟩:=x;exact Yal e
 |xd fs=>obtain ⟨_,⟨_,_,_,e,_⟩,_⟩:=x;exact Yal e
 |rng lo hi=>obtain ⟨_,_,_,e⟩:=x;exact Yal e
 |frz ob u=>obtain ⟨e,_⟩:=x;exact Yal e
 |tbl ps=>exact Yal (show h.get? a=some _ from x)
 |met f y=>exact Yal (show h.get? a=some _ from x)
 |ext φ=>obtain ⟨_,⟨_,e⟩,_⟩:=x;exact Yal e
theorem Paired.mapP {α β:Type}{F G:α->β->Prop}:∀ {l₁:List α}{l₂:List β},Paired F l₁ l₂->(∀ a b,F a b->G a b)->Paired G l₁ l₂
 |_,_,.nil,_=>.nil
 |_,_,.cons r t,f=>.cons (f _ _ r) (Paired.mapP t f)
theorem ObjOk.stay (x:ObjOk P w H h a o) (k:∀ b u,(b=a\/H b=some (.own a))->h.get? b=some u->h'.get? b=some u)
  (ho:∀ b,H b=some (.own a)->H' b=some (.own a)) (ht:∀ b xs,H b=some (.tup xs)->H' b=some (.tup xs)):ObjOk P w H' h' a o:=by
 induction o with
 |lst xs=>obtain ⟨z,its,n,r,e⟩:=x;exact ⟨z,its,n,r,k _ _ (.inl rfl) e⟩
 |tup xs=>obtain ⟨z,its,r,ob,e,c⟩:=x;exact ⟨z,its,r,ob,k _ _ (.inl rfl) e,c⟩
 |dK kvs=>obtain ⟨z,y,vs,r,ob,es,ep,e,c⟩:=x;exact ⟨z,y,vs,r,ob,es,ep,k _ _ (.inl rfl) e,c⟩
 |dT kvs =>
  obtain ⟨z,y,xs,r,ob,es,ep,e,c⟩:=x;exact ⟨z,y,xs,Paired.mapP r λp q z=>⟨z.1,ht _ _ z.2.1,z.2.2⟩,ob,es,ep,k _ _ (.inl rfl) e,c⟩
 |set S n=>obtain ⟨ob,es,ep,t,e,c⟩:=x;exact ⟨ob,es,ep,t,k _ _ (.inl rfl) e,c⟩
 |ins C dx fs =>
  obtain ⟨d,z,ne,e,mA,⟨od,es,ep,e2,c⟩,r⟩:=x;exact ⟨ho _ d,z,ne,k _ _ (.inl rfl) e,mA,⟨od,es,ep,k _ _ (.inr d) e2,c⟩,r⟩
 |own y=>obtain ⟨ob,e⟩:=x;exact ⟨ob,k _ _ (.inl rfl) e⟩
 |xd fs=>obtain ⟨mA,⟨od,es,ep,e,c⟩,r⟩:=x;exact ⟨mA,⟨od,es,ep,k _ _ (.inl rfl) e,c⟩,r⟩
 |rng lo hi=>obtain ⟨t,u,v,e⟩:=x;exact ⟨t,u,v,k _ _ (.inl rfl) e⟩
 |frz ob u ih=>obtain ⟨e,q⟩:=x;exact ⟨k _ _ (.inl rfl) e,ih q⟩
 |tbl ps =>
  have e:h.get? a=some { cls:=.none,data:=.fields ps }:=x;show h'.get? a=some { cls:=.none,data:=.fields ps };exact k a _ (.inl rfl) e
 |met f y =>
  have e:h.get? a=some (PySem.W.methodObj (.ref f) (.ref y)):=x;show h'.get? a=some (PySem.W.methodObj (.ref f) (.ref y));exact k a _ (.inl rfl) e
 |ext φ=>obtain ⟨p,⟨o,e⟩,st⟩:=x;exact ⟨st _ _ p λo q=>k _ _ (.inl rfl) q,⟨o,k _ _ (.inl rfl) e⟩,st⟩
theorem HOk.lt (x:HOk P w H h) (e:H a=some o):a<h.objs.size:=(x a o e).lt
theorem HOk.fresh (x:HOk P w H h) (e:h.objs.size<=a):H a=none:=by
 cases q:H a with
 |none=>rfl
 |some u=>exact absurd (Yan (x.lt q) e) (Ybq _)
theorem HOk.kept (x:HOk P w H h) (k:∀ b u,h.get? b=some u->h'.get? b=some u):HOk P w H h':=λa o e =>
 (x a o e).stay (λb u _ q=>k b u q) (λ_ q=>q) λ_ _ q=>q
theorem HOk.laid (x:HOk P w H h) (k:∀ b u,h.get? b=some u->h'.get? b=some u) (hp:h.objs.size<=a) (new:ObjOk P w (upd H a o) h' a o):HOk P w (upd H a o) h':=λb u e=>by
 have hn:=x.fresh hp
 by_cases hb:b=a
 ·subst hb;rw [Zad] at e;cases e;exact new
 ·rw [Zai hb] at e;exact (x b u e).stay (λc v _ q=>k c v q) (λc q=>by rw [Zai (Zav q hn)];exact q) λc xs q=>by rw [Zai (Zav q hn)];exact q
end
def Rd (H:Hp) (a:Addr) (u:HO):Prop:=H a=some u\/∃ o,H a=some (.frz o u)
theorem Rd.ok {P:Program}{w:World}{H:Hp}{h:Heap}{a:Addr}{u:HO} (r:Rd H a u) (x:HOk P w H h):ObjOk P w H h a u:=by
 rcases r with r | ⟨o,r⟩
 ·exact x a u r
 ·obtain ⟨_,q⟩:=x a _ r;exact q
def Mut:Option HO->Prop
 |some (.lst _)=>True
 |some (.dK _)=>True
 |some (.dT _)=>True
 |some (.set _ _)=>True
 |some (.ins _ _ _)=>True
 |some (.ext _)=>True
 |_=>False
section
variable {P:Program}{w:World}{H:Hp}{h h':Heap}{x e:Addr}{o':HO}
theorem HOk.write (ok:HOk P w H h) (mu:Mut (H x)) (he:e=x\/H e=some (.own x)) (k:∀ b u,b≠e->h.get? b=some u->h'.get? b=some u) (heo:∃ u,h'.get? e=some u)
  (new:ObjOk P w (upd H x o') h' x o'):HOk P w (upd H x o') h':=λb u q=>by
 have nown:∀ c y,H c=some (.own y)->c≠x:=λc y r z=>by subst z;rw [r] at mu;exact mu
 have ntup:∀ c xs,H c=some (.tup xs)->c≠x:=λc xs r z=>by subst z;rw [r] at mu;exact mu
 by_cases hb:b=x
 ·subst hb;rw [Zad] at q;cases q;exact new
 ·rw [Zai hb] at q
  by_cases hbe:b=e
  ·have q':H b=some (.own x):=by
    rcases he with z | z
    ·exact absurd (hbe.trans z) hb
    ·rw [hbe];exact z
   rw [q] at q';cases q';obtain ⟨v,hv⟩:=heo;exact ⟨v,by rw [hbe];exact hv⟩
  ·refine (ok b u q).stay (λc v hc r=>k c v ?_ r) (λc r=>by rw [Zai (nown c b r)];exact r) λc xs r=>by rw [Zai (ntup c xs r)];exact r
   rcases hc with rfl | hc
   ·exact hbe
   ·rintro rfl;rcases he with z | z
    ·exact nown c b hc z
    ·rw [hc] at z;cases z;exact hb rfl
end
structure Un (fs ex:List Addr) (H H':Hp) (h h':Heap):Prop where
 keep:∀ b o,h.get? b=some o->H b=none->b∉fs->b∉ex->h'.get? b=some o
 slot:∀ b o,h.get? b=some o->H b=none->b∈fs->b∉ex->∃ sl,h'.get? b=some { o with slots:=sl }
 free:∀ b o,h.get? b=some o->H b=none->b∉ex->H' b=none
 there:∀ b o,h.get? b=some o->b∉ex->∃ o',h'.get? b=some o'
 tups:∀ b xs,H b=some (.tup xs)->H' b=some (.tup xs)
 frzs:∀ b o u,H b=some (.frz o u)->H' b=some (.frz o u)
 tbls:∀ b ps,H b=some (.tbl ps)->∃ more,H' b=some (.tbl (ps ++ more))
section
variable {fs fs' ex ex':List Addr}{H H1 H2:Hp}{h h1 h2 h':Heap}{a x e:Addr}{o:HO}
theorem Un.any (u:Un fs ex H H1 h h1) {b:Addr}{ob:Obj} (q:h.get? b=some ob) (n:H b=none) (hx:b∉ex):∃ sl,h1.get? b=some { ob with slots:=sl }:=by
 by_cases hb:b∈fs
 ·exact u.slot b ob q n hb hx
 ·exact ⟨ob.slots,u.keep b ob q n hb hx⟩
theorem Un.kept (k:∀ b u,h.get? b=some u->h'.get? b=some u):Un fs ex H H h h' :=
 ⟨λb ob q _ _ _=>k b ob q,λb ob q _ _ _=>⟨ob.slots,k b ob q⟩,λ_ _ _ n _=>n,λb ob q _=>⟨ob,k b ob q⟩,λ_ _ q=>q,λ_ _ _ q=>q,λ_ ps q=>⟨#[],by rw [q];simp⟩⟩
theorem Un.refl:Un fs ex H H h h:=Un.kept λ_ _ q=>q
theorem Un.laid (k:∀ b u,h.get? b=some u->h'.get? b=some u) (hp:h.objs.size<=a) (hn:H a=none):Un fs ex H (upd H a o) h h' where
 keep:=λb u q _ _ _=>k b u q
 slot:=λb u q _ _ _=>⟨u.slots,k b u q⟩
 free:=λb u q n _=>by rw [Zai (Yap (Yan (Yal q) hp))];exact n
 there:=λb u q _=>⟨u,k b u q⟩
 tups:=λb xs q=>by rw [Zai (Zav q hn)];exact q
 frzs:=λb u xs q=>by rw [Zai (Zav q hn)];exact q
 tbls:=λb ps q=>⟨#[],by rw [Zai (Zav q hn),q];simp⟩
theorem Un.write (mu:Mut (H x)) (he:e=x\/H e=some (.own x)) (k:∀ b u,b≠e->h.get? b=some u->h'.get? b=some u) (heo:∃ u,h'.get? e=some u):Un fs ex H (upd H x o) h h':=by
 have hx:∀ b,H b=none->b≠x:=λb n z=>by subst z;rw [n] at mu;exact mu
 have hb:∀ b,H b=none->b≠e:=λb n z=>by
  subst z;rcases he with r | r
  ·exact hx b n r
  ·rw [n] at r;cases r
 have hm:∀ b u,H b=some u->¬ Mut (some u)->b≠x:=λb u q nm z=>by subst z;rw [q] at mu;exact nm mu
 refine ⟨λb u q n _ _=>k b u (hb b n) q,λb u q n _ _=>⟨u.slots,k b u (hb b n) q⟩,λb u q n _=>by rw [Zai (hx b n)];exact n,λb u q _=>?_,
  λb xs q=>by rw [Zai (hm b _ q λz=>z)];exact q,λb u xs q=>by rw [Zai (hm b _ q λz=>z)];exact q,λb ps q=>⟨#[],by rw [Zai (hm b _ q λz=>z),q];simp⟩⟩
 by_cases hbe:b=e
 ·subst hbe;exact heo
 ·exact ⟨u,k b u hbe q⟩
theorem Un.mono (u:Un fs ex H H1 h h1) (hs:∀ b∈fs,b∈fs') (hx:∀ b∈ex,b∈ex'):Un fs' ex' H H1 h h1 :=
 ⟨λb ob q n hb he=>u.keep b ob q n (λz=>hb (hs b z)) λz=>he (hx b z),λ_ _ q n _ he=>u.any q n λz=>he (hx _ z),λb ob q n he=>u.free b ob q n λz=>he (hx b z),λb ob q he=>u.there b ob q λz=>he (hx b z),u.tups,u.frzs,u.tbls⟩
end
def trk (h:Heap) (H:Hp):List Addr:=(List.range h.objs.size).filter λa=>(H a).isSome
def hidT (h:Heap) (H:Hp):Heap:=PySem.W.hideAll h (trk h H)
theorem ZkB (h:Heap) (H:Hp):(hidT h H).objs.size=h.objs.size:=PySem.W.hideAll_size _ _
theorem Zmt {h:Heap}{H:Hp}{b:Addr}{o:Obj} (e:h.get? b=some o) (n:H b=none):(hidT h H).get? b=some o :=
 PySem.W.hideAll_get _ e λhm=>by
  have q:(H b).isSome=true:=(List.mem_filter.mp hm).2;rw [n] at q;simp at q
theorem Zos {h:Heap}{H:Hp}{b:Addr}{o:Obj} (e:(hidT h H).get? b=some o):h.get? b=some o/\H b=none:=by
 have e':h.get? b=some o:=PySem.W.of_hideAll (trk h H) e;refine ⟨e',?_⟩;cases q:H b with
 |none=>rfl
 |some x =>
  have hm:b∈trk h H:=List.mem_filter.mpr ⟨List.mem_range.mpr (Yal e'),by simp [q]⟩;have z:(hidT h H).get? b=none:=PySem.W.hideAll_none (trk h H) hm;rw [z] at e;cases e
def Zo5 (g h:Heap) (L:Addr):List (Addr × Obj):=(List.range h.objs.size).filterMap λa=>if a=L\/(g.get? a).isSome=true then none else (h.get? a).map λo=>(a,o)
def rest (g h:Heap) (L d:Addr):List (Addr × Obj):=(Zo5 g h L).filter λp=>decide (p.1≠d)
open PySem PySem.Spec PyProof.Rows
structure Mod (K:Yab) (mg:Str->Option Value) (base:Heap):Prop where
 kin:K.In base
 glob:base.Ns mainGlobals mg
 blt:∃ mb,base.Ns builtinsNs mb/\∀ x:Str,x ≠ "__name__" -> mb x=bootBuiltins x
 nolimit:base.NoLimit
structure Cx where
 prog:Program
 w:World
 K:Yab
 mg:Str->Option Value
 base:Heap
 A:Around
 N:List Str
 s₀:Shared
 H₀:Hp
 env:Env
 outer:List Env
 stack:List Env
 ex:List Addr
 fn:Str->Bool
 calm:Bool
 pn:List (Addr × Obj)
 xe:Value->Shared->Prop
def frs (l:List Env):List Addr:=l.filterMap (·.frame)
abbrev Cx.fs (X:Cx):List Addr:=frs X.outer
def Vis (sc:Scope) (x:Str):Prop:=sc.names.lookup x=some .local\/sc.names.lookup x=some .cell\/sc.names.lookup x=some .free
def Loc (sc:Scope) (x:Str):Prop:=sc.names.lookup x=some .local\/sc.names.lookup x=some .cell
def Look (env:Env) (h:Heap) (m:Str->Option Value) (x:Str) (u:Value):Prop :=
 (env.kindOf x=some .local/\m x=some u)\/((env.kindOf x=some .cell\/env.kindOf x=some .free)/\∃ c,env.cells.lookup x=some c/\h.IsCell c (some u))
structure Cx.Ok (X:Cx):Prop where
 mod:Mod X.K X.mg X.base
 kind:X.env.scope.kind=.function
 glob:X.env.globals=mainGlobals
 blt:X.env.builtins=builtinsNs
 above:X.s₀.heap.objs.size<=X.env.locals
 inj:∀ x y c,X.env.cells.lookup x=some c->X.env.cells.lookup y=some c->x=y
 has:∀ x,(X.env.kindOf x=some .cell\/X.env.kindOf x=some .free)->∃ c,X.env.cells.lookup x=some c
 cab:∀ x c,X.fn x=true->X.env.cells.lookup x=some c->X.s₀.heap.objs.size<=c
 hd:X.calm=true->X.A.handled=none
 frames:X.A.frames=some X.stack
 stk:X.stack=X.outer\/(X.stack=X.env :: X.outer/\X.env.frame=some X.env.locals)
 exf:∀ b∈X.ex,b≠X.env.locals/\∀ x c,X.env.cells.lookup x=some c->c≠b
 bs:∀ b o,X.base.get? b=some o->X.s₀.heap.get? b=some o/\X.H₀ b=none
 bsz:X.base.objs.size<=X.s₀.heap.objs.size
 noex:∀ b o,X.base.get? b=some o->b∉X.ex
 exfs:∀ b∈X.ex,b∉X.fs
 funs:X.s₀.heap.FunFrames X.base X.outer
 frf:∀ b∈X.fs,X.H₀ b=none
structure Inv (X:Cx) (pins:List (Addr × Obj)) (σ:List (Option V)) (H:Hp) (s:Shared):Prop where
 ok:X.Ok
 os:s.os=X.s₀.os
 bare:AllBare s.gens
 base:Un X.fs X.ex X.H₀ H X.s₀.heap s.heap
 loc:∃ m,s.heap.Ns X.env.locals m/\∀ (i:Nat) (x:Str) (v:V),X.N[i]? = some x->σ[i]? = some (some v)->Vis X.env.scope x->∃ u,RelV v u/\Look X.env s.heap m x u
 cell:∀ x c,X.env.cells.lookup x=some c->∃ v,s.heap.IsCell c v
 free:H X.env.locals=none
 freeC:∀ x c,X.env.cells.lookup x=some c->H c=none
 pin:∀ p∈X.pn ++ pins,s.heap.get? p.1=some p.2/\H p.1=none/\p.1≠X.env.locals/\p.1∉X.fs/\∀ v,p.2.data≠.cell v
 hok:HOk X.prog X.w H s.heap
 len:σ.length=X.N.length
section
variable {X:Cx}{pins:List (Addr × Obj)}{σ:List (Option V)}{H H':Hp}{s:Shared}{h':Heap}
theorem Cx.Ok.nofr (ok:X.Ok) {b:Addr}{o:Obj} (e:X.base.get? b=some o):b∉X.fs:=λhb=>by
 have:=(ok.funs.mem hb).1;rw [e] at this;cases this
theorem Inv.bs (I:Inv X pins σ H s):∀ b o,X.base.get? b=some o->s.heap.get? b=some o/\H b=none:=λb o e =>
 ⟨I.base.keep b o (I.ok.bs b o e).1 (I.ok.bs b o e).2 (I.ok.nofr e) (I.ok.noex b o e),I.base.free b o (I.ok.bs b o e).1 (I.ok.bs b o e).2 (I.ok.noex b o e)⟩
theorem Inv.bk (I:Inv X pins σ H s):∀ b o,X.base.get? b=some o->s.heap.get? b=some o:=λb o e=>(I.bs b o e).1
theorem Inv.mod (I:Inv X pins σ H s):Mod X.K X.mg X.base:=I.ok.mod
theorem Inv.kIn (I:Inv X pins σ H s):X.K.In s.heap:=I.ok.mod.kin.keeps I.bk
theorem Inv.fr (I:Inv X pins σ H s):∃ m,Fr X.base X.env.locals s.heap m :=
 let ⟨m,hn,_⟩:=I.loc
 ⟨m,hn,I.bk,Yay I.ok.bsz I.ok.above⟩
theorem Inv.lt (I:Inv X pins σ H s):X.env.locals<s.heap.objs.size:=let ⟨_,hn,_⟩:=I.loc;hn.lt
theorem Inv.sz (I:Inv X pins σ H s):X.s₀.heap.objs.size<=s.heap.objs.size:=Yay I.ok.above (Nat.le_of_lt I.lt)
theorem Inv.nofs (I:Inv X pins σ H s) {a:Addr} (h:s.heap.objs.size<=a):a∉X.fs:=λhb=>by
 obtain ⟨_,o,ho,_⟩:=I.ok.funs.mem hb;exact absurd (Yan (Yal ho) (Yay I.sz h)) (Ybq _)
theorem Inv.cne (I:Inv X pins σ H s):∀ x c,X.env.cells.lookup x=some c->c≠X.env.locals:=λx c e z=>by
 obtain ⟨v,o,ho,hd⟩:=I.cell x c e;obtain ⟨m,⟨o',es,ep,ho',hd',_⟩,_⟩:=I.loc;rw [z,ho'] at ho;cases ho;rw [hd'] at hd;cases hd
theorem Inv.funs (I:Inv X pins σ H s):s.heap.FunFrames X.base X.outer:=by
 have all:∀ (l:List Env),(∀ b∈frs l,b∈X.fs)->X.s₀.heap.FunFrames X.base l->s.heap.FunFrames X.base l:=by
  intro l
  induction l with
  |nil=>intro _ _;trivial
  |cons env r ih =>
   intro hs hl;obtain ⟨hk,⟨L,o,hf,hn,ho,hd⟩,hr⟩:=hl;have hL:L∈X.fs:=hs L (by unfold frs;rw [List.filterMap_cons,hf];exact YaM);obtain ⟨sl,e⟩:=I.base.slot L o ho (I.ok.frf L hL) hL λz=>I.ok.exfs L z hL;exact ⟨hk,⟨L,_,hf,hn,e,hd⟩,ih (λb hb=>hs b (by unfold frs;rw [List.filterMap_cons,hf];exact Yas _ hb)) hr⟩
 exact all X.outer (λ_ hb=>hb) I.ok.funs
theorem Inv.stack (I:Inv X pins σ H s):s.heap.FunFrames X.base X.stack:=by
 rcases I.ok.stk with e | ⟨e,hf⟩
 ·rw [e];exact I.funs
 ·rw [e];obtain ⟨m,hn,_⟩:=I.loc;refine .cons (by rw [I.ok.kind];decide) hf hn ?_ I.funs;exact Heap.get?_none_of_le (Yay I.ok.bsz I.ok.above)
theorem Inv.stkSub (I:Inv X pins σ H s):∀ b∈frs X.stack,b∈X.env.locals :: X.fs:=λb hb=>by
 rcases I.ok.stk with e | ⟨e,hf⟩
 ·rw [e] at hb;exact Yas _ hb
 ·rw [e] at hb;unfold frs at hb;rw [List.filterMap_cons,hf] at hb;exact hb
theorem Inv.stkFree (I:Inv X pins σ H s):∀ b∈frs X.stack,H b=none:=λb hb=>by
 rcases YaF.mp (I.stkSub b hb) with e | hb
 ·rw [e];exact I.free
 ·obtain ⟨_,o,ho,_⟩:=I.ok.funs.mem hb;exact I.base.free b o ho (I.ok.frf b hb) λz=>I.ok.exfs b z hb
theorem Inv.step {g':Array GenState}{t':Nat}{d':Drawn}{ch:List Addr} (I:Inv X pins σ H s)
  (hch:∀ b∈ch,(b∈X.ex\/X.s₀.heap.objs.size<=b)/\b≠X.env.locals/\(∀ x c,X.env.cells.lookup x=some c->c≠b)/\∀ p∈X.pn ++ pins,p.1≠b)
  (keep:∀ b o,b≠X.env.locals->b∉X.fs->b∉ch->s.heap.get? b=some o->H b=none->h'.get? b=some o)
  (slot:∀ b o,b≠X.env.locals->b∈X.fs->b∉ch->s.heap.get? b=some o->H b=none->∃ sl,h'.get? b=some { o with slots:=sl }) (free:∀ b o,b∉ch->s.heap.get? b=some o->H b=none->H' b=none)
  (there:∀ b o,b∉ch->s.heap.get? b=some o->∃ o',h'.get? b=some o')
  (tups:∀ b xs,H b=some (.tup xs)->H' b=some (.tup xs)) (frzs:∀ b o u,H b=some (.frz o u)->H' b=some (.frz o u)) (tbls:∀ b ps,H b=some (.tbl ps)->∃ more,H' b=some (.tbl (ps ++ more)))
  (ns:∀ m,s.heap.Ns X.env.locals m->h'.Ns X.env.locals m) (hok:HOk X.prog X.w H' h') (hg:AllBare g') :
  Inv X pins σ H' { s with heap:=h',gens:=g',drawn:=d',toks:=t' }:=by
 have neL:∀ b o,X.s₀.heap.get? b=some o->b≠X.env.locals:=λb o e=>Yap (Yan (Yal e) I.ok.above);have neC:∀ b o,X.s₀.heap.get? b=some o->b∉X.ex->b∉ch:=λb o e hx hb=>by
  rcases (hch b hb).1 with z | z
  ·exact hx z
  ·exact absurd (Yan (Yal e) z) (Ybq _)
 have cellK:∀ x c,X.env.cells.lookup x=some c->∀ v,s.heap.IsCell c v->h'.IsCell c v:=λx c e v ⟨o,ho,hd⟩=>by
  have nch:c∉ch:=λz=>(hch c z).2.2.1 x c e rfl
  by_cases hc:c∈X.fs
  ·obtain ⟨sl,q⟩:=slot c o (I.cne x c e) hc nch ho (I.freeC x c e);exact ⟨_,q,hd⟩
  ·exact ⟨o,keep c o (I.cne x c e) hc nch ho (I.freeC x c e),hd⟩
 refine ⟨I.ok,I.os,hg,⟨λb o e n hb hx=>?_,λb o e n hb hx=>?_,λb o e n hx=>?_,λb o e hx=>?_,λb xs e=>tups b xs (I.base.tups b xs e),λb o xs e=>frzs b o xs (I.base.frzs b o xs e),λb ps e=>?_⟩,?_,λx c e=>?_,?_,λx c e=>?_,λp hp=>?_,hok,I.len⟩
 ·exact keep b o (neL b o e) hb (neC b o e hx) (I.base.keep b o e n hb hx) (I.base.free b o e n hx)
 ·obtain ⟨sl,e1⟩:=I.base.slot b o e n hb hx;obtain ⟨sl',e2⟩:=slot b _ (neL b o e) hb (neC b o e hx) e1 (I.base.free b o e n hx);exact ⟨sl',e2⟩
 ·obtain ⟨o',e1⟩:=I.base.there b o e hx;exact free b o' (neC b o e hx) e1 (I.base.free b o e n hx)
 ·obtain ⟨o',e1⟩:=I.base.there b o e hx;exact there b o' (neC b o e hx) e1
 ·obtain ⟨m1,e1⟩:=I.base.tbls b ps e;obtain ⟨m2,e2⟩:=tbls b _ e1;exact ⟨m1 ++ m2,by rw [e2,Array.append_assoc]⟩
 ·obtain ⟨m,hn,hl⟩:=I.loc;refine ⟨m,ns m hn,λi x v e1 e2 e3=>?_⟩;obtain ⟨u,r,l⟩:=hl i x v e1 e2 e3;refine ⟨u,r,?_⟩;rcases l with l | ⟨k,c,e,z⟩
  ·exact .inl l
  ·exact .inr ⟨k,c,e,cellK x c e _ z⟩
 ·obtain ⟨v,z⟩:=I.cell x c e;exact ⟨v,cellK x c e v z⟩
 ·obtain ⟨m,⟨o,_,_,ho,_⟩,_⟩:=I.loc;exact free _ o (λz=>(hch _ z).2.1 rfl) ho I.free
 ·obtain ⟨v,o,ho,hd⟩:=I.cell x c e;exact free c o (λz=>(hch c z).2.2.1 x c e rfl) ho (I.freeC x c e)
 ·obtain ⟨e,n,ne,nf,d⟩:=I.pin p hp;have nch:p.1∉ch:=λz=>(hch p.1 z).2.2.2 p hp rfl;exact ⟨keep p.1 p.2 ne nf nch e n,free p.1 p.2 nch e n,ne,nf,d⟩
theorem Inv.un {t':Nat} (I:Inv X pins σ H s) (u:Un X.fs [] H H' s.heap h') (hok:HOk X.prog X.w H' h'):Inv X pins σ H' { s with heap:=h',toks:=t' }:=by
 obtain ⟨m,⟨o,es,ep,ho,r⟩,_⟩:=id I.loc;obtain ⟨sl,hL⟩:=u.any ho I.free (by simp);exact I.step (g':=s.gens) (d':=s.drawn) (ch:=[]) (λ_ z=>nomatch z) (λb o _ hb _ e n=>u.keep b o e n hb (by simp)) (λb o _ hb _ e n=>u.slot b o e n hb (by simp)) (λb o _ e n=>u.free b o e n (by simp)) (λb o _ e=>u.there b o e (by simp)) u.tups u.frzs u.tbls (λm' hm=>by
  obtain ⟨o',es',ep',ho',r'⟩:=hm;rw [ho] at ho';cases ho'
  exact ⟨_,es',ep',hL,r'⟩) hok I.bare
theorem Inv.call {g':Array GenState}{t':Nat}{d':Drawn}{ch:List Addr} (I:Inv X pins σ H s) (u:Un (frs X.stack) ch H H' s.heap h') (hok:HOk X.prog X.w H' h') (hg:AllBare g')
  (hch:∀ b∈ch,(b∈X.ex\/X.s₀.heap.objs.size<=b)/\b≠X.env.locals/\(∀ x c,X.env.cells.lookup x=some c->c≠b)/\∀ p∈X.pn ++ pins,p.1≠b) :
  Inv X pins σ H' { s with heap:=h',gens:=g',drawn:=d',toks:=t' }:=by
 obtain ⟨m,⟨o,es,ep,ho,r⟩,_⟩:=id I.loc;obtain ⟨sl,hL⟩:=u.any ho I.free λz=>(hch _ z).2.1 rfl;exact I.step (ch:=ch) hch (λb o hL hb hc e n=>u.keep b o e n (λz=>(YaF.mp (I.stkSub b z)).elim hL hb) hc) (λb o _ _ hc e n=>u.any e n hc) (λb o hc e n=>u.free b o e n hc) (λb o hc e=>u.there b o e hc) u.tups u.frzs u.tbls (λm' hm=>by
  obtain ⟨o',es',ep',ho',r'⟩:=hm;rw [ho] at ho';cases ho'
  exact ⟨_,es',ep',hL,r'⟩) hok hg
theorem Inv.turned {t':Nat}{it:Addr} (I:Inv X pins σ H s) (k:∀ b o,b≠it->s.heap.get? b=some o->h'.get? b=some o) (hn:H it=none) (hL:it≠X.env.locals)
  (h1:it∈X.ex\/X.s₀.heap.objs.size<=it) (h2:∀ x c,X.env.cells.lookup x=some c->c≠it) (h3:∀ p∈X.pn ++ pins,p.1≠it):Inv X pins σ H { s with heap:=h',toks:=t' }:=by
 have nit:∀ b u,H b=some u->b≠it:=λb u e z=>by rw [z,hn] at e;cases e
 refine I.step (g':=s.gens) (d':=s.drawn) (ch:=[it]) (λb hb=>?_) (λb o _ _ hc e _=>k b o (λz=>hc (by simp [z])) e) (λb o _ _ hc e _=>⟨o.slots,k b o (λz=>hc (by simp [z])) e⟩) (λ_ _ _ _ n=>n)
  (λb o hc e=>⟨o,k b o (λz=>hc (by simp [z])) e⟩) (λ_ _ e=>e) (λ_ _ _ e=>e) (λb ps e=>⟨#[],by rw [e];simp⟩) (λm hm=>?_) (λb u e=>?_) I.bare
 ·have e:b=it:=by simpa using hb
  subst e;exact ⟨h1,hL,h2,h3⟩
 ·obtain ⟨o,es,ep,ho,r⟩:=hm;exact ⟨o,es,ep,k _ o (Ne.symm hL) ho,r⟩
 ·refine (I.hok b u e).stay (λc v hc q=>k c v ?_ q) (λ_ q=>q) λ_ _ q=>q;rcases hc with z | z
  ·rw [z];exact nit b u e
  ·exact nit c _ z
theorem Inv.tok (I:Inv X pins σ H s) (t:Nat):Inv X pins σ H { s with toks:=t }:=I.un (h':=s.heap) (t':=t) Un.refl I.hok
theorem Inv.kept {t':Nat} (I:Inv X pins σ H s) (k:∀ b u,s.heap.get? b=some u->h'.get? b=some u):Inv X pins σ H { s with heap:=h',toks:=t' }:=I.un (Un.kept k) (I.hok.kept k)
theorem Inv.laid {a:Addr}{o:HO}{t':Nat} (I:Inv X pins σ H s) (k:∀ b u,s.heap.get? b=some u->h'.get? b=some u) (hp:s.heap.objs.size<=a) (new:ObjOk X.prog X.w (upd H a o) h' a o) :
  Inv X pins σ (upd H a o) { s with heap:=h',toks:=t' }:=I.un (Un.laid k hp (I.hok.fresh hp)) (I.hok.laid k hp new)
theorem Inv.write {x e:Addr}{o:HO}{t':Nat} (I:Inv X pins σ H s) (mu:Mut (H x)) (he:e=x\/H e=some (.own x)) (k:∀ b u,b≠e->s.heap.get? b=some u->h'.get? b=some u) (heo:∃ u,h'.get? e=some u)
  (new:ObjOk X.prog X.w (upd H x o) h' x o):Inv X pins σ (upd H x o) { s with heap:=h',toks:=t' }:=I.un (Un.write mu he k heo) (I.hok.write mu he k heo new)
theorem Inv.pins_of {pins':List (Addr × Obj)} (I:Inv X pins σ H s) (h:∀ p∈pins',s.heap.get? p.1=some p.2/\H p.1=none/\p.1≠X.env.locals/\p.1∉X.fs/\∀ v,p.2.data≠.cell v):Inv X pins' σ H s :=
 ⟨I.ok,I.os,I.bare,I.base,I.loc,I.cell,I.free,I.freeC,λp hp=>(YaG.mp hp).elim (λz=>I.pin p (YaA _ z)) (h p),I.hok,I.len⟩
theorem ZeC {N:List Str} (hN:N.Nodup) {i j:Nat}{x:Str} (a:N[i]? = some x) (b:N[j]? = some x):i=j:=by
 obtain ⟨h1,e1⟩:=Yai.mp a;obtain ⟨h2,e2⟩:=Yai.mp b;exact (List.getElem_inj hN).mp (e1.trans e2.symm)
theorem Zds {M:Model}{A:Around}{E:Value->Shared->Prop}{i:Nat}{x:Str}{v:V}{u:Value}{Q:Unit->Shared->Prop} (I:Inv X pins σ H s) (hN:X.N.Nodup) (hi:X.N[i]? = some x) (hx:Loc X.env.scope x) (r:RelV v u)
  (h:∀ s',Inv X pins (σ.set i (some v)) H s'->(∃ a,Heap.SameBut a s.heap s'.heap/\(a=X.env.locals\/X.env.cells.lookup x=some a))->Q () s') (hf:X.fn x=true\/X.env.scope.names.lookup x=some .local:=by first | exact .inl rfl | exact .inr rfl | assumption):wpAny M A (storeName X.env x u) Q E s:=by
 obtain ⟨m,hn,hl⟩:=id I.loc;have hcls:(X.env.scope.kind == .class || (X.env.scope.kind == .module && X.env.locals != X.env.globals))=false:=by rw [I.ok.kind];rfl
 have hiσ:i < σ.length:=by rw [I.len];exact (Yai.mp hi).1
 have cne:=I.cne;have tracked:∀ {a:Addr}{h':Heap},(∃ o,s.heap.get? a=some o/\H a=none)->Heap.SameBut a s.heap h'->HOk X.prog X.w H h':=λ{a h'} ha hs b ob e=>by
  obtain ⟨_,_,hfree⟩:=ha;refine (I.hok b ob e).stay (λc w' hc q=>(hs.2 c ?_).trans q) (λ_ q=>q) λ_ _ q=>q;rintro rfl;rcases hc with rfl | hc
  ·rw [hfree] at e;cases e
  ·rw [hfree] at hc;cases hc
 rcases hx with hk | hk
 ·refine wpAny_storeName_local hk hn (λh' hn' hs=>?_) hcls;obtain ⟨oL,_,_,hoL,_⟩:=id hn;refine h _ ⟨I.ok,I.os,I.bare,⟨λb o e n hb hx=>?_,λb o e n hb hx=>?_,I.base.free,λb o e hx=>?_,I.base.tups,I.base.frzs,I.base.tbls⟩,⟨_,hn',λj y v' e1 e2 e3=>?_⟩,λy c e=>?_,I.free,I.freeC,λp hp=>?_,tracked ⟨oL,hoL,I.free⟩ hs,by simpa using I.len⟩ ⟨_,hs,.inl rfl⟩
  ·exact (hs.2 b (Yap (Yan (Yal e) I.ok.above))).trans (I.base.keep b o e n hb hx)
  ·obtain ⟨sl,e1⟩:=I.base.slot b o e n hb hx;exact ⟨sl,(hs.2 b (Yap (Yan (Yal e) I.ok.above))).trans e1⟩
  ·obtain ⟨o',e1⟩:=I.base.there b o e hx;exact ⟨o',(hs.2 b (Yap (Yan (Yal e) I.ok.above))).trans e1⟩
  ·by_cases hj:j=i
   ·subst hj;rw [hi] at e1;cases e1;rw [List.getElem?_set_self hiσ] at e2;cases e2;exact ⟨u,r,.inl ⟨hk,by simp⟩⟩
   ·rw [List.getElem?_set_ne (Ne.symm hj)] at e2;obtain ⟨u',r',q⟩:=hl j y v' e1 e2 e3;refine ⟨u',r',?_⟩;rcases q with ⟨k,e⟩ | ⟨k,c,e,z⟩
    ·refine .inl ⟨k,?_⟩;have:y≠x:=λe=>hj (ZeC hN e1 (e ▸ hi));simp [this,e]
    ·exact .inr ⟨k,c,e,z.sameBut hs (cne y c e)⟩
  ·obtain ⟨w',z⟩:=I.cell y c e;exact ⟨w',z.sameBut hs (cne y c e)⟩
  ·obtain ⟨e,n,ne,nf,d⟩:=I.pin p hp;exact ⟨(hs.2 p.1 ne).trans e,n,ne,nf,d⟩
 ·have hfn:X.fn x=true:=by
   rcases hf with z | z
   ·exact z
   ·rw [z] at hk;cases hk
  obtain ⟨c,hc⟩:=I.ok.has x (.inl hk);obtain ⟨w',z⟩:=I.cell x c hc;refine wpAny_storeName_cell I.ok.kind hk hc z (λh' hc' hs=>?_);obtain ⟨oc,hoc,hocd⟩:=id z;refine h { s with heap:=h' } ⟨I.ok,I.os,I.bare,⟨λb o e n hb hx=>?_,λb o e n hb hx=>?_,I.base.free,λb o e hx=>?_,I.base.tups,I.base.frzs,I.base.tbls⟩,⟨m,hn.sameBut hs (Ne.symm (cne x c hc)),λj y v' e1 e2 e3=>?_⟩,λy c' e=>?_,I.free,I.freeC,λp hp=>?_,tracked ⟨oc,hoc,I.freeC x c hc⟩ hs,by simpa using I.len⟩ ⟨c,hs,.inr hc⟩
  ·exact (hs.2 b (Yap (Yan (Yal e) (I.ok.cab x c hfn hc)))).trans (I.base.keep b o e n hb hx)
  ·obtain ⟨sl,e1⟩:=I.base.slot b o e n hb hx;exact ⟨sl,(hs.2 b (Yap (Yan (Yal e) (I.ok.cab x c hfn hc)))).trans e1⟩
  ·obtain ⟨o',e1⟩:=I.base.there b o e hx;exact ⟨o',(hs.2 b (Yap (Yan (Yal e) (I.ok.cab x c hfn hc)))).trans e1⟩
  ·by_cases hj:j=i
   ·subst hj;rw [hi] at e1;cases e1;rw [List.getElem?_set_self hiσ] at e2;cases e2;exact ⟨u,r,.inr ⟨.inl hk,c,hc,hc'⟩⟩
   ·rw [List.getElem?_set_ne (Ne.symm hj)] at e2;obtain ⟨u',r',q⟩:=hl j y v' e1 e2 e3;refine ⟨u',r',?_⟩;rcases q with q | ⟨k,c',e,z'⟩
    ·exact .inl q
    ·refine .inr ⟨k,c',e,z'.sameBut hs ?_⟩;rintro rfl;exact hj (ZeC hN e1 (I.ok.inj _ _ _ e hc ▸ hi))
  ·by_cases hcc:c'=c
   ·subst hcc;exact ⟨_,hc'⟩
   ·obtain ⟨w2,z2⟩:=I.cell y c' e;exact ⟨w2,z2.sameBut hs hcc⟩
  ·obtain ⟨e,n,ne,nf,d⟩:=I.pin p hp;refine ⟨(hs.2 p.1 ?_).trans e,n,ne,nf,d⟩;intro q;rw [q,hoc] at e;have q':oc=p.2:=Yae e;exact d w' (by rw [<- q'];exact hocd)
theorem Zcd {M:Model}{A:Around}{E:Value->Shared->Prop}{i:Nat}{x:Str}{v:V}{u:Value}{Q:Unit->Shared->Prop} (I:Inv X pins σ H s) (hN:X.N.Nodup) (hi:X.N[i]? = some x) (hx:Loc X.env.scope x) (r:RelV v u)
  (h:∀ s',Inv X pins (σ.set i (some v)) H s'->Q () s') (hf:X.fn x=true\/X.env.scope.names.lookup x=some .local:=by first | exact .inl rfl | exact .inr rfl | assumption):wpAny M A (storeName X.env x u) Q E s :=
 Zds I hN hi hx r (λs' I' _=>h s' I') hf
theorem Inv.call' {s':Shared}{ch:List Addr} (I:Inv X pins σ H s) (ho:s'.os=s.os) (u:Un (frs X.stack) ch H H' s.heap s'.heap) (hok:HOk X.prog X.w H' s'.heap) (hg:AllBare s'.gens)
  (hch:∀ b∈ch,(b∈X.ex\/X.s₀.heap.objs.size<=b)/\b≠X.env.locals/\(∀ x c,X.env.cells.lookup x=some c->c≠b)/\∀ p∈X.pn ++ pins,p.1≠b):Inv X pins σ H' s':=by
 obtain ⟨h',g',d',t',o'⟩:=s';have e:o'=s.os:=ho;subst e;exact I.call (g':=g') (t':=t') (d':=d') u hok hg hch
end
abbrev XK:=Value->Option Addr->Hp->Prop
abbrev St:=List (Option V)
abbrev VK:=V->Hp->Prop
abbrev TE:=St->Hp->VK->Prop
abbrev TT:=St->Hp->(Bool->Hp->Prop)->Prop
abbrev TA:=St->Hp->(List V->Hp->Prop)->Prop
structure Ends where
 nx:St->Hp->Prop
 rt:VK
 bk:St->Hp->Prop:=λ_ _=>False
 ct:St->Hp->Prop:=λ_ _=>False
abbrev TS:=Ends->St->Hp->Prop
def EP (X:Cx) (pins:List (Addr × Obj)) (σ:St) (Q:VK) (u:Value) (s':Shared):Prop:=∃ v H',Inv X pins σ H' s'/\RelV v u/\Q v H'
def TP (X:Cx) (pins:List (Addr × Obj)) (σ:St) (Q:Bool->Hp->Prop) (b:Bool) (s':Shared):Prop:=∃ H',Inv X pins σ H' s'/\Q b H'
def AP (X:Cx) (pins:List (Addr × Obj)) (σ:St) (Q:List V->Hp->Prop) (us:List Value) (s':Shared):Prop:=∃ vs H',Inv X pins σ H' s'/\Vals vs us/\Q vs H'
def SP (X:Cx) (pins:List (Addr × Obj)) (D:Ends) (f:Flow) (s':Shared):Prop :=
 match f with
 | .next=>∃ σ' H',Inv X pins σ' H' s'/\D.nx σ' H'
 | .brk=>∃ σ' H',Inv X pins σ' H' s'/\D.bk σ' H'
 | .cont=>∃ σ' H',Inv X pins σ' H' s'/\D.ct σ' H'
 | .ret u=>∃ v σ' H',Inv X pins σ' H' s'/\RelV v u/\D.rt v H'
def PE (X:Cx) (e:Expr) (t:TE):Prop :=
 ∀ (pins:List (Addr × Obj)) (s:Shared) (σ:St) (H:Hp) (Q:VK),Inv X pins σ H s->t σ H Q->wpAny (model X.prog X.w) X.A (eval e X.env) (EP X pins σ Q) X.xe s
def PT (X:Cx) (e:Expr) (t:TT):Prop :=
 ∀ (pins:List (Addr × Obj)) (s:Shared) (σ:St) (H:Hp) (Q:Bool->Hp->Prop),Inv X pins σ H s->t σ H Q->wpAny (model X.prog X.w) X.A (isTrue e X.env (eval e X.env)) (TP X pins σ Q) X.xe s
def PW (X:Cx) (e:Expr) (t:TT):Prop :=
 ∀ (whole:Sem Value) (pins:List (Addr × Obj)) (s:Shared) (σ:St) (H:Hp) (Q:Bool->Hp->Prop),Inv X pins σ H s->t σ H Q->wpAny (model X.prog X.w) X.A (isTrue e X.env whole) (TP X pins σ Q) X.xe s
theorem PW.pt {X:Cx}{e:Expr}{t:TT} (h:PW X e t):PT X e t:=h _
def PA (X:Cx) (es:List Expr) (t:TA):Prop :=
 ∀ (pos:Pos) (pins:List (Addr × Obj)) (s:Shared) (σ:St) (H:Hp) (Q:List V->Hp->Prop),Inv X pins σ H s->t σ H Q->wpAny (model X.prog X.w) X.A (spliced (backTo pos (starEach es X.env))) (AP X pins σ Q) X.xe s
def PS (X:Cx) (st:Stmt) (t:TS):Prop :=
 ∀ (pins:List (Addr × Obj)) (s:Shared) (σ:St) (H:Hp) (D:Ends),Inv X pins σ H s->t D σ H->wpAny (model X.prog X.w) X.A (exec st X.env) (SP X pins D) X.xe s
def PSs (X:Cx) (st:List Stmt) (t:TS):Prop :=
 ∀ (pins:List (Addr × Obj)) (s:Shared) (σ:St) (H:Hp) (D:Ends),Inv X pins σ H s->t D σ H->wpAny (model X.prog X.w) X.A (execs st X.env) (SP X pins D) X.xe s
theorem thn {α:Type}{t:Sem α}{Q Q':α->Shared->Prop}{M:Model}{A:Around}{E:Value->Shared->Prop}{s:Shared} (h:wpAny M A t Q E s) (hQ:∀ a s,Q a s->Q' a s):wpAny M A t Q' E s:=Ya9 h hQ λ_ _ x=>x
open PySem PySem.Spec PyProof.Rows
section
variable {X:Cx}
theorem bin {a b:Expr}{ta tb:TE} (ha:PE X a ta) (hb:PE X b tb) {pins:List (Addr × Obj)}{s:Shared}{σ:St}{H:Hp}{R:V->V->Hp->Prop} (I:Inv X pins σ H s) (h:ta σ H λx H1=>tb σ H1 λy H2=>R x y H2)
  {α:Type}{Q:α->Shared->Prop}{f:Value->Value->Sem α}
  (hf:∀ v u s2 x y H2,Inv X pins σ H2 s2->RelV x v->RelV y u->R x y H2->wpAny (model X.prog X.w) X.A (f v u) Q X.xe s2) :
  wpAny (model X.prog X.w) X.A (eval a X.env) (λv s₁=>wpAny (model X.prog X.w) X.A (eval b X.env) (λu s₂=>wpAny (model X.prog X.w) X.A (f v u) Q X.xe s₂) X.xe s₁) X.xe s:=by
 refine thn (ha pins s σ H _ I h) λv s1 ⟨x,H1,I1,r1,q1⟩=>?_;refine thn (hb pins s1 σ H1 _ I1 q1) λu s2 ⟨y,H2,I2,r2,q2⟩=>?_;exact hf v u s2 x y H2 I2 r1 r2 q2
def tVar (i:Nat):TE:=λσ H Q=>∃ v,σ[i]? = some (some v)/\Q v H
def tC (v:V):TE:=λ_ H Q=>Q v H
theorem Zp1 {i:Nat}{x:Str}{pos:Pos} (hN:X.N[i]? = some x) (hv:Vis X.env.scope x) (hd:(x == ("__debug__" : Str))=false:=by decide) (hcd:(x == ("__classdict__" : Str))=false:=by decide):PE X (.Name x pos) (tVar i):=by
 intro pins s σ H Q I h;obtain ⟨v,e,h⟩:=h;obtain ⟨m,hn,hl⟩:=I.loc;obtain ⟨u,r,l⟩:=hl i x v hN e hv;have fin:EP X pins σ Q u s:=⟨v,H,I,r,h⟩;rcases l with ⟨hk,hm⟩ | ⟨hk,c,hc,hcell⟩
 ·exact wpAny_Name (wpAny_loadName_local I.ok.kind hk hn hm fin) hd
 ·rcases hk with hk | hk
  ·exact wpAny_Name (wpAny_loadName_cell I.ok.kind hk hc hcell fin) hd
  ·exact wpAny_Name (wpAny_loadName_free I.ok.kind hk hc hcell fin hcd) hd
theorem Zag {i j pos}:PE X (.Constant (.int i) j pos) (tC (.int i)):=λ_ _ _ H _ I h=>wpAny_Constant_int ⟨.int i,H,I.tok _,⟨_,rfl⟩,h⟩
theorem ZbG {b j pos}:PE X (.Constant (.bool b) j pos) (tC (.bl b)):=λ_ _ _ H _ I h=>Constant_bool ⟨.bl b,H,I,rfl,h⟩
theorem Zm9 {j pos}:PE X (.Constant .none j pos) (tC .non):=λ_ _ _ H _ I h=>Constant_none ⟨.non,H,I,rfl,h⟩
theorem Zam {x j pos}:PE X (.Constant (.str x) j pos) (tC (.str x)):=λ_ _ _ H _ I h=>Calls.Constant_str ⟨.str x,H,I.tok _,⟨_,rfl⟩,h⟩
def Gl (X:Cx) (x:Str):Prop:=X.env.kindOf x=some .globalImplicit
theorem ZbQ {E:Value->Shared->Prop}{pins:List (Addr × Obj)}{s:Shared}{σ:St}{H:Hp}{x:Str}{u:Value}{pos:Pos}{Q:Value->Shared->Prop} (I:Inv X pins σ H s) (hg:Gl X x) (hm:X.mg x=some u) (h:Q u s)
  (hd:(x == ("__debug__" : Str))=false:=by decide):wpAny (model X.prog X.w) X.A (eval (.Name x pos) X.env) Q E s :=
 Calls.Name_function_global I.ok.kind hg (Calls.loadGlobal_global (by rw [I.ok.glob];exact I.mod.glob.keeps I.bk) hm h) hd
theorem Zcr {E:Value->Shared->Prop}{pins:List (Addr × Obj)}{s:Shared}{σ:St}{H:Hp}{x:Str}{u:Value}{pos:Pos}{Q:Value->Shared->Prop} (I:Inv X pins σ H s) (hg:Gl X x) (hm:X.mg x=none) (hv:bootBuiltins x=some u) (h:Q u s)
  (hn:x ≠ "__name__" := by decide) (hd:(x == ("__debug__" : Str))=false:=by decide):wpAny (model X.prog X.w) X.A (eval (.Name x pos) X.env) Q E s:=by
 obtain ⟨mb,h1,h2⟩:=I.mod.blt;exact Calls.Name_function_global I.ok.kind hg (Calls.loadGlobal_builtin (by rw [I.ok.glob];exact I.mod.glob.keeps I.bk) hm (by rw [I.ok.blt];exact h1.keeps I.bk) ((h2 x hn).trans hv) h) hd
theorem ZaL {x:Str}{v:V}{u:Value}{pos:Pos} (hg:Gl X x) (hm:X.mg x=some u) (r:RelV v u) (hd:(x == ("__debug__" : Str))=false:=by decide):PE X (.Name x pos) (tC v) :=
 λ_ _ _ H _ I h=>ZbQ I hg hm ⟨v,H,I,r,h⟩ hd
theorem Zn9 {x:Str}{v:V}{u:Value}{pos:Pos} (hg:Gl X x) (hm:X.mg x=none) (hv:bootBuiltins x=some u) (r:RelV v u) (hn:x ≠ "__name__" := by decide) (hd:(x == ("__debug__" : Str))=false:=by decide):PE X (.Name x pos) (tC v) :=
 λ_ _ _ H _ I h=>Zcr I hg hm hv ⟨v,H,I,r,h⟩ hn hd
variable {a b:Expr}{ta tb:TE}{pos:Pos}
def PC (X:Cx) (op:CmpOp) (a b:Expr) (t:TE):Prop :=
 ∀ (pins:List (Addr × Obj)) (s:Shared) (σ:St) (H:Hp) (Q:VK),Inv X pins σ H s->t σ H Q ->
  wpAny (model X.prog X.w) X.A (eval a X.env) (λv s₁=>wpAny (model X.prog X.w) X.A (eval b X.env) (λu s₂=>wpAny (model X.prog X.w) X.A (compareOp op v u) (EP X pins σ Q) X.xe s₂) X.xe s₁) X.xe s
theorem Zmh (b:Expr) {op:CmpOp} (h:op≠.In) (h2:op≠.NotIn):behindInMarks op b=false:=by
 have e1:(op == CmpOp.In)=false:=by cases op <;> first | rfl | exact absurd rfl h
 have e2:(op == CmpOp.NotIn)=false:=by cases op <;> first | rfl | exact absurd rfl h2
 cases b <;> simp [behindInMarks,e1,e2]
def tB (t:TE):TT:=λσ H Q=>t σ H λx H1=>∃ c,x=.bl c/\Q c H1
theorem Zjr {op:CmpOp}{t:TE} (h:PC X op a b t) (h1:behindInMarks op b=false:=by first | exact Zmh _ (by decide) (by decide) | rfl):PT X (.Compare a [op] [b] pos) (tB t):=by
 intro pins s σ H Q I hw;refine wpAny_isTrue_Compare1 (thn (h pins s σ H _ I hw) λv s1 h1=>thn h1 λu s2 h2=>thn h2 λc s3 ⟨x,H1,I1,r1,q1⟩=>?_) h1;obtain ⟨d,rfl,q⟩:=q1;cases r1;exact wpAny_truthy_bool ⟨H1,I1,q⟩
theorem ZaB {e:Expr}{t:TE} (h:PE X e t) (he:∀ whole,isTrue e X.env whole=(do let v <- whole;standAt e.pos;holding [v] (truthy v)):=by intro _;rfl):PT X e (tB t):=by
 intro pins s σ H Q I hw;refine isTrue_plain (thn (h pins s σ H _ I hw) λv s1 ⟨x,H1,I1,r1,q1⟩=>?_) (he _);obtain ⟨d,rfl,q⟩:=q1;cases r1;exact wpAny_truthy_bool ⟨H1,I1,q⟩
variable {tA tB':TT}{rest:List Expr}
def tAnd (t u:TT):TT:=λσ H Q=>t σ H λc H1=>if c=true then u σ H1 Q else Q false H1
def tOr (t u:TT):TT:=λσ H Q=>t σ H λc H1=>if c=true then Q true H1 else u σ H1 Q
def tNot (t:TT):TT:=λσ H Q=>t σ H λc H1=>Q (!c) H1
theorem Zgj (ha:PT X a tA):PW X (.BoolOp .And [a] pos) tA:=by
 intro wh pins s σ H Q I h;refine isTrue_and (thn (ha pins s σ H Q I h) λc s1 e=>?_);cases c with
 |true=>exact isTrue_and_nil e
 |false=>exact e
theorem Zby (ha:PT X a tA):PW X (.BoolOp .Or [a] pos) tA:=by
 intro wh pins s σ H Q I h;refine isTrue_or (thn (ha pins s σ H Q I h) λc s1 e=>?_);cases c with
 |false=>exact isTrue_or_nil e
 |true=>exact e
theorem Zhb (ha:PT X a tA) (hb:PW X (.BoolOp .And (b :: rest) pos) tB'):PW X (.BoolOp .And (a :: b :: rest) pos) (tAnd tA tB'):=by
 intro wh pins s σ H Q I h;refine isTrue_and (thn (ha pins s σ H _ I h) λc s1 ⟨H1,I1,q1⟩=>?_);cases c with
 |true=>exact hb wh pins s1 σ H1 Q I1 q1
 |false=>exact ⟨H1,I1,q1⟩
theorem Zb1 (ha:PT X a tA) (hb:PW X (.BoolOp .Or (b :: rest) pos) tB'):PW X (.BoolOp .Or (a :: b :: rest) pos) (tOr tA tB'):=by
 intro wh pins s σ H Q I h;refine isTrue_or (thn (ha pins s σ H _ I h) λc s1 ⟨H1,I1,q1⟩=>?_);cases c with
 |true=>exact ⟨H1,I1,q1⟩
 |false=>exact hb wh pins s1 σ H1 Q I1 q1
theorem ZaE (ha:PT X a tA):PT X (.UnaryOp .Not a pos) (tNot tA):=by
 intro pins s σ H Q I h;exact isTrue_not (ha pins s σ H (λc H1=>Q (!c) H1) I h)
def Zrr (ta tb:TE):TE:=λσ H Q=>ta σ H λx H1=>∃ c,x=.bl c/\if c=true then tb σ H1 Q else Q (.bl false) H1
def tOrV (ta tb:TE):TE:=λσ H Q=>ta σ H λx H1=>∃ c,x=.bl c/\if c=true then Q (.bl true) H1 else tb σ H1 Q
def Zrn (ta:TE):TE:=λσ H Q=>ta σ H λx H1=>∃ c,x=.bl c/\Q (.bl (!c)) H1
theorem ZbF {op}{t:TE} (h:PE X a t):PE X (.BoolOp op [a] pos) t:=λpins s σ H Q I hw=>BoolOp_one (h pins s σ H Q I hw)
theorem ZbY (ha:PE X a ta) (hb:PE X (.BoolOp .And (b :: rest) pos) tb):PE X (.BoolOp .And (a :: b :: rest) pos) (Zrr ta tb):=by
 intro pins s σ H Q I h;refine BoolOp_and (thn (ha pins s σ H _ I h) λv s1 ⟨x,H1,I1,r1,q1⟩=>?_);obtain ⟨c,rfl,q1⟩:=q1;cases r1;refine wpAny_truthy_bool ?_;cases c with
 |true=>exact hb pins s1 σ H1 Q I1 q1
 |false=>exact ⟨.bl false,H1,I1,rfl,q1⟩
theorem Zp2 (ha:PE X a ta) (hb:PE X (.BoolOp .Or (b :: rest) pos) tb):PE X (.BoolOp .Or (a :: b :: rest) pos) (tOrV ta tb):=by
 intro pins s σ H Q I h;refine BoolOp_or (thn (ha pins s σ H _ I h) λv s1 ⟨x,H1,I1,r1,q1⟩=>?_);obtain ⟨c,rfl,q1⟩:=q1;cases r1;refine wpAny_truthy_bool ?_;cases c with
 |false=>exact hb pins s1 σ H1 Q I1 q1
 |true=>exact ⟨.bl true,H1,I1,rfl,q1⟩
theorem Zp3 (ha:PE X a ta):PE X (.UnaryOp .Not a pos) (Zrn ta):=by
 intro pins s σ H Q I h;refine UnaryOp_ (thn (ha pins s σ H _ I h) λv s1 ⟨x,H1,I1,r1,q1⟩=>?_);obtain ⟨c,rfl,q1⟩:=q1;cases r1;exact not_of (wpAny_truthy_bool ⟨.bl (!c),H1,I1,rfl,q1⟩)
def tIf (t:TT) (ta tb:TE):TE:=λσ H Q=>t σ H λc H1=>if c=true then ta σ H1 Q else tb σ H1 Q
theorem ZlU {c:Expr} (hc:PT X c tA) (ha:PE X a ta) (hb:PE X b tb):PE X (.IfExp c a b pos) (tIf tA ta tb):=by
 intro pins s σ H Q I h;refine wpAny_IfExp (thn (hc pins s σ H _ I h) λd s1 ⟨H1,I1,q1⟩=>?_);cases d with
 |true=>exact ha pins s1 σ H1 Q I1 q1
 |false=>exact hb pins s1 σ H1 Q I1 q1
end
open PySem PySem.Spec PyProof.Rows
def SqL (K:Yab) (H:Hp) (a:Addr) (xs:List V):Prop :=
 Rd H a (.lst xs) \/
  ∃ (o:Obj) (its:Array Value) (n:Nat),K.lookup a=some o/\o.cls=.type "list" /\ o.dict=none/\o.data=.seq its n/\its.size<=sizeLine/\Vals xs its.toList
def SqT (K:Yab) (H:Hp) (a:Addr) (xs:List V):Prop :=
 Rd H a (.tup xs) \/
  ∃ (o:Obj) (its:Array Value) (n:Nat),K.lookup a=some o/\o.cls=.type "tuple" /\ o.data=.seq its n/\its.size<=sizeLine/\Vals xs its.toList
def absV:Value->Option V
 | .none=>some .non
 | .bool b=>some (.bl b)
 | .int i _=>some (.int i)
 | .str x _=>some (.str x)
 | .bytes b _=>some (.byt b)
 | .float b _=>some (.flt b)
 | .ref a=>some (.ref a)
 | .type n=>some (.ty n)
 |_=>none
theorem RelV.abs {x:V}{u:Value} (r:RelV x u):absV u=some x:=by
 cases x with
 |non=>cases r;rfl
 |bl _=>cases r;rfl
 |int _=>obtain ⟨t,rfl⟩:=r;rfl
 |str _=>obtain ⟨t,rfl⟩:=r;rfl
 |byt _=>obtain ⟨t,rfl⟩:=r;rfl
 |flt _=>obtain ⟨t,rfl⟩:=r;rfl
 |ref _=>cases r;rfl
 |ty _=>cases r;rfl
theorem RelV.inj {x y:V}{u:Value} (r:RelV x u) (q:RelV y u):x=y:=Yae (r.abs.symm.trans q.abs)
theorem Vals.inj:∀ {xs ys:List V}{us:List Value},Vals xs us->Vals ys us->xs=ys
 |_,_,_,.nil,.nil=>rfl
 |_,_,_,.cons r t,.cons r' t'=>by rw [r.inj r',Vals.inj t t']
section
variable {X:Cx}{pins:List (Addr × Obj)}{σ:St}{H:Hp}{s:Shared}{a:Addr}{xs ys:List V}
theorem SqL.of {K:Yab} (h:H a=some (.lst xs)):SqL K H a xs:=.inl (.inl h)
theorem SqT.of {K:Yab} (h:H a=some (.tup xs)):SqT K H a xs:=.inl (.inl h)
theorem Inv.list (I:Inv X pins σ H s) (h:SqL X.K H a xs):∃ its:List Value,Vals xs its/\PlainL s.heap a its.toArray/\xs.length<=sizeLine:=by
 rcases h with h | ⟨o,its,n,hk,hc,hd,hs,hz,r⟩
 ·obtain ⟨z,its,n,r,e⟩:=h.ok I.hok;exact ⟨its,r,⟨_,n,e,rfl,rfl,rfl⟩,z⟩
 ·refine ⟨its.toList,r,⟨o,n,I.kIn a o hk,hc,hd,by simpa using hs⟩,?_⟩;have e:=r.length;simp only [YaD] at e;omega
theorem Inv.tuple (I:Inv X pins σ H s) (h:SqT X.K H a xs):∃ its:List Value,Vals xs its/\IsTup s.heap a its.toArray/\xs.length<=sizeLine:=by
 rcases h with h | ⟨o,its,n,hk,hc,hs,hz,r⟩
 ·obtain ⟨z,its,r,p⟩:=h.ok I.hok;exact ⟨its,r,p,z⟩
 ·refine ⟨its.toList,r,⟨o,I.kIn a o hk,hc,n,by simpa using hs⟩,?_⟩;have e:=r.length;simp only [YaD] at e;omega
theorem Inv.list_inj (I:Inv X pins σ H s) (h:SqL X.K H a xs) (h':SqL X.K H a ys):xs=ys:=by
 obtain ⟨its,r,⟨o,n,e,_,_,d⟩,_⟩:=I.list h;obtain ⟨its',r',⟨o',n',e',_,_,d'⟩,_⟩:=I.list h';rw [e] at e';cases e';rw [d] at d';injection d' with d1 _;have:its=its':=by simpa using congrArg Array.toList d1
 subst this;exact r.inj r'
theorem Inv.tuple_inj (I:Inv X pins σ H s) (h:SqT X.K H a xs) (h':SqT X.K H a ys):xs=ys:=by
 obtain ⟨its,r,⟨o,e,_,n,d⟩,_⟩:=I.tuple h;obtain ⟨its',r',⟨o',e',_,n',d'⟩,_⟩:=I.tuple h';rw [e] at e';cases e';rw [d] at d';injection d' with d1 _;have:its=its':=by simpa using congrArg Array.toList d1
 subst this;exact r.inj r'
end
abbrev Cx.wish (X:Cx) (E:Value->Shared->Prop):Cx:={ X with xe:=E }
abbrev Cx.nox (X:Cx):Cx:=X.wish λ_ _=>False
theorem Cx.Ok.wish {X:Cx} (ok:X.Ok) (E:Value->Shared->Prop):(X.wish E).Ok :=
 ⟨ok.mod,ok.kind,ok.glob,ok.blt,ok.above,ok.inj,ok.has,ok.cab,ok.hd,ok.frames,ok.stk,ok.exf,ok.bs,ok.bsz,ok.noex,ok.exfs,ok.funs,ok.frf⟩
theorem Cx.Ok.unwish {X:Cx}{E:Value->Shared->Prop} (ok:(X.wish E).Ok):X.Ok :=
 ⟨ok.mod,ok.kind,ok.glob,ok.blt,ok.above,ok.inj,ok.has,ok.cab,ok.hd,ok.frames,ok.stk,ok.exf,ok.bs,ok.bsz,ok.noex,ok.exfs,ok.funs,ok.frf⟩
section
variable {X:Cx}{pins:List (Addr × Obj)}{σ:St}{H:Hp}{s:Shared}{E:Value->Shared->Prop}
theorem Inv.wish (I:Inv X pins σ H s) (E:Value->Shared->Prop):Inv (X.wish E) pins σ H s:=⟨I.ok.wish E,I.os,I.bare,I.base,I.loc,I.cell,I.free,I.freeC,I.pin,I.hok,I.len⟩
theorem Inv.unwish (I:Inv (X.wish E) pins σ H s):Inv X pins σ H s:=⟨I.ok.unwish,I.os,I.bare,I.base,I.loc,I.cell,I.free,I.freeC,I.pin,I.hok,I.len⟩
theorem SP.unwish {D:Ends}{f:Flow}{s':Shared} (h:SP (X.wish E) pins D f s'):SP X pins D f s':=by
 cases f with
 |next=>obtain ⟨σ',H',I,q⟩:=h;exact ⟨σ',H',I.unwish,q⟩
 |brk=>obtain ⟨σ',H',I,q⟩:=h;exact ⟨σ',H',I.unwish,q⟩
 |cont=>obtain ⟨σ',H',I,q⟩:=h;exact ⟨σ',H',I.unwish,q⟩
 |ret u=>obtain ⟨v,σ',H',I,r,q⟩:=h;exact ⟨v,σ',H',I.unwish,r,q⟩
theorem PSs.nox {st:List Stmt}{t:TS} (h:PSs X.nox st t):PSs X st t:=λpins s σ H D I hw =>
 Ya9 (h pins s σ H D (I.wish _) hw) (λ_ _ q=>q.unwish) λ_ _ z=>False.elim z
end
section
variable {X:Cx}{st:Stmt}{rest:List Stmt}{t u:TS}{e:Expr}{te:TE}{pos:Pos}
def Zpl:TS:=λD σ H=>D.nx σ H
def tSeq (t u:TS):TS:=λD σ H=>t { D with nx:=u D } σ H
theorem Zah:PSs X [] Zpl:=λ_ _ σ H _ I h=>wpAny_execs_nil ⟨σ,H,I,h⟩
theorem Zab (h1:PS X st t) (h2:PSs X rest u):PSs X (st :: rest) (tSeq t u):=by
 intro pins s σ H D I h;refine wpAny_execs_cons (thn (h1 pins s σ H { D with nx:=u D } I h) λf s1 q=>?_);cases f with
 |next =>
  obtain ⟨σ',H',I',q⟩:=q;exact h2 pins s1 σ' H' D I' q
 |ret v=>exact q
 |brk=>exact q
 |cont=>exact q
theorem Zaf (h1:PS X st t):PSs X [st] t:=by
 intro pins s σ H D I h;refine wpAny_execs_cons (thn (h1 pins s σ H D I h) λf s1 q=>?_);cases f with
 |next=>exact wpAny_execs_nil q
 |ret v=>exact q
 |brk=>exact q
 |cont=>exact q
def Zps:TS:=λD σ H=>D.bk σ H
theorem ZlR:PS X (.Break pos) Zps:=λ_ _ σ H _ I h=>wpAny_Break ⟨σ,H,I,h⟩
theorem Inv.quiet {pins:List (Addr × Obj)}{σ:St}{H:Hp}{s:Shared} (I:Inv X pins σ H s):interactive X.env=false:=by simp [interactive,I.ok.kind]
def Zro (te:TE):TS:=λD σ H=>te σ H λ_ H1=>D.nx σ H1
theorem ZaG (he:PE X e te) (hs:swapsWith e none pos.line X.env=pure false:=by rfl):PS X (.Expr e pos) (Zro te):=by
 intro pins s σ H D I h;exact wpAny_Expr_any (thn (he pins s σ H _ I h) λv s1 ⟨x,H1,I1,r1,q1⟩=>⟨σ,H1,I1,q1⟩) I.quiet hs
def tRet (te:TE):TS:=λD σ H=>te σ H D.rt
theorem Zal (he:PE X e te):PS X (.Return (some e) pos) (tRet te):=by
 intro pins s σ H D I h;exact wpAny_Return_some (thn (he pins s σ H _ I h) λv s1 ⟨x,H1,I1,r1,q1⟩=>⟨x,σ,H1,I1,r1,q1⟩)
def tIfS (c:TT) (t u:TS):TS:=λD σ H=>c σ H λb H1=>if b=true then t D σ H1 else u D σ H1
theorem Zay {c:Expr}{a b:List Stmt}{tc:TT} (hc:PT X c tc) (ha:PSs X a t) (hb:PSs X b u):PS X (.If c a b pos) (tIfS tc t u):=by
 intro pins s σ H D I h;refine wpAny_If (thn (hc pins s σ H _ I h) λd s1 ⟨H1,I1,q1⟩=>?_);cases d with
 |true=>exact ha pins s1 σ H1 D I1 q1
 |false=>exact hb pins s1 σ H1 D I1 q1
def Zpm:TS:=λ_ _ _=>False
theorem Zaj {sts:List Stmt}:PSs X sts Zpm:=λ_ _ _ _ _ _ h=>h.elim
end
abbrev TG:=V->St->Hp->(St->Hp->Prop)->Prop
abbrev TGs:=List V->St->Hp->(St->Hp->Prop)->Prop
def PG (X:Cx) (target:Expr) (t:TG):Prop :=
 ∀ (pins:List (Addr × Obj)) (s:Shared) (σ:St) (H:Hp) (v:V) (u:Value) (Q:St->Hp->Prop),Inv X pins σ H s->RelV v u->t v σ H Q ->
  wpAny (model X.prog X.w) X.A (assign target X.env u) (λ_ s'=>∃ σ' H',Inv X pins σ' H' s'/\Q σ' H') X.xe s
def PGs (X:Cx) (ts:List Expr) (t:TGs):Prop :=
 ∀ (pins:List (Addr × Obj)) (s:Shared) (σ:St) (H:Hp) (vs:List V) (us:List Value) (Q:St->Hp->Prop),Inv X pins σ H s->Vals vs us->t vs σ H Q ->
  wpAny (model X.prog X.w) X.A (assignInOrder ((assignEach ts X.env).map (·.2)) us) (λ_ s'=>∃ σ' H',Inv X pins σ' H' s'/\Q σ' H') X.xe s
abbrev TSet:=V->V->V->Hp->(Hp->Prop)->Prop
def PSet (X:Cx) (t:TSet):Prop :=
 ∀ (pins:List (Addr × Obj)) (s:Shared) (σ:St) (H:Hp) (o i v:V) (ov iv u:Value) (Q:Hp->Prop),Inv X pins σ H s->RelV o ov->RelV i iv->RelV v u->t o i v H Q ->
  wpAny (model X.prog X.w) X.A (setItem ov iv u) (λ_ s'=>∃ H',Inv X pins σ H' s'/\Q H') X.xe s
abbrev TIp:=V->V->Hp->VK->Prop
def PIp (X:Cx) (op:Operator) (t:TIp):Prop :=
 ∀ (pins:List (Addr × Obj)) (s:Shared) (σ:St) (H:Hp) (x y:V) (v u:Value) (Q:VK),Inv X pins σ H s->RelV x v->RelV y u->t x y H Q ->
  wpAny (model X.prog X.w) X.A (inplaceOp op v u) (EP X pins σ Q) X.xe s
section
variable {X:Cx}{pos:Pos}
def ZaT (i:Nat):TG:=λv σ H Q=>Q (σ.set i (some v)) H
theorem Za3 {i:Nat}{x:Str} (hN:X.N.Nodup) (hi:X.N[i]? = some x) (hx:Loc X.env.scope x) (hf:X.fn x=true\/X.env.scope.names.lookup x=some .local:=by first | exact .inl rfl | exact .inr rfl | assumption):PG X (.Name x pos) (ZaT i):=by
 intro pins s σ H v u Q I r h;exact wpAny_assign_Name (Zcd I hN hi hx r (λs' I'=>⟨_,H,I',h⟩) hf)
def gNil:TGs:=λvs σ H Q=>vs=[]/\Q σ H
def Zcy (t:TG) (u:TGs):TGs:=λvs σ H Q=>∃ v r,vs=v :: r/\t v σ H λσ' H'=>u r σ' H' Q
theorem Zeu:PGs X [] gNil:=by
 intro pins s σ H vs us Q I r h;obtain ⟨e,h⟩:=h;subst e;cases r;exact assignInOrder_nil ⟨σ,H,I,h⟩
theorem Zbz {e:Expr}{es:List Expr}{t:TG}{u:TGs} (h1:PG X e t) (h2:PGs X es u)
  (hs:(assignEach (e :: es) X.env).map (·.2)=assign e X.env :: (assignEach es X.env).map (·.2):=by rfl):PGs X (e :: es) (Zcy t u):=by
 intro pins s σ H vs us Q I r h;obtain ⟨v,vr,e1,h⟩:=h;subst e1;cases r with
 |cons r rr =>
  rw [hs];refine assignInOrder_cons (thn (h1 pins s σ H _ _ _ I r h) λ_ s1 ⟨σ1,H1,I1,q1⟩=>?_);exact h2 pins s1 σ1 H1 _ _ Q I1 rr q1
def gTup (K:Yab) (n:Nat) (t:TGs):TG:=λv σ H Q=>∃ a xs,v=.ref a/\SqT K H a xs/\xs.length=n/\t xs σ H Q
theorem Zhg {es:List Expr}{k:Nat}{t:TGs}{n:Nat} (hc:X.calm=true) (h:PGs X es t)
  (hn:(assignEach es X.env).length=n:=by rfl) (hst:(assignEach es X.env).findIdx? (·.1)=none:=by rfl):PG X (.Tuple es k pos) (gTup X.K n t):=by
 intro pins s σ H v u Q I r hw;obtain ⟨a,xs,e1,hq,hl,hw⟩:=hw;subst e1;cases r;obtain ⟨its,rv,ht,hz⟩:=I.tuple hq;refine assign_Tuple_tuple (I.ok.hd hc) ht (by simp [hn,<- hl,rv.length]) hst λh' hx=>?_;have I1:Inv X pins σ H { s with heap:=h' }:=I.kept (t':=s.toks) λb o e=>hx b o (Yap (Yal e)) e;exact h pins _ σ H xs _ Q I1 (by simpa using rv) hw
def gSub (to ti:TE) (t:TSet):TG:=λv σ H Q=>to σ H λo H1=>ti σ H1 λi H2=>t o i v H2 λH3=>Q σ H3
theorem ZdD {o i:Expr}{to ti:TE}{t:TSet} (ho:PE X o to) (hi:PE X i ti) (hs:PSet X t)
  (ha:∀ v,assign (.Subscript o i pos) X.env v=(do
   let ov <- holding [v] (eval o X.env)
   let iv <- holding [v,ov] (eval i X.env)
   standAt pos
   holding [v,ov,iv] (setItem ov iv v)
   release [v,ov,iv] []):=by intro _;rfl):PG X (.Subscript o i pos) (gSub to ti t):=by
 intro pins s σ H v u Q I r h;rw [ha];refine Ya3 (wpAny_holding (thn (ho pins s σ H _ I h) λov s1 ⟨x,H1,I1,r1,q1⟩=>?_));refine Ya3 (wpAny_holding (thn (hi pins s1 σ H1 _ I1 q1) λiv s2 ⟨y,H2,I2,r2,q2⟩=>?_));refine Ya3 (wpAny_standAt (Ya3 (wpAny_holding (thn (hs pins s2 σ H2 x y v ov iv u _ I2 r1 r2 r q2) λ_ s3 ⟨H3,I3,q3⟩=>?_))));exact wpAny_release ⟨σ,H3,I3,q3⟩
def tAsg (te:TE) (g:TG):TS:=λD σ H=>te σ H λx H1=>g x σ H1 D.nx
theorem Zc9 {tg e:Expr}{te:TE}{g:TG} (he:PE X e te) (hg:PG X tg g) (hs:swapsWithSole [tg] e pos.line X.env=pure false:=by rfl) (hw:swappedStores [tg] e X.env=pure none:=by rfl)
  (h1:(assignEach [tg] X.env).map (·.2)=[assign tg X.env]:=by rfl):PS X (.Assign [tg] e pos) (tAsg te g):=by
 intro pins s σ H D I h;refine wpAny_Assign_stores (thn (he pins s σ H _ I h) λv s1 ⟨x,H1,I1,r1,q1⟩=>?_) hs hw;rw [h1];exact thn (hg pins s1 σ H1 x v _ I1 r1 q1) λ_ s2 q=>q
theorem Zau {i:Nat}{x:Str}{e:Expr}{te:TE}{pos':Pos} (hN:X.N.Nodup) (hi:X.N[i]? = some x) (hx:Loc X.env.scope x) (he:PE X e te) (hs:swapsWith e (some (.Name x pos')) pos.line X.env=pure false:=by rfl) (hf:X.fn x=true\/X.env.scope.names.lookup x=some .local:=by first | exact .inl rfl | exact .inr rfl | assumption) :
  PS X (.Assign [.Name x pos'] e pos) (tAsg te (ZaT i)):=by
 intro pins s σ H D I h;refine wpAny_Assign_Name (thn (he pins s σ H _ I h) λv s1 ⟨y,H1,I1,r1,q1⟩=>?_) hs;exact Zcd I1 hN hi hx r1 (λs2 I2=>⟨_,H1,I2,q1⟩) hf
def tPar (i j:Nat) (ta:TA):TS:=λD σ H=>ta σ H λvs H1=>∃ v w,vs=[v,w]/\D.nx ((σ.set i (some v)).set j (some w)) H1
theorem ZpW {i j:Nat}{x y:Str}{a b:Expr}{ta:TA}{px py pt:Pos}{kt k2 pt2} (hc:X.calm=true) (hN:X.N.Nodup) (hi:X.N[i]? = some x) (hj:X.N[j]? = some y) (hij:i≠j)
  (hx:X.env.scope.names.lookup x=some .local) (hy:X.env.scope.names.lookup y=some .local) (ha:PA X [a,b] ta)
  (hw:swappedStores [.Tuple [.Name x px,.Name y py] kt pt] (.Tuple [a,b] k2 pt2) X.env=pure (some [x,y]))
  (hs:swapsWithSole [.Tuple [.Name x px,.Name y py] kt pt] (.Tuple [a,b] k2 pt2) pos.line X.env=pure false:=by rfl) :
  PS X (.Assign [.Tuple [.Name x px,.Name y py] kt pt] (.Tuple [a,b] k2 pt2) pos) (tPar i j ta):=by
 intro pins s σ H D I h;rw [exec_Assign_arm];refine Ya3 (wpAny_standAt ?_);rw [hs];refine Ya3 (Ya8 ?_);rw [Ya6 (by decide)];refine Ya3 (Tuple_ (thn (ha _ pins s σ H _ I h) λus s1 ⟨vs,H1,I1,r1,q1⟩=>?_));obtain ⟨v,w,e1,q1⟩:=q1;subst e1;obtain ⟨u1,u2,rfl,rv,rw'⟩:∃ u1 u2,us=[u1,u2]/\RelV v u1/\RelV w u2:=by
  cases r1 with
  |cons p q =>
   cases q with
   |cons p' q' =>
    cases q';exact ⟨_,_,rfl,p,p'⟩
 refine wpAny_newObj_type ?_ (by show 2<=sizeLine;decide);have I2:Inv X pins σ H1 { s1 with heap:=s1.heap.push { cls:=.type "tuple",data:=.seq [u1,u2].toArray } }:=I1.kept (t':=s1.toks) λb o e=>Yad _ e;rw [hw];refine Ya3 (Ya8 ?_);show wpAny (model X.prog X.w) X.A (do rule "assign.swapped-stores"; let items <- unpackItems (.ref s1.heap.objs.size) 2 none;assignInOrder [λv=>bindName X.env y v,λv=>bindName X.env x v] items.reverse;pure Flow.next) _ _ _;refine Ya3 (wpAny_rule (Ya3 (unpackItems_tuple (items:=#[u1,u2]) (I.ok.hd hc) (IsTup.new s1.heap _) λh' hx'=>?_)));have I3:=I2.kept (h':=h') (t':=s1.toks) λb o e=>hx' b o (Yap (Yal e)) e;show wpAny _ _ (assignInOrder [λv=>bindName X.env y v,λv=>bindName X.env x v] [u2,u1] >>= λ_=>pure Flow.next) _ _ _;refine Ya3 (assignInOrder_cons (wpAny_bindName (Zcd I3 hN hj (.inl hy) rw' (λs2 I4=>?_) (.inr hy))));refine assignInOrder_cons (wpAny_bindName (Zcd I4 hN hi (.inl hx) rv (λs3 I5=>assignInOrder_nil (Ya8 ?_)) (.inr hx)));rw [List.set_comm _ _ (Ne.symm hij)] at I5;exact ⟨_,H1,I5,q1⟩
def tAug (i:Nat) (te:TE) (ti:TIp):TS:=λD σ H=>∃ x,σ[i]? = some (some x)/\te σ H λy H1=>ti x y H1 λz H2=>D.nx (σ.set i (some z)) H2
theorem Zjs {i:Nat}{x:Str}{e:Expr}{te:TE}{op:Operator}{ti:TIp}{pos':Pos} (hN:X.N.Nodup) (hi:X.N[i]? = some x) (hx:Loc X.env.scope x) (he:PE X e te) (ho:PIp X op ti) (hf:X.fn x=true\/X.env.scope.names.lookup x=some .local:=by first | exact .inl rfl | exact .inr rfl | assumption) :
  PS X (.AugAssign (.Name x pos') op e pos) (tAug i te ti):=by
 intro pins s σ H D I h;obtain ⟨v,e1,h⟩:=h;obtain ⟨m,hn,hl⟩:=I.loc;have vis:Vis X.env.scope x:=by rcases hx with k | k;exact .inl k;exact .inr (.inl k)
 obtain ⟨u,r,l⟩:=hl i x v hi e1 vis;refine wpAny_AugAssign_Name ?_;have go:wpAny (model X.prog X.w) X.A (eval e X.env) (λw s₂=>wpAny (model X.prog X.w) X.A (inplaceOp op u w) (λr s₃=>wpAny (model X.prog X.w) X.A (storeName X.env x r) (λ_=>SP X pins D .next) X.xe s₃) X.xe s₂) X.xe s:=by
  refine thn (he pins s σ H _ I h) λw s1 ⟨y,H1,I1,r1,q1⟩=>?_;refine thn (ho pins s1 σ H1 v y u w _ I1 r r1 q1) λz s2 ⟨zv,H2,I2,r2,q2⟩=>?_;exact Zcd I2 hN hi hx r2 (λs3 I3=>⟨_,H2,I3,q2⟩) hf
 rcases l with ⟨hk,hm⟩ | ⟨hk,c,hc,hcell⟩
 ·exact wpAny_loadName_local I.ok.kind hk hn hm go
 ·rcases hk with hk | hk
  ·exact wpAny_loadName_cell I.ok.kind hk hc hcell go
  ·rcases hx with k | k
   ·have:X.env.scope.names.lookup x=some .free:=hk;rw [k] at this;cases this
   ·have:X.env.scope.names.lookup x=some .free:=hk;rw [k] at this;cases this
def ipI (f:Int->Int->Int):TIp:=λx y H Q=>∃ i j,x=.int i/\y=.int j/\Q (.int (f i j)) H
theorem ZqT:PIp X .Add (ipI λi j=>i+j):=by
 intro pins s σ H x y v u Q I r1 r2 h;obtain ⟨i,j,e1,e2,q⟩:=h;subst e1;subst e2;obtain ⟨t,rfl⟩:=r1;obtain ⟨t',rfl⟩:=r2;exact iadd_int ⟨.int _,H,I.tok _,⟨_,rfl⟩,q⟩
theorem ZqS:PIp X .Sub (ipI λi j=>i - j):=by
 intro pins s σ H x y v u Q I r1 r2 h;obtain ⟨i,j,e1,e2,q⟩:=h;subst e1;subst e2;obtain ⟨t,rfl⟩:=r1;obtain ⟨t',rfl⟩:=r2;exact isub_int ⟨.int _,H,I.tok _,⟨_,rfl⟩,q⟩
def Zpj (c:TT) (tb:TS):TS:=λD σ H=>∃ W:Nat->St->Hp->Prop,(∃ m,W m σ H)/\∀ m σ H,W m σ H ->
 c σ H λb H1=>if b=true then ∃ N:St->Hp->Prop,(∀ σ' H',N σ' H'->∃ m',m'<m/\W m' σ' H')/\tb { D with nx:=N,ct:=N,bk:=D.nx } σ H1 else D.nx σ H1
theorem ZlP {c:Expr}{body:List Stmt}{tc:TT}{tb:TS} (hp:PassesOwn (model X.prog X.w) X.A X.env X.xe) (hc:PT X c tc) (hb:PSs X body tb):PS X (.While c body [] pos) (Zpj tc tb):=by
 intro pins s σ H D I h;obtain ⟨W,⟨m0,w0⟩,turn⟩:=h;refine wpAny_While (codeAny_whileLoop (λn s'=>∃ σ' H',Inv X pins σ' H' s'/\W n σ' H') ?_ m0 ⟨σ,H,I,w0⟩);rintro n s1 ⟨σ1,H1,I1,w1⟩;refine wpAny_passesOwn hp (thn (hc pins s1 σ1 H1 _ I1 (turn n σ1 H1 w1)) λb s2 ⟨H2,I2,q2⟩=>?_);cases b with
 |true =>
  obtain ⟨N,hN,q2⟩:=q2;rw [Ya7 rfl];refine wpAny_passesOwn hp (thn (hb pins s2 σ1 H2 _ I2 q2) λf s3 q3=>?_);cases f with
  |next =>
   obtain ⟨σ3,H3,I3,n3⟩:=q3;obtain ⟨m',hm,w3⟩:=hN σ3 H3 n3;exact ⟨m',hm,σ3,H3,I3,w3⟩
  |cont =>
   obtain ⟨σ3,H3,I3,n3⟩:=q3;obtain ⟨m',hm,w3⟩:=hN σ3 H3 n3;exact ⟨m',hm,σ3,H3,I3,w3⟩
  |brk=>exact q3
  |ret v=>exact q3
 |false =>
  rw [Ya6 Yaq];exact wpAny_execs_nil ⟨σ1,H2,I2,q2⟩
end
structure It where
 go:Nat->Hp->Prop
 yld:Nat->Hp->V->Hp->Prop
 stop:Nat->Hp->Prop
def FpOk (X:Cx) (pins:List (Addr × Obj)) (H:Hp) (b:Addr):Prop :=
 H b=none/\b≠X.env.locals/\b∉X.fs/\(b∈X.ex\/X.s₀.heap.objs.size<=b)/\(∀ x c,X.env.cells.lookup x=some c->c≠b)/\∀ p∈X.pn ++ pins,p.1≠b
theorem Inv.fpOk {X:Cx}{pins:List (Addr × Obj)}{σ:St}{H H':Hp}{s:Shared}{b:Addr} (I:Inv X pins σ H s) (hb:s.heap.objs.size<=b) (hn:H' b=none):FpOk X pins H' b:=by
 refine ⟨hn,Nat.ne_of_gt (Yan I.lt hb),I.nofs hb,.inr (Yay I.sz hb),λx c e z=>?_,λp hp z=>?_⟩
 ·obtain ⟨v,q⟩:=I.cell x c e;exact absurd (Yan q.lt (by rw [z];exact hb)) (Ybq _)
 ·exact absurd (Yan (Yal (I.pin p hp).1) (by rw [z];exact hb)) (Ybq _)
structure Turn (P:Program) (w:World) (K:Yab) (tg:Expr) (J:It) (fp:List Addr) (it:Addr) (tn:Nat->Heap->Prop):Prop where
 mem:it∈fp
 obj:∀ i h,tn i h->∀ b∈fp,∃ o,h.get? b=some o/\∀ v,o.data≠.cell v
 keep:∀ i h h',tn i h->(∀ b∈fp,∀ o,h.get? b=some o->h'.get? b=some o)->tn i h'
 item:∀ (X:Cx),X.prog=P->X.w=w->X.K=K->X.calm=true->∀ (i:Nat) (pins:List (Addr × Obj)) (s:Shared) (σ:St) (H:Hp) (E:Value->Shared->Prop),Inv X pins σ H s->(∀ b∈fp,FpOk X pins H b)->tn i s.heap->J.go i H ->
  wpAny (model P w) X.A (pyNext (.ref it)) (λr s1=>∃ u,r=some u /\
   wpAny (model P w) X.A (letOwnedTupleGo tg (.ref it) u) (λ_ s2=>∃ x H',Inv X pins σ H' s2/\RelV x u/\J.yld i H x H'/\tn (i+1) s2.heap/\∀ b∈fp,H' b=none) E s1) E s
 done:∀ (X:Cx),X.prog=P->X.w=w->X.K=K->X.calm=true->∀ (i:Nat) (pins:List (Addr × Obj)) (s:Shared) (σ:St) (H:Hp) (E:Value->Shared->Prop),Inv X pins σ H s->(∀ b∈fp,FpOk X pins H b)->tn i s.heap->J.stop i H ->
  wpAny (model P w) X.A (pyNext (.ref it)) (λr s1=>r=none/\Inv X pins σ H s1) E s
 self:∀ (A:Around) (i:Nat) (s:Shared) (Q:Value->Shared->Prop) (E:Value->Shared->Prop),tn i s.heap->Q (.ref it) s->wpAny (model P w) A (pyIter (.ref it)) Q E s
abbrev TI:=St->Hp->(It->Hp->Prop)->Prop
def PIE (X:Cx) (pins:List (Addr × Obj)) (σ:St) (tg:Expr) (R:It->Hp->Prop) (itv:Value) (s2:Shared):Prop :=
 ∃ (it:Addr) (fp:List Addr) (tn:Nat->Heap->Prop) (J:It) (H':Hp),itv=.ref it/\Inv X pins σ H' s2/\Turn X.prog X.w X.K tg J fp it tn/\tn 0 s2.heap/\(∀ b∈fp,FpOk X pins H' b)/\R J H'
def PI (X:Cx) (tg iter:Expr) (wi:TI):Prop :=
 ∀ (pins:List (Addr × Obj)) (s:Shared) (σ:St) (H:Hp) (R:It->Hp->Prop),Inv X pins σ H s->wi σ H R ->
  wpAny (model X.prog X.w) X.A (eval iter X.env) (λv s1=>wpAny (model X.prog X.w) X.A (pyIter v) (PIE X pins σ tg R) X.xe s1) X.xe s
theorem Ziu {M:Model}{A:Around}{E:Value->Shared->Prop}{s:Shared}{tg:Expr}{it:Addr}{u:Value}{o:Obj}{n:String}{vs:Array Value}{Q:Unit->Shared->Prop} (ho:s.heap.get? it=some o) (hc:o.cls=.type n) (hd:o.data=.fields vs)
  (hn:["enumerate","zip","dict_itemiterator","dict_reverseitemiterator","odict_iterator","itertools.zip_longest","itertools.pairwise"].contains n=false) (hQ:Q () s):wpAny M A (letOwnedTupleGo tg (.ref it) u) Q E s:=by
 unfold letOwnedTupleGo;cases tg <;> first
  |exact Ya8 hQ
  | (cases u <;> first
    |exact Ya8 hQ
    | (refine Ya3 (wpAny_load ho ?_)
       rw [hc,hd];show wpAny M A (if (["enumerate","zip","dict_itemiterator","dict_reverseitemiterator","odict_iterator","itertools.zip_longest","itertools.pairwise"].contains n && vs[0]? == some (rawInt _))=true then _ else _) Q E s;rw [Ya6 (by intro h;rw [hn,Bool.false_and] at h;cases h)]
       exact Ya8 hQ))
def Itl (K:Yab) (a:Addr):It :=
 ⟨λi H=>∃ xs x,SqL K H a xs/\xs[i]? = some x,λi H x H'=>H'=H/\∀ xs,SqL K H a xs->xs[i]? = some x,λi H=>∃ xs,SqL K H a xs/\xs.length<=i⟩
def Itt (K:Yab) (a:Addr):It :=
 ⟨λi H=>∃ xs x,SqT K H a xs/\xs[i]? = some x,λi H x H'=>H'=H/\∀ xs,SqT K H a xs->xs[i]? = some x,λi H=>∃ xs,SqT K H a xs/\xs.length<=i⟩
def Itr (lo:Int) (n:Nat):It:=⟨λi _=>i<n,λi H x H'=>H'=H/\x=.int (lo+i),λi _=>n<=i⟩
theorem ZiP {P:Program}{w:World}{K:Yab}{tg:Expr} (a it:Addr):Turn P w K tg (Itl K a) [it] it (λi h=>h.IsListIter it a i) where
 mem:=by simp
 obj:=λi h st b hb=>by
  have e:b=it:=by simpa using hb
  subst e;obtain ⟨o,e,c,d⟩:=st;exact ⟨o,e,λv z=>by rw [d] at z;cases z⟩
 keep:=λi h h' st k=>st.at λo e=>k it (by simp) o e
 item:=by
  intro X hP hw hK hc i pins s σ H E I hf st hg;subst hP hw hK;obtain ⟨xs,x,hq,hx⟩:=hg;obtain ⟨its,rv,p,hz⟩:=I.list hq;obtain ⟨u,hu,ru⟩:=rv.get hx;obtain ⟨f0,f1,f2,f3,f4,f5⟩:=hf it (by simp);refine wpAny_pyNext_list_item st p.isList (x:=u) (by simpa using hu) λh' st' sb=>?_;have I1:Inv X pins σ H { s with heap:=h' }:=I.turned (t':=s.toks) (λb o hb e=>(sb.2 b hb).trans e) f0 f1 f3 f4 f5;obtain ⟨o,e,c,d⟩:=id st';exact ⟨u,rfl,Ziu (s:={ s with heap:=h' }) e c d (by decide) ⟨x,H,I1,ru,⟨rfl,λys hy=>by rw [I.list_inj hy hq];exact hx⟩,st',λb hb=>(hf b hb).1⟩⟩
 done:=by
  intro X hP hw hK hc i pins s σ H E I hf st hg;subst hP hw hK;obtain ⟨xs,hq,hx⟩:=hg;obtain ⟨its,rv,p,hz⟩:=I.list hq;obtain ⟨f0,f1,f2,f3,f4,f5⟩:=hf it (by simp);have hl:=rv.length;exact wpAny_pyNext_list_end (I.ok.hd hc) st p.isList (by simp;omega) λh' eb=>⟨rfl,I.turned (t':=s.toks) (λb o hb e=>eb b o hb e) f0 f1 f3 f4 f5⟩
 self:=λ_ _ _ _ _ st h=>wpAny_pyIter_listiter st h
theorem ZhX {P:Program}{w:World}{K:Yab}{tg:Expr} (a it:Addr):Turn P w K tg (Itt K a) [it] it (λi h=>h.IsTupleIter it a i) where
 mem:=by simp
 obj:=λi h st b hb=>by
  have e:b=it:=by simpa using hb
  subst e;obtain ⟨o,e,c,d⟩:=st;exact ⟨o,e,λv z=>by rw [d] at z;cases z⟩
 keep:=λi h h' st k=>st.at λo e=>k it (by simp) o e
 item:=by
  intro X hP hw hK hc i pins s σ H E I hf st hg;subst hP hw hK;obtain ⟨xs,x,hq,hx⟩:=hg;obtain ⟨its,rv,p,hz⟩:=I.tuple hq;obtain ⟨u,hu,ru⟩:=rv.get hx;obtain ⟨f0,f1,f2,f3,f4,f5⟩:=hf it (by simp);refine wpAny_pyNext_tuple_item st (show s.heap.IsTuple a its.toArray from p) (x:=u) (by simpa using hu) λh' st' sb=>?_;have I1:Inv X pins σ H { s with heap:=h' }:=I.turned (t':=s.toks) (λb o hb e=>(sb.2 b hb).trans e) f0 f1 f3 f4 f5;obtain ⟨o,e,c,d⟩:=id st';exact ⟨u,rfl,Ziu (s:={ s with heap:=h' }) e c d (by decide) ⟨x,H,I1,ru,⟨rfl,λys hy=>by rw [I.tuple_inj hy hq];exact hx⟩,st',λb hb=>(hf b hb).1⟩⟩
 done:=by
  intro X hP hw hK hc i pins s σ H E I hf st hg;subst hP hw hK;obtain ⟨xs,hq,hx⟩:=hg;obtain ⟨its,rv,p,hz⟩:=I.tuple hq;obtain ⟨f0,f1,f2,f3,f4,f5⟩:=hf it (by simp);have hl:=rv.length;exact wpAny_pyNext_tuple_end (I.ok.hd hc) st (show s.heap.IsTuple a its.toArray from p) (by simp;omega) λh' eb=>⟨rfl,I.turned (t':=s.toks) (λb o hb e=>eb b o hb e) f0 f1 f3 f4 f5⟩
 self:=λ_ _ _ _ _ st h=>wpAny_pyIter_tupleiter st h
theorem ZhY {P:Program}{w:World}{K:Yab}{tg:Expr} (it:Addr) (lo:Int) (n:Nat):Turn P w K tg (Itr lo n) [it] it (λi h=>IsRangeIter h it (lo+(i:Nat) * 1) ((n:Int) - (i:Nat)) 1) where
 mem:=by simp
 obj:=λi h st b hb=>by
  have e:b=it:=by simpa using hb
  subst e;exact ⟨_,st,λv z=>by
   have z':Data.fields _=Data.cell v:=z
   cases z'⟩
 keep:=λi h h' st k=>k it (by simp) _ st
 item:=by
  intro X hP hw hK hc i pins s σ H E I hf st hg;subst hP hw hK;obtain ⟨f0,f1,f2,f3,f4,f5⟩:=hf it (by simp);have W:=Walks.range (prog:=X.prog) (w:=X.w) (I.ok.hd hc) it lo 1 n;refine W.item i s _ _ hg st λv h' tk hv st' kk=>?_;obtain ⟨t,rfl⟩:=hv;have I1:Inv X pins σ H { s with heap:=h',toks:=tk }:=I.turned (λb o hb e=>kk b o (by simpa using hb) e) f0 f1 f3 f4 f5;refine ⟨_,rfl,Ziu (s:={ s with heap:=h',toks:=tk }) (n := "range_iterator") st' rfl rfl (by decide) ⟨.int (lo+i),H,I1,⟨t,?_⟩,⟨rfl,rfl⟩,st',λb hb=>(hf b hb).1⟩⟩;rw [Int.mul_one]
 done:=by
  intro X hP hw hK hc i pins s σ H E I hf st hg;subst hP hw hK;obtain ⟨f0,f1,f2,f3,f4,f5⟩:=hf it (by simp);exact wpAny_pyNext_range_end (I.ok.hd hc) st (by have:n<=i:=hg;omega) λh' eb=>⟨rfl,I.turned (t':=s.toks) (λb o hb e=>eb b o hb e) f0 f1 f3 f4 f5⟩
 self:=λ_ _ _ _ _ st h=>wpAny_pyIter_rangeiter st h
open PySem PySem.Spec PyProof.Rows
section
variable {X:Cx}{tg:Expr}
def ZrZ (K:Yab) (tl:TE):TI:=λσ H R=>tl σ H λx H1=>∃ a,x=.ref a/\(∃ xs,SqL K H1 a xs)/\R (Itl K a) H1
def iTup (K:Yab) (tl:TE):TI:=λσ H R=>tl σ H λx H1=>∃ a,x=.ref a/\(∃ xs,SqT K H1 a xs)/\R (Itt K a) H1
theorem ZaH {l:Expr}{tl:TE} (hl:PE X l tl):PI X tg l (ZrZ X.K tl):=by
 intro pins s σ H R I h;refine thn (hl pins s σ H _ I h) λv s1 ⟨x,H1,I1,r1,q1⟩=>?_;obtain ⟨a,e,⟨xs,hq⟩,q⟩:=q1;subst e;cases r1;obtain ⟨its,rv,p,hz⟩:=I1.list hq;refine wpAny_pyIter_list p.isList ?_;refine ⟨s1.heap.objs.size,[s1.heap.objs.size],_,_,H1,rfl,I1.kept (t':=s1.toks) λb o e=>Yad _ e,ZiP a _,⟨_,Yao _ rfl,rfl,rfl⟩,λb hb=>?_,q⟩;have e:b=s1.heap.objs.size:=by simpa using hb
 subst e;exact I1.fpOk (Yag _) (I1.hok.fresh (Yag _))
theorem ZpZ {l:Expr}{tl:TE} (hl:PE X l tl):PI X tg l (iTup X.K tl):=by
 intro pins s σ H R I h;refine thn (hl pins s σ H _ I h) λv s1 ⟨x,H1,I1,r1,q1⟩=>?_;obtain ⟨a,e,⟨xs,hq⟩,q⟩:=q1;subst e;cases r1;obtain ⟨its,rv,p,hz⟩:=I1.tuple hq;refine wpAny_pyIter_tuple (show s1.heap.IsTuple a its.toArray from p) ?_;refine ⟨s1.heap.objs.size,[s1.heap.objs.size],_,_,H1,rfl,I1.kept (t':=s1.toks) λb o e=>Yad _ e,ZhX a _,⟨_,Yao _ rfl,rfl,rfl⟩,λb hb=>?_,q⟩;have e:b=s1.heap.objs.size:=by simpa using hb
 subst e;exact I1.fpOk (Yag _) (I1.hok.fresh (Yag _))
theorem Zha {pins:List (Addr × Obj)}{σ:St}{H:Hp}{s:Shared}{R:It->Hp->Prop}{E:Value->Shared->Prop}{lo hi:Int}{t u v:Tok}{tk:Nat} (I:Inv X pins σ H s) (h1:-(2 ^ 62)<=lo) (h2:lo<2 ^ 62) (h3:-(2 ^ 62)<=hi) (h4:hi<2 ^ 62)
  (q:R (Itr lo (hi - lo).toNat) H):wpAny (model X.prog X.w) X.A (pyIter (.ref s.heap.objs.size)) (PIE X pins σ tg R) E { s with heap:=s.heap.push { cls:=.type "range",data:=.fields #[.int lo t,.int hi u,.int 1 v] },toks:=tk }:=by
 refine wpAny_pyIter_range (IsRange.new ..) (small_one h1 h2 h3 h4) ?_;have I1:Inv X pins σ H { s with heap:=s.heap.push { cls:=.type "range",data:=.fields #[.int lo t,.int hi u,.int 1 v] },toks:=tk }:=I.kept λb o e=>Yad _ e;refine ⟨(s.heap.push { cls:=.type "range",data:=.fields #[.int lo t,.int hi u,.int 1 v] }).objs.size,[(s.heap.push { cls:=.type "range",data:=.fields #[.int lo t,.int hi u,.int 1 v] }).objs.size],_,_,H,rfl,
  I1.kept (t':=tk) λb o e=>Yad _ e,ZhY _ lo (hi - lo).toNat,?_,λb hb=>?_,q⟩
 ·have e1:lo+((0:Nat):Int) * 1=lo:=by simp
  have e2:(((hi - lo).toNat:Nat):Int) - ((0:Nat):Int)=Builtin.Range.rangeSize lo hi 1:=by rw [rangeSize_one];split <;> omega
  show IsRangeIter _ _ (lo+((0:Nat):Int) * 1) ((((hi - lo).toNat:Nat):Int) - ((0:Nat):Int)) 1;rw [e1,e2];exact Yao _ rfl
 ·have e:b=(s.heap.push { cls:=.type "range",data:=.fields #[.int lo t,.int hi u,.int 1 v] }).objs.size:=by simpa using hb
  subst e;exact I1.fpOk (Yag _) (I1.hok.fresh (Yag _))
def ZrY (ta:TA):TI:=λσ H R=>ta σ H λvs H1=>∃ j:Int,vs=[.int j]/\-(2 ^ 62)<=j/\j<2 ^ 62/\R (Itr 0 j.toNat) H1
def ZrX (ta:TA):TI:=λσ H R=>ta σ H λvs H1=>∃ i j:Int,vs=[.int i,.int j]/\(-(2 ^ 62)<=i/\i<2 ^ 62/\-(2 ^ 62)<=j/\j<2 ^ 62)/\R (Itr i (j - i).toNat) H1
theorem ZcI {a:Expr}{ta:TA}{p pos:Pos} (hg:Gl X "range") (hm:X.mg "range" = none) (ha:PA X [a] ta) (hs:starEach [a] X.env=[(false,eval a X.env)]:=by rfl):PI X tg (.Call (.Name "range" p) [a] [] pos) (ZrY ta):=by
 intro pins s σ H R I h;refine Call_ (Zcr I hg hm boot_range (PyProof.Rows.callWith_type1 (thn (ha pos pins s σ H _ I h) λus s1 ⟨vs,H1,I1,r1,q1⟩=>?_) hs rfl));obtain ⟨j,e,q1,q2,q⟩:=q1;subst e;cases r1 with
 |cons r rr =>
  cases rr;obtain ⟨t,rfl⟩:=r;exact call_range_1 (Zha I1 (by omega) (by omega) q1 q2 (by simpa using q))
theorem Zjv {a b:Expr}{ta:TA}{p pos:Pos} (hg:Gl X "range") (hm:X.mg "range" = none) (ha:PA X [a,b] ta) (hs:starEach [a,b] X.env=[(false,eval a X.env),(false,eval b X.env)]:=by rfl) (hs2:starEach [b] X.env=[(false,eval b X.env)]:=by rfl) :
  PI X tg (.Call (.Name "range" p) [a,b] [] pos) (ZrX ta):=by
 intro pins s σ H R I h;refine Call_ (Zcr I hg hm boot_range (PyProof.Rows.callWith_type1 (thn (ha pos pins s σ H _ I h) λus s1 ⟨vs,H1,I1,r1,q1⟩=>?_) (by rw [hs,hs2]) (by rw [hs2];rfl)));obtain ⟨i,j,e,⟨q1,q2,q3,q4⟩,q⟩:=q1;subst e;cases r1 with
 |cons r rr =>
  cases rr with
  |cons r' rr =>
   cases rr;obtain ⟨t,rfl⟩:=r;obtain ⟨t',rfl⟩:=r';exact call_range_2 (Zha I1 q1 q2 q3 q4 q)
def tFor (wi:TI) (g:TG) (tb:TS):TS:=λD σ H=>wi σ H λJ H1=>∃ W:Nat->Nat->St->Hp->Prop,(∃ m,W 0 m σ H1)/\∀ i m σ H,W i m σ H ->
 (J.stop i H/\D.nx σ H)\/(J.go i H/\∃ N:St->Hp->Prop,(∀ σ' H',N σ' H'->∃ m',m'<m/\W (i+1) m' σ' H')/\∀ x H',J.yld i H x H'->g x σ H' λσ2 H2=>tb { D with nx:=N,ct:=N,bk:=D.nx } σ2 H2)
def Zec (fp:List Addr) (h:Heap):List (Addr × Obj):=fp.filterMap λb=>(h.get? b).map λo=>(b,o)
theorem Zbq {fp:List Addr}{h:Heap}{b:Addr}{o:Obj} (hb:b∈fp) (e:h.get? b=some o):(b,o)∈Zec fp h:=List.mem_filterMap.mpr ⟨b,hb,by rw [e];rfl⟩
theorem ZjZ {fp:List Addr}{h:Heap}{p:Addr × Obj} (hp:p∈Zec fp h):p.1∈fp/\h.get? p.1=some p.2:=by
 obtain ⟨b,hb,e⟩:=List.mem_filterMap.mp hp;cases q:h.get? b with
 |none=>rw [q] at e;cases e
 |some o =>
  rw [q] at e;have e':(b,o)=p:=Yae e;subst e';exact ⟨hb,q⟩
theorem Inv.pinned {pins:List (Addr × Obj)}{σ:St}{H:Hp}{s:Shared}{fp:List Addr} (I:Inv X pins σ H s) (hf:∀ b∈fp,FpOk X pins H b) (ho:∀ b∈fp,∃ o,s.heap.get? b=some o/\∀ v,o.data≠.cell v):Inv X (pins ++ Zec fp s.heap) σ H s :=
 I.pins_of λp hp=>(YaG.mp hp).elim (λz=>I.pin p (Yaz _ z)) λz=>by
  obtain ⟨hb,e⟩:=ZjZ z;obtain ⟨f0,f1,f2,_⟩:=hf p.1 hb;obtain ⟨o,e',d⟩:=ho p.1 hb;rw [e] at e';cases e';exact ⟨e,f0,f1,f2,d⟩
theorem Inv.unpinned {pins pl:List (Addr × Obj)}{σ:St}{H:Hp}{s:Shared} (I:Inv X (pins ++ pl) σ H s):Inv X pins σ H s:=I.pins_of λp hp=>I.pin p (Yaz _ (YaA _ hp))
theorem Zcq {iter:Expr}{body:List Stmt}{wi:TI}{g:TG}{tb:TS}{pos:Pos} (hp:PassesOwn (model X.prog X.w) X.A X.env X.xe) (hc:X.calm=true) (hi:PI X tg iter wi) (hg:PG X tg g) (hb:PSs X body tb)
  (hs:∀ x,foldedSetIterable iter X.env x=pure x:=by intro _;rfl):PS X (.For tg iter body [] pos) (tFor wi g tb):=by
 intro pins s σ H D I h;refine wpAny_For (thn (hi pins s σ H _ I h) λv s1 h1=>thn h1 λitv s2 h2=>?_) hs;obtain ⟨it,fp,tn,J,H2,e,I2,T,st2,f2,W,⟨m0,w0⟩,turn⟩:=h2;subst e;have stat:∀ {H':Hp},(∀ b∈fp,H' b=none)->∀ b∈fp,FpOk X pins H' b:=λhn b hb=>⟨hn b hb,(f2 b hb).2⟩;refine codeAny_forLoop_any (λn s'=>∃ i σ' H',Inv X pins σ' H' s'/\tn i s'.heap/\(∀ b∈fp,H' b=none)/\W i n σ' H') ?_ m0 ⟨0,σ,H2,I2,st2,λb hb=>(f2 b hb).1,w0⟩;rintro n s3 ⟨i,σ3,H3,I3,st3,fr3,w3⟩;rcases turn i n σ3 H3 w3 with ⟨stop,qn⟩ | ⟨go,N,hN,step⟩
 ·refine wpAny_passesOwn hp (thn (T.done X rfl rfl rfl hc i pins s3 σ3 H3 X.xe I3 (stat fr3) st3 stop) λr s4 ⟨hr,I4⟩=>?_);subst hr;exact wpAny_execs_nil ⟨σ3,H3,I4,qn⟩
 ·refine wpAny_passesOwn hp (thn (T.item X rfl rfl rfl hc i pins s3 σ3 H3 X.xe I3 (stat fr3) st3 go) λr s4 ⟨u,hr,h4⟩=>?_);subst hr;refine wpAny_passesOwn hp (thn h4 λ_ s5 ⟨x,H5,I5,r5,y5,st5,fr5⟩=>?_);have I5':=I5.pinned (stat fr5) (T.obj _ _ st5);refine wpAny_passesOwn hp (thn (hg _ s5 σ3 H5 x u _ I5' r5 (step x H5 y5)) λ_ s6 ⟨σ6,H6,I6,q6⟩=>?_);refine wpAny_passesOwn hp (thn (hb _ s6 σ6 H6 _ I6 q6) λf s7 q7=>?_);have again:∀ {σ7:St}{H7:Hp},Inv X (pins ++ Zec fp s5.heap) σ7 H7 s7->N σ7 H7->∃ m,m<n/\∃ i σ' H',Inv X pins σ' H' s7/\tn i s7.heap/\(∀ b∈fp,H' b=none)/\W i m σ' H':=λ{σ7 H7} I7 n7=>by
   obtain ⟨m',hm,w7⟩:=hN σ7 H7 n7;refine ⟨m',hm,i+1,σ7,H7,I7.unpinned,T.keep _ _ _ st5 λb hb o e=>(I7.pin (b,o) (Yaz _ (Yaz _ (Zbq hb e)))).1,λb hb=>?_,w7⟩;obtain ⟨o,e,d⟩:=T.obj _ _ st5 b hb;exact (I7.pin (b,o) (Yaz _ (Yaz _ (Zbq hb e)))).2.1
  cases f with
  |next=>obtain ⟨σ7,H7,I7,n7⟩:=q7;exact again I7 n7
  |cont=>obtain ⟨σ7,H7,I7,n7⟩:=q7;exact again I7 n7
  |brk=>obtain ⟨σ7,H7,I7,q7⟩:=q7;exact ⟨σ7,H7,I7.unpinned,q7⟩
  |ret v=>obtain ⟨x7,σ7,H7,I7,r7,q7⟩:=q7;exact ⟨x7,σ7,H7,I7.unpinned,r7,q7⟩
end
theorem ZeO {K:Yab}{a:Addr}{xs:List V}{g:TG}{tb:TS}{D:Ends}{σ:St}{H:Hp} (Pv:Nat->St->Hp->Prop) (h0:Pv 0 σ H) (hl:∀ i σ H,i<=xs.length->Pv i σ H->SqL K H a xs)
  (hs:∀ i x σ H,xs[i]? = some x->Pv i σ H->g x σ H λσ2 H2=>tb { D with nx:=Pv (i+1),ct:=Pv (i+1),bk:=D.nx } σ2 H2) (hd:∀ σ H,Pv xs.length σ H->D.nx σ H) :
  ∃ W:Nat->Nat->St->Hp->Prop,(∃ m,W 0 m σ H)/\∀ i m σ H,W i m σ H ->
   ((Itl K a).stop i H/\D.nx σ H)\/((Itl K a).go i H/\∃ N:St->Hp->Prop,(∀ σ' H',N σ' H'->∃ m',m'<m/\W (i+1) m' σ' H')/\∀ x H',(Itl K a).yld i H x H'->g x σ H' λσ2 H2=>tb { D with nx:=N,ct:=N,bk:=D.nx } σ2 H2):=by
 refine ⟨λi m σ H=>m=xs.length - i/\i<=xs.length/\Pv i σ H,⟨xs.length,by simp,YaH _,h0⟩,?_⟩;rintro i m σ H ⟨rfl,hi,p⟩;have q:=hl i σ H hi p
 by_cases hlt:i<xs.length
 ·refine .inr ⟨⟨xs,xs[i],q,by simp [hlt]⟩,Pv (i+1),λσ' H' p'=>⟨xs.length - (i+1),by omega,rfl,hlt,p'⟩,λx H' y=>?_⟩;obtain ⟨e,y⟩:=y;subst e;exact hs i x σ _ (y xs q) p
 ·have e:i=xs.length:=by omega
  subst e;exact .inl ⟨⟨xs,q,Yag _⟩,hd σ H p⟩
theorem ZdO {lo:Int}{n:Nat}{g:TG}{tb:TS}{D:Ends}{σ:St}{H:Hp} (Pv:Nat->St->Hp->Prop) (h0:Pv 0 σ H)
  (hs:∀ i σ H,i<n->Pv i σ H->g (.int (lo+i)) σ H λσ2 H2=>tb { D with nx:=Pv (i+1),ct:=Pv (i+1),bk:=D.nx } σ2 H2) (hd:∀ σ H,Pv n σ H->D.nx σ H) :
  ∃ W:Nat->Nat->St->Hp->Prop,(∃ m,W 0 m σ H)/\∀ i m σ H,W i m σ H ->
   ((Itr lo n).stop i H/\D.nx σ H)\/((Itr lo n).go i H/\∃ N:St->Hp->Prop,(∀ σ' H',N σ' H'->∃ m',m'<m/\W (i+1) m' σ' H')/\∀ x H',(Itr lo n).yld i H x H'->g x σ H' λσ2 H2=>tb { D with nx:=N,ct:=N,bk:=D.nx } σ2 H2):=by
 refine ⟨λi m σ H=>m=n - i/\i<=n/\Pv i σ H,⟨n,by simp,YaH _,h0⟩,?_⟩;rintro i m σ H ⟨rfl,hi,p⟩
 by_cases hlt:i<n
 ·refine .inr ⟨hlt,Pv (i+1),λσ' H' p'=>⟨n - (i+1),by omega,rfl,hlt,p'⟩,λx H' y=>?_⟩;obtain ⟨e,y⟩:=y;subst e y;exact hs i σ _ hlt p
 ·have e:i=n:=by omega
  subst e;exact .inl ⟨Yag _,hd σ H p⟩
open PySem PySem.Spec PyProof.Rows
abbrev R2:=V->V->Hp->VK->Prop
def OpR (X:Cx) (f:Value->Value->Sem Value) (r:R2):Prop :=
 ∀ (pins:List (Addr × Obj)) (s:Shared) (σ:St) (H:Hp) (x y:V) (v u:Value) (Q:VK),Inv X pins σ H s->RelV x v->RelV y u->r x y H Q ->
  wpAny (model X.prog X.w) X.A (f v u) (EP X pins σ Q) X.xe s
def UnR (X:Cx) (f:Value->Sem Value) (r:V->Hp->VK->Prop):Prop :=
 ∀ (pins:List (Addr × Obj)) (s:Shared) (σ:St) (H:Hp) (x:V) (v:Value) (Q:VK),Inv X pins σ H s->RelV x v->r x H Q ->
  wpAny (model X.prog X.w) X.A (f v) (EP X pins σ Q) X.xe s
def Zbv (X:Cx) (f:Value) (r:List V->Hp->VK->Prop):Prop :=
 ∀ (pins:List (Addr × Obj)) (s:Shared) (σ:St) (H:Hp) (xs:List V) (us:List Value) (Q:VK),Inv X pins σ H s->Vals xs us->r xs H Q ->
  wpAny (model X.prog X.w) X.A (call f us) (EP X pins σ Q) X.xe s
def TruR (X:Cx) (r:V->Hp->(Bool->Hp->Prop)->Prop):Prop :=
 ∀ (pins:List (Addr × Obj)) (s:Shared) (σ:St) (H:Hp) (x:V) (v:Value) (Q:Bool->Hp->Prop),Inv X pins σ H s->RelV x v->r x H Q ->
  wpAny (model X.prog X.w) X.A (truthy v) (TP X pins σ Q) X.xe s
def tOp (r:R2) (ta tb:TE):TE:=λσ H Q=>ta σ H λx H1=>tb σ H1 λy H2=>r x y H2 Q
def tUn (r:V->Hp->VK->Prop) (ta:TE):TE:=λσ H Q=>ta σ H λx H1=>r x H1 Q
def rI (C:Int->Int->Prop) (g:Int->Int->V):R2:=λx y H Q=>∃ i j,x=.int i/\y=.int j/\C i j/\Q (g i j) H
def rI0 (g:Int->Int->V):R2:=λx y H Q=>∃ i j,x=.int i/\y=.int j/\Q (g i j) H
def rU (g:Int->V):V->Hp->VK->Prop:=λx H Q=>∃ i,x=.int i/\Q (g i) H
section
variable {X:Cx}{a b c:Expr}{ta tb tc:TE}{pos:Pos}
theorem binT (ha:PE X a ta) (hb:PE X b tb) {pins:List (Addr × Obj)}{s:Shared}{σ:St}{H:Hp}{R:V->V->Hp->Prop} (I:Inv X pins σ H s)
  (h:ta σ H λx H1=>tb σ H1 λy H2=>R x y H2) {Q:Value->Shared->Prop}{f:Value->Value->Sem Value}
  (hf:∀ v u s2 x y H2,Inv X pins σ H2 s2->RelV x v->RelV y u->R x y H2->wpAny (model X.prog X.w) X.A (f v u) Q X.xe s2) :
  wpAny (model X.prog X.w) X.A (eval a X.env) (λv s₁=>wpAny (model X.prog X.w) X.A (eval b X.env) (λu s₂=>wpAny (model X.prog X.w) X.A (f v u) Q X.xe s₂) X.xe s₁) X.xe s:=by
 refine thn (ha pins s σ H _ I h) λv s1 ⟨x,H1,I1,r1,q1⟩=>?_;refine thn (hb pins s1 σ H1 _ I1 q1) λu s2 ⟨y,H2,I2,r2,q2⟩=>?_;exact hf v u s2 x y H2 I2 r1 r2 q2
theorem Zax {op:Operator}{r:R2} (ho:OpR X (binaryOp op) r) (ha:PE X a ta) (hb:PE X b tb):PE X (.BinOp a op b pos) (tOp r ta tb):=by
 intro pins s σ H Q I h;exact wpAny_BinOp (binT ha hb I h λv u s2 x y H2 I2 rx ry q=>ho pins s2 σ H2 x y v u Q I2 rx ry q)
theorem ZrK {op:UnaryOp}{r:V->Hp->VK->Prop} (ho:UnR X (unaryOp op) r) (ha:PE X a ta):PE X (.UnaryOp op a pos) (tUn r ta):=by
 intro pins s σ H Q I h;exact UnaryOp_ (thn (ha pins s σ H _ I h) λv s1 ⟨x,H1,I1,r1,q1⟩=>ho pins s1 σ H1 x v Q I1 r1 q1)
theorem opI {f:Value->Value->Sem Value}{C:Int->Int->Prop}{g:Int->Int->Int}
  (rule:∀ (i j:Int) (t u:Tok) (s:Shared) (Q:Value->Shared->Prop) (E:Value->Shared->Prop),C i j->Q (.int (g i j) s.toks) { s with toks:=s.toks+1 }->wpAny (model X.prog X.w) X.A (f (.int i t) (.int j u)) Q E s) :
  OpR X f (rI C λi j=>.int (g i j)):=by
 intro pins s σ H x y v u Q I rx ry h;obtain ⟨i,j,rfl,rfl,hc,q⟩:=h;obtain ⟨t,rfl⟩:=rx;obtain ⟨t',rfl⟩:=ry;exact rule i j t t' s _ _ hc ⟨.int (g i j),H,I.tok _,⟨_,rfl⟩,q⟩
theorem opI0 {f:Value->Value->Sem Value}{g:Int->Int->Int}
  (rule:∀ (i j:Int) (t u:Tok) (s:Shared) (Q:Value->Shared->Prop) (E:Value->Shared->Prop),Q (.int (g i j) s.toks) { s with toks:=s.toks+1 }->wpAny (model X.prog X.w) X.A (f (.int i t) (.int j u)) Q E s) :
  OpR X f (rI0 λi j=>.int (g i j)):=by
 intro pins s σ H x y v u Q I rx ry h;obtain ⟨i,j,rfl,rfl,q⟩:=h;obtain ⟨t,rfl⟩:=rx;obtain ⟨t',rfl⟩:=ry;exact rule i j t t' s _ _ ⟨.int (g i j),H,I.tok _,⟨_,rfl⟩,q⟩
theorem opB0 {f:Value->Value->Sem Value}{g:Int->Int->Bool}
  (rule:∀ (i j:Int) (t u:Tok) (s:Shared) (Q:Value->Shared->Prop) (E:Value->Shared->Prop),Q (.bool (g i j)) s->wpAny (model X.prog X.w) X.A (f (.int i t) (.int j u)) Q E s) :
  OpR X f (rI0 λi j=>.bl (g i j)):=by
 intro pins s σ H x y v u Q I rx ry h;obtain ⟨i,j,rfl,rfl,q⟩:=h;obtain ⟨t,rfl⟩:=rx;obtain ⟨t',rfl⟩:=ry;exact rule i j t t' s _ _ ⟨.bl (g i j),H,I,rfl,q⟩
def CDiv (i j:Int):Prop:=0<j/\j<1073741824
def CMul (i j:Int):Prop:=(-(2 ^ 64)<i/\i<2 ^ 64)\/(-(2 ^ 64)<j/\j<2 ^ 64)
theorem CMul.ok {i j:Int} (h:CMul i j):IntMulOk i j:=by
 rcases h with ⟨h1,h2⟩ | ⟨h1,h2⟩
 ·exact .of_left (intBits_le_64 h1 h2)
 ·exact .of_right (intBits_le_64 h1 h2)
theorem Zqe:OpR X (binaryOp .Add) (rI0 λi j=>.int (i+j)):=opI0 λ_ _ _ _ _ _ _ q=>add_int q
theorem Znb:OpR X (binaryOp .Sub) (rI0 λi j=>.int (i - j)):=opI0 λ_ _ _ _ _ _ _ q=>sub_int q
theorem Zqa:OpR X (binaryOp .Mult) (rI CMul λi j=>.int (i * j)):=opI λ_ _ _ _ _ _ _ hc q=>mul_int q hc.ok
theorem Zob:OpR X (binaryOp .FloorDiv) (rI CDiv λi j=>.int (i / j)):=opI λi j _ _ _ _ _ hc q=>by
 have h1:(0:Int)<j:=hc.1;have h2:j<1073741824:=hc.2;exact floordiv_int (by omega) (by rw [Int.fdiv_eq_ediv_of_nonneg i (by omega)];exact q) (.inl (PyProof.noPylong_small (by omega)))
theorem Zqb:OpR X (binaryOp .Mod) (rI (λ_ j=>0<j) λi j=>.int (i % j)):=opI λi j _ _ _ _ _ hc q=>by
 have h1:(0:Int)<j:=hc;exact mod_int' (by omega) (by rw [Int.fmod_eq_emod_of_nonneg i (by omega)];exact q)
theorem ZoK:OpR X (inplaceOp .Add) (rI0 λi j=>.int (i+j)):=opI0 λ_ _ _ _ _ _ _ q=>iadd_int q
theorem unI {f:Value->Sem Value}{g:Int->Int}
  (rule:∀ (i:Int) (t:Tok) (s:Shared) (Q:Value->Shared->Prop) (E:Value->Shared->Prop),Q (.int (g i) s.toks) { s with toks:=s.toks+1 }->wpAny (model X.prog X.w) X.A (f (.int i t)) Q E s) :
  UnR X f (rU λi=>.int (g i)):=by
 intro pins s σ H x v Q I rx h;obtain ⟨i,rfl,q⟩:=h;obtain ⟨t,rfl⟩:=rx;exact rule i t s _ _ ⟨.int (g i),H,I.tok _,⟨_,rfl⟩,q⟩
theorem Zpb:UnR X (unaryOp .USub) (rU λi=>.int (-i)):=unI λ_ _ _ _ _ q=>neg_int q
end
def scal:V->V->Bool
 | .non,.non=>true | .non,.int _=>true | .int _,.non=>true | .non,.bl _=>true | .bl _,.non=>true | .non,.str _=>true | .str _,.non=>true
 | .int _,.int _=>true | .bl _,.bl _=>true | .str _,.str _=>true | .byt _,.byt _=>true
 | .int _,.str _=>true | .str _,.int _=>true | .bl _,.str _=>true | .str _,.bl _=>true
 |_,_=>false
def rEq:R2:=λx y H Q=>scal x y=true/\Q (.bl (decide (x=y))) H
def rNe:R2:=λx y H Q=>scal x y=true/\Q (.bl (!decide (x=y))) H
theorem ZkO {i j:Int}:decide (V.int i=V.int j)=(i == j):=by
 rw [Bool.eq_iff_iff];simp
theorem Znq {i j:Bool}:decide (V.bl i=V.bl j)=(i == j):=by
 rw [Bool.eq_iff_iff];simp
theorem ZkN {i j:Str}:decide (V.str i=V.str j)=(i == j):=by
 rw [Bool.eq_iff_iff];simp
theorem ZkP {i j:Array UInt8}:decide (V.byt i=V.byt j)=(i.toList == j.toList):=by
 rw [Bool.eq_iff_iff];cases i;cases j;simp
section
variable {X:Cx}{a b c:Expr}{ta tb tc:TE}{pos:Pos}
theorem ZaP {pins:List (Addr × Obj)}{σ:St}{H:Hp}{s:Shared}{Q:VK}{k k':Bool} (I:Inv X pins σ H s) (q:Q (.bl k) H) (e:k=k'):EP X pins σ Q (.bool k') s:=by
 subst e;exact ⟨.bl k,H,I,rfl,q⟩
theorem Za4:OpR X (compareOp .Eq) rEq:=by
 intro pins s σ H x y v u Q I rx ry h;obtain ⟨hs,q⟩:=h;cases x with
 |non =>
  cases rx;cases y with
  |non=>cases ry;exact PySem.EqNone.eq_none_none (ZaP I q (by simp))
  |bl j=>cases ry;exact PySem.EqNone.eq_none_bool (ZaP I q (by simp))
  |int j=>obtain ⟨t',rfl⟩:=ry;exact PySem.EqNone.eq_none_int (ZaP I q (by simp))
  |str j=>obtain ⟨t',rfl⟩:=ry;exact PySem.EqNone.eq_none_str (ZaP I q (by simp))
  |_=>exact absurd (show false=true from hs) Yaq
 |bl i =>
  cases rx;cases y with
  |non=>cases ry;exact PySem.EqNone.eq_bool_none (ZaP I q (by simp))
  |bl j=>cases ry;exact eq_bool (ZaP I q Znq)
  |str j=>obtain ⟨t',rfl⟩:=ry;exact PySem.EqMixed.eq_bool_str (ZaP I q (by simp))
  |_=>exact absurd (show false=true from hs) Yaq
 |int i =>
  obtain ⟨t,rfl⟩:=rx;cases y with
  |non=>cases ry;exact PySem.EqNone.eq_int_none (ZaP I q (by simp))
  |int j=>obtain ⟨t',rfl⟩:=ry;exact eq_int (ZaP I q ZkO)
  |str j=>obtain ⟨t',rfl⟩:=ry;exact PySem.EqMixed.eq_int_str (ZaP I q (by simp))
  |_=>exact absurd (show false=true from hs) Yaq
 |str i =>
  obtain ⟨t,rfl⟩:=rx;cases y with
  |non=>cases ry;exact PySem.EqNone.eq_str_none (ZaP I q (by simp))
  |bl j=>cases ry;exact PySem.EqMixed.eq_str_bool (ZaP I q (by simp))
  |int j=>obtain ⟨t',rfl⟩:=ry;exact PySem.EqMixed.eq_str_int (ZaP I q (by simp))
  |str j=>obtain ⟨t',rfl⟩:=ry;exact eq_str (ZaP I q ZkN)
  |_=>exact absurd (show false=true from hs) Yaq
 |byt i =>
  obtain ⟨t,rfl⟩:=rx;cases y with
  |byt j=>obtain ⟨t',rfl⟩:=ry;exact PySem.W.eq_bytes (ZaP I q ZkP)
  |_=>exact absurd (show false=true from hs) Yaq
 |_=>cases y <;> exact absurd (show false=true from hs) Yaq
theorem Zgm:OpR X (compareOp .NotEq) rNe:=by
 intro pins s σ H x y v u Q I rx ry h;obtain ⟨hs,q⟩:=h;cases x with
 |non =>
  cases rx;cases y with
  |non=>cases ry;exact PySem.EqNone.ne_none_none (ZaP I q (by simp))
  |bl j=>cases ry;exact PySem.EqNone.ne_none_bool (ZaP I q (by simp))
  |int j=>obtain ⟨t',rfl⟩:=ry;exact PySem.EqNone.ne_none_int (ZaP I q (by simp))
  |str j=>obtain ⟨t',rfl⟩:=ry;exact PySem.EqNone.ne_none_str (ZaP I q (by simp))
  |_=>exact absurd (show false=true from hs) Yaq
 |bl i =>
  cases rx;cases y with
  |non=>cases ry;exact PySem.EqNone.ne_bool_none (ZaP I q (by simp))
  |bl j=>cases ry;exact ne_bool (ZaP I q (congrArg not Znq))
  |str j=>obtain ⟨t',rfl⟩:=ry;exact PySem.EqMixed.ne_bool_str (ZaP I q (by simp))
  |_=>exact absurd (show false=true from hs) Yaq
 |int i =>
  obtain ⟨t,rfl⟩:=rx;cases y with
  |non=>cases ry;exact PySem.EqNone.ne_int_none (ZaP I q (by simp))
  |int j=>obtain ⟨t',rfl⟩:=ry;exact ne_int (ZaP I q (congrArg not ZkO))
  |str j=>obtain ⟨t',rfl⟩:=ry;exact PySem.EqMixed.ne_int_str (ZaP I q (by simp))
  |_=>exact absurd (show false=true from hs) Yaq
 |str i =>
  obtain ⟨t,rfl⟩:=rx;cases y with
  |non=>cases ry;exact PySem.EqNone.ne_str_none (ZaP I q (by simp))
  |bl j=>cases ry;exact PySem.EqMixed.ne_str_bool (ZaP I q (by simp))
  |int j=>obtain ⟨t',rfl⟩:=ry;exact PySem.EqMixed.ne_str_int (ZaP I q (by simp))
  |str j=>obtain ⟨t',rfl⟩:=ry;exact ne_str (ZaP I q (congrArg not ZkN))
  |_=>exact absurd (show false=true from hs) Yaq
 |byt i =>
  obtain ⟨t,rfl⟩:=rx;cases y with
  |byt j=>obtain ⟨t',rfl⟩:=ry;exact PySem.W.ne_bytes (ZaP I q (congrArg not ZkP))
  |_=>exact absurd (show false=true from hs) Yaq
 |_=>cases y <;> exact absurd (show false=true from hs) Yaq
theorem Zqc:OpR X (compareOp .Lt) (rI0 λi j=>.bl (decide (i<j))):=opB0 λ_ _ _ _ _ _ _ q=>lt_int q
theorem Zfv:OpR X (compareOp .LtE) (rI0 λi j=>.bl (decide (i<=j))):=opB0 λ_ _ _ _ _ _ _ q=>le_int q
theorem ZrM:OpR X (compareOp .Gt) (rI0 λi j=>.bl (decide (j<i))):=opB0 λ_ _ _ _ _ _ _ q=>gt_int q
theorem ZrN:OpR X (compareOp .GtE) (rI0 λi j=>.bl (decide (j<=i))):=opB0 λ_ _ _ _ _ _ _ q=>ge_int q
theorem ZdF:OpR X (compareOp .In) (λx y H Q=>∃ i j,x=.str i/\y=.str j/\Q (.bl (!(Builtin.Str.occurrences j i 0 j.length 1).isEmpty)) H):=by
 intro pins s σ H x y v u Q I rx ry h;obtain ⟨i,j,rfl,rfl,q⟩:=h;obtain ⟨t,rfl⟩:=rx;obtain ⟨t',rfl⟩:=ry;exact in_str (ZaP I q rfl)
theorem Zaq (b:Expr) {op:CmpOp} (h:op≠.In:=by decide) (h2:op≠.NotIn:=by decide):behindInMarks op b=false:=by
 have e1:(op == CmpOp.In)=false:=by cases op <;> first | rfl | exact absurd rfl h
 have e2:(op == CmpOp.NotIn)=false:=by cases op <;> first | rfl | exact absurd rfl h2
 cases b <;> simp [behindInMarks,e1,e2]
theorem Zbn {op:CmpOp}{r:R2} (ho:OpR X (compareOp op) r) (ha:PE X a ta) (hb:PE X b tb) (hm:behindInMarks op b=false):PE X (.Compare a [op] [b] pos) (tOp r ta tb):=by
 intro pins s σ H Q I h;exact wpAny_Compare1 (binT ha hb I h λv u s2 x y H2 I2 rx ry q=>ho pins s2 σ H2 x y v u Q I2 rx ry q) hm
def Zll (t:TE):TT:=λσ H Q=>t σ H λx H'=>∃ k,x=.bl k/\Q k H'
theorem Zap {op:CmpOp}{r:R2} (ho:OpR X (compareOp op) r) (ha:PE X a ta) (hb:PE X b tb) (hm:behindInMarks op b=false):PT X (.Compare a [op] [b] pos) (Zll (tOp r ta tb)):=by
 intro pins s σ H Q I h;refine wpAny_isTrue_Compare1 (thn (ha pins s σ H _ I h) λv s1 ⟨x,H1,I1,r1,q1⟩=>thn (hb pins s1 σ H1 _ I1 q1) λu s2 ⟨y,H2,I2,r2,q2⟩ =>
  thn (ho pins s2 σ H2 x y v u _ I2 r1 r2 q2) λc s3 ⟨z,H3,I3,r3,k,e,q3⟩=>?_) hm
 subst e;cases r3;exact wpAny_truthy_bool ⟨H3,I3,q3⟩
def ZmQ (r r':R2) (ta tb tc:TE):TE:=λσ H Q=>ta σ H λx H1=>tb σ H1 λy H2=>r x y H2 λz H3=>∃ k,z=.bl k /\
 (if k=true then tc σ H3 λw' H4=>r' y w' H4 Q else Q (.bl false) H3)
theorem Zbg {op op':CmpOp}{r r':R2} (ho:OpR X (compareOp op) r) (ho':OpR X (compareOp op') r') (ha:PE X a ta) (hb:PE X b tb) (hc:PE X c tc)
  (hm:lastMarks [op,op'] [b,c]=false:=by with_unfolding_all rfl):PE X (.Compare a [op,op'] [b,c] pos) (ZmQ r r' ta tb tc):=by
 intro pins s σ H Q I h;refine Compare_chain (thn (ha pins s σ H _ I h) λv s1 ⟨x,H1,I1,r1,q1⟩=>chain_link (thn (hb pins s1 σ H1 _ I1 q1) λu s2 ⟨y,H2,I2,r2,q2⟩ =>
  thn (ho pins s2 σ H2 x y v u _ I2 r1 r2 q2) λd s3 ⟨z,H3,I3,r3,k,e,q3⟩=>?_)) hm
 subst e;cases r3;refine wpAny_truthy_bool ?_;cases k with
 |false=>exact ite_ff ⟨.bl false,H3,I3,rfl,q3⟩
 |true=>exact ite_tt (chain_last (thn (hc pins s3 σ H3 _ I3 q3) λw' s4 ⟨z',H4,I4,r4,q4⟩=>ho' pins s4 σ H4 y z' u w' Q I4 r2 r4 q4))
theorem Zeq {op op':CmpOp}{r r':R2} (ho:OpR X (compareOp op) r) (ho':OpR X (compareOp op') r') (ha:PE X a ta) (hb:PE X b tb) (hc:PE X c tc)
  (hm:lastMarks [op,op'] [b,c]=false:=by with_unfolding_all rfl):PT X (.Compare a [op,op'] [b,c] pos) (Zll (ZmQ r r' ta tb tc)):=by
 intro pins s σ H Q I h;refine isTrue_chain (thn (ha pins s σ H _ I h) λv s1 ⟨x,H1,I1,r1,q1⟩=>test_link (thn (hb pins s1 σ H1 _ I1 q1) λu s2 ⟨y,H2,I2,r2,q2⟩ =>
  thn (ho pins s2 σ H2 x y v u _ I2 r1 r2 q2) λd s3 ⟨z,H3,I3,r3,k,e,q3⟩=>?_)) hm
 subst e;cases r3;refine wpAny_truthy_bool ?_;cases k with
 |false =>
  obtain ⟨k',e',q'⟩:=q3;cases e';exact ite_ff ⟨H3,I3,q'⟩
 |true =>
  refine ite_tt (test_last (thn (hc pins s3 σ H3 _ I3 q3) λw' s4 ⟨z',H4,I4,r4,q4⟩=>thn (ho' pins s4 σ H4 y z' u w' _ I4 r2 r4 q4) λd' s5 ⟨z2,H5,I5,r5,k2,e2,q5⟩=>?_));subst e2;cases r5;exact wpAny_truthy_bool ⟨H5,I5,q5⟩
def TruV (K:Yab) (x:V) (H:Hp) (k:Bool):Prop :=
 match x with
 | .non=>k=false
 | .bl b=>k=b
 | .int i=>k=(i != 0)
 | .str y=>y.length<=sizeLine/\k=((y.length:Int) != 0)
 | .byt y=>y.size<=sizeLine/\k=((y.size:Int) != 0)
 | .ref p=>(∃ xs,SqL K H p xs/\k = !xs.isEmpty)\/(∃ xs,SqT K H p xs/\k = !xs.isEmpty)\/∃ kvs,H p=some (.dK kvs)/\k = !kvs.isEmpty
 |_=>False
theorem Zit {κ:Type}{kvs:List (κ × V)}{vs:List (κ × Value)} (r:KV kvs vs):(!vs.isEmpty) = !kvs.isEmpty:=by
 cases r <;> rfl
theorem Zed {xs:List V}{its:List Value} (r:Vals xs its):(!its.toArray.isEmpty) = !xs.isEmpty:=by
 cases r <;> simp
theorem ZdH:(sizeLine:Nat)<2 ^ 63:=by rw [sizeLine_eq];decide
theorem Zpe:TruR X (λx H Q=>∃ k,TruV X.K x H k/\Q k H):=by
 intro pins s σ H x v Q I rx h;obtain ⟨k,e,q⟩:=h;have hl:=ZdH;have hs:sizeLine=16777216:=sizeLine_eq;cases x with
 |non =>
  cases rx;have e':k=false:=e;subst e';exact truthy_none ⟨H,I,q⟩
 |bl b =>
  cases rx;have e':k=b:=e;subst e';exact wpAny_truthy_bool ⟨H,I,q⟩
 |int i =>
  obtain ⟨t,rfl⟩:=rx;have e':k=(i != 0):=e;subst e';exact PySem.P.truthy_int ⟨H,I,q⟩
 |str y =>
  obtain ⟨t,rfl⟩:=rx;obtain ⟨hy,e'⟩:y.length<=sizeLine/\k=((y.length:Int) != 0):=e;subst e';exact PySem.P.truthy_str (by omega) ⟨H,I.tok _,q⟩
 |byt y =>
  obtain ⟨t,rfl⟩:=rx;obtain ⟨hy,e'⟩:y.size<=sizeLine/\k=((y.size:Int) != 0):=e;subst e';exact PySem.W.truthy_bytes (by omega) ⟨H,I.tok _,q⟩
 |ref p =>
  cases rx;have e':(∃ xs,SqL X.K H p xs/\k = !xs.isEmpty)\/(∃ xs,SqT X.K H p xs/\k = !xs.isEmpty)\/∃ kvs,H p=some (.dK kvs)/\k = !kvs.isEmpty:=e;rcases e' with ⟨xs,hx,e'⟩ | ⟨xs,hx,e'⟩ | ⟨kvs,hx,e'⟩
  ·subst e';obtain ⟨its,r,pl,hz⟩:=I.list hx;have hlen:=r.length;exact wpAny_truthy_list pl.isList (by simp only [Yam];omega) ⟨H,I.tok _,by rw [Zed r];exact q⟩
  ·subst e';obtain ⟨its,r,pl,hz⟩:=I.tuple hx;have hlen:=r.length;exact truthy_tuple pl (by simp only [Yam];omega) ⟨H,I.tok _,by rw [Zed r];exact q⟩
  ·subst e';obtain ⟨hz,hS,vs,r,m⟩:kvs.length<=sizeLine/\(p == sysModules)=false/\∃ vs,KV kvs vs/\s.heap.DictOf (ZaM X.prog X.w) p vs:=I.hok p _ hx;have hlen:kvs.length=vs.length:=Paired.length r;exact wpAny_truthy_dict hS m (by omega) ⟨H,I.tok _,by rw [Zit r];exact q⟩
 |_=>exact (show False from e).elim
theorem ZlO (ha:PE X a ta) (he:∀ whole,isTrue a X.env whole=(do let v <- whole;standAt a.pos;holding [v] (truthy v))) :
  PT X a (λσ H Q=>ta σ H λx H'=>∃ k,TruV X.K x H' k/\Q k H'):=by
 intro pins s σ H Q I h;exact isTrue_plain (thn (ha pins s σ H _ I h) λv s1 ⟨x,H1,I1,r1,q1⟩=>Zpe pins s1 σ H1 x v Q I1 r1 q1) (he _)
theorem ZaI:OpR X (binaryOp .Add) (λx y H Q=>∃ i j,x=.str i/\y=.str j/\i.length+j.length<=sizeLine/\Q (.str (i ++ j)) H):=by
 intro pins s σ H x y v u Q I rx ry h;obtain ⟨i,j,rfl,rfl,hz,q⟩:=h;obtain ⟨t,rfl⟩:=rx;obtain ⟨t',rfl⟩:=ry;exact add_str (λt' tk=>⟨.str (i ++ j),H,I.tok _,⟨_,rfl⟩,q⟩) hz
theorem Zld {x:V}{us:List Value} (r:Vals [x] us):∃ u,us=[u]/\RelV x u:=by
 cases r with
 |cons r1 r2=>cases r2;exact ⟨_,rfl,r1⟩
theorem Zo9 {x y:V}{us:List Value} (r:Vals [x,y] us):∃ u w',us=[u,w']/\RelV x u/\RelV y w':=by
 cases r with
 |cons r1 r2 =>
  cases r2 with
  |cons r3 r4=>cases r4;exact ⟨_,_,rfl,r1,r3⟩
theorem ZmK:Zbv X (.builtin "abs") (λxs H Q=>∃ i,xs=[.int i]/\Q (.int (if i<0 then -i else i)) H):=by
 intro pins s σ H xs us Q I r h;obtain ⟨i,rfl,q⟩:=h;obtain ⟨u,rfl,t,rfl⟩:=Zld r;exact call_abs_int λu tk=>⟨.int (if i<0 then -i else i),H,I.tok _,⟨_,rfl⟩,q⟩
theorem Zf2 (hc:X.calm=true):Zbv X (.builtin "max") (λxs H Q=>∃ i j,xs=[.int i,.int j]/\Q (.int (if j > i then j else i)) H):=by
 intro pins s σ H xs us Q I r h;obtain ⟨i,j,rfl,q⟩:=h;obtain ⟨u,w',rfl,⟨t,rfl⟩,⟨t',rfl⟩⟩:=Zo9 r;refine max_two_ints (I.ok.hd hc) λh' tk k=>⟨_,H,I.kept k,?_,q⟩
 by_cases hj:j > i
 ·rw [Ya7 hj,Ya7 hj];exact ⟨_,rfl⟩
 ·rw [Ya6 hj,Ya6 hj];exact ⟨_,rfl⟩
theorem Zk4 (hc:X.calm=true):Zbv X (.builtin "min") (λxs H Q=>∃ i j,xs=[.int i,.int j]/\Q (.int (if j<i then j else i)) H):=by
 intro pins s σ H xs us Q I r h;obtain ⟨i,j,rfl,q⟩:=h;obtain ⟨u,w',rfl,⟨t,rfl⟩,⟨t',rfl⟩⟩:=Zo9 r;refine min_two_ints (I.ok.hd hc) λh' tk k=>⟨_,H,I.kept k,?_,q⟩
 by_cases hj:j<i
 ·rw [Ya7 hj,Ya7 hj];exact ⟨_,rfl⟩
 ·rw [Ya6 hj,Ya6 hj];exact ⟨_,rfl⟩
end
open PySem PySem.Spec PyProof.Rows
structure ObjM (h:Heap) (x dx C:Addr) (mA:Str->Option Value):Prop where
 obj:h.get? x=some (PySem.W.instObj C dx)
 ns:h.Ns1 dx mA
 ne:dx≠x
theorem Zkl {h:Heap}{dx:Addr}{mA:Str->Option Value} (n:h.Ns1 dx mA):∃ od,h.get? dx=some od/\∀ name,PySem.W.lookIn name od=some (mA name):=by
 obtain ⟨o,es,ep,ho,hd,hk,_,hm⟩:=n;refine ⟨o,ho,λname=>?_⟩;have e:=hm name;unfold nsFind findBy at e;rw [<- Array.find?_toList] at e;unfold PySem.W.lookIn;rw [hd];dsimp only;split
 ·rename_i y q
  rw [q] at e;exact congrArg some e
 ·rename_i q
  rw [q] at e;have a:es.toList.any (·.refKey)=false:=by
   rw [List.any_eq_false];intro y hy;obtain ⟨z,t,hkey⟩:=hk y (Array.mem_toList_iff.mp hy);simp [DictEntry.refKey,hkey]
  have a':¬ es.toList.any (·.refKey)=true:=by rw [a];exact Yaq
  rw [Ya6 a'];exact congrArg some e
theorem ObjM.look {h:Heap}{x dx C:Addr}{mA:Str->Option Value} (I:ObjM h x dx C mA):∃ od,PySem.W.InstAt h x (PySem.W.instObj C dx) C (some od)/\∀ name,PySem.W.lookIn name od=some (mA name) :=
 let ⟨od,ho,hl⟩:=Zkl I.ns
 ⟨od,⟨I.obj,rfl,rfl,ho⟩,hl⟩
section
variable {prog:Program}{w:World}{A:Around}{E:Value->Shared->Prop}{s:Shared}{K:Yab}{x dx C f:Addr}{mA:Str->Option Value}{name:Str}{v:Value}
theorem ZoO {expr:Bool}{Q:Value->Shared->Prop} (X:K.In s.heap) (I:ObjM s.heap x dx C mA) (hg:PySem.W.plainGet K C name=true) (hh:PySem.W.hasDictIn K C=true)
  (ha:PySem.W.findIn K (.ref C) name=some none) (hv:mA name=some v) (hv':PySem.W.handedIn v=true) (h:Q v { s with toks:=s.toks+1 }) :
  wpAny (model prog w) A (getAttr (.ref x) name expr) Q E s:=by
 obtain ⟨od,J,hl⟩:=I.look;exact PySem.W.get_value X J (PySem.W.plainGet_of hg).1 (PySem.W.findObj_own hh ha rfl (by rw [hl,hv])) hv' h
theorem Zmv {pl:Sem Bool}{Q:Value × List Value->Shared->Prop} (X:K.In s.heap) (I:ObjM s.heap x dx C mA) (hg:PySem.W.plainGet K C name=true)
  (hf:PySem.W.findIn K (.ref C) name=some (some (.ref f))) (ht:PySem.W.isFn K (.ref f)=true) (hv:mA name=none) (h:Q (.ref f,[.ref x]) s) :
  wpAny (model prog w) A (getMethod (.ref x) name pl) Q E s:=by
 obtain ⟨od,J,hl⟩:=I.look;exact PySem.W.method_fn X J (PySem.W.plainGet_of hg).1 (PySem.W.plainGet_of hg).2 hf (beq_iff_eq.mp ht) (by show (PySem.W.lookIn name od).map (·.isSome)=some false;rw [hl,hv];rfl) h
theorem ZnR {ns:List Str}{Q:Unit->Shared->Prop} (X:K.In s.heap) (I:ObjM s.heap x dx C mA)
  (hs:PySem.W.findIn K (.ref C) "__setattr__" = some (some (.builtin "object.__setattr__"))) (hp:PySem.W.plainOver K C=true) (ht:PySem.W.takerIn K C name=some none) (hh:PySem.W.hasDictIn K C=true)
  (hw:PySem.Within mA ns) (hsz:ns.length<=sizeLine)
  (h:∀ h',ObjM h' x dx C (λy=>if y=name then some v else mA y)->Heap.SameBut dx s.heap h'->Q () { s with heap:=h',toks:=s.toks+2 }) :
  wpAny (model prog w) A (setAttr (.ref x) name v) Q E s:=by
 obtain ⟨od,J,hl⟩:=I.look;refine PySem.W.set_plain X J hs (PySem.W.osa_open (s:={ s with toks:=s.toks+1 }) (r:=none) X J hp ht λb=>?_);obtain ⟨cd,hc,hd'⟩:=PySem.W.any_some hh;have hx:s.heap.get? x=some ⟨.ref C,some dx,.plain,#[]⟩:=I.obj;refine Ya3 (Ya8 (Ya3 (Ya3 (wpAny_loadPart hx (Ya3 (PySem.W.Looks.here (s:={ s with toks:=s.toks+1 }) (PySem.W.looks_clsIn X hc) ?_))))));rw [hd'];refine Ya8 (a:=some dx) (Ya3 (Ya8 (Ya3 ?_)));refine wpAny_nsSet1 (s:={ s with toks:=s.toks+1 }) I.ns λh' hn2 hs2=>?_;obtain ⟨oD,esD,epD,hoD,hdD,hcD⟩:=hn2.count (PySem.Within.cons name v hw);refine Ya3 (wpAny_lookBehind hoD (by rw [hdD];exact pastItsLine_dict (Yay hcD (by rw [YaC];omega))) ?_);exact Ya8 (h _ ⟨(hs2.2 _ (Ne.symm I.ne)).trans I.obj,hn2,I.ne⟩ hs2)
theorem Zmk {R:Result->Shared->Prop}{vs:List Value}{kw:List (Str × Value)} (X:K.In s.heap) (hm:PySem.W.makesIn K C=true)
  (hi:PySem.W.findIn K (.ref C) "__init__" = some (some (.ref f))) (hf:PySem.W.typeIn K (.ref f)=some (.type "function"))
  (h:codeAny (model prog w) (A.under (.builtin "type.__call__" ⟨.ref C :: vs,kw⟩)) (.call (.ref f) ⟨.ref (s.heap.objs.size+1) :: vs,kw⟩) (PySem.W.InitBack (s.heap.objs.size+1) R)
   { s with heap:=(s.heap.push PySem.W.emptyDict).push (PySem.W.instObj C s.heap.objs.size) }) :
  codeAny (model prog w) A (.call (.ref C) ⟨vs,kw⟩) R s:=by
 obtain ⟨hh,g,d,t,os⟩:=s;exact PySem.W.make_core (PySem.W.makes_of X hm) (PySem.W.looks_findIn X hi) (λself=>PySem.W.bind_fn X self hf) (.inl rfl) h
end
def putF (f:Str) (v:V):List (Str × V)->List (Str × V)
 | []=>[(f,v)]
 | (g,x) :: r=>if g=f then (g,v) :: r else (g,x) :: putF f v r
theorem ZdG (f g:Str) (v:V):∀ fs:List (Str × V),(putF f v fs).lookup g=if g=f then some v else fs.lookup g
 | []=>by
  show List.lookup g [(f,v)]=_
  by_cases h:g=f
  ·have hb:(g == f)=true:=beq_iff_eq.mpr h;simp only [List.lookup,hb,Ya7 h]
  ·have hb:(g == f)=false:=Ya1.mpr h;simp only [List.lookup,hb,Ya6 h]
 | (k,x) :: r=>by
  have ih:=ZdG f g v r;rw [show putF f v ((k,x) :: r)=(if k=f then (k,v) :: r else (k,x) :: putF f v r) from rfl]
  by_cases hk:k=f
  ·rw [Ya7 hk]
   by_cases h:g=k
   ·have hb:(g == k)=true:=beq_iff_eq.mpr h;simp only [List.lookup,hb,Ya7 (h.trans hk)]
   ·have hb:(g == k)=false:=Ya1.mpr h;simp only [List.lookup,hb,Ya6 (λe:g=f=>h (e.trans hk.symm))]
  ·rw [Ya6 hk]
   by_cases h:g=k
   ·have hb:(g == k)=true:=beq_iff_eq.mpr h;simp only [List.lookup,hb,Ya6 (λe:g=f=>hk (h.symm.trans e))]
   ·have hb:(g == k)=false:=Ya1.mpr h;simp only [List.lookup,hb];exact ih
theorem ZdK (f:Str) (v:V):∀ fs:List (Str × V),f∈(putF f v fs).map (·.1)/\∀ g,g∈fs.map (·.1)->g∈(putF f v fs).map (·.1)
 | []=>⟨by simp [putF],λg h=>by simp at h⟩
 | (k,x) :: r=>by
  obtain ⟨i1,i2⟩:=ZdK f v r;rw [show putF f v ((k,x) :: r)=(if k=f then (k,v) :: r else (k,x) :: putF f v r) from rfl]
  by_cases hk:k=f
  ·rw [Ya7 hk];subst hk;exact ⟨by simp,λg h=>by simpa using h⟩
  ·rw [Ya6 hk];refine ⟨?_,λg h=>?_⟩
   ·rw [Yaw];exact Yas _ i1
   ·rw [Yaw] at h ⊢;rcases YaF.mp h with e | e
    ·exact YaF.mpr (.inl e)
    ·exact Yas _ (i2 g e)
theorem ZdI (f:Str) (v:V):∀ fs:List (Str × V),(putF f v fs).length<=fs.length+1
 | []=>by simp [putF]
 | (k,x) :: r=>by
  have ih:=ZdI f v r;rw [show putF f v ((k,x) :: r)=(if k=f then (k,v) :: r else (k,x) :: putF f v r) from rfl]
  by_cases hk:k=f
  ·rw [Ya7 hk,YaC,YaC];omega
  ·rw [Ya6 hk,YaC,YaC];omega
theorem RelO.some_of {v:V}{o:Option Value} (r:RelO (some v) o):∃ u,o=some u/\RelV v u:=by
 cases o with
 |none=>exact (show False from r).elim
 |some u=>exact ⟨u,rfl,r⟩
theorem RelO.none_of {o:Option Value} (r:RelO none o):o=none:=by
 cases o with
 |none=>rfl
 |some u=>exact (show False from r).elim
theorem ZkC {v:V}{u:Value} (r:RelV v u):PySem.W.handedIn u=true:=by
 cases v with
 |non=>cases (show u=Value.none from r);rfl
 |bl b=>cases (show u=Value.bool b from r);rfl
 |int i=>obtain ⟨t,e⟩:=(show ∃ t,u=Value.int i t from r);cases e;rfl
 |str x=>obtain ⟨t,e⟩:=(show ∃ t,u=Value.str x t from r);cases e;rfl
 |byt b=>obtain ⟨t,e⟩:=(show ∃ t,u=Value.bytes b t from r);cases e;rfl
 |flt b=>obtain ⟨t,e⟩:=(show ∃ t,u=Value.float b t from r);cases e;rfl
 |ref a=>cases (show u=Value.ref a from r);rfl
 |ty n=>cases (show u=Value.type n from r);rfl
section
variable {P:Program}{w:World}{H H':Hp}{h h':Heap}{a C dx:Addr}{fs fs':List (Str × V)}
theorem ZeL (hok:HOk P w H h) (e:H a=some (.ins C dx fs)):∃ mA,ObjM h a dx C mA/\(∀ f,RelO (fs.lookup f) (mA f))/\PySem.Within mA (fs.map (·.1))/\fs.length<=1000/\H dx=some (.own a):=by
 obtain ⟨d,z,ne,ob,mA,n,r,q⟩:=(show ObjOk P w H h a (.ins C dx fs) from hok a _ e);exact ⟨mA,⟨ob,n,ne⟩,r,q,z,d⟩
end
structure Cls (K:Yab) (C:Addr):Prop where
 pg:PySem.W.plainGet K C Str.empty=true
 hd:PySem.W.hasDictIn K C=true
 po:PySem.W.plainOver K C=true
 sa:PySem.W.findIn K (.ref C) "__setattr__" = some (some (.builtin "object.__setattr__"))
theorem Cls.get {K:Yab}{C:Addr} (c:Cls K C) (f:Str):PySem.W.plainGet K C f=true:=c.pg
def NoAttr (K:Yab) (C:Addr) (f:Str):Prop:=PySem.W.findIn K (.ref C) f=some none
theorem NoAttr.taker {K:Yab}{C:Addr}{f:Str} (n:NoAttr K C f):PySem.W.takerIn K C f=some none:=by
 unfold PySem.W.takerIn;rw [show PySem.W.findIn K (.ref C) f=some none from n];rfl
structure Meth (K:Yab) (C:Addr) (m:Str) (f:Addr):Prop where
 at_:PySem.W.findIn K (.ref C) m=some (some (.ref f))
 fn:PySem.W.isFn K (.ref f)=true
 kp:PySem.W.keepIn K (.ref f)=true
section
variable {X:Cx}{pins:List (Addr × Obj)}{σ:St}{H:Hp}{s:Shared}{a C dx:Addr}{fs:List (Str × V)}{f:Str}{v:V}{A:Around}{E:Value->Shared->Prop}
theorem Ziv {b:Bool}{Q:Value->Shared->Prop} (I:Inv X pins σ H s) (e:H a=some (.ins C dx fs)) (c:Cls X.K C) (n:NoAttr X.K C f) (l:fs.lookup f=some v)
  (h:∀ u s',Inv X pins σ H s'->RelV v u->Q u s'):wpAny (model X.prog X.w) A (getAttr (.ref a) f b) Q E s:=by
 obtain ⟨mA,O,r,_,_,_⟩:=ZeL I.hok e;obtain ⟨u,hu,ru⟩:=RelO.some_of (v:=v) (o:=mA f) (by rw [<- l];exact r f);exact ZoO I.kIn O (c.get f) c.hd n hu (ZkC ru) (h u _ (I.tok _) ru)
theorem ZcX {m:Str}{g:Addr}{pl:Sem Bool}{Q:Value × List Value->Shared->Prop} (I:Inv X pins σ H s) (e:H a=some (.ins C dx fs)) (c:Cls X.K C) (k:Meth X.K C m g) (l:fs.lookup m=none)
  (h:Q (.ref g,[.ref a]) s):wpAny (model X.prog X.w) A (getMethod (.ref a) m pl) Q E s:=by
 obtain ⟨mA,O,r,_,_,_⟩:=ZeL I.hok e;have hn:mA m=none:=RelO.none_of (by rw [<- l];exact r m);exact Zmv I.kIn O (c.get m) k.at_ k.fn hn h
theorem Zh4 {y:V}{u:Value}{Q:Unit->Shared->Prop} (I:Inv X pins σ H s) (e:H a=some (.ins C dx fs)) (c:Cls X.K C) (n:NoAttr X.K C f) (hl:fs.length<1000) (ry:RelV y u)
  (h:∀ s',Inv X pins σ (upd H a (.ins C dx (putF f y fs))) s'->Q () s'):wpAny (model X.prog X.w) A (setAttr (.ref a) f u) Q E s:=by
 obtain ⟨mA,O,r,wi,_,ho⟩:=ZeL I.hok e;have hz:(fs.map (·.1)).length<=sizeLine:=by rw [Yaa,sizeLine_eq];omega
 refine ZnR I.kIn O c.sa c.po n.taker c.hd wi hz λh' O' sb=>h _ ?_;have hd:∃ o,h'.get? dx=some o:=let ⟨o,_,_,e',_⟩:=O'.ns;⟨o,e'⟩;refine I.write (x:=a) (e:=dx) (by rw [e];exact True.intro) (.inr ho) (λb q hb z=>(sb.2 b hb).trans z) hd ?_;refine ⟨by rw [Zai O.ne];exact ho,?_,O.ne,O'.obj,_,O'.ns,λg=>?_,λg hg=>?_⟩
 ·have:=ZdI f y fs;omega
 ·show RelO ((putF f y fs).lookup g) (if g=f then some u else mA g);rw [ZdG]
  by_cases q:g=f
  ·rw [Ya7 q,Ya7 q];exact ry
  ·rw [Ya6 q,Ya6 q];exact r g
 ·by_cases q:g=f
  ·rw [q];exact (ZdK f y fs).1
  ·refine (ZdK f y fs).2 g (wi g λz=>hg ?_);show (if g=f then some u else mA g)=none;rw [Ya6 q];exact z
theorem Inv.made (I:Inv X pins σ H s):Inv X pins σ (upd (upd H s.heap.objs.size (.own (s.heap.objs.size+1))) (s.heap.objs.size+1) (.ins C s.heap.objs.size []))
  { s with heap:=(s.heap.push PySem.W.emptyDict).push (PySem.W.instObj C s.heap.objs.size) }:=by
 have e1:(s.heap.push PySem.W.emptyDict).get? s.heap.objs.size=some PySem.W.emptyDict:=Yao s.heap rfl;have e2:((s.heap.push PySem.W.emptyDict).push (PySem.W.instObj C s.heap.objs.size)).get? (s.heap.objs.size+1)=some (PySem.W.instObj C s.heap.objs.size):=by
  have:=Yao (s.heap.push PySem.W.emptyDict) (o:=PySem.W.instObj C s.heap.objs.size) rfl
  rwa [Heap.size_push] at this
 have e3:(s.heap.push PySem.W.emptyDict).Ns s.heap.objs.size (λ_=>none):=⟨PySem.W.emptyDict,#[],_,e1,rfl,(λe he=>absurd he (by simp)),λ_=>rfl⟩;have I1:=I.laid (a:=s.heap.objs.size) (o:=.own (s.heap.objs.size+1)) (h':=s.heap.push PySem.W.emptyDict) (t':=s.toks) (λb u q=>Yad _ q) (Yag _) ⟨_,e1⟩;refine I1.laid (a:=s.heap.objs.size+1) (o:=.ins C s.heap.objs.size []) (t':=s.toks) (λb u q=>Yad _ q) (Nat.le_of_eq (Heap.size_push _ _)) ?_;have ne:s.heap.objs.size≠s.heap.objs.size+1:=Yap (Nat.lt_succ_self _);refine ⟨by rw [Zai ne,Zad],YaH _,ne,e2,λ_=>none,(Heap.Ns1.of_empty e3).at λo q=>Yad _ q,λ_=>True.intro,λy hy=>absurd rfl hy⟩
theorem Zo3 {prog:Program}{w:World}{env:Env}{e:Expr}{f:Str}{pos:Pos}{s:Shared}{Q:Value->Shared->Prop} (hb:attributeBase e f env (eval e env)=eval e env)
  (h:wpAny (model prog w) A (eval e env) (λo s₁=>wpAny (model prog w) A (getAttr o f true) Q E s₁) E s):wpAny (model prog w) A (eval (.Attribute e f pos) env) Q E s :=
 Attribute_any_ h (by rw [arm_eval_Attribute,hb])
end
def tFld (K:Yab) (ta:TE) (f:Str):TE:=λσ H Q=>ta σ H λx H1=>∃ a C dx fs v,x=.ref a/\H1 a=some (.ins C dx fs)/\Cls K C/\NoAttr K C f/\fs.lookup f=some v/\Q v H1
def sFld (K:Yab) (ta tv:TE) (f:Str):TS:=λD σ H=>tv σ H λy H1=>ta σ H1 λx H2=>∃ a C dx fs,x=.ref a/\H2 a=some (.ins C dx fs)/\Cls K C/\NoAttr K C f/\fs.length<1000 /\
 D.nx σ (upd H2 a (.ins C dx (putF f y fs)))
section
variable {X:Cx}{o e value:Expr}{f:Str}{pos pos' tpos:Pos}{ta tv:TE}
theorem Zbr (he:PE X e ta) (hb:attributeBase e f X.env (eval e X.env)=eval e X.env):PE X (.Attribute e f pos) (tFld X.K ta f):=by
 intro pins s σ H Q I h;refine Zo3 hb (thn (he pins s σ H _ I h) λu s1 ⟨x,H1,I1,rx,a,C,dx,fs,v,ex,ea,c,n,l,q⟩=>?_);subst ex;obtain rfl:u=Value.ref a:=rx;exact Ziv I1 ea c n l λu' s2 I2 ru=>⟨v,H1,I2,ru,q⟩
theorem Zhe (ha:PE X o ta) (hv:PE X value tv) (hs:swapsWith value (some (.Attribute o f pos')) pos.line X.env=pure false):PS X (.Assign [.Attribute o f pos'] value pos) (sFld X.K ta tv f):=by
 intro pins s σ H D I h;refine plainObj_wpAny_Assign_Attribute (thn (hv pins s σ H _ I h) λu s1 ⟨y,H1,I1,ry,q⟩=>thn (ha pins s1 σ H1 _ I1 q) λov s2 ⟨x,H2,I2,rx,a,C,dx,fs,ex,ea,c,n,l,q2⟩=>?_) hs;subst ex;obtain rfl:ov=Value.ref a:=rx;exact Zh4 I2 ea c n l ry λs3 I3=>⟨σ,_,I3,q2⟩
end
section
variable {X:Cx}{pins:List (Addr × Obj)}{σ:St}{H:Hp}{s:Shared}{A:Around}{E:Value->Shared->Prop}{Q:Value->Shared->Prop}{c:Value}{b:Bool}
inductive TyOf (K:Yab) (H:Hp):V->Value->Prop where
 |non:TyOf K H .non (.type "NoneType")
 |bl (x:Bool):TyOf K H (.bl x) (.type "bool")
 |int (i:Int):TyOf K H (.int i) (.type "int")
 |str (x:Str):TyOf K H (.str x) (.type "str")
 |flt (x:UInt64):TyOf K H (.flt x) (.type "float")
 |lst {a:Addr}{xs:List V} (e:H a=some (.lst xs)):TyOf K H (.ref a) (.type "list")
 |frz {a:Addr}{o:Obj}{xs:List V} (e:H a=some (.frz o (.lst xs))):TyOf K H (.ref a) (.type "list")
 |tup {a:Addr}{xs:List V} (e:H a=some (.tup xs)):TyOf K H (.ref a) (.type "tuple")
 |dK {a:Addr}{kvs:List (Key × V)} (e:H a=some (.dK kvs)):TyOf K H (.ref a) (.type "dict")
 |dT {a:Addr}{kvs:List (List Key × V)} (e:H a=some (.dT kvs)):TyOf K H (.ref a) (.type "dict")
 |ins {a C dx:Addr}{fs:List (Str × V)} (e:H a=some (.ins C dx fs)) (cl:Cls K C) (ha:PySem.W.findIn K (.ref C) "__class__" = some (some (.builtin "object.__class__")))
   (hn:PySem.W.specialIn K (.builtin "object.__class__") "__get__" = some (some (.builtin "getset_descriptor.__get__"))) (htk:PySem.W.takesIn K (.builtin "object.__class__")=some true)
   (hm:PySem.W.mroIn K C (.type "object")=some true):TyOf K H (.ref a) (.ref C)
theorem Zkz {x:V}{u t:Value} (I:Inv X pins σ H s) (rx:RelV x u) (ty:TyOf X.K H x t) (e:PySem.W.kitOne X.K t c=some b) (h:∀ tk,Q (.bool b) { s with toks:=tk }) :
  wpAny (model X.prog X.w) A (call (.builtin "isinstance") [u,c]) Q E s:=by
 cases ty with
 |non=>cases (show u=Value.none from rx);exact PySem.W.kia_one PySem.W.kitx_none I.kIn True.intro e (λz=>nomatch z) h
 |bl y=>cases (show u=Value.bool y from rx);exact PySem.W.kia_one PySem.W.kitx_bool I.kIn True.intro e (λz=>nomatch z) h
 |int i=>obtain ⟨t,q⟩:=(show ∃ t,u=Value.int i t from rx);cases q;exact PySem.W.kia_one PySem.W.kitx_int I.kIn True.intro e (λz=>nomatch z) h
 |str y=>obtain ⟨t,q⟩:=(show ∃ t,u=Value.str y t from rx);cases q;exact PySem.W.kia_one PySem.W.kitx_str I.kIn True.intro e (λz=>nomatch z) h
 |flt y=>obtain ⟨t,q⟩:=(show ∃ t,u=Value.float y t from rx);cases q;exact PySem.W.kia_one PySem.W.kitx_float I.kIn True.intro e (λz=>nomatch z) h
 | @lst a xs ea =>
  cases (show u=Value.ref a from rx);obtain ⟨_,_,n,_,h1⟩:=(show ObjOk X.prog X.w H s.heap a (.lst xs) from I.hok a _ ea);exact PySem.W.kia_one PySem.W.kitx_list I.kIn ⟨_,h1,rfl⟩ e (λz=>nomatch z) h
 | @frz a ob xs ea =>
  cases (show u=Value.ref a from rx);obtain ⟨_,_,_,n,_,h1⟩:=(show ObjOk X.prog X.w H s.heap a (.frz ob (.lst xs)) from I.hok a _ ea);exact PySem.W.kia_one PySem.W.kitx_list I.kIn ⟨_,h1,rfl⟩ e (λz=>nomatch z) h
 | @tup a xs ea =>
  cases (show u=Value.ref a from rx);obtain ⟨_,_,_,p⟩:=(show ObjOk X.prog X.w H s.heap a (.tup xs) from I.hok a _ ea);obtain ⟨o,h1,h2,_⟩:=p;exact PySem.W.kia_one PySem.W.kitx_tuple I.kIn ⟨o,h1,h2⟩ e (λz=>nomatch z) h
 | @dK a kvs ea =>
  cases (show u=Value.ref a from rx);obtain ⟨_,_,vs,_,p⟩:=(show ObjOk X.prog X.w H s.heap a (.dK kvs) from I.hok a _ ea);obtain ⟨o,es,ep,h1,h2,_⟩:=p;exact PySem.W.kia_one PySem.W.kitx_dict I.kIn ⟨o,h1,h2.1⟩ e (λz=>nomatch z) h
 | @dT a kvs ea =>
  cases (show u=Value.ref a from rx);obtain ⟨_,_,xs,_,o,es,ep,h1,h2,_⟩:=(show ObjOk X.prog X.w H s.heap a (.dT kvs) from I.hok a _ ea);exact PySem.W.kia_one PySem.W.kitx_dict I.kIn ⟨o,h1,h2.1⟩ e (λz=>nomatch z) h
 | @ins a C dx fs ea cl ha hn htk hm =>
  cases (show u=Value.ref a from rx);obtain ⟨mA,O,_⟩:=ZeL I.hok ea;obtain ⟨od,J,_⟩:=O.look;exact PySem.W.kia_one (PySem.W.kitx_own (cl.get _) cl.hd ha hn htk hm) I.kIn J e (λz=>nomatch z) h
end
open PySem PySem.Spec PyProof.Rows
structure Room (k:Nat) (A:Around):Prop where
 hd:A.handled=none
 dp:A.depth+3 * k+5<recursionLimit
 un:A.units+16 * k+200<cLine
 gd:A.guards=some []
theorem Room.mono {j k:Nat}{A:Around} (r:Room k A) (h:j<=k):Room j A:=⟨r.hd,by have:=r.dp;omega,by have:=r.un;omega,r.gd⟩
theorem Room.deeper {k:Nat}{A:Around} (r:Room (k+1) A) (env:Env):Room k (A.deeper env) :=
 ⟨r.hd,by have:=r.dp;show A.depth+1+3 * k+5<_;omega,by have:=r.un;show A.units+3+16 * k+200<_;omega,r.gd⟩
theorem Ziq {A:Around}{C:Addr}{us:List Value}{kw:List (Str × Value)}:(A.under (.builtin "type.__call__" ⟨.ref C :: us,kw⟩)).depth=A.depth+1:=by
 first | rfl | simp [Around.under,Code.weight,Code.isCreation,Code.isGuard,Code.isCaller,Code.frames,Code.isFrame,guardIds]
theorem Zip {A:Around}{C:Addr}{us:List Value}{kw:List (Str × Value)}:(A.under (.builtin "type.__call__" ⟨.ref C :: us,kw⟩)).units=A.units+1:=by
 first | rfl | simp [Around.under,Code.cUnits,Code.frames,Code.isFrame]
theorem Room.make {k:Nat}{A:Around} (r:Room (k+1) A) (C:Addr) (us:List Value) (kw:List (Str × Value)):Room k (A.under (.builtin "type.__call__" ⟨.ref C :: us,kw⟩)) :=
 ⟨r.hd,by have:=r.dp;rw [Ziq];omega,by have:=r.un;rw [Zip];omega,by first | exact r.gd | (rw [<- r.gd];rfl) | (simp only [Around.under];rw [r.gd];rfl)⟩
theorem Room.depth {k:Nat}{A:Around} (r:Room k A):A.depth<recursionLimit:=by have:=r.dp;omega
theorem Room.units {k:Nat}{A:Around} (r:Room k A):A.units+64<cLine:=by have:=r.un;omega
def tNil:TA:=λ_ H Q=>Q [] H
def Zgb (ta:TE) (tr:TA):TA:=λσ H Q=>ta σ H λx H1=>tr σ H1 λxs H2=>Q (x :: xs) H2
section
variable {X:Cx}{e:Expr}{es:List Expr}{te:TE}{t:TA}{pos:Pos}
theorem Zac:PA X [] tNil:=λ_ _ _ _ H Q I h=>Calls.spliced_nil ⟨[],H,I,.nil,h⟩
theorem Zaa (ha:PE X e te) (hr:PA X es t) (hs:starEach (e :: es) X.env=(false,eval e X.env) :: starEach es X.env:=by rfl):PA X (e :: es) (Zgb te t):=by
 intro pos pins s σ H Q I h;rw [hs];show wpAny _ _ (spliced ((false,eval e X.env) :: backTo pos (starEach es X.env))) _ _ s;refine Calls.spliced_cons (thn (ha pins s σ H _ I h) λu s1 ⟨x,H1,I1,r1,q1⟩=>?_);exact thn (hr pos pins s1 σ H1 _ I1 q1) λus s2 ⟨xs,H2,I2,r2,q2⟩=>⟨x :: xs,H2,I2,.cons r1 r2,q2⟩
def tTup (t:TA):TE:=λσ H Q=>t σ H λxs H1=>xs.length<=sizeLine/\∀ p,H1 p=none->Q (.ref p) (upd H1 p (.tup xs))
def tLst (t:TA):TE:=λσ H Q=>t σ H λxs H1=>xs.length<=sizeLine/\∀ p,H1 p=none->Q (.ref p) (upd H1 p (.lst xs))
theorem ZbE {x1} (h:PA X es t):PE X (.Tuple es x1 pos) (tTup t):=by
 intro pins s σ H Q I hq;refine wpAny_Tuple_spliced (thn (h pos pins s σ H _ I hq) λus s1 ⟨xs,H1,I1,r,z,q⟩=>⟨by rw [<- r.length];exact z,?_⟩);have hf:H1 s1.heap.objs.size=none:=I1.hok.fresh (Yag _);refine ⟨.ref s1.heap.objs.size,upd H1 s1.heap.objs.size (.tup xs),I1.laid (t':=s1.toks) (λb u e=>Yad _ e) (Yag _) ?_,rfl,q _ hf⟩;exact ⟨z,us,r,⟨_,Yao _ rfl,rfl,_,rfl⟩⟩
theorem ZaK (h:PA X es t):PE X (.List es pos) (tLst t):=by
 intro pins s σ H Q I hq;refine wpAny_List_spliced (thn (h pos pins s σ H _ I hq) λus s1 ⟨xs,H1,I1,r,z,q⟩=>⟨by rw [<- r.length];exact z,?_⟩);have hf:H1 s1.heap.objs.size=none:=I1.hok.fresh (Yag _);refine ⟨.ref s1.heap.objs.size,upd H1 s1.heap.objs.size (.lst xs),I1.laid (t':=s1.toks) (λb u e=>Yad _ e) (Yag _) ?_,rfl,q _ hf⟩;exact ⟨z,us,0,r,Yao _ rfl⟩
end
abbrev Sp:=List V->Hp->VK->XK->Prop
abbrev CXT:=List Env->Hp->Shared->XK->Value->Shared->Prop
structure Env0 (P:Program) (w:World) (K:Yab) (mg:Str->Option Value) (base:Heap) (A:Around) (outer:List Env) (s:Shared) (H:Hp):Prop where
 frames:A.frames=some outer
 mod:Mod K mg base
 bs:∀ b o,base.get? b=some o->s.heap.get? b=some o/\H b=none
 bsz:base.objs.size<=s.heap.objs.size
 funs:s.heap.FunFrames base outer
 frf:∀ b∈frs outer,H b=none
 hok:HOk P w H s.heap
 bare:AllBare s.gens
def CE (outer:List Env) (P:Program) (w:World) (H:Hp) (s:Shared) (Q:VK) (u:Value) (s':Shared):Prop :=
 ∃ v H',s'.os=s.os/\AllBare s'.gens/\Un (frs outer) [] H H' s.heap s'.heap/\HOk P w H' s'.heap/\RelV v u/\Q v H'
def CR (CX:CXT) (outer:List Env) (P:Program) (w:World) (H:Hp) (s:Shared) (Q:VK) (E:XK) (r:Result) (s':Shared):Prop :=
 match r with
 | .ok (.ret u)=>CE outer P w H s Q u s'
 | .ok _=>False
 | .error e=>CX outer H s E e s'
structure FnOk (P:Program) (w:World) (K:Yab) (mg:Str->Option Value) (base:Heap) (CX:CXT) (k:Nat) (f:Addr) (fd:FuncData) (ps:List Str) (sp:Sp):Prop where
 len:∀ vs H Q E,sp vs H Q E->vs.length=ps.length
 run:∀ (A:Around) (outer:List Env) (s:Shared) (H:Hp) (args:Args) (us:List Value) (vs:List V) (Q:VK) (E:XK),Room k A->Env0 P w K mg base A outer s H->BindsTo s fd args (ps.zip us)->Vals vs us->sp vs H Q E ->
  codeAny (model P w) A (.call (.ref f) args) (CR CX outer P w H s Q E) s
theorem FnOk.mono {P:Program}{w:World}{K:Yab}{mg:Str->Option Value}{base:Heap}{CX:CXT}{j k:Nat}{f:Addr}{fd:FuncData}{ps:List Str}{sp:Sp} (F:FnOk P w K mg base CX j f fd ps sp) (h:j<=k) :
  FnOk P w K mg base CX k f fd ps sp:=⟨F.len,λA outer s H args us vs Q E hr=>F.run A outer s H args us vs Q E (hr.mono h)⟩
theorem Env0.make {P:Program}{w:World}{K:Yab}{mg:Str->Option Value}{base:Heap}{A:Around}{outer:List Env}{s:Shared}{H:Hp} (e:Env0 P w K mg base A outer s H) (C:Addr) (us:List Value) (kw:List (Str × Value)) :
  Env0 P w K mg base (A.under (.builtin "type.__call__" ⟨.ref C :: us,kw⟩)) outer s H:=⟨by first | exact e.frames | (simpa [Around.under,Code.envs,Code.isFrame,pushEnvs] using e.frames),e.mod,e.bs,e.bsz,e.funs,e.frf,e.hok,e.bare⟩
section
variable {X:Cx}{pins:List (Addr × Obj)}{σ:St}{H:Hp}{s s':Shared}
theorem Inv.env0 (I:Inv X pins σ H s):Env0 X.prog X.w X.K X.mg X.base X.A X.stack s H :=
 ⟨I.ok.frames,I.ok.mod,I.bs,Yay I.ok.bsz I.sz,I.stack,I.stkFree,I.hok,I.bare⟩
theorem Inv.after {Q:VK}{u:Value} (I:Inv X pins σ H s) (h:CE X.stack X.prog X.w H s Q u s'):EP X pins σ Q u s':=by
 obtain ⟨v,H',os,bare,un,hok,r,q⟩:=h;obtain ⟨hh,g,d,t,os'⟩:=s';obtain rfl:os'=s.os:=os;exact ⟨v,H',I.call (h':=hh) (g':=g) (d':=d) (t':=t) (ch:=[]) un hok bare (λb z=>absurd z (by simp)),r,q⟩
end
def Zlo (sp:Sp) (dvs:List V) (E:XK) (t:TA):TE:=λσ H Q=>t σ H λvs H1=>sp (vs ++ dvs) H1 Q E
def Zlm (C:Addr) (m:Str) (sp:Sp) (dvs:List V) (E:XK) (ta:TE) (t:TA):TE:=λσ H Q=>ta σ H λx H1=>∃ a dx fs,x=.ref a/\H1 a=some (.ins C dx fs)/\fs.lookup m=none /\
 t σ H1 λvs H2=>sp (x :: (vs ++ dvs)) H2 Q E
def Zln (C:Addr) (sp:Sp) (dvs:List V) (E:XK) (t:TA):TE:=λσ H Q=>t σ H λvs H1=>∀ x dx,H1 x=none->H1 dx=none->dx≠x ->
 sp (.ref x :: (vs ++ dvs)) (upd (upd H1 dx (.own x)) x (.ins C dx [])) (λv H2=>v=.non/\Q (.ref x) H2) E
def Binds (K:Yab) (fd:FuncData) (ps:List Str) (ds:List Value):Prop :=
 ∀ (s:Shared) (us:List Value),K.In s.heap->(us ++ ds).length=ps.length->BindsTo s fd ⟨us,[]⟩ (ps.zip (us ++ ds))
theorem Binds.all {K:Yab}{fd:FuncData}{ps:List Str} (h:∀ us:List Value,us.length=ps.length->bindArgs fd ⟨us,[]⟩=pure (ps.zip us)):Binds K fd ps []:=λs us _ hl=>by
 rw [List.append_nil] at hl ⊢;exact .of_eq (h us hl)
def ZcP (CX:CXT) (X:Cx) (E:XK):Prop:=∀ (pins:List (Addr × Obj)) (σ:St) (H:Hp) (s:Shared) (e:Value) (s':Shared),Inv X pins σ H s->CX X.stack H s E e s'->X.xe e s'
section
variable {X:Cx}{CX:CXT}{k:Nat}{f C:Addr}{fd:FuncData}{ps:List Str}{sp:Sp}{dvs:List V}{ds:List Value}{E:XK}{x m:Str}{p pos apos:Pos}{e o:Expr}{es:List Expr}{ta:TE}{t:TA}
theorem Zg9 {pins:List (Addr × Obj)}{σ:St}{H:Hp}{s:Shared}{Q:VK}{us:List Value}{vs:List V} (F:FnOk X.prog X.w X.K X.mg X.base CX k f fd ps sp) (hr:Room k X.A) (hb:Binds X.K fd ps ds) (hd:Vals dvs ds) (hx:ZcP CX X E)
  (I:Inv X pins σ H s) (r:Vals vs us) (h:sp (vs ++ dvs) H Q E):wpAny (model X.prog X.w) X.A (call (.ref f) us) (EP X pins σ Q) X.xe s:=by
 have r2:Vals (vs ++ dvs) (us ++ ds):=r.append hd;have hl:(us ++ ds).length=ps.length:=by rw [<- r2.length];exact F.len _ _ _ _ h
 refine wpAny_call (codeAny_mono (F.run X.A X.stack s H ⟨us,[]⟩ (us ++ ds) (vs ++ dvs) Q E hr I.env0 (hb s us I.kIn hl) r2 h) λr s' hq=>?_);cases r with
 |error e=>exact hx pins σ H s e s' I hq
 |ok fl =>
  cases fl with
  |ret u=>exact I.after hq
  |next=>exact False.elim hq
  |brk=>exact False.elim hq
  |cont=>exact False.elim hq
theorem Zn8 (F:FnOk X.prog X.w X.K X.mg X.base CX k f fd ps sp) (hr:Room k X.A) (hg:Gl X x) (hm:X.mg x=some (.ref f)) (hk:PySem.W.keepIn X.K (.ref f)=true) (hb:Binds X.K fd ps ds) (hd:Vals dvs ds) (hx:ZcP CX X E)
  (ha:PA X (e :: es) t) (hdb:(x == ("__debug__" : Str))=false:=by decide) (he:starEach (e :: es) X.env=(false,eval e X.env) :: starEach es X.env:=by rfl) (hpl:(backTo pos (starEach es X.env)).any (·.1)=false:=by rfl) :
  PE X (.Call (.Name x p) (e :: es) [] pos) (Zlo sp dvs E t):=by
 intro pins s σ H Q I h;refine wpAny_Call_Name_kw (ZbQ I hg hm ?_ hdb);refine PySem.W.callWith_K (h₀:=X.base) I.ok.mod.kin hk (thn (ha pos pins s σ H _ I h) λus s1 ⟨vs,H1,I1,r,q⟩=>⟨I1.kIn,?_⟩) he hpl;exact Zg9 F hr hb hd hx I1 r q
theorem ZlZ (F:FnOk X.prog X.w X.K X.mg X.base CX k f fd ps sp) (hr:Room k X.A) (hg:Gl X x) (hm:X.mg x=some (.ref f)) (hk:PySem.W.keepIn X.K (.ref f)=true) (hb:Binds X.K fd ps ds) (hd:Vals dvs ds) (hx:ZcP CX X E)
  (hdb:(x == ("__debug__" : Str))=false:=by decide):PE X (.Call (.Name x p) [] [] pos) (Zlo sp dvs E tNil):=by
 intro pins s σ H Q I h;refine wpAny_Call_Name_kw (ZbQ I hg hm ?_ hdb);exact PySem.W.callWith_K0 I.kIn hk (Zg9 (us:=[]) F hr hb hd hx I .nil h)
theorem Zn6 {pl:Sem Bool} (he:PE X o ta) (c:Cls X.K C) (hm:Meth X.K C m f) (F:FnOk X.prog X.w X.K X.mg X.base CX k f fd ps sp) (hr:Room k X.A) (hb:Binds X.K fd ps ds) (hd:Vals dvs ds) (hx:ZcP CX X E) (ha:PA X (e :: es) t)
  (hst:starEach (e :: es) X.env=(false,eval e X.env) :: starEach es X.env:=by rfl) (hpl:(backTo pos (starEach es X.env)).any (·.1)=false:=by rfl)
  (ht:eval (.Call (.Attribute o m apos) (e :: es) [] pos) X.env=(do
   let ov <- eval o X.env
   standAt apos.atName
   let (f,first) <- holding [ov] (getMethod ov m pl)
   callWith pos f first (backTo pos (starEach (e :: es) X.env)) (backToKw pos (keywordEach [] X.env))):=by rfl) :
  PE X (.Call (.Attribute o m apos) (e :: es) [] pos) (Zlm C m sp dvs E ta t):=by
 intro pins s σ H Q I h;refine PySem.W.methodCall_KW (pl:=pl) (thn (he pins s σ H _ I h) λu s1 ⟨x,H1,I1,rx,a,dx,fs,ex,ea,l,q⟩=>?_) ht;subst ex;obtain rfl:u=Value.ref a:=rx;refine ZcX I1 ea c hm l ?_;refine PySem.W.callWith_K (first:=[.ref a]) (h₀:=X.base) I.ok.mod.kin hm.kp (thn (ha pos pins s1 σ H1 _ I1 q) λus s2 ⟨vs,H2,I2,r,q2⟩=>⟨I2.kIn,?_⟩) hst hpl;exact Zg9 (us:=.ref a :: us) (vs:=.ref a :: vs) F hr hb hd hx I2 (.cons rfl r) q2
theorem ZlS {pl:Sem Bool} (he:PE X o ta) (c:Cls X.K C) (hm:Meth X.K C m f) (F:FnOk X.prog X.w X.K X.mg X.base CX k f fd ps sp) (hr:Room k X.A) (hb:Binds X.K fd ps ds) (hd:Vals dvs ds) (hx:ZcP CX X E)
  (ht:eval (.Call (.Attribute o m apos) [] [] pos) X.env=(do
   let ov <- eval o X.env
   standAt apos.atName
   let (f,first) <- holding [ov] (getMethod ov m pl)
   callWith pos f first (backTo pos (starEach [] X.env)) (backToKw pos (keywordEach [] X.env))):=by rfl) :
  PE X (.Call (.Attribute o m apos) [] [] pos) (Zlm C m sp dvs E ta tNil):=by
 intro pins s σ H Q I h;refine PySem.W.methodCall_KW (pl:=pl) (thn (he pins s σ H _ I h) λu s1 ⟨x,H1,I1,rx,a,dx,fs,ex,ea,l,q⟩=>?_) ht;subst ex;obtain rfl:u=Value.ref a:=rx;refine ZcX I1 ea c hm l ?_;exact PySem.W.callWith_K0 (first:=[.ref a]) I1.kIn hm.kp (Zg9 (us:=[.ref a]) (vs:=[.ref a]) F hr hb hd hx I1 (.cons rfl .nil) q)
structure Mk (K:Yab) (C f:Addr):Prop where
 makes:PySem.W.makesIn K C=true
 init:PySem.W.findIn K (.ref C) "__init__" = some (some (.ref f))
 fn:PySem.W.isFn K (.ref f)=true
 kp:PySem.W.keepIn K (.ref C)=true
theorem Zg8 {pins:List (Addr × Obj)}{σ:St}{H:Hp}{s:Shared}{Q:VK}{us:List Value}{vs:List V} (M:Mk X.K C f) (F:FnOk X.prog X.w X.K X.mg X.base CX k f fd ps sp) (hr:Room (k+1) X.A) (hb:Binds X.K fd ps ds) (hd:Vals dvs ds)
  (hx:ZcP CX X E) (I:Inv X pins σ H s) (r:Vals vs us)
  (h:∀ x dx,H x=none->H dx=none->dx≠x->sp (.ref x :: (vs ++ dvs)) (upd (upd H dx (.own x)) x (.ins C dx [])) (λv H2=>v=.non/\Q (.ref x) H2) E) :
  wpAny (model X.prog X.w) X.A (call (.ref C) us) (EP X pins σ Q) X.xe s:=by
 have hq:=h (s.heap.objs.size+1) s.heap.objs.size (I.hok.fresh (Nat.le_succ _)) (I.hok.fresh (Yag _)) (Yap (Nat.lt_succ_self _));have I2:=Inv.made (C:=C) I;have r2:Vals (V.ref (s.heap.objs.size+1) :: (vs ++ dvs)) (Value.ref (s.heap.objs.size+1) :: (us ++ ds)):=.cons rfl (r.append hd);have hl:(Value.ref (s.heap.objs.size+1) :: us ++ ds).length=ps.length:=by
  have e:=r2.length;rw [F.len _ _ _ _ hq] at e;exact e.symm
 refine wpAny_call (Zmk (f:=f) I.kIn M.makes M.init (beq_iff_eq.mp M.fn) (codeAny_mono (F.run _ X.stack _ _ ⟨Value.ref (s.heap.objs.size+1) :: us,[]⟩ (Value.ref (s.heap.objs.size+1) :: (us ++ ds)) _ _ E (hr.make C us [])
  (I2.env0.make C us []) (hb _ (Value.ref (s.heap.objs.size+1) :: us) I2.kIn hl) r2 hq) λr s' hq'=>?_))
 cases r with
 |error e=>exact hx pins σ _ _ e s' I2 hq'
 |ok fl =>
  cases fl with
  |ret u =>
   obtain ⟨v,H',I3,rv,ev,q3⟩:=I2.after hq';subst ev;exact ⟨rv,⟨V.ref (s.heap.objs.size+1),H',I3,rfl,q3⟩⟩
  |next=>exact False.elim hq'
  |brk=>exact False.elim hq'
  |cont=>exact False.elim hq'
theorem Zn7 (M:Mk X.K C f) (F:FnOk X.prog X.w X.K X.mg X.base CX k f fd ps sp) (hr:Room (k+1) X.A) (hg:Gl X x) (hm:X.mg x=some (.ref C)) (hb:Binds X.K fd ps ds) (hd:Vals dvs ds) (hx:ZcP CX X E)
  (ha:PA X (e :: es) t) (hdb:(x == ("__debug__" : Str))=false:=by decide) (he:starEach (e :: es) X.env=(false,eval e X.env) :: starEach es X.env:=by rfl) (hpl:(backTo pos (starEach es X.env)).any (·.1)=false:=by rfl) :
  PE X (.Call (.Name x p) (e :: es) [] pos) (Zln C sp dvs E t):=by
 intro pins s σ H Q I h;refine wpAny_Call_Name_kw (ZbQ I hg hm ?_ hdb);refine PySem.W.callWith_K (h₀:=X.base) I.ok.mod.kin M.kp (thn (ha pos pins s σ H _ I h) λus s1 ⟨vs,H1,I1,r,q⟩=>⟨I1.kIn,?_⟩) he hpl;exact Zg8 M F hr hb hd hx I1 r q
theorem ZlT (M:Mk X.K C f) (F:FnOk X.prog X.w X.K X.mg X.base CX k f fd ps sp) (hr:Room (k+1) X.A) (hg:Gl X x) (hm:X.mg x=some (.ref C)) (hb:Binds X.K fd ps ds) (hd:Vals dvs ds) (hx:ZcP CX X E)
  (hdb:(x == ("__debug__" : Str))=false:=by decide):PE X (.Call (.Name x p) [] [] pos) (Zln C sp dvs E tNil):=by
 intro pins s σ H Q I h;refine wpAny_Call_Name_kw (ZbQ I hg hm ?_ hdb);exact PySem.W.callWith_K0 I.kIn M.kp (Zg8 (us:=[]) M F hr hb hd hx I .nil h)
end
section
variable {X:Cx}{CX:CXT}{k:Nat}{f C:Addr}{fd:FuncData}{ps ks:List Str}{sp:Sp}{E:XK}{x m:Str}{p pos apos kpos:Pos}{e o:Expr}{es:List Expr}{kws:List Keyword}{te ta:TE}{t tk:TA}{nm:Option Str}
variable {g:List Value->List Value->List Value}{gV:List V->List V->List V}
end
structure FnScope (N P:List Str) (sc:Scope):Prop where
 kind:sc.kind=.function
 co:sc.isCoroutine=false
 gen:sc.isGenerator=false
 nd:N.Nodup
 pre:N.take P.length=P
 par:∀ x∈P,sc.names.lookup x=some .local\/sc.names.lookup x=some .cell
 nofree:∀ y∈sc.names,y.2≠.free
theorem Zf5 {kindOf:Str->Option NameKind}{x:Str}:∀ {binds:List (Str × Value)}{m:Str->Option Value},(∀ v,(x,v)∉binds)->bindL kindOf binds m x=m x
 | [],_,_=>rfl
 | (n,v) :: r,m,h=>by
  unfold bindL;rw [Zf5 λw hw=>h w (Yas _ hw)];split
  ·have:x≠n:=by rintro rfl;exact h v YaM
   simp [this]
  ·rfl
theorem Zf7 {kindOf:Str->Option NameKind}{x:Str}:∀ {binds:List (Str × Value)}{m:Str->Option Value},(∀ v,(x,v)∉binds)->bindC kindOf binds m x=m x
 | [],_,_=>rfl
 | (n,v) :: r,m,h=>by
  unfold bindC;rw [Zf7 λw hw=>h w (Yas _ hw)];split
  ·rfl
  ·have:x≠n:=by rintro rfl;exact h v YaM
   simp [this]
theorem Zf6 {kindOf:Str->Option NameKind}{x:Str}{v:Value}:∀ {P:List Str}{vs:List Value}{i:Nat}{m:Str->Option Value},P.Nodup->P[i]? = some x->vs[i]? = some v->kindOf x=some .local ->
  bindL kindOf (P.zip vs) m x=some v
 | [],_,_,_,_,h,_,_=>by simp at h
 |_ :: _,[],_,_,_,_,h,_=>by simp at h
 |p :: P,w :: vs,0,m,nd,h1,h2,hk=>by
  simp at h1 h2;subst h1;subst h2;show bindL kindOf ((p,w) :: P.zip vs) m p=_;unfold bindL;rw [Zf5 λv hv=>(Yba.mp nd).1 (List.of_mem_zip hv).1,Ya7 hk];simp
 |p :: P,w :: vs,i+1,m,nd,h1,h2,hk=>by
  show bindL kindOf ((p,w) :: P.zip vs) m x=_;unfold bindL;exact Zf6 (i:=i) (Yba.mp nd).2 (by simpa using h1) (by simpa using h2) hk
theorem Zf8 {kindOf:Str->Option NameKind}{x:Str}{v:Value}:∀ {P:List Str}{vs:List Value}{i:Nat}{m:Str->Option Value},P.Nodup->P[i]? = some x->vs[i]? = some v->kindOf x≠some .local ->
  bindC kindOf (P.zip vs) m x=some v
 | [],_,_,_,_,h,_,_=>by simp at h
 |_ :: _,[],_,_,_,_,h,_=>by simp at h
 |p :: P,w :: vs,0,m,nd,h1,h2,hk=>by
  simp at h1 h2;subst h1;subst h2;show bindC kindOf ((p,w) :: P.zip vs) m p=_;unfold bindC;rw [Zf7 λv hv=>(Yba.mp nd).1 (List.of_mem_zip hv).1,Ya6 hk];simp
 |p :: P,w :: vs,i+1,m,nd,h1,h2,hk=>by
  show bindC kindOf ((p,w) :: P.zip vs) m x=_;unfold bindC;exact Zf8 (i:=i) (Yba.mp nd).2 (by simpa using h1) (by simpa using h2) hk
def Zdc (N:List Str) (vs:List V):St:=vs.map some ++ List.replicate (N.length - vs.length) none
def cxOf (CX:CXT) (P:Program) (w:World) (K:Yab) (mg:Str->Option Value) (base:Heap) (N:List Str) (qual:Str) (scope:Scope) (f:Addr) (cd:Value) (A:Around) (outer:List Env) (s:Shared) (H:Hp) (E:XK):Cx where
 prog:=P
 w:=w
 K:=K
 mg:=mg
 base:=base
 A:=A.deeper (envOfC qual scope s.heap.objs.size f cd)
 N:=N
 s₀:=s
 H₀:=H
 env:=envOfC qual scope s.heap.objs.size f cd
 outer:=outer
 stack:=envOfC qual scope s.heap.objs.size f cd :: outer
 ex:=[]
 calm:=true
 fn:=λ_=>true
 pn:=[]
 xe:=λe s'=>wpAny (model P w) (A.deeper (envOfC qual scope s.heap.objs.size f cd)) (leaving (envOfC qual scope s.heap.objs.size f cd) e) (λ_ s''=>CX outer H s E e s'') (λe' s''=>CX outer H s E e' s'') s'
theorem ZhS {sc:Scope}{n:Nat}{x:Str} (h:sc.names.lookup x=some .cell):∃ c,(cellsFrom n sc.names []).lookup x=some c:=by
 have q:=PySem.W.cellsFrom_some sc.names n [] (.inl h);exact Option.isSome_iff_exists.mp q
theorem ZkA {CX:CXT}{P:Program}{w:World}{K:Yab}{mg:Str->Option Value}{base:Heap}{N ps:List Str}{qual:Str}{scope:Scope}{f:Addr}{cd:Value}{A:Around}{outer:List Env}{s s1:Shared}{H:Hp}{E:XK}{us:List Value}{vs:List V}
  (S:FnScope N ps scope) (hd:A.handled=none) (e0:Env0 P w K mg base A outer s H) (hl:vs.length=ps.length) (r:Vals vs us)
  (x:InCallC s s.heap.objs.size (bindL (envOfC qual scope s.heap.objs.size f cd).kindOf (ps.zip us) λ_=>none) (cellsFrom (s.heap.objs.size+1) scope.names []) (bindC (envOfC qual scope s.heap.objs.size f cd).kindOf (ps.zip us) λ_=>none) s1) :
  Inv (cxOf CX P w K mg base N qual scope f cd A outer s H E) [] (Zdc N vs) H s1:=by
 have hpl:ps.length<=N.length:=by have:=congrArg List.length S.pre;rw [YaR] at this;omega
 obtain ⟨h1,tk,rfl,hk⟩:=x.done;have noA:∀ b:Addr,b∉(cxOf CX P w K mg base N qual scope f cd A outer s H E).ex:=λb z=>absurd (show b∈([]:List Addr) from z) (by simp);refine ⟨⟨e0.mod,S.kind,rfl,rfl,Yag _,λy z c h1 h2=>?_,λy hy=>?_,λy c _ h=>?_,λ_=>hd,Around.frames_deeper e0.frames,.inr ⟨rfl,rfl⟩,λb z=>absurd z (noA b),e0.bs,e0.bsz,λb _ _=>noA b,λb z=>absurd z (noA b),e0.funs,e0.frf⟩,
  rfl,e0.bare,Un.kept hk,⟨_,x.toInCall.ns,λi y v h1 h2 h3=>?_⟩,λy c h=>⟨_,x.cell y c h⟩,e0.hok.fresh (Yag _),λy c h=>?_,λp hp=>absurd (show p∈([]:List (Addr × Obj)) from hp) (by simp),e0.hok.kept hk,?_⟩
 ·exact name_of_addr x.apart (PySem.mem_of_lookup h1) (PySem.mem_of_lookup h2)
 ·have hy:scope.names.lookup y=some .cell\/scope.names.lookup y=some .free:=hy;rcases hy with hy | hy
  ·exact ZhS hy
  ·exact absurd rfl (S.nofree _ (PySem.mem_of_lookup hy))
 ·exact Nat.le_of_lt (x.above y c (PySem.mem_of_lookup h))
 ·have hi:i<vs.length:=by
   unfold Zdc at h2
   by_cases hi:i<vs.length
   ·exact hi
   ·rw [List.getElem?_append_right (by simpa using hi)] at h2;rw [List.getElem?_replicate] at h2;split at h2 <;> cases h2
  have ha:vs[i]? = some v:=by
   unfold Zdc at h2;rw [List.getElem?_append_left (by simpa using hi),Yaf] at h2;cases e:vs[i]? with
   |none=>rw [e] at h2;cases h2
   |some a=>rw [e] at h2;cases h2;rfl
  obtain ⟨u,hu,rv⟩:=r.get ha;have hp:ps[i]? = some y:=by
   rw [<- S.pre,List.getElem?_take_of_lt (by omega)];exact h1
  have ndP:ps.Nodup:=by rw [<- S.pre];exact S.nd.sublist (List.take_sublist _ _)
  refine ⟨u,rv,?_⟩;rcases S.par y (YaP hp) with k | k
  ·exact .inl ⟨k,Zf6 ndP hp hu k⟩
  ·obtain ⟨c,e⟩:=ZhS (n:=s.heap.objs.size+1) k;refine .inr ⟨.inl k,c,e,?_⟩;have q:=x.cell y c e;rw [Zf8 ndP hp hu (by show scope.names.lookup y≠_;rw [k];decide)] at q;exact q
 ·exact e0.hok.fresh (Nat.le_of_lt (x.above y c (PySem.mem_of_lookup h)))
 ·unfold Zdc;show _=N.length;rw [Yak,Yaa,List.length_replicate];omega
theorem ZoP {CX:CXT}{P:Program}{w:World}{K:Yab}{mg:Str->Option Value}{base:Heap}{k:Nat}{f:Addr}{name qual:Str}{params:Arguments}{body:List Stmt}{scope:Scope}{dV kV doc pm cdv ct oc:Value}{an od:Option Addr}
  {osl:Array (Option Value)}{N ps:List Str}{sp:Sp} (lk:K.lookup f=some ⟨oc,od,.func (PySem.W.fnOf name qual params body scope dV kV doc pm an cdv ct),osl⟩) (hcd:PySem.W.codeIn K cdv qual=true) (S:FnScope N ps scope)
  (len:∀ vs H Q E,sp vs H Q E->vs.length=ps.length)
  (hbody:∀ (A:Around) (outer:List Env) (s:Shared) (H:Hp) (vs:List V) (Q:VK) (E:XK),Room k (A.deeper (envOfC qual scope s.heap.objs.size f cdv))->sp vs H Q E ->
   ∃ t,PSs (cxOf CX P w K mg base N qual scope f cdv A outer s H E) body t/\t { nx:=λ_ H'=>Q .non H',rt:=Q } (Zdc N vs) H) :
  FnOk P w K mg base CX (k+1) f (PySem.W.fnOf name qual params body scope dV kV doc pm an cdv ct) ps sp:=by
 refine ⟨len,λA outer s H args us vs Q E hr e0 hb r hsp=>?_⟩;have hl:=len _ _ _ _ hsp;have KX:K.In s.heap:=e0.mod.kin.keeps λb o e=>(e0.bs b o e).1;have lim:s.heap.NoLimit:=e0.mod.nolimit.keeps λb o e=>(e0.bs b o e).1;have hkind:∀ y∈ps.zip us,scope.names.lookup y.1=some .local\/(scope.names.lookup y.1=some .cell/\((cellsFrom (s.heap.objs.size+1) scope.names []).lookup y.1).isSome=true):=λ⟨n,v⟩ hy=>by
  rcases S.par n (List.of_mem_zip hy).1 with q | q
  ·exact .inl q
  ·exact .inr ⟨q,PySem.W.cellsFrom_some _ _ _ (.inl q)⟩
 refine codeAny_call_function hr.depth (KX _ _ lk) rfl S.co S.gen rfl (PySem.W.codeRec_of KX hcd) (hb _ _ _ _ ?_);refine wpAny_newFunctionEnv_cells S.kind hkind λenv he s1 x=>?_;subst he;refine ⟨lim.keeps x.toInCall.keep,codeAny_func ?_⟩;obtain ⟨t,ht,hq⟩:=hbody A outer s H vs Q E (hr.deeper _) hsp;have I:Inv (cxOf CX P w K mg base N qual scope f cdv A outer s H E) [] (Zdc N vs) H s1:=ZkA S hr.hd e0 hl r x;refine Ya9 (ht [] s1 (Zdc N vs) H _ I hq) (λfl s' hs=>?_) λe s' hs=>hs;have fin:∀ {σ':St}{H':Hp}{v:V}{u:Value},Inv (cxOf CX P w K mg base N qual scope f cdv A outer s H E) [] σ' H' s'->RelV v u->Q v H'->CE outer P w H s Q u s' :=
  λ{σ' H' v u} J rv q=>⟨v,H',J.os,J.bare,J.base,J.hok,rv,q⟩
 cases fl with
 |ret u =>
  obtain ⟨v,σ',H',J,rv,q⟩:=hs;exact fin J rv q
 |next =>
  obtain ⟨σ',H',J,q⟩:=hs;exact fin (v:=V.non) (u:=Value.none) J rfl q
 |brk =>
  obtain ⟨_,_,_,q⟩:=hs;exact False.elim q
 |cont =>
  obtain ⟨_,_,_,q⟩:=hs;exact False.elim q
open PySem PySem.Spec PyProof.Rows
section
variable {X:Cx}{x:Str}{p pos:Pos}{e:Expr}{es:List Expr}{t:TA}{id T:String}{r:List V->Hp->VK->Prop}
def tCB (r:List V->Hp->VK->Prop) (t:TA):TE:=λσ H Q=>t σ H λvs H1=>r vs H1 Q
theorem ZlY (hc:Zbv X (.builtin id) r) (hg:Gl X x) (hm:X.mg x=none) (hv:bootBuiltins x=some (.builtin id)) (ha:PA X (e :: es) t) (hn:x ≠ "__name__" := by decide) (hdb:(x == ("__debug__" : Str))=false:=by decide)
  (he:starEach (e :: es) X.env=(false,eval e X.env) :: starEach es X.env:=by rfl) (hpl:(backTo pos (starEach es X.env)).any (·.1)=false:=by rfl):PE X (.Call (.Name x p) (e :: es) [] pos) (tCB r t):=by
 intro pins s σ H Q I h;refine wpAny_Call_Name_kw (Zcr I hg hm hv ?_ hn hdb);exact PyProof.Rows.callWith_builtin1 (thn (ha pos pins s σ H _ I h) λus s1 ⟨vs,H1,I1,r1,q1⟩=>hc pins s1 σ H1 vs us Q I1 r1 q1) he hpl
theorem ZjB (hc:Zbv X (.type T) r) (hg:Gl X x) (hm:X.mg x=none) (hv:bootBuiltins x=some (.type T)) (ha:PA X (e :: es) t) (hn:x ≠ "__name__" := by decide) (hdb:(x == ("__debug__" : Str))=false:=by decide)
  (he:starEach (e :: es) X.env=(false,eval e X.env) :: starEach es X.env:=by rfl) (hpl:(backTo pos (starEach es X.env)).any (·.1)=false:=by rfl):PE X (.Call (.Name x p) (e :: es) [] pos) (tCB r t):=by
 intro pins s σ H Q I h;refine wpAny_Call_Name_kw (Zcr I hg hm hv ?_ hn hdb);exact PyProof.Rows.callWith_type1 (thn (ha pos pins s σ H _ I h) λus s1 ⟨vs,H1,I1,r1,q1⟩=>hc pins s1 σ H1 vs us Q I1 r1 q1) he hpl
end
end L2
namespace HT
open PySem PyProof.Rows
def lexLt:List Int->List Int->Bool
 | [],[]=>false
 | [],_ :: _=>true
 |_ :: _,[]=>false
 |x :: xs,y :: ys=>if x=y then lexLt xs ys else decide (x<y)
theorem lexLt_cons (x y:Int) (xs ys:List Int):lexLt (x :: xs) (y :: ys)=if x=y then lexLt xs ys else decide (x<y):=rfl
theorem lexLt_nil_nil:lexLt [] []=false:=rfl
theorem lexLt_nil_cons (y:Int) (ys:List Int):lexLt [] (y :: ys)=true:=rfl
theorem lexLt_cons_nil (x:Int) (xs:List Int):lexLt (x :: xs) []=false:=rfl
section
open PySem.SeqAt
open PySem.AutoSeq1 (wpAny_loadPart')
open PySem.MeetsSeq PySem.MeetsSeq2 PySem.MeetsSeq3
end
section
variable {prog:Program}{w:World}{A:Around}{E:Value->Shared->Prop}{s:Shared}
def sIx (n d:Nat):Option Int->Nat
 |none=>d
 |some v=>if v<0 then (v+(n:Int)).toNat else min v.toNat n
theorem sIx_none (n d:Nat):sIx n d none=d:=rfl
theorem sIx_nat (n d k:Nat):sIx n d (some (k:Int))=min k n:=by
 show (if (k:Int)<0 then ((k:Int)+(n:Int)).toNat else min (k:Int).toNat n)=min k n;rw [Ya6 (by omega),Yav]
end
end HT
namespace L2
open PySem PySem.Spec PyProof.Rows
abbrev TO:=St->Hp->(Option Int->Hp->Prop)->Prop
def PO (X:Cx) (e:Option Expr) (t:TO):Prop :=
 ∀ (pins:List (Addr × Obj)) (s:Shared) (σ:St) (H:Hp) (Q:Option Int->Hp->Prop),Inv X pins σ H s->t σ H Q ->
  wpAny (model X.prog X.w) X.A (evalPart e X.env) (λu s'=>∃ o H',Inv X pins σ H' s'/\IsPart u o/\Q o H') X.xe s
def ZnC:TO:=λ_ H Q=>Q none H
def Zrm (t:TE):TO:=λσ H Q=>t σ H λx H1=>∃ i,x=.int i/\Q (some i) H1
section
variable {X:Cx}{e:Expr}{te:TE}{lo hi:Option Expr}{tl th:TO}{pos p2:Pos}
theorem ZcV:PO X none ZnC:=by
 intro pins s σ H Q I h;rw [evalPart_none];exact Ya8 ⟨none,H,I,.none,h⟩
theorem ZcU (h:PE X e te):PO X (some e) (Zrm te):=by
 intro pins s σ H Q I hw;rw [evalPart_some];refine thn (h pins s σ H _ I hw) λu s1 ⟨x,H1,I1,r1,q1⟩=>?_;obtain ⟨i,rfl,q⟩:=q1;obtain ⟨t,rfl⟩:=r1;exact ⟨some i,H1,I1,.int i t,q⟩
def SlR (X:Cx) (r:V->Option Int->Option Int->Hp->VK->Prop):Prop :=
 ∀ (pins:List (Addr × Obj)) (s:Shared) (σ:St) (H:Hp) (x:V) (v vl vu:Value) (lo hi:Option Int) (sl:Addr) (Q:VK),Inv X pins σ H s->RelV x v->s.heap.IsSliceOf sl vl vu .none->IsPart vl lo->IsPart vu hi->r x lo hi H Q ->
  ∃ T id,typeLookup (.type T) "__getitem__" = pure (some (.builtin id))/\s.TypeIs v T/\wpAny (model X.prog X.w) X.A (getItem v (.ref sl)) (EP X pins σ Q) X.xe s
def tSl (r:V->Option Int->Option Int->Hp->VK->Prop) (te:TE) (tl th:TO):TE:=λσ H Q=>te σ H λx H1=>tl σ H1 λl H2=>th σ H2 λu H3=>r x l u H3 Q
theorem Zcf {r:V->Option Int->Option Int->Hp->VK->Prop} (hr:SlR X r) (he:PE X e te) (hl:PO X lo tl) (hu:PO X hi th):PE X (.Subscript e (.Slice lo hi none p2) pos) (tSl r te tl th):=by
 intro pins s σ H Q I h;refine Subscript_ (thn (he pins s σ H _ I h) λv s1 ⟨x,H1,I1,r1,q1⟩=>?_);refine wpAny_Slice (thn (hl pins s1 σ H1 _ I1 q1) λvl s2 ⟨l,H2,I2,pl,q2⟩=>thn (hu pins s2 σ H2 _ I2 q2) λvu s3 ⟨u,H3,I3,pu,q3⟩=>?_);rw [evalPart_none];refine Ya8 ?_;have I4:Inv X pins σ H3 { s3 with heap:=s3.heap.push { cls:=.type "slice",data:=.fields #[vl,vu,.none] } }:=I3.kept (t':=s3.toks) λb ob q=>Yad _ q;obtain ⟨T,id,hT,ht,hg⟩:=hr pins { s3 with heap:=s3.heap.push { cls:=.type "slice",data:=.fields #[vl,vu,.none] } } σ H3 x v vl vu l u s3.heap.objs.size Q I4 r1 (Heap.IsSliceOf.new ..) pl pu q3;show wpAny (model X.prog X.w) X.A (subscriptTail e (.Slice lo hi none p2) v (.ref s3.heap.objs.size)) (EP X pins σ Q) X.xe { s3 with heap:=s3.heap.push { cls:=.type "slice",data:=.fields #[vl,vu,.none] } };exact tail_any (ops:=[.ref s3.heap.objs.size,v]) ht hT hg (by with_unfolding_all rfl)
def cutV (xs:List V) (lo hi:Option Int):List V:=(xs.drop (HT.sIx xs.length 0 lo)).take (HT.sIx xs.length xs.length hi - HT.sIx xs.length 0 lo)
theorem ZgG (xs:List V) (lo hi:Option Int):(cutV xs lo hi).length<=xs.length:=by
 unfold cutV;rw [YaR,List.length_drop];omega
end
open PySem PySem.Spec PyProof.Rows
def ixN (n:Nat) (i:Int):Option Nat:=if 0<=i then (if i<n then some i.toNat else none) else if -(n:Int)<=i then some (i+n).toNat else none
def atI {α:Type} (xs:List α) (i:Int):Option α:=(ixN xs.length i).bind λj=>xs[j]?
theorem Zky {n:Nat}{i:Int}{j:Nat} (h:ixN n i=some j):seqIndex? i n=some j/\j<n/\-(n:Int)<=i/\i<n:=by
 unfold ixN at h
 by_cases h0:0<=i
 ·rw [Ya7 h0] at h
  by_cases h1:i<n
  ·rw [Ya7 h1] at h;have e:i.toNat=j:=Yae h;exact ⟨by rw [seqIndex_of h0 h1,e],by omega,by omega,h1⟩
  ·rw [Ya6 h1] at h;cases h
 ·rw [Ya6 h0] at h
  by_cases h1:-(n:Int)<=i
  ·rw [Ya7 h1] at h;have e:(i+n).toNat=j:=Yae h;exact ⟨by rw [seqIndex_neg (by omega) h1,e],by omega,h1,by omega⟩
  ·rw [Ya6 h1] at h;cases h
theorem ZgL {α:Type}{xs:List α}{i:Int}{v:α} (h:atI xs i=some v):∃ j,seqIndex? i xs.length=some j/\xs[j]? = some v/\j<xs.length/\-(xs.length:Int)<=i/\i<xs.length:=by
 unfold atI at h;cases e:ixN xs.length i with
 |none=>rw [e] at h;cases h
 |some j =>
  rw [e] at h;obtain ⟨h1,h2,h3,h4⟩:=Zky e;exact ⟨j,h1,h,h2,h3,h4⟩
theorem Zbu {α:Type}{xs:List α}{j:Nat}{v:α} (h:xs[j]? = some v):atI xs (j:Int)=some v:=by
 have hj:j<xs.length:=(Yai.mp h).1;have e:ixN xs.length (j:Int)=some j:=by
  unfold ixN;rw [Ya7 (by omega),Ya7 (by omega)];simp
 unfold atI;rw [e];exact h
def Zo7 (b:Expr):Prop:=∀ o i,subscripted b false o i=operate [o,i] (getItem o i)
def IxR (X:Cx) (r:R2):Prop :=
 ∀ (value slice:Expr) (pins:List (Addr × Obj)) (s:Shared) (σ:St) (H:Hp) (x y:V) (v u:Value) (Q:VK),Inv X pins σ H s->RelV x v->RelV y u->r x y H Q ->
  subscripted slice false v u=operate [v,u] (getItem v u)->wpAny (model X.prog X.w) X.A (subscriptTail value slice v u) (EP X pins σ Q) X.xe s
def MtR (X:Cx) (id:String) (r:V->List V->Hp->VK->Prop):Prop :=
 ∀ (pins:List (Addr × Obj)) (s:Shared) (σ:St) (H:Hp) (x:V) (xs:List V) (v:Value) (us:List Value) (Q:VK),Inv X pins σ H s->RelV x v->Vals xs us->r x xs H Q ->
  wpAny (model X.prog X.w) X.A (call (.builtin id) (v :: us)) (EP X pins σ Q) X.xe s
section
variable {X:Cx}{a b:Expr}{ta tb:TE}{pos:Pos}
theorem Zar {r:R2} (hr:IxR X r) (ha:PE X a ta) (hb:PE X b tb) (hs:Zo7 b):PE X (.Subscript a b pos) (tOp r ta tb):=by
 intro pins s σ H Q I h;exact Subscript_ (binT ha hb I h λv u s2 x y H2 I2 rx ry q=>hr a b pins s2 σ H2 x y v u Q I2 rx ry q (hs _ _))
def rIxL (K:Yab):R2:=λx y H Q=>∃ p xs i v,x=.ref p/\y=.int i/\SqL K H p xs/\atI xs i=some v/\Q v H
def rIxT (K:Yab):R2:=λx y H Q=>∃ p xs i v,x=.ref p/\y=.int i/\SqT K H p xs/\atI xs i=some v/\Q v H
def rIxS:R2:=λx y H Q=>∃ z i c,x=.str z/\y=.int i/\z.length<=sizeLine/\atI z.cps.toList i=some c/\Q (.str ⟨#[c]⟩) H
theorem Zan:IxR X (rIxL X.K):=by
 intro value slice pins s σ H x y v u Q I rx ry h hs;obtain ⟨p,xs,i,z,rfl,rfl,hq,he,q⟩:=h;cases rx;obtain ⟨t,rfl⟩:=ry;obtain ⟨its,r,pl,hz⟩:=I.list hq;obtain ⟨j,h1,h2,h3,h4,h5⟩:=ZgL he;obtain ⟨w,ew,rw'⟩:=r.get h2;have hl:=r.length;have hn:=ZdH;have fin:EP X pins σ Q w s:=⟨z,H,I,rw',q⟩
 by_cases h0:0<=i
 ·have hj:i.toNat=j:=by
   rw [seqIndex_of h0 h5] at h1;exact Yae h1
  exact item_listR pl.isList h0 (by omega) (by rw [hj];simpa using ew) fin hs
 ·have hj:(i+(its.toArray.size:Int)).toNat=j:=by
   rw [seqIndex_neg (by omega) h4] at h1;rw [Yam,<- hl];exact Yae h1
  exact subscriptTail_builtinR (x:=w) pl.isList.typeIs slot_list_getitem.lookup
   (wpAny_getItem_list_neg (Q:=λr s'=>r=w/\EP X pins σ Q r s') pl.isList (by omega) (by rw [Yam] <;> omega) (by omega) (by rw [hj];simpa using ew) ⟨rfl,fin⟩) hs
theorem ZbJ:IxR X (rIxT X.K):=by
 intro value slice pins s σ H x y v u Q I rx ry h hs;obtain ⟨p,xs,i,z,rfl,rfl,hq,he,q⟩:=h;cases rx;obtain ⟨t,rfl⟩:=ry;obtain ⟨its,r,pl,hz⟩:=I.tuple hq;obtain ⟨j,h1,h2,h3,h4,h5⟩:=ZgL he;obtain ⟨w,ew,rw'⟩:=r.get h2;have hl:=r.length;have hn:=ZdH;have fin:EP X pins σ Q w s:=⟨z,H,I,rw',q⟩;exact subscriptTail_builtinR (x:=w) pl.typeIs slot_tuple_getitem.lookup
  (getItem_tuple (j:=j) (Q:=λr s'=>r=w/\EP X pins σ Q r s') pl (by omega) (by omega) (by rw [Yam,<- hl];exact h1) (by simpa using ew) ⟨rfl,fin⟩) hs
theorem Zkx:IxR X rIxS:=by
 intro value slice pins s σ H x y v u Q I rx ry h hs;obtain ⟨z,i,c,rfl,rfl,hz,he,q⟩:=h;obtain ⟨t,rfl⟩:=rx;obtain ⟨t',rfl⟩:=ry;obtain ⟨j,h1,h2,h3,h4,h5⟩:=ZgL he;have hl:z.cps.toList.length=z.length:=by simp [Str.length]
 rw [hl] at h1 h4 h5;have hn:=ZdH;exact tail_any (typeIs_str s z t) slot_str_getitem.lookup (getItem_str (c:=c) (by
  have e1:decide (i < -(2 ^ 63:Int))=false:=Ya5 (by omega);have e2:decide (i ≥ 2 ^ 63)=false:=Ya5 (by omega)
  rw [e1,e2,Bool.or_false]) (by rw [h1];simpa using h2) ⟨.str ⟨#[c]⟩,H,I.tok _,⟨_,rfl⟩,q⟩) hs
theorem Zio (its:List Value) (n j:Nat) (u:Value):Obj.mapSeq (·.setIfInBounds j u) { cls:=.type "list",data:=.seq its.toArray n }={ cls:=.type "list",data:=.seq (its.set j u).toArray n }:=by
 simp [Obj.mapSeq]
theorem Inv.lst {pins:List (Addr × Obj)}{σ:St}{H:Hp}{s:Shared}{p:Addr}{xs:List V} (I:Inv X pins σ H s) (h:H p=some (.lst xs)) :
  ∃ (its:List Value) (n:Nat),Vals xs its/\s.heap.get? p=some { cls:=.type "list",data:=.seq its.toArray n }/\xs.length<=sizeLine:=by
 obtain ⟨z,its,n,r,e⟩:=I.hok p _ h;exact ⟨its,n,r,e,z⟩
theorem Inv.lstUpd {pins:List (Addr × Obj)}{σ:St}{H:Hp}{s:Shared}{p:Addr}{xs ys:List V}{its its':List Value}{n n':Nat}{f:Obj->Obj} (I:Inv X pins σ H s) (h:H p=some (.lst xs))
  (ho:s.heap.get? p=some { cls:=.type "list",data:=.seq its.toArray n }) (hf:f { cls:=.type "list",data:=.seq its.toArray n }={ cls:=.type "list",data:=.seq its'.toArray n' }) (r:Vals ys its') (hz:ys.length<=sizeLine) (t:Nat) :
  Inv X pins σ (upd H p (.lst ys)) { s with heap:=s.heap.update p f,toks:=t }:=by
 have e:(s.heap.update p f).get? p=some { cls:=.type "list",data:=.seq its'.toArray n' }:=by
  rw [Heap.get?_update_self f ho (by rw [hf] <;> rfl),hf]
 refine I.write (x:=p) (e:=p) (by rw [h];trivial) (.inl rfl) (λb u hb q=>(Heap.get?_update_other _ _ (Ne.symm hb)).trans q) ⟨_,e⟩ ?_;exact ⟨hz,its',n',r,e⟩
def ZrA:V->V->V->Hp->(Hp->Prop)->Prop:=λo i v H Q=>∃ p xs k j,o=.ref p/\i=.int k/\H p=some (.lst xs)/\ixN xs.length k=some j/\Q (upd H p (.lst (xs.set j v)))
theorem ZbO:PSet X ZrA:=by
 intro pins s σ H o i v ov iv u Q I ro ri rv h;obtain ⟨p,xs,k,j,rfl,rfl,hp,hj,q⟩:=h;cases ro;obtain ⟨t,rfl⟩:=ri;obtain ⟨its,n,r,ho,hz⟩:=I.lst hp;obtain ⟨h1,h2,h3,h4⟩:=Zky hj;have hl:=r.length;have hn:=ZdH;have I':Inv X pins σ (upd H p (.lst (xs.set j v))) { s with heap:=s.heap.update p (Obj.mapSeq (·.setIfInBounds j u)) } :=
  I.lstUpd hp ho (Zio its n j u) (r.set rv j) (by rw [YaK];exact hz) s.toks
 by_cases h0:0<=k
 ·have hk:k.toNat=j:=by
   rw [seqIndex_of h0 h4] at h1;exact Yae h1
  exact PySem.W.ki_setAt ho h0 (by omega) (by rw [Yam,<- hl];exact h4) (by rw [hk];exact ⟨_,I',q⟩)
 ·have hk:(k+(its.toArray.size:Int)).toNat=j:=by
   rw [seqIndex_neg (by omega) h3] at h1;rw [Yam,<- hl];exact Yae h1
  exact PySem.W.ki_setBack ho (by omega) (by rw [Yam,<- hl];exact h3) (by omega) (by rw [hk];exact ⟨_,I',q⟩)
theorem Zfk (lo hi:Option Int) (n:Nat):(sliceBounds lo hi none n).1=((HT.sIx n 0 lo:Nat):Int)/\(sliceBounds lo hi none n).2.1=((HT.sIx n n hi:Nat):Int)/\(sliceBounds lo hi none n).2.2=1:=by
 refine ⟨?_,?_,rfl⟩
 ·cases lo with
  |none=>simp [sliceBounds,HT.sIx]
  |some i =>
   simp only [sliceBounds,HT.sIx,Option.getD_none,show (1:Int) > 0 by decide,if_true]
   by_cases h:i<0
   ·simp only [h,if_true] <;> omega
   ·simp only [h,if_false] <;> omega
 ·cases hi with
  |none=>simp [sliceBounds,HT.sIx]
  |some i =>
   simp only [sliceBounds,HT.sIx,Option.getD_none,show (1:Int) > 0 by decide,if_true]
   by_cases h:i<0
   ·simp only [h,if_true] <;> omega
   ·simp only [h,if_false] <;> omega
theorem Zel (its:List Value) (lo hi:Option Int):slicePick its.toArray lo hi none=((its.drop (HT.sIx its.length 0 lo)).take (HT.sIx its.length its.length hi - HT.sIx its.length 0 lo)).toArray:=by
 obtain ⟨h1,h2,h3⟩:=Zfk lo hi its.toArray.size;unfold slicePick;rw [h1,h2,h3];simp only [sliceRange_one,pick_run,Yam] <;> rfl
def rSlL (K:Yab):V->Option Int->Option Int->Hp->VK->Prop:=λx lo hi H Q=>∃ a xs,x=.ref a/\SqL K H a xs/\∀ p,H p=none->Q (.ref p) (upd H p (.lst (cutV xs lo hi)))
theorem ZnP:SlR X (rSlL X.K):=by
 intro pins s σ H x v vl vu lo hi sl Q I rx hs pl pu h;obtain ⟨a,xs,rfl,hx,q⟩:=h;cases rx;obtain ⟨its,r,ht,hz⟩:=I.list hx;have hlen:=r.length;refine ⟨"list", _,slot_list_getitem.lookup,ht.isList.typeIs,?_⟩;refine wpAny_getItem_list_slice ht.isList hs pl pu .none (by simp) ?_ (by rw [Yam] <;> omega);rw [Zel,<- hlen];refine ⟨.ref s.heap.objs.size,_,I.laid (t':=s.toks) (o:=.lst (cutV xs lo hi)) (λb ob q=>Yad _ q) (Yag _) ?_,rfl,q _ (I.hok.fresh (Yag _))⟩;exact ⟨Yay (ZgG xs lo hi) hz,_,0,(r.drop (HT.sIx xs.length 0 lo)).take (HT.sIx xs.length xs.length hi - HT.sIx xs.length 0 lo),Yao _ rfl⟩
def ZfT:V->Bool
 | .non=>true
 | .bl _=>true
 | .int _=>true
 | .str _=>true
 |_=>false
def eqV:V->V->Bool
 | .non,.non=>true
 | .bl a,.bl b=>a == b
 | .bl a,.int b=>(if a then 1 else 0) == b
 | .int a,.bl b=>a == (if b then 1 else 0)
 | .int a,.int b=>a == b
 | .str a,.str b=>a == b
 |_,_=>false
theorem Zq7 {A:Around}{s:Shared}{y x:V}{u v:Value} (ry:RelV y u) (rx:RelV x v) (fy:ZfT y=true) (fx:ZfT x=true):SeqAt.EqAt A s u v (eqV y x):=by
 cases y with
 |non =>
  cases ry;cases x with
  |non=>cases rx;exact SeqAt.EqAt.same _
  |bl b=>cases rx;exact SeqAt.EqAt.none_bool b
  |int b=>obtain ⟨t,rfl⟩:=rx;exact SeqAt.EqAt.none_int b t
  |str b=>obtain ⟨t,rfl⟩:=rx;exact SeqAt.EqAt.none_str b t
  |_=>exact absurd (show false=true from fx) Yaq
 |bl a =>
  cases ry;cases x with
  |non=>cases rx;exact SeqAt.EqAt.bool_none a
  |bl b=>cases rx;exact SeqAt.EqAt.bool_bool a b
  |int b=>obtain ⟨t,rfl⟩:=rx;exact SeqAt.EqAt.bool_int a b t
  |str b=>obtain ⟨t,rfl⟩:=rx;exact SeqAt.EqAt.bool_str a b t
  |_=>exact absurd (show false=true from fx) Yaq
 |int a =>
  obtain ⟨t',rfl⟩:=ry;cases x with
  |non=>cases rx;exact SeqAt.EqAt.int_none a t'
  |bl b=>cases rx;exact SeqAt.EqAt.int_bool a t' b
  |int b=>obtain ⟨t,rfl⟩:=rx;exact SeqAt.EqAt.int_int a t' b t
  |str b=>obtain ⟨t,rfl⟩:=rx;exact SeqAt.EqAt.int_str a t' b t
  |_=>exact absurd (show false=true from fx) Yaq
 |str a =>
  obtain ⟨t',rfl⟩:=ry;cases x with
  |non=>cases rx;exact SeqAt.EqAt.str_none a t'
  |bl b=>cases rx;exact SeqAt.EqAt.str_bool a t' b
  |int b=>obtain ⟨t,rfl⟩:=rx;exact SeqAt.EqAt.str_int a t' b t
  |str b=>obtain ⟨t,rfl⟩:=rx;exact SeqAt.EqAt.str_str a t' b t
  |_=>exact absurd (show false=true from fx) Yaq
 |_=>exact absurd (show false=true from fy) Yaq
def eqU (x:V) (u:Value):Bool:=match u with
 | .none=>eqV .non x
 | .bool b=>eqV (.bl b) x
 | .int i _=>eqV (.int i) x
 | .str z _=>eqV (.str z) x
 |_=>false
theorem Znm {x y:V}{u:Value} (r:RelV y u) (f:ZfT y=true):eqU x u=eqV y x:=by
 cases y with
 |non=>cases r;rfl
 |bl b=>cases r;rfl
 |int i=>obtain ⟨t,rfl⟩:=r;rfl
 |str z=>obtain ⟨t,rfl⟩:=r;rfl
 |_=>exact absurd (show false=true from f) Yaq
theorem ZgM {x:V}:∀ {xs:List V}{us:List Value},Vals xs us->xs.all ZfT=true->us.any (eqU x)=xs.any λy=>eqV y x
 |_,_,.nil,_=>rfl
 |y :: xs,u :: us,.cons r t,f=>by
  rw [List.all_cons,Yaj] at f;rw [List.any_cons,List.any_cons,Znm r f.1,ZgM t f.2]
theorem ZeE {A:Around}{s:Shared}{x:V}{v:Value} (rx:RelV x v) (fx:ZfT x=true):∀ {xs:List V}{us:List Value},Vals xs us->xs.all ZfT=true->∀ u∈us,SeqAt.EqAt A s u v (eqU x u)
 |_,_,.nil,_=>λu hu=>by cases hu
 |y :: xs,u :: us,.cons r t,f=>λu' hu=>by
  rw [List.all_cons,Yaj] at f;rcases YaF.mp hu with rfl | hu
  ·rw [Znm r f.1];exact Zq7 r rx f.1 fx
  ·exact ZeE rx fx t f.2 u' hu
def inV (x:V) (xs:List V):Bool:=xs.any λy=>eqV y x
def rIn (K:Yab) (neg:Bool):R2:=λx y H Q=>∃ p xs,y=.ref p/\(SqL K H p xs\/SqT K H p xs)/\ZfT x=true/\xs.all ZfT=true/\Q (.bl (if neg then !inV x xs else inV x xs)) H
theorem ZjH:OpR X (compareOp .In) (rIn X.K false):=by
 intro pins s σ H x y v u Q I rx ry h;obtain ⟨p,xs,rfl,hq,fx,fs,q⟩:=h;cases ry;rcases hq with hq | hq
 ·obtain ⟨its,r,pl,hz⟩:=I.list hq;refine SeqAt.in_listAt (eqU x) pl.isList (λw hw=>ZeE rx fx r fs w (by simpa using hw)) ⟨.bl _,H,I,rfl,?_⟩;rw [show its.toArray.any (eqU x)=its.any (eqU x) by simp,ZgM r fs];exact q
 ·obtain ⟨its,r,pl,hz⟩:=I.tuple hq;refine SeqAt.in_tupleAt (eqU x) pl (λw hw=>ZeE rx fx r fs w (by simpa using hw)) ⟨.bl _,H,I,rfl,?_⟩;rw [show its.toArray.any (eqU x)=its.any (eqU x) by simp,ZgM r fs];exact q
theorem Zao:Zbv X (.builtin "len") (λxs H Q=>∃ p ys,xs=[.ref p]/\(SqL X.K H p ys\/SqT X.K H p ys)/\Q (.int ys.length) H):=by
 intro pins s σ H xs us Q I r h;obtain ⟨p,ys,rfl,hq,q⟩:=h;obtain ⟨u,rfl,rx⟩:=Zld r;cases rx;have hn:=ZdH;rcases hq with hq | hq
 ·obtain ⟨its,r',pl,hz⟩:=I.list hq;have hlen:=r'.length;exact Calls.call_len_list pl.isList (by simp only [Yam] <;> omega) ⟨.int ys.length,H,I.tok _,⟨s.toks+1,by rw [Yam,hlen]⟩,q⟩
 ·obtain ⟨its,r',pl,hz⟩:=I.tuple hq;have hlen:=r'.length;exact len_tuple pl (by simp only [Yam] <;> omega) ⟨.int ys.length,H,I.tok _,⟨s.toks+1,by rw [Yam,hlen]⟩,q⟩
theorem Zbm:Zbv X (.builtin "len") (λxs H Q=>∃ z,xs=[.str z]/\z.length<=sizeLine/\Q (.int z.length) H):=by
 intro pins s σ H xs us Q I r h;obtain ⟨z,rfl,hz,q⟩:=h;obtain ⟨u,rfl,t,rfl⟩:=Zld r;have hn:=ZdH;exact len_str (by omega) ⟨.int z.length,H,I.tok _,⟨_,rfl⟩,q⟩
theorem Zf3:Zbv X (.type "list") (λxs H Q=>∃ p ys,xs=[.ref p]/\(SqL X.K H p ys\/SqT X.K H p ys)/\∀ l,H l=none->Q (.ref l) (upd H l (.lst ys))):=by
 intro pins s σ H xs us Q I r h;obtain ⟨p,ys,rfl,hq,q⟩:=h;obtain ⟨u,rfl,rx⟩:=Zld r;cases rx;have fin:∀ (its:List Value),Vals ys its->ys.length<=sizeLine->∀ (h':Heap) (c':Nat),(∀ b o',s.heap.get? b=some o'->h'.get? b=some o') ->
   h'.get? s.heap.objs.size=some { cls:=.type "list",dict:=none,data:=.seq its.toArray c',slots:=#[] }->EP X pins σ Q (.ref s.heap.objs.size) { s with heap:=h' }:=λits r' hz h' c' kp e =>
  ⟨.ref s.heap.objs.size,_,I.laid (t':=s.toks) kp (Yag _) (show ObjOk X.prog X.w _ h' _ (.lst ys) from ⟨hz,its,c',r',e⟩),rfl,q _ (I.hok.fresh (Yag _))⟩
 rcases hq with hq | hq
 ·obtain ⟨its,r',pl,hz⟩:=I.list hq;have hlen:=r'.length;obtain ⟨o,ho,hc,n,hd⟩:=pl.isList;exact call_list_seq p (.inl rfl) ho hc hd (λh' c' kp e=>fin its r' hz h' c' kp e) (by simp only [Yam] <;> omega)
 ·obtain ⟨its,r',pl,hz⟩:=I.tuple hq;have hlen:=r'.length;obtain ⟨o,ho,hc,n,hd⟩:=pl;exact call_list_seq p (.inr rfl) ho hc hd (λh' c' kp e=>fin its r' hz h' c' kp e) (by simp only [Yam] <;> omega)
def tyV (K:Yab) (T:String) (x:V) (H:Hp):Prop:=match x with
 | .str _=>T = "str"
 | .int _=>T = "int"
 | .ref p=>(T = "list" /\ ∃ xs,SqL K H p xs)\/(T = "tuple" /\ ∃ o,K.lookup p=some o/\o.cls=.type "tuple" /\ o.dict=none) \/
   (T = "dict" /\ ((∃ kvs,H p=some (.dK kvs))\/∃ kvs,H p=some (.dT kvs)))\/(T = "set" /\ ∃ S n,H p=some (.set S n))
 |_=>False
theorem Zpc {pins:List (Addr × Obj)}{σ:St}{H:Hp}{s:Shared}{T:String}{x:V}{v:Value} (I:Inv X pins σ H s) (r:RelV x v) (ty:tyV X.K T x H) :
  s.TypeIs v T/\∀ a,v=.ref a->∃ ob,s.heap.get? a=some ob/\ob.dict=none:=by
 cases x with
 |str z =>
  obtain ⟨t,rfl⟩:=r;cases (show T = "str" from ty);exact ⟨typeIs_str s z t,λ_ e=>nomatch e⟩
 |int i =>
  obtain ⟨t,rfl⟩:=r;cases (show T = "int" from ty);exact ⟨typeIs_int s i t,λ_ e=>nomatch e⟩
 |ref p =>
  cases r;rcases ty with ⟨rfl,xs,hq⟩ | ⟨rfl,o,hk,hc,hd⟩ | ⟨rfl,hk⟩ | ⟨rfl,S,n,hk⟩
  ·obtain ⟨its,_,pl,_⟩:=I.list hq;refine ⟨pl.isList.typeIs,λa e=>?_⟩;cases e;obtain ⟨o,n,e,c,hd,_⟩:=pl;exact ⟨o,e,hd⟩
  ·refine ⟨⟨o,I.kIn p o hk,hc⟩,λa e=>?_⟩;cases e;exact ⟨o,I.kIn _ o hk,hd⟩
  ·have z:∃ o,s.heap.get? p=some o/\o.ExactDict:=by
    rcases hk with ⟨kvs,hk⟩ | ⟨kvs,hk⟩
    ·obtain ⟨_,_,_,_,o,_,_,e,ex,_⟩:=I.hok p _ hk;exact ⟨o,e,ex⟩
    ·obtain ⟨_,_,_,_,o,_,_,e,ex,_⟩:=I.hok p _ hk;exact ⟨o,e,ex⟩
   obtain ⟨o,e,ex⟩:=z;refine ⟨⟨o,e,ex.1⟩,λa e2=>?_⟩;cases e2;exact ⟨o,e,ex.2.1⟩
  ·obtain ⟨o,_,_,_,e,ex,_⟩:=I.hok p _ hk;refine ⟨⟨o,e,ex.1⟩,λa e2=>?_⟩;cases e2;exact ⟨o,e,ex.2.1⟩
 |_=>exact False.elim ty
def tBM (K:Yab) (T:String) (r:V->List V->Hp->VK->Prop) (to:TE) (t:TA):TE:=λσ H Q=>to σ H λx H1=>tyV K T x H1/\t σ H1 λxs H2=>r x xs H2 Q
variable {o e:Expr}{es:List Expr}{to:TE}{t:TA}{name:Str}{apos cpos:Pos}{T id:String}{r:V->List V->Hp->VK->Prop}
theorem Zbp (pa:PlainAttrs T) (slot:Slot T name id) (hty:typeOf (.builtin id)=pure (.type "method_descriptor")) (hm:MtR X id r) (ho:PE X o to) (ha:PA X (e :: es) t)
  (hbase:attributeBase o name X.env (eval o X.env)=eval o X.env:=by rfl)
  (hfew:((backTo cpos (starEach (e :: es) X.env)).all (λx=>!x.1) && (backToKw cpos (keywordEach [] X.env)).all (λx=>x.1.isSome)
   && decide ((e :: es).length+([]:List Keyword).length+(if ([]:List Keyword).isEmpty then 0 else 1)<30))=true:=by rfl)
  (hline:(apos.endLine == cpos.line)=true:=by rfl) (hs:starEach (e :: es) X.env=(false,eval e X.env) :: starEach es X.env:=by rfl) (hplain:(backTo cpos (starEach es X.env)).any (·.1)=false:=by rfl) :
  PE X (.Call (.Attribute o name apos) (e :: es) [] cpos) (tBM X.K T r to t):=by
 intro pins s σ H Q I h;refine wpAny_Call_method_late hbase hfew hline rfl (thn (ho pins s σ H _ I h) λv s1 ⟨x,H1,I1,r1,ty,q1⟩=>?_);obtain ⟨h1,h2⟩:=Zpc I1 r1 ty;refine ⟨T,id,pa,slot,hty,h1,h2,?_⟩;have hA:=ha cpos pins s1 σ H1 _ I1 q1;rw [hs] at hA ⊢;refine Calls.callWith_builtin (by show (false || (backTo cpos (starEach es X.env)).any (·.1))=false;rw [hplain] <;> rfl) (Calls.evalArgs_plain ?_);exact thn hA λus s2 ⟨vs,H2,I2,r2,q2⟩=>hm pins s2 σ H2 x vs v us Q I2 r1 r2 q2
end
open PySem PySem.Spec PyProof.Rows
def MtM (X:Cx) (id:String) (r:V->List V->Hp->VK->Prop):Prop :=
 ∀ (pins:List (Addr × Obj)) (s:Shared) (σ:St) (H:Hp) (x:V) (xs:List V) (v:Value) (us:List Value) (Q:VK),Inv X pins σ H s->RelV x v->Vals xs us->r x xs H Q ->
  wpAny (model X.prog X.w) X.A (call (.builtin id) (v :: us)) (EP X pins σ Q) X.xe s
theorem Vals.one:∀ {x:V}{us:List Value},Vals [x] us->∃ u,us=[u]/\RelV x u
 |_,_,.cons r .nil=>⟨_,rfl,r⟩
theorem Vals.two:∀ {x y:V}{us:List Value},Vals [x,y] us->∃ u v,us=[u,v]/\RelV x u/\RelV y v
 |_,_,_,.cons r (.cons q .nil)=>⟨_,_,rfl,r,q⟩
theorem Vals.reverse {xs:List V}{us:List Value} (h:Vals xs us):Vals xs.reverse us.reverse:=by
 induction h with
 |nil=>exact .nil
 |cons r t ih=>rw [List.reverse_cons,List.reverse_cons];exact Vals.append ih (.cons r .nil)
theorem Vals.rep {xs:List V}{us:List Value} (h:Vals xs us):∀ k:Nat,Vals (List.replicate k xs).flatten (List.replicate k us).flatten
 | 0=>.nil
 |k+1=>by
  rw [List.replicate_succ,List.replicate_succ,List.flatten_cons,List.flatten_cons];exact Vals.append h (Vals.rep h k)
theorem ZfS (its:List Value):∀ (k:Nat) (acc:List Value),
  List.foldl (λx1 x2=>x1 ++ x2) acc.toArray (List.replicate k its.toArray)=(acc ++ (List.replicate k its).flatten).toArray
 | 0,acc=>by simp
 |k+1,acc=>by
  have e:acc.toArray ++ its.toArray=(acc ++ its).toArray:=by simp
  have e2:(acc ++ its) ++ (List.replicate k its).flatten=acc ++ (List.replicate (k+1) its).flatten:=by
   rw [List.replicate_succ,List.flatten_cons,List.append_assoc]
  rw [<- e2,<- ZfS its k (acc ++ its),<- e,List.replicate_succ,List.foldl_cons]
section
variable {X:Cx}{pins:List (Addr × Obj)}{σ:St}{H:Hp}{s:Shared}{l b:Addr}{xs ys zs:List V}
theorem Inv.lset {its its':List Value}{n:Nat}{f:Array Value->Array Value}{t':Nat} (I:Inv X pins σ H s) (hH:H l=some (.lst xs))
  (e:s.heap.get? l=some { cls:=.type "list",data:=.seq its.toArray n }) (hf:f its.toArray=its'.toArray) (hv:Vals ys its') (hz:ys.length<=sizeLine) :
  Inv X pins σ (upd H l (.lst ys)) { s with heap:=s.heap.update l (Obj.mapSeq f),toks:=t' }:=by
 have q:=PySem.IsL.update e f;rw [hf] at q;refine I.write (x:=l) (e:=l) (by rw [hH];exact trivial) (.inl rfl) (λb' u hb hu=>(Heap.get?_update_other s.heap (Obj.mapSeq f) (Ne.symm hb)).trans hu) ⟨_,q⟩ ?_;exact ⟨hz,its',_,hv,q⟩
theorem Inv.lnew {its:List Value}{t':Nat} (I:Inv X pins σ H s) (hv:Vals ys its) (hz:ys.length<=sizeLine) :
  Inv X pins σ (upd H s.heap.objs.size (.lst ys)) { s with heap:=s.heap.push { cls:=.type "list",data:=.seq its.toArray },toks:=t' } :=
 I.laid (λ_ _ q=>Yad _ q) (Yag _) ⟨hz,its,0,hv,Yao _ rfl⟩
theorem Inv.fresh (I:Inv X pins σ H s):H s.heap.objs.size=none:=I.hok.fresh (Yag _)
theorem Inv.lstM (I:Inv X pins σ H s) (hH:H l=some (.lst xs)):xs.length<=sizeLine/\∃ (its:List Value) (n:Nat),Vals xs its/\xs.length=its.length/\s.heap.get? l=some { cls:=.type "list",data:=.seq its.toArray n }:=by
 obtain ⟨z,its,n,r,e⟩:=I.hok l _ hH;exact ⟨z,its,n,r,r.length,e⟩
theorem Zhm {n:Nat} (h:n<=sizeLine):Builtin.List.listTooLong n=false:=by
 unfold Builtin.List.listTooLong;exact Ya5 (by omega)
end
section
variable {X:Cx}
def ZnZ:V->List V->Hp->VK->Prop:=λx vs H Q=>∃ l xs y,x=.ref l/\vs=[y]/\H l=some (.lst xs)/\xs.length<sizeLine/\Q .non (upd H l (.lst (xs ++ [y])))
theorem Zbk:MtM X "list.append" ZnZ:=by
 intro pins s σ H x vs v us Q I rx rv h;obtain ⟨l,xs,y,rfl,rfl,hH,hz,q⟩:=h;cases rx;obtain ⟨u,rfl,ru⟩:=rv.one;obtain ⟨z,its,n,r,hl,e⟩:=I.lstM hH;refine call_meets F.slot_list_append ⟨_,e,rfl⟩ F.entry_list_append (F.args_list_append_2 _ _) (PySem.list_append l its.toArray n u (by rw [Yam];omega)) ⟨e,?_⟩;refine ⟨.non,_,I.lset (its':=its ++ [u]) hH e (by simp) (r.append (.cons ru .nil)) ?_,rfl,q⟩;rw [Yak,YaI];omega
def ZnY:V->List V->Hp->VK->Prop:=λx vs H Q=>∃ l b xs zs,x=.ref l/\vs=[.ref b]/\H l=some (.lst xs)/\H b=some (.lst zs)/\xs.length+zs.length<=sizeLine/\Q .non (upd H l (.lst (xs ++ zs)))
theorem ZfE:MtM X "list.extend" ZnY:=by
 intro pins s σ H x vs v us Q I rx rv h;obtain ⟨l,b,xs,zs,rfl,rfl,hH,hB,hz,q⟩:=h;cases rx;obtain ⟨u,rfl,ru⟩:=rv.one;cases ru;obtain ⟨z,its,n,r,hl,e⟩:=I.lstM hH;obtain ⟨z2,its2,n2,r2,hl2,e2⟩:=I.lstM hB;have hsz:its.toArray.size+its2.toArray.size<=sizeLine:=by rw [Yam,Yam];omega
 have hlong:¬ (!its.toArray.isEmpty && Builtin.List.listTooLong (its.toArray.size+its2.toArray.size))=true:=by
  rw [Zhm hsz,Bool.and_false];exact Yaq
 refine call_meets F.slot_list_extend ⟨_,e,rfl⟩ F.entry_list_extend (F.args_list_extend_2 _ _)
  (AutoSeq1.list_extend_list_list_0 l its.toArray n b its2.toArray n2 hlong (by rw [Yam];omega) (by omega)) ⟨e,e2,?_⟩
 refine ⟨.non,_,I.lset (its':=its ++ its2) hH e (by simp) (r.append r2) ?_,rfl,q⟩;rw [Yak];omega
def rCat:R2:=λx y H Q=>∃ l b xs zs,x=.ref l/\y=.ref b/\H l=some (.lst xs)/\H b=some (.lst zs)/\xs.length+zs.length<=sizeLine/\∀ p,H p=none->Q (.ref p) (upd H p (.lst (xs ++ zs)))
theorem Zb8:OpR X (binaryOp .Add) rCat:=by
 intro pins s σ H x y v u Q I rx ry h;obtain ⟨l,b,xs,zs,rfl,rfl,hH,hB,hz,q⟩:=h;cases rx;cases ry;obtain ⟨z,its,n,r,hl,e⟩:=I.lstM hH;obtain ⟨z2,its2,n2,r2,hl2,e2⟩:=I.lstM hB;refine PySem.P.add_list e e2 ?_ (by rw [Yam,Yam];omega);have ea:its.toArray ++ its2.toArray=(its ++ its2).toArray:=by simp
 rw [ea];exact ⟨.ref _,_,I.lnew (t':=s.toks) (r.append r2) (by rw [Yak];omega),rfl,q _ I.fresh⟩
def rRep:R2:=λx y H Q=>∃ l k xs,x=.ref l/\y=.int k/\H l=some (.lst xs)/\-(2 ^ 63)<=k/\k<2 ^ 63/\xs.length * k.toNat<=sizeLine /\
 ∀ p,H p=none->Q (.ref p) (upd H p (.lst (List.replicate k.toNat xs).flatten))
theorem ZoI {α:Type} (xs:List α) (k:Nat):(List.replicate k xs).flatten.length=k * xs.length:=by
 induction k with
 |zero=>simp
 |succ k ih=>rw [List.replicate_succ,List.flatten_cons,Yak,ih,Nat.succ_mul,Nat.add_comm]
theorem Znc:OpR X (binaryOp .Mult) rRep:=by
 intro pins s σ H x y v u Q I rx ry h;obtain ⟨l,k,xs,rfl,rfl,hH,h1,h2,hz,q⟩:=h;cases rx;obtain ⟨t,rfl⟩:=ry;obtain ⟨z,its,n,r,hl,e⟩:=I.lstM hH;have hlen:its.toArray.size * k.toNat<=sizeLine:=by rw [Yam,<- hl];exact hz
 have hcap:¬ its.toArray.size * k.toNat > (2 ^ 63 - 1) / 8:=by
  have:(sizeLine:Nat)<=(2 ^ 63 - 1) / 8:=by decide
  omega
 have hfit:¬ (!Builtin.List.listFitsIndex k)=true:=by
  rw [fitsIndex_both h1 h2];exact Yaq
 have hlong:¬ Builtin.List.listTooLong (its.toArray.size * k.toNat)=true:=by
  rw [Zhm hlen];exact Yaq
 have hnew:List.foldl (λx1 x2=>x1 ++ x2) #[] (List.replicate (if its.toArray.isEmpty=true then 0 else k.toNat) its.toArray)=(List.replicate k.toNat its).flatten.toArray:=by
  have f0:∀ m:Nat,List.foldl (λx1 x2=>x1 ++ x2) #[] (List.replicate m its.toArray)=(List.replicate m its).flatten.toArray:=λm=>by
   have:=ZfS its m [];rw [List.nil_append] at this;exact this
  rw [f0];cases its with
  |nil=>simp
  |cons a r'=>rw [Ya6 (by simp)]
 refine wpAny_binaryOp_repeat_ref (T := "list") (U := "int") (by decide) ⟨_,e,rfl⟩ (λs'=>typeIs_int s' k t) noFill_list_mul F.fills_int_mul F.slot_int_rmul repeat_list F.slot_int_index.lookup
  (call_meets F.slot_int_rmul (typeIs_int s k t) F.entry_int_rmul (F.args_int_rmul_2 _ _) (int___rmul___int_list k t l its.toArray n)
   ⟨e,rfl,⟨_,e,rfl⟩,call_meets F.slot_list_mul ⟨_,e,rfl⟩ F.entry_list_mul (F.args_list_mul_2 _ _) (AutoListH.list___mul___list_int_3 l its.toArray n k t hfit hcap hlong) ⟨e,?_⟩⟩)
 rw [hnew];exact ⟨.ref _,_,I.lnew (t':=s.toks) (r.rep k.toNat) (by rw [ZoI,Nat.mul_comm];exact hz),rfl,q _ I.fresh⟩
end
section
variable {prog:Program}{w:World}{A:Around}{E:Value->Shared->Prop}{s:Shared}
end
section
variable {X:Cx}
end
end L2
namespace Att
open PySem PySem.W PySem.Calls PyProof.Rows
theorem ZdN {P:Params}{h:Heap}:∀ (ns:List Int) (vs:List Value),WellAll P h vs (ns.map WData.int)->IntsAre vs ns:=by
 intro ns
 induction ns with
 |nil =>
  intro vs w;rw [List.map_nil] at w;cases w;exact .nil
 |cons n ns ih =>
  intro vs w;rw [Yaw] at w;cases w with
  |cons a b =>
   cases a;exact .cons _ _ (ih _ b)
theorem Zjj {l:OpenLaw}{n:Nat} (hn:l.most=some n) {P:Params}{h:Heap}{args:List WData}{vals:List Value}
  (hpre:l.row.toRowW.claim.pre args=true) (hwl:WellAll P h vals args) :
  ∃ a vs ns,vals=[Value.ref a]/\args=[WData.list (ns.map WData.int)]/\h.get? a=some { cls:=.type "list",data:=.seq vs.toArray }/\IntsAre vs ns/\ns.length<=n:=by
 have hsh:WShape.hasAll [] args [.list .int]=true:=(pre_splitW hpre).1;have hc:l.pre.holds [] { args:=args }=true:=(pre_splitW hpre).2;obtain ⟨d,r,rfl,h1,h2⟩:=hasAllW_cons hsh;obtain rfl:=hasAllW_nil h2;obtain ⟨xs,rfl,h3⟩:=hasW_list h1;obtain ⟨ns,rfl⟩:=items_int h3;have hlen:ns.length<=n:=by
  unfold OpenLaw.pre at hc;have h4:(WTm.not (.lt (.lit (.int (n:Int))) (.len (.arg 0)))).holds [] { args:=[.list (ns.map .int)] }=true:=by
   have h4:=(holds_andW hc).1;rw [hn] at h4;exact h4
  have h5:=condW_of h4 (w_not (w_lt w_lit (w_len_list (w_arg rfl))));rw [Yaa] at h5;refine Nat.le_of_not_lt λq=>?_;have q':(n:Int)<((ns.length:Nat):Int):=by omega
  first
   | (rw [Ya4 q'] at h5;exact absurd h5 (by decide))
   | (simp at h5;omega)
 cases hwl with
 |cons w1 w2 =>
  cases w2;cases w1 with
  |list ho hall=>exact ⟨_,_,ns,rfl,rfl,ho,ZdN ns _ hall,hlen⟩
theorem Zju (l:OpenLaw) (args:List WData):l.row.toRowW.claim.post args (.bool true) args=true :=
 postW_of (r:=l.row.toRowW) (X:=(true == true))
  (show WShape.has [] (.bool true) .bool=true by first | rfl | decide | simp [WShape.has,WShape.arms,WShape.armsAll])
  (show (WTm.eq .res (.lit (.bool true))).value [] { args:=args,res:=some (.bool true),after:=args }=some (.bool (true == true)) from w_eq_bool (w_res rfl) w_lit) rfl
theorem attach_call {l:OpenLaw}{n:Nat}{q:Program}{loose:List Str}{XP:(Str->Option Value)->Heap->Prop}{YP:World->Heap->Prop}{d:DefRec}
  (hn:l.most=some n) (hdf:d.params.defaults=[])
  (call:∀ (w:World) (s₀ s₁:Shared) (mg mb:Str->Option Value) (fa:Addr) (o:Obj) (pm cd doc:Value) (a:Addr) (vs:List Value) (ns:List Int),
   Ground q loose [] XP w s₀ mg mb s₁.heap->YP w s₁.heap ->
   s₁.heap.get? fa=some o->o.data=.func (docDef d.name d.params d.body d.scope pm cd doc)->s₁.heap.CodeRec cd d.name->mg d.name=some (.ref fa) ->
   s₁.heap.get? a=some { cls:=.type "list",data:=.seq vs.toArray }->IntsAre vs ns->ns.length<=n->s₁.gens = #[] ->
   codeAny (model l.prog w) callerA (.call (.ref fa) ⟨[.ref a],[]⟩) (λr s'=>r=.ok (.ret (.bool true))/\OldK s₁.heap s'.heap/\s'.os=s₁.os/\AllBare s'.gens) s₁) :
  WalkO q loose XP YP l.row.toRowW d [] (λf vs=>PySem.call f vs):=by
 intro w s₀ s₁ mg mb G Y fa o pm cd doc dV kV ho hd hcd hD hmg hg args vals as hpre hlay hrd hwl hlo;obtain rfl:dV=.none:=Dflts.none hD hdf;obtain rfl:kV=.none:=Dflts.noKw hD;obtain ⟨a,vs,ns,rfl,rfl,hobj,hints,hlen⟩:=Zjj hn hpre hwl;refine enter_call (codeAny_mono (call w s₀ s₁ mg mb fa o pm cd doc a vs ns G Y ho (fd_plain hd) hcd hmg hobj hints hlen hg) λr s' hq=>?_);obtain ⟨rfl,h2,h3,h4⟩:=hq;exact ⟨.inl ⟨.bool true,.bool true,[],rfl,λ_=>rfl,.bool true,Zju l _,λ_=>⟨List.Pairwise.nil,λ_ hm=>(nomatch hm)⟩⟩,h2,h3,h4⟩
section
variable {prog:Program}{w:World}{A:Around}{E:Value->Shared->Prop}{s:Shared}{K:Frag}
end
end Att
namespace L2
open PySem PySem.Spec PyProof.Rows
theorem Zfb:∀ {vs:List Value}{ns:List Int},IntsAre vs ns->Vals (ns.map V.int) vs
 |_,_,.nil=>.nil
 |_,_,.cons n t h=>.cons ⟨t,rfl⟩ (Zfb h)
def Only (H:Hp):Prop:=∀ b,H b=none\/∃ o xs,H b=some (.frz o (.lst xs))
theorem Zmn {P:Program}{w:World}{K:Yab}{mg mb:Str->Option Value}{CX:CXT}{k:Nat}{fa a:Addr}{fd:FuncData}{x:Str}{sp:Sp}{s₁:Shared}{vs:List Value}{ns:List Int}
  (KX:K.In s₁.heap) (hns:s₁.heap.Ns mainGlobals mg) (hb:s₁.heap.Ns builtinsNs mb) (hbb:∀ x:Str,x ≠ "__name__" -> mb x=bootBuiltins x) (hlim:s₁.heap.NoLimit) (hg:s₁.gens = #[])
  (ha:s₁.heap.get? a=some { cls:=.type "list",data:=.seq vs.toArray }) (hi:IntsAre vs ns) (hl:ns.length<=sizeLine) (hr:Room k callerA)
  (F:∀ base:Heap,K.In base->base.Ns mainGlobals mg->FnOk P w K mg base CX k fa fd [x] sp) (hbind:∀ (s:Shared) (u:Value),BindsTo s fd ⟨[u],[]⟩ [(x,u)])
  (hsp:∀ H:Hp,Only H->SqL K H a (ns.map V.int)->sp [.ref a] H (λv _=>v=.bl true) λ_ _ _=>False)
  (hCX:∀ H e s',CX [] H s₁ (λ_ _ _=>False) e s'->False) :
  codeAny (model P w) callerA (.call (.ref fa) ⟨[.ref a],[]⟩) (λr s'=>r=.ok (.ret (.bool true))/\OldK s₁.heap s'.heap/\s'.os=s₁.os/\AllBare s'.gens) s₁:=by
 have rv:=Zfb hi;have lenV:=hi.length;have core:∀ H:Hp,Only H->SqL K H a (ns.map V.int)->HOk P w H s₁.heap->(∀ b,H b≠none->b=a)->(H a≠none->K.lookup a=none) ->
   codeAny (model P w) callerA (.call (.ref fa) ⟨[.ref a],[]⟩) (λr s'=>r=.ok (.ret (.bool true))/\OldK s₁.heap s'.heap/\s'.os=s₁.os/\AllBare s'.gens) s₁:=by
  intro H hO hS hok hA hK;have base_of:∀ {b:Addr}{o:Obj},s₁.heap.get? b=some o->H b=none->(hidT s₁.heap H).get? b=some o:=λe n=>Zmt e n;have noA:∀ {b:Addr}{o:Obj}{es:Array DictEntry}{ep:Nat},s₁.heap.get? b=some o->o.data=.dict es ep->H b=none:=λ{b o es ep} e d=>by
   cases q:H b with
   |none=>rfl
   |some u =>
    have e':b=a:=hA b (by rw [q];simp);subst e';rw [ha] at e;cases e;have d':Data.seq vs.toArray _=Data.dict es ep:=d;cases d'
  have nsK:∀ {b:Addr}{m:Str->Option Value},s₁.heap.Ns b m->(hidT s₁.heap H).Ns b m:=λ{b m} ⟨o,es,ep,e,d,r⟩=>⟨o,es,ep,base_of e (noA e d),d,r⟩;have hKb:K.In (hidT s₁.heap H):=λb o e=>base_of (KX b o e) (by
   cases q:H b with
   |none=>rfl
   |some u =>
    have e':b=a:=hA b (by rw [q];simp);subst e'
    rw [hK (by rw [q];simp)] at e;cases e)
  have hM:Mod K mg (hidT s₁.heap H):=⟨hKb,nsK hns,⟨mb,nsK hb,hbb⟩,let ⟨mc,h1,h2⟩:=hlim;⟨mc,nsK h1,h2⟩⟩;have e0:Env0 P w K mg (hidT s₁.heap H) callerA [] s₁ H:=⟨rfl,hM,λb o e=>Zos e,Nat.le_of_eq (ZkB _ _),trivial,λb hb=>absurd (show b∈([]:List Addr) from hb) (by simp),hok,.of_eq hg⟩;refine codeAny_mono ((F _ hKb (nsK hns)).run callerA [] s₁ H ⟨[.ref a],[]⟩ [.ref a] [.ref a] _ _ hr e0 (hbind s₁ (.ref a)) (.cons rfl .nil) (hsp H hO hS)) λr s' h=>?_;cases r with
  |error e=>exact (hCX H e s' h).elim
  |ok fl =>
   cases fl with
   |next=>exact False.elim h
   |brk=>exact False.elim h
   |cont=>exact False.elim h
   |ret u =>
    obtain ⟨v,H',os,bare,un,hok',r',q⟩:=h;have q':v=.bl true:=q;subst q';obtain rfl:u=Value.bool true:=r';refine ⟨rfl,OldK.of_keep λb o e=>?_,os,bare⟩;cases q:H b with
    |none=>exact un.keep b o e q (by intro z;exact absurd (show b∈([]:List Addr) from z) (by simp)) (by simp)
    |some u =>
     rcases hO b with z | ⟨ob,xs,z⟩
     ·rw [q] at z;cases z
     ·have z2:=un.frzs b ob _ z;obtain ⟨e1,_⟩:=hok b _ z;obtain ⟨e2,_⟩:=hok' b _ z2;rw [e] at e1;cases e1;exact e2
 cases hk:K.lookup a with
 |some o =>
  have e:=KX a o hk;rw [ha] at e;cases e;refine core (λ_=>none) (λ_=>.inl rfl) (.inr ⟨_,vs.toArray,_,hk,rfl,rfl,rfl,by rw [Yam,lenV];exact hl,by simpa using rv⟩) (λb u z=>by have z':(none:Option HO)=some u:=z;cases z') (λb z=>absurd rfl z) λz=>absurd rfl z
 |none =>
  refine core (λb=>if b=a then some (.frz { cls:=.type "list",data:=.seq vs.toArray } (.lst (ns.map V.int))) else none) (λb=>?_) (.inl (.inr ⟨{ cls:=.type "list",data:=.seq vs.toArray },Ya7 rfl⟩)) (λb u z=>?_) (λb z=>?_) λ_=>hk
  ·by_cases hb:b=a
   ·exact .inr ⟨_,_,Ya7 hb⟩
   ·exact .inl (Ya6 hb)
  ·by_cases hb:b=a
   ·have z':=(Ya7 hb).symm.trans z;cases z';subst hb;exact ⟨ha,by rw [Yaa];exact hl,vs,_,rv,ha⟩
   ·have z':=(Ya6 hb).symm.trans z;cases z'
  ·by_cases hb:b=a
   ·exact hb
   ·exact absurd (Ya6 hb) z
open PySem PySem.Spec PyProof.Rows
theorem Znw {l:PySem.W.OpenLaw}{n k:Nat}{q:Program}{loose:List Str}{XP:(Str->Option Value)->Heap->Prop}{YP:World->Heap->Prop}{d:DefRec}{K:Params->Yab}{CX:World->CXT}{sp:World->Sp}{x:Str}
  (hn:l.most=some n) (hn2:n<=sizeLine) (hdf:d.params.defaults=[]) (hr:Room k callerA)
  (hY:∀ (w:World) (h:Heap),YP w h->(K w.params).In h)
  (F:∀ (w:World) (mg:Str->Option Value) (fa:Addr) (h:Heap),(K w.params).In h->h.Ns mainGlobals mg->mg d.name=some (.ref fa) ->
   ∃ fd:FuncData,(∀ (s:Shared) (u:Value),BindsTo s fd ⟨[u],[]⟩ [(x,u)]) /\
    ∀ base:Heap,(K w.params).In base->base.Ns mainGlobals mg->FnOk l.prog w (K w.params) mg base (CX w) k fa fd [x] (sp w))
  (hsp:∀ (w:World) (H:Hp) (a:Addr) (ns:List Int),ns.length<=n->Only H->SqL (K w.params) H a (ns.map V.int)->sp w [.ref a] H (λv _=>v=.bl true) λ_ _ _=>False)
  (hCX:∀ (w:World) (H:Hp) (s:Shared) (e:Value) (s':Shared),CX w [] H s (λ_ _ _=>False) e s'->False) :
  PySem.W.WalkO q loose XP YP l.row.toRowW d [] (λf vs=>PySem.call f vs):=by
 refine Att.attach_call hn hdf λw s₀ s₁ mg mb fa o pm cd doc a vs ns G Y ho hd hcd hmg hobj hints hlen hg=>?_;have KX:=hY w _ Y;obtain ⟨fd,hb,hF⟩:=F w mg fa _ KX G.T.g hmg;exact Zmn KX G.T.g G.T.b G.T.builtins G.T.nolimit hg hobj hints (Yay hlen hn2) hr hF hb (λH hO hS=>hsp w H a ns hlen hO hS) λH e s'=>hCX w H s₁ e s'
open PySem PySem.Spec PyProof.Rows
def Zca (s:Stmt):Arguments:=match s with
 | .FunctionDef _ a _ _ _ _ _ _ _ _=>a
 |_=>{ posonlyargs:=[],args:=[],vararg:=none,kwonlyargs:=[],kw_defaults:=[],kwarg:=none,defaults:=[] }
def ZaQ (s:Stmt):List Stmt:=match s with
 | .FunctionDef _ _ b _ _ _ _ _ _ _=>b
 |_=>[]
def Zae (s:Stmt):Scope:=match s with
 | .FunctionDef _ _ _ _ _ _ sc _ _ _=>sc
 |_=>{ kind:=.function,names:=[],isGenerator:=false,isCoroutine:=false }
abbrev CX0:CXT:=λ_ _ _ _ _ _=>False
abbrev E0:XK:=λ_ _ _=>False
theorem Zid {X:Cx}:ZcP CX0 X E0:=λ_ _ _ _ _ _ _ h=>h.elim
structure Fun (K:Yab) (x qual:Str) (st:Stmt) (f:Addr) (fd:FuncData):Prop where
 ex:∃ (oc:Value) (od:Option Addr) (kV doc pm:Value) (an:Option Addr) (cdv ct:Value) (osl:Array (Option Value)),
  fd=PySem.W.fnOf x qual (Zca st) (ZaQ st) (Zae st) .none kV doc pm an cdv ct/\K.lookup f=some ⟨oc,od,.func fd,osl⟩/\PySem.W.codeIn K cdv qual=true
 kp:PySem.W.keepIn K (.ref f)=true
section
variable {P:Program}{w:World}{K:Yab}{mg:Str->Option Value}{base:Heap}
theorem Fun.ok {x qual:Str}{st:Stmt}{f:Addr}{fd:FuncData}{N ps:List Str}{k:Nat}{sp:Sp} (F:Fun K x qual st f fd) (S:FnScope N ps (Zae st)) (len:∀ vs H Q E,sp vs H Q E->vs.length=ps.length)
  (hbody:∀ (cdv:Value) (A:Around) (outer:List Env) (s:Shared) (H:Hp) (vs:List V) (Q:VK) (E:XK),Room k (A.deeper (envOfC qual (Zae st) s.heap.objs.size f cdv))->sp vs H Q E ->
   ∃ t,PSs (cxOf CX0 P w K mg base N qual (Zae st) f cdv A outer s H E).nox (ZaQ st) t/\t { nx:=λ_ H'=>Q .non H',rt:=Q } (Zdc N vs) H):FnOk P w K mg base CX0 (k+1) f fd ps sp:=by
 obtain ⟨oc,od,kV,doc,pm,an,cdv,ct,osl,rfl,lk,hcd⟩:=F.ex;refine ZoP lk hcd S len λA outer s H vs Q E hr hsp=>?_;obtain ⟨t,h,q⟩:=hbody cdv A outer s H vs Q E hr hsp;exact ⟨t,h.nox,q⟩
theorem Fun.binds {x qual:Str}{st:Stmt}{f:Addr}{fd:FuncData}{ps:List Str} (F:Fun K x qual st f fd)
  (h:∀ (kV doc pm:Value) (an:Option Addr) (cdv ct:Value) (us:List Value),us.length=ps.length->bindArgs (PySem.W.fnOf x qual (Zca st) (ZaQ st) (Zae st) .none kV doc pm an cdv ct) ⟨us,[]⟩=pure (ps.zip us)):Binds K fd ps []:=by
 obtain ⟨oc,od,kV,doc,pm,an,cdv,ct,osl,rfl,lk,hcd⟩:=F.ex;exact .all (h kV doc pm an cdv ct)
theorem Znk {x qual:Str}{st:Stmt}{f:Addr}{oc:Value}{od an:Option Addr}{osl:Array (Option Value)}{kV doc pm cdv ct:Value} (l:K.lookup f=some ⟨oc,od,.func (PySem.W.fnOf x qual (Zca st) (ZaQ st) (Zae st) .none kV doc pm an cdv ct),osl⟩)
  (c:PySem.W.codeIn K cdv qual=true) (k:PySem.W.keepIn K (.ref f)=true):Fun K x qual st f (PySem.W.fnOf x qual (Zca st) (ZaQ st) (Zae st) .none kV doc pm an cdv ct):=⟨⟨oc,od,kV,doc,pm,an,cdv,ct,osl,rfl,l,c⟩,k⟩
end
theorem ZaD {n:Nat} (h:n<=1000):n<sizeLine:=YaZ h (by decide)
section
variable {X:Cx}
theorem pv (i:Nat) {x:Str}{pos:Pos} (hN:X.N[i]? = some x:=by rfl) (hv:Vis X.env.scope x:=by first | exact Or.inl rfl | exact Or.inr (Or.inl rfl) | exact Or.inr (Or.inr rfl)) (hd:(x == ("__debug__" : Str))=false:=by decide)
  (hcd:(x == ("__classdict__" : Str))=false:=by decide):PE X (.Name x pos) (tVar i):=Zp1 hN hv hd hcd
end
theorem iteF {A B:Prop} (h:B):if false=true then A else B:=by
 rw [Ya6 Yaq];exact h
theorem iteT {A B:Prop} (h:A):if true=true then A else B:=by
 rw [Ya7 rfl];exact h
theorem ite2 {c A B:Prop} [Decidable c] (h1:c->A) (h2:¬ c->B):if c then A else B:=by
 by_cases h:c
 ·rw [Ya7 h];exact h1 h
 ·rw [Ya6 h];exact h2 h
def Same (H H':Hp):Prop:=∀ b o,H b=some o->H' b=some o
theorem Same.refl (H:Hp):Same H H:=λ_ _ h=>h
theorem Same.trans {H H1 H2:Hp} (a:Same H H1) (b:Same H1 H2):Same H H2:=λc o h=>b c o (a c o h)
theorem Same.free {H H':Hp} (e:Same H H') {l:Addr} (h:H' l=Option.none):H l=Option.none:=by
 cases q:H l with
 |none=>rfl
 |some o =>
  rw [e l o q] at h;cases h
theorem Same.seq {K:Yab}{H H':Hp}{a:Addr}{xs:List V} (e:Same H H') (h:SqL K H a xs):SqL K H' a xs:=by
 rcases h with (h | ⟨o,h⟩) | h
 ·exact .inl (.inl (e _ _ h))
 ·exact .inl (.inr ⟨o,e _ _ h⟩)
 ·exact .inr h
end L2
namespace L2
open PySem PySem.Spec PyProof.Rows
def Cx.comp (X:Cx) (N':List Str) (scope:Scope) (cl:List (Str × Addr)) (C:Addr) (s2:Shared) (H2:Hp) (ex:List Addr):Cx :=
 { X with N:=N',s₀:=s2,H₀:=H2,env:=compEnvC scope cl C X.env,outer:=X.stack,ex:=ex,fn:=λ_=>false,pn:=[],xe:=λ_ _=>False }
theorem Zc4 {env:Env}:∀ (names:List (Str × NameKind)) (acc:List (Str × Addr)),(∀ y∈names,y.2=.free->∃ c,env.cells.lookup y.1=some c) ->
  (∀ x c,acc.lookup x=some c->env.cells.lookup x=some c) ->
  ∃ cl,(forIn names acc λ(x:Str × NameKind) (cs:List (Str × Addr))=>(match x with
   | (name,kind)=>if (kind == NameKind.free)=true then do let c <- cellOf env name;pure (ForInStep.yield ((name,c) :: cs)) else pure (ForInStep.yield cs):Sem (ForInStep (List (Str × Addr)))))=pure cl /\
   (∀ x c,cl.lookup x=some c->env.cells.lookup x=some c)/\(∀ x c,acc.lookup x=some c->cl.lookup x=some c) /\
   (∀ x,(x,NameKind.free)∈names->∃ c,cl.lookup x=some c)
 | [],acc,_,h2=>⟨acc,rfl,h2,λ_ _ h=>h,λ_ h=>nomatch h⟩
 | (n,k) :: r,acc,h1,h2=>by
  rw [List.forIn_cons];dsimp only
  by_cases hk:(k == NameKind.free)=true
  ·have hk':k=NameKind.free:=by simpa using hk
   obtain ⟨c,hc⟩:=h1 (n,k) YaM hk';have e:cellOf env n=pure c:=by unfold cellOf;rw [hc]
   obtain ⟨cl,e1,e2,e3,e4⟩:=Zc4 r ((n,c) :: acc) (λy hy=>h1 y (Yas _ hy)) (λx d hd=>by
    rw [List.lookup_cons] at hd;cases hx:x == n with
    |true =>
     rw [hx] at hd;have:x=n:=by simpa using hx
     subst this;cases hd;exact hc
    |false =>
     rw [hx] at hd
     exact h2 x d hd)
   have self:cl.lookup n=some c:=e3 n c (by rw [List.lookup_cons];simp);refine ⟨cl,?_,e2,λx d hd=>?_,λx hx=>?_⟩
   ·rw [Ya7 hk,e,pure_bind,pure_bind];exact e1
   ·by_cases hx:x=n
    ·subst hx;have:=h2 x d hd;rw [hc] at this;cases this;exact self
    ·exact e3 x d (by rw [List.lookup_cons];simp only [show (x == n)=false by simpa using hx];exact hd)
   ·rcases YaF.mp hx with z | z
    ·cases z;exact ⟨c,self⟩
    ·exact e4 x z
  ·obtain ⟨cl,e1,e2,e3,e4⟩:=Zc4 r acc (λy hy=>h1 y (Yas _ hy)) h2;refine ⟨cl,?_,e2,e3,λx hx=>?_⟩
   ·rw [Ya6 hk,pure_bind];exact e1
   ·rcases YaF.mp hx with z | z
    ·cases z;exact absurd rfl hk
    ·exact e4 x z
theorem Zc3 {scope:Scope}{env:Env} (h:∀ y∈scope.names,y.2=.free->∃ c,env.cells.lookup y.1=some c) :
  ∃ cl,closureFor scope env=pure cl/\(∀ x c,cl.lookup x=some c->env.cells.lookup x=some c)/\(∀ x,(x,NameKind.free)∈scope.names->∃ c,cl.lookup x=some c):=by
 obtain ⟨cl,e1,e2,e3,e4⟩:=Zc4 (env:=env) scope.names [] h (λx c hc=>by simp at hc);refine ⟨cl,?_,e2,e4⟩;unfold closureFor;simp only [bind_pure];exact e1
theorem Zcp {env:Env}{x:Str}{k:NameKind}:∀ {names:List (Str × NameKind)},
  (names.map λ(n,k)=>if (k == NameKind.free && env.scope.kind == .function && env.kindOf n == some .cell) then (n,NameKind.cell) else (n,k)).lookup x=some k ->
  ∃ k',names.lookup x=some k'/\(k'=k\/k'=.free/\k=.cell)
 | [],h=>by simp at h
 | (n,j) :: r,h=>by
  rw [Yaw] at h;dsimp only at h;have ih:=@Zcp env x k r
  by_cases hc:(j == NameKind.free && env.scope.kind == .function && env.kindOf n == some .cell)=true
  ·rw [Ya7 hc,List.lookup_cons] at h;rw [List.lookup_cons];cases hx:x == n with
   |true =>
    rw [hx] at h;cases h;simp only [Yaj] at hc;exact ⟨j,rfl,.inr ⟨by simpa using hc.1.1,rfl⟩⟩
   |false =>
    rw [hx] at h;exact ih h
  ·rw [Ya6 hc,List.lookup_cons] at h;rw [List.lookup_cons];cases hx:x == n with
   |true =>
    rw [hx] at h;cases h;exact ⟨_,rfl,.inl rfl⟩
   |false =>
    rw [hx] at h;exact ih h
theorem Zb6 {env:Env}{x:Str}:∀ {names:List (Str × NameKind)},names.lookup x=some .free ->
  (names.map λ(n,k)=>if (k == NameKind.free && env.scope.kind == .function && env.kindOf n == some .cell) then (n,NameKind.cell) else (n,k)).lookup x=some .cell \/
  (names.map λ(n,k)=>if (k == NameKind.free && env.scope.kind == .function && env.kindOf n == some .cell) then (n,NameKind.cell) else (n,k)).lookup x=some .free
 | [],h=>by simp at h
 | (n,j) :: r,h=>by
  rw [Yaw];dsimp only;have ih:=@Zb6 env x r;rw [List.lookup_cons] at h
  by_cases hc:(j == NameKind.free && env.scope.kind == .function && env.kindOf n == some .cell)=true
  ·rw [Ya7 hc,List.lookup_cons];cases hx:x == n with
   |true=>exact .inl rfl
   |false=>rw [hx] at h;exact ih h
  ·rw [Ya6 hc,List.lookup_cons];cases hx:x == n with
   |true=>rw [hx] at h;cases h;exact .inr rfl
   |false=>rw [hx] at h;exact ih h
theorem ZfX {prog:Program}{w:World}{A:Around}{R:Result->Shared->Prop}{s:Shared}{elt target iter:Expr}{ifs:List Expr}{scope:Scope}{pos:Pos}{it acc:Value}{env:Env} (I:Nat->Shared->Prop)
  (turn:∀ n s,I n s->wpAny (model prog w) A (pyNext it) (λr s₁=>match r with
   |none=>R (.ok .next) s₁
   |some v=>wpAny (model prog w) A (letOwnedTupleGo target it v) (λ_ s₁'=>wpAny (model prog w) A (assign target env v) (λ_ s₂ =>
     wpAny (model prog w) A (forIn ifs true λc r=>if r=true then do let ok <- isTrue c env (eval c env);pure (ForInStep.yield ok) else pure (ForInStep.yield r)) (λok s₃ =>
      if ok=true then wpAny (model prog w) A (eval elt env) (λx s₄ =>
       wpAny (model prog w) A (call (.builtin "list.append") [acc,x]) (λ_ s₅=>∃ m,m<n/\I m s₅) (λ_ _=>False) s₄) (λ_ _=>False) s₃
      else ∃ m,m<n/\I m s₃) (λ_ _=>False) s₂) (λ_ _=>False) s₁') (λ_ _=>False) s₁) (λ_ _=>False) s)
  (n:Nat) (h:I n s) :
  codeAny (model prog w) A (.compLoop (.ListComp elt [⟨target,iter,ifs,0⟩] scope pos) 0 it acc env) R s:=by
 refine codeAny_loop rfl I (λn s hI=>?_) n h;show wpAny _ A ((compTurn (.ListComp elt [⟨target,iter,ifs,0⟩] scope pos) 0 it acc env).onRaise (λx=>do noteFrame x env;theTreesLotGoes x)) _ _ s;refine wpAny_noted ?_;rw [compTurn_list];refine Ya3 (wpAny_standAt (Ya3 (Ya9 (turn n s hI) (λr s₁ h₁=>?_) λ_ _ h'=>h'.elim)));cases r with
 |none=>exact Ya8 h₁
 |some v =>
  refine Ya3 (Ya9 h₁ (λ_ s₁' h₁'=>?_) λ_ _ h'=>h'.elim);refine Ya3 (Ya9 h₁' (λ_ s₂ h₂=>Ya3 (Ya9 h₂ (λok s₃ h₃=>?_) λ_ _ h'=>h'.elim)) λ_ _ h'=>h'.elim);cases ok with
  |false=>exact Ya8 ⟨rfl,h₃⟩
  |true =>
   exact Ya3 (Ya3 (Ya9 h₃ (λx s₄ h₄=>Ya3 (Ya9 h₄ (λ_ s₅ h₅=>Ya8 (Ya8 ⟨rfl,h₅⟩)) λ_ _ h'=>h'.elim)) λ_ _ h'=>h'.elim))
end L2
namespace L2
open PySem PySem.Spec PyProof.Rows
def pick (σ:St):Option Nat->Option V
 |none=>none
 |some i=>(σ[i]?).getD none
theorem Zfs {σ:St}{j:Nat}{v:V} (h:pick σ (some j)=some v):σ[j]? = some (some v):=by
 have h:(σ[j]?).getD none=some v:=h;cases e:σ[j]? with
 |none=>rw [e] at h;cases h
 |some o=>rw [e] at h;exact congrArg some h
def ZfW (osc scope:Scope) (N Nb:List Str) (ix:List (Option Nat)):Bool :=
 decide (scope.kind=.function) && scope.names.all (λy=>decide (y.2≠.cell)) &&
 scope.names.all (λy=>decide (y.2=.local->scope.names.lookup y.1=some .local)) &&
 scope.names.all (λy=>decide (y.2=.free->osc.names.lookup y.1=some .cell\/osc.names.lookup y.1=some .free)) &&
 decide (ix.length=Nb.length) &&
 (List.range Nb.length).all (λi=>match ix[i]? with
  |some (some j)=>match Nb[i]? with
   |some x=>decide (N[j]? = some x/\scope.names.lookup x=some .free)
   |none=>true
  |_=>true)
structure CompOk (osc scope:Scope) (N Nb:List Str) (ix:List (Option Nat)):Prop where
 kind:scope.kind=.function
 nocell:∀ y∈scope.names,y.2≠.cell
 names:∀ y∈scope.names,y.2=.local->scope.names.lookup y.1=some .local
 fr:∀ y∈scope.names,y.2=.free->osc.names.lookup y.1=some .cell\/osc.names.lookup y.1=some .free
 len:ix.length=Nb.length
 src:∀ (i j:Nat) (x:Str),Nb[i]? = some x->ix[i]? = some (some j)->N[j]? = some x/\scope.names.lookup x=some .free
theorem ZdV {osc scope:Scope}{N Nb:List Str}{ix:List (Option Nat)} (h:ZfW osc scope N Nb ix=true):CompOk osc scope N Nb ix:=by
 unfold ZfW at h;simp only [Yaj] at h;obtain ⟨⟨⟨⟨⟨h1,h2⟩,h3⟩,h4⟩,h5⟩,h6⟩:=h;refine ⟨of_decide_eq_true h1,λy hy=>of_decide_eq_true (YaO.mp h2 y hy),λy hy=>of_decide_eq_true (YaO.mp h3 y hy),λy hy=>of_decide_eq_true (YaO.mp h4 y hy),of_decide_eq_true h5,λi j x e1 e2=>?_⟩;have hi:i<Nb.length:=(Yai.mp e1).1;have q:=YaO.mp h6 i (List.mem_range.mpr hi);rw [e2] at q;simp only [e1] at q;exact of_decide_eq_true q
def PIfs (X:Cx) (ifs:List Expr) (t:TT):Prop :=
 ∀ (pins:List (Addr × Obj)) (s:Shared) (σ:St) (H:Hp) (Q:Bool->Hp->Prop),Inv X pins σ H s->t σ H Q ->
  wpAny (model X.prog X.w) X.A (forIn ifs true λc r=>if r=true then do let ok <- isTrue c X.env (eval c X.env);pure (ForInStep.yield ok) else pure (ForInStep.yield r)) (TP X pins σ Q) X.xe s
def Zbe:TT:=λ_ H Q=>Q true H
theorem Zaw {X:Cx}:PIfs X [] Zbe:=λ_ _ _ H _ I h=>wpAny_tests_nil ⟨H,I,h⟩
theorem Zce {X:Cx}{c:Expr}{t:TT} (h:PT X c t):PIfs X [c] t:=λpins s σ H Q I hq=>wpAny_tests_one (h pins s σ H Q I hq)
def ZaR (J:It) (g:TG) (tc:TT) (te:TE) (σ0:St) (H1:Hp) (Q:VK):Prop:=∀ D,H1 D=none ->
 ∃ W:Nat->Nat->List V->St->Hp->Prop,(∃ m,W 0 m [] σ0 (upd H1 D (.lst []))) /\
  ∀ i m ys σ' H',W i m ys σ' H'->H' D=some (.lst ys)/\((J.stop i H'/\Q (.ref D) H')\/(J.go i H'/\∀ x H2,J.yld i H' x H2->g x σ' H2 λσ2 H3=>tc σ2 H3 λb H4 =>
   if b=true then te σ2 H4 λy H5=>H5 D=some (.lst ys)/\ys.length<sizeLine/\∃ m',m'<m/\W (i+1) m' (ys ++ [y]) σ2 (upd H5 D (.lst (ys ++ [y])))
   else ∃ m',m'<m/\W (i+1) m' ys σ2 H4))
def Zpr (wi:TI) (g:TG) (tc:TT) (te:TE) (ix:List (Option Nat)):TE:=λσ H Q=>wi σ H λJ H1=>ZaR J g tc te (ix.map (pick σ)) H1 Q
section
variable {X:Cx}{N':List Str}{scope osc:Scope}{cl:List (Str × Addr)}{C:Addr}{ex:List Addr}{ix:List (Option Nat)}{pins:List (Addr × Obj)}{σ:St}{H2:Hp}{s2:Shared}
theorem ZkX (I2:Inv X pins σ H2 s2) (K:CompOk X.env.scope scope X.N N' ix) (e2:∀ x c,cl.lookup x=some c->X.env.cells.lookup x=some c) (e3:∀ x,(x,NameKind.free)∈scope.names->∃ c,cl.lookup x=some c)
  (hC:s2.heap.objs.size<=C) (f2:∀ b∈ex,FpOk X pins H2 b) (hex:∀ b∈ex,b<s2.heap.objs.size):(X.comp N' scope cl C s2 H2 ex).Ok where
 mod:=I2.ok.mod
 kind:=K.kind
 glob:=I2.ok.glob
 blt:=I2.ok.blt
 above:=hC
 inj:=λx y c h1 h2=>I2.ok.inj x y c (e2 x c h1) (e2 y c h2)
 has:=λx hx=>by
  have key:∀ k,(relabel scope X.env).names.lookup x=some k->k=.cell\/k=.free->∃ c,cl.lookup x=some c:=λk hk hk2=>by
   obtain ⟨k',h1,h2⟩:=Zcp hk;have hm:=PySem.mem_of_lookup h1;rcases h2 with rfl | ⟨rfl,rfl⟩
   ·rcases hk2 with rfl | rfl
    ·exact absurd rfl (K.nocell _ hm)
    ·exact e3 x hm
   ·exact e3 x hm
  rcases hx with hx | hx
  ·exact key _ hx (.inl rfl)
  ·exact key _ hx (.inr rfl)
 cab:=λx c h=>by cases h
 hd:=I2.ok.hd
 frames:=I2.ok.frames
 stk:=.inl rfl
 exf:=λb hb=>⟨Yap (Yan (hex b hb) hC),λx c h=>(f2 b hb).2.2.2.2.1 x c (e2 x c h)⟩
 bs:=I2.bs
 bsz:=Yay I2.ok.bsz I2.sz
 noex:=λb o e hb=>by
  rcases (f2 b hb).2.2.2.1 with z | z
  ·exact I2.ok.noex b o e z
  ·exact absurd (Yan (Yal (I2.ok.bs b o e).1) z) (Ybq _)
 exfs:=λb hb hf=>by
  rcases YaF.mp (I2.stkSub b hf) with z | z
  ·exact (f2 b hb).2.1 z
  ·exact (f2 b hb).2.2.1 z
 funs:=I2.stack
 frf:=I2.stkFree
theorem Zdn (I2:Inv X pins σ H2 s2) (f2:∀ b∈ex,FpOk X pins H2 b) (hC:s2.heap.objs.size<=C) {σ3:St}{H3:Hp}{s4:Shared}{h':Heap}
  (J:Inv (X.comp N' scope cl C s2 H2 ex) [] σ3 H3 s4) (sb:Heap.SameBut C s4.heap h'):Inv X pins σ H3 { s4 with heap:=h' }:=by
 have ne:∀ b o,s2.heap.get? b=some o->b≠C:=λb o e=>Yap (Yan (Yal e) hC);have B:=J.base;have fr:H3 C=none:=J.free;refine I2.call' (s':={ s4 with heap:=h' }) (ch:=ex) J.os ⟨λb o e n hb hx=>?_,λb o e n hb hx=>?_,B.free,λb o e hx=>?_,B.tups,B.frzs,B.tbls⟩ ?_ J.bare λb hb=>?_
 ·exact (sb.2 b (ne b o e)).trans (B.keep b o e n hb hx)
 ·obtain ⟨sl,q⟩:=B.slot b o e n hb hx;exact ⟨sl,(sb.2 b (ne b o e)).trans q⟩
 ·obtain ⟨o',q⟩:=B.there b o e hx;exact ⟨o',(sb.2 b (ne b o e)).trans q⟩
 ·intro b ob e;refine (J.hok b ob e).stay (λc w' hc q=>(sb.2 c ?_).trans q) (λ_ q=>q) λ_ _ q=>q;rintro rfl;rcases hc with rfl | hc
  ·rw [fr] at e;cases e
  ·rw [fr] at hc;cases hc
 ·obtain ⟨_,f1,_,f3,f4,f5⟩:=f2 b hb;exact ⟨f3,f1,f4,f5⟩
end
theorem Zeg {X:Cx}{tg iter elt:Expr}{ifs:List Expr}{scope:Scope}{pos:Pos}{g:TG}{tc:TT}{te:TE}{N':List Str}{ix:List (Option Nat)}{pins:List (Addr × Obj)}{σ:St}{s2:Shared}{itv:Value}{Q:VK}{cl:List (Str × Addr)}
  {RR:Value->Addr->Result->Shared->Prop} (hc:X.calm=true) (K:CompOk X.env.scope scope X.N N' ix) (e2:∀ x c,cl.lookup x=some c->X.env.cells.lookup x=some c) (e3:∀ x,(x,NameKind.free)∈scope.names->∃ c,cl.lookup x=some c)
  (hg:∀ cl C s2 H2 ex,PG (X.comp N' scope cl C s2 H2 ex) tg g) (ht:∀ cl C s2 H2 ex,PIfs (X.comp N' scope cl C s2 H2 ex) ifs tc) (he:∀ cl C s2 H2 ex,PE (X.comp N' scope cl C s2 H2 ex) elt te)
  (h2:PIE X pins σ tg (λJ H1=>ZaR J g tc te (ix.map (pick σ)) H1 Q) itv s2)
  (hRR:∀ H2 fp C D σ3 H3 s4,Inv X pins σ H2 s2->(∀ b∈fp,FpOk X pins H2 b)->s2.heap.objs.size<=C->Inv (X.comp N' scope cl C s2 H2 fp) [] σ3 H3 s4->Q (.ref D) H3->RR (.ref D) C (.ok .next) s4) :
  wpAny (model X.prog X.w) X.A (newList []) (λacc s₃=>wpAny (model X.prog X.w) X.A (newFunctionEnv scope X.env.globals cl [] X.env.qual none .none (some X.env)) (λcenv s₄ =>
   codeAny (model X.prog X.w) X.A (.compStart (.ListComp elt [⟨tg,iter,ifs,0⟩] scope pos) 0 itv acc { cenv with scope:=relabel scope X.env }) (RR acc cenv.locals) s₄) X.xe s₃) X.xe s2:=by
 obtain ⟨it,fp,tn,J,H2,rfl,I2,T,st2,f2,q⟩:=h2;refine wpAny_newObj_type (wpAny_newFunctionEnv K.nocell (by intro y hy;simp at hy) (λh1 hns1 hsb1=>?_) K.kind);dsimp only at hns1 hsb1 ⊢;generalize hP:s2.heap.push { cls:=.type "list",dict:=none,data:=.seq ([]:List Value).toArray }=P2 at hns1 hsb1 ⊢;have hCs:P2.objs.size=s2.heap.objs.size+1:=by rw [<- hP,Heap.size_push]
 have hC:s2.heap.objs.size<=P2.objs.size:=by omega
 have hDC:s2.heap.objs.size≠P2.objs.size:=by omega
 have old:∀ b o,s2.heap.get? b=some o->h1.get? b=some o:=λb o e =>
  hsb1.extBut b o (Yap (Yan (Yal e) hC)) (Yad _ (hP ▸ Yad _ e))
 have hacc:h1.get? s2.heap.objs.size=some { cls:=.type "list",dict:=none,data:=.seq ([]:List Value).toArray } :=
  hsb1.extBut _ _ hDC (Yad _ (hP ▸ Yao _ rfl))
 have hD:H2 s2.heap.objs.size=none:=I2.hok.fresh (Yag _);have hCn:H2 P2.objs.size=none:=I2.hok.fresh hC;obtain ⟨W,⟨m0,w0⟩,turn⟩:=q s2.heap.objs.size hD;have hex:∀ b∈fp,b<s2.heap.objs.size:=λb hb=>by
  obtain ⟨o,e,_⟩:=T.obj 0 _ st2 b hb;exact Yal e
 have YOk:=ZkX (cl:=cl) (C:=P2.objs.size) (ex:=fp) I2 K e2 e3 hC f2 hex;have hok1:HOk X.prog X.w (upd H2 s2.heap.objs.size (.lst [])) h1:=I2.hok.laid old (Yag _) ⟨YaH _,[],0,.nil,hacc⟩;have IY:Inv (X.comp N' scope cl P2.objs.size s2 H2 fp) [] (ix.map (pick σ)) (upd H2 s2.heap.objs.size (.lst [])) { s2 with heap:=h1,toks:=s2.toks+([]:List (Str × Value)).length }:=by
  refine ⟨YOk,rfl,I2.bare,?_,⟨_,hns1,λi x v e1 e4 e5=>?_⟩,λx c e=>?_,?_,λx c e=>?_,λp hp=>absurd (show p∈([]:List (Addr × Obj)) from hp) (by simp),hok1,?_⟩
  ·exact (Un.laid old (Yag _) hD).mono (λ_ z=>z) (λ_ z=>z)
  ·rw [Yaf] at e4;cases e6:ix[i]? with
   |none=>rw [e6] at e4;cases e4
   |some o =>
    rw [e6] at e4;cases o with
    |none=>cases (Yae e4)
    |some j =>
     have e7:σ[j]? = some (some v):=Zfs (Yae e4);obtain ⟨n1,n2⟩:=K.src i j x e1 e6;have hm:=PySem.mem_of_lookup n2;have kx:=K.fr _ hm rfl;obtain ⟨m,hn,hl⟩:=I2.loc;obtain ⟨u,r,l⟩:=hl j x v n1 e7 (kx.elim (λz=>.inr (.inl z)) λz=>.inr (.inr z));refine ⟨u,r,.inr ⟨?_,?_⟩⟩
     ·exact Zb6 n2
     ·rcases l with ⟨k1,_⟩ | ⟨_,c,hc1,hc2⟩
      ·exfalso;have k1':X.env.scope.names.lookup x=some .local:=k1;rcases kx with z | z
       ·rw [k1'] at z;cases z
       ·rw [k1'] at z;cases z
      ·obtain ⟨c',hc'⟩:=e3 x hm;have e8:=e2 x c' hc';rw [hc1] at e8;cases e8;obtain ⟨o,ho,hd⟩:=hc2;exact ⟨c,hc',o,old _ _ ho,hd⟩
  ·obtain ⟨v,o,ho,hd⟩:=I2.cell x c (e2 x c e);exact ⟨v,o,old _ _ ho,hd⟩
  ·show upd H2 s2.heap.objs.size (.lst []) P2.objs.size=none;rw [Zai (Ne.symm hDC)];exact hCn
  ·obtain ⟨v,z⟩:=I2.cell x c (e2 x c e);rw [Zai (Yap z.lt)];exact I2.freeC x c (e2 x c e)
  ·rw [Yaa];exact K.len
 have hnf:∀ b∈fp,b≠P2.objs.size:=λb hb=>Yap (Yan (hex b hb) hC);have stat:∀ {H':Hp},(∀ b∈fp,H' b=none)->∀ b∈fp,FpOk (X.comp N' scope cl P2.objs.size s2 H2 fp) [] H' b:=λhn b hb =>
  ⟨hn b hb,hnf b hb,YOk.exfs b hb,.inl hb,λx c e=>(f2 b hb).2.2.2.2.1 x c (e2 x c e),λp hp=>absurd (show p∈([]:List (Addr × Obj)) from hp) (by simp)⟩
 have loop:∀ s₃:Shared,s₃ = { s2 with heap:=h1,toks:=s2.toks+([]:List (Str × Value)).length } ->
   codeAny (model X.prog X.w) X.A (.compLoop (.ListComp elt [⟨tg,iter,ifs,0⟩] scope pos) 0 (.ref it) (.ref s2.heap.objs.size) (compEnvC scope cl P2.objs.size X.env))
    (RR (.ref s2.heap.objs.size) P2.objs.size) s₃:=by
  rintro s₃ rfl;refine ZfX (λn s'=>∃ i ys σ' H',Inv (X.comp N' scope cl P2.objs.size s2 H2 fp) [] σ' H' s'/\tn i s'.heap/\(∀ b∈fp,H' b=none)/\W i n ys σ' H') ?_ m0
   ⟨0,[],_,_,IY,T.keep _ _ _ st2 (λb hb o e=>old b o e),λb hb=>?_,w0⟩
  ·rintro n s3 ⟨i,ys,σ3,H3,I3,st3,fr3,w3⟩;obtain ⟨hDl,tt⟩:=turn i n ys σ3 H3 w3;rcases tt with ⟨stop,qn⟩ | ⟨go,step⟩
   ·refine thn (T.done (X.comp N' scope cl P2.objs.size s2 H2 fp) rfl rfl rfl hc i [] s3 σ3 H3 (λ_ _=>False) I3 (stat fr3) st3 stop) λr s4 ⟨hr,I4⟩=>?_;subst hr;exact hRR H2 fp P2.objs.size s2.heap.objs.size σ3 H3 s4 I2 f2 hC I4 qn
   ·refine thn (T.item (X.comp N' scope cl P2.objs.size s2 H2 fp) rfl rfl rfl hc i [] s3 σ3 H3 (λ_ _=>False) I3 (stat fr3) st3 go) λr s4 ⟨u,hr,h4⟩=>?_;subst hr;refine thn h4 λ_ s5 ⟨x,H5,I5,r5,y5,st5,fr5⟩=>?_;have I5':=I5.pinned (stat fr5) (T.obj _ _ st5);refine thn (hg cl P2.objs.size s2 H2 fp _ s5 σ3 H5 x u _ I5' r5 (step x H5 y5)) λ_ s6 ⟨σ6,H6,I6,q6⟩=>?_;refine thn (ht cl P2.objs.size s2 H2 fp _ s6 σ6 H6 _ I6 q6) λb s7 ⟨H7,I7,q7⟩=>?_;have again:∀ {s8:Shared}{H8:Hp}{ys':List V}{m':Nat},Inv (X.comp N' scope cl P2.objs.size s2 H2 fp) ([] ++ Zec fp s5.heap) σ6 H8 s8->m'<n->W (i+1) m' ys' σ6 H8 ->
      ∃ m,m<n/\∃ i ys σ' H',Inv (X.comp N' scope cl P2.objs.size s2 H2 fp) [] σ' H' s8/\tn i s8.heap/\(∀ b∈fp,H' b=none)/\W i m ys σ' H':=λ{s8 H8 ys' m'} I8 hm w8=>by
     refine ⟨m',hm,i+1,ys',σ6,H8,I8.unpinned,T.keep _ _ _ st5 λb hb o e=>(I8.pin (b,o) (Yaz _ (Yaz _ (Zbq hb e)))).1,λb hb=>?_,w8⟩;obtain ⟨o,e,d⟩:=T.obj _ _ st5 b hb;exact (I8.pin (b,o) (Yaz _ (Yaz _ (Zbq hb e)))).2.1
    cases b with
    |false =>
     obtain ⟨m',hm,w7⟩:∃ m',m'<n/\W (i+1) m' ys σ6 H7:=q7;exact again I7 hm w7
    |true =>
     have q7':te σ6 H7 _:=q7;show wpAny _ _ (eval elt (compEnvC scope cl P2.objs.size X.env)) _ _ _;refine thn (he cl P2.objs.size s2 H2 fp _ s7 σ6 H7 _ I7 q7') λyv s8 ⟨y,H8,I8,r8,hD8,hz8,m',hm,w8⟩=>?_;refine thn (Zbk (X:=X.comp N' scope cl P2.objs.size s2 H2 fp) _ s8 σ6 H8 (.ref s2.heap.objs.size) [y] (.ref s2.heap.objs.size) [yv] (λ_ H9=>H9=upd H8 s2.heap.objs.size (.lst (ys ++ [y]))) I8 rfl (.cons r8 .nil)
      ⟨_,ys,y,rfl,rfl,hD8,hz8,rfl⟩) λ_ s9 ⟨_,H9,I9,_,e9⟩=>?_
     subst e9;exact again I9 hm w8
  ·show upd H2 s2.heap.objs.size (.lst []) b=none;rw [Zai (Yap (hex b hb))];exact (f2 b hb).1
 exact codeAny_compStart_list (loop _ rfl) (T.self X.A 0 _ _ _ (T.keep _ _ _ st2 (λb hb o e=>old b o e)) (loop _ rfl))
theorem Zaz {X:Cx}{tg iter elt:Expr}{ifs:List Expr}{scope:Scope}{pos:Pos}{wi:TI}{g:TG}{tc:TT}{te:TE} (N':List Str) (ix:List (Option Nat)) (osc:Scope) (N:List Str)
  (hc:X.calm=true) (hi:PI X tg iter wi) (ok:ZfW osc scope N N' ix=true)
  (hg:∀ cl C s2 H2 ex,PG (X.comp N' scope cl C s2 H2 ex) tg g) (ht:∀ cl C s2 H2 ex,PIfs (X.comp N' scope cl C s2 H2 ex) ifs tc) (he:∀ cl C s2 H2 ex,PE (X.comp N' scope cl C s2 H2 ex) elt te)
  (hsc:X.env.scope=osc:=by rfl) (hN:X.N=N:=by rfl) (hs:∀ x,foldedSetIterable iter X.env x=pure x:=by intro _;rfl):PE X (.ListComp elt [⟨tg,iter,ifs,0⟩] scope pos) (Zpr wi g tc te ix):=by
 intro pins s σ H Q I h;have K0:=ZdV ok;have K:CompOk X.env.scope scope X.N N' ix:=by rw [hsc,hN];exact K0
 obtain ⟨cl,hclos,e2,e3⟩:=Zc3 (scope:=scope) (env:=X.env) (λy hy hf=>I.ok.has y.1 (K.fr y hy hf));rw [eval_ListComp];refine wpAny_comprehension_free (use:=none) rfl hs hclos K.kind K.names (Ya9 (hi pins s σ H _ I h) (λv s1 h1=>thn h1 λitv s2 h2=>?_) λ_ _ e=>e);refine Zeg hc K e2 e3 hg ht he h2 λH2 fp C D σ3 H3 s4 I2 f2 hC I4 qn=>?_;obtain ⟨m,hn,_⟩:=I4.loc;exact ⟨m,hn,λh' sb=>⟨.ref D,H3,Zdn I2 f2 hC I4 sb,rfl,qn⟩⟩
theorem Zgk {X:Cx}{tg iter elt:Expr}{ifs:List Expr}{scope:Scope}{pos spos py:Pos}{y:Str}{wi:TI}{g:TG}{tc:TT}{te:TE} (N':List Str) (ix:List (Option Nat)) (osc:Scope) (N:List Str) {i:Nat} (nd:X.N.Nodup) (hiy:X.N[i]? = some y) (hxy:Loc X.env.scope y)
  (hc:X.calm=true) (hi:PI X tg iter wi) (ok:ZfW osc scope N N' ix=true)
  (hg:∀ cl C s2 H2 ex,PG (X.comp N' scope cl C s2 H2 ex) tg g) (ht:∀ cl C s2 H2 ex,PIfs (X.comp N' scope cl C s2 H2 ex) ifs tc) (he:∀ cl C s2 H2 ex,PE (X.comp N' scope cl C s2 H2 ex) elt te)
  (hsc:X.env.scope=osc:=by rfl) (hN:X.N=N:=by rfl) (hs:∀ x,foldedSetIterable iter X.env x=pure x:=by intro _;rfl)
  (hsw:swapsWith (.ListComp elt [⟨tg,iter,ifs,0⟩] scope pos) (some (.Name y py)) spos.line X.env=pure true:=by rfl) (hf:X.fn y=true\/X.env.scope.names.lookup y=some .local:=by first | exact .inl rfl | exact .inr rfl | assumption) :
  PS X (.Assign [.Name y py] (.ListComp elt [⟨tg,iter,ifs,0⟩] scope pos) spos) (tAsg (Zpr wi g tc te ix) (ZaT i)):=by
 intro pins s σ H D I h;have K0:=ZdV ok;have K:CompOk X.env.scope scope X.N N' ix:=by rw [hsc,hN];exact K0
 obtain ⟨cl,hclos,e2,e3⟩:=Zc3 (scope:=scope) (env:=X.env) (λy hy hf=>I.ok.has y.1 (K.fr y hy hf));rw [exec_Assign_Name_used _ _ _ _ hsw];refine Ya3 (wpAny_standAt (Ya3 ?_));show wpAny _ X.A (do let _ <- comprehension (.ListComp elt [⟨tg,iter,ifs,0⟩] scope pos) scope X.env _ (newList []) false (eval iter X.env) (some (assign (.Name y py) X.env))) _ _ s;refine Ya3 (Ya9 (wpAny_comprehension_free (use:=some (assign (.Name y py) X.env)) (Q:=λ_ s'=>SP X pins D .next s') rfl hs hclos K.kind K.names
  (Ya9 (hi pins s σ H _ I h) (λv s1 h1=>thn h1 λitv s2 h2=>?_) λ_ _ e=>e)) (λ_ s' hq=>Ya8 (Ya8 hq)) λ_ _ e=>e)
 refine Zeg hc K e2 e3 hg ht he h2 λH2 fp C L σ3 H3 s4 I2 f2 hC I4 qn=>?_;have I5:Inv X pins σ H3 s4:=Zdn I2 f2 hC I4 (Heap.SameBut.refl ..);obtain ⟨m,hn,_⟩:=I4.loc;have hn:s4.heap.Ns C m:=hn;have fC:FpOk X pins H3 C:=I2.fpOk hC I4.free;show wpAny _ X.A (assign (.Name y py) X.env (.ref L)) _ _ s4;refine wpAny_assign_Name (Zds I5 nd hiy hxy (v:=.ref L) rfl (λs5 I6 hch=>?_) hf);obtain ⟨a,sb,ha⟩:=hch;have nCa:C≠a:=by
  rcases ha with rfl | ha
  ·exact fC.2.1
  ·exact λz=>fC.2.2.2.2.1 y a ha z.symm
 refine ⟨m,hn.sameBut sb nCa,λh' sb'=>⟨_,H3,?_,qn⟩⟩;obtain ⟨f0,f1,f2',f3,f4,f5⟩:=fC;exact I6.turned (t':=s5.toks) (λb o hb e=>(sb'.2 b hb).trans e) f0 f1 f3 f4 f5
end L2
namespace L2
open PySem PySem.Spec PyProof.Rows
section
variable {X:Cx}
theorem ZhT:∀ {bs:List Bool}{us:List Value},Vals (bs.map V.bl) us->LSm.BoolsAre us bs
 | [],_,.nil=>.nil
 |b :: bs,_,.cons r t=>by
  cases r;exact .cons b (ZhT t)
theorem Za0 (hc:X.calm=true):Zbv X (.builtin "all") (λxs H Q=>∃ (p:Addr) (bs:List Bool),xs=[.ref p]/\SqL X.K H p (bs.map V.bl)/\Q (.bl (bs.all id)) H):=by
 intro pins s σ H xs us Q I rv h;obtain ⟨p,bs,rfl,hq,q⟩:=h;obtain ⟨u,rfl,ru⟩:=rv.one;cases ru;obtain ⟨its,r,pl,hz⟩:=I.list hq;have hb:=ZhT r;obtain ⟨m,F⟩:=I.fr;have hl:=pl.isList;have hlt:p<s.heap.objs.size:=by obtain ⟨_,e,_⟩:=hl;exact Yal e
 have hh:=I.ok.hd hc;refine call_all_walk (wpAny_pyIter_list hl ?_);refine ⟨s.heap.objs.size,[s.heap.objs.size,p],[s.heap.objs.size],its.toArray.size,_,_,λi=>(bs[i]?).getD true,rfl,Walks.list (A:=X.A.in1) hh _ p (Yap hlt) its.toArray,
  ⟨⟨_,Yao _ rfl,rfl,rfl⟩,hl.push _⟩,λi v s' Q' E' hP hQ=>?_,λh' tk hk=>?_⟩
 ·obtain ⟨b,e,rfl⟩:=hb.get i v (by simpa using hP);simp only [e,Option.getD_some] at hQ;exact wpAny_truthy_bool hQ
 ·have e:((List.range its.toArray.size).all λi=>(bs[i]?).getD true)=bs.all id:=by
   rw [Yam,hb.length];exact LSm.range_all bs
  rw [e];exact ⟨.bl _,H,I.kept (LSm.kept_iter hk),rfl,q⟩
theorem ZaJ:Zbv X (.builtin "isinstance") (λxs H Q=>∃ x T t b,xs=[x,.ty T]/\TyOf X.K H x t/\PySem.W.kitOne X.K t (.type T)=some b/\Q (.bl b) H):=by
 intro pins s σ H xs us Q I rv h;obtain ⟨x,T,t,b,rfl,ty,e,q⟩:=h;obtain ⟨u,v,rfl,ru,rv⟩:=rv.two;cases rv;exact Zkz I ru ty e λtk=>⟨.bl b,H,I.tok tk,rfl,q⟩
theorem ZeK:∀ {ns:List Int}{us:List Value},Vals (ns.map V.int) us->IntsAre us ns
 | [],_,.nil=>.nil
 |b :: bs,_,.cons r t=>by
  obtain ⟨tk,rfl⟩:=r;exact .cons _ _ (ZeK t)
end
mutual
inductive RdD (K:Yab) (H:Hp):V->PyData->Prop
 |non:RdD K H .non .none
 |bl (b:Bool):RdD K H (.bl b) (.bool b)
 |int (i:Int):RdD K H (.int i) (.int i)
 |str (x:Str):RdD K H (.str x) (.str x)
 |lst {a:Addr}{xs:List V}{ds:List PyData}:SqL K H a xs->RdAll K H xs ds->RdD K H (.ref a) (.list ds)
 |tup {a:Addr}{xs:List V}{ds:List PyData}:SqT K H a xs->RdAll K H xs ds->RdD K H (.ref a) (.tuple ds)
inductive RdAll (K:Yab) (H:Hp):List V->List PyData->Prop
 |nil:RdAll K H [] []
 |cons {x:V}{d:PyData}{xs:List V}{ds:List PyData}:RdD K H x d->RdAll K H xs ds->RdAll K H (x :: xs) (d :: ds)
end
section
variable {X:Cx}{pins:List (Addr × Obj)}{σ:St}{H:Hp}{s:Shared}
mutual
theorem Inv.reads (I:Inv X pins σ H s):∀ {x:V}{d:PyData}{u:Value},RdD X.K H x d->RelV x u->∃ as,Reads s.heap u d as
 |_,_,_,.non,r=>by cases r;exact ⟨_,.none⟩
 |_,_,_,.bl b,r=>by cases r;exact ⟨_,.bool b⟩
 |_,_,_,.int i,r=>by obtain ⟨t,rfl⟩:=r;exact ⟨_,.int i t⟩
 |_,_,_,.str x,r=>by obtain ⟨t,rfl⟩:=r;exact ⟨_,.str x t⟩
 |_,_,_,.lst hq ha,r=>by
  cases r;obtain ⟨its,rv,⟨o,n,e,c,dd,dt⟩,_⟩:=I.list hq;obtain ⟨as,q⟩:=Inv.readsAll I ha rv;exact ⟨_,.list e c dt (by simpa using q)⟩
 |_,_,_,.tup hq ha,r=>by
  cases r;obtain ⟨its,rv,⟨o,e,c,n,dt⟩,_⟩:=I.tuple hq;obtain ⟨as,q⟩:=Inv.readsAll I ha rv;exact ⟨_,.tuple e c dt (by simpa using q)⟩
theorem Inv.readsAll (I:Inv X pins σ H s):∀ {xs:List V}{ds:List PyData}{us:List Value},RdAll X.K H xs ds->Vals xs us->∃ as,ReadsAll s.heap us ds as
 |_,_,_,.nil,.nil=>⟨_,.nil⟩
 |_,_,_,.cons h t,.cons r rr=>by
  obtain ⟨as,q⟩:=Inv.reads I h r;obtain ⟨bs,p⟩:=Inv.readsAll I t rr;exact ⟨_,.cons q p⟩
end
def rEqD (K:Yab) (neg:Bool):R2:=λx y H Q=>∃ dx dy,RdD K H x dx/\RdD K H y dy/\SeqAt.shaped dx=true/\SeqAt.shaped dy=true/\Q (.bl (if neg then !PyData.eqv dx dy else PyData.eqv dx dy)) H
theorem Zqd (hu:X.A.units+64<cLine):OpR X (compareOp .Eq) (rEqD X.K false):=by
 intro pins s σ H x y v u Q I rx ry h;obtain ⟨dx,dy,h1,h2,s1,s2,q⟩:=h;obtain ⟨as,r1⟩:=I.reads h1 rx;obtain ⟨bs,r2⟩:=I.reads h2 ry;exact eq_dataH r1 r2 s1 s2 hu ⟨.bl _,H,I,rfl,q⟩
theorem Zhj (hu:X.A.units+64<cLine):OpR X (compareOp .NotEq) (rEqD X.K true):=by
 intro pins s σ H x y v u Q I rx ry h;obtain ⟨dx,dy,h1,h2,s1,s2,q⟩:=h;obtain ⟨as,r1⟩:=I.reads h1 rx;obtain ⟨bs,r2⟩:=I.reads h2 ry;exact ne_dataH r1 r2 s1 s2 hu ⟨.bl _,H,I,rfl,q⟩
end
end L2
namespace L2
open PySem PySem.Spec PyProof.Rows
def Ite (K:Yab) (a:Addr):It :=
 ⟨λi H=>∃ xs x,SqL K H a xs/\xs[i]? = some x,λi H y H'=>∃ T x,y=.ref T/\H T=none/\H'=upd H T (.tup [.int (i:Nat),x])/\∀ xs,SqL K H a xs->xs[i]? = some x,λi H=>∃ xs,SqL K H a xs/\xs.length<=i⟩
theorem Inv.tupNew {X:Cx}{pins:List (Addr × Obj)}{σ:St}{H:Hp}{s:Shared}{h':Heap}{t':Nat}{fp:List Addr}{T:Addr}{xs:List V}{its:List Value}{n:Nat} (I:Inv X pins σ H s) (hf:∀ b∈fp,FpOk X pins H b)
  (hT:s.heap.objs.size<=T) (k:∀ b o,b∉fp->s.heap.get? b=some o->h'.get? b=some o) (hz:xs.length<=sizeLine) (rv:Vals xs its) (e:h'.get? T=some { cls:=.type "tuple",data:=.seq its.toArray n })
  (tr:∀ b∈fp,∃ o,h'.get? b=some o):Inv X pins σ (upd H T (.tup xs)) { s with heap:=h',toks:=t' }:=by
 have hTn:H T=none:=I.hok.fresh hT;have nT:∀ b o,s.heap.get? b=some o->b≠T:=λb o q=>Yap (Yan (Yal q) hT);have nfp:∀ b o,H b=some o->b∉fp:=λb o q hb=>by have:=(hf b hb).1;rw [q] at this;cases this
 refine I.step (g':=s.gens) (d':=s.drawn) (ch:=fp) (λb hb=>?_) (λb o _ _ hc q _=>k b o hc q) (λb o _ _ hc q _=>⟨o.slots,k b o hc q⟩) (λb o _ q n=>by rw [Zai (nT b o q)];exact n)
  (λb o hc q=>⟨o,k b o hc q⟩) (λb ys q=>by rw [Zai (Zav q hTn)];exact q) (λb o u q=>by rw [Zai (Zav q hTn)];exact q) (λb ps q=>⟨#[],by rw [Zai (Zav q hTn),q];simp⟩) (λm hm=>?_) (λb u q=>?_) I.bare
 ·obtain ⟨_,f1,_,f3,f4,f5⟩:=hf b hb;exact ⟨f3,f1,f4,f5⟩
 ·obtain ⟨o,es,ep,ho,r⟩:=hm;exact ⟨o,es,ep,k _ o (λz=>(hf _ z).2.1 rfl) ho,r⟩
 ·by_cases hb:b=T
  ·subst hb;rw [Zad] at q;cases q;exact ⟨hz,its,rv,_,e,rfl,n,rfl⟩
  ·rw [Zai hb] at q;refine (I.hok b u q).stay (λc v hc w=>k c v ?_ w) (λc w=>by rw [Zai (Zav w hTn)];exact w) λc ys w=>by rw [Zai (Zav w hTn)];exact w
   rcases hc with rfl | hc
   ·exact nfp _ _ q
   ·exact nfp _ _ hc
theorem ZiS {P:Program}{w:World}{K:Yab}{es:List Expr}{k1}{ps:Pos} (a e it:Addr):Turn P w K (.Tuple es k1 ps) (Ite K a) [e,it] e (λi h=>(∃ old,IsEnum h e it (i:Nat) old)/\h.IsListIter it a i/\e≠it) where
 mem:=by simp
 obj:=λi h st b hb=>by
  obtain ⟨⟨old,he⟩,hit,hne⟩:=st;rcases YaF.mp hb with rfl | hb
  ·exact ⟨_,he,λv z=>by
    have z':Data.fields _=Data.cell v:=z
    cases z'⟩
  ·have z:b=it:=by simpa using hb
   subst z;obtain ⟨o,e,c,d⟩:=hit;exact ⟨o,e,λv z=>by rw [d] at z;cases z⟩
 keep:=λi h h' st k=>by
  obtain ⟨⟨old,he⟩,hit,hne⟩:=st;exact ⟨⟨old,k e (by simp) _ he⟩,hit.at λo q=>k it (by simp) o q,hne⟩
 item:=by
  intro X hP hw hK hc i pins s σ H E I hf st hg;subst hP hw hK;obtain ⟨⟨old,he⟩,hit,hne⟩:=st;obtain ⟨xs,x,hq,hx⟩:=hg;obtain ⟨its,rv,p,hz⟩:=I.list hq;obtain ⟨u,hu,ru⟩:=rv.get hx;refine wpAny_pyNext_enum_item he hit p.isList (x:=u) (by simpa using hu) hne λh' heo hit' hT hsz hk=>?_;refine ⟨_,rfl,wpAny_letOwnedTupleGo_enum heo λh2 he2 hs2=>?_⟩;have elt:e≠s.heap.objs.size:=Yap (Yal he);have ilt:it≠s.heap.objs.size:=by obtain ⟨o,q,_⟩:=hit;exact Yap (Yal q)
  have hs2':Heap.SameBut e h' h2:=hs2;have hT2:h2.get? s.heap.objs.size=some { cls:=.type "tuple",data:=.seq #[.int i s.toks,u] }:=(hs2'.2 _ (Ne.symm elt)).trans hT;have hit2:h2.IsListIter it a (i+1):=hit'.at λo q=>(hs2'.2 it (Ne.symm hne)).trans q;have hfr:H s.heap.objs.size=none:=I.hok.fresh (Yag _);have I2:Inv X pins σ (upd H s.heap.objs.size (.tup [.int (i:Nat),x])) { s with heap:=h2,toks:=s.toks+1 }:=by
   refine I.tupNew (its:=[.int i s.toks,u]) hf (Yag _) (λb o hb q=>?_) (by show 2<=sizeLine;decide) (.cons ⟨_,rfl⟩ (.cons ru .nil)) hT2 (λb hb=>?_)
   ·simp only [YaF,not_or] at hb;exact (hs2'.2 b hb.1).trans (hk b o hb.1 hb.2.1 q)
   ·rcases YaF.mp hb with rfl | hb
    ·exact ⟨_,he2⟩
    ·have z:b=it:=by simpa using hb
     subst z;obtain ⟨o,q,_⟩:=hit2;exact ⟨o,q⟩
  refine ⟨.ref s.heap.objs.size,_,I2,rfl,⟨_,x,rfl,hfr,rfl,λys hy=>by rw [I.list_inj hy hq];exact hx⟩,⟨⟨_,by simpa using he2⟩,hit2,hne⟩,λb hb=>?_⟩;rw [Zai (λz=>?_)]
  ·exact (hf b hb).1
  ·rcases YaF.mp hb with rfl | hb
   ·exact elt z
   ·have z':b=it:=by simpa using hb
    subst z';exact ilt z
 done:=by
  intro X hP hw hK hc i pins s σ H E I hf st hg;subst hP hw hK;obtain ⟨⟨old,he⟩,hit,hne⟩:=st;obtain ⟨xs,hq,hx⟩:=hg;obtain ⟨its,rv,p,hz⟩:=I.list hq;obtain ⟨f0,f1,f2,f3,f4,f5⟩:=hf it (by simp);have hl:=rv.length;exact wpAny_pyNext_enum_end (I.ok.hd hc) he hit p.isList (by simp;omega) λh' eb=>⟨rfl,I.turned (t':=s.toks) (λb o hb e=>eb b o hb e) f0 f1 f3 f4 f5⟩
 self:=λ_ _ _ _ _ st h=>by
  obtain ⟨⟨old,he⟩,hit,hne⟩:=st;exact wpAny_pyIter_enum he h
def Zr1 (K:Yab) (ta:TA):TI:=λσ H R=>ta σ H λvs H1=>∃ a,vs=[.ref a]/\(∃ xs,SqL K H1 a xs)/\R (Ite K a) H1
theorem Zet {X:Cx}{a:Expr}{ta:TA}{es:List Expr}{k1}{ps p pos:Pos} (hg:Gl X "enumerate") (hm:X.mg "enumerate" = none) (ha:PA X [a] ta) (hs:starEach [a] X.env=[(false,eval a X.env)]:=by rfl) :
  PI X (.Tuple es k1 ps) (.Call (.Name "enumerate" p) [a] [] pos) (Zr1 X.K ta):=by
 intro pins s σ H R I h;refine Call_ (Zcr I hg hm boot_enumerate (PyProof.Rows.callWith_type1 (thn (ha pos pins s σ H _ I h) λus s1 ⟨vs,H1,I1,r1,q1⟩=>?_) hs rfl));obtain ⟨a,e,⟨xs,hq⟩,q⟩:=q1;subst e;obtain ⟨u,rfl,ru⟩:=r1.one;cases ru;obtain ⟨its,rv,pl,hz⟩:=I1.list hq;refine call_enumerate_list pl.isList λh' he hit hsz hk=>wpAny_pyIter_enum he ?_;have I2:Inv X pins σ H1 { s1 with heap:=h' }:=I1.kept (t':=s1.toks) hk;refine ⟨s1.heap.objs.size+1,[s1.heap.objs.size+1,s1.heap.objs.size],_,_,H1,rfl,I2,ZiS a _ _,⟨⟨_,he⟩,hit,Nat.ne_of_gt (Nat.lt_succ_self _)⟩,λb hb=>?_,q⟩;rcases YaF.mp hb with rfl | hb
 ·exact I1.fpOk (Nat.le_succ _) (I1.hok.fresh (Nat.le_succ _))
 ·have z:b=s1.heap.objs.size:=by simpa using hb
  subst z;exact I1.fpOk (Yag _) (I1.hok.fresh (Yag _))
theorem ZhC {K:Yab}{a:Addr}{xs:List V}{g:TG}{tb:TS}{D:Ends}{σ:St}{H:Hp} (Pv:Nat->St->Hp->Prop) (h0:Pv 0 σ H) (hl:∀ i σ H,i<=xs.length->Pv i σ H->SqL K H a xs)
  (hs:∀ i x σ H T,xs[i]? = some x->Pv i σ H->H T=none->g (.ref T) σ (upd H T (.tup [.int (i:Nat),x])) λσ2 H2=>tb { D with nx:=Pv (i+1),ct:=Pv (i+1),bk:=D.nx } σ2 H2) (hd:∀ σ H,Pv xs.length σ H->D.nx σ H) :
  ∃ W:Nat->Nat->St->Hp->Prop,(∃ m,W 0 m σ H)/\∀ i m σ H,W i m σ H ->
   ((Ite K a).stop i H/\D.nx σ H)\/((Ite K a).go i H/\∃ N:St->Hp->Prop,(∀ σ' H',N σ' H'->∃ m',m'<m/\W (i+1) m' σ' H')/\∀ x H',(Ite K a).yld i H x H'->g x σ H' λσ2 H2=>tb { D with nx:=N,ct:=N,bk:=D.nx } σ2 H2):=by
 refine ⟨λi m σ H=>m=xs.length - i/\i<=xs.length/\Pv i σ H,⟨xs.length,by simp,YaH _,h0⟩,?_⟩;rintro i m σ H ⟨rfl,hi,p⟩;have q:=hl i σ H hi p
 by_cases hlt:i<xs.length
 ·refine .inr ⟨⟨xs,xs[i],q,by simp [hlt]⟩,Pv (i+1),λσ' H' p'=>⟨xs.length - (i+1),by omega,rfl,hlt,p'⟩,λx H' y=>?_⟩;obtain ⟨T,z,rfl,hT,rfl,y⟩:=y;exact hs i z σ _ T (y xs q) p hT
 ·have e:i=xs.length:=by omega
  subst e;exact .inl ⟨⟨xs,q,Yag _⟩,hd σ H p⟩
end L2
namespace L2
open PySem PySem.Spec PyProof.Rows
def Pu (te:TE) (σ:St) (H:Hp) (v:V):Prop:=∀ (H':Hp) (Q:VK),Same H H'->(∀ H'',Same H' H''->Q v H'')->te σ H' Q
def PuT (tc:TT) (σ:St) (H:Hp) (b:Bool):Prop:=∀ (H':Hp) (Q:Bool->Hp->Prop),Same H H'->(∀ H'',Same H' H''->Q b H'')->tc σ H' Q
theorem Zhc {σ:St}{H:Hp}:PuT Zbe σ H true:=λH' Q _ q=>q H' (Same.refl _)
theorem Same.upd {H H':Hp}{D:Addr}{o:HO} (e:Same H H') (hD:H D=none):Same H (upd H' D o):=λb u q=>by
 rw [Zai (Zav q hD)];exact e b u q
theorem Same.new {H:Hp}{D:Addr}{o:HO} (hD:H D=none):Same H (L2.upd H D o):=(Same.refl H).upd hD
theorem Same.tup {K:Yab}{H H':Hp}{a:Addr}{xs:List V} (e:Same H H') (h:SqT K H a xs):SqT K H' a xs:=by
 rcases h with (h | ⟨o,h⟩) | h
 ·exact .inl (.inl (e _ _ h))
 ·exact .inl (.inr ⟨o,e _ _ h⟩)
 ·exact .inr h
theorem ZbU {J:It}{n:Nat}{σ0:St}{H1:Hp}{D:Addr}{tc:TT}{te:TE}{Q:VK} (Pv:Nat->List V->Hp->Prop) (h0:Pv 0 [] (upd H1 D (.lst [])))
  (hl:∀ i ys H',i<=n->Pv i ys H'->H' D=some (.lst ys)) (hgo:∀ i ys H',i<n->Pv i ys H'->J.go i H') (hst:∀ ys H',Pv n ys H'->J.stop n H')
  (step:∀ i ys H' x H2,i<n->Pv i ys H'->J.yld i H' x H2->tc (σ0.set 0 (some x)) H2 λb H4=>if b=true then te (σ0.set 0 (some x)) H4 λy H5=>H5 D=some (.lst ys)/\ys.length<sizeLine/\Pv (i+1) (ys ++ [y]) (upd H5 D (.lst (ys ++ [y]))) else Pv (i+1) ys H4)
  (fin:∀ ys H',Pv n ys H'->Q (.ref D) H') :
  ∃ W:Nat->Nat->List V->St->Hp->Prop,(∃ m,W 0 m [] σ0 (upd H1 D (.lst []))) /\
   ∀ i m ys σ' H',W i m ys σ' H'->H' D=some (.lst ys)/\((J.stop i H'/\Q (.ref D) H')\/(J.go i H'/\∀ x H2,J.yld i H' x H2->ZaT 0 x σ' H2 λσ2 H3=>tc σ2 H3 λb H4 =>
    if b=true then te σ2 H4 λy H5=>H5 D=some (.lst ys)/\ys.length<sizeLine/\∃ m',m'<m/\W (i+1) m' (ys ++ [y]) σ2 (upd H5 D (.lst (ys ++ [y])))
    else ∃ m',m'<m/\W (i+1) m' ys σ2 H4)):=by
 refine ⟨λi m ys σ' H'=>m=n - i/\i<=n/\(∀ x,σ'.set 0 x = σ0.set 0 x)/\Pv i ys H',⟨n,by simp,YaH _,λ_=>rfl,h0⟩,?_⟩;rintro i m ys σ' H' ⟨rfl,hi,es,p⟩;refine ⟨hl i ys H' hi p,?_⟩
 by_cases hlt:i<n
 ·refine .inr ⟨hgo i ys H' hlt p,λx H2 y=>?_⟩;have st:=step i ys H' x H2 hlt p y;show tc (σ'.set 0 (some x)) H2 _;rw [es];have e1:∀ z,(σ0.set 0 (some x)).set 0 z = σ0.set 0 z:=λz=>by rw [List.set_set]
  have e2:∀ ys' H5,(∃ m',m'<n - i/\m'=n - (i+1)/\i+1<=n/\(∀ z,(σ0.set 0 (some x)).set 0 z = σ0.set 0 z)/\Pv (i+1) ys' H5) ↔ Pv (i+1) ys' H5:=λys' H5 =>
   ⟨λ⟨_,_,_,_,_,q⟩=>q,λq=>⟨n - (i+1),by omega,rfl,hlt,e1,q⟩⟩
  simp only [e2];exact st
 ·have e:i=n:=by omega
  subst e;exact .inl ⟨hst ys H' p,fin ys H' p⟩
theorem ZgI {α:Type}{K:Yab}{a:Addr}{ms:List α}{σ0:St}{H1:Hp}{tc:TT}{te:TE}{Q:VK} (u:α->V) (p:α->Bool) (f:α->V) (hq:SqL K H1 a (ms.map u)) (hn:ms.length<=sizeLine)
  (ht:∀ x∈ms,PuT tc (σ0.set 0 (some (u x))) H1 (p x)) (he:∀ x∈ms,p x=true->Pu te (σ0.set 0 (some (u x))) H1 (f x))
  (fin:∀ D H',H1 D=none->Same H1 H'->H' D=some (.lst ((ms.filter p).map f))->Q (.ref D) H') :
  ZaR (Itl K a) (ZaT 0) tc te σ0 H1 Q:=by
 intro D hD;refine ZbU (n:=ms.length) (λi ys H'=>Same H1 H'/\H' D=some (.lst ys)/\ys=((ms.take i).filter p).map f) ⟨Same.new hD,Zad,by simp⟩ (λi ys H' _ q=>q.2.1) (λi ys H' hi q=>⟨ms.map u,u ms[i],q.1.seq hq,by simp [hi]⟩)
  (λys H' q=>⟨ms.map u,q.1.seq hq,by simp⟩) ?_ (λys H' q=>?_)
 ·rintro i ys H' x H2 hi ⟨sm,hDl,hys⟩ ⟨rfl,hy⟩;have hx:(ms.map u)[i]? = some x:=hy _ (sm.seq hq);obtain ⟨z,hz,rfl⟩:∃ z,ms[i]? = some z/\u z=x:=by
   rw [Yaf] at hx;cases e:ms[i]? with
   |none=>rw [e] at hx;cases hx
   |some z=>rw [e] at hx;exact ⟨z,rfl,Yae hx⟩
  have hm:z∈ms:=YaP hz;have tk:ms.take (i+1)=ms.take i ++ [z]:=by
   rw [List.take_add_one,hz];simp only [Option.toList]
  have hlen:ys.length<=i:=by
   rw [hys,Yaa];exact Yay (Ybm _ _) (by rw [YaR];omega)
  refine ht z hm _ _ sm λH4 s4=>?_;cases hp:p z with
  |true =>
   refine iteT ?_;refine he z hm hp _ _ (sm.trans s4) λH5 s5=>⟨s5 _ _ (s4 _ _ hDl),by omega,((sm.trans s4).trans s5).upd hD,Zad,?_⟩;rw [tk,List.filter_append,Yah,<- hys];simp [hp]
  |false =>
   refine iteF ⟨sm.trans s4,s4 _ _ hDl,?_⟩;rw [tk,List.filter_append,Yah,<- hys];simp [hp]
 ·obtain ⟨sm,hDl,hys⟩:=q;rw [List.take_length] at hys;exact fin D H' hD sm (by rw [<- hys];exact hDl)
theorem ZaZ {α:Type}{K:Yab}{a:Addr}{ms:List α}{σ0:St}{H1:Hp}{te:TE}{Q:VK} (u:α->V) (f:α->V) (hq:SqL K H1 a (ms.map u)) (hn:ms.length<=sizeLine)
  (he:∀ x∈ms,Pu te (σ0.set 0 (some (u x))) H1 (f x))
  (fin:∀ D H',H1 D=none->Same H1 H'->H' D=some (.lst (ms.map f))->Q (.ref D) H') :
  ZaR (Itl K a) (ZaT 0) Zbe te σ0 H1 Q :=
 ZgI u (λ_=>true) f hq hn (λ_ _=>Zhc) (λx hx _=>he x hx) λD H' hD sm e=>fin D H' hD sm (by rw [List.filter_eq_self.mpr (λ_ _=>rfl)] at e;exact e)
theorem Zef {lo:Int}{n:Nat}{σ0:St}{H1:Hp}{te:TE}{Q:VK} (f:Nat->V) (hn:n<=sizeLine)
  (he:∀ i,i<n->Pu te (σ0.set 0 (some (.int (lo+i)))) H1 (f i))
  (fin:∀ D H',H1 D=none->Same H1 H'->H' D=some (.lst ((List.range n).map f))->Q (.ref D) H') :
  ZaR (Itr lo n) (ZaT 0) Zbe te σ0 H1 Q:=by
 intro D hD;refine ZbU (n:=n) (λi ys H'=>Same H1 H'/\H' D=some (.lst ys)/\ys=(List.range i).map f) ⟨Same.new hD,Zad,by simp⟩ (λi ys H' _ q=>q.2.1) (λi ys H' hi q=>hi)
  (λys H' q=>Yag _) ?_ (λys H' q=>?_)
 ·rintro i ys H' x H2 hi ⟨sm,hDl,hys⟩ ⟨rfl,rfl⟩;unfold Zbe;refine iteT ?_;refine he i hi _ _ sm λH5 s5=>⟨s5 _ _ hDl,?_,(sm.trans s5).upd hD,Zad,?_⟩
  ·rw [hys,Yaa,List.length_range];omega
  ·rw [List.range_succ,Yah,<- hys];simp
 ·obtain ⟨sm,hDl,hys⟩:=q;exact fin D H' hD sm (by rw [<- hys];exact hDl)
def Zak (K:Yab) (mg:Str->Option Value) (x:Str) (st:Stmt) (ps:List Str):Prop:=∃ f fd,Fun K x x st f fd/\mg x=some (.ref f)/\Binds K fd ps []
def FnAt (P:Program) (w:World) (K:Yab) (mg:Str->Option Value) (base:Heap) (k:Nat) (x:Str) (ps:List Str) (sp:Sp):Prop :=
 ∃ f fd,FnOk P w K mg base CX0 k f fd ps sp/\mg x=some (.ref f)/\PySem.W.keepIn K (.ref f)=true/\Binds K fd ps []
theorem FnAt.of {P:Program}{w:World}{K:Yab}{mg:Str->Option Value}{base:Heap}{k:Nat}{x:Str}{st:Stmt}{N ps:List Str}{sp:Sp} (D:Zak K mg x st ps) (S:FnScope N ps (Zae st)) (len:∀ vs H Q E,sp vs H Q E->vs.length=ps.length)
  (hbody:∀ (f:Addr) (cdv:Value) (A:Around) (outer:List Env) (s:Shared) (H:Hp) (vs:List V) (Q:VK) (E:XK),Room k (A.deeper (envOfC x (Zae st) s.heap.objs.size f cdv))->sp vs H Q E ->
   ∃ t,PSs (cxOf CX0 P w K mg base N x (Zae st) f cdv A outer s H E).nox (ZaQ st) t/\t { nx:=λ_ H'=>Q .non H',rt:=Q } (Zdc N vs) H):FnAt P w K mg base (k+1) x ps sp:=by
 obtain ⟨f,fd,F,hm,hb⟩:=D;exact ⟨f,fd,F.ok S len λcdv A outer s H vs Q E hr h=>hbody f cdv A outer s H vs Q E hr h,hm,F.kp,hb⟩
def tF (sp:Sp) (t:TA):TE:=λσ H Q=>t σ H λvs H1=>sp vs H1 Q E0
section
variable {X:Cx}{k:Nat}{x:Str}{ps:List Str}{sp:Sp}{e:Expr}{es:List Expr}{t:TA}{p pos:Pos}
theorem pe_f (F:FnAt X.prog X.w X.K X.mg X.base k x ps sp) (hr:Room k X.A) (ha:PA X (e :: es) t) (hg:Gl X x:=by rfl) (hdb:(x == ("__debug__" : Str))=false:=by decide)
  (he:starEach (e :: es) X.env=(false,eval e X.env) :: starEach es X.env:=by rfl) (hpl:(backTo pos (starEach es X.env)).any (·.1)=false:=by rfl):PE X (.Call (.Name x p) (e :: es) [] pos) (tF sp t):=by
 obtain ⟨f,fd,F,hm,hk,hb⟩:=F;have q:=Zn8 (p:=p) (pos:=pos) F hr hg hm hk hb .nil (Zid (X:=X)) ha hdb he hpl;have e:Zlo sp [] E0 t=tF sp t:=by
  unfold Zlo tF;simp only [List.append_nil]
 rw [e] at q;exact q
theorem pe_b {id:String}{r:List V->Hp->VK->Prop} (hc:Zbv X (.builtin id) r) (hm:X.mg x=none) (hv:bootBuiltins x=some (.builtin id)) (ha:PA X (e :: es) t) (hg:Gl X x:=by rfl) (hn:x ≠ "__name__" := by decide) (hdb:(x == ("__debug__" : Str))=false:=by decide)
  (he:starEach (e :: es) X.env=(false,eval e X.env) :: starEach es X.env:=by rfl) (hpl:(backTo pos (starEach es X.env)).any (·.1)=false:=by rfl):PE X (.Call (.Name x p) (e :: es) [] pos) (tCB r t):=ZlY hc hg hm hv ha hn hdb he hpl
theorem pe_t {T:String}{r:List V->Hp->VK->Prop} (hc:Zbv X (.type T) r) (hm:X.mg x=none) (hv:bootBuiltins x=some (.type T)) (ha:PA X (e :: es) t) (hg:Gl X x:=by rfl) (hn:x ≠ "__name__" := by decide) (hdb:(x == ("__debug__" : Str))=false:=by decide)
  (he:starEach (e :: es) X.env=(false,eval e X.env) :: starEach es X.env:=by rfl) (hpl:(backTo pos (starEach es X.env)).any (·.1)=false:=by rfl):PE X (.Call (.Name x p) (e :: es) [] pos) (tCB r t):=ZjB hc hg hm hv ha hn hdb he hpl
theorem ZcJ {T:String}{pos:Pos} (hm:X.mg x=none) (hv:bootBuiltins x=some (.type T)) (hg:Gl X x:=by rfl) (hn:x ≠ "__name__" := by decide) (hd:(x == ("__debug__" : Str))=false:=by decide):PE X (.Name x pos) (tC (.ty T)) :=
 Zn9 hg hm hv rfl hn hd
theorem pg_c {N':List Str}{scope:Scope}{cl:List (Str × Addr)}{C:Addr}{s2:Shared}{H2:Hp}{ex:List Addr} (i:Nat) {y:Str} (nd:N'.Nodup) (hi:N'[i]? = some y:=by rfl) (hx:(relabel scope X.env).names.lookup y=some .local:=by rfl) :
  PG (X.comp N' scope cl C s2 H2 ex) (.Name y pos) (ZaT i):=Za3 (X:=X.comp N' scope cl C s2 H2 ex) nd hi (.inl hx) (.inr hx)
end
section
variable {X:Cx}
theorem ixL (K:Yab) (hK:X.K=K:=by rfl):IxR X (rIxL K):=by subst hK;exact Zan
theorem ixT (K:Yab) (hK:X.K=K:=by rfl):IxR X (rIxT K):=by subst hK;exact ZbJ
theorem lenK (K:Yab) (hK:X.K=K:=by rfl):Zbv X (.builtin "len") (λxs H Q=>∃ p ys,xs=[.ref p]/\(SqL K H p ys\/SqT K H p ys)/\Q (.int ys.length) H):=by subst hK;exact Zao
theorem ZrU (K:Yab) (hK:X.K=K:=by rfl):Zbv X (.type "list") (λxs H Q=>∃ p ys,xs=[.ref p]/\(SqL K H p ys\/SqT K H p ys)/\∀ l,H l=none->Q (.ref l) (upd H l (.lst ys))):=by subst hK;exact Zf3
end
theorem ZqI (K:Yab):PySem.W.kitOne K (.type "int") (.type "int")=some true:=by kernel_rfl
theorem ZqJ (K:Yab):PySem.W.kitOne K (.type "int") (.type "bool")=some false:=by kernel_rfl
theorem Zkr (K:Yab):PySem.W.kitOne K (.type "list") (.type "list")=some true:=by kernel_rfl
theorem Zni (K:Yab):PySem.W.kitOne K (.type "tuple") (.type "tuple")=some true:=by kernel_rfl
end L2
namespace L2
open PySem PySem.Spec PyProof.Rows
section
variable {X:Cx}
def ZrI:R2:=λx y H Q=>∃ i j:Int,x=.int i/\y=.int j/\Q (.int (i+j)) H
def Zry:R2:=λx y H Q=>∃ i j:Int,x=.int i/\y=.int j/\Q (.int (i - j)) H
def ZrC:R2:=λx y H Q=>∃ i j:Int,x=.int i/\y=.int j/\CMul i j/\Q (.int (i * j)) H
def ZrD:R2:=λx y H Q=>∃ i j:Int,x=.int i/\y=.int j/\0<j/\Q (.int (i % j)) H
def ZrG:R2:=λx y H Q=>∃ i j:Int,x=.int i/\y=.int j/\CDiv i j/\Q (.int (i / j)) H
def rLtI:R2:=λx y H Q=>∃ i j:Int,x=.int i/\y=.int j/\Q (.bl (decide (i<j))) H
def rLeI:R2:=λx y H Q=>∃ i j:Int,x=.int i/\y=.int j/\Q (.bl (decide (i<=j))) H
def rGtI:R2:=λx y H Q=>∃ i j:Int,x=.int i/\y=.int j/\Q (.bl (decide (j<i))) H
def rGeI:R2:=λx y H Q=>∃ i j:Int,x=.int i/\y=.int j/\Q (.bl (decide (j<=i))) H
def ZrB:V->Hp->VK->Prop:=λx H Q=>∃ i:Int,x=.int i/\Q (.int (-i)) H
theorem ZfC:OpR X (binaryOp .Add) ZrI:=Zqe
theorem Zqv:OpR X (binaryOp .Sub) Zry:=Znb
theorem Zj1:OpR X (binaryOp .Mult) ZrC:=Zqa
theorem Zck:OpR X (binaryOp .Mod) ZrD:=Zqb
theorem Zdd:OpR X (binaryOp .FloorDiv) ZrG:=Zob
theorem o_lt:OpR X (compareOp .Lt) rLtI:=Zqc
theorem o_le:OpR X (compareOp .LtE) rLeI:=Zfv
theorem o_gt:OpR X (compareOp .Gt) rGtI:=ZrM
theorem o_ge:OpR X (compareOp .GtE) rGeI:=ZrN
theorem ZrS:UnR X (unaryOp .USub) ZrB:=Zpb
end
end L2
namespace L2
open PySem PySem.Spec PyProof.Rows
theorem Inv.turnedL {X:Cx}{pins:List (Addr × Obj)}{σ:St}{H:Hp}{s:Shared}{h':Heap}{t':Nat}{fp:List Addr} (I:Inv X pins σ H s) (hf:∀ b∈fp,FpOk X pins H b)
  (k:∀ b o,b∉fp->s.heap.get? b=some o->h'.get? b=some o):Inv X pins σ H { s with heap:=h',toks:=t' }:=by
 have nfp:∀ b o,H b=some o->b∉fp:=λb o q hb=>by have:=(hf b hb).1;rw [q] at this;cases this
 refine I.step (g':=s.gens) (d':=s.drawn) (ch:=fp) (λb hb=>?_) (λb o _ _ hc q _=>k b o hc q) (λb o _ _ hc q _=>⟨o.slots,k b o hc q⟩) (λb o _ _ n=>n)
  (λb o hc q=>⟨o,k b o hc q⟩) (λb ys q=>q) (λb o u q=>q) (λb ps q=>⟨#[],by rw [q];simp⟩) (λm hm=>?_) (λb u q=>?_) I.bare
 ·obtain ⟨_,f1,_,f3,f4,f5⟩:=hf b hb;exact ⟨f3,f1,f4,f5⟩
 ·obtain ⟨o,es,ep,ho,r⟩:=hm;exact ⟨o,es,ep,k _ o (λz=>(hf _ z).2.1 rfl) ho,r⟩
 ·refine (I.hok b u q).stay (λc v hc w=>k c v ?_ w) (λc w=>w) λc ys w=>w;rcases hc with rfl | hc
  ·exact nfp _ _ q
  ·exact nfp _ _ hc
theorem Inv.sq_ne {X:Cx}{pins:List (Addr × Obj)}{σ:St}{H:Hp}{s:Shared}{a b:Addr}{xs:List V} (I:Inv X pins σ H s) (h:SqL X.K H a xs) (f:FpOk X pins H b):a≠b:=by
 rintro rfl;rcases h with (h | ⟨o,h⟩) | ⟨o,its,n,hk,_⟩
 ·rw [f.1] at h;cases h
 ·rw [f.1] at h;cases h
 ·have hb:X.base.get? a=some o:=I.ok.mod.kin a o hk;rcases f.2.2.2.1 with z | z
  ·exact I.ok.noex a o hb z
  ·exact absurd (Yan (Yal (I.ok.bs a o hb).1) z) (Ybq _)
def Itz (K:Yab) (a c:Addr):It :=
 ⟨λi H=>∃ xs ys x y,SqL K H a xs/\SqL K H c ys/\xs[i]? = some x/\ys[i]? = some y,
  λi H v H'=>∃ T x y,v=.ref T/\H T=none/\H'=upd H T (.tup [x,y])/\(∀ xs,SqL K H a xs->xs[i]? = some x)/\∀ ys,SqL K H c ys->ys[i]? = some y,
  λi H=>∃ xs ys,SqL K H a xs/\SqL K H c ys/\(xs.length<=i\/ys.length<=i)⟩
structure ZipAt (h:Heap) (z TI TO i1 i2 l1 l2:Addr) (i:Nat):Prop where
 hz:IsZip h z TI TO .none
 hTI:IsPair h TI (.ref i1) (.ref i2)
 hTO:∃ a b,IsPair h TO a b
 h1:h.IsListIter i1 l1 i
 h2:h.IsListIter i2 l2 i
 nd:[z,TI,TO,i1,i2].Nodup
theorem Zlh {P:Program}{w:World}{K:Yab}{es:List Expr}{k1}{ps:Pos} (a c z TI TO i1 i2:Addr):Turn P w K (.Tuple es k1 ps) (Itz K a c) [z,TI,TO,i1,i2] z (λi h=>ZipAt h z TI TO i1 i2 a c i) where
 mem:=by simp
 obj:=λi h st b hb=>by
  simp only [YaF,Yax,or_false] at hb;rcases hb with rfl | rfl | rfl | rfl | rfl
  ·exact ⟨_,st.hz,λv q=>by have q':Data.fields _=Data.cell v:=q;cases q'⟩
  ·exact ⟨_,st.hTI,λv q=>by have q':Data.seq _ _=Data.cell v:=q;cases q'⟩
  ·obtain ⟨x,y,e⟩:=st.hTO;exact ⟨_,e,λv q=>by have q':Data.seq _ _=Data.cell v:=q;cases q'⟩
  ·obtain ⟨o,e,_,d⟩:=st.h1;exact ⟨o,e,λv q=>by rw [d] at q;cases q⟩
  ·obtain ⟨o,e,_,d⟩:=st.h2;exact ⟨o,e,λv q=>by rw [d] at q;cases q⟩
 keep:=λi h h' st k=>⟨k z (by simp) _ st.hz,k TI (by simp) _ st.hTI,let ⟨x,y,e⟩:=st.hTO;⟨x,y,k TO (by simp) _ e⟩,st.h1.at λo q=>k i1 (by simp) o q,st.h2.at λo q=>k i2 (by simp) o q,st.nd⟩
 item:=by
  intro X hP hw hK hc i pins s σ H E I hf st hg;subst hP hw hK;obtain ⟨xs,ys,x,y,hq,hq2,hx,hy⟩:=hg;obtain ⟨its,rv,p,_⟩:=I.list hq;obtain ⟨its2,rv2,p2,_⟩:=I.list hq2;obtain ⟨u,hu,ru⟩:=rv.get hx;obtain ⟨u2,hu2,ru2⟩:=rv2.get hy;obtain ⟨ta,tb,hTO⟩:=st.hTO;have nd:=st.nd;simp only [Yba,YaF,Yax,or_false,not_or,List.nodup_nil,and_true,not_false_eq_true] at nd;obtain ⟨⟨n1,n2,n3,n4⟩,⟨n5,n6,n7⟩,⟨n8,n9⟩,n10⟩:=nd;have Dz:ZipApart z TI TO i1 i2 a c:=⟨Ne.symm n1,Ne.symm n2,Ne.symm n3,Ne.symm n4,n5,n6,n7,n8,n9,n10,I.sq_ne hq (hf z (by simp)),I.sq_ne hq (hf TO (by simp)),I.sq_ne hq (hf i1 (by simp)),I.sq_ne hq (hf i2 (by simp)),
   I.sq_ne hq2 (hf z (by simp)),I.sq_ne hq2 (hf TO (by simp)),I.sq_ne hq2 (hf i1 (by simp)),I.sq_ne hq2 (hf i2 (by simp))⟩
  refine wpAny_pyNext_zip_item Dz st.hz st.hTI hTO st.h1 st.h2 p.isList p2.isList (x:=u) (y:=u2) (by simpa using hu) (by simpa using hu2) λh' z1 z2 z3 z4 z5 z6 z7=>?_;refine ⟨_,rfl,wpAny_letOwnedTupleGo_zip z1 λh2 hz2 hs2=>?_⟩;have hs2':Heap.SameBut z h' h2:=hs2;have zlt:z≠s.heap.objs.size:=Yap (Yal st.hz);have fresh:∀ b∈[z,TI,TO,i1,i2],b≠s.heap.objs.size:=λb hb=>by
   simp only [YaF,Yax,or_false] at hb;rcases hb with rfl | rfl | rfl | rfl | rfl
   ·exact zlt
   ·exact Yap (Yal st.hTI)
   ·exact Yap (Yal hTO)
   ·obtain ⟨o,e,_⟩:=st.h1;exact Yap (Yal e)
   ·obtain ⟨o,e,_⟩:=st.h2;exact Yap (Yal e)
  have hT2:IsPair h2 s.heap.objs.size u u2:=(hs2'.2 _ (Ne.symm zlt)).trans z5;have st2:ZipAt h2 z TI TO i1 i2 a c (i+1):=⟨hz2,(hs2'.2 TI (Ne.symm n1)).trans (z7 TI _ (Ne.symm n1) n5 n6 n7 st.hTI),⟨_,_,(hs2'.2 TO (Ne.symm n2)).trans z2⟩,z3.at λo q=>(hs2'.2 i1 (Ne.symm n3)).trans q,z4.at λo q=>(hs2'.2 i2 (Ne.symm n4)).trans q,st.nd⟩;have hfr:H s.heap.objs.size=none:=I.hok.fresh (Yag _);have I2:Inv X pins σ (upd H s.heap.objs.size (.tup [x,y])) { s with heap:=h2,toks:=s.toks }:=by
   refine I.tupNew (its:=[u,u2]) hf (Yag _) (λb o hb q=>?_) (by show 2<=sizeLine;decide) (.cons ru (.cons ru2 .nil)) hT2 (λb hb=>?_)
   ·simp only [YaF,Yax,or_false,not_or] at hb;exact (hs2'.2 b hb.1).trans (z7 b o hb.1 hb.2.2.1 hb.2.2.2.1 hb.2.2.2.2 q)
   ·simp only [YaF,Yax,or_false] at hb;rcases hb with rfl | rfl | rfl | rfl | rfl
    ·exact ⟨_,st2.hz⟩
    ·exact ⟨_,st2.hTI⟩
    ·obtain ⟨_,_,e⟩:=st2.hTO;exact ⟨_,e⟩
    ·obtain ⟨o,e,_⟩:=st2.h1;exact ⟨_,e⟩
    ·obtain ⟨o,e,_⟩:=st2.h2;exact ⟨_,e⟩
  refine ⟨.ref s.heap.objs.size,_,I2,rfl,⟨_,x,y,rfl,hfr,rfl,λzs hz=>by rw [I.list_inj hz hq];exact hx,λzs hz=>by rw [I.list_inj hz hq2];exact hy⟩,st2,λb hb=>?_⟩;rw [Zai (fresh b hb)];exact (hf b hb).1
 done:=by
  intro X hP hw hK hc i pins s σ H E I hf st hg;subst hP hw hK;obtain ⟨xs,ys,hq,hq2,hend⟩:=hg;obtain ⟨its,rv,p,_⟩:=I.list hq;obtain ⟨its2,rv2,p2,_⟩:=I.list hq2;obtain ⟨ta,tb,hTO⟩:=st.hTO;have nd:=st.nd;simp only [Yba,YaF,Yax,or_false,not_or,List.nodup_nil,and_true,not_false_eq_true] at nd;obtain ⟨⟨n1,n2,n3,n4⟩,⟨n5,n6,n7⟩,⟨n8,n9⟩,n10⟩:=nd;have Dz:ZipApart z TI TO i1 i2 a c:=⟨Ne.symm n1,Ne.symm n2,Ne.symm n3,Ne.symm n4,n5,n6,n7,n8,n9,n10,I.sq_ne hq (hf z (by simp)),I.sq_ne hq (hf TO (by simp)),I.sq_ne hq (hf i1 (by simp)),I.sq_ne hq (hf i2 (by simp)),
   I.sq_ne hq2 (hf z (by simp)),I.sq_ne hq2 (hf TO (by simp)),I.sq_ne hq2 (hf i1 (by simp)),I.sq_ne hq2 (hf i2 (by simp))⟩
  have l1:=rv.length;have l2:=rv2.length;refine wpAny_pyNext_zip_end (I.ok.hd hc) Dz st.hz st.hTI hTO st.h1 st.h2 p.isList p2.isList (hend.elim (λq=>.inl (by simp;omega)) λq=>.inr (by simp;omega)) λh' k=>⟨rfl,I.turnedL (t':=s.toks) hf λb o hb q=>?_⟩;simp only [YaF,Yax,or_false,not_or] at hb;exact k b o hb.1 hb.2.2.1 hb.2.2.2.1 hb.2.2.2.2 q
 self:=λ_ _ _ _ _ st h=>wpAny_pyIter_zip st.hz h
def iZip (K:Yab) (ta:TA):TI:=λσ H R=>ta σ H λvs H1=>∃ a c,vs=[.ref a,.ref c]/\(∃ xs,SqL K H1 a xs)/\(∃ ys,SqL K H1 c ys)/\R (Itz K a c) H1
theorem ZpY {X:Cx}{a b:Expr}{ta:TA}{es:List Expr}{k1}{ps p pos:Pos} (hg:Gl X "zip") (hm:X.mg "zip" = none) (ha:PA X [a,b] ta) (hs:starEach [a,b] X.env=[(false,eval a X.env),(false,eval b X.env)]:=by rfl) (hs2:starEach [b] X.env=[(false,eval b X.env)]:=by rfl) :
  PI X (.Tuple es k1 ps) (.Call (.Name "zip" p) [a,b] [] pos) (iZip X.K ta):=by
 intro pins s σ H R I h;refine Call_ (Zcr I hg hm boot_zip (PyProof.Rows.callWith_type1 (thn (ha pos pins s σ H _ I h) λus s1 ⟨vs,H1,I1,r1,q1⟩=>?_) (by rw [hs,hs2]) (by rw [hs2];rfl)));obtain ⟨a,c,e,⟨xs,hq⟩,⟨ys,hq2⟩,q⟩:=q1;subst e;obtain ⟨u,v,rfl,ru,rv⟩:=r1.two;cases ru;cases rv;obtain ⟨its,_,pl,_⟩:=I1.list hq;obtain ⟨its2,_,pl2,_⟩:=I1.list hq2;refine call_zip_2 pl.isList pl2.isList λh' z1 z2 z3 z4 z5 z6 z7=>wpAny_pyIter_zip z1 ?_;have I2:Inv X pins σ H1 { s1 with heap:=h' }:=I1.kept (t':=s1.toks) z7;refine ⟨s1.heap.objs.size+4,[s1.heap.objs.size+4,s1.heap.objs.size+2,s1.heap.objs.size+3,s1.heap.objs.size,s1.heap.objs.size+1],_,_,H1,rfl,I2,Zlh a c _ _ _ _ _,⟨z1,z2,⟨_,_,z3⟩,z4,z5,?_⟩,λb hb=>?_,q⟩
 ·generalize s1.heap.objs.size=n;show List.Nodup ([n+4,n+2,n+3,n,n+1]:List Nat);simp
 ·have hb':s1.heap.objs.size<=b:=by
   simp only [YaF,Yax,or_false] at hb;rcases hb with rfl | rfl | rfl | rfl | rfl
   ·exact Nat.le_add_right _ _
   ·exact Nat.le_add_right _ _
   ·exact Nat.le_add_right _ _
   ·exact Yag _
   ·exact Nat.le_add_right _ _
  exact I1.fpOk hb' (I1.hok.fresh hb')
theorem set2 {σ:St}{a b u v:Option V}:((((σ.set 0 a).set 1 b).set 0 u).set 1 v)=(σ.set 0 u).set 1 v:=by
 rw [List.set_comm b u (by decide:(1:Nat)≠0),List.set_set,List.set_set]
theorem ZmI {K:Yab}{a:Addr}{xs:List V}{σ0:St}{H1:Hp}{D:Addr}{tc:TT}{te:TE}{Q:VK} (Pv:Nat->List V->Hp->Prop) (h0:Pv 0 [] (upd H1 D (.lst [])))
  (hl:∀ i ys H',i<=xs.length->Pv i ys H'->H' D=some (.lst ys)/\SqL K H' a xs)
  (step:∀ i x ys H' T,xs[i]? = some x->Pv i ys H'->H' T=none->tc ((σ0.set 0 (some (.int (i:Nat)))).set 1 (some x)) (upd H' T (.tup [.int (i:Nat),x])) λb H4 =>
   if b=true then te ((σ0.set 0 (some (.int (i:Nat)))).set 1 (some x)) H4 λy H5=>H5 D=some (.lst ys)/\ys.length<sizeLine/\Pv (i+1) (ys ++ [y]) (upd H5 D (.lst (ys ++ [y]))) else Pv (i+1) ys H4)
  (fin:∀ ys H',Pv xs.length ys H'->Q (.ref D) H') :
  ∃ W:Nat->Nat->List V->St->Hp->Prop,(∃ m,W 0 m [] σ0 (upd H1 D (.lst []))) /\
   ∀ i m ys σ' H',W i m ys σ' H'->H' D=some (.lst ys)/\(((Ite K a).stop i H'/\Q (.ref D) H')\/((Ite K a).go i H'/\∀ x H2,(Ite K a).yld i H' x H2->gTup K 2 (Zcy (ZaT 0) (Zcy (ZaT 1) gNil)) x σ' H2 λσ2 H3=>tc σ2 H3 λb H4 =>
    if b=true then te σ2 H4 λy H5=>H5 D=some (.lst ys)/\ys.length<sizeLine/\∃ m',m'<m/\W (i+1) m' (ys ++ [y]) σ2 (upd H5 D (.lst (ys ++ [y])))
    else ∃ m',m'<m/\W (i+1) m' ys σ2 H4)):=by
 refine ⟨λi m ys σ' H'=>m=xs.length - i/\i<=xs.length/\(∀ u v,(σ'.set 0 u).set 1 v=(σ0.set 0 u).set 1 v)/\Pv i ys H',⟨xs.length,by simp,YaH _,λ_ _=>rfl,h0⟩,?_⟩;rintro i m ys σ' H' ⟨rfl,hi,es,p⟩;obtain ⟨hD,hq⟩:=hl i ys H' hi p;refine ⟨hD,?_⟩
 by_cases hlt:i<xs.length
 ·refine .inr ⟨⟨xs,xs[i],hq,by simp [hlt]⟩,λx H2 y=>?_⟩;obtain ⟨T,z,rfl,hT,rfl,y⟩:=y;have st:=step i z ys H' T (y xs hq) p hT;refine ⟨T,_,rfl,SqT.of Zad,rfl,_,_,rfl,_,_,rfl,rfl,?_⟩;rw [es];have e2:∀ ys' H5,(∃ m',m'<xs.length - i/\m'=xs.length - (i+1)/\i+1<=xs.length/\(∀ u v,((((σ0.set 0 (some (.int (i:Nat)))).set 1 (some z)).set 0 u).set 1 v)=(σ0.set 0 u).set 1 v)/\Pv (i+1) ys' H5) ↔ Pv (i+1) ys' H5:=λys' H5 =>
   ⟨λ⟨_,_,_,_,_,q⟩=>q,λq=>⟨xs.length - (i+1),by omega,rfl,hlt,λ_ _=>set2,q⟩⟩
  simp only [e2];exact st
 ·have e:i=xs.length:=by omega
  subst e;exact .inl ⟨⟨xs,hq,Yag _⟩,fin ys H' p⟩
theorem ZfY {K:Yab}{a:Addr}{xs:List V}{σ0:St}{H1:Hp}{tc:TT}{te:TE}{Q:VK} (Pv:Addr->Nat->List V->Hp->Prop) (h0:∀ D,H1 D=none->Pv D 0 [] (upd H1 D (.lst [])))
  (hl:∀ D i ys H',H1 D=none->i<=xs.length->Pv D i ys H'->H' D=some (.lst ys)/\SqL K H' a xs)
  (step:∀ D i x ys H' T,H1 D=none->xs[i]? = some x->Pv D i ys H'->H' T=none->tc ((σ0.set 0 (some (.int (i:Nat)))).set 1 (some x)) (upd H' T (.tup [.int (i:Nat),x])) λb H4 =>
   if b=true then te ((σ0.set 0 (some (.int (i:Nat)))).set 1 (some x)) H4 λy H5=>H5 D=some (.lst ys)/\ys.length<sizeLine/\Pv D (i+1) (ys ++ [y]) (upd H5 D (.lst (ys ++ [y]))) else Pv D (i+1) ys H4)
  (fin:∀ D ys H',H1 D=none->Pv D xs.length ys H'->Q (.ref D) H'):ZaR (Ite K a) (gTup K 2 (Zcy (ZaT 0) (Zcy (ZaT 1) gNil))) tc te σ0 H1 Q :=
 λD hD=>ZmI (Pv D) (h0 D hD) (λi ys H' hi p=>hl D i ys H' hD hi p) (λi x ys H' T hx p hT=>step D i x ys H' T hD hx p hT) λys H' p=>fin D ys H' hD p
theorem Zn3 {X:Cx}{N':List Str}{scope:Scope}{cl:List (Str × Addr)}{C:Addr}{s2:Shared}{H2:Hp}{ex:List Addr}{y z:Str}{p1 p2 pos:Pos}{k:Nat} (K:Yab) (hc:X.calm=true) (nd:N'.Nodup) (h0:N'[0]? = some y:=by rfl) (h1:N'[1]? = some z:=by rfl)
  (hy:(relabel scope X.env).names.lookup y=some .local:=by rfl) (hz:(relabel scope X.env).names.lookup z=some .local:=by rfl) (hK:X.K=K:=by rfl) :
  PG (X.comp N' scope cl C s2 H2 ex) (.Tuple [.Name y p1,.Name z p2] k pos) (gTup K 2 (Zcy (ZaT 0) (Zcy (ZaT 1) gNil))):=by
 subst hK;exact Zhg (X:=X.comp N' scope cl C s2 H2 ex) hc (Zbz (Za3 (X:=X.comp N' scope cl C s2 H2 ex) nd h0 (.inl hy) (.inr hy)) (Zbz (Za3 (X:=X.comp N' scope cl C s2 H2 ex) nd h1 (.inl hz) (.inr hz)) Zeu))
end L2
namespace L2
open PySem PySem.Spec PyProof.Rows
open PySem PySem.Spec PyProof.Rows
theorem ZmG {α:Type}{K:Yab}{a:Addr}{σ0:St}{H1:Hp}{te:TE}{Q:VK} (u:α->V) {ms:List α} (f:α->V) (hq:SqT K H1 a (ms.map u)) (hn:ms.length<=sizeLine)
  (he:∀ x∈ms,Pu te (σ0.set 0 (some (u x))) H1 (f x))
  (fin:∀ D H',H1 D=none->Same H1 H'->H' D=some (.lst (ms.map f))->Q (.ref D) H') :
  ZaR (Itt K a) (ZaT 0) Zbe te σ0 H1 Q:=by
 intro D hD;refine ZbU (n:=ms.length) (λi ys H'=>Same H1 H'/\H' D=some (.lst ys)/\ys=(ms.take i).map f) ⟨Same.new hD,Zad,by simp⟩ (λi ys H' _ q=>q.2.1) (λi ys H' hi q=>⟨ms.map u,u ms[i],q.1.tup hq,by simp [hi]⟩)
  (λys H' q=>⟨ms.map u,q.1.tup hq,by simp⟩) ?_ (λys H' q=>?_)
 ·rintro i ys H' x H2 hi ⟨sm,hDl,hys⟩ ⟨rfl,hy⟩;have hx:=hy _ (sm.tup hq);rw [Yaf,Yac hi] at hx;have hx:u ms[i]=x:=Yae hx;subst hx;unfold Zbe;refine iteT ?_;refine he ms[i] (YaL hi) _ _ sm λH5 s5=>⟨s5 _ _ hDl,?_,(sm.trans s5).upd hD,Zad,?_⟩
  ·rw [hys,Yaa,YaR];omega
  ·rw [List.take_add_one,Yac hi,Yah,<- hys];rfl
 ·obtain ⟨sm,hDl,hys⟩:=q;rw [List.take_length] at hys;exact fin D H' hD sm (by rw [<- hys];exact hDl)
end L2
namespace SrtT
open PySem PySem.W PyProof.Rows
section
variable {O:KeyOrd}{key:Nat->O.α}{N:Nat}{cmp:Nat->Nat->(Bool->Shared->Prop)->Shared->Prop}{s:Shared}
def kk (key:Nat->O.α) (p:Array Nat) (i:Nat):O.α:=key (p.getD i 0)
def Up (key:Nat->O.α) (p:Array Nat) (k:Nat):Prop:=∀ i j,i<=j->j<k->O.kle (kk key p i) (kk key p j)
def Dn (key:Nat->O.α) (p:Array Nat) (k:Nat):Prop:=∀ i j,i<=j->j<k->O.kle (kk key p j) (kk key p i)
def Fair (key:Nat->O.α) (N:Nat) (cmp:Nat->Nat->(Bool->Shared->Prop)->Shared->Prop) (s:Shared):Prop:=∀ i j C,i<N->j<N->C (O.blt (key i) (key j)) s->cmp i j C s
def Pm (N:Nat) (p:Array Nat):Prop:=p.Perm (List.toArray (List.range N))
theorem Pm.size {p:Array Nat} (h:Pm N p):p.size=N:=by
 have e:=h.size_eq;simpa using e
theorem Pm.lt {p:Array Nat} (h:Pm N p) {i:Nat} (hi:i<N):p.getD i 0<N:=by
 have hz:=h.size;have hip:i<p.size:=by omega
 have e:p.getD i 0=p[i]:=by simp [Array.getD,hip]
 rw [e];have hm:p[i]∈(List.range N):=by
  have h1:=(Array.perm_iff_toList_perm.mp h).mem_iff (a:=p[i]);have h2:p[i]∈p.toList:=by simp
  simpa using h1.mp h2
 exact List.mem_range.mp hm
theorem Pm.of {p q:Array Nat} (h:Pm N p) (e:q.Perm p):Pm N q:=e.trans h
theorem ZfJ {p q:Array Nat}{i j:Nat} (h:p[i]? = q[j]?):kk key p i=kk key q j:=by
 unfold kk;have e:p.getD i 0=q.getD j 0:=by
  rw [Array.getD_eq_getD_getElem?,Array.getD_eq_getD_getElem?,h]
 rw [e]
theorem Znh {p:Array Nat}{a d:Nat} (ha:a<p.size) (hd:d<=a) (k:Nat) :
  kk key (bubble p a d) k=if k=a - d then kk key p a else if a - d<k/\k<=a then kk key p (k - 1) else kk key p k:=by
 have e:=getElem?_bubble ha d hd k;split at e
 ·rename_i h1
  rw [Ya7 h1];exact ZfJ e
 ·rename_i h1
  rw [Ya6 h1];split at e
  ·rename_i h2
   rw [Ya7 h2];exact ZfJ e
  ·rename_i h2
   rw [Ya6 h2];exact ZfJ e
theorem Zkq {p:Array Nat}{i j:Nat} (hj:j<=p.size) (k:Nat):kk key (kas_rev p i j) k=if i<=k/\k<j then kk key p (i+j - 1 - k) else kk key p k:=by
 have e:=getElem?_mirror_all (xs:=p) (i:=i) hj k;split at e
 ·rename_i h1
  rw [Ya7 h1];exact ZfJ e
 ·rename_i h1
  rw [Ya6 h1];exact ZfJ e
theorem ZeG {p:Array Nat}{i j:Nat} (hj:j<=p.size) (he:∀ k,i<=k->k<j->kk key p k=kk key p (j - 1)) (k:Nat):kk key (kas_rev p i j) k=kk key p k:=by
 rw [Zkq hj]
 by_cases h:i<=k/\k<j
 ·rw [Ya7 h,he (i+j - 1 - k) (by omega) (by omega),he k h.1 h.2]
 ·rw [Ya6 h]
theorem ask {α:Type}{p:Array Nat}{i j:Nat}{k:Bool->KasT α}{Q:α->Shared->Prop} (hf:Fair key N cmp s) (hp:Pm N p) (hi:i<N) (hj:j<N)
  (h:(k (O.blt (kk key p i) (kk key p j))).kasWp cmp Q s):(KasT.ask (p.getD i 0) (p.getD j 0) k).kasWp cmp Q s:=hf _ _ _ (hp.lt hi) (hp.lt hj) h
theorem Up.one {p:Array Nat}:Up key p 1:=λi j hij hj=>by
 have:i=j:=by omega
 subst this;exact KeyOrd.kle_refl _
theorem Up.more {p:Array Nat}{n:Nat} (h1:1<=n) (h:Up key p n) (hn:O.kle (kk key p (n - 1)) (kk key p n)):Up key p (n+1):=λi j hij hj=>by
 by_cases hjn:j<n
 ·exact h i j hij hjn
 ·have e:j=n:=by omega
  subst e
  by_cases hi:i=j
  ·subst hi;exact KeyOrd.kle_refl _
  ·exact KeyOrd.kle_trans (h i (j - 1) (by omega) (by omega)) hn
theorem Dn.more {p:Array Nat}{n:Nat} (h1:1<=n) (h:Dn key p n) (hn:O.kle (kk key p n) (kk key p (n - 1))):Dn key p (n+1):=λi j hij hj=>by
 by_cases hjn:j<n
 ·exact h i j hij hjn
 ·have e:j=n:=by omega
  subst e
  by_cases hi:i=j
  ·subst hi;exact KeyOrd.kle_refl _
  ·exact KeyOrd.kle_trans hn (h i (j - 1) (by omega) (by omega))
theorem asc {p:Array Nat}{Q:Nat->Shared->Prop} (hf:Fair key N cmp s) (hp:Pm N p):∀ f n,1<=n->n+f<=N->Up key p n ->
  (∀ m,n<=m->m<=n+f->Up key p m->(m=n+f\/O.klt (kk key p m) (kk key p (m - 1)))->Q m s)->(kas_asc p f n).kasWp cmp Q s
 | 0,n,_,_,hu,q=>q n (Yag _) (Yag _) hu (.inl rfl)
 |f+1,n,h1,hN,hu,q=>by
  refine ask hf hp (by omega) (by omega) ?_;cases hb:O.blt (kk key p n) (kk key p (n - 1)) with
  |true =>
   rw [Ya7 rfl];exact q n (Yag _) (by omega) hu (.inr hb)
  |false =>
   rw [Ya6 (by simp)];exact asc hf hp f (n+1) (by omega) (by omega) (hu.more h1 hb) λm a b c d=>q m (by omega) (by omega) c (d.imp (λz=>by omega) id)
theorem dsc {Q:Array Nat × Nat × Nat->Shared->Prop} (hf:Fair key N cmp s):∀ f p n q,Pm N p->1<=n->n+f<=N->Dn key p n->q+1<=n->(∀ i,n - (q+1)<=i->i<n->kk key p i=kk key p (n - 1)) ->
  (∀ p' m q',Pm N p'->n<=m->m<=n+f->Dn key p' m->q'+1<=m->(∀ i,m - (q'+1)<=i->i<m->kk key p' i=kk key p' (m - 1))->Q (p',m,q') s)->(kas_desc f p n q).kasWp cmp Q s
 | 0,p,n,q,hp,h1,hN,hd,hq,he,k=>k p n q hp (Yag _) (Yag _) hd hq he
 |f+1,p,n,q,hp,h1,hN,hd,hq,he,k=>by
  refine ask hf hp (by omega) (by omega) ?_;have hz:=hp.size;have z0:∀ p':Array Nat,∀ i,n+1 - (0+1)<=i->i<n+1->kk key p' i=kk key p' (n+1 - 1):=λp' i a b=>by
   have:i=n:=by omega
   subst this;rfl
  cases hb:O.blt (kk key p n) (kk key p (n - 1)) with
  |true =>
   rw [Ya7 rfl];have hle:=KeyOrd.kle_of_klt (O:=O) hb
   by_cases hq0:q > 0
   ·rw [Ya7 hq0];have ea:=ZeG (key:=key) (p:=p) (i:=n - (q+1)) (j:=n) (by omega) he;have hd':Dn key (kas_rev p (n - (q+1)) n) (n+1):=λi j a b=>by
     rw [ea,ea];exact (hd.more h1 hle) i j a b
    exact dsc hf f _ (n+1) 0 (hp.of (mirror_perm _ _ _ _)) (by omega) (by omega) hd' (by omega) (z0 _) λp' m q' a b c d e g=>k p' m q' a (by omega) (by omega) d e g
   ·rw [Ya6 hq0];exact dsc hf f _ (n+1) 0 hp (by omega) (by omega) (hd.more h1 hle) (by omega) (z0 _) λp' m q' a b c d e g=>k p' m q' a (by omega) (by omega) d e g
  |false =>
   rw [Ya6 (by simp)];refine ask hf hp (by omega) (by omega) ?_;cases hb2:O.blt (kk key p (n - 1)) (kk key p n) with
   |true =>
    rw [Ya7 rfl];exact k p n q hp (Yag _) (by omega) hd hq he
   |false =>
    rw [Ya6 (by simp)];have ex:kk key p n=kk key p (n - 1):=KeyOrd.kle_antisymm hb2 hb;have hle:O.kle (kk key p n) (kk key p (n - 1)):=by rw [ex];exact KeyOrd.kle_refl _
    refine dsc hf f _ (n+1) (q+1) hp (by omega) (by omega) (hd.more h1 hle) (by omega) (λi a b=>?_) λp' m q' a b c d e g=>k p' m q' a (by omega) (by omega) d e g;show kk key p i=kk key p n
    by_cases hi:i=n
    ·rw [hi]
    ·rw [ex];exact he i (by omega) (by omega)
theorem tl3 {n r:Nat}{p:Array Nat}{Q:Nat × Array Nat->Shared->Prop} (hf:Fair key N cmp s) (hp:Pm N p) (h1:1<=n) (hn:n<=r) (hr:r<=N) (hd:Dn key p n)
  (k:∀ m p',Pm N p'->1<=m->m<=r->Up key p' m->Q (m,p') s):(kas_tail3 n r p).kasWp cmp Q s:=by
 unfold kas_tail3;rw [KasT.kasWp_bind];have hz:=hp.size;have hp':Pm N (kas_rev p 0 n):=hp.of (mirror_perm _ _ _ _);refine asc hf hp' (r - n) n h1 (by omega) (λi j a b=>?_) λm a b c _=>k m _ hp' (by omega) (by omega) c;rw [Zkq (by omega),Zkq (by omega),Ya7 (by omega),Ya7 (by omega)];exact hd _ _ (by omega) (by omega)
theorem Zq8 {n r:Nat}{p:Array Nat}{Q:Nat × Array Nat->Shared->Prop} (hf:Fair key N cmp s) (hp:Pm N p) (hn:n+1<=r) (hr:r<=N) (hd:Dn key p (n+1))
  (k:∀ m p',Pm N p'->1<=m->m<=r->Up key p' m->Q (m,p') s):(kas_descPart n r p).kasWp cmp Q s:=by
 unfold kas_descPart;rw [KasT.kasWp_bind];refine dsc hf (r - (n+1)) p (n+1) 0 hp (by omega) (by omega) hd (by omega) (λi a b=>?_) λp' m q hp' a b c d e=>?_
 ·have:i=n:=by omega
  subst this;rfl
 ·have hz:=hp'.size;show (if q > 0 then kas_tail3 m r (kas_rev p' (m - (q+1)) m) else kas_tail3 m r p').kasWp cmp Q s
  by_cases hq:q > 0
  ·rw [Ya7 hq];have ea:=ZeG (key:=key) (p:=p') (i:=m - (q+1)) (j:=m) (by omega) e;exact tl3 hf (hp'.of (mirror_perm _ _ _ _)) (by omega) (by omega) hr (λi j x y=>by rw [ea,ea];exact c i j x y) k
  ·rw [Ya6 hq];exact tl3 hf hp' (by omega) (by omega) hr c k
theorem cnt {r:Nat}{p:Array Nat}{Q:Nat × Array Nat->Shared->Prop} (hf:Fair key N cmp s) (hp:Pm N p) (h1:1<=r) (hr:r<=N)
  (k:∀ m p',Pm N p'->1<=m->m<=r->Up key p' m->Q (m,p') s):(kas_count r p).kasWp cmp Q s:=by
 unfold kas_count;rw [KasT.kasWp_bind];have hz:=hp.size;refine asc hf hp (r - 1) 1 (Yag _) (by omega) Up.one λn a b c d=>?_
 by_cases hn:n=r
 ·rw [Ya7 (by simpa using hn)];exact k n p hp a (by omega) c
 ·rw [Ya6 (by simpa using hn)];have hlt:O.klt (kk key p n) (kk key p (n - 1)):=d.resolve_left (by omega)
  by_cases hg:n > 1
  ·rw [Ya7 hg];refine ask hf hp (by omega) (by omega) ?_;cases hb:O.blt (kk key p 0) (kk key p (n - 1)) with
   |true =>
    rw [Ya7 rfl];exact k n p hp a (by omega) c
   |false =>
    rw [Ya6 (by simp)];have all:∀ i,0<=i->i<n->kk key p i=kk key p (n - 1):=λi _ hi =>
     KeyOrd.kle_antisymm (c i (n - 1) (by omega) (by omega)) (KeyOrd.kle_trans (show O.kle _ _ from hb) (c 0 i (YaH _) hi))
    have ea:=ZeG (key:=key) (p:=p) (i:=0) (j:=n) (by omega) all;refine Zq8 hf (hp.of (mirror_perm _ _ _ _)) (by omega) hr (λi j x y=>?_) k;rw [ea,ea];refine Dn.more a (λi j x y=>?_) (KeyOrd.kle_of_klt hlt) i j x y;rw [all i (by omega) (by omega),all j (by omega) y];exact KeyOrd.kle_refl _
  ·rw [Ya6 hg];have e:n=1:=by omega
   subst e;refine Zq8 hf hp (by omega) hr (Dn.more (Yag _) (λi j x y=>?_) (KeyOrd.kle_of_klt hlt)) k;have:i=j:=by omega
   subst this;exact KeyOrd.kle_refl _
theorem plc {p:Array Nat}{k:Nat}{Q:Nat->Shared->Prop} (hf:Fair key N cmp s) (hp:Pm N p) (hk:k<N) (hu:Up key p k):∀ f l r,l<=r->r<=k->r - l<=f->(∀ i,i<l->O.kle (kk key p i) (kk key p k))->(∀ i,r<=i->i<k->O.klt (kk key p k) (kk key p i)) ->
  (∀ l,l<=k->(∀ i,i<l->O.kle (kk key p i) (kk key p k))->(∀ i,l<=i->i<k->O.klt (kk key p k) (kk key p i))->Q l s)->(kas_place p k f l r).kasWp cmp Q s
 | 0,l,r,h1,h2,h3,lo,hi,q=>by
  have:l=r:=by omega
  subst this;exact q l h2 lo hi
 |f+1,l,r,h1,h2,h3,lo,hi,q=>by
  unfold kas_place
  by_cases hg:l ≥ r
  ·rw [Ya7 hg];have:l=r:=by omega
   subst this;exact q l h2 lo hi
  ·rw [Ya6 hg];refine ask hf hp hk (by omega) ?_;cases hb:O.blt (kk key p k) (kk key p ((l+r) / 2)) with
   |true =>
    rw [Ya7 rfl];exact plc hf hp hk hu f l _ (by omega) (by omega) (by omega) lo (λi a b=>KeyOrd.klt_of_klt_of_kle hb (hu _ _ a b)) q
   |false =>
    rw [Ya6 (by simp)];exact plc hf hp hk hu f _ r (by omega) h2 (by omega) (λi a=>KeyOrd.kle_trans (hu i ((l+r) / 2) (by omega) (by omega)) (show O.kle _ _ from hb)) hi q
theorem bin {Q:Array Nat->Shared->Prop} (hf:Fair key N cmp s):∀ f p k,Pm N p->k+f<=N->Up key p k->(∀ p',Pm N p'->Up key p' (k+f)->Q p' s)->(kas_bin f p k).kasWp cmp Q s
 | 0,p,k,hp,_,hu,q=>q p hp hu
 |f+1,p,k,hp,hN,hu,q=>by
  unfold kas_bin;rw [KasT.kasWp_bind];refine plc hf hp (by omega) hu k 0 k (YaH _) (Yag _) (by omega) (λi z=>by omega) (λi a b=>by omega) λl hl lo hi=>?_;have hz:=hp.size;refine bin hf f _ (k+1) (hp.of (bubble_perm _ _ _)) (by omega) (λi j a b=>?_) λp' hp' hu'=>q p' hp' (by rw [show k+(f+1)=k+1+f by omega];exact hu');rw [Znh (by omega) (by omega),Znh (by omega) (by omega),show k - (k - l)=l by omega]
  by_cases i1:i=l
  ·rw [Ya7 i1]
   by_cases j1:j=l
   ·rw [Ya7 j1];exact KeyOrd.kle_refl _
   ·rw [Ya6 j1,Ya7 (by omega)];exact KeyOrd.kle_of_klt (hi _ (by omega) (by omega))
  ·rw [Ya6 i1]
   by_cases i2:l<i/\i<=k
   ·rw [Ya7 i2,Ya6 (by omega),Ya7 (by omega)];exact hu _ _ (by omega) (by omega)
   ·rw [Ya6 i2]
    by_cases j1:j=l
    ·rw [Ya7 j1];exact lo _ (by omega)
    ·rw [Ya6 j1]
     by_cases j2:l<j/\j<=k
     ·rw [Ya7 j2];exact hu _ _ (by omega) (by omega)
     ·rw [Ya6 j2];exact hu _ _ a (by omega)
theorem srt {Q:Array Nat->Shared->Prop} (hf:Fair key N cmp s) (h2:1<=N) (q:∀ p,Pm N p->Up key p N->Q p s):(kas_sort N).kasWp cmp Q s:=by
 unfold kas_sort;rw [KasT.kasWp_bind];refine cnt hf (Array.Perm.refl _) h2 (Yag _) λm p hp h1 hm hu=>?_;show (if m<N then kas_bin (N - max m 1) p (max m 1) else KasT.ret p).kasWp cmp Q s;have e:max m 1=m:=by omega
 rw [e]
 by_cases hlt:m<N
 ·rw [Ya7 hlt];exact bin hf _ _ _ hp (by omega) hu λp' a b=>q p' a (by rw [show m+(N - m)=N by omega] at b;exact b)
 ·rw [Ya6 hlt];have:m=N:=by omega
  subst this;exact q p hp hu
end
end SrtT
namespace SrtT
open PySem PyProof.Rows
section
open PySem.SeqAt
open PySem.AutoSeq1 (wpAny_loadPart')
open PySem.MeetsSeq PySem.MeetsSeq2 PySem.MeetsSeq3
theorem ints_get:∀ {vs:List Value}{ns:List Int}{i:Nat},IntsAre vs ns->i<ns.length->∃ t,vs[i]? = some (.int (ns.getD i 0) t)
 |_,_,i,.nil,h=>by simp at h
 |_,_,0,.cons n t r,h=>⟨t,by simp⟩
 |_,_,i+1,.cons n t r,h=>by
  obtain ⟨u,e⟩:=ints_get (i:=i) r (by simpa using h);exact ⟨u,by simpa using e⟩
end
section
variable {prog:Program}{w:World}{A:Around}{E:Value->Shared->Prop}{s:Shared}
end
end SrtT
namespace SrtT
open PySem PySem.W PyProof.Rows
def outOf (vs:List Value) (p:Array Nat):List Value:=p.toList.map λi=>vs.getD i Value.none
section
variable {prog:Program}{w:World}{A:Around}{E:Value->Shared->Prop}{s:Shared}{O:KeyOrd}{key:Nat->O.α}{vs:List Value}
def Look (prog:Program) (w:World) (A:Around) (O:KeyOrd) (key:Nat->O.α) (vs:List Value) (s:Shared):Prop :=
 ∀ h':Heap,(∀ b o,s.heap.get? b=some o->h'.get? b=some o)->∃ κ,(2<=vs.length->∀ (Q:SortKind->Shared->Prop) (E:Value->Shared->Prop),Q κ { s with heap:=h' }->wpAny (model prog w) A (keyKind' vs.toArray) Q E { s with heap:=h' }) /\
  Fair key vs.length (kas_ask prog w A κ vs) { s with heap:=h' }
theorem Zlg {h:Heap}{a:Addr}{n:Nat} (qa:h.get? a=some (seqObj "list" vs.toArray n)):∃ m,(h.update a (Obj.mapSeq λ_=>(#[]:Array Value))).get? a=some (seqObj "list" #[] m):=⟨_,get?_update_seq qa λ_=>#[]⟩
theorem ZpD {a:Addr}{n:Nat}{P:PySem.Fin->Shared->Prop} (qa:s.heap.get? a=some (seqObj "list" vs.toArray n)) (hk:∀ h':Heap,(∀ b o,b≠a->s.heap.get? b=some o->h'.get? b=some o) ->
   ∃ κ,(2<=vs.length->∀ (Q:SortKind->Shared->Prop) (E:Value->Shared->Prop),Q κ { s with heap:=h' }->wpAny (model prog w) A (keyKind' vs.toArray) Q E { s with heap:=h' })/\Fair key vs.length (kas_ask prog w A κ vs) { s with heap:=h' }) (h64:vs.length<64)
  (q:∀ p,Pm vs.length p->Up key p vs.length->P (.done (.ret .none)) { s with heap:=sortedHeap s.heap a vs (outOf vs p).toArray }):wpAny (model prog w) A (Builtin.«list.sort» ⟨[.ref a],[]⟩) P E s:=by
 have la:a<s.heap.objs.size:=Yal qa;obtain ⟨m,q1⟩:=Zlg qa;have q6:(((s.heap.update a (Obj.mapSeq λ_=>(#[]:Array Value))).push (seqObj "tuple" vs.toArray 0)).push (seqObj "list" #[] 0)).get? a=some (seqObj "list" #[] m):=Yad _ (Yad _ q1);have keep:∀ b o,b≠a->s.heap.get? b=some o->(((s.heap.update a (Obj.mapSeq λ_=>(#[]:Array Value))).push (seqObj "tuple" vs.toArray 0)).push (seqObj "list" #[] 0)).get? b=some o:=λb o hb e =>
  Yad _ (Yad _ ((Heap.get?_update_ne _ _ _ _ hb).trans e))
 obtain ⟨κ,k1,k2⟩:=hk _ keep;rw [list_sort_plain];refine Ya3 (listItems_at qa rfl ?_);refine Ya3 (listUpdate_at qa rfl ?_ (by rw [Yam,sizeLine_eq];omega) (YaH _));refine Ya3 (seqEpoch_at q1 rfl (Ya3 (wpAny_newTuple ?_ (by show vs.length<=_;rw [sizeLine_eq];omega))));refine Ya3 (wpAny_newList (wpAny_holding ?_) (YaH _));show wpAny (model prog w) A _ P E { s with heap:=(((s.heap.update a (Obj.mapSeq λ_=>(#[]:Array Value))).push (seqObj "tuple" vs.toArray 0)).push (seqObj "list" #[] 0)) };dsimp only;have hout:∀ p,Pm vs.length p->((p.map (kas_item (pairsOf vs))).map (·.2))=(outOf vs p).toArray:=λp hp=>by
  apply Array.toList_inj.mp;rw [Array.map_map,Array.toList_map];exact List.map_congr_left λi _=>by show (kas_item (pairsOf vs) i).2=_;rw [kas_item_eq]
 have hlen:∀ p,Pm vs.length p->(outOf vs p).toArray.size<=sizeLine+1:=λp hp=>by
  have z:=hp.size;rw [Yam,outOf,Yaa,YaD,z,sizeLine_eq];omega
 by_cases h2:vs.toArray.size<2
 ·rw [Ya7 h2,Ya7 h2];rw [Yam] at h2;refine Ya3 (Ya8 ?_);rw [StateT.run_pure];refine Ya3 (Ya8 ?_);dsimp only;have hp:Pm vs.length (List.toArray (List.range vs.length)):=Array.Perm.refl _;have e0:(arrOf (SortSt.mk' general' (vs.toArray.zip vs.toArray) #[] 7 none)).map (·.2)=(outOf vs (List.toArray (List.range vs.length))).toArray:=by
   rw [<- hout _ hp];have e:=kas_range (pairsOf vs);rw [pairsOf_size] at e;rw [e];rfl
  rw [e0];refine Ya3 (seqEpoch_at q6 rfl (Ya3 (listUpdate_at q6 rfl ?_ (YaH _) (hlen _ hp))));simp only [bne_self_eq_false,Bool.false_eq_true,if_false];refine Ya8 (q _ hp λi j a b=>?_);have:i=j:=by omega
  subst this;exact KeyOrd.kle_refl _
 ·rw [Ya6 h2,Ya6 h2];rw [Yam] at h2;refine Ya3 (k1 (by omega) _ _ ?_);refine Ya3 (Ya9 (kat_run (κ:=κ) (Q:=λst s'=>s'={ s with heap:=((s.heap.update a (Obj.mapSeq λ_=>(#[]:Array Value))).push (seqObj "tuple" vs.toArray 0)).push (seqObj "list" #[] 0) } /\
    ∃ p,Pm vs.length p/\Up key p vs.length/\arrOf st=p.map (kas_item (pairsOf vs))/\failedOf st=none) (G:=λp s'=>s'={ s with heap:=((s.heap.update a (Obj.mapSeq λ_=>(#[]:Array Value))).push (seqObj "tuple" vs.toArray 0)).push (seqObj "list" #[] 0) }/\Pm vs.length p/\Up key p vs.length)
   rfl (by omega) h64 (λp st s' _ a1 a2 a3=>⟨a3.1,p,a3.2.1,a3.2.2,a1,a2⟩) (srt k2 (by omega) λp a b=>⟨rfl,a,b⟩)) ?_ λ_ _ e=>e)
  rintro ⟨⟨⟩,st⟩ s' ⟨rfl,p,hp,hu,har,hfa⟩;dsimp only;rw [har,hout p hp];refine Ya3 (seqEpoch_at q6 rfl (Ya3 (listUpdate_at q6 rfl ?_ (YaH _) (hlen _ hp))));rw [hfa];simp only [bne_self_eq_false,Bool.false_eq_true,if_false];exact Ya8 (q p hp hu)
theorem sortedBy {l:Addr}{Q:Value->Shared->Prop} (hl:s.heap.IsList l vs.toArray) (hk:Look prog w A.in1.in1 O key vs s) (h64:vs.length<64)
  (q:∀ p,Pm vs.length p->Up key p vs.length->Q (.ref (s.heap.objs.size+1)) { s with heap:=sortedAll s.heap vs (outOf vs p).toArray }):wpAny (model prog w) A (call (.builtin "sorted") [.ref l]) Q E s:=by
 refine Calls.call_function_entry kind_sorted plain_sorted entry_sorted (args_sorted1 _) ?_;unfold Builtin.«sorted»;refine Ya3 (m:=checkCount "sorted" 1 1 _) (Ya8 (Ya3 (collect_list hl (Ya3 (wpAny_newList ?_ (by rw [sizeLine_eq];omega))) (by rw [sizeLine_eq];omega))));have z1:((s.heap.push (seqObj "list" #[] 0)).update s.heap.objs.size (Obj.mapSeq (· ++ vs.toArray))).objs.size=s.heap.objs.size+1:=by rw [Heap.size_update,size_push']
 have q1:(((s.heap.push (seqObj "list" #[] 0)).update s.heap.objs.size (Obj.mapSeq (· ++ vs.toArray))).push (seqObj "list" vs.toArray 0)).get? (s.heap.objs.size+1)=some (seqObj "list" vs.toArray 0):=by
  rw [<- z1];exact Yao _ rfl
 have keep:∀ b o,s.heap.get? b=some o->(((s.heap.push (seqObj "list" #[] 0)).update s.heap.objs.size (Obj.mapSeq (· ++ vs.toArray))).push (seqObj "list" vs.toArray 0)).get? b=some o:=λb o e=>by
  have hlt:b<s.heap.objs.size:=Yal e;have n0:b≠s.heap.objs.size:=Yap hlt;rw [Heap.get?_push_ne _ _ _ (by rw [z1];exact Yap (Nat.lt_succ_of_lt hlt)),Heap.get?_update_ne _ _ _ _ n0,Heap.get?_push_ne _ _ _ n0];exact e
 show wpAny _ _ _ _ _ { s with heap:=(((s.heap.push (seqObj "list" #[] 0)).update s.heap.objs.size (Obj.mapSeq (· ++ vs.toArray))).push (seqObj "list" vs.toArray 0)) };rw [z1];refine Ya3 (wpAny_holding (wpAny_call_entry slot_list_sort ⟨_,q1,rfl⟩ entry_list_sort (ZpD (key:=key) q1 (λh' k=>hk h' λb o e=>k b o (Yap (Nat.lt_succ_of_lt (Yal e))) (keep b o e)) h64 λp a b=>⟨_,rfl,Ya8 ⟨_,rfl,q p a b⟩⟩) (args_list_sort _)))
end
theorem Zkn:∀ a:List Int,HT.lexLt a a=false
 | []=>rfl
 |x :: xs=>by rw [HT.lexLt_cons,Ya7 rfl,Zkn xs]
theorem Znf:∀ a b c:List Int,HT.lexLt a b=true->HT.lexLt b c=true->HT.lexLt a c=true
 | [],[],_,h,_=>by simp [HT.lexLt_nil_nil] at h
 | [],_ :: _,[],_,h=>by simp [HT.lexLt_cons_nil] at h
 | [],_ :: _,_ :: _,_,_=>rfl
 |_ :: _,[],_,h,_=>by simp [HT.lexLt_cons_nil] at h
 |_ :: _,_ :: _,[],_,h=>by simp [HT.lexLt_cons_nil] at h
 |x :: xs,y :: ys,z :: zs,h1,h2=>by
  rw [HT.lexLt_cons] at h1 h2 ⊢
  by_cases e1:x=y
  ·subst e1;rw [Ya7 rfl] at h1
   by_cases e2:x=z
   ·rw [Ya7 e2] at h2 ⊢;exact Znf xs ys zs h1 h2
   ·rw [Ya6 e2] at h2 ⊢;exact h2
  ·rw [Ya6 e1] at h1
   by_cases e2:y=z
   ·subst e2;rw [Ya6 e1];exact h1
   ·rw [Ya6 e2] at h2;have a1:=of_decide_eq_true h1;have a2:=of_decide_eq_true h2;rw [Ya6 (by omega)];exact Ya4 (by omega)
theorem Zng:∀ a b c:List Int,HT.lexLt a c=true->HT.lexLt a b=true\/HT.lexLt b c=true
 | [],[],[],h=>by simp [HT.lexLt_nil_nil] at h
 | [],[],_ :: _,_=>.inr rfl
 | [],_ :: _,_,_=>.inl rfl
 |_ :: _,_,[],h=>by simp [HT.lexLt_cons_nil] at h
 |_ :: _,[],_ :: _,_=>.inr rfl
 |x :: xs,y :: ys,z :: zs,h=>by
  rw [HT.lexLt_cons] at h;rw [HT.lexLt_cons,HT.lexLt_cons]
  by_cases e:x=z
  ·subst e;rw [Ya7 rfl] at h
   by_cases e1:x=y
   ·subst e1;rw [Ya7 rfl,Ya7 rfl];exact Zng xs ys zs h
   ·rw [Ya6 e1,Ya6 (Ne.symm e1)];simp only [decide_eq_true_eq];omega
  ·rw [Ya6 e] at h;have h:=of_decide_eq_true h
   by_cases e1:x=y
   ·subst e1;rw [Ya6 e];exact .inr (Ya4 h)
   ·rw [Ya6 e1]
    by_cases h2:x<y
    ·exact .inl (Ya4 h2)
    ·right;rw [Ya6 (by omega)];exact Ya4 (by omega)
theorem lex_tot:∀ a b:List Int,HT.lexLt a b=false->HT.lexLt b a=false->a=b
 | [],[],_,_=>rfl
 | [],_ :: _,h,_=>by simp [HT.lexLt_nil_cons] at h
 |_ :: _,[],_,h=>by simp [HT.lexLt_nil_cons] at h
 |x :: xs,y :: ys,h1,h2=>by
  rw [HT.lexLt_cons] at h1 h2
  by_cases e:x=y
  ·subst e;rw [Ya7 rfl] at h1 h2;rw [lex_tot xs ys h1 h2]
  ·rw [Ya6 e] at h1;rw [Ya6 (Ne.symm e)] at h2;have a1:=of_decide_eq_false h1;have a2:=of_decide_eq_false h2;omega
def lexO:KeyOrd:=⟨List Int,HT.lexLt,Zkn,Znf,Zng,lex_tot⟩
end SrtT
namespace L2
open PySem PySem.Spec PyProof.Rows
section
variable {X:Cx}
def mvd {α:Type} (xs:List α) (d:α) (p:Array Nat):List α:=p.toList.map λi=>xs.getD i d
theorem ZeM {α:Type}{xs:List α}{i:Nat}{d:α} (h:i<xs.length):xs.getD i d=xs[i]:=by simp [h]
theorem ZgN {xs:List V}{us:List Value} (r:Vals xs us):∀ is:List Nat,(∀ i∈is,i<xs.length)->Vals (is.map λi=>xs.getD i .non) (is.map λi=>us.getD i Value.none)
 | [],_=>.nil
 |i :: is,h=>by
  refine .cons ?_ (ZgN r is λj hj=>h j (by simp [hj]));have hi:=h i (by simp);obtain ⟨u,e,ru⟩:=r.get (i:=i) (x:=xs[i]) (by simp [hi]);have e2:us.getD i Value.none=u:=by rw [Yat,e];rfl
  show RelV (xs.getD i .non) (us.getD i Value.none);rw [ZeM hi,e2];exact ru
end
end L2
namespace SrtT
open PySem PySem.W PyProof.Rows
section
variable {prog:Program}{w:World}{A:Around}{E:Value->Shared->Prop}{s:Shared}
theorem lexK {b:Bool}{Q:Bool->Shared->Prop}:∀ {xs ys:List Value}{ns ms:List Int} (fin:Bool) (i:Nat),IntsAre xs ns->IntsAre ys ms->(fin=true ↔ ns.length<ms.length)->Q (HT.lexLt ns ms) s->KatLex prog w A b fin Q (xs.zip ys) i s
 |_,_,_,_,fin,i,.nil,.nil,hf,q=>by
  have:fin=false:=by
   cases fin with
   |false=>rfl
   |true=>simp at hf
  subst this;exact kat_nil q
 |_,_,_,_,fin,i,.nil,.cons m t r,hf,q=>by
  have:fin=true:=hf.mpr (by simp);subst this;exact kat_nil q
 |_,_,_,_,fin,i,.cons m t r,.nil,hf,q=>by
  have:fin=false:=by
   cases fin with
   |false=>rfl
   |true=>simp at hf
  subst this;exact kat_nil q
 |_,_,_,_,fin,i,.cons n t r,.cons m u r',hf,q=>by
  rw [HT.lexLt_cons] at q;refine kat_cons (wpAny_eqBool_int ?_)
  by_cases e:n=m
  ·subst e;rw [Ya7 rfl] at q;rw [show (n == n)=true by simp];exact kat_yes (lexK fin (i+1) r r' (by simpa using hf) q)
  ·rw [Ya6 e] at q;rw [show (n == m)=false by simp [e]];refine kat_no ?_;cases b && i == 0 with
   |true=>exact oneLt_int q
   |false=>exact kat_one _ _ (lt_int q)
end
end SrtT
namespace L2
open PySem PySem.Spec PyProof.Rows
section
variable {X:Cx}
theorem ZiT {h:Heap}:∀ {vs fs:List Value},vs.length=fs.length->(∀ i,i<vs.length->∃ a o xs n,vs.getD i Value.none=.ref a/\h.get? a=some o/\o.cls=.type "tuple" /\ o.data=.seq xs n/\xs[0]? = some (fs.getD i Value.none))->PySem.W.KatTups h vs fs
 | [],[],_,_=>.nil
 |v :: vs,f :: fs,hl,hg=>by
  obtain ⟨a,o,xs,n,e1,e2,e3,e4,e5⟩:=hg 0 (by simp);have e1:v=.ref a:=by simpa using e1
  subst e1;refine .cons e2 e3 e4 (by simpa using e5) (ZiT (by simpa using hl) λi hi=>?_);simpa using hg (i+1) (by simpa using hi)
theorem Zf0 (hu:X.A.units+64<cLine):Zbv X (.builtin "sorted") (λxs H Q=>∃ (a:Addr) (rs:List (Addr × List Int)),xs=[.ref a]/\SqL X.K H a (rs.map λr=>V.ref r.1)/\rs.length<64/\(∀ r∈rs,SqT X.K H r.1 (r.2.map V.int)/\0<r.2.length) /\
  ∀ (D:Addr) (rs':List (Addr × List Int)),H D=none->rs'.Perm rs->rs'.Pairwise (λr q=>HT.lexLt q.2 r.2=false)->Q (.ref D) (upd H D (.lst (rs'.map λr=>V.ref r.1)))):=by
 intro pins s σ H xs us Q I rv h;obtain ⟨a,rs,rfl,hq,h64,hrs,q⟩:=h;obtain ⟨u,rfl,ru⟩:=rv.one;cases ru;obtain ⟨its,r,pl,hz⟩:=I.list hq;have hlen:its.length=rs.length:=by rw [<- r.length,Yaa]
 have hat:∀ i,i<rs.length->its.getD i Value.none=.ref (rs.getD i (0,[])).1:=λi hi=>by
  obtain ⟨v,e,rv⟩:=r.get (i:=i) (x:=.ref rs[i].1) (by simp [hi]);cases rv;rw [Yat,e,ZeM hi];rfl
 have hrow:∀ i,i<rs.length->∃ vs,IsTup s.heap (rs.getD i (0,[])).1 vs.toArray/\IntsAre vs (rs.getD i (0,[])).2/\0<vs.length:=λi hi=>by
  rw [ZeM hi];obtain ⟨h1,h2⟩:=hrs rs[i] (YaL hi);obtain ⟨vs,r1,p1,_⟩:=I.tuple h1;exact ⟨vs,p1,ZeK r1,by rw [<- r1.length,Yaa];exact h2⟩
 refine SrtT.sortedBy (O:=SrtT.lexO) (key:=λi=>(rs.getD i (0,[])).2) pl.isList (λh' k=>⟨tuples' (Value.type "int" != Value.type "tuple"),λh2 Q' E' q'=>?_,λi j C hi hj c=>?_⟩) (by omega) λp hp hup=>?_
 ·have hf:∀ i,∃ f:Value,i<rs.length->∃ t,f=.int ((rs.getD i (0,[])).2.getD 0 0) t/\∃ a o xs n,its.getD i Value.none=.ref a/\h'.get? a=some o/\o.cls=.type "tuple" /\ o.data=.seq xs n/\xs[0]? = some f:=λi=>by
   by_cases hi:i<rs.length
   ·obtain ⟨vs,⟨o,e1,e2,n,e3⟩,i2,l2⟩:=hrow i hi;obtain ⟨t,e4⟩:=SrtT.ints_get (i:=0) i2 (by rw [<- i2.length];exact l2);exact ⟨_,λ_=>⟨t,rfl,_,o,_,n,hat i hi,k _ _ e1,e2,e3,by simpa using e4⟩⟩
   ·exact ⟨.none,λz=>absurd z hi⟩
  let fs:=(List.range rs.length).map λi=>Classical.choose (hf i)
  have hfs:∀ i,i<rs.length->fs.getD i Value.none=Classical.choose (hf i):=λi hi=>by simp [fs,hi]
  refine PySem.W.kat_kind (vs:=its) (fs:=fs) (T:=.type "int") (ZiT (by simp [fs,hlen]) λi hi=>?_) (by simp [fs];omega) (λv hv=>?_) (by rfl) q'
  ·rw [hfs i (by omega)];obtain ⟨t,_,z⟩:=Classical.choose_spec (hf i) (by omega);exact z
  ·obtain ⟨i,hi,rfl⟩:=Yar.mp hv;obtain ⟨t,e,_⟩:=Classical.choose_spec (hf i) (List.mem_range.mp hi);rw [e];exact .of_pure rfl
 ·unfold PySem.W.kas_ask;rw [hat i (by omega),hat j (by omega)];obtain ⟨vi,⟨o1,a1,b1,n1,c1⟩,ii,_⟩:=hrow i (by omega);obtain ⟨vj,⟨o2,a2,b2,n2,c2⟩,ij,_⟩:=hrow j (by omega);refine PySem.W.kat_lt (k _ _ a1) c1 (k _ _ a2) c2 (SrtT.lexK _ 0 (by simpa using ii) (by simpa using ij) ?_ c);rw [decide_eq_true_eq,Yam,Yam,ii.length,ij.length]
 ·rw [hlen] at hp hup;have hin:∀ i∈p.toList,i<rs.length:=λi hi=>by
   obtain ⟨k,hk,rfl⟩:=List.getElem_of_mem hi;rw [YaD,hp.size] at hk;have e:=hp.lt hk;simpa [Array.getD,hp.size,hk] using e
  obtain ⟨e,he⟩:=sortedAll_at s.heap its (SrtT.outOf its p).toArray;refine ⟨.ref _,_,I.laid (t':=s.toks) (o:=.lst ((mvd rs (0,[]) p).map λr=>V.ref r.1)) (λb o=>sortedAll_old) (Nat.le_succ _) ⟨?_,SrtT.outOf its p,e,?_,he⟩,rfl,q _ (mvd rs (0,[]) p) (I.hok.fresh (Nat.le_succ _)) ?_ ?_⟩
  ·rw [Yaa,mvd,Yaa,YaD,hp.size,sizeLine_eq];omega
  ·have hv:=ZgN r p.toList (λi hi=>by rw [Yaa];exact hin i hi);unfold SrtT.outOf mvd;rw [Yau];refine cast (congrArg (λz=>Vals z _) (List.map_congr_left λi hi=>?_)) hv;have:=hin i hi;simp [this]
  ·have h1:=(Array.perm_iff_toList_perm.mp hp).map λi=>rs.getD i (0,[]);have h2:(List.range rs.length).map (λi=>rs.getD i (0,[]))=rs:=by
    apply List.ext_getElem (by simp);intro i a b;simp [b]
   unfold mvd;rw [show (List.toArray (List.range rs.length)).toList=List.range rs.length from rfl,h2] at h1;exact h1
  ·rw [List.pairwise_iff_getElem];intro i j hi hj hij;unfold mvd at hi hj ⊢;rw [Yaa,YaD,hp.size] at hi hj;have:=hup i j (by omega) hj;unfold SrtT.kk at this;simp [Array.getD,hp.size,hi,hj] at this ⊢;exact this
end
end L2
namespace L2
open PySem PySem.Spec PyProof.Rows
theorem ZdU {α:Type}{J:It}{ms:List α}{σ0:St}{H1:Hp}{te:TE}{Q:VK} (u:α->V) (o:α->HO) (hn:ms.length<=1000)
  (hgo:∀ i H',i<ms.length->Same H1 H'->J.go i H') (hst:∀ H',Same H1 H'->J.stop ms.length H') (hy:∀ i H' x H2 (h:i<ms.length),Same H1 H'->J.yld i H' x H2->H2=H'/\x=u ms[i])
  (he:∀ x∈ms,∀ (H':Hp) (Q':VK),Same H1 H'->(∀ l H'',H' l=none->Same H' H''->H'' l=some (o x)->Q' (.ref l) H'')->te (σ0.set 0 (some (u x))) H' Q')
  (fin:∀ (D:Addr) (qs:List (Addr × α)) (H':Hp),H1 D=none->qs.map (·.2)=ms->(qs.map (·.1)).Nodup->(∀ q∈qs,H' q.1=some (o q.2)/\H1 q.1=none/\q.1≠D)->Same H1 H'->H' D=some (.lst (qs.map λq=>V.ref q.1))->Q (.ref D) H') :
  ZaR J (ZaT 0) Zbe te σ0 H1 Q:=by
 intro D hD;refine ZbU (n:=ms.length) (λi ys H'=>∃ qs:List (Addr × α),Same H1 H'/\H' D=some (.lst ys)/\ys=(qs.map λq=>V.ref q.1)/\qs.map (·.2)=ms.take i/\(qs.map (·.1)).Nodup/\∀ q∈qs,H' q.1=some (o q.2)/\H1 q.1=none/\q.1≠D)
  ⟨[],Same.new hD,Zad,rfl,by simp,List.nodup_nil,λq hq=>nomatch hq⟩ (λi ys H' _ ⟨_,_,e,_⟩=>e) (λi ys H' hi ⟨_,sm,_⟩=>hgo i H' hi sm) (λys H' ⟨_,sm,_⟩=>hst H' sm) ?_ (λys H' h=>?_)
 ·rintro i ys H' x H2 hi ⟨qs,sm,hDl,hys,hqm,hnd,hq⟩ y;obtain ⟨rfl,rfl⟩:=hy i H' x H2 hi sm y;unfold Zbe;refine iteT (he ms[i] (YaL hi) _ _ sm λl H5 hl s5 el=>?_);have nlD:D≠l:=Zav hDl hl;have ql:qs.length=i:=by
   have:=congrArg List.length hqm;rw [Yaa,YaR] at this;omega
  refine ⟨s5 _ _ hDl,?_,qs ++ [(l,ms[i])],(sm.trans s5).upd hD,Zad,?_,?_,?_,?_⟩
  ·rw [hys,Yaa,ql];exact ZaD (by omega)
  ·rw [hys,Yah];rfl
  ·rw [Yah,hqm,List.take_add_one,Yac hi];rfl
  ·rw [Yah,List.nodup_append];refine ⟨hnd,by simp,λa ha b hb e=>?_⟩;obtain ⟨q,hq1,rfl⟩:=Yar.mp ha;have hb:b=l:=by simpa using hb
   subst hb;have:=(hq q hq1).1;rw [e,hl] at this;cases this
  ·intro q hq1;rcases YaG.mp hq1 with z | z
   ·obtain ⟨z1,z2,z3⟩:=hq q z;exact ⟨by rw [Zai z3];exact s5 _ _ z1,z2,z3⟩
   ·have:q=(l,ms[i]):=by simpa using z
    subst this;exact ⟨by rw [Zai (Ne.symm nlD)];exact el,sm.free hl,Ne.symm nlD⟩
 ·obtain ⟨qs,sm,hDl,hys,hqm,hnd,hq⟩:=h;rw [List.take_length] at hqm;exact fin D qs H' hD hqm hnd hq sm (by rw [<- hys];exact hDl)
theorem ZiB {α:Type}{K:Yab}{a:Addr}{ms:List α}{σ0:St}{H1:Hp}{te:TE}{Q:VK} (u:α->V) (o:α->HO) (hq:SqL K H1 a (ms.map u)) (hn:ms.length<=1000)
  (he:∀ x∈ms,∀ (H':Hp) (Q':VK),Same H1 H'->(∀ l H'',H' l=none->Same H' H''->H'' l=some (o x)->Q' (.ref l) H'')->te (σ0.set 0 (some (u x))) H' Q')
  (fin:∀ (D:Addr) (qs:List (Addr × α)) (H':Hp),H1 D=none->qs.map (·.2)=ms->(qs.map (·.1)).Nodup->(∀ q∈qs,H' q.1=some (o q.2)/\H1 q.1=none/\q.1≠D)->Same H1 H'->H' D=some (.lst (qs.map λq=>V.ref q.1))->Q (.ref D) H') :
  ZaR (Itl K a) (ZaT 0) Zbe te σ0 H1 Q :=
 ZdU u o hn (λi H' hi sm=>⟨ms.map u,u ms[i],sm.seq hq,by simp [hi]⟩) (λH' sm=>⟨ms.map u,sm.seq hq,by simp⟩) (λi H' x H2 hi sm y=>⟨y.1,by
  have:=y.2 _ (sm.seq hq);rw [Yaf,Yac hi] at this
  exact (Yae this).symm⟩) he fin
section
variable {X:Cx}
end
end L2
namespace L2
open PySem PySem.Spec PyProof.Rows
mutual
inductive RdS (S:List Addr) (H:Hp):V->PyData->Prop
 |non:RdS S H .non .none
 |bl (b:Bool):RdS S H (.bl b) (.bool b)
 |int (i:Int):RdS S H (.int i) (.int i)
 |str (x:Str):RdS S H (.str x) (.str x)
 |lst {a:Addr}{xs:List V}{ds:List PyData}:H a=some (.lst xs)->a∉S->RdSs S H xs ds->RdS S H (.ref a) (.list ds)
 |tup {a:Addr}{xs:List V}{ds:List PyData}:H a=some (.tup xs)->a∉S->RdSs S H xs ds->RdS S H (.ref a) (.tuple ds)
 |dct {a:Addr}:H a=some (.dK [])->a∉S->RdS S H (.ref a) (.dict [])
inductive RdSs (S:List Addr) (H:Hp):List V->List PyData->Prop
 |nil:RdSs S H [] []
 |cons {x:V}{d:PyData}{xs:List V}{ds:List PyData}:RdS S H x d->RdSs S H xs ds->RdSs S H (x :: xs) (d :: ds)
end
mutual
theorem RdS.move {S S':List Addr}{H H':Hp} (k:∀ b o,b∉S->H b=some o->H' b=some o) (ss:∀ b,b∉S->b∉S'):∀ {x:V}{d:PyData},RdS S H x d->RdS S' H' x d
 |_,_,.non=>.non
 |_,_,.bl b=>.bl b
 |_,_,.int i=>.int i
 |_,_,.str x=>.str x
 |_,_,.lst e n r=>.lst (k _ _ n e) (ss _ n) (RdSs.move k ss r)
 |_,_,.tup e n r=>.tup (k _ _ n e) (ss _ n) (RdSs.move k ss r)
 |_,_,.dct e n=>.dct (k _ _ n e) (ss _ n)
theorem RdSs.move {S S':List Addr}{H H':Hp} (k:∀ b o,b∉S->H b=some o->H' b=some o) (ss:∀ b,b∉S->b∉S'):∀ {xs:List V}{ds:List PyData},RdSs S H xs ds->RdSs S' H' xs ds
 |_,_,.nil=>.nil
 |_,_,.cons h t=>.cons (RdS.move k ss h) (RdSs.move k ss t)
end
theorem RdS.same {S:List Addr}{H H':Hp}{x:V}{d:PyData} (r:RdS S H x d) (s:Same H H'):RdS S H' x d:=r.move (λb o _ e=>s b o e) λ_ n=>n
def tyD:PyData->String
 | .none => "NoneType"
 | .bool _ => "bool"
 | .int _ => "int"
 | .str _ => "str"
 | .list _ => "list"
 | .tuple _ => "tuple"
 | .dict _ => "dict"
theorem RdS.ty {S:List Addr}{H:Hp}{K:Yab}:∀ {x:V}{d:PyData},RdS S H x d->TyOf K H x (.type (tyD d))
 |_,_,.non=>.non
 |_,_,.bl b=>.bl b
 |_,_,.int i=>.int i
 |_,_,.str x=>.str x
 |_,_,.lst e _ _=>.lst e
 |_,_,.tup e _ _=>.tup e
 |_,_,.dct e _=>.dK e
section
variable {P:Program}{w:World}{H:Hp}{h:Heap}{S:List Addr}
theorem Ziz (ok:HOk P w H h) {a:Addr} (e:H a=some (.dK [])):(a == sysModules)=false/\∃ o n,h.get? a=some o/\o.cls=.type "dict" /\ o.data=.dict #[] n:=by
 obtain ⟨_,y,vs,r,o,es,ep,e1,c,d,_,pr,_⟩:=(show ObjOk P w H h a (.dK []) from ok a _ e);cases r;have hl:es.toList.length=0:=pr.length;have he:es = #[]:=by
  cases es with
  |mk l =>
   have:l=[]:=List.length_eq_zero_iff.mp hl;rw [this]
 rw [he] at d;exact ⟨y,o,ep,e1,c.1,d⟩
mutual
theorem RdS.shows (ok:HOk P w H h):∀ {x:V}{d:PyData}{u:Value},RdS S H x d->RelV x u->d.showable=true->d.shown.length<=sizeLine ->
  (∃ as,Reads h u d as)/\∃ bs,ReadAtMost h d.depth bs/\ReprK P w bs h d.depth u d.shown
 |_,_,_,.non,r,_,_=>by cases r;exact ⟨⟨_,.none⟩,[],(λ_ h=>nomatch h),by simp only [PyData.shown];exact .of_is ReprIs.none _ _ _⟩
 |_,_,_,.bl b,r,_,_=>by cases r;exact ⟨⟨_,.bool b⟩,[],(λ_ h=>nomatch h),by simp only [PyData.shown];exact .of_is (ReprIs.bool b) _ _ _⟩
 |_,_,_,.int i,r,hs,_=>by obtain ⟨t,rfl⟩:=r;exact ⟨⟨_,.int i t⟩,[],(λ_ h=>nomatch h),by simp only [PyData.shown];exact .of_is (ReprIs.int t (by simpa [PyData.showable] using hs)) _ _ _⟩
 |_,_,_,.str x,r,_,hz=>by obtain ⟨t,rfl⟩:=r;exact ⟨⟨_,.str x t⟩,[],(λ_ h=>nomatch h),by simp only [PyData.shown];exact .of_is (ReprIs.str x t (by simpa only [PyData.shown] using hz)) _ _ _⟩
 |_,_,_,.lst (a:=a) (ds:=ds) e _ ra,r,hs,hz=>by
  cases r;obtain ⟨_,its,n,rv,e1⟩:=(show ObjOk P w H h a (.lst _) from ok a _ e);have hz':(listText (PyData.shownAll ds)).length<=sizeLine:=by simpa only [PyData.shown] using hz
  obtain ⟨⟨as,rr⟩,bs,hb,hk⟩:=RdSs.shows ok ra rv (by simpa [PyData.showable] using hs) (λt ht=>Yay (listText_mem_le ht) hz');have rd:Reads h (.ref a) (.list ds) (a :: as):=.list e1 rfl rfl (by simpa using rr);have hna:a∉bs:=not_mem_of_deeper rd (by simp only [PyData.depth];omega) hb;refine ⟨⟨_,rd⟩,a :: bs,ReadAtMost.cons rd (by simp only [PyData.depth];omega) hb,?_⟩;simp only [PyData.depth,PyData.shown];cases its with
  |nil =>
   cases rr;simp only [PyData.shownAll,listText_nil];exact ReprK.listEmpty e1 rfl rfl
  |cons x l=>exact ReprK.list e1 rfl rfl hna (by simpa using hk.length_eq) (λi y e=>hk.item i y (by simpa using e))
 |_,_,_,.tup (a:=a) (ds:=ds) e _ ra,r,hs,hz=>by
  cases r;obtain ⟨_,its,rv,o,e1,c,n,dt⟩:=(show ObjOk P w H h a (.tup _) from ok a _ e);have hz':(tupleText (PyData.shownAll ds)).length<=sizeLine:=by simpa only [PyData.shown] using hz
  obtain ⟨⟨as,rr⟩,bs,hb,hk⟩:=RdSs.shows ok ra rv (by simpa [PyData.showable] using hs) (λt ht=>Yay (tupleText_mem_le ht) hz');have rd:Reads h (.ref a) (.tuple ds) as:=.tuple e1 c dt (by simpa using rr);have hna:a∉bs:=not_mem_of_deeper rd (by simp only [PyData.depth];omega) hb;refine ⟨⟨_,rd⟩,a :: bs,ReadAtMost.cons rd (by simp only [PyData.depth];omega) hb,?_⟩;simp only [PyData.depth,PyData.shown];exact ReprK.tuple e1 c dt hna (by simpa using hk)
 |_,_,_,.dct (a:=a) e _,r,hs,hz=>by
  cases r;obtain ⟨hsys,o,n,e1,c,dt⟩:=Ziz ok e;have rd:Reads h (.ref a) (.dict []) (a :: [] ++ []):=.dict (kvs:=[]) e1 c dt .nil .nil;refine ⟨⟨_,rd⟩,a :: [],ReadAtMost.cons (n:=0) rd (YaH _) (λ_ h=>nomatch h),?_⟩;simp only [PyData.depth,PyData.depthKv,PyData.shown,PyData.shownKv];exact ReprK.dict e1 c dt hsys (by simp) .nil
theorem RdSs.shows (ok:HOk P w H h):∀ {xs:List V}{ds:List PyData}{us:List Value},RdSs S H xs ds->Vals xs us->PyData.showableAll ds=true->(∀ t∈PyData.shownAll ds,t.length<=sizeLine) ->
  (∃ as,ReadsAll h us ds as)/\∃ bs,ReadAtMost h (PyData.depthAll ds) bs/\ReprAllK P w bs h (PyData.depthAll ds) us (PyData.shownAll ds)
 |_,_,_,.nil,.nil,_,_=>⟨⟨_,.nil⟩,[],(λ_ h=>nomatch h),by simp only [PyData.shownAll];exact .nil⟩
 |_,_,_,.cons (d:=d) (ds:=ds) r rs,.cons v vs,hs,hz=>by
  have hs':d.showable=true/\PyData.showableAll ds=true:=by simpa [PyData.showableAll] using hs
  obtain ⟨⟨a1,r1⟩,b1,hb1,k1⟩:=RdS.shows ok r v hs'.1 (hz _ (by simp only [PyData.shownAll];exact YaM ..));obtain ⟨⟨a2,r2⟩,b2,hb2,k2⟩:=RdSs.shows ok rs vs hs'.2 (λt ht=>hz t (by simp only [PyData.shownAll];exact Yas _ ht));refine ⟨⟨_,.cons r1 r2⟩,b1 ++ b2,?_,?_⟩
  ·simp only [PyData.depthAll];exact (hb1.mono (Nat.le_max_left _ _)).append (hb2.mono (Nat.le_max_right _ _))
  ·simp only [PyData.depthAll,PyData.shownAll];exact .cons ((k1.more λb hb=>YaA _ hb).level_le (Nat.le_max_left _ _)) (k2.more_le (λb hb=>Yaz _ hb) (Nat.le_max_right _ _))
end
end
open PySem PySem.Spec PyProof.Rows
section
variable {X:Cx}
theorem Inv.big {pins:List (Addr × Obj)}{σ:St}{H:Hp}{s:Shared} (I:Inv X pins σ H s):sysModules<s.heap.objs.size:=by
 have h:mainGlobals<s.heap.objs.size:=(I.mod.glob.keeps I.bk).lt;exact Nat.lt_trans (by decide) h
def Zpn:TE:=λ_ H Q=>∀ p,H p=none->Q (.ref p) (upd H p (.dK []))
theorem ZlX {pos:Pos}:PE X (.Dict [] [] pos) Zpn:=λpins s σ H Q I h =>
 wpAny_Dict_empty ⟨.ref s.heap.objs.size,_,I.laid (a:=s.heap.objs.size) (o:=.dK []) (t':=s.toks) (λ_ _ q=>Yad _ q) (Yag _)
  ⟨YaH _,Ya1.mpr (Ne.symm (Yap I.big)),[],.nil,Heap.DictOf.new s.heap⟩,rfl,h _ (I.hok.fresh (Yag _))⟩
end
end L2
namespace L2
open PySem PySem.Spec PyProof.Rows
theorem Zdo {X:Cx} (hc:X.calm=true):Zbv X (.builtin "sum") (λxs H Q=>∃ (p:Addr) (ns:List Int),xs=[.ref p]/\SqL X.K H p (ns.map V.int)/\Q (.int ns.sum) H):=by
 intro pins s σ H xs us Q I rv h;obtain ⟨p,ns,rfl,hq,q⟩:=h;obtain ⟨u,rfl,ru⟩:=rv.one;cases ru;obtain ⟨its,r,pl,_⟩:=I.list hq;have hi:=ZeK r;obtain ⟨ys,e⟩:=hi.allInts.items;have hl:=pl.isList;have en:ns=ys.toList.map (·.1):=by
  have e1:=hi.numsOf;have e2:=nums_intItems ys;rw [<- e] at e2;exact e1.symm.trans e2
 have es:preSum (numAt ys) ys.size=ns.sum:=by
  rw [preSum_eq,List.take_of_length_le (by simp),en]
 rw [e] at hl;refine sum_intListG (I.ok.hd hc) hl λh' tk t' hk=>?_;rw [es];exact ⟨.int _,H,I.kept hk,⟨_,rfl⟩,q⟩
theorem Zk3 {X:Cx} (hc:X.calm=true):Zbv X (.builtin "min") (λxs H Q=>∃ (p:Addr) (ns:List Int),xs=[.ref p]/\SqL X.K H p (ns.map V.int)/\0<ns.length/\∀ M,M∈ns->(∀ a∈ns,M<=a)->Q (.int M) H):=by
 intro pins s σ H xs us Q I rv h;obtain ⟨p,ns,rfl,hq,hne,q⟩:=h;obtain ⟨u,rfl,ru⟩:=rv.one;cases ru;obtain ⟨its,r,pl,_⟩:=I.list hq;have hi:=ZeK r;obtain ⟨ys,e⟩:=hi.allInts.items;have hl:=pl.isList;have en:ns=ys.toList.map (·.1):=by
  have e1:=hi.numsOf;have e2:=nums_intItems ys;rw [<- e] at e2;exact e1.symm.trans e2
 have lz:ys.size=ns.length:=by rw [en];simp
 rw [e] at hl;refine min_intList (I.ok.hd hc) hl (by omega) λv h' tk hv hk=>?_;obtain ⟨t,rfl⟩:=intItems_at hv;obtain ⟨b1,b2⟩:=argBest_lt (numAt ys) (ys.size - 1);refine ⟨.int _,H,I.kept hk,⟨_,rfl⟩,q _ ?_ λa ha=>?_⟩
 ·rw [en,numAt_eq];exact getD_mem (by rw [Yaa,YaD];omega)
 ·rw [en] at ha;obtain ⟨j,hj,rfl⟩:=mem_getD ha;rw [Yaa,YaD] at hj;have:=b2 j (by omega);rw [numAt_eq ys j] at this;exact this
end L2
namespace L2
open PySem PySem.Spec PyProof.Rows PySem.Calls
theorem Zkg:typeLookup (.type "list_reverseiterator") "__len__" = pure none:=by
 rw [typeLookup_type,builtinLookup_eq_fast];kernel_rfl
theorem Zkh:typeLookup (.type "list_reverseiterator") "__length_hint__" = pure (some (.builtin "list_reverseiterator.__length_hint__")):=by
 rw [typeLookup_type,builtinLookup_eq_fast];kernel_rfl
section
variable {prog:Program}{w:World}{A:Around}{E:Value->Shared->Prop}{s:Shared}
theorem Zmm {r:Addr}{Q:Bool->Shared->Prop} (hT:s.TypeIs (.ref r) "list_reverseiterator") (h:Q false s):wpAny (model prog w) A (Builtin.List.listLengthHint (.ref r)) Q E s:=by
 unfold Builtin.List.listLengthHint;refine Ya3 (wpAny_specialOf hT Zkg ?_);show wpAny _ A (specialOf (Value.ref r) (Str.ofString "__length_hint__") >>= _) _ _ s;refine Ya3 (wpAny_specialOf hT Zkh ?_);generalize hid:("list_reverseiterator.__length_hint__" : String)=id0
 wp_delta
 rw [show splitId id0=some ("list_reverseiterator","__length_hint__") by
  subst hid
  decide +kernel]
 subst hid;refine Ya3 (wpAny_isInstance (b:=true) hT (by
  rw [isSubtype_type]
  kernel_rfl) ?_)
 exact Ya8 h
theorem Zml {I l:Addr}{its:Array Value}{Q:Value->Shared->Prop} (hh:A.handled=none) (hit:s.heap.IsRevIter I l ((its.size:Int) - 1)) (hl:s.heap.IsList l its) (hne:l≠I) (hn:its.size<=sizeLine)
  (hQ:∀ h' tk acc' c',(∀ b o,b≠I->s.heap.get? b=some o->h'.get? b=some o)->h'.get? s.heap.objs.size=some { cls:=.type "list",dict:=none,data:=.seq acc' c',slots:=#[] } ->
   ItemsOf (λi v=>its[its.size - 1 - i]? = some v) acc' its.size->Q (.ref s.heap.objs.size) { s with heap:=h',toks:=tk }) :
  wpAny (model prog w) A (call (.type "list") [.ref I]) Q E s:=by
 have hI:I<s.heap.objs.size:=by
  obtain ⟨o,e,_⟩:=hit;exact Yal e
 have hL:l<s.heap.objs.size:=by
  obtain ⟨o,e,_⟩:=hl;exact Yal e
 generalize hz:s.heap.objs.size=S at hI hL hQ;have nSI:S≠I:=Nat.ne_of_gt hI;have nSl:S≠l:=Nat.ne_of_gt hL;refine callType_codes
  (Q₁:=λobj s₁=>obj=.ref S/\s₁ = { s with heap:=s.heap.push { cls:=.type "list",data:=.seq #[] } })
  PySem.F.called_list (PySem.F.typeCall_list_1 _) PySem.F.entry_list_init
  (code_list_new _ ⟨by rw [hz],rfl⟩) (λobj s₁ h₁=>?_)
 obtain ⟨rfl,rfl⟩:=h₁;have h0:(s.heap.push { cls:=.type "list",data:=.seq #[] }).get? S=some { cls:=.type "list",data:=.seq #[] }:=by
  rw [<- hz];exact Yao _ rfl
 refine ⟨⟨_,h0,rfl⟩,PySem.F.args_list_init_2 _ _,?_⟩;show wpAny _ _ (do
  let old <- Builtin.List.listItems (.ref S)
  Builtin.List.listUpdate (.ref S) (λ_=>#[])
  letGo old.toList.reverse
  Builtin.List.listExtendWith (.ref S) (.ref I) .none) _ _ _
 refine Ya3 ?_;unfold Builtin.List.listItems;refine Ya3 (wpAny_seqItems h0 rfl (Ya8 ?_));refine Ya3 (m:=updateSeq S (λ_=>#[])) (wpAny_updateSeq h0 rfl ?_);have h1:=Heap.get?_update_self (Obj.mapSeq (λ_=>(#[]:Array Value))) h0 rfl;have ot:∀ b o,b≠S->s.heap.get? b=some o->((s.heap.push { cls:=.type "list",data:=.seq #[] }).update S (Obj.mapSeq (λ_=>(#[]:Array Value)))).get? b=some o:=λb o hb e =>
  (Heap.get?_update_other _ _ (Ne.symm hb)).trans (Yad _ e)
 generalize (s.heap.push { cls:=.type "list",data:=.seq #[] }).update S (Obj.mapSeq (λ_=>(#[]:Array Value)))=h2 at h1 ot ⊢;refine Ya3 (wpAny_letGo ?_);have hit2:h2.IsRevIter I l ((its.size:Int) - 1):=hit.at λo e=>ot _ _ (Ne.symm nSI) e;have hl2:h2.IsList l its:=hl.at λo e=>ot _ _ (Ne.symm nSl) e;unfold Builtin.List.listExtendWith;refine Ya3 (wpAny_typeOf (T := "list_reverseiterator") hit2.typeIs ?_);have e1:Builtin.List.listSameRef (.ref S) (.ref I)=false:=by
  simp [Builtin.List.listSameRef,nSI]
 have e2:(Value.type "list_reverseiterator" == Value.type "list")=false:=by decide
 have e3:(Value.type "list_reverseiterator" == Value.type "tuple")=false:=by decide
 simp only [e1,e2,e3,Bool.or_false,Bool.false_eq_true,if_false];refine Ya3 (wpAny_pyIter_revIter hit2 ?_);refine Ya3 (wpAny_holding (Zmm hit2.typeIs ?_));rw [Ya6 (by decide)];have W:=Walks.listRev (prog:=prog) (w:=w) (A:=A.in1.in1) hh I l hne its;refine Ya8 ⟨plainId_quiet PySem.F.plain_extend_loop _,?_⟩;refine codeAny_extend_loopS W.toS hn S (by simp [nSI,nSl]) .none its.size 0 _ #[] _ rfl (YaH _) ?_ h1 (ItemsOf.nil _) (λs' acc' c' hm hS' hacc=>?_)
 ·refine ⟨YaH _,?_,hl2⟩;simpa using hit2
 ·rw [Moved.eq_with hm];refine ⟨rfl,hQ s'.heap s'.toks acc' c' (λb o hb e=>?_) hS' hacc⟩;have hbS:b≠S:=λz=>by
   rw [z,<- hz] at e;exact Ybq _ (Yal e)
  exact hm.heap b o (by simp [hbS,hb]) (ot b o hbS e)
end
open PySem PySem.Spec PyProof.Rows
def Zrk (K:Yab) (te:TE):TE:=λσ H Q=>te σ H λx H1=>∃ a xs,x=.ref a/\SqL K H1 a xs/\∀ p,H1 p=none->Q (.ref p) (upd H1 p (.lst xs.reverse))
theorem Zic {X:Cx}{e:Expr}{te:TE}{p1 p2 pos2 pos:Pos} (hc:X.calm=true) (hml:X.mg "list" = none) (hmr:X.mg "reversed" = none) (he:PE X e te) (hgl:Gl X "list" := by rfl) (hgr:Gl X "reversed" := by rfl)
  (k1:starEach [e] X.env=[(false,eval e X.env)]:=by rfl) :
  PE X (.Call (.Name "list" p1) [.Call (.Name "reversed" p2) [e] [] pos2] [] pos) (Zrk X.K te):=by
 intro pins s σ H Q I h;refine wpAny_Call_Name_kw (Zcr I hgl hml boot_list ?_ (by decide) (by decide));refine PyProof.Rows.callWith_type1 ?_ rfl rfl;show wpAny _ _ (spliced ((false,eval (.Call (.Name "reversed" p2) [e] [] pos2) X.env) :: backTo pos (starEach [] X.env))) _ _ s;refine Calls.spliced_cons ?_;refine wpAny_Call_Name_kw (Zcr I hgr hmr boot_reversed ?_ (by decide) (by decide));refine PyProof.Rows.callWith_type1 ?_ k1 rfl;rw [k1];show wpAny _ _ (spliced ((false,eval e X.env) :: backTo pos2 (starEach [] X.env))) _ _ s;refine Calls.spliced_cons (thn (he pins s σ H _ I h) λu s1 ⟨x,H1,I1,r1,a,xs,ex,hq,q⟩=>?_);subst ex;cases r1;obtain ⟨its,rv,pl,hz⟩:=I1.list hq;have hl:=pl.isList;refine Calls.spliced_nil ?_;refine call_reversed_list hl ?_;refine Calls.spliced_nil ?_;have hlt:a<s1.heap.objs.size:=by
  obtain ⟨o,eo,_⟩:=hl;exact Yal eo
 have hlen:=rv.length;refine Zml (I:=s1.heap.objs.size) (l:=a) (its:=its.toArray) (I1.ok.hd hc) ⟨_,Yao _ rfl,rfl,rfl⟩ (hl.push _) (Yap hlt) (by rw [Yam];omega) (λh' tk acc' c' hk hS hacc=>?_);have hk1:∀ b o,s1.heap.get? b=some o->h'.get? b=some o:=λb o eb=>hk b o (Yap (Yal eb)) (Yad _ eb);have hrev:acc'.toList=its.reverse:=by
  apply List.ext_getElem?;intro i
  by_cases hi:i<its.length
  ·rw [List.getElem?_reverse hi];have h2:i<acc'.size:=by
    rw [hacc.1,Yam];exact hi
   have h3:=hacc.2 i acc'[i] (Array.getElem?_eq_getElem h2);rw [Yam] at h3;rw [Ybi,Array.getElem?_eq_getElem h2,<- h3];simp
  ·rw [List.getElem?_eq_none (by rw [YaD,hacc.1,Yam];omega),List.getElem?_eq_none (by rw [List.length_reverse];omega)]
 refine ⟨.ref _,_,I1.laid (t':=tk) (o:=.lst xs.reverse) hk1 (by show _<=(s1.heap.push _).objs.size;rw [Heap.size_push];exact Nat.le_succ _) ⟨by rw [List.length_reverse];exact hz,its.reverse,c',rv.reverse,?_⟩,rfl,q _ (I1.hok.fresh (by show _<=(s1.heap.push _).objs.size;rw [Heap.size_push];exact Nat.le_succ _))⟩;rw [<- hrev,Array.toArray_toList];exact hS
open PySem PySem.Spec PyProof.Rows
theorem Zla {ns:List Int}{i:Nat}{x:V} (h:(ns.map V.int)[i]? = some x):i<ns.length/\x=.int (ns.getD i 0):=by
 have hi:i<ns.length:=by
  have:=(Yai.mp h).1;rw [Yaa] at this;exact this
 refine ⟨hi,?_⟩;rw [Yaf,Yac hi] at h;rw [Yat,Yac hi];exact (Yae h).symm
theorem ZkY {K:Yab}{a c:Addr}{ns ms:List Int}{σ0:St}{H1:Hp}{te:TE}{Q:VK} (f:Nat->V) (hq:SqL K H1 a (ns.map V.int)) (hq2:SqL K H1 c (ms.map V.int)) (hlen:ns.length=ms.length) (hn:ns.length<=1000)
  (he:∀ i,i<ns.length->Pu te ((σ0.set 0 (some (.int (ns.getD i 0)))).set 1 (some (.int (ms.getD i 0)))) H1 (f i))
  (fin:∀ D H',H1 D=none->Same H1 H'->H' D=some (.lst ((List.range ns.length).map f))->Q (.ref D) H') :
  ZaR (Itz K a c) (gTup K 2 (Zcy (ZaT 0) (Zcy (ZaT 1) gNil))) Zbe te σ0 H1 Q:=by
 intro D hD;refine ⟨λi m ys σ' H'=>m=ns.length - i/\i<=ns.length/\(∀ u v,(σ'.set 0 u).set 1 v=(σ0.set 0 u).set 1 v)/\Same H1 H'/\H' D=some (.lst ys)/\ys=(List.range i).map f,⟨ns.length,by simp,YaH _,λ_ _=>rfl,Same.new hD,Zad,by simp⟩,?_⟩;rintro i m ys σ' H' ⟨rfl,hi,es,sm,hDl,hys⟩;refine ⟨hDl,?_⟩;have q:=sm.seq hq;have q2:=sm.seq hq2
 by_cases hlt:i<ns.length
 ·refine .inr ⟨⟨_,_,.int ns[i],.int (ms[i]'(by omega)),q,q2,by simp [hlt],by simp⟩,λx H2 y=>?_⟩;obtain ⟨T,z,z2,rfl,hT,rfl,y,y2⟩:=y;obtain ⟨_,rfl⟩:=Zla (y _ q);obtain ⟨_,rfl⟩:=Zla (y2 _ q2);have smT:Same H' (upd H' T (.tup [.int (ns.getD i 0),.int (ms.getD i 0)])):=Same.new hT;refine ⟨T,_,rfl,SqT.of Zad,rfl,_,_,rfl,_,_,rfl,rfl,?_⟩;unfold Zbe;refine iteT ?_;rw [es];refine he i hlt _ _ (sm.trans smT) λH5 s5=>⟨s5 _ _ (smT _ _ hDl),?_,ns.length - (i+1),by omega,rfl,hlt,λ_ _=>set2,((sm.trans smT).trans s5).upd hD,Zad,?_⟩
  ·rw [hys,Yaa,List.length_range];exact ZaD (by omega)
  ·rw [List.range_succ,Yah,<- hys];rfl
 ·have e:i=ns.length:=by omega
  subst e;exact .inl ⟨⟨_,_,q,q2,.inl (by rw [Yaa];exact Yag _)⟩,fin D H' hD sm (by rw [hDl,hys])⟩
theorem Zn2 {X:Cx}{N':List Str}{scope:Scope}{cl:List (Str × Addr)}{C:Addr}{s2:Shared}{H2:Hp}{ex:List Addr}{y z:Str}{p1 p2 pos:Pos}{k:Nat} (K:Yab) (hc:X.calm=true) (nd:N'.Nodup) (h0:N'[0]? = some y:=by rfl) (h1:N'[1]? = some z:=by rfl)
  (hy:(relabel scope X.env).names.lookup y=some .local:=by rfl) (hz:(relabel scope X.env).names.lookup z=some .local:=by rfl) (hK:X.K=K:=by rfl) :
  PG (X.comp N' scope cl C s2 H2 ex) (.Tuple [.Name y p1,.Name z p2] k pos) (gTup K 2 (Zcy (ZaT 0) (Zcy (ZaT 1) gNil))):=Zn3 K hc nd h0 h1 hy hz hK
end L2
namespace L2
open PySem PySem.Spec PyProof.Rows
end L2
namespace L2
open PySem PySem.Spec PyProof.Rows
section
variable {X:Cx}{N':List Str}{scope osc:Scope}{cl:List (Str × Addr)}{C:Addr}{ex:List Addr}{ix:List (Option Nat)}{pins:List (Addr × Obj)}{σ:St}{H2:Hp}{s2:Shared}
end
end L2
namespace L2
open PySem PySem.Spec PyProof.Rows
theorem ObjOk.get {P:Program}{w:World}{H:Hp}{h:Heap}{a:Addr}{o:HO} (x:ObjOk P w H h a o):∃ u,h.get? a=some u:=by
 cases o with
 |lst xs=>obtain ⟨_,_,_,_,e⟩:=x;exact ⟨_,e⟩
 |tup xs=>obtain ⟨_,_,_,_,e,_⟩:=x;exact ⟨_,e⟩
 |dK kvs=>obtain ⟨_,_,_,_,o,_,_,e,_⟩:=x;exact ⟨_,e⟩
 |dT kvs=>obtain ⟨_,_,_,_,o,_,_,e,_⟩:=x;exact ⟨_,e⟩
 |set S n=>obtain ⟨o,_,_,_,e,_⟩:=x;exact ⟨_,e⟩
 |ins C dx fs=>obtain ⟨_,_,_,e,_⟩:=x;exact ⟨_,e⟩
 |own y=>exact x
 |xd fs=>obtain ⟨_,⟨_,_,_,e,_⟩,_⟩:=x;exact ⟨_,e⟩
 |rng lo hi=>obtain ⟨_,_,_,e⟩:=x;exact ⟨_,e⟩
 |frz ob u=>exact ⟨_,x.1⟩
 |tbl ps=>exact ⟨_,x⟩
 |met f y=>exact ⟨_,x⟩
 |ext φ=>exact x.2.1
def Trc (h:Heap) (H':Hp) (g:Heap) (e:Addr) (cls fl:Value):Prop :=
 ∃ a0 oe vs T oT ts,h.get? e=some oe/\(oe.cls=cls/\vs[0]? = some a0)/\oe.data=.fields vs/\vs[1]? = some (.ref T)/\T≠e/\h.get? T=some oT/\oT.data=.fields ts/\ts[3]? = some fl/\(H' e=none/\H' T=none)/\g.get? e=none/\g.get? T=none
structure Fli (P:Program) (w:World) (l:List Env) (H:Hp) (s:Shared) (e:Addr) (cls fl:Value) (H':Hp) (s':Shared):Prop where
 os:s'.os=s.os
 bare:AllBare s'.gens
 un:Un (frs l) [] H H' s.heap s'.heap
 hok:HOk P w H' s'.heap
 tr:Trc s'.heap H' s.heap e cls fl
section
variable {P:Program}{w:World}{l:List Env}{H H':Hp}{s s1:Shared}{e:Addr}{cls fl:Value}
theorem ZhD {base:Heap} (F:Fli P w l H s e cls fl H' s1) (hfr:s1.heap.FunFrames base l) (hff:∀ b∈frs l,H' b=none) :
  ∃ (B:Heap) (a0:Value),(B.StaysIn s1.heap/\B.get? e=none/\s1.heap.FunFrames B l/\s1.heap.TracedAtW B e cls a0 fl) /\
   ∀ h' fl',B.StaysIn h'->h'.TracedAtW B e cls a0 fl'->s1.heap.UpToSlots h'->Fli P w l H s e cls fl' H' { s1 with heap:=h' }:=by
 obtain ⟨a0,oe,vs,T,oT,ts,h1,h2,h3,h4,h5,h6,h7,h8,⟨h9,h10⟩,h11,h12⟩:=F.tr;have none_of:∀ b,b∈e :: T :: frs l->(PySem.W.hideAll s1.heap (e :: T :: frs l)).get? b=none:=λb hb=>PySem.W.hideAll_none _ hb;have at_of:∀ b o,s1.heap.get? b=some o->b∉e :: T :: frs l->(PySem.W.hideAll s1.heap (e :: T :: frs l)).get? b=some o:=λb o q hb=>PySem.W.hideAll_get _ q hb;have nofld:∀ b∈frs l,∀ o,s1.heap.get? b=some o->∀ vs,o.data≠.fields vs:=λb hb o q=>by
  obtain ⟨_,o',ho',hn⟩:=hfr.mem hb;rw [q] at ho';cases ho';exact hn
 have hidT:∀ b,H' b≠none->b∉e :: T :: frs l:=λb q z=>by
  rcases YaF.mp z with r | z
  ·rw [r] at q;exact q h9
  ·rcases YaF.mp z with r | z
   ·rw [r] at q;exact q h10
   ·exact q (hff b z)
 refine ⟨PySem.W.hideAll s1.heap (e :: T :: frs l),a0,⟨λb o q=>PySem.W.of_hideAll _ q,none_of e YaM,PySem.W.funFrames_hide hfr λenv he a ha=>?_,oe,vs,T,oT,ts,h1,h2,h3,h4,none_of T (by simp),h5,h6,h7,h8⟩,λh' fl' hB ht hu=>?_⟩
 ·exact Yas _ (Yas _ (List.mem_filterMap.mpr ⟨env,he,ha⟩))
 ·obtain ⟨oe',vs',T',oT',ts',k1,k2,k3,k4,k5,k6,k7,k8,k9⟩:=ht;have hT':H' T'=none:=by
   cases q:H' T' with
   |none=>rfl
   |some u =>
    obtain ⟨ob,hob⟩:=(F.hok _ _ q).get;have:=at_of T' ob hob (hidT T' (by rw [q];simp));rw [k5] at this;cases this
  have gT':s.heap.get? T'=none:=by
   cases q:s.heap.get? T' with
   |none=>rfl
   |some u =>
    obtain ⟨ob,hob⟩:=F.un.there T' u q (by simp)
    by_cases z:T'∈e :: T :: frs l
    ·rcases YaF.mp z with r | z
     ·exact absurd r k6
     ·rcases YaF.mp z with r | z
      ·rw [r,h12] at q;cases q
      ·obtain ⟨sl,hsl⟩:=hu T' ob hob (nofld T' z ob hob);rw [k7] at hsl;cases hsl;exact absurd k8 (nofld T' z ob hob _)
    ·have:=at_of T' ob hob z;rw [k5] at this;cases this
  have new:∀ b o,s.heap.get? b=some o->b∉frs l->b∉e :: T :: frs l:=λb o q hb z=>by
   rcases YaF.mp z with r | z
   ·rw [r,h11] at q;cases q
   ·rcases YaF.mp z with r | z
    ·rw [r,h12] at q;cases q
    ·exact hb z
  refine ⟨F.os,F.bare,⟨λb o q n hb _=>?_,λb o q n hb _=>?_,F.un.free,λb o q _=>?_,F.un.tups,F.un.frzs,F.un.tbls⟩,λb o q=>?_,a0,oe',vs',T',oT',ts',k1,k2,k3,k4,k6,k7,k8,k9,⟨h9,hT'⟩,h11,gT'⟩
  ·exact hB b o (at_of b o (F.un.keep b o q n hb (by simp)) (new b o q hb))
  ·obtain ⟨sl,q1⟩:=F.un.slot b o q n hb (by simp);obtain ⟨sl',q2⟩:=hu b _ q1 (nofld b hb _ q1);exact ⟨sl',q2⟩
  ·obtain ⟨o',q1⟩:=F.un.there b o q (by simp)
   by_cases hb:b∈frs l
   ·obtain ⟨sl',q2⟩:=hu b _ q1 (nofld b hb _ q1);exact ⟨_,q2⟩
   ·exact ⟨o',hB b o' (at_of b o' q1 (new b o q hb))⟩
  ·refine (F.hok b o q).stay (λc v hc r=>hB c v (at_of c v r (hidT c ?_))) (λ_ z=>z) λ_ _ z=>z;rcases hc with z | z
   ·rw [z,q];simp
   ·rw [z];simp
end
def CXW (P:Program) (w:World):CXT:=λl H s E ev s'=>∃ e cls H',ev=.ref e/\Fli P w l H s e cls .none H' s'/\E cls none H'
def Zd5 (X:Cx) (R:St->Value->Hp->Prop):Prop:=∀ (pins:List (Addr × Obj)) (σ:St) (H:Hp) (s:Shared) (e:Addr) (cls:Value) (H':Hp) (s':Shared),Inv X pins σ H s->Fli X.prog X.w X.stack H s e cls .none H' s'->R σ cls H'->X.xe (.ref e) s'
def Znu (X:Cx) (R:St->Value->Hp->Prop):Prop:=∀ (pins:List (Addr × Obj)) (σ:St) (H:Hp) (s:Shared) (e:Addr) (cls:Value) (vs:List Value) (h':Heap),Inv X pins σ H s->Heap.MadeExcOf s.heap h' e cls vs->R σ cls H->X.xe (.ref e) { s with heap:=h' }
section
variable {X:Cx}{pins:List (Addr × Obj)}{σ:St}{H H':Hp}{s s':Shared}{e:Addr}{cls fl:Value}
theorem Inv.fly (I:Inv X pins σ H s) (F:Fli X.prog X.w X.stack H s e cls fl H' s'):Inv X pins σ H' s':=I.call' (ch:=[]) F.os F.un F.hok F.bare λb z=>absurd z (by simp)
theorem Inv.old (I:Inv X pins σ H s) (hex:X.ex=[]) {b:Addr} (h:s.heap.get? b=none):X.s₀.heap.get? b=none:=by
 cases q:X.s₀.heap.get? b with
 |none=>rfl
 |some o =>
  obtain ⟨o',q'⟩:=I.base.there b o q (by rw [hex];simp);rw [h] at q';cases q'
theorem Fli.out (I:Inv X pins σ H s) (F:Fli X.prog X.w X.stack H s e cls fl H' s') (hex:X.ex=[]):Fli X.prog X.w X.outer X.H₀ X.s₀ e cls fl H' s':=by
 have J:=I.fly F;obtain ⟨a0,oe,vs,T,oT,ts,h1,h2,h3,h4,h5,h6,h7,h8,h9,h11,h12⟩:=F.tr;refine ⟨J.os,J.bare,?_,J.hok,a0,oe,vs,T,oT,ts,h1,h2,h3,h4,h5,h6,h7,h8,h9,I.old hex h11,I.old hex h12⟩;have:=J.base;rw [hex] at this;exact this
theorem Zmy {B h' h'':Heap}{a0:Value}{vs:List Value} (I:Inv X pins σ H s) (hB:B=PySem.W.hideAll s.heap (frs X.stack)) (hx:Heap.MadeExcOf s.heap h' e cls vs) (ht:h''.TracedW B e cls a0) (hs:B.StaysIn h'') (hu:h'.UpToSlots h'') :
  Fli X.prog X.w X.stack H s e cls .none H { s with heap:=h'' }:=by
 subst hB;obtain ⟨oe,ws,T,oT,ts,k1,k2,k3,k4,k5,k6,k7,k8,k9⟩:=ht;have nofld:∀ b∈frs X.stack,∃ o,s.heap.get? b=some o/\∀ vs,o.data≠.fields vs:=λb hb=>(I.stack.mem hb).2;have at_of:∀ b o,s.heap.get? b=some o->b∉frs X.stack->h''.get? b=some o:=λb o q hb=>hs b o (PySem.W.hideAll_get _ q hb);have gT:s.heap.get? T=none:=by
  cases q:s.heap.get? T with
  |none=>rfl
  |some u =>
   by_cases z:T∈frs X.stack
   ·obtain ⟨o,ho,hn⟩:=nofld T z;obtain ⟨sl,hsl⟩:=hu T o (hx.keeps T o ho) hn;rw [k7] at hsl;cases hsl;exact absurd k8 (hn _)
   ·have:=PySem.W.hideAll_get _ q z;rw [k5] at this;cases this
 have fr:∀ b,s.heap.get? b=none->H b=none:=λb q=>by
  cases r:H b with
  |none=>rfl
  |some u =>
   obtain ⟨o,ho⟩:=(I.hok b u r).get;rw [q] at ho;cases ho
 have sl:∀ b o,s.heap.get? b=some o->b∈frs X.stack->∃ sl,h''.get? b=some { o with slots:=sl }:=λb o q hb=>by
  obtain ⟨o',ho',hn⟩:=nofld b hb;rw [q] at ho';cases ho';exact hu b o (hx.keeps b o q) hn
 refine ⟨rfl,I.bare,⟨λb o q _ hb _=>at_of b o q hb,λb o q _ hb _=>sl b o q hb,λ_ _ _ n _=>n,λb o q _=>?_,λ_ _ q=>q,λ_ _ _ q=>q,λb ps q=>⟨#[],by rw [q];simp⟩⟩,λb o q=>?_,a0,oe,ws,T,oT,ts,k1,k2,k3,k4,k6,k7,k8,k9,⟨fr e hx.new,fr T gT⟩,hx.new,gT⟩
 ·by_cases hb:b∈frs X.stack
  ·obtain ⟨_,z⟩:=sl b o q hb;exact ⟨_,z⟩
  ·exact ⟨o,at_of b o q hb⟩
 ·refine (I.hok b o q).stay (λc v hc r=>at_of c v r λhb=>?_) (λ_ z=>z) λ_ _ z=>z;have n:=I.stkFree c hb;rcases hc with z | z
  ·rw [z,q] at n;cases n
  ·rw [z] at n;cases n
end
section
variable {P:Program}{w:World}{K:Yab}{mg:Str->Option Value}{base:Heap}{N:List Str}{qual:Str}{scope:Scope}{f:Addr}{cd:Value}{A:Around}{outer:List Env}{s:Shared}{H:Hp}{E:XK}
theorem Za5:Zd5 (cxOf (CXW P w) P w K mg base N qual scope f cd A outer s H E) λ_ cls H'=>E cls none H':=by
 intro pins σ H1 s1 e cls H' s' I F r;have J:=I.fly F;obtain ⟨B,a0,⟨b1,b2,b3,b4⟩,st⟩:=ZhD F J.stack J.stkFree;refine wpAny_leaves_onW I.ok.frames rfl ⟨b1,b2,b3,b4⟩ λh' hf hu=>?_;exact ⟨e,cls,H',rfl,Fli.out I (st h' .none hf.1 hf.2.2.2 hu) rfl,r⟩
theorem ZaW:Znu (cxOf (CXW P w) P w K mg base N qual scope f cd A outer s H E) λ_ cls H'=>E cls none H':=by
 intro pins σ H1 s1 e cls vs h' I hx r;refine wpAny_leaves_madeW (base:=PySem.W.hideAll s1.heap (frs (envOfC qual scope s.heap.objs.size f cd :: outer))) I.ok.frames rfl (λb o q=>PySem.W.of_hideAll _ q)
  (PySem.W.funFrames_hide I.stack λenv he a ha=>List.mem_filterMap.mpr ⟨env,he,ha⟩) hx λh'' t hf _ _ hu=>?_
 exact ⟨e,cls,H1,rfl,Fli.out I (Zmy I rfl hx hf.2.2.2 hf.1 hu) rfl,r⟩
end
def FnAtX (P:Program) (w:World) (K:Yab) (mg:Str->Option Value) (base:Heap) (k:Nat) (x:Str) (ps:List Str) (sp:Sp):Prop :=
 ∃ f,mg x=some (.ref f)/\PySem.W.keepIn K (.ref f)=true/\(∀ vs H Q E,sp vs H Q E->vs.length=ps.length) /\
  ∀ (A:Around) (outer:List Env) (s:Shared) (H:Hp) (us:List Value) (vs:List V) (Q:VK) (E:XK),Room k A->Env0 P w K mg base A outer s H->Vals vs us->sp vs H Q E->codeAny (model P w) A (.call (.ref f) ⟨us,[]⟩) (CR (CXW P w) outer P w H s Q E) s
section
variable {P:Program}{w:World}{K:Yab}{mg:Str->Option Value}{base:Heap}{j k:Nat}{x:Str}{ps:List Str}{sp sp':Sp}
theorem FnAtX.mono (F:FnAtX P w K mg base j x ps sp) (h:j<=k):FnAtX P w K mg base k x ps sp :=
 let ⟨f,a,b,c,d⟩:=F
 ⟨f,a,b,c,λA outer s H us vs Q E hr=>d A outer s H us vs Q E (hr.mono h)⟩
theorem FnAtX.or (F:FnAtX P w K mg base k x ps sp) (G:FnAtX P w K mg base k x ps sp'):FnAtX P w K mg base k x ps (λvs H Q E=>sp vs H Q E\/sp' vs H Q E):=by
 obtain ⟨f,a,b,c,d⟩:=F;obtain ⟨f',a',b',c',d'⟩:=G;have e:=a.symm.trans a';injection e with e;injection e with e;subst e;exact ⟨f,a,b,λvs H Q E q=>q.elim (c vs H Q E) (c' vs H Q E),λA outer s H us vs Q E hr e0 r q=>q.elim (d A outer s H us vs Q E hr e0 r) (d' A outer s H us vs Q E hr e0 r)⟩
theorem FnAtX.at {CX:CXT}{f:Addr}{fd:FuncData} (F:FnOk P w K mg base CX k f fd ps sp) (hm:mg x=some (.ref f)) (hk:PySem.W.keepIn K (.ref f)=true) (hb:Binds K fd ps []) (hc:∀ l H s E e s',CX l H s E e s'->CXW P w l H s E e s'):FnAtX P w K mg base k x ps sp:=by
 refine ⟨f,hm,hk,F.len,λA outer s H us vs Q E hr e0 r q=>?_⟩;have hl:us.length=ps.length:=by rw [<- r.length];exact F.len _ _ _ _ q
 refine codeAny_mono (F.run A outer s H ⟨us,[]⟩ us vs Q E hr e0 (by simpa using hb s us (e0.mod.kin.keeps λb o z=>(e0.bs b o z).1) (by simpa using hl)) r q) λres s' hq=>?_;cases res with
 |error ev=>exact hc _ _ _ _ _ _ hq
 |ok fl=>cases fl <;> exact hq
theorem FnAt.toX (F:FnAt P w K mg base k x ps sp):FnAtX P w K mg base k x ps sp :=
 let ⟨_,_,a,b,c,d⟩:=F
 .at a b c d λ_ _ _ _ _ _ z=>z.elim
theorem FnAtX.of {st:Stmt}{N:List Str} (D:Zak K mg x st ps) (S:FnScope N ps (Zae st)) (len:∀ vs H Q E,sp vs H Q E->vs.length=ps.length)
  (hbody:∀ (f:Addr) (cdv:Value) (A:Around) (outer:List Env) (s:Shared) (H:Hp) (vs:List V) (Q:VK) (E:XK),Room k (A.deeper (envOfC x (Zae st) s.heap.objs.size f cdv))->sp vs H Q E ->
   ∃ t,PSs (cxOf (CXW P w) P w K mg base N x (Zae st) f cdv A outer s H E) (ZaQ st) t/\t { nx:=λ_ H'=>Q .non H',rt:=Q } (Zdc N vs) H):FnAtX P w K mg base (k+1) x ps sp:=by
 obtain ⟨f,fd,F,hm,hb⟩:=D;obtain ⟨oc,od,kV,doc,pm,an,cdv,ct,osl,rfl,lk,hcd⟩:=F.ex;exact .at (CX:=CXW P w) (ZoP lk hcd S len λA outer s H vs Q E hr hsp=>hbody f cdv A outer s H vs Q E hr hsp) hm F.kp hb λ_ _ _ _ _ _ z=>z
end
def tFx (sp:Sp) (R:St->Value->Hp->Prop) (t:TA):TE:=λσ H Q=>t σ H λvs H1=>sp vs H1 Q λcls _ H'=>R σ cls H'
section
variable {X:Cx}{k:Nat}{x:Str}{ps:List Str}{sp:Sp}{e:Expr}{es:List Expr}{t:TA}{p pos:Pos}{R:St->Value->Hp->Prop}
theorem ZdZ (F:FnAtX X.prog X.w X.K X.mg X.base k x ps sp) (hr:Room k X.A) (hR:Zd5 X R) (ha:PA X (e :: es) t) (hg:Gl X x:=by rfl) (hdb:(x == ("__debug__" : Str))=false:=by decide)
  (he:starEach (e :: es) X.env=(false,eval e X.env) :: starEach es X.env:=by rfl) (hpl:(backTo pos (starEach es X.env)).any (·.1)=false:=by rfl):PE X (.Call (.Name x p) (e :: es) [] pos) (tFx sp R t):=by
 obtain ⟨f,hm,hk,hl,run⟩:=F;intro pins s σ H Q I h;refine wpAny_Call_Name_kw (ZbQ I hg hm ?_ hdb);refine PySem.W.callWith_K (h₀:=X.base) I.ok.mod.kin hk (thn (ha pos pins s σ H _ I h) λus s1 ⟨vs,H1,I1,r,q⟩=>⟨I1.kIn,?_⟩) he hpl;refine wpAny_call (codeAny_mono (run X.A X.stack s1 H1 us vs Q _ hr I1.env0 r q) λres s' hq=>?_);cases res with
 |error ev =>
  obtain ⟨e',cls,H',rfl,Fl,rr⟩:=hq;exact hR pins σ H1 s1 e' cls H' s' I1 Fl rr
 |ok fl =>
  cases fl with
  |ret u=>exact I1.after hq
  |next=>exact False.elim hq
  |brk=>exact False.elim hq
  |cont=>exact False.elim hq
end
end L2
namespace L2
open PySem PySem.Spec PySem.Calls PyProof.Rows
open Builtin Builtin.ObjectAttr Builtin.Getset_descriptor
structure ExcK (K:Yab) (C:Addr):Prop where
 exc:PySem.W.excIn K C [.type "ValueError", .type "Exception", .type "BaseException", .type "object"] "ValueError.__new__" = true
 ga:PySem.W.findIn K (.ref C) "__getattribute__" = some (some (.builtin "BaseException.__getattribute__"))
 gt:PySem.W.findIn K (.ref C) "__getattr__" = some none
 cl:PySem.W.findIn K (.ref C) "__class__" = some (some (.builtin "object.__class__"))
 ob:PySem.W.mroIn K C (.type "object")=some true
 bx:PySem.W.mroIn K C (.type "BaseException")=some true
theorem ZkG {K:Yab}{h:Heap}{C:Addr}{nid:String}{bmB:List Value} (Y:K.In h) (q:PySem.W.excIn K C bmB nid=true) :
  ∃ bm N nm qn bs hd sn sub ab col dd k0 k1 k2 k3 k5 mN,h.get? C=some (excClassObj nm qn C N bs bm hd sn sub ab col dd k0 k1 k2 k3 k5 nid)/\h.Ns N mN/\mN "__init__" = none/\OwnTail h bmB bm:=by
 unfold PySem.W.excIn at q;split at q
 ·next dd cdt slt hlk =>
  split at q
  ·next C1 bm1 j0 j1 j2 j3 n1 j5 hmro hslots =>
   simp only [Yaj,beq_iff_eq,Bool.not_eq_true'] at q;obtain ⟨⟨⟨⟨⟨e1,e2⟩,hdl⟩,htl⟩,hns⟩,hin⟩:=q;subst e1 e2;obtain ⟨nm,bs,mro,ns,qn,hd,sn,sub,ab,col,del⟩:=cdt;dsimp only at hmro hdl hns hin;subst hmro hdl;obtain ⟨sll⟩:=slt;have hz:sll=[j0,j1,j2,j3,some (.builtin n1),j5]:=hslots;subst hz;exact ⟨bm1,ns,nm,qn,bs,hd,sn,sub,ab,col,dd,j0,j1,j2,j3,j5,_,Y _ _ hlk,.of_isNs (PySem.W.isNs_of_in Y hns),PySem.W.nsMap_none_of_in Y hns hin,PySem.W.tail_of_in Y htl⟩
  ·cases q
 ·cases q
def Zpk (R:St->Value->Hp->Prop) (C:Addr):TS:=λ_ σ H=>R σ (.ref C) H
theorem Zbf {X:Cx}{R:St->Value->Hp->Prop}{x:Str}{C:Addr}{e₀:Expr}{msg:Str}{np cpos pos:Pos} (hx:Znu X R) (hk:ExcK X.K C) (ha:PE X e₀ (tC (.str msg))) (hm:X.mg x=some (.ref C)) (hg:Gl X x:=by rfl) (hc:X.calm=true:=by rfl)
  (hdb:(x == ("__debug__" : Str))=false:=by decide) (he:starEach [e₀] X.env=(false,eval e₀ X.env) :: starEach [] X.env:=by rfl) (hpl:(backTo cpos (starEach ([]:List Expr) X.env)).any (·.1)=false:=by rfl) :
  PS X (.Raise (some (.Call (.Name x np) [e₀] [] cpos)) none pos) (Zpk R C):=by
 intro pins s σ H D I h;obtain ⟨bm,N,nm,qn,bs,hd,sn,sub,ab,col,dd,k0,k1,k2,k3,k5,mN,hC,hN,hni,T⟩:=ZkG I.ok.mod.kin hk.exc;have hpa:PA X [e₀] (Zgb (tC (.str msg)) tNil):=Zaa ha Zac he;refine wpAny_Raise_call_subU (nm:=nm) (q:=qn) (N:=N) (bs:=bs) (hdct:=hd) (sn:=sn) (sub:=sub) (ab:=ab) (col:=col) (dd:=dd) (k0:=k0) (k1:=k1) (k2:=k2) (k3:=k3) (k5:=k5) PySem.F.excBase_ValueError (by decide) PySem.F.excBase_ValueError (T.hasType (b:=true) (by decide)) (I.ok.hd hc) (by rw [he];show (false || (backTo cpos (starEach ([]:List Expr) X.env)).any (·.1))=false;rw [hpl];rfl) hni (ZbQ I hg hm ⟨rfl,?_⟩ hdb);have z:=hpa cpos pins s σ H (λvs H1=>vs=[.str msg]/\H1=H) I ⟨rfl,rfl⟩;rw [he] at z ⊢;refine Calls.evalArgs_plain (Ya9 z (λus s2 ⟨vs,H1,I2,r,hv,hH⟩=>?_) λ_ _ y=>y);subst hv hH;have hl:us.length=1:=by rw [<- r.length];rfl
 refine ⟨rfl,by show us.length<=_;rw [hl];decide,I2.bk _ _ hC,hN.keeps I2.bk,T.keeps I2.bk,λh' e hx'=>?_⟩;exact hx pins σ _ s2 e _ _ h' I2 hx' h
theorem ZkH {M:Model}{A:Around}{E:Value->Shared->Prop}{Q:Bool->Shared->Prop}{K:Yab}{e C D:Addr}{oe:Obj}{s:Shared} (Y:K.In s.heap) (hD:ExcK K D) (hm:PySem.W.mroIn K C (.ref D)=some true)
  (he:s.heap.get? e=some oe) (hcls:oe.cls=.ref C) (hq:Q true s):wpAny M A (excMatches (.ref e) (.ref D)) Q E s:=by
 obtain ⟨h,g,d,t,os⟩:=s;obtain ⟨bm,N,nm,qn,bs,hd,sn,sub,ab,col,dd,k0,k1,k2,k3,k5,mN,hO,hN,hni,T⟩:=ZkG Y hD.exc;have hcB:(Value.ref D :: bm).contains (.type "BaseException")=true:=by rw [List.contains_cons,T.hasType (b:=true) (by decide),Bool.or_true]
 have L:=PySem.W.looks_mroIn (M:=M) Y hm;have f:=tc_notTuple;unfold excMatches
 repeat (first | (with_reducible refine wpAny_loadPart_at he ?_;rw [hcls]) | with_reducible refine wpAny_loadPart_at hO ?_ | (with_reducible refine wpAny_isSubtype_exc hO ?_;rw [hcB]) | with_reducible refine L.at ?_ | wp_step)
 exact hq
def Ze9 (e C:Addr) (h:Heap):Prop:=∃ oe vs,h.get? e=some oe/\oe.cls=.ref C/\oe.data=.fields vs
section
variable {K:Yab}{C e:Addr}
theorem ZcM {h:Heap} (M:Model) (p:Ze9 e C h):PySem.W.Looks M h (typeOf (.ref e)) (.ref C):=by
 obtain ⟨oe,vs,h1,h2,_⟩:=p;exact h2 ▸ (PySem.W.Looks.ld h1).andThen .now
theorem ZkI (k:ExcK K C):∃ c' d' cd sl,K.lookup C=some ⟨c',d',.cls cd,sl⟩:=by
 obtain ⟨cd,a,_⟩:=Option.bind_eq_some_iff.mp k.ob;unfold PySem.W.clsIn at a;split at a
 ·next z=>exact ⟨_,_,_,_,z⟩
 ·cases a
theorem ZkJ {M:Model}{A:Around}{E:Value->Shared->Prop}{h:Heap}{g:Array GenState}{d:Drawn}{t:Nat}{os:OsState}{nv:Value}{Q:Unit->Shared->Prop} (k:ExcK K C) (Y:K.In h) (p:Ze9 e C h) (hq:Q () ⟨h,g,d,t,os⟩) :
  wpAny M A (checkBuiltinCall "BaseException.__getattribute__" ⟨[.ref e,nv],[]⟩) Q E ⟨h,g,d,t,os⟩:=by
 have hkd:builtinKind "BaseException.__getattribute__" = some .slot:=by decide +kernel
 have hsp:splitId "BaseException.__getattribute__" = some ("BaseException","__getattribute__"):=by decide +kernel
 have L0:=ZcM M p;have L1:=PySem.W.looks_mroIn (M:=M) Y k.bx;have ha:=F.args_bexc_ga (.ref e) nv;simp only [checkBuiltinCall,hkd,hsp];refine Ya3 ?_;unfold isInstance
 repeat (first | with_reducible refine L0.at ?_ | with_reducible refine L1.at ?_ | wp_step)
 exact hq
theorem Ziw {prog:Program}{w:World}{A:Around}{h:Heap}{g:Array GenState}{d:Drawn}{t:Nat}{os:OsState}{tp:Value}{R:Result->Shared->Prop} (k:ExcK K C) (Y:K.In h) (p:Ze9 e C h) (hq:R (.ok (.ret (.ref C))) ⟨h,g,d,t,os⟩) :
  codeAny (model prog w) A (.call (.builtin "getset_descriptor.__get__") ⟨[.builtin "object.__class__", .ref e,tp],[]⟩) R ⟨h,g,d,t,os⟩:=by
 have L0:=ZcM (model prog w) p;have L1:=PySem.W.looks_mroIn (M:=model prog w) Y k.ob;refine codeAny_call_builtin PySem.W.KF.slot_gs.plain PySem.W.KF.entry_gs (PySem.W.KF.slot_gs.check _ _ _ _ _ _ _ _ PySem.W.KF.type_class (PySem.W.KF.args_gs _ _ _) ?_);unfold Builtin.«getset_descriptor.__get__» descrGet;rw [PySem.W.dga_obj];refine Ya3 (Ya8 ?_);unfold descrGetter descrCheckInstance descrNameAndClass isInstance;simp only [PySem.W.KF.owner_class]
 repeat lk
 refine ⟨Code.quiet_builtin _ (by decide +kernel),codeAny_builtin PySem.W.KF.entry_class ?_⟩;unfold Builtin.«object.__class__» shownTypeOf
 repeat lk
 exact hq
theorem Zix {prog:Program}{w:World}{A:Around}{E:Value->Shared->Prop}{h:Heap}{g:Array GenState}{d:Drawn}{t:Nat}{os:OsState}{tk:Tok}{Q:Fin->Shared->Prop} (k:ExcK K C) (Y:K.In h) (p:Ze9 e C h) (hq:Q (.done (.ret (.ref C))) ⟨h,g,d,t,os⟩) :
  wpAny (model prog w) A (Builtin.«object.__getattribute__» ⟨[.ref e,.str "__class__" tk],[]⟩) Q E ⟨h,g,d,t,os⟩:=by
 have L0:=ZcM (model prog w) p;have L1:=PySem.W.looks_findIn (M:=model prog w) Y k.cl;have hT5:(⟨h,g,d,t,os⟩:Shared).TypeIs (.builtin "object.__class__") "getset_descriptor" := F.typeOf_object_class;have f5:=F.typeOf_object_class;have f6:=F.slot_gs_get.lookup;have f7:=F.slot_gs_set.lookup
 repeat (any_goals (first | assumption | with_reducible refine L0.at ?_ | with_reducible refine L1.at ?_ | wp_step))
 refine Ziw k Y p ?_
 repeat (any_goals (first | assumption | wp_step))
theorem Zgz {prog:Program}{w:World}{A:Around}{E:Value->Shared->Prop}{Q:Option Value->Shared->Prop}{s:Shared} (k:ExcK K C) (Y:K.In s.heap) (p:Ze9 e C s.heap) (hq:Q (some (.ref C)) { s with toks:=s.toks+1 }) :
  wpAny (model prog w) A (getAttr? (.ref e) "__class__") Q E s:=by
 obtain ⟨h,g,d,t,os⟩:=s;have L0:=ZcM (model prog w) p;have L1:=PySem.W.looks_findIn (M:=model prog w) Y k.ga;have L2:=PySem.W.looks_findIn (M:=model prog w) Y k.gt;have f3:=F.attr_ValueError.ga.bind (.ref e);unfold getAttr? getAttrBy? getAttrBy;refine Ya3 (wpAny_mkText (Ya3 (wpAny_attempt (wpAny_holding (Ya3 (L0.at (Ya3 (L1.at ?_))))))));show wpAny _ _ (getAttrByItsOwn (.ref e) _ (.ref C) (.builtin "BaseException.__getattribute__") false false) _ _ _;unfold getAttrByItsOwn;refine Ya3 (m:=hookBefore (.ref C)) (L2.at ?_);refine Ya3 (wpAny_attempt (wpAny_holding ?_));show wpAny _ _ (boundAndCalled (.builtin "BaseException.__getattribute__") (.ref e) _) _ _ _;unfold boundAndCalled;refine Ya3 (wpAny_of_eq f3 ?_);refine wpAny_call (codeAny_call_builtin F.attr_ValueError.ga.plain F.entry_bexc_ga (ZkJ k Y p (Zix k Y p ?_)));show wpAny _ _ (handedOut (.ref C)) _ _ _;exact Ya8 (Ya8 hq)
theorem ZeH (k:ExcK K C):PySem.W.KitX K (.ref e) (.ref C) (Ze9 e C) where
 ty:=λM _ _ p=>ZcM M p
 it:=λ_ _ Y _=>by
  obtain ⟨_,_,_,_,z⟩:=ZkI k;intro A' Q' E' s' kk q;unfold isType loadHead;exact Ya3 (wpAny_loadPart (kk _ _ (Y _ _ z)) (Ya8 q))
 ne:=λh tp dd its n sl Y htp=>by
  obtain ⟨_,_,_,_,z⟩:=ZkI k;refine Bool.eq_false_iff.mpr λq=>?_;have e':C=tp:=Value.ref.inj (beq_iff_eq.mp q);subst e';cases (Y _ _ z).symm.trans htp
 ca:=λY p kk=>Zgz k Y p kk
end
end L2
namespace L2
open PySem PySem.Spec PySem.Calls PyProof.Rows
def excO (e C:Addr):HO:=.ext (Ze9 e C)
theorem ZoR {P:Program}{w:World}{H:Hp}{h:Heap}{e C:Addr} (p:Ze9 e C h):ObjOk P w H h e (excO e C) :=
 ⟨p,let ⟨oe,_,h1,_⟩:=p;⟨oe,h1⟩,λ_ _ ⟨oe,vs,h1,h2,h3⟩ kk=>⟨oe,vs,kk _ h1,h2,h3⟩⟩
theorem ZgA {X:Cx}{pins:List (Addr × Obj)}{σ:St}{H:Hp}{s:Shared}{e C:Addr} (I:Inv X pins σ H s) (q:H e=some (excO e C)):Ze9 e C s.heap:=(I.hok e _ q).1
abbrev Cx.tryC (X:Cx) (pn:List (Addr × Obj)) (W:Value->Shared->Prop):Cx:={ X with pn:=X.pn ++ pn,xe:=W }
abbrev Cx.hand (X:Cx) (v:Value):Cx:={ X with A:=X.A.mark (some v),calm:=false,xe:=λ_ _=>False }
section
variable {X:Cx}{pins pn:List (Addr × Obj)}{W:Value->Shared->Prop}{σ:St}{H:Hp}{s:Shared}{v:Value}
theorem Cx.Ok.tryC (ok:X.Ok) (pn:List (Addr × Obj)) (W:Value->Shared->Prop):(X.tryC pn W).Ok :=
 ⟨ok.mod,ok.kind,ok.glob,ok.blt,ok.above,ok.inj,ok.has,ok.cab,ok.hd,ok.frames,ok.stk,ok.exf,ok.bs,ok.bsz,ok.noex,ok.exfs,ok.funs,ok.frf⟩
theorem Cx.Ok.unTry (ok:(X.tryC pn W).Ok):X.Ok :=
 ⟨ok.mod,ok.kind,ok.glob,ok.blt,ok.above,ok.inj,ok.has,ok.cab,ok.hd,ok.frames,ok.stk,ok.exf,ok.bs,ok.bsz,ok.noex,ok.exfs,ok.funs,ok.frf⟩
theorem Cx.Ok.hand (ok:X.Ok) (v:Value):(X.hand v).Ok :=
 ⟨ok.mod,ok.kind,ok.glob,ok.blt,ok.above,ok.inj,ok.has,ok.cab,(λz=>nomatch z),ok.frames,ok.stk,ok.exf,ok.bs,ok.bsz,ok.noex,ok.exfs,ok.funs,ok.frf⟩
theorem Inv.tryIn (I:Inv X pins σ H s) (W:Value->Shared->Prop):Inv (X.tryC pins W) [] σ H s :=
 ⟨I.ok.tryC pins W,I.os,I.bare,I.base,I.loc,I.cell,I.free,I.freeC,λp hp=>I.pin p (by simpa using hp),I.hok,I.len⟩
theorem Inv.tryOut (I:Inv (X.tryC pn W) pins σ H s):Inv X pn σ H s :=
 ⟨I.ok.unTry,I.os,I.bare,I.base,I.loc,I.cell,I.free,I.freeC,λp hp=>I.pin p (YaA _ hp),I.hok,I.len⟩
theorem Inv.hand (I:Inv X pins σ H s) (v:Value):Inv (X.hand v) pins σ H s :=
 ⟨I.ok.hand v,I.os,I.bare,I.base,I.loc,I.cell,I.free,I.freeC,I.pin,I.hok,I.len⟩
theorem Inv.unhand (I:Inv (X.hand v) pins σ H s) (ok:X.Ok):Inv X pins σ H s :=
 ⟨ok,I.os,I.bare,I.base,I.loc,I.cell,I.free,I.freeC,I.pin,I.hok,I.len⟩
theorem SP.tryOut {D:Ends}{f:Flow}{s':Shared} (h:SP (X.tryC pn W) pins D f s'):SP X pn D f s':=by
 cases f with
 |next=>obtain ⟨σ',H',I,q⟩:=h;exact ⟨σ',H',I.tryOut,q⟩
 |brk=>obtain ⟨σ',H',I,q⟩:=h;exact ⟨σ',H',I.tryOut,q⟩
 |cont=>obtain ⟨σ',H',I,q⟩:=h;exact ⟨σ',H',I.tryOut,q⟩
 |ret u=>obtain ⟨v,σ',H',I,r,q⟩:=h;exact ⟨v,σ',H',I.tryOut,r,q⟩
theorem Inv.gone {i:Nat}{n:Str}{h':Heap}{t':Nat}{v':Option Value}{m:Str->Option Value} (I:Inv X pins σ H s) (hN:X.N.Nodup) (hi:X.N[i]? = some n)
  (hm:∀ (j:Nat) (x:Str) (v:V),X.N[j]? = some x->σ[j]? = some (some v)->Vis X.env.scope x->∃ u,RelV v u/\Look X.env s.heap m x u)
  (hn':h'.Ns X.env.locals (λx=>if x=n then v' else m x)) (hs:Heap.SameBut X.env.locals s.heap h'):Inv X pins (σ.set i none) H { s with heap:=h',toks:=t' }:=by
 obtain ⟨mm,⟨oL,_,_,hoL,_⟩,_⟩:=id I.loc;have cne:=I.cne;refine ⟨I.ok,I.os,I.bare,⟨λb o e n hb hx=>?_,λb o e n hb hx=>?_,I.base.free,λb o e hx=>?_,I.base.tups,I.base.frzs,I.base.tbls⟩,⟨_,hn',λj y w e1 e2 e3=>?_⟩,λy c e=>?_,I.free,I.freeC,λp hp=>?_,λb ob e=>?_,by simpa using I.len⟩
 ·exact (hs.2 b (Yap (Yan (Yal e) I.ok.above))).trans (I.base.keep b o e n hb hx)
 ·obtain ⟨sl,e1⟩:=I.base.slot b o e n hb hx;exact ⟨sl,(hs.2 b (Yap (Yan (Yal e) I.ok.above))).trans e1⟩
 ·obtain ⟨o',e1⟩:=I.base.there b o e hx;exact ⟨o',(hs.2 b (Yap (Yan (Yal e) I.ok.above))).trans e1⟩
 ·have hji:j≠i:=by
   rintro rfl;rw [List.getElem?_set] at e2;split at e2
   ·split at e2 <;> cases e2
   ·next z=>exact z rfl
  rw [List.getElem?_set_ne (Ne.symm hji)] at e2;obtain ⟨u,r,q⟩:=hm j y w e1 e2 e3;refine ⟨u,r,?_⟩;rcases q with ⟨kk,q⟩ | ⟨kk,c,q,z⟩
  ·refine .inl ⟨kk,?_⟩;have:y≠n:=λz=>hji (ZeC hN e1 (z ▸ hi));simp [this,q]
  ·exact .inr ⟨kk,c,q,z.sameBut hs (cne y c q)⟩
 ·obtain ⟨w,z⟩:=I.cell y c e;exact ⟨w,z.sameBut hs (cne y c e)⟩
 ·obtain ⟨e,n,ne,nf,d⟩:=I.pin p hp;exact ⟨(hs.2 p.1 ne).trans e,n,ne,nf,d⟩
 ·refine (I.hok b ob e).stay (λc w' hc q=>(hs.2 c ?_).trans q) (λ_ q=>q) λ_ _ q=>q;rintro rfl;rcases hc with z | hc
  ·rw [<- z,I.free] at e;cases e
  ·rw [I.free] at hc;cases hc
theorem Inv.catch {H':Hp}{s':Shared}{e C:Addr} (I:Inv X pins σ H s) (F:Fli X.prog X.w X.stack H s e (.ref C) .none H' s'):Inv X pins σ (upd H' e (excO e C)) s':=by
 obtain ⟨a0,oe,vs,T,oT,ts,h1,h2,h3,h4,h5,h6,h7,h8,⟨h9,h10⟩,h11,h12⟩:=F.tr;refine I.call' (ch:=[]) F.os ⟨F.un.keep,F.un.slot,λb o q n hx=>?_,F.un.there,λb xs q=>?_,λb o u q=>?_,λb ps q=>?_⟩ (λb o q=>?_) F.bare λb z=>absurd z (by simp)
 ·rw [Zai (λz=>by rw [z,h11] at q;cases q)];exact F.un.free b o q n hx
 ·have z:=F.un.tups b xs q;rw [Zai (Zav z h9)];exact z
 ·have z:=F.un.frzs b o u q;rw [Zai (Zav z h9)];exact z
 ·obtain ⟨m,z⟩:=F.un.tbls b ps q;exact ⟨m,by rw [Zai (Zav z h9)];exact z⟩
 ·by_cases hb:b=e
  ·subst hb;rw [Zad] at q;cases q;exact ZoR ⟨oe,vs,h1,h2.1,h3⟩
  ·rw [Zai hb] at q;exact (F.hok b o q).stay (λ_ _ _ r=>r) (λc r=>by rw [Zai (Zav r h9)];exact r) λc xs r=>by rw [Zai (Zav r h9)];exact r
end
def Ends.gone (D:Ends) (i:Nat):Ends:={ nx:=λσ H=>D.nx (σ.set i none) H,rt:=D.rt,bk:=λσ H=>D.bk (σ.set i none) H,ct:=λσ H=>D.ct (σ.set i none) H }
def RTry (K:Yab) (Dc:Addr) (i:Nat) (th:TS) (D:Ends):St->Value->Hp->Prop:=λσ cls H'=>∃ C,cls=.ref C/\ExcK K C/\PySem.W.mroIn K C (.ref Dc)=some true /\
 ∀ e,H' e=none->th (D.gone i) (σ.set i (some (.ref e))) (upd H' e (excO e C))
def tTry (K:Yab) (Dc:Addr) (i:Nat) (tb:(St->Value->Hp->Prop)->TS) (th:TS):TS:=λD σ H=>tb (RTry K Dc i th D) D σ H
section
variable {X:Cx}
theorem ZpV {body hs:List Stmt}{b₀:Stmt}{cn n:Str}{np hpos pos:Pos}{Dc:Addr}{i:Nat}{tb:(St->Value->Hp->Prop)->TS}{th:TS} (hst:X.stack=X.env :: X.outer) (hfr:X.env.frame=some X.env.locals) (hN:X.N.Nodup) (hD:ExcK X.K Dc) (hm:X.mg cn=some (.ref Dc))
  (hb:∀ (pn:List (Addr × Obj)) (W:Value->Shared->Prop) (R:St->Value->Hp->Prop),Zd5 (X.tryC pn W) R->PSs (X.tryC pn W) body (tb R)) (hh:∀ v,PSs (X.hand v) (b₀ :: hs) th)
  (hi:X.N[i]? = some n:=by rfl) (hl:X.env.kindOf n=some .local:=by rfl) (hg:Gl X cn:=by rfl) (hdb:(cn == ("__debug__" : Str))=false:=by decide) :
  PS X (.Try body [.ExceptHandler (some (.Name cn np)) (some n) (b₀ :: hs) hpos] [] [] pos) (tTry X.K Dc i tb th):=by
 intro pins s σ H D I h;refine wpAny_Try_except ?_;have key:Zd5 (X.tryC pins λe s₁=>wpAny (model X.prog X.w) X.A (noteFrame e X.env) (λ_ s₂=>wpAny (model X.prog X.w) X.A (setFlight e none) (λ_ s₃=>wpAny (model X.prog X.w) X.A (handleBy e X.env [.ExceptHandler (some (.Name cn np)) (some n) (b₀ :: hs) hpos]) (SP X pins D) X.xe s₃) X.xe s₂) X.xe s₁)
   (RTry X.K Dc i th D):=by
  rintro pins' σ' H1 s1 e cls H' s' I0 F ⟨C,rfl,kC,hmC,hth⟩;have I1:Inv X pins σ' H1 s1:=I0.tryOut;have F:Fli X.prog X.w X.stack H1 s1 e (.ref C) .none H' s':=F;have J:=I1.fly F;obtain ⟨B,a0,fl,st⟩:=ZhD F J.stack J.stkFree;have frm:X.A.frames=some (X.env :: X.outer):=by rw [<- hst];exact I1.ok.frames
  rw [hst] at fl;refine wpAny_looks_onW frm hfr fl λh4 g4 u4=>?_;refine wpAny_landsW g4 λh5 g5 u5=>?_;have F5:=st h5 .none g5.1 g5.2.2.2 (u4.trans u5);have J5:=I1.fly F5;obtain ⟨_,oe,_,_,_,_,he,⟨hc,_⟩,_⟩:=F5.tr;refine wpAny_handleBy_cons (codeAny_handlers_test (ZbQ (X:=X.hand (.ref e)) (J5.hand (.ref e)) hg hm ?_ hdb)) (by intro q;cases q);refine ZkH J5.kIn hD hmC he hc ?_;refine codeAny_handlers_suite_as ?_;refine lands_againW g5 λh6 g6 u6=>?_;have F6:=st h6 .none g6.1 g6.2.2.2 ((u4.trans u5).trans u6);obtain ⟨_,_,_,_,_,_,_,_,_,_,_,_,_,_,⟨he0,_⟩,_,_⟩:=F6.tr;have J6:=(I1.catch F6).hand (.ref e);refine Zcd (X:=X.hand (.ref e)) (v:=.ref e) J6 hN hi (.inl hl) rfl (λs7 J7=>?_) (.inr hl);refine Ya9 (hh (.ref e) pins s7 _ _ (D.gone i) J7 (hth e he0)) (λf s8 q8=>?_) λ_ _ z=>False.elim z;have hp:(X.env.scope.kind == .class || (X.env.scope.kind == .module && X.env.locals != X.env.globals))=false:=by rw [I.ok.kind];rfl
  show wpAny (model X.prog X.w) X.A (do bindName X.env n .none;unbindBehindTheSuite X.env n hpos) (λ_ s₃=>SP X pins D f s₃) X.xe s8;cases f with
  |next =>
   obtain ⟨σ8,H8,I8,q⟩:=q8;have I9:=I8.unhand I.ok;obtain ⟨m,hn,hml⟩:=id I9.loc;exact wpAny_nameGoes_keeps hl hn hp λh' v' hn' hs'=>⟨_,H8,I9.gone hN hi hml hn' hs',q⟩
  |brk =>
   obtain ⟨σ8,H8,I8,q⟩:=q8;have I9:=I8.unhand I.ok;obtain ⟨m,hn,hml⟩:=id I9.loc;exact wpAny_nameGoes_keeps hl hn hp λh' v' hn' hs'=>⟨_,H8,I9.gone hN hi hml hn' hs',q⟩
  |cont =>
   obtain ⟨σ8,H8,I8,q⟩:=q8;have I9:=I8.unhand I.ok;obtain ⟨m,hn,hml⟩:=id I9.loc;exact wpAny_nameGoes_keeps hl hn hp λh' v' hn' hs'=>⟨_,H8,I9.gone hN hi hml hn' hs',q⟩
  |ret u =>
   obtain ⟨v,σ8,H8,I8,r,q⟩:=q8;have I9:=I8.unhand I.ok;obtain ⟨m,hn,hml⟩:=id I9.loc;exact wpAny_nameGoes_keeps hl hn hp λh' v' hn' hs'=>⟨v,_,H8,I9.gone hN hi hml hn' hs',r,q⟩
 refine Ya9 (hb pins _ _ key [] s σ H D (I.tryIn _) h) (λf s1 q=>?_) λ_ _ z=>z;have q:=SP.tryOut q;cases f with
 |next=>exact wpAny_execs_nil q
 |brk=>exact q
 |cont=>exact q
 |ret u=>exact q
end
end L2
namespace L2
open PySem PySem.Spec PyProof.Rows
def ZaA (K:Yab) (C:Addr) (m qual:Str) (st:Stmt) (ps:List Str):Prop:=∃ f fd,Fun K m qual st f fd/\Meth K C m f/\Binds K fd ps []
def MtAt (P:Program) (w:World) (K:Yab) (mg:Str->Option Value) (base:Heap) (k:Nat) (C:Addr) (m:Str) (ps:List Str) (sp:Sp):Prop :=
 ∃ f fd,FnOk P w K mg base CX0 k f fd ps sp/\Meth K C m f/\Binds K fd ps []
def MtAtX (P:Program) (w:World) (K:Yab) (mg:Str->Option Value) (base:Heap) (k:Nat) (C:Addr) (m:Str) (ps:List Str) (sp:Sp):Prop :=
 ∃ f,Meth K C m f/\(∀ vs H Q E,sp vs H Q E->vs.length=ps.length) /\
  ∀ (A:Around) (outer:List Env) (s:Shared) (H:Hp) (us:List Value) (vs:List V) (Q:VK) (E:XK),Room k A->Env0 P w K mg base A outer s H->Vals vs us->sp vs H Q E->codeAny (model P w) A (.call (.ref f) ⟨us,[]⟩) (CR (CXW P w) outer P w H s Q E) s
section
variable {P:Program}{w:World}{K:Yab}{mg:Str->Option Value}{base:Heap}{j k:Nat}{C:Addr}{m qual:Str}{ps:List Str}{sp sp':Sp}
theorem MtAt.of {st:Stmt}{N:List Str} (D:ZaA K C m qual st ps) (S:FnScope N ps (Zae st)) (len:∀ vs H Q E,sp vs H Q E->vs.length=ps.length)
  (hbody:∀ (f:Addr) (cdv:Value) (A:Around) (outer:List Env) (s:Shared) (H:Hp) (vs:List V) (Q:VK) (E:XK),Room k (A.deeper (envOfC qual (Zae st) s.heap.objs.size f cdv))->sp vs H Q E ->
   ∃ t,PSs (cxOf CX0 P w K mg base N qual (Zae st) f cdv A outer s H E).nox (ZaQ st) t/\t { nx:=λ_ H'=>Q .non H',rt:=Q } (Zdc N vs) H):MtAt P w K mg base (k+1) C m ps sp:=by
 obtain ⟨f,fd,F,hm,hb⟩:=D;exact ⟨f,fd,F.ok S len λcdv A outer s H vs Q E hr h=>hbody f cdv A outer s H vs Q E hr h,hm,hb⟩
theorem MtAtX.or (F:MtAtX P w K mg base k C m ps sp) (G:MtAtX P w K mg base k C m ps sp'):MtAtX P w K mg base k C m ps (λvs H Q E=>sp vs H Q E\/sp' vs H Q E):=by
 obtain ⟨f,a,c,d⟩:=F;obtain ⟨f',a',c',d'⟩:=G;have e:=a.at_.symm.trans a'.at_;injection e with e;injection e with e;injection e with e;subst e;exact ⟨f,a,λvs H Q E q=>q.elim (c vs H Q E) (c' vs H Q E),λA outer s H us vs Q E hr e0 r q=>q.elim (d A outer s H us vs Q E hr e0 r) (d' A outer s H us vs Q E hr e0 r)⟩
theorem MtAtX.at {CX:CXT}{f:Addr}{fd:FuncData} (F:FnOk P w K mg base CX k f fd ps sp) (hm:Meth K C m f) (hb:Binds K fd ps []) (hc:∀ l H s E e s',CX l H s E e s'->CXW P w l H s E e s'):MtAtX P w K mg base k C m ps sp:=by
 refine ⟨f,hm,F.len,λA outer s H us vs Q E hr e0 r q=>?_⟩;have hl:us.length=ps.length:=by rw [<- r.length];exact F.len _ _ _ _ q
 refine codeAny_mono (F.run A outer s H ⟨us,[]⟩ us vs Q E hr e0 (by simpa using hb s us (e0.mod.kin.keeps λb o z=>(e0.bs b o z).1) (by simpa using hl)) r q) λres s' hq=>?_;cases res with
 |error ev=>exact hc _ _ _ _ _ _ hq
 |ok fl=>cases fl <;> exact hq
theorem MtAtX.of {st:Stmt}{N:List Str} (D:ZaA K C m qual st ps) (S:FnScope N ps (Zae st)) (len:∀ vs H Q E,sp vs H Q E->vs.length=ps.length)
  (hbody:∀ (f:Addr) (cdv:Value) (A:Around) (outer:List Env) (s:Shared) (H:Hp) (vs:List V) (Q:VK) (E:XK),Room k (A.deeper (envOfC qual (Zae st) s.heap.objs.size f cdv))->sp vs H Q E ->
   ∃ t,PSs (cxOf (CXW P w) P w K mg base N qual (Zae st) f cdv A outer s H E) (ZaQ st) t/\t { nx:=λ_ H'=>Q .non H',rt:=Q } (Zdc N vs) H):MtAtX P w K mg base (k+1) C m ps sp:=by
 obtain ⟨f,fd,F,hm,hb⟩:=D;obtain ⟨oc,od,kV,doc,pm,an,cdv,ct,osl,rfl,lk,hcd⟩:=F.ex;exact .at (CX:=CXW P w) (ZoP lk hcd S len λA outer s H vs Q E hr hsp=>hbody f cdv A outer s H vs Q E hr hsp) hm hb λ_ _ _ _ _ _ z=>z
end
def tM (C:Addr) (m:Str) (sp:Sp) (ta:TE) (t:TA):TE:=λσ H Q=>ta σ H λx H1=>∃ (a dx:Addr) (fs:List (Str × V)),x=.ref a/\H1 a=some (.ins C dx fs)/\fs.lookup m=none/\t σ H1 λvs H2=>sp (x :: vs) H2 Q E0
def tMx (C:Addr) (m:Str) (sp:Sp) (R:St->Value->Hp->Prop) (ta:TE) (t:TA):TE:=λσ H Q=>ta σ H λx H1=>∃ (a dx:Addr) (fs:List (Str × V)),x=.ref a/\H1 a=some (.ins C dx fs)/\fs.lookup m=none/\t σ H1 λvs H2=>sp (x :: vs) H2 Q λcls _ H'=>R σ cls H'
section
variable {X:Cx}{k:Nat}{C:Addr}{m:Str}{ps:List Str}{sp:Sp}{e o:Expr}{es:List Expr}{ta:TE}{t:TA}{apos pos:Pos}{R:St->Value->Hp->Prop}
theorem pe_m {pl:Sem Bool} (F:MtAt X.prog X.w X.K X.mg X.base k C m ps sp) (c:Cls X.K C) (hr:Room k X.A) (he:PE X o ta) (ha:PA X (e :: es) t)
  (hst:starEach (e :: es) X.env=(false,eval e X.env) :: starEach es X.env:=by rfl) (hpl:(backTo pos (starEach es X.env)).any (·.1)=false:=by rfl)
  (ht:eval (.Call (.Attribute o m apos) (e :: es) [] pos) X.env=(do
   let ov <- eval o X.env
   standAt apos.atName
   let (f,first) <- holding [ov] (getMethod ov m pl)
   callWith pos f first (backTo pos (starEach (e :: es) X.env)) (backToKw pos (keywordEach [] X.env))):=by rfl) :
  PE X (.Call (.Attribute o m apos) (e :: es) [] pos) (tM C m sp ta t):=by
 obtain ⟨f,fd,F,hm,hb⟩:=F;have q:=Zn6 (pl:=pl) (apos:=apos) (pos:=pos) he c hm F hr hb .nil (Zid (X:=X)) ha hst hpl ht;intro pins s σ H Q I h;refine q pins s σ H Q I ?_;unfold Zlm;simp only [List.append_nil];exact h
theorem Zp5 {pl:Sem Bool} (F:MtAt X.prog X.w X.K X.mg X.base k C m ps sp) (c:Cls X.K C) (hr:Room k X.A) (he:PE X o ta)
  (ht:eval (.Call (.Attribute o m apos) [] [] pos) X.env=(do
   let ov <- eval o X.env
   standAt apos.atName
   let (f,first) <- holding [ov] (getMethod ov m pl)
   callWith pos f first (backTo pos (starEach [] X.env)) (backToKw pos (keywordEach [] X.env))):=by rfl) :
  PE X (.Call (.Attribute o m apos) [] [] pos) (tM C m sp ta tNil):=by
 obtain ⟨f,fd,F,hm,hb⟩:=F;have q:=ZlS (pl:=pl) (apos:=apos) (pos:=pos) he c hm F hr hb .nil (Zid (X:=X)) ht;intro pins s σ H Q I h;refine q pins s σ H Q I ?_;unfold Zlm;simp only [List.append_nil];exact h
theorem Zjz {pl:Sem Bool} (F:MtAtX X.prog X.w X.K X.mg X.base k C m ps sp) (c:Cls X.K C) (hr:Room k X.A) (hR:Zd5 X R) (he:PE X o ta) (ha:PA X (e :: es) t)
  (hst:starEach (e :: es) X.env=(false,eval e X.env) :: starEach es X.env:=by rfl) (hpl:(backTo pos (starEach es X.env)).any (·.1)=false:=by rfl)
  (ht:eval (.Call (.Attribute o m apos) (e :: es) [] pos) X.env=(do
   let ov <- eval o X.env
   standAt apos.atName
   let (f,first) <- holding [ov] (getMethod ov m pl)
   callWith pos f first (backTo pos (starEach (e :: es) X.env)) (backToKw pos (keywordEach [] X.env))):=by rfl) :
  PE X (.Call (.Attribute o m apos) (e :: es) [] pos) (tMx C m sp R ta t):=by
 obtain ⟨f,hm,hl,run⟩:=F;intro pins s σ H Q I h;refine PySem.W.methodCall_KW (pl:=pl) (thn (he pins s σ H _ I h) λu s1 ⟨x,H1,I1,rx,a,dx,fs,ex,ea,l,q⟩=>?_) ht;subst ex;obtain rfl:u=Value.ref a:=rx;refine ZcX I1 ea c hm l ?_;refine PySem.W.callWith_K (first:=[.ref a]) (h₀:=X.base) I.ok.mod.kin hm.kp (thn (ha pos pins s1 σ H1 _ I1 q) λus s2 ⟨vs,H2,I2,r,q2⟩=>⟨I2.kIn,?_⟩) hst hpl;refine wpAny_call (codeAny_mono (run X.A X.stack s2 H2 (.ref a :: us) (.ref a :: vs) Q _ hr I2.env0 (.cons rfl r) q2) λres s' hq=>?_);cases res with
 |error ev =>
  obtain ⟨e',cls,H',rfl,Fl,rr⟩:=hq;exact hR pins σ H2 s2 e' cls H' s' I2 Fl rr
 |ok fl =>
  cases fl with
  |ret u=>exact I2.after hq
  |next=>exact False.elim hq
  |brk=>exact False.elim hq
  |cont=>exact False.elim hq
end
end L2
namespace L2
open PySem PySem.Spec PyProof.Rows
section
variable {prog:Program}{w:World}{A:Around}{R:Result->Shared->Prop}{I:Addr}{fp wr:List Addr}{n:Nat}{P:Nat->Value->Prop}{St:Nat->Heap->Prop}
end
end L2
namespace L2
open PySem PySem.Spec PyProof.Rows
section
variable {prog:Program}{w:World}{A:Around}{E:Value->Shared->Prop}{s:Shared}
end
end L2
namespace L2
open PySem PySem.Spec PyProof.Rows
section
variable {X:Cx}{tg:Expr}
end
end L2
namespace L2
open PySem PySem.Spec PyProof.Rows
section
variable {X:Cx}
def Zrz:List V->Hp->VK->Prop:=λxs H Q=>∃ n:Int,xs=[.int n]/\n.natAbs.log2<1920/\Q (.str (Str.ofString (toString n))) H
theorem Zcc:Zbv X (.type "str") Zrz:=by
 intro pins s σ H xs us Q I rv h;obtain ⟨n,rfl,hn,q⟩:=h;obtain ⟨u,rfl,ru⟩:=rv.one;obtain ⟨t,rfl⟩:=ru;exact P.str_of_int hn ⟨.str _,H,I.tok _,⟨_,rfl⟩,q⟩
def ZrF:List V->Hp->VK->Prop:=λxs H Q=>∃ (x:Str) (n:Int),xs=[.str x]/\intText? x=some n/\x.length<=640/\Q (.int n) H
theorem Zbs:Zbv X (.type "int") ZrF:=by
 intro pins s σ H xs us Q I rv h;obtain ⟨x,n,rfl,hn,hl,q⟩:=h;obtain ⟨u,rfl,ru⟩:=rv.one;obtain ⟨t,rfl⟩:=ru;exact PySem.W.KIN.call_text hn hl ⟨.int n,H,I.tok _,⟨_,rfl⟩,q⟩
theorem Zfa:∀ {ws:List Str}{us:List Value},Vals (ws.map V.str) us->∃ l:List (Str × Tok),strValues l=us/\l.map (·.1)=ws
 | [],[],_=>⟨[],rfl,rfl⟩
 |w :: ws,_,.cons r rr=>by
  obtain ⟨t,rfl⟩:=r;obtain ⟨l,rfl,e⟩:=Zfa rr;exact ⟨(w,t) :: l,rfl,by rw [Yaw,e]⟩
theorem Zdq:∀ l:List (Str × Tok),Vals ((l.map (·.1)).map V.str) (strValues l)
 | []=>.nil
 | (w,t) :: l=>.cons ⟨t,rfl⟩ (Zdq l)
def ZrE:V->List V->Hp->VK->Prop:=λx vs H Q=>∃ (sep:Str) (l:Addr) (ws:List Str),x=.str sep/\vs=[.ref l]/\H l=some (.lst (ws.map V.str))/\JoinOk sep ws=true/\Q (.str (Txt.join sep ws)) H
theorem ZeD:MtR X "str.join" ZrE:=by
 intro pins s σ H x vs v us Q I rx rv h;obtain ⟨sep,l,ws,rfl,rfl,hH,hok,q⟩:=h;obtain ⟨t,rfl⟩:=rx;obtain ⟨u,rfl,ru⟩:=rv.one;cases ru;obtain ⟨its,n,r,e,z⟩:=I.lst hH;obtain ⟨ls,rfl,ew⟩:=Zfa r;exact SC.join ⟨_,e,rfl,n,rfl⟩ ew hok λt' k=>⟨.str _,H,I.tok _,⟨_,rfl⟩,q⟩
def ZpS:V->List V->Hp->VK->Prop:=λx vs H Q=>∃ (z y:Str),x=.str z/\vs=[.str y]/\(y.length == 0)=false/\z.length<=100000/\∀ p,H p=none->Q (.ref p) (upd H p (.lst ((Txt.split z y).map V.str)))
theorem Zft (z y:Str):(Builtin.Str.partsBetween z (Builtin.Str.occurrences z y 0 z.length (z.length+1)) y.length).length<=z.length+2:=by
 unfold Builtin.Str.partsBetween;have h:=StrLaws.occ_length_le z y 0 z.length (z.length+1);rw [Yaa,List.length_zip,YaC,Yaa,Yak,YaI,Nat.min_self];omega
theorem Zfg (z y:Str):(Txt.split z y).length<=z.length+2:=by
 unfold Txt.split;split
 ·simp
 ·split
  ·simp
  ·exact Zft z y
theorem ZbA:MtR X "str.split" ZpS:=by
 intro pins s σ H x vs v us Q I rx rv h;obtain ⟨z,y,rfl,rfl,hy,hz,q⟩:=h;obtain ⟨t,rfl⟩:=rx;obtain ⟨u,rfl,ru⟩:=rv.one;obtain ⟨tu,rfl⟩:=ru;have fin:∀ (l:List (Str × Tok)) (tk:Nat),l.map (·.1)=Txt.split z y->EP X pins σ Q (.ref s.heap.objs.size) { s with heap:=s.heap.push { cls:=.type "list",data:=.seq (strValues l).toArray },toks:=tk }:=λl tk e=>by
  have hl:=Zfg z y;have hv:=Zdq l;rw [e] at hv;exact ⟨.ref _,_,I.lnew (t':=tk) hv (by rw [Yaa,sizeLine_eq];omega),rfl,q _ I.fresh⟩
 have hsz:z.length<=sizeLine:=by rw [sizeLine_eq];omega
 have hsz2:(Builtin.Str.partsBetween z (Builtin.Str.occurrences z y 0 z.length (z.length+1)) y.length).length<=sizeLine:=by have:=Zft z y;rw [sizeLine_eq];omega
 cases h1:(decide (z.length<y.length) || decide (Builtin.Str.strKind z<Builtin.Str.strKind y))
 ·cases hf:(Builtin.Str.occurrences z y 0 z.length (z.length+1)).isEmpty
  ·refine call_meets F.slot_str_split (typeIs_str _ _ _) F.entry_str_split (F.args_str_split_2 _ _) (meets_str_split_sep z y t tu h1 hy hf hsz hsz2) ?_;show EP X pins σ Q (.ref s.heap.objs.size) { s with toks:=_,heap:=s.heap.push { cls:=.type "list",data:=.seq (strsFrom s.toks (Builtin.Str.partsBetween z (Builtin.Str.occurrences z y 0 z.length (z.length+1)) y.length)).toArray } };rw [strsFrom_eq];exact fin _ _ ((numbered_texts _ _).trans ((Ya6 (ne_true_of_eq_false h1)).trans (Ya6 (ne_true_of_eq_false hf))).symm)
  ·exact call_meets F.slot_str_split (typeIs_str _ _ _) F.entry_str_split (F.args_str_split_2 _ _) (meets_str_split_not_found z y t tu h1 hy hf) (fin [(z,t)] s.toks ((Ya6 (ne_true_of_eq_false h1)).trans (Ya7 hf)).symm)
 ·exact call_meets F.slot_str_split (typeIs_str _ _ _) F.entry_str_split (F.args_str_split_2 _ _) (meets_str_split_cannot_occur z y t tu h1) (fin [(z,t)] s.toks (Ya7 h1).symm)
def ZnX:V->List V->Hp->VK->Prop:=λx vs H Q=>∃ (z y:Str),x=.str z/\vs=[.str y]/\Q (.bl (Txt.startswith z y)) H
theorem ZfD:MtR X "str.startswith" ZnX:=by
 intro pins s σ H x vs v us Q I rx rv h;obtain ⟨z,y,rfl,rfl,q⟩:=h;obtain ⟨t,rfl⟩:=rx;obtain ⟨u,rfl,ru⟩:=rv.one;obtain ⟨tu,rfl⟩:=ru;exact SC.startswith ⟨.bl _,H,I,rfl,q⟩
end
def Its (z:Str):It where
 go:=λi _=>i<z.cps.size
 yld:=λi H x H'=>H'=H/\∃ c,z.cps[i]? = some c/\x=.str ⟨#[c]⟩
 stop:=λi _=>z.cps.size<=i
end L2
namespace L2
open PySem PySem.Spec PyProof.Rows
theorem ZqP (z:Str):strIterType z = "str_ascii_iterator" \/ strIterType z = "str_iterator" := by
 unfold strIterType;split
 ·exact .inl rfl
 ·exact .inr rfl
theorem Zli {P:Program}{w:World}{K:Yab}{tg:Expr} (z:Str) (t:Tok) (it:Addr):Turn P w K tg (Its z) [it] it (λi h=>h.IsStrIter it (strIterType z) z t i) where
 mem:=by simp
 obj:=λi h st b hb=>by
  have e:b=it:=by simpa using hb
  subst e;obtain ⟨o,e,c,d⟩:=st;exact ⟨o,e,λv z=>by rw [d] at z;cases z⟩
 keep:=λi h h' ⟨o,e,c,d⟩ k=>⟨o,k it (by simp) o e,c,d⟩
 item:=by
  intro X hP hw hK hc i pins s σ H E I hf st hg;subst hP hw hK;have hg:i<z.cps.size:=hg;have hx:z.cps[i]? = some z.cps[i]:=by simp [hg]
  obtain ⟨f0,f1,f2,f3,f4,f5⟩:=hf it (by simp);have fin:∀ h',h'.IsStrIter it (strIterType z) z t (i+1)->Heap.SameBut it s.heap h'->∃ u,some (Value.str ⟨#[z.cps[i]]⟩ s.toks)=some u/\wpAny (model X.prog X.w) X.A (letOwnedTupleGo tg (.ref it) u) (λ_ s2=>∃ x H',Inv X pins σ H' s2/\RelV x u/\(Its z).yld i H x H'/\s2.heap.IsStrIter it (strIterType z) z t (i+1)/\∀ b∈[it],H' b=none) E { s with heap:=h',toks:=s.toks+1 }:=λh' st' sb=>by
   have I1:Inv X pins σ H { s with heap:=h',toks:=s.toks+1 }:=I.turned (t':=s.toks+1) (λb o hb e=>(sb.2 b hb).trans e) f0 f1 f3 f4 f5;obtain ⟨o,e,c,d⟩:=id st';refine ⟨_,rfl,Ziu (s:={ s with heap:=h',toks:=s.toks+1 }) e c d ?_ ⟨.str ⟨#[z.cps[i]]⟩,H,I1,⟨_,rfl⟩,⟨rfl,_,hx,rfl⟩,st',λb hb=>(hf b hb).1⟩⟩;unfold strIterType;split <;> decide
  have e2:=ZqP z;generalize strIterType z=ty at st fin e2 ⊢;rcases e2 with rfl | rfl
  ·exact wpAny_pyNext_ascii_item st hx fin
  ·exact wpAny_pyNext_wide_item st hx fin
 done:=by
  intro X hP hw hK hc i pins s σ H E I hf st hg;subst hP hw hK;have hg:z.cps.size<=i:=hg;have hx:z.cps[i]? = none:=by simp [hg]
  obtain ⟨f0,f1,f2,f3,f4,f5⟩:=hf it (by simp);unfold strIterType at st;split at st
  ·exact wpAny_pyNext_ascii_end (I.ok.hd hc) st hx λh' eb=>⟨rfl,I.turned (t':=s.toks) (λb o hb e=>eb b o hb e) f0 f1 f3 f4 f5⟩
  ·exact wpAny_pyNext_wide_end (I.ok.hd hc) st hx λh' eb=>⟨rfl,I.turned (t':=s.toks) (λb o hb e=>eb b o hb e) f0 f1 f3 f4 f5⟩
 self:=λA i s Q E st h=>by
  unfold strIterType at st;split at st
  ·exact wpAny_pyIter_striter_ascii st h
  ·exact wpAny_pyIter_striter_wide st h
section
variable {X:Cx}{tg:Expr}
def iStr (tl:TE):TI:=λσ H R=>tl σ H λx H1=>∃ z,x=.str z/\R (Its z) H1
theorem Zm8 {l:Expr}{tl:TE} (hl:PE X l tl):PI X tg l (iStr tl):=by
 intro pins s σ H R I h;refine thn (hl pins s σ H _ I h) λv s1 ⟨x,H1,I1,r1,q1⟩=>?_;obtain ⟨z,e,q⟩:=q1;subst e;obtain ⟨t,rfl⟩:=r1;refine wpAny_pyIter_strU ?_;refine ⟨s1.heap.objs.size,[s1.heap.objs.size],_,_,H1,rfl,I1.kept (t':=s1.toks) λb o e=>Yad _ e,Zli z t _,⟨_,Yao _ rfl,rfl,rfl⟩,λb hb=>?_,q⟩;have e:b=s1.heap.objs.size:=by simpa using hb
 subst e;exact I1.fpOk (Yag _) (I1.hok.fresh (Yag _))
def rSlS:V->Option Int->Option Int->Hp->VK->Prop:=λx lo hi H Q=>∃ z:Str,x=.str z/\z.length<=sizeLine/\Q (.str (Txt.slice z lo hi)) H
theorem Zfl:SlR X rSlS:=by
 intro pins s σ H x v vl vu lo hi sl Q I rx hs pl pu h;obtain ⟨z,rfl,hz,q⟩:=h;obtain ⟨t,rfl⟩:=rx;refine ⟨"str", _,F.slot_str_getitem.lookup,typeIs_str _ _ _,?_⟩;have fin:∀ t' k,EP X pins σ Q (.str (Txt.slice z lo hi) t') { s with toks:=k }:=λt' k=>⟨.str _,H,I.tok _,⟨_,rfl⟩,q⟩;cases pl with
 |none =>
  cases pu with
  |none=>exact wpAny_getItem_str_slice (l:=none) (u:=none) (st:=none) hs rfl (post_val_or_str ⟨Yay (Txt.slice_le z _ _) hz,fin⟩)
  |int j tj=>exact wpAny_getItem_str_slice (l:=none) (u:=some (j,tj)) (st:=none) hs rfl (post_val_or_str ⟨Yay (Txt.slice_le z _ _) hz,fin⟩)
 |int i ti =>
  cases pu with
  |none=>exact wpAny_getItem_str_slice (l:=some (i,ti)) (u:=none) (st:=none) hs rfl (post_val_or_str ⟨Yay (Txt.slice_le z _ _) hz,fin⟩)
  |int j tj=>exact wpAny_getItem_str_slice (l:=some (i,ti)) (u:=some (j,tj)) (st:=none) hs rfl (post_val_or_str ⟨Yay (Txt.slice_le z _ _) hz,fin⟩)
end
end L2
namespace L2
open PySem PySem.Spec PyProof.Rows
section
variable {κ:Type} [DecidableEq κ]
def valV (kvs:List (κ × V)) (k:κ):Option V:=(kvs.find? λkv=>decide (kv.1=k)).map (·.2)
def putK (kvs:List (κ × V)) (k:κ) (v:V):List (κ × V) :=
 if (kvs.any λkv=>decide (kv.1=k))=true then kvs.map (λkv=>if kv.1=k then (kv.1,v) else kv) else kvs ++ [(k,v)]
theorem Zle {k:κ}:valV ([]:List (κ × V)) k=none:=rfl
theorem Za9 {p:κ × V}{r:List (κ × V)}{k:κ} (e:p.1=k):valV (p :: r) k=some p.2:=by simp [valV,List.find?_cons,e]
theorem ZaY {p:κ × V}{r:List (κ × V)}{k:κ} (e:¬ p.1=k):valV (p :: r) k=valV r k:=by simp [valV,List.find?_cons,e]
theorem Zbw (k:κ):∀ kvs:List (κ × V),(kvs.any λkv=>decide (kv.1=k))=(valV kvs k).isSome
 | []=>rfl
 |p :: r=>by
  rw [List.any_cons]
  by_cases e:p.1=k
  ·simp only [Za9 e,Ya4 e,Bool.true_or,Option.isSome_some]
  ·rw [ZaY e,Ya5 e,Bool.false_or];exact Zbw k r
theorem ZgP (k j:κ) (y:V):∀ kvs:List (κ × V),valV (kvs.map λkv=>if kv.1=k then (kv.1,y) else kv) j=(valV kvs j).map λx=>if j=k then y else x
 | []=>rfl
 |p :: r=>by
  have ih:=ZgP k j y r;rw [Yaw]
  by_cases h:p.1=k
  ·rw [Ya7 h]
   by_cases e:p.1=j
   ·rw [Za9 (p:=(p.1,y)) e,Za9 e,Option.map_some,Ya7 (e.symm.trans h)]
   ·rw [ZaY (p:=(p.1,y)) e,ZaY e,ih]
  ·rw [Ya6 h]
   by_cases e:p.1=j
   ·rw [Za9 (p:=p) e,Za9 e,Option.map_some,Ya6 (λz=>h (e.trans z))]
   ·rw [ZaY (p:=p) e,ZaY e,ih]
theorem Zfd (k j:κ) (y:V):∀ kvs:List (κ × V),valV kvs k=none->valV (kvs ++ [(k,y)]) j=if j=k then some y else valV kvs j
 | [],_=>by
  by_cases e:k=j
  ·rw [Ya7 e.symm];exact Za9 (p:=(k,y)) e
  ·rw [Ya6 (λz=>e z.symm)];exact ZaY (p:=(k,y)) e
 |p :: r,hn=>by
  rw [List.cons_append];have hk:¬ p.1=k:=λz=>by rw [Za9 z] at hn;cases hn
  rw [ZaY hk] at hn;have ih:=Zfd k j y r hn
  by_cases e:p.1=j
  ·rw [Za9 e,Za9 e,Ya6 (λz=>hk (e.trans z))]
  ·rw [ZaY e,ZaY e,ih]
theorem Zdf (kvs:List (κ × V)) (k j:κ) (y:V):valV (putK kvs k y) j=if j=k then some y else valV kvs j:=by
 unfold putK
 by_cases a:(kvs.any λkv=>decide (kv.1=k))=true
 ·rw [Ya7 a,ZgP];rw [Zbw] at a
  by_cases e:j=k
  ·obtain ⟨x,hx⟩:=Option.isSome_iff_exists.mp a;rw [Ya7 e,e,hx,Option.map_some,Ya7 rfl]
  ·rw [Ya6 e];cases valV kvs j with
   |none=>rfl
   |some x=>rw [Option.map_some,Ya6 e]
 ·rw [Ya6 a];refine Zfd k j y kvs ?_;rw [Zbw] at a;cases q:valV kvs k with
  |none=>rfl
  |some x=>rw [q] at a;exact (a rfl).elim
theorem Zcw (kvs:List (κ × V)) (k:κ) (v:V):(putK kvs k v).length<=kvs.length+1:=by
 unfold putK;split
 ·rw [Yaa];omega
 ·rw [Yak,YaC,List.length_nil];omega
theorem Zep {kvs:List (κ × V)}{k:κ} (v:V) (h:valV kvs k=none):putK kvs k v=kvs ++ [(k,v)]:=by
 unfold putK;rw [Zbw,h];exact Ya6 (by decide)
theorem RelO.isSome_eq {o:Option V}{u:Option Value} (r:RelO o u):o.isSome=u.isSome:=by
 cases o with
 |none=>cases u with
  |none=>rfl
  |some _=>exact (show False from r).elim
 |some _=>cases u with
  |none=>exact (show False from r).elim
  |some _=>rfl
theorem KV.val {kvs:List (κ × V)}{vs:List (κ × Value)} (r:KV kvs vs) (k:κ):RelO (valV kvs k) (valueAt vs k):=by
 unfold KV at r
 induction r with
 |nil=>exact True.intro
 | @cons p q ps qs h t ih =>
  obtain ⟨h1,h2⟩:=h
  by_cases e:p.1=k
  ·have e':q.1=k:=h1.symm.trans e;have b:valueAt (q :: qs) k=some q.2:=by simp [valueAt,List.find?_cons,e']
   rw [Za9 e,b];exact h2
  ·have e':¬ q.1=k:=λz=>e (h1.trans z);have b:valueAt (q :: qs) k=valueAt qs k:=by simp [valueAt,List.find?_cons,e']
   rw [ZaY e,b];exact ih
theorem KV.any {kvs:List (κ × V)}{vs:List (κ × Value)} (r:KV kvs vs) (k:κ):(kvs.any λkv=>decide (kv.1=k))=vs.any λkv=>decide (kv.1=k):=by
 unfold KV at r
 induction r with
 |nil=>rfl
 |cons h t ih=>rw [List.any_cons,List.any_cons,ih,h.1]
theorem KV.repl {kvs:List (κ × V)}{vs:List (κ × Value)} (r:KV kvs vs) (k:κ) {y:V}{u:Value} (ry:RelV y u) :
  KV (kvs.map λkv=>if kv.1=k then (kv.1,y) else kv) (vs.map λkv=>if kv.1=k then (kv.1,u) else kv):=by
 unfold KV at r ⊢
 induction r with
 |nil=>exact .nil
 | @cons p q ps qs h t ih =>
  rw [Yaw,Yaw];refine .cons ?_ ih;obtain ⟨h1,h2⟩:=h
  by_cases e:p.1=k
  ·rw [Ya7 e,Ya7 (h1.symm.trans e)];exact ⟨h1,ry⟩
  ·rw [Ya6 e,Ya6 (λz=>e (h1.trans z))];exact ⟨h1,h2⟩
theorem KV.put {kvs:List (κ × V)}{vs:List (κ × Value)} (r:KV kvs vs) (k:κ) {y:V}{u:Value} (ry:RelV y u):KV (putK kvs k y) (stored vs k u):=by
 unfold putK stored;rw [r.any k]
 by_cases e:(vs.any λkv=>decide (kv.1=k))=true
 ·rw [Ya7 e,Ya7 e];exact r.repl k ry
 ·rw [Ya6 e,Ya6 e];exact Paired.snoc r ⟨rfl,ry⟩
theorem KV.keys {kvs:List (κ × V)}{vs:List (κ × Value)} (r:KV kvs vs):kvs.map (·.1)=vs.map (·.1):=by
 unfold KV at r
 induction r with
 |nil=>rfl
 |cons h t ih=>rw [Yaw,Yaw,ih,h.1]
theorem KV.length {kvs:List (κ × V)}{vs:List (κ × Value)} (r:KV kvs vs):kvs.length=vs.length:=Paired.length r
end
theorem Zkw {P:Program}{w:World}{k:Key}{u:Value} (r:RelV (kV k) u):(ZaM P w).is k u=true:=by
 cases k with
 |inl i=>obtain ⟨t,e⟩:=(show ∃ t,u=Value.int i t from r);subst e;exact Zgx P w i t
 |inr x=>obtain ⟨t,e⟩:=(show ∃ t,u=Value.str x t from r);subst e;exact Zgw P w x t
theorem ZfO {P:Program}{w:World}:∀ {ks:List Key}{us:List Value},Vals (ks.map kV) us->ItemsAre (ZaM P w) ks us
 | [],_,r=>by rw [List.map_nil] at r;cases r;exact .nil
 |k :: ks,_,r=>by
  rw [Yaw] at r;cases r with
  |cons h t=>exact .cons (Zkw h) (ZfO t)
abbrev KT (H:Hp):List (List Key × V)->List (List Key × Addr × Value)->Prop:=Paired λp q=>p.1=q.1/\H q.2.1=some (.tup (p.1.map kV))/\RelV p.2 q.2.2
theorem KT.val {H:Hp}{kvs:List (List Key × V)}{xs:List (List Key × Addr × Value)} (r:KT H kvs xs) (k:List Key):RelO (valV kvs k) ((atKey xs k).map (·.2)):=by
 induction r with
 |nil=>exact True.intro
 | @cons p q ps qs h t ih =>
  obtain ⟨h1,_,h2⟩:=h
  by_cases e:p.1=k
  ·have e':q.1=k:=h1.symm.trans e;have b:atKey (q :: qs) k=some q.2:=by simp [atKey,List.find?_cons,e']
   rw [Za9 e,b];exact h2
  ·have e':¬ q.1=k:=λz=>e (h1.trans z);have b:atKey (q :: qs) k=atKey qs k:=by simp [atKey,List.find?_cons,e']
   rw [ZaY e,b];exact ih
theorem KT.repl {H:Hp}{kvs:List (List Key × V)}{xs:List (List Key × Addr × Value)} (r:KT H kvs xs) (k:List Key) {y:V}{u:Value} (ry:RelV y u) :
  KT H (kvs.map λkv=>if kv.1=k then (kv.1,y) else kv) (xs.map (putAt k u)):=by
 induction r with
 |nil=>exact .nil
 | @cons p q ps qs h t ih =>
  rw [Yaw,Yaw];refine .cons ?_ ih;obtain ⟨h1,h2,h3⟩:=h;unfold putAt
  by_cases e:p.1=k
  ·rw [Ya7 e,Ya7 (h1.symm.trans e)];exact ⟨h1,h2,ry⟩
  ·rw [Ya6 e,Ya6 (λz=>e (h1.trans z))];exact ⟨h1,h2,h3⟩
theorem KT.put {H:Hp}{kvs:List (List Key × V)}{xs:List (List Key × Addr × Value)} (r:KT H kvs xs) (k:List Key) {b:Addr}{y:V}{u:Value} (hb:H b=some (.tup (k.map kV))) (ry:RelV y u) :
  KT H (putK kvs k y) (storedH xs k b u):=by
 have e:(kvs.any λkv=>decide (kv.1=k))=(atKey xs k).isSome:=by
  rw [Zbw,(r.val k).isSome_eq,Option.isSome_map]
 unfold putK storedH;rw [e]
 by_cases q:(atKey xs k).isSome=true
 ·rw [Ya7 q,Ya7 q];exact r.repl k ry
 ·rw [Ya6 q,Ya6 q];exact Paired.snoc r ⟨rfl,hb,ry⟩
theorem KT.keeps {H H':Hp}{kvs:List (List Key × V)}{xs:List (List Key × Addr × Value)} (r:KT H kvs xs) (ht:∀ b ys,H b=some (.tup ys)->H' b=some (.tup ys)):KT H' kvs xs :=
 Paired.mapP r λ_ _ z=>⟨z.1,ht _ _ z.2.1,z.2.2⟩
section
variable {P:Program}{w:World}{H:Hp}{h:Heap}{a:Addr}
theorem ZpR {u:HO} (ok:HOk P w H h) (e:Rd H a u):ObjOk P w H h a u:=e.ok ok
theorem ZmB {kvs:List (Key × V)} (ok:HOk P w H h) (e:Rd H a (.dK kvs)):kvs.length<=sizeLine/\(a == sysModules)=false/\∃ vs,KV kvs vs/\h.DictOf (ZaM P w) a vs :=
 show ObjOk P w H h a (.dK kvs) from ZpR ok e
theorem ZoS {kvs:List (Key × V)} (ok:HOk P w H h) (e:H a=some (.dK kvs)):kvs.length<=sizeLine/\(a == sysModules)=false/\∃ vs,KV kvs vs/\h.DictOf (ZaM P w) a vs:=ZmB ok (.inl e)
theorem Zhu {ks:List Key} (ok:HOk P w H h) (e:H a=some (.tup (ks.map kV))):(tupleKind (ZaM P w)).is h ks a:=by
 obtain ⟨_,its,r,o,h1,h2,n,h3⟩:=(show ObjOk P w H h a (.tup (ks.map kV)) from ok a _ e);exact ⟨o,its.toArray,n,h1,h2,h3,by simpa using ZfO r⟩
theorem Zmz {kvs:List (List Key × V)} (ok:HOk P w H h) (e:Rd H a (.dT kvs)):kvs.length<=sizeLine/\(a == sysModules)=false /\
  ∃ xs,KT H kvs xs/\h.DictOfH (tupleKind (ZaM P w)) a xs:=by
 obtain ⟨z,y,xs,r,o,es,ep,h1,h2,h3,h4,h5⟩:=(show ObjOk P w H h a (.dT kvs) from ZpR ok e);refine ⟨z,y,xs,r,o,es,ep,h1,h2,h3,h4,λx hx=>?_,h5⟩;have all:∀ {l:List (List Key × V)}{m:List (List Key × Addr × Value)},KT H l m->∀ x∈m,(tupleKind (ZaM P w)).is h x.1 x.2.1:=by
  intro l m q
  induction q with
  |nil=>intro x hx;exact nomatch hx
  | @cons p q ps qs hq t ih =>
   intro x hx;rcases YaF.mp hx with e | hx
   ·subst e;exact Zhu ok (by rw [<- hq.1];exact hq.2.1)
   ·exact ih x hx
 exact all r x hx
theorem Zr6 {kvs:List (List Key × V)} (ok:HOk P w H h) (e:H a=some (.dT kvs)):kvs.length<=sizeLine/\(a == sysModules)=false /\
  ∃ xs,KT H kvs xs/\h.DictOfH (tupleKind (ZaM P w)) a xs:=Zmz ok (.inl e)
end
def DGet (H:Hp) (a:Addr) (y:V) (r:Option V):Prop :=
 (∃ kvs k,Rd H a (.dK kvs)/\y=kV k/\r=valV kvs k)\/∃ kvs k b,Rd H a (.dT kvs)/\y=.ref b/\H b=some (.tup (k.map kV))/\r=valV kvs k
def DPut (H:Hp) (a:Addr) (y v:V) (H':Hp):Prop :=
 (∃ kvs k,H a=some (.dK kvs)/\y=kV k/\kvs.length<sizeLine/\H'=upd H a (.dK (putK kvs k v))) \/
 ∃ kvs k b,H a=some (.dT kvs)/\y=.ref b/\H b=some (.tup (k.map kV))/\kvs.length<sizeLine/\H'=upd H a (.dT (putK kvs k v))
theorem DGet.k {H:Hp}{a:Addr}{kvs:List (Key × V)}{k:Key} (e:H a=some (.dK kvs)):DGet H a (kV k) (valV kvs k):=.inl ⟨kvs,k,.inl e,rfl,rfl⟩
theorem DPut.k {H:Hp}{a:Addr}{kvs:List (Key × V)}{k:Key}{v:V} (e:H a=some (.dK kvs)) (hl:kvs.length<sizeLine):DPut H a (kV k) v (upd H a (.dK (putK kvs k v))):=.inl ⟨kvs,k,e,rfl,hl,rfl⟩
theorem DPut.t {H:Hp}{a b:Addr}{kvs:List (List Key × V)}{k:List Key}{v:V} (e:H a=some (.dT kvs)) (eb:H b=some (.tup (k.map kV))) (hl:kvs.length<sizeLine) :
  DPut H a (.ref b) v (upd H a (.dT (putK kvs k v))):=.inr ⟨kvs,k,b,e,rfl,eb,hl,rfl⟩
section
variable {X:Cx}{pins:List (Addr × Obj)}{σ:St}{H:Hp}{s:Shared}{a:Addr}{y v:V}{u r:Value}{o:Option V}{A:Around}{E:Value->Shared->Prop}
theorem ZkR {Q:Value->Shared->Prop} (hu:A.units+1<cLine) (I:Inv X pins σ H s) (g:DGet H a y (some v)) (ry:RelV y u) (h:∀ w' s',Inv X pins σ H s'->RelV v w'->Q w' s') :
  wpAny (model X.prog X.w) A (getItem (.ref a) u) Q E s:=by
 rcases g with ⟨kvs,k,e,ey,l⟩ | ⟨kvs,k,b,e,ey,eb,l⟩
 ·subst ey;obtain ⟨z,hd,vs,rel,dd⟩:=ZmB I.hok e;obtain ⟨w',hw,rw'⟩:=RelO.some_of (v:=v) (o:=valueAt vs k) (by rw [l];exact rel.val k);exact wpAny_getItem_of (Zkw ry) dd.mapOf hw (h w' _ (I.tok _) rw')
 ·subst ey;cases (show u=Value.ref b from ry);obtain ⟨z,hd,xs,rel,dd⟩:=Zmz I.hok e;obtain ⟨w',hw,rw'⟩:=RelO.some_of (v:=v) (o:=(atKey xs k).map (·.2)) (by rw [l];exact rel.val k);obtain ⟨p,hp,hp2⟩:=Option.map_eq_some_iff.mp hw;refine wpAny_getItem_heap (tupleKind_room_in1 hu) (Zhu I.hok eb) dd hp ?_;rw [hp2];exact h w' _ (I.tok _) rw'
theorem ZoW {Q:Value->Shared->Prop} (hu:A.units+1<cLine) (I:Inv X pins σ H s) (g:DGet H a y o) (ry:RelV y u) (h:∀ s',Inv X pins σ H s'->Q (.bool (!o.isSome)) s') :
  wpAny (model X.prog X.w) A (compareOp .NotIn u (.ref a)) Q E s:=by
 rcases g with ⟨kvs,k,e,ey,l⟩ | ⟨kvs,k,b,e,ey,eb,l⟩
 ·subst ey;obtain ⟨z,hd,vs,rel,dd⟩:=ZmB I.hok e;refine wpAny_notIn_of (Zkw ry) hd dd.mapOf ?_;rw [<- (rel.val k).isSome_eq,<- l];exact h _ (I.tok _)
 ·subst ey;cases (show u=Value.ref b from ry);obtain ⟨z,hd,xs,rel,dd⟩:=Zmz I.hok e;refine wpAny_notIn_heap (tupleKind_room_in1 hu) (Zhu I.hok eb) hd dd ?_;have q:=(rel.val k).isSome_eq;rw [Option.isSome_map] at q;rw [<- q,<- l];exact h _ (I.tok _)
theorem ZgD {h':Heap}{t':Nat}{ob:HO} (I:Inv X pins σ H s) (mu:Mut (H a)) (hs:Heap.SameBut a s.heap h') (he:∃ q,h'.get? a=some q) (new:ObjOk X.prog X.w (upd H a ob) h' a ob) :
  Inv X pins σ (upd H a ob) { s with heap:=h',toks:=t' } :=
 I.write (x:=a) (e:=a) mu (.inl rfl) (λb q hb z=>(hs.2 b hb).trans z) he new
theorem Znn {P:Program}{w:World}{H':Hp}{h':Heap}{kvs:List (Key × V)}{vs:List (Key × Value)} (z:kvs.length<=sizeLine) (hd:(a == sysModules)=false) (rel:KV kvs vs) (dd:h'.DictOf (ZaM P w) a vs) :
  ObjOk P w H' h' a (.dK kvs):=⟨z,hd,vs,rel,dd⟩
theorem ZkQ {H':Hp}{Q:Unit->Shared->Prop} (hu:A.units+1<cLine) (I:Inv X pins σ H s) (g:DPut H a y v H') (ry:RelV y u) (rv:RelV v r) (h:∀ s',Inv X pins σ H' s'->Q () s') :
  wpAny (model X.prog X.w) A (setItem (.ref a) u r) Q E s:=by
 rcases g with ⟨kvs,k,e,ey,l,eH⟩ | ⟨kvs,k,b,e,ey,eb,l,eH⟩
 ·subst ey eH;obtain ⟨z,hd,vs,rel,dd⟩:=ZoS I.hok e;have hz:vs.length<=sizeLine:=by rw [<- rel.length];exact z
  have hl:(putK kvs k v).length<=sizeLine:=by have:=Zcw kvs k v;omega
  refine wpAny_setItem_pairs (hsz:=hz) (Zkw ry) dd λh' dd' hs=>h _ ?_;have he:∃ q,h'.get? a=some q:=let ⟨q,_,_,hq,_⟩:=dd';⟨q,hq⟩;exact ZgD I (by rw [e];exact True.intro) hs he (Znn hl hd (rel.put k rv) dd')
 ·subst ey eH;cases (show u=Value.ref b from ry);obtain ⟨z,hd,xs,rel,dd⟩:=Zr6 I.hok e;have hz:xs.length<=sizeLine:=by rw [<- Paired.length rel];exact z
  have hl:(putK kvs k v).length<=sizeLine:=by have:=Zcw kvs k v;omega
  refine wpAny_setItem_heap (hsz:=hz) (tupleKind_room_in1 hu) (Zhu I.hok eb) dd λh' dd' hs=>h _ ?_;obtain ⟨q,es,ep,hq,h2,h3,h4,_,h5⟩:=dd';refine ZgD I (by rw [e];exact True.intro) hs ⟨q,hq⟩ ⟨hl,hd,_,(rel.put k eb rv).keeps λc ys ec=>?_,q,es,ep,hq,h2,h3,h4,h5⟩;rw [Zai (Zmi ec e (λz=>nomatch z))];exact ec
end
section
variable {X:Cx}{pins:List (Addr × Obj)}{σ:St}{H:Hp}{s:Shared}{a:Addr}{kvs:List (Key × V)}{k:Key}{u:Value}{A:Around}{E:Value->Shared->Prop}
end
def NoSl (i:Expr):Prop:=∀ ov iv,subscripted i false ov iv=operate [ov,iv] (getItem ov iv)
theorem ZnF {prog:Program}{w:World}{A:Around}{E:Value->Shared->Prop}{s:Shared}{env:Env}{value slice:Expr}{pos:Pos}{T id:String}{Q:Value->Shared->Prop}
  (hl:typeLookup (.type T) "__getitem__" = pure (some (.builtin id))) (hs:NoSl slice)
  (h:wpAny (model prog w) A (eval value env) (λo s₁=>wpAny (model prog w) A (eval slice env) (λi s₂=>s₂.TypeIs o T/\wpAny (model prog w) A (getItem o i) Q E s₂) E s₁) E s) :
  wpAny (model prog w) A (eval (.Subscript value slice pos) env) Q E s:=by
 refine Subscript_ (Ya9 h (λo s₁ h₁=>Ya9 h₁ (λi s₂ h₂=>?_) λ_ _ x=>x) λ_ _ x=>x);obtain ⟨hT,h₂⟩:=h₂;unfold subscriptTail;refine Ya3 ?_;rw [getitemInPython_of_ne hT.not_modules];refine Ya3 (wpAny_specialOf hT hl ?_);have fin:wpAny (model prog w) A (subscripted slice false o i) (λr s₃=>wpAny (model prog w) A (letTemporaryGo value o r >>= λ_=>pure r) Q E s₃) E s₂:=by
  rw [hs o i];exact wpAny_operating (Ya9 h₂ (λr s₃ h₃=>Ya3 (wpAny_letTemporaryGo (Ya8 h₃))) λ_ _ x=>x)
 first
  |exact Ya8 (Ya3 fin)
  |exact Ya3 (Ya8 (Ya3 fin))
  |exact Ya3 fin
theorem ZgC {X:Cx}{pins:List (Addr × Obj)}{σ:St}{H:Hp}{s:Shared}{a:Addr}{y:V}{o:Option V} (I:Inv X pins σ H s) (g:DGet H a y o):s.TypeIs (.ref a) "dict" := by
 rcases g with ⟨kvs,k,e,_,_⟩ | ⟨kvs,k,b,e,_,_,_⟩
 ·obtain ⟨_,_,vs,_,dd⟩:=ZmB I.hok e;exact dd.typeIs
 ·obtain ⟨_,_,xs,_,dd⟩:=Zmz I.hok e;exact dd.typeIs
def Zrq (td ty:TE):TE:=λσ H Q=>td σ H λx H1=>ty σ H1 λy H2=>∃ a v,x=.ref a/\DGet H2 a y (some v)/\Q v H2
def ZnD (ty td:TE):TE:=λσ H Q=>ty σ H λy H1=>td σ H1 λx H2=>∃ a o,x=.ref a/\DGet H2 a y o/\Q (.bl (!o.isSome)) H2
def Zrx (td ty tv:TE):TS:=λD σ H=>tv σ H λv H1=>td σ H1 λx H2=>ty σ H2 λy H3=>∃ a H4,x=.ref a/\DPut H3 a y v H4/\D.nx σ H4
section
variable {X:Cx}{o i e value:Expr}{pos pos' tpos:Pos}{td ty tv:TE}
theorem ZbC (hu:X.A.units+1<cLine) (ho:PE X o td) (hi:PE X i ty) (hs:NoSl i):PE X (.Subscript o i pos) (Zrq td ty):=by
 intro pins s σ H Q I h;refine ZnF PySem.F.slot_dict_getitem.lookup hs (thn (ho pins s σ H _ I h) λu s1 ⟨x,H1,I1,rx,q1⟩=>thn (hi pins s1 σ H1 _ I1 q1) λiv s2 ⟨y,H2,I2,ry,a,v,ex,g,q2⟩=>?_);subst ex;obtain rfl:u=Value.ref a:=rx;exact ⟨ZgC I2 g,ZkR hu I2 g ry λw' s3 I3 rw'=>⟨v,H2,I3,rw',q2⟩⟩
theorem ZdE (hu:X.A.units+1<cLine) (hi:PE X i ty) (ho:PE X o td):PC X .NotIn i o (ZnD ty td):=by
 intro pins s σ H Q I h;refine thn (hi pins s σ H _ I h) λiv s1 ⟨y,H1,I1,ry,q1⟩=>thn (ho pins s1 σ H1 _ I1 q1) λu s2 ⟨x,H2,I2,rx,a,ov,ex,g,q2⟩=>?_;subst ex;obtain rfl:u=Value.ref a:=rx;exact ZoW hu I2 g ry λs3 I3=>⟨.bl (!ov.isSome),H2,I3,rfl,q2⟩
theorem Zer (hu:X.A.units+1<cLine) (ho:PE X o td) (hi:PE X i ty) (hv:PE X value tv) (hs:swapsWith value (some (.Subscript o i pos')) pos.line X.env=pure false) :
  PS X (.Assign [.Subscript o i pos'] value pos) (Zrx td ty tv):=by
 intro pins s σ H D I h;refine wpAny_Assign_Subscript (thn (hv pins s σ H _ I h) λr s1 ⟨v,H1,I1,rv,q1⟩=>thn (ho pins s1 σ H1 _ I1 q1) λu s2 ⟨x,H2,I2,rx,q2⟩=>thn (hi pins s2 σ H2 _ I2 q2) λiv s3 ⟨y,H3,I3,ry,a,H4,ex,g,q3⟩=>?_) hs;subst ex;obtain rfl:u=Value.ref a:=rx;exact ZkQ hu I3 g ry rv λs4 I4=>⟨σ,H4,I4,q3⟩
end
theorem ZhK {P:Program}{w:World}{H:Hp} (h:Heap) (hb:sysModules<h.objs.size):ObjOk P w H (h.push { cls:=.type "dict",data:=.dict #[] }) h.objs.size (.dK []) :=
 ⟨YaH _,Ya1.mpr (Ne.symm (Yap hb)),[],.nil,Heap.DictOf.new h⟩
theorem ZmA {P:Program}{w:World}{H:Hp} (h:Heap) (hb:sysModules<h.objs.size):ObjOk P w H (h.push { cls:=.type "dict",data:=.dict #[] }) h.objs.size (.dT []) :=
 ⟨YaH _,Ya1.mpr (Ne.symm (Yap hb)),[],.nil,_,#[],0,Yao _ rfl,⟨rfl,rfl,rfl⟩,rfl,rfl,List.nodup_nil⟩
def Zpp:TE:=λ_ H Q=>∀ p,H p=none->Q (.ref p) (upd H p (.dK []))
def Zpo:TE:=λ_ H Q=>∀ p,H p=none->Q (.ref p) (upd H p (.dT []))
section
variable {X:Cx}{pos:Pos}
theorem ZlW:PE X (.Dict [] [] pos) Zpp:=λpins s σ H Q I h =>
 wpAny_Dict_empty ⟨.ref s.heap.objs.size,_,I.laid (a:=s.heap.objs.size) (o:=.dK []) (t':=s.toks) (λ_ _ q=>Yad _ q) (Yag _) (ZhK s.heap I.big),rfl,h _ (I.hok.fresh (Yag _))⟩
theorem ZlV:PE X (.Dict [] [] pos) Zpo:=λpins s σ H Q I h =>
 wpAny_Dict_empty ⟨.ref s.heap.objs.size,_,I.laid (a:=s.heap.objs.size) (o:=.dT []) (t':=s.toks) (λ_ _ q=>Yad _ q) (Yag _) (ZmA s.heap I.big),rfl,h _ (I.hok.fresh (Yag _))⟩
end
def ZgS:List (TE × TE)->St->Hp->(List (V × V)->Hp->Prop)->Prop
 | [],_,H,Q=>Q [] H
 | (tk,tv) :: r,σ,H,Q=>tk σ H λx H1=>tv σ H1 λy H2=>ZgS r σ H2 λps H3=>Q ((x,y) :: ps) H3
abbrev VV:List (V × V)->List (Value × Value)->Prop:=Paired λp q=>RelV p.1 q.1/\RelV p.2 q.2
def PPs (X:Cx) (pos:Pos) (keys:List (Option Expr)) (values:List Expr) (trs:List (TE × TE)):Prop :=
 ∀ (pins:List (Addr × Obj)) (s:Shared) (σ:St) (H:Hp) (Q:List (V × V)->Hp->Prop),Inv X pins σ H s->ZgS trs σ H Q ->
  wpAny (model X.prog X.w) X.A (evalPairs (pairTrees keys values X.env pos)) (λvs s'=>∃ ps H',Inv X pins σ H' s'/\VV ps vs/\Q ps H') X.xe s
theorem Zjt {X:Cx}{pos:Pos}:PPs X pos [] [] []:=λpins s σ H Q I h=>pairTrees_nil_walk ⟨[],H,I,.nil,h⟩
theorem Zhf {X:Cx}{pos:Pos}{k v:Expr}{ks:List (Option Expr)}{vs:List Expr}{tk tv:TE}{trs:List (TE × TE)} (hk:PE X k tk) (hv:PE X v tv) (hr:PPs X pos ks vs trs) :
  PPs X pos (some k :: ks) (v :: vs) ((tk,tv) :: trs):=λpins s σ H Q I h =>
 pairTrees_cons_walk (thn (hk pins s σ H _ I h) λu s1 ⟨x,H1,I1,rx,q1⟩=>thn (hv pins s1 σ H1 _ I1 q1) λw2 s2 ⟨y,H2,I2,ry,q2⟩ =>
  thn (hr pins s2 σ H2 _ I2 q2) λws s3 ⟨ps,H3,I3,rel,q3⟩=>⟨(x,y) :: ps,H3,I3,.cons ⟨rx,ry⟩ rel,q3⟩)
def ZbZ (kvs more:List (Key × V)):List (Key × V):=more.foldl (λacc kv=>putK acc kv.1 kv.2) kvs
theorem KV.merge:∀ {more:List (Key × V)}{rs:List (Key × Value)}{kvs:List (Key × V)}{vs:List (Key × Value)},KV more rs->KV kvs vs->KV (ZbZ kvs more) (merged vs rs):=by
 intro more rs kvs vs r;unfold KV at r
 induction r generalizing kvs vs with
 |nil=>intro q;exact q
 | @cons p q ps qs h t ih =>
  intro r0;have e:KV (putK kvs p.1 p.2) (stored vs q.1 q.2):=by
   have:=r0.put p.1 h.2;rw [<- h.1];exact this
  exact ih e
theorem ZcK:∀ (more kvs:List (Key × V)),(ZbZ kvs more).length<=kvs.length+more.length
 | [],kvs=>by show kvs.length<=kvs.length+0;omega
 |p :: r,kvs=>by
  have h1:=ZcK r (putK kvs p.1 p.2);have h2:=Zcw kvs p.1 p.2;show (ZbZ (putK kvs p.1 p.2) r).length<=_;rw [YaC];omega
theorem Zeh {P:Program}{w:World}:∀ {kvs:List (Key × V)}{ws:List (Value × Value)},VV (kvs.map λkv=>(kV kv.1,kv.2)) ws->∃ rs,Carries (ZaM P w) ws rs/\KV kvs rs
 | [],_,r=>by rw [List.map_nil] at r;cases r;exact ⟨[],True.intro,.nil⟩
 |p :: kvs,_,r=>by
  rw [Yaw] at r;cases r with
  | @cons a b as bs h t =>
   obtain ⟨rs,c,q⟩:=Zeh (P:=P) (w:=w) t;obtain ⟨b1,b2⟩:=b;exact ⟨(p.1,b2) :: rs,⟨Zkw h.1,rfl,c⟩,.cons ⟨rfl,h.2⟩ q⟩
def Zrp (trs:List (TE × TE)):TE:=λσ H Q=>∀ p,H p=none->ZgS trs σ (upd H p (.dK [])) λps H2=>H2 p=some (.dK [])/\∃ kvs:List (Key × V),ps=kvs.map (λkv=>(kV kv.1,kv.2))/\kvs.length<=15/\Q (.ref p) (upd H2 p (.dK (ZbZ [] kvs)))
theorem ZjA {X:Cx}{pos:Pos}{keys:List (Option Expr)}{values:List Expr}{trs:List (TE × TE)} (h:PPs X pos keys values trs) (hall:keys.all (·.isSome)=true) (hl:keys.length=values.length) (h0:keys≠[])
  (h15:keys.length<=15):PE X (.Dict keys values pos) (Zrp trs):=by
 intro pins s σ H Q I q;have hn:=I.hok.fresh (Yag s.heap.objs.size);have I1:=I.laid (a:=s.heap.objs.size) (o:=.dK []) (h':=s.heap.push { cls:=.type "dict",data:=.dict #[] }) (t':=s.toks) (λ_ _ q=>Yad _ q) (Yag _) (ZhK s.heap I.big);refine wpAny_Dict_walk (knd:=ZaM X.prog X.w) hall hl h0 h15 (thn (h pins _ σ _ _ I1 (q _ hn)) λws s2 ⟨ps,H2,I2,rel,e,kvs,ep,lk,q2⟩=>?_);subst ep;obtain ⟨rs,c,rk⟩:=Zeh (P:=X.prog) (w:=X.w) rel;obtain ⟨z,hd,vs0,r0,dd⟩:=ZoS I2.hok e;cases r0;refine ⟨rs,c,dd,λh' dd' hs=>⟨.ref s.heap.objs.size,_,?_,rfl,q2⟩⟩;have hz:(ZbZ [] kvs).length<=sizeLine:=by
  have h1:=ZcK kvs [];rw [List.length_nil] at h1;rw [sizeLine_eq];omega
 have he:∃ q,h'.get? s.heap.objs.size=some q:=let ⟨q,_,_,hq,_⟩:=dd';⟨q,hq⟩;exact ZgD I2 (by rw [e];exact True.intro) hs he (Znn hz hd (rk.merge .nil) dd')
structure M1 (X:Cx) (o:Expr) (m:Str) (apos:Pos) (e:Expr) (cpos:Pos):Prop where
 base:attributeBase o m X.env (eval o X.env)=eval o X.env
 few:((backTo cpos (starEach [e] X.env)).all (λx=>!x.1) && (backToKw cpos (keywordEach [] X.env)).all (λx=>x.1.isSome)
  && decide (([e]:List Expr).length+([]:List Keyword).length+(if ([]:List Keyword).isEmpty then 0 else 1)<30))=true
 line:(apos.endLine == cpos.line)=true
 trees:backTo cpos (starEach [e] X.env)=[(false,eval e X.env)]
structure M2 (X:Cx) (o:Expr) (m:Str) (apos:Pos) (e f:Expr) (cpos:Pos):Prop where
 base:attributeBase o m X.env (eval o X.env)=eval o X.env
 few:((backTo cpos (starEach [e,f] X.env)).all (λx=>!x.1) && (backToKw cpos (keywordEach [] X.env)).all (λx=>x.1.isSome)
  && decide (([e,f]:List Expr).length+([]:List Keyword).length+(if ([]:List Keyword).isEmpty then 0 else 1)<30))=true
 line:(apos.endLine == cpos.line)=true
 trees:backTo cpos (starEach [e,f] X.env)=[(false,eval e X.env),(false,eval f X.env)]
section
variable {X:Cx}{pins:List (Addr × Obj)}{σ:St}{H:Hp}{s:Shared}{a:Addr}{y d:V}{u r:Value}{o:Option V}{A:Around}{E:Value->Shared->Prop}
end
section
variable {X:Cx}{o e f:Expr}{apos cpos:Pos}{td ty tx:TE}
end
section
variable {X:Cx}{pins:List (Addr × Obj)}{σ:St}{H:Hp}{s:Shared}{a:Addr}{kvs:List (Key × V)}{A:Around}{E:Value->Shared->Prop}
end
section
variable {X:Cx}{pins:List (Addr × Obj)}{σ:St}{H:Hp}{s:Shared}{a:Addr}{y:V}{u:Value}{A:Around}{E:Value->Shared->Prop}
end
section
variable {X:Cx}
end
section
variable {κ:Type} [DecidableEq κ]
theorem ZgO {kvs:List (κ × V)}{k:κ} (h:valV kvs k=none):¬ k∈kvs.map (·.1):=by
 intro m;obtain ⟨p,hp,e⟩:=Yar.mp m;have q:(kvs.any λkv=>decide (kv.1=k))=true:=List.any_eq_true.mpr ⟨p,hp,Ya4 e⟩;rw [Zbw,h] at q;exact absurd q (by simp)
theorem Znx {kvs:List (κ × V)}{k:κ}{v:V} (h:valV kvs k=some v):k∈kvs.map (·.1):=by
 have q:(kvs.any λkv=>decide (kv.1=k))=true:=by
  rw [Zbw,h]
  all_goals rfl
 obtain ⟨p,hp,e⟩:=List.any_eq_true.mp q;exact Yar.mpr ⟨p,hp,of_decide_eq_true e⟩
theorem Zj5:∀ {l:List κ}{k:κ},l.Nodup->¬ k∈l->(l ++ [k]).Nodup
 | [],k,_,_=>by simp
 |a :: r,k,h,hk=>by
  obtain ⟨h1,h2⟩:=Yba.mp h;show (a :: (r ++ [k])).Nodup;refine Yba.mpr ⟨λm=>?_,Zj5 h2 λm=>hk (YaF.mpr (Or.inr m))⟩;rcases YaG.mp m with q | q
  ·exact h1 q
  ·exact hk (YaF.mpr (Or.inl (YaJ.mp q).symm))
theorem Zox {kvs:List (κ × V)}{k:κ} (v:V) (hn:(kvs.map (·.1)).Nodup) (h:valV kvs k=none):((putK kvs k v).map (·.1)).Nodup:=by
 rw [Zep v h,Yah];exact Zj5 hn (ZgO h)
end
end L2
namespace L2
open PySem PySem.Spec PyProof.Rows
def CBit (i j:Int):Prop:=0<=i/\0<=j
theorem ZiH {i j:Int} (h:CBit i j):Builtin.bitAnd i j=((i.toNat &&& j.toNat:Nat):Int):=by
 unfold Builtin.bitAnd;rw [Ya4 h.1,Ya4 h.2]
section
variable {X:Cx}
def ZrH:R2:=λx y H Q=>∃ i j:Int,x=.int i/\y=.int j/\CBit i j/\Q (.int ((i.toNat &&& j.toNat:Nat):Int)) H
theorem Zot:OpR X (binaryOp .BitAnd) ZrH:=opI λi j _ _ _ _ _ hc q=>and_int (by rw [ZiH hc];exact q)
end
section
variable {prog:Program}{w:World}{A:Around}{E:Value->Shared->Prop}{s:Shared}{d it:Addr}{od:Obj}{es:Array DictEntry}{ep i:Nat}
theorem ZfL {Q:Value->Shared->Prop} (hd:(d == sysModules)=false) (g:s.heap.get? d=some od) (x:od.ExactDict) (y:od.data=.dict es ep)
  (q:Q (.ref s.heap.objs.size) { s with heap:=s.heap.push { cls:=.type "dict_keyiterator",data:=.fields #[.ref d,.int 0 0,.int es.size 0,.int ep 0] } }):wpAny (model prog w) A (pyIter (.ref d)) Q E s:=by
 have ty:s.TypeIs (.ref d) "dict" := ⟨od,g,x.1⟩;refine wpAny_pyIter_slot ty F.slot_dict_iter (wpAny_call_entry F.slot_dict_iter ty F.entry_dict_iter ?_ (F.args_dict_iter_1 _));unfold Builtin.«dict.__iter__»;refine Ya3 ?_;unfold Builtin.Dict.dictSlotNone;refine Ya3 (wpAny_notOrdered_dict ty (show wpAny _ _ (pure (Value.ref d)) _ _ s from Ya8 ?_));show wpAny _ _ (Builtin.Dict.showsAll d >>= _) _ _ s;unfold Builtin.Dict.showsAll;rw [Ya6 (by rw [hd];exact Yaq)];refine Ya3 (Ya8 (Ya3 (wpAny_dictEntries g y (Ya3 (wpAny_dictEpoch g y ?_)))));exact Ya3 (wpAny_newObj_type (Ya8 ⟨_,rfl, "dict_keyiterator", _,⟨_,Yao _ rfl,rfl⟩,F.slot_dict_keyiterator_next.lookup,by simpa [rawInt] using q⟩))
theorem ZfK {Q:Option Value->Shared->Prop} (j:s.heap.IsKeyIter it d i es.size ep) (g:s.heap.get? d=some od) (y:od.data=.dict es ep) (hl:i<es.size)
  (q:∀ h',h'.IsKeyIter it d (i+1) es.size ep->Heap.SameBut it s.heap h'->Q (some es[i].key) { s with heap:=h' }):wpAny (model prog w) A (pyNext (.ref it)) Q E s:=by
 obtain ⟨o,e1,e2,e3⟩:=id j;unfold pyNext;refine Ya3 (wpAny_attempt (wpAny_callSpecial?_slot (name:=Str.ofString "__next__") j.typeIs F.slot_dict_keyiterator_next (wpAny_call_entry F.slot_dict_keyiterator_next j.typeIs F.entry_dict_keyiterator_next ?_ (F.args_dict_keyiterator_next_1 _))));refine Ya3 (Ya8 (Ya3 (Ya3 ?_)))
 first | refine Ya3 (wpAny_typeNameOfWhole_keyiter j.typeIs (Ya8 (Ya3 (wpAny_fieldsOf e1 e3 ?_)))) | refine Ya3 (wpAny_typeNameOf_keyiter j.typeIs (Ya8 (Ya3 (wpAny_fieldsOf e1 e3 ?_))))
 simp only [show Builtin.Dict_items.ownsTuple "dict_keyiterator" = false by decide,Bool.false_eq_true,if_false];show wpAny _ _ (if (Value.ref d == Value.none)=true then _ else _) _ _ s;rw [Ya6 (show ¬ ((Value.ref d == Value.none)=true) from Yaq)];refine Ya3 (Ya8 (Ya3 (wpAny_dictEntries g y ?_)));rw [Ya6 (by simp)];refine Ya3 (Ya8 (Ya3 (wpAny_dictEpoch g y ?_)));rw [Ya6 (by simp)];refine Ya8 ?_;simp only [show ¬ ((i:Int)<0) from by omega,if_false,Yav,Array.getElem?_eq_getElem hl];refine Ya3 ?_
 first | refine Ya3 (wpAny_typeNameOfWhole_keyiter j.typeIs (Ya8 (Ya3 (wpAny_isOneOf_keyiter j.typeIs ?_)))) | refine Ya3 (wpAny_typeNameOf_keyiter j.typeIs (Ya8 (Ya3 (wpAny_isOneOf_keyiter j.typeIs ?_))))
 show wpAny _ _ (setField (.ref it) 1 (rawInt ((i:Int)+1)) >>= _) _ _ s;refine Ya3 (wpAny_setField e1 e3 (by simp) ?_);have j':(s.heap.update it (Obj.mapFields (·.setIfInBounds 1 (rawInt ((i:Int)+1))))).IsKeyIter it d (i+1) es.size ep:=⟨_,Heap.get?_update_self _ e1 (Obj.isFreed_of_fields (Obj.data_mapFields e3 _)),(Obj.cls_mapFields ..).trans e2,by rw [Obj.data_mapFields e3];simp [rawInt]⟩;refine Ya3 (wpAny_holding (Ya3 (wpAny_isOneOf_keyiter (s:={ s with heap:=s.heap.update it (Obj.mapFields (·.setIfInBounds 1 (rawInt ((i:Int)+1)))) }) j'.typeIs ?_)));show wpAny _ _ (pure es[i].key) _ _ _;exact Ya8 (Ya8 ⟨_,rfl,Ya8 (q _ j' (Heap.SameBut.update ..))⟩)
theorem Zht {Q:Option Value->Shared->Prop} (hh:A.handled=none) (j:s.heap.IsKeyIter it d i es.size ep) (g:s.heap.get? d=some od) (y:od.data=.dict es ep) (hl:es.size<=i)
  (q:∀ h',Heap.ExtBut it s.heap h'->Q none { s with heap:=h' }):wpAny (model prog w) A (pyNext (.ref it)) Q E s:=by
 obtain ⟨o,e1,e2,e3⟩:=id j;unfold pyNext;refine Ya3 (wpAny_attempt (wpAny_callSpecial?_slot (name:=Str.ofString "__next__") j.typeIs F.slot_dict_keyiterator_next (wpAny_call_entry F.slot_dict_keyiterator_next j.typeIs F.entry_dict_keyiterator_next ?_ (F.args_dict_keyiterator_next_1 _))));refine Ya3 (Ya8 (Ya3 (Ya3 ?_)))
 first | refine Ya3 (wpAny_typeNameOfWhole_keyiter j.typeIs (Ya8 (Ya3 (wpAny_fieldsOf e1 e3 ?_)))) | refine Ya3 (wpAny_typeNameOf_keyiter j.typeIs (Ya8 (Ya3 (wpAny_fieldsOf e1 e3 ?_))))
 simp only [show Builtin.Dict_items.ownsTuple "dict_keyiterator" = false by decide,Bool.false_eq_true,if_false];show wpAny _ _ (if (Value.ref d == Value.none)=true then _ else _) _ _ s;rw [Ya6 (show ¬ ((Value.ref d == Value.none)=true) from Yaq)];refine Ya3 (Ya8 (Ya3 (wpAny_dictEntries g y ?_)));rw [Ya6 (by simp)];refine Ya3 (Ya8 (Ya3 (wpAny_dictEpoch g y ?_)));rw [Ya6 (by simp)];refine Ya8 ?_;simp only [show ¬ ((i:Int)<0) from by omega,if_false,Yav,Array.getElem?_eq_none hl];refine Ya3 ?_
 first | refine Ya3 (wpAny_typeNameOfWhole_keyiter j.typeIs (Ya8 ?_)) | refine Ya3 (wpAny_typeNameOf_keyiter j.typeIs (Ya8 ?_))
 show wpAny _ _ (setField (.ref it) 0 .none >>= _) _ _ s;refine Ya3 (wpAny_setField e1 e3 (by simp) ?_);show wpAny _ _ (newExc (.type "StopIteration") [] >>= _) _ _ _;refine Ya3 ?_;simp only [newExc,newTuple];refine Ya3 (wpAny_newObj_type ?_ (by size_fits));refine Ya3 (m:=firstArgMember _ _) (wpAny_of_eq (a:=Value.none) (by first | rfl | (simp only [firstArgMember];rfl)) (wpAny_newObj_type ?_ (by size_fits)));simp only [raiseNew];refine Ya3 (wpAny_handled ?_);rw [show A.in1.handled=none from hh];refine Ya3 (Ya8 (wpAny_throw ?_));exact Ya3 (wpAny_isInstance (T := "StopIteration") (b:=true) ⟨_,Yao _ rfl,rfl⟩ isSubtype_stop (Ya8 (q _ (((Heap.SameBut.update ..).extBut.push _).push _))))
end
def Itd (o:Obj) (d:Addr) (kvs:List (List Key × V)):It :=
 ⟨λi H=>H d=some (.frz o (.dT kvs))/\i<kvs.length,λi H x H'=>H'=H/\∃ b ks v,kvs[i]? = some (ks,v)/\x=.ref b/\H b=some (.tup (ks.map kV)),λi H=>H d=some (.frz o (.dT kvs))/\kvs.length<=i⟩
theorem ZhI {P:Program}{w:World}{H:Hp}{h:Heap}{d:Addr}{kvs:List (List Key × V)} (x:ObjOk P w H h d (.dT kvs)):(d == sysModules)=false/\∃ (xs:List (List Key × Addr × Value)) (o:Obj) (es:Array DictEntry) (ep:Nat),KT H kvs xs/\h.get? d=some o/\o.ExactDict/\o.data=.dict es ep/\es.toList=xs.map (entryOfKey (tupleKind (ZaM P w))):=by
 obtain ⟨_,hs,xs,r,o,es,ep,h1,h2,h3,h4,_⟩:=x;exact ⟨hs,xs,o,es,ep,r,h1,h2,h3,h4⟩
theorem KT.get {H:Hp}{kvs:List (List Key × V)}{xs:List (List Key × Addr × Value)} (r:KT H kvs xs):∀ {i:Nat}{p:List Key × V},kvs[i]? = some p->∃ q,xs[i]? = some q/\H q.2.1=some (.tup (p.1.map kV)):=by
 induction r with
 |nil=>intro i p e;simp at e
 | @cons p q ps qs hq t ih =>
  intro i p' e;cases i with
  |zero =>
   simp only [List.getElem?_cons_zero,Option.some.injEq] at e ⊢;subst e;exact ⟨q,rfl,hq.2.1⟩
  |succ j =>
   simp only [List.getElem?_cons_succ] at e ⊢;exact ih e
theorem ZiQ {P:Program}{w:World}{K:Yab}{tg:Expr}{o:Obj}{es:Array DictEntry}{ep:Nat} (y:o.data=.dict es ep) (d it:Addr) (kvs:List (List Key × V)):Turn P w K tg (Itd o d kvs) [it] it (λi h=>h.IsKeyIter it d i es.size ep) where
 mem:=by simp
 obj:=λi h st b hb=>by
  have e:b=it:=by simpa using hb
  subst e;obtain ⟨u,e,c,d⟩:=st;exact ⟨u,e,λv z=>by rw [d] at z;cases z⟩
 keep:=λi h h' st k=>st.at λo e=>k it (by simp) o e
 item:=by
  intro X hP hw hK hc i pins s σ H E I hf st hg;subst hP hw hK;obtain ⟨hd,hi⟩:=hg;obtain ⟨g,ok⟩:=(show ObjOk X.prog X.w H s.heap d (.frz o (.dT kvs)) from I.hok d _ hd);obtain ⟨_,xs,o',es',ep',r,g',_,y',he⟩:=ZhI ok;have eo:o=o':=Yae (g.symm.trans g');subst eo;have ey:=y.symm.trans y';injection ey with e1 e2;subst e1;obtain ⟨q,hq,hb⟩:=r.get (Yac hi);have hl:i<es.size:=by
   have e3:=congrArg List.length he;have e4:=(Yai.mp hq).1;simp at e3;omega
  have hk:es[i].key=.ref q.2.1:=by
   have e3:es.toList[i]? = some (entryOfKey (tupleKind (ZaM X.prog X.w)) q):=by rw [he,Yaf,hq];rfl
   rw [Ybi,Array.getElem?_eq_getElem hl] at e3;rw [Yae e3];rfl
  obtain ⟨f0,f1,f2,f3,f4,f5⟩:=hf it (by simp);refine ZfK st g y hl λh' st' sb=>?_;have I1:Inv X pins σ H { s with heap:=h' }:=I.turned (t':=s.toks) (λb o hb e=>(sb.2 b hb).trans e) f0 f1 f3 f4 f5;obtain ⟨u,e,c,dd⟩:=id st';exact ⟨_,rfl,Ziu (s:={ s with heap:=h' }) e c dd (by decide) ⟨.ref q.2.1,H,I1,hk,⟨rfl,_,_,_,Yac hi,rfl,hb⟩,st',λb hb=>(hf b hb).1⟩⟩
 done:=by
  intro X hP hw hK hc i pins s σ H E I hf st hg;subst hP hw hK;obtain ⟨hd,hi⟩:=hg;obtain ⟨g,ok⟩:=(show ObjOk X.prog X.w H s.heap d (.frz o (.dT kvs)) from I.hok d _ hd);obtain ⟨_,xs,o',es',ep',r,g',_,y',he⟩:=ZhI ok;have eo:o=o':=Yae (g.symm.trans g');subst eo;have ey:=y.symm.trans y';injection ey with e1 e2;subst e1;have hl:es.size<=i:=by
   have e3:=congrArg List.length he;have e4:=Paired.length r;simp at e3;omega
  obtain ⟨f0,f1,f2,f3,f4,f5⟩:=hf it (by simp);exact Zht (I.ok.hd hc) st g y hl λh' eb=>⟨rfl,I.turned (t':=s.toks) (λb o hb e=>eb b o hb e) f0 f1 f3 f4 f5⟩
 self:=λ_ _ _ _ _ st h=>wpAny_pyIter_keyiter st h
theorem Inv.freeze {X:Cx}{pins:List (Addr × Obj)}{σ:St}{H:Hp}{s:Shared}{d:Addr}{o:Obj}{kvs:List (List Key × V)} (I:Inv X pins σ H s) (hd:H d=some (.dT kvs)) (g:s.heap.get? d=some o):Inv X pins σ (upd H d (.frz o (.dT kvs))) s:=by
 refine I.write (h':=s.heap) (t':=s.toks) (e:=d) (by rw [hd];trivial) (.inl rfl) (λ_ _ _ e=>e) ⟨o,g⟩ ⟨g,?_⟩;obtain ⟨z,hs,xs,r,rest⟩:=(show ObjOk X.prog X.w H s.heap d (.dT kvs) from I.hok d _ hd);exact ⟨z,hs,xs,KT.keeps r λb ys e=>by rw [Zai (λz=>by rw [z,hd] at e;cases e)];exact e,rest⟩
section
variable {X:Cx}{tg:Expr}
def Zr0 (tl:TE):TI:=λσ H R=>tl σ H λx H1=>∃ d kvs,x=.ref d/\((H1 d=some (.dT kvs)/\∀ o,R (Itd o d kvs) (upd H1 d (.frz o (.dT kvs))))\/∃ o,H1 d=some (.frz o (.dT kvs))/\R (Itd o d kvs) H1)
theorem Zes {l:Expr}{tl:TE} (hl:PE X l tl):PI X tg l (Zr0 tl):=by
 intro pins s σ H R I h;refine thn (hl pins s σ H _ I h) λv s1 ⟨x,H1,I1,r1,q1⟩=>?_;obtain ⟨d,kvs,e,q⟩:=q1;subst e;cases r1;have fin:∀ (o:Obj) (H2:Hp),Inv X pins σ H2 s1->H2 d=some (.frz o (.dT kvs))->R (Itd o d kvs) H2->wpAny (model X.prog X.w) X.A (pyIter (.ref d)) (PIE X pins σ tg R) X.xe s1:=λo H2 I2 hd hR=>by
  obtain ⟨g,ok⟩:=(show ObjOk X.prog X.w H2 s1.heap d (.frz o (.dT kvs)) from I2.hok d _ hd);obtain ⟨hs,xs,o',es,ep,r,g',x',y',he⟩:=ZhI ok;have eo:o=o':=Yae (g.symm.trans g');subst eo;refine ZfL hs g x' y' ?_;refine ⟨s1.heap.objs.size,[s1.heap.objs.size],_,_,H2,rfl,I2.kept (t':=s1.toks) λb o e=>Yad _ e,ZiQ y' d _ kvs,⟨_,Yao _ rfl,rfl,rfl⟩,λb hb=>?_,hR⟩;have e:b=s1.heap.objs.size:=by simpa using hb
  subst e;exact I2.fpOk (Yag _) (I2.hok.fresh (Yag _))
 rcases q with ⟨hd,hR⟩ | ⟨o,hd,hR⟩
 ·obtain ⟨hs,xs,o,es,ep,r,g,x',y',he⟩:=ZhI (show ObjOk X.prog X.w H1 s1.heap d (.dT kvs) from I1.hok d _ hd);exact fin o _ (I1.freeze hd g) Zad (hR o)
 ·exact fin o H1 I1 hd hR
end
end L2
namespace L2
open PySem PySem.Spec PyProof.Rows
section
variable {M:Model}{A:Around}{E:Value->Shared->Prop}{s:Shared}
theorem ZoE {B:Heap}{l:List Env}{e L:Addr}{cls a0 fl:Value}{fr:Option Addr}{Q:Unit->Shared->Prop} (st:B.StaysIn s.heap) (hl:s.heap.FunFrames B l) (tr:s.heap.TracedAtW B e cls a0 fl) (hfr:fr=some L)
  (k:∀ h',B.StaysIn h'->h'.FunFrames B l->h'.TracedAtW B e cls a0 (rawInt L)->s.heap.UpToSlots h'->Q () { s with heap:=h' }):wpAny M A (setFlight (.ref e) fr) Q E s:=by
 subst hfr;obtain ⟨oe,vs,T,oT,ts,q1,q2,q3,q4,q5,q6,q7,q8,q9⟩:=tr;have big:3<ts.size:=(Array.getElem?_eq_some_iff.mp q9).1;have away:∀ b,b≠T->(s.heap.update T (Obj.mapFields (·.setIfInBounds 3 (rawInt L)))).get? b=s.heap.get? b:=λb hb=>Heap.get?_update_other _ _ (Ne.symm hb);have nT:∀ b o,s.heap.get? b=some o->(∀ vs,o.data≠.fields vs)->b≠T:=λb o hb hn z=>by
  rw [z,q7] at hb;cases hb;exact hn _ q8
 unfold setFlight;refine Ya3 (wpAny_field q1 q3 q4 ?_);rw [Ya7 (show (Value.ref T != Value.none)=true by simp)];show wpAny M A (setField (.ref T) 3 (rawInt L)) Q E s;refine wpAny_setField q7 q8 big (k _ (λb o hb=>?_) (hl.of_keeps λb o hb hn=>⟨o,(away b (nT b o hb hn)).trans hb,rfl⟩) ?_ λb o hb hn=>?_)
 ·exact (away b λz=>by rw [z,q5] at hb;cases hb).trans (st b o hb)
 ·exact ⟨oe,vs,T,_,_,(away e (Ne.symm q6)).trans q1,q2,q3,q4,q5,q6,Heap.get?_update_self _ q7 (Obj.isFreed_of_fields (Obj.data_mapFields q8 _)),Obj.data_mapFields q8 _,by simp [big]⟩
 ·exact ⟨o.slots,(away b (nT b o hb hn)).trans hb⟩
def ZrJ (M:Model) (A:Around) (E:Value->Shared->Prop) (use:Option (Value->Sem Unit)) (Q:Value->Shared->Prop) (acc:Value) (cenv:Env) (r:Result) (s':Shared):Prop :=
 match r with
 | .ok f=>compPost M A E use Q acc cenv.locals (.ok f) s'
 | .error x=>∃ m,s'.heap.Ns cenv.locals m/\∀ h',Heap.SameBut cenv.locals s'.heap h'->∀ env':Env,env'.frame=cenv.frame->wpAny M A (passOn "comprehension.variables-let-go" x env':Sem Value) (λ_ _=>False) E { s' with heap:=h' }
theorem Zre {env:Env}{e:Expr}{scope:Scope}{pos:Pos}{newAcc first:Sem Value}{g:Comprehension}{gs:List Comprehension}{cl:List (Str × Addr)}{use:Option (Value->Sem Unit)}{Q:Value->Shared->Prop}
  (hcl:clausesOf e=g :: gs) (hs:∀ x,foldedSetIterable g.iter env x=pure x) (hclos:closureFor scope env=pure cl) (hkind:scope.kind=.function) (hnames:∀ x∈scope.names,x.2=.local->scope.names.lookup x.1=some .local)
  (h:wpAny M A first (λx s1=>wpAny M A (pyIter x) (λit s2=>wpAny M A newAcc (λacc s3=>wpAny M A (newFunctionEnv scope env.globals cl [] env.qual none .none (some env)) (λcenv s4=>codeAny M A (.compStart e 0 it acc { cenv with scope:=relabel scope env }) (ZrJ M A E use Q acc cenv) s4) E s3) E s2) E s1) E s) :
  wpAny M A (comprehension e scope env pos newAcc false first use) Q E s:=by
 unfold comprehension;rw [hclos,hcl];refine Ya3 (Ya9 h (λx s1 h1=>Ya3 (wpAny_standAt (Ya3 (wpAny_of_eq (hs x) (Ya3 (wpAny_holding (Ya9 h1 (λit s2 h2=>wpAny_standIf (Ya3 (Ya9 h2 (λacc s3 h3=>Ya3 (Ya8 (Ya3 (Ya9 h3 (λcenv s4 h4=>?_) λ_ _ z=>z)))) λ_ _ z=>z))) λ_ _ z=>z))))))) λ_ _ z=>z);dsimp only;generalize hw:(scope.names.filter λx=>(x.2 == .local || x.2 == .cell) && x.1 != (".0" : Str)).reverse=vs;have hv:∀ x∈vs,x.2=.local->Env.kindOf { cenv with scope:=relabel scope env } x.1=some .local:=λx hx hl=>lookup_relabel_local (hnames x (by rw [<- hw] at hx;exact (List.mem_filter.mp (List.mem_reverse.mp hx)).1) hl);refine wpAny_holding (Ya3 (wpAny_attempt (wpAny_holding (wpAny_run (codeAny_mono h4 λr s' hr=>?_)))));cases r with
 |ok f =>
  cases use with
  |none =>
   obtain ⟨m,hn,hr⟩:=hr;exact Ya3 (wpAny_holding (wpAny_comp_letGo (cenv:={ cenv with scope:=relabel scope env }) hkind _ s' m hv hn λh' m' _ hs'=>Ya8 (hr h' hs')))
  |some u =>
   refine Ya3 (wpAny_rule (Ya3 (wpAny_holding (Ya9 hr (λ_ s'' hr'=>?_) λ_ _ z=>z))));obtain ⟨m,hn,hr'⟩:=hr';exact Ya3 (wpAny_comp_letGo (cenv:={ cenv with scope:=relabel scope env }) hkind _ s'' m (λx hx hl=>hv x ((YaG.mp hx).elim List.mem_of_mem_drop List.mem_of_mem_take) hl) hn λh' m' _ hs'=>Ya8 (hr' h' hs'))
 |error x =>
  obtain ⟨m,hn,hr⟩:=hr;exact Ya3 (wpAny_holding (wpAny_comp_letGo (cenv:={ cenv with scope:=relabel scope env }) hkind _ s' m hv hn λh' m' _ hs'=>Ya9 (hr h' hs' _ rfl) (λ_ _ f=>f.elim) λ_ _ y=>y))
end
theorem ZkZ {prog:Program}{w:World}{A:Around}{R:Result->Shared->Prop}{s:Shared}{elt target iter:Expr}{ifs:List Expr}{scope:Scope}{pos:Pos}{it acc:Value}{env:Env}{EE:Value->Shared->Prop} (hEE:EE=notedBy (model prog w) A env λe s'=>R (.error e) s') (I:Nat->Shared->Prop)
  (turn:∀ n s,I n s->wpAny (model prog w) A (pyNext it) (λr s₁=>match r with
   |none=>R (.ok .next) s₁
   |some v=>wpAny (model prog w) A (letOwnedTupleGo target it v) (λ_ s₁'=>wpAny (model prog w) A (assign target env v) (λ_ s₂ =>
     wpAny (model prog w) A (forIn ifs true λc r=>if r=true then do let ok <- isTrue c env (eval c env);pure (ForInStep.yield ok) else pure (ForInStep.yield r)) (λok s₃ =>
      if ok=true then wpAny (model prog w) A (eval elt env) (λx s₄ =>
       wpAny (model prog w) A (call (.builtin "list.append") [acc,x]) (λ_ s₅=>∃ m,m<n/\I m s₅) EE s₄) EE s₃
      else ∃ m,m<n/\I m s₃) EE s₂) EE s₁') EE s₁) EE s)
  (n:Nat) (h:I n s) :
  codeAny (model prog w) A (.compLoop (.ListComp elt [⟨target,iter,ifs,0⟩] scope pos) 0 it acc env) R s:=by
 subst hEE;refine codeAny_loop rfl I (λn s hI=>?_) n h;show wpAny _ A ((compTurn (.ListComp elt [⟨target,iter,ifs,0⟩] scope pos) 0 it acc env).onRaise (λy=>do noteFrame y env;theTreesLotGoes y)) _ _ s;refine wpAny_noted ?_;rw [compTurn_list];refine Ya3 (wpAny_standAt (Ya3 (Ya9 (turn n s hI) (λr s₁ h₁=>?_) λ_ _ z=>z)));cases r with
 |none=>exact Ya8 h₁
 |some v =>
  refine Ya3 (Ya9 h₁ (λ_ s₁' h₁'=>?_) λ_ _ z=>z);refine Ya3 (Ya9 h₁' (λ_ s₂ h₂=>Ya3 (Ya9 h₂ (λok s₃ h₃=>?_) λ_ _ z=>z)) λ_ _ z=>z);cases ok with
  |false=>exact Ya8 ⟨rfl,h₃⟩
  |true =>
   exact Ya3 (Ya3 (Ya9 h₃ (λx s₄ h₄=>Ya3 (Ya9 h₄ (λ_ s₅ h₅=>Ya8 (Ya8 ⟨rfl,h₅⟩)) λ_ _ z=>z)) λ_ _ z=>z))
def Zrh (X:Cx) (R:St->Value->Hp->Prop):Prop:=∀ (pins:List (Addr × Obj)) (σ:St) (H':Hp) (s':Shared) (e:Addr) (cls:Value),Inv X pins σ H' s'->Trc s'.heap H' X.s₀.heap e cls (rawInt X.env.locals)->R σ cls H' ->
 ∀ (what:String) (cenv:Env),cenv.frame=X.env.frame->wpAny (model X.prog X.w) X.A (passOn what (.ref e) cenv:Sem Value) (λ_ _=>False) X.xe s'
theorem Zkp {P:Program}{w:World}{K:Yab}{mg:Str->Option Value}{base:Heap}{N:List Str}{qual:Str}{scope:Scope}{f:Addr}{cd:Value}{A:Around}{outer:List Env}{s:Shared}{H:Hp}{E:XK} :
  Zrh (cxOf (CXW P w) P w K mg base N qual scope f cd A outer s H E) λ_ cls H'=>E cls none H':=by
 intro pins σ H1 s1 e cls I tr r what cenv hcf;have sub:∀ b∈frs outer,b∈frs (envOfC qual scope s.heap.objs.size f cd :: outer):=λb hb=>by
  unfold frs;rw [List.filterMap_cons];exact Yas _ hb
 have F0:Fli P w (envOfC qual scope s.heap.objs.size f cd :: outer) H s e cls (rawInt s.heap.objs.size) H1 s1:=⟨I.os,I.bare,I.base.mono sub (λ_ z=>z),I.hok,tr⟩;obtain ⟨B,a0,⟨b1,b2,b3,b4⟩,st⟩:=ZhD F0 I.stack I.stkFree;obtain ⟨_,oe,vs,T,_,_,h1,_,h3,h4,_⟩:=id tr;have go:wpAny (model P w) (A.deeper (envOfC qual scope s.heap.objs.size f cd)) (do setFlight (.ref e) cenv.frame;throw (.ref e):Sem Value) (λ_ _=>False) (cxOf (CXW P w) P w K mg base N qual scope f cd A outer s H E).xe s1:=by
  refine Ya3 (ZoE (L:=s.heap.objs.size) b1 b3 b4 (hcf.trans rfl) λh' k1 k2 k3 u=>wpAny_throw ?_);show wpAny _ _ (leaving (envOfC qual scope s.heap.objs.size f cd) (.ref e)) _ _ _;unfold leaving;refine Ya3 (wpAny_noteFrame_againW (L:=s.heap.objs.size) rfl k3 ?_);refine wpAny_landsW (L:=s.heap.objs.size) ⟨k1,b2,k2,k3⟩ λh'' g u2=>?_;have F2:=st h'' .none g.1 g.2.2.2 (u.trans u2);refine ⟨e,cls,H1,rfl,⟨F2.os,F2.bare,⟨λb o q n hb hx=>?_,λb o q n hb hx=>?_,F2.un.free,F2.un.there,F2.un.tups,F2.un.frzs,F2.un.tbls⟩,F2.hok,F2.tr⟩,r⟩
  ·refine F2.un.keep b o q n (λz=>?_) hx;unfold frs at z hb;rw [List.filterMap_cons] at z;rcases YaF.mp z with z | z
   ·exact absurd (Yal q) (by rw [z];exact Ybq _)
   ·exact hb z
  ·exact F2.un.any q n hx
 unfold PySem.passOn;refine Ya3 (wpAny_field h1 h3 h4 ?_);rw [Ya6 (show ¬ ((Value.ref T == Value.none)=true) by simp)]
 first
  |exact go
  |exact Ya3 (Ya8 go)
def Zpq (wi:TI) (g:TG) (tc:TT) (te:(St->Value->Hp->Prop)->TE) (R:St->Value->Hp->Prop) (ix:List (Option Nat)):TE:=λσ H Q=>wi σ H λJ H1=>ZaR J g tc (te λ_ cls H'=>R σ cls H') (ix.map (pick σ)) H1 Q
theorem ZgJ {X:Cx}{tg iter elt:Expr}{ifs:List Expr}{scope:Scope}{pos:Pos}{g:TG}{tc:TT}{te:(St->Value->Hp->Prop)->TE}{R:Value->Hp->Prop}{N':List Str}{ix:List (Option Nat)}{pins:List (Addr × Obj)}{σ:St}{s2:Shared}{itv:Value}{Q:VK}{cl:List (Str × Addr)}
  {RR:Value->Env->Result->Shared->Prop} (hst:X.stack=X.env :: X.outer) (hfr:X.env.frame=some X.env.locals) (hex0:X.ex=[]) (hc:X.calm=true) (K:CompOk X.env.scope scope X.N N' ix) (e2:∀ x c,cl.lookup x=some c->X.env.cells.lookup x=some c) (e3:∀ x,(x,NameKind.free)∈scope.names->∃ c,cl.lookup x=some c)
  (hg:∀ cl C s2 H2 ex,PG (X.comp N' scope cl C s2 H2 ex) tg g) (ht:∀ cl C s2 H2 ex,PIfs (X.comp N' scope cl C s2 H2 ex) ifs tc)
  (he:∀ cl C s2 H2 ex W R,Zd5 ((X.comp N' scope cl C s2 H2 ex).wish W) R->PE ((X.comp N' scope cl C s2 H2 ex).wish W) elt (te R))
  (h2:PIE X pins σ tg (λJ H1=>ZaR J g tc (te λ_ cls H'=>R cls H') (ix.map (pick σ)) H1 Q) itv s2)
  (hRR:∀ H2 fp C D cenv σ3 H3 s4,cenv.locals=C->Inv X pins σ H2 s2->(∀ b∈fp,FpOk X pins H2 b)->s2.heap.objs.size<=C->Inv (X.comp N' scope cl C s2 H2 fp) [] σ3 H3 s4->Q (.ref D) H3->RR (.ref D) cenv (.ok .next) s4)
  (hRX:∀ H2 fp C D cenv σ3 H3 s4 e cls,cenv.locals=C->cenv.frame=X.env.frame->Inv X pins σ H2 s2->(∀ b∈fp,FpOk X pins H2 b)->s2.heap.objs.size<=C->Inv (X.comp N' scope cl C s2 H2 fp) [] σ3 H3 s4->Trc s4.heap H3 X.s₀.heap e cls (rawInt X.env.locals)->R cls H3->RR (.ref D) cenv (.error (.ref e)) s4) :
  wpAny (model X.prog X.w) X.A (newList []) (λacc s₃=>wpAny (model X.prog X.w) X.A (newFunctionEnv scope X.env.globals cl [] X.env.qual none .none (some X.env)) (λcenv s₄ =>
   codeAny (model X.prog X.w) X.A (.compStart (.ListComp elt [⟨tg,iter,ifs,0⟩] scope pos) 0 itv acc { cenv with scope:=relabel scope X.env }) (RR acc cenv) s₄) X.xe s₃) X.xe s2:=by
 obtain ⟨it,fp,tn,J,H2,rfl,I2,T,st2,f2,q⟩:=h2;refine wpAny_newObj_type (wpAny_newFunctionEnv K.nocell (by intro y hy;simp at hy) (λh1 hns1 hsb1=>?_) K.kind);dsimp only at hns1 hsb1 ⊢;generalize hP:s2.heap.push { cls:=.type "list",dict:=none,data:=.seq ([]:List Value).toArray }=P2 at hns1 hsb1 ⊢;have hCs:P2.objs.size=s2.heap.objs.size+1:=by rw [<- hP,Heap.size_push]
 have hC:s2.heap.objs.size<=P2.objs.size:=by omega
 have hDC:s2.heap.objs.size≠P2.objs.size:=by omega
 have old:∀ b o,s2.heap.get? b=some o->h1.get? b=some o:=λb o e =>
  hsb1.extBut b o (Yap (Yan (Yal e) hC)) (Yad _ (hP ▸ Yad _ e))
 have hacc:h1.get? s2.heap.objs.size=some { cls:=.type "list",dict:=none,data:=.seq ([]:List Value).toArray } :=
  hsb1.extBut _ _ hDC (Yad _ (hP ▸ Yao _ rfl))
 have hD:H2 s2.heap.objs.size=none:=I2.hok.fresh (Yag _);have hCn:H2 P2.objs.size=none:=I2.hok.fresh hC;obtain ⟨W,⟨m0,w0⟩,turn⟩:=q s2.heap.objs.size hD;have hex:∀ b∈fp,b<s2.heap.objs.size:=λb hb=>by
  obtain ⟨o,e,_⟩:=T.obj 0 _ st2 b hb;exact Yal e
 have YOk:=ZkX (cl:=cl) (C:=P2.objs.size) (ex:=fp) I2 K e2 e3 hC f2 hex;have hok1:HOk X.prog X.w (upd H2 s2.heap.objs.size (.lst [])) h1:=I2.hok.laid old (Yag _) ⟨YaH _,[],0,.nil,hacc⟩;have IY:Inv (X.comp N' scope cl P2.objs.size s2 H2 fp) [] (ix.map (pick σ)) (upd H2 s2.heap.objs.size (.lst [])) { s2 with heap:=h1,toks:=s2.toks+([]:List (Str × Value)).length }:=by
  refine ⟨YOk,rfl,I2.bare,?_,⟨_,hns1,λi x v e1 e4 e5=>?_⟩,λx c e=>?_,?_,λx c e=>?_,λp hp=>absurd (show p∈([]:List (Addr × Obj)) from hp) (by simp),hok1,?_⟩
  ·exact (Un.laid old (Yag _) hD).mono (λ_ z=>z) (λ_ z=>z)
  ·rw [Yaf] at e4;cases e6:ix[i]? with
   |none=>rw [e6] at e4;cases e4
   |some o =>
    rw [e6] at e4;cases o with
    |none=>cases (Yae e4)
    |some j =>
     have e7:σ[j]? = some (some v):=Zfs (Yae e4);obtain ⟨n1,n2⟩:=K.src i j x e1 e6;have hm:=PySem.mem_of_lookup n2;have kx:=K.fr _ hm rfl;obtain ⟨m,hn,hl⟩:=I2.loc;obtain ⟨u,r,l⟩:=hl j x v n1 e7 (kx.elim (λz=>.inr (.inl z)) λz=>.inr (.inr z));refine ⟨u,r,.inr ⟨?_,?_⟩⟩
     ·exact Zb6 n2
     ·rcases l with ⟨k1,_⟩ | ⟨_,c,hc1,hc2⟩
      ·exfalso;have k1':X.env.scope.names.lookup x=some .local:=k1;rcases kx with z | z
       ·rw [k1'] at z;cases z
       ·rw [k1'] at z;cases z
      ·obtain ⟨c',hc'⟩:=e3 x hm;have e8:=e2 x c' hc';rw [hc1] at e8;cases e8;obtain ⟨o,ho,hd⟩:=hc2;exact ⟨c,hc',o,old _ _ ho,hd⟩
  ·obtain ⟨v,o,ho,hd⟩:=I2.cell x c (e2 x c e);exact ⟨v,o,old _ _ ho,hd⟩
  ·show upd H2 s2.heap.objs.size (.lst []) P2.objs.size=none;rw [Zai (Ne.symm hDC)];exact hCn
  ·obtain ⟨v,z⟩:=I2.cell x c (e2 x c e);rw [Zai (Yap z.lt)];exact I2.freeC x c (e2 x c e)
  ·rw [Yaa];exact K.len
 have hnf:∀ b∈fp,b≠P2.objs.size:=λb hb=>Yap (Yan (hex b hb) hC);have stat:∀ {H':Hp},(∀ b∈fp,H' b=none)->∀ b∈fp,FpOk (X.comp N' scope cl P2.objs.size s2 H2 fp) [] H' b:=λhn b hb =>
  ⟨hn b hb,hnf b hb,YOk.exfs b hb,.inl hb,λx c e=>(f2 b hb).2.2.2.2.1 x c (e2 x c e),λp hp=>absurd (show p∈([]:List (Addr × Obj)) from hp) (by simp)⟩
 generalize hcv:({ scope:=scope,locals:=P2.objs.size,globals:=X.env.globals,cells:=cl,qual:=X.env.qual,func:=none,code:=X.env.code,frame:=X.env.frame,builtins:=X.env.builtins }:Env)=cv;have hcl1:cv.locals=P2.objs.size:=by rw [<- hcv]
 have hcl2:cv.frame=X.env.frame:=by rw [<- hcv]
 have loop:∀ s₃:Shared,s₃ = { s2 with heap:=h1,toks:=s2.toks+([]:List (Str × Value)).length } ->
   codeAny (model X.prog X.w) X.A (.compLoop (.ListComp elt [⟨tg,iter,ifs,0⟩] scope pos) 0 (.ref it) (.ref s2.heap.objs.size) (compEnvC scope cl P2.objs.size X.env))
    (RR (.ref s2.heap.objs.size) cv) s₃:=by
  rintro s₃ rfl;obtain ⟨EE,hEE⟩:∃ EE,EE=notedBy (model X.prog X.w) X.A (compEnvC scope cl P2.objs.size X.env) λe s'=>RR (.ref s2.heap.objs.size) cv (.error e) s':=⟨_,rfl⟩;have fly:Zd5 ((X.comp N' scope cl P2.objs.size s2 H2 fp).wish EE) λ_ cls H'=>R cls H':=by
   intro pins' σ' H1' s1' e cls H' s' I0 F r;have I1:Inv (X.comp N' scope cl P2.objs.size s2 H2 fp) pins' σ' H1' s1':=I0.unwish;have F:Fli X.prog X.w X.stack H1' s1' e cls .none H' s':=F;have J:Inv (X.comp N' scope cl P2.objs.size s2 H2 fp) pins' σ' H' s':=I1.fly F;obtain ⟨B,a0,fl,st⟩:=ZhD F J.stack J.stkFree;have frm:X.A.frames=some (X.env :: X.outer):=by rw [<- hst];exact I2.ok.frames
   rw [hst] at fl;subst hEE;show wpAny _ X.A (noteFrame (.ref e) X.env) _ _ s';refine wpAny_looks_onW frm hfr fl λh4 g4 u4=>?_;have F4:=st h4 (rawInt X.env.locals) g4.1 g4.2.2.2 u4;have J4:Inv (X.comp N' scope cl P2.objs.size s2 H2 fp) pins' σ' H' { s' with heap:=h4 }:=I1.fly F4;refine hRX H2 fp P2.objs.size s2.heap.objs.size cv σ' H' { s' with heap:=h4 } e cls hcl1 hcl2 I2 f2 hC (J4.pins_of λp hp=>nomatch hp) ?_ r;have new0:∀ b,s1'.heap.get? b=none->X.s₀.heap.get? b=none:=λb hb=>by
    cases q:X.s₀.heap.get? b with
    |none=>rfl
    |some o =>
     by_cases hbf:b∈fp
     ·rcases (f2 b hbf).2.2.2.1 with z | z
      ·rw [hex0] at z;cases z
      ·exact absurd (Yan (Yal q) z) (Ybq _)
     ·obtain ⟨o1,q1⟩:=I2.base.there b o q (by rw [hex0];simp);obtain ⟨o2,q2⟩:=I1.base.there b o1 q1 hbf;rw [hb] at q2;cases q2
   obtain ⟨a0',oe,vs,T',oT,ts,k1,k2,k3,k4,k5,k6,k7,k8,k9,k11,k12⟩:=F4.tr;exact ⟨a0',oe,vs,T',oT,ts,k1,k2,k3,k4,k5,k6,k7,k8,k9,new0 _ k11,new0 _ k12⟩
  refine ZkZ hEE (λn s'=>∃ i ys σ' H',Inv (X.comp N' scope cl P2.objs.size s2 H2 fp) [] σ' H' s'/\tn i s'.heap/\(∀ b∈fp,H' b=none)/\W i n ys σ' H') ?_ m0
   ⟨0,[],_,_,IY,T.keep _ _ _ st2 (λb hb o e=>old b o e),λb hb=>?_,w0⟩
  ·rintro n s3 ⟨i,ys,σ3,H3,I3,st3,fr3,w3⟩;obtain ⟨hDl,tt⟩:=turn i n ys σ3 H3 w3;rcases tt with ⟨stop,qn⟩ | ⟨go,step⟩
   ·refine Ya9 (T.done (X.comp N' scope cl P2.objs.size s2 H2 fp) rfl rfl rfl hc i [] s3 σ3 H3 (λ_ _=>False) I3 (stat fr3) st3 stop) (λr s4 ⟨hr,I4⟩=>?_) λ_ _ z=>z.elim;subst hr;exact hRR H2 fp P2.objs.size s2.heap.objs.size cv σ3 H3 s4 hcl1 I2 f2 hC I4 qn
   ·refine Ya9 (T.item (X.comp N' scope cl P2.objs.size s2 H2 fp) rfl rfl rfl hc i [] s3 σ3 H3 (λ_ _=>False) I3 (stat fr3) st3 go) (λr s4 ⟨u,hr,h4⟩=>?_) λ_ _ z=>z.elim;subst hr;refine Ya9 h4 (λ_ s5 ⟨x,H5,I5,r5,y5,st5,fr5⟩=>?_) λ_ _ z=>z.elim;have I5':=I5.pinned (stat fr5) (T.obj _ _ st5);refine Ya9 (hg cl P2.objs.size s2 H2 fp _ s5 σ3 H5 x u _ I5' r5 (step x H5 y5)) (λ_ s6 ⟨σ6,H6,I6,q6⟩=>?_) λ_ _ z=>False.elim z;refine Ya9 (ht cl P2.objs.size s2 H2 fp _ s6 σ6 H6 _ I6 q6) (λb s7 ⟨H7,I7,q7⟩=>?_) λ_ _ z=>False.elim z;have again:∀ {s8:Shared}{H8:Hp}{ys':List V}{m':Nat},Inv (X.comp N' scope cl P2.objs.size s2 H2 fp) ([] ++ Zec fp s5.heap) σ6 H8 s8->m'<n->W (i+1) m' ys' σ6 H8 ->
      ∃ m,m<n/\∃ i ys σ' H',Inv (X.comp N' scope cl P2.objs.size s2 H2 fp) [] σ' H' s8/\tn i s8.heap/\(∀ b∈fp,H' b=none)/\W i m ys σ' H':=λ{s8 H8 ys' m'} I8 hm w8=>by
     refine ⟨m',hm,i+1,ys',σ6,H8,I8.unpinned,T.keep _ _ _ st5 λb hb o e=>(I8.pin (b,o) (Yaz _ (Yaz _ (Zbq hb e)))).1,λb hb=>?_,w8⟩;obtain ⟨o,e,d⟩:=T.obj _ _ st5 b hb;exact (I8.pin (b,o) (Yaz _ (Yaz _ (Zbq hb e)))).2.1
    cases b with
    |false =>
     obtain ⟨m',hm,w7⟩:∃ m',m'<n/\W (i+1) m' ys σ6 H7:=q7;exact again I7 hm w7
    |true =>
     have q7':te (λ_ cls H'=>R cls H') σ6 H7 _:=q7;show wpAny _ _ (eval elt (compEnvC scope cl P2.objs.size X.env)) _ _ _;refine Ya9 (he cl P2.objs.size s2 H2 fp EE _ fly _ s7 σ6 H7 _ (I7.wish EE) q7') (λyv s8 ⟨y,H8,I8,r8,hD8,hz8,m',hm,w8⟩=>?_) λ_ _ z=>z;refine Ya9 (Zbk (X:=X.comp N' scope cl P2.objs.size s2 H2 fp) _ s8 σ6 H8 (.ref s2.heap.objs.size) [y] (.ref s2.heap.objs.size) [yv] (λ_ H9=>H9=upd H8 s2.heap.objs.size (.lst (ys ++ [y]))) I8.unwish rfl (.cons r8 .nil)
      ⟨_,ys,y,rfl,rfl,hD8,hz8,rfl⟩) (λ_ s9 ⟨_,H9,I9,_,e9⟩=>?_) λ_ _ z=>False.elim z
     subst e9;exact again I9 hm w8
  ·show upd H2 s2.heap.objs.size (.lst []) b=none;rw [Zai (Yap (hex b hb))];exact (f2 b hb).1
 have hcc:codeAny (model X.prog X.w) X.A (.compStart (.ListComp elt [⟨tg,iter,ifs,0⟩] scope pos) 0 (.ref it) (.ref s2.heap.objs.size) (compEnvC scope cl P2.objs.size X.env)) (RR (.ref s2.heap.objs.size) cv) { s2 with heap:=h1,toks:=s2.toks+([]:List (Str × Value)).length } :=
  codeAny_compStart_list (loop _ rfl) (T.self X.A 0 _ _ _ (T.keep _ _ _ st2 (λb hb o e=>old b o e)) (loop _ rfl))
 subst hcv;exact hcc
theorem ZlQ {X:Cx}{tg iter elt:Expr}{ifs:List Expr}{scope:Scope}{pos spos py:Pos}{y:Str}{wi:TI}{g:TG}{tc:TT}{te:(St->Value->Hp->Prop)->TE}{R:St->Value->Hp->Prop} (N':List Str) (ix:List (Option Nat)) (osc:Scope) (N:List Str) {i:Nat} (nd:X.N.Nodup) (hiy:X.N[i]? = some y) (hxy:Loc X.env.scope y)
  (hst:X.stack=X.env :: X.outer) (hfr:X.env.frame=some X.env.locals) (hex0:X.ex=[]) (hR:Zrh X R)
  (hc:X.calm=true) (hi:PI X tg iter wi) (ok:ZfW osc scope N N' ix=true)
  (hg:∀ cl C s2 H2 ex,PG (X.comp N' scope cl C s2 H2 ex) tg g) (ht:∀ cl C s2 H2 ex,PIfs (X.comp N' scope cl C s2 H2 ex) ifs tc)
  (he:∀ cl C s2 H2 ex W R,Zd5 ((X.comp N' scope cl C s2 H2 ex).wish W) R->PE ((X.comp N' scope cl C s2 H2 ex).wish W) elt (te R))
  (hsc:X.env.scope=osc:=by rfl) (hN:X.N=N:=by rfl) (hs:∀ x,foldedSetIterable iter X.env x=pure x:=by intro _;rfl)
  (hsw:swapsWith (.ListComp elt [⟨tg,iter,ifs,0⟩] scope pos) (some (.Name y py)) spos.line X.env=pure true:=by rfl) (hf:X.fn y=true\/X.env.scope.names.lookup y=some .local:=by first | exact .inl rfl | exact .inr rfl | assumption) :
  PS X (.Assign [.Name y py] (.ListComp elt [⟨tg,iter,ifs,0⟩] scope pos) spos) (tAsg (Zpq wi g tc te R ix) (ZaT i)):=by
 intro pins s σ H D I h;have K0:=ZdV ok;have K:CompOk X.env.scope scope X.N N' ix:=by rw [hsc,hN];exact K0
 obtain ⟨cl,hclos,e2,e3⟩:=Zc3 (scope:=scope) (env:=X.env) (λy hy hf=>I.ok.has y.1 (K.fr y hy hf));rw [exec_Assign_Name_used _ _ _ _ hsw];refine Ya3 (wpAny_standAt (Ya3 ?_));show wpAny _ X.A (do let _ <- comprehension (.ListComp elt [⟨tg,iter,ifs,0⟩] scope pos) scope X.env _ (newList []) false (eval iter X.env) (some (assign (.Name y py) X.env))) _ _ s;refine Ya3 (Ya9 (Zre (use:=some (assign (.Name y py) X.env)) (Q:=λ_ s'=>SP X pins D .next s') rfl hs hclos K.kind K.names
  (Ya9 (hi pins s σ H _ I h) (λv s1 h1=>thn h1 λitv s2 h2=>?_) λ_ _ e=>e)) (λ_ s' hq=>Ya8 (Ya8 hq)) λ_ _ e=>e)
 refine ZgJ hst hfr hex0 hc K e2 e3 hg ht he h2 (λH2 fp C L cenv σ3 H3 s4 hcC I2 f2 hC I4 qn=>?_) λH2 fp C L cenv σ3 H3 s4 e cls hcC hcF I2 f2 hC I4 tr r=>?_
 ·subst hcC;have I5:Inv X pins σ H3 s4:=Zdn I2 f2 hC I4 (Heap.SameBut.refl ..);obtain ⟨m,hn,_⟩:=I4.loc;have hn:s4.heap.Ns cenv.locals m:=hn;have fC:FpOk X pins H3 cenv.locals:=I2.fpOk hC I4.free;show wpAny _ X.A (assign (.Name y py) X.env (.ref L)) _ _ s4;refine wpAny_assign_Name (Zds I5 nd hiy hxy (v:=.ref L) rfl (λs5 I6 hch=>?_) hf);obtain ⟨a,sb,ha⟩:=hch;have nCa:cenv.locals≠a:=by
   rcases ha with z | ha
   ·rw [z];exact fC.2.1
   ·exact λz=>fC.2.2.2.2.1 y a ha z.symm
  refine ⟨m,hn.sameBut sb nCa,λh' sb'=>⟨_,H3,?_,qn⟩⟩;obtain ⟨f0,f1,f2',f3,f4,f5⟩:=fC;exact I6.turned (t':=s5.toks) (λb o hb e=>(sb'.2 b hb).trans e) f0 f1 f3 f4 f5
 ·subst hcC;obtain ⟨m,hn,_⟩:=I4.loc;have hn:s4.heap.Ns cenv.locals m:=hn;refine ⟨m,hn,λh' sb env' hf'=>hR pins σ H3 { s4 with heap:=h' } e cls (Zdn I2 f2 hC I4 sb) ?_ r _ env' (hf'.trans hcF)⟩;obtain ⟨oC,es,ep,hoC,hdC,_⟩:=hn;obtain ⟨a0,oe,vs,T,oT,ts,k1,k2,k3,k4,k5,k6,k7,k8,k9,k11,k12⟩:=tr;have ne:∀ b o vs,s4.heap.get? b=some o->o.data=.fields vs->b≠cenv.locals:=λb o vs h1 h2 z=>by
   rw [z,hoC] at h1;cases h1;rw [hdC] at h2;cases h2
  exact ⟨a0,oe,vs,T,oT,ts,(sb.2 e (ne e oe vs k1 k3)).trans k1,k2,k3,k4,k5,(sb.2 T (ne T oT ts k6 k7)).trans k6,k7,k8,k9,k11,k12⟩
end L2
namespace L2
open PySem PySem.Spec PyProof.Rows
section
variable {X:Cx}{a b o:Expr}{ta tb to:TE}{pos:Pos}
def PEg (X:Cx) (e:Expr) (t:TE):Prop :=
 ∀ (pins:List (Addr × Obj)) (s:Shared) (σ:St) (H:Hp) (Q:VK),Inv X pins σ H s->t σ H Q->wpAny (model X.prog X.w) X.A (eval e X.env) (λu s'=>1<=s'.toks/\EP X pins σ Q u s') X.xe s
def Zrl (y z:Str) (to:TE):TE:=λσ H Q=>to σ H λv H1=>∃ x,v=.str x/\x.length<=1048576/\Q (.str (Txt.replace x y z)) H1
end
end L2
namespace L2
open PySem PySem.Spec PyProof.Rows Builtin Builtin.Str
section
variable {X:Cx}
theorem Zim:MtR X "str.lstrip" (λx vs H Q=>∃ (z y:Str),x=.str z/\vs=[.str y]/\z.length<=sizeLine/\Q (.str (Txt.lstripChars z y)) H):=by
 intro pins s σ H x vs v us Q I rx rv h;obtain ⟨z,y,rfl,rfl,hz,q⟩:=h;obtain ⟨t,rfl⟩:=rx;obtain ⟨u,rfl,ru⟩:=rv.one;obtain ⟨tu,rfl⟩:=ru;exact SC.lstripChars (λt' k=>⟨.str _,H,I.tok _,⟨_,rfl⟩,q⟩) hz
theorem Zj7:MtR X "str.split" (λx vs H Q=>∃ (z y:Str) (k:Int),x=.str z/\vs=[.str y,.int k]/\(y.length == 0)=false/\z.length<=1000000/\0<=k/\k<=1000/\(Txt.splitMax z y k).length<=100000/\∀ p,H p=none->Q (.ref p) (upd H p (.lst ((Txt.splitMax z y k).map V.str)))):=by
 intro pins s σ H x vs v us Q I rx rv h;obtain ⟨z,y,k,rfl,rfl,hy,hz,k0,k1,hl,q⟩:=h;obtain ⟨t,rfl⟩:=rx;obtain ⟨u,v2,rfl,ru,rv2⟩:=rv.two;obtain ⟨tu,rfl⟩:=ru;obtain ⟨tv,rfl⟩:=rv2;have hk:(decide (k < -(2 ^ 63:Int)) || decide (k ≥ 2 ^ 63))=false:=by
  rw [Ya5 (by omega),Ya5 (by omega)];rfl
 have big:(100000:Nat)<=sizeLine:=by decide
 have fin:∀ (l:List (Str × Tok)) (tk:Nat),l.map (·.1)=Txt.splitMax z y k->EP X pins σ Q (.ref s.heap.objs.size) { s with heap:=s.heap.push { cls:=.type "list",data:=.seq (strValues l).toArray },toks:=tk }:=λl tk e=>by
  have hv:=Zdq l;rw [e] at hv;exact ⟨.ref _,_,I.lnew (t':=tk) hv (by rw [Yaa];omega),rfl,q _ I.fresh⟩
 have hsz:z.length<=sizeLine:=by rw [sizeLine_eq];omega
 cases h1:(decide (z.length<y.length) || decide (strKind z<strKind y))
 ·cases hf:(occurrences z y 0 z.length (limitOf z k)).isEmpty
  ·have e0:Txt.splitMax z y k=partsBetween z (occurrences z y 0 z.length (limitOf z k)) y.length:=(Ya6 (ne_true_of_eq_false h1)).trans (Ya6 (ne_true_of_eq_false hf));have hsz2:(partsBetween z (occurrences z y 0 z.length (limitOf z k)) y.length).length<=sizeLine:=by rw [<- e0];omega
   refine call_meets F.slot_str_split (typeIs_str _ _ _) F.entry_str_split (F.args_str_split_3 _ _ _) (meets_str_split_sep_max z y k t tu tv hk h1 hy hf hsz hsz2) ?_;show EP X pins σ Q (.ref s.heap.objs.size) { s with toks:=_,heap:=s.heap.push { cls:=.type "list",data:=.seq (strsFrom s.toks (partsBetween z (occurrences z y 0 z.length (limitOf z k)) y.length)).toArray } };rw [strsFrom_eq];exact fin _ _ ((numbered_texts _ _).trans e0.symm)
  ·exact call_meets F.slot_str_split (typeIs_str _ _ _) F.entry_str_split (F.args_str_split_3 _ _ _) (meets_str_split_max_not_found z y k t tu tv hk h1 hy hf) (fin [(z,t)] s.toks ((Ya6 (ne_true_of_eq_false h1)).trans (Ya7 hf)).symm)
 ·exact call_meets F.slot_str_split (typeIs_str _ _ _) F.entry_str_split (F.args_str_split_3 _ _ _) (meets_str_split_max_cannot_occur z y k t tu tv hk h1) (fin [(z,t)] s.toks (Ya7 h1).symm)
def tFs2 (c:Str) (ta tb:TE):TE:=λσ H Q=>ta σ H λx H1=>∃ i,x=.int i/\i.natAbs.log2<1920/\(Str.ofString (toString i)).length<=1000/\c.length<=1000/\tb σ H1 λy H2=>∃ j,y=.int j/\j.natAbs.log2<1920/\(Str.ofString (toString j)).length<=1000/\Q (.str (Str.ofString (toString i) ++ c ++ Str.ofString (toString j))) H2
theorem Zb9 (x:Str):Str.empty ++ x=x:=by
 show (⟨_ ++ _⟩:Str)=_;simp [Str.empty]
theorem ZaS (x y:Str):(x ++ y).length=x.length+y.length:=by
 show (x.cps ++ y.cps).size=_;rw [Array.size_append];rfl
theorem Zp6 {a b:Expr}{ta tb:TE}{c:Str}{j:Nat}{p1 p2 p3 pos:Pos} (ha:PE X a ta) (hb:PE X b tb):PE X (.JoinedStr [.FormattedValue a (-1) none p1,.Constant (.str c) j p2,.FormattedValue b (-1) none p3] pos) (tFs2 c ta tb):=by
 intro pins s σ H Q I h;have big:(3000:Nat)<=sizeLine:=by decide
 refine JoinedStr_many (joinParts_cons (FormattedValue_plain (thn (ha pins s σ H _ I h) λv s1 ⟨x,H1,I1,r1,i,e,hl,hz,hc,h1⟩=>?_)));subst e;obtain ⟨t,rfl⟩:=r1;refine formatField_int_small hl ⟨by rw [Zb9];omega,?_⟩;refine joinParts_cons (Calls.Constant_str ⟨by rw [Zb9,ZaS];omega,?_⟩);refine joinParts_cons (FormattedValue_plain (thn (hb pins _ σ H1 _ ((I1.tok _).tok _) h1) λv2 s2 ⟨y,H2,I2,r2,k,e2,hl2,hz2,q⟩=>?_));subst e2;obtain ⟨t2,rfl⟩:=r2;refine formatField_int_small hl2 ⟨by rw [Zb9,ZaS,ZaS];omega,?_⟩;refine joinParts_nil ?_ (by rw [Zb9,ZaS,ZaS];omega);rw [Zb9];exact ⟨.str _,H2,(I2.tok _).tok _,⟨_,rfl⟩,q⟩
def isTr:Value->Bool
 | .bool b=>b
 |_=>false
theorem Zk5:∀ {bs:List Bool}{us:List Value},Vals (bs.map V.bl) us->us=bs.map Value.bool
 | [],_,.nil=>rfl
 |b :: bs,_,.cons r t=>by
  cases r;rw [Zk5 t];rfl
theorem Zq6 {A:Around}{s:Shared} (b:Bool):SeqAt.EqAt A s (.bool b) (.bool true) (isTr (.bool b)):=by
 have:=SeqAt.EqAt.bool_bool (A:=A) (s:=s) b true
 rwa [show (b == true)=isTr (.bool b) by cases b <;> rfl] at this
theorem Zkb:MtM X "list.count" (λx vs H Q=>∃ (l:Addr) (bs:List Bool),x=.ref l/\vs=[.bl true]/\SqL X.K H l (bs.map V.bl)/\Q (.int (bs.countP id:Nat)) H):=by
 intro pins s σ H x vs v us Q I rx rv h;obtain ⟨l,bs,rfl,rfl,hq,q⟩:=h;cases rx;obtain ⟨u,rfl,ru⟩:=rv.one;cases ru;obtain ⟨its,r,pl,hz⟩:=I.list hq;have e:=Zk5 r;subst e;obtain ⟨⟨cls,dd,data,sl⟩,n,ho,hc,hdd,hd⟩:=pl;simp only at hc hd;subst hc hd;refine call_meets PySem.F.slot_list_count ⟨_,ho,rfl⟩ PySem.F.entry_list_count (PySem.F.args_list_count_2 _ _) (SeqAt.list_countAt l (bs.map Value.bool).toArray n dd sl (.bool true) isTr) ⟨ho,λy hy=>?_,?_⟩
 ·obtain ⟨b,_,rfl⟩:=Yar.mp (List.mem_toArray.mp hy);exact Zq6 b
 ·have e2:((bs.map Value.bool).toArray.toList.countP isTr)=bs.countP id:=by
   rw [show (bs.map Value.bool).toArray.toList=bs.map Value.bool by simp,List.countP_map];rfl
  rw [e2];exact ⟨.int _,H,I.tok _,⟨_,rfl⟩,q⟩
theorem Zj9:MtM X "list.index" (λx vs H Q=>∃ (l:Addr) (bs:List Bool) (j:Nat),x=.ref l/\vs=[.bl true]/\SqL X.K H l (bs.map V.bl)/\bs[j]? = some true/\(∀ m,m<j->bs[m]? = some false)/\j<=1000/\Q (.int (j:Nat)) H):=by
 intro pins s σ H x vs v us Q I rx rv h;obtain ⟨l,bs,j,rfl,rfl,hq,hj,hno,hj1,q⟩:=h;cases rx;obtain ⟨u,rfl,ru⟩:=rv.one;cases ru;obtain ⟨its,r,pl,hz⟩:=I.list hq;have e:=Zk5 r;subst e;obtain ⟨⟨cls,dd,data,sl⟩,n,ho,hc,hdd,hd⟩:=pl;simp only at hc hd;subst hc hd;obtain ⟨hj2,hj3⟩:=Yai.mp hj;refine call_meets PySem.F.slot_list_index ⟨_,ho,rfl⟩ PySem.F.entry_list_index (PySem.F.args_list_index_2 _ _) (SeqAt.list_indexAt l (bs.map Value.bool).toArray n dd sl (.bool true) isTr j (by simpa using hj2) (by omega) ?_ λm hm hmj=>?_) ⟨ho,λy hy=>?_,⟨.int _,H,I.tok _,⟨_,rfl⟩,q⟩⟩
 ·simp [hj3,isTr]
 ·obtain ⟨h1,h2⟩:=Yai.mp (hno m hmj);simp [h2,isTr]
 ·obtain ⟨b,_,rfl⟩:=Yar.mp (List.mem_toArray.mp hy);exact Zq6 b
end
end L2
namespace L2
open PySem PySem.Spec PyProof.Rows
def TopD (K:Yab) (w:World) (a:Addr) (fs:List (Str × Addr)):Prop :=
 ∃ es n,K.lookup a=some ⟨.type "dict",none,.dict es n,#[]⟩/\PySem.W.KeysLit w.params es.toList/\(a == sysModules)=false/\∀ x,findBy Value.isStrOf es x=(fs.lookup x).map Value.ref
section
variable {X:Cx}
theorem Zgl:OpR X (compareOp .NotIn) (λx y H Q=>∃ z a fs,x=.str z/\y=.ref a/\TopD X.K X.w a fs/\Q (.bl (!(fs.lookup z).isSome)) H):=by
 intro pins s σ H x y v u Q I rx ry h;obtain ⟨z,a,fs,rfl,rfl,⟨es,n,hl,hk,lo,hf⟩,q⟩:=h;obtain ⟨t,rfl⟩:=rx;cases ry;refine wpAny_notIn_of (strKind_is X.prog X.w z t) lo (PySem.W.mapOf_K (prog:=X.prog) (I.ok.mod.kin.keeps I.bk) hl hk) ?_;rw [hf,Option.isSome_map];exact ⟨.bl _,H,I.tok _,rfl,q⟩
theorem Znj:IxR X (λx y H Q=>∃ a z fs b,x=.ref a/\y=.str z/\TopD X.K X.w a fs/\fs.lookup z=some b/\Q (.ref b) H):=by
 intro value slice pins s σ H x y v u Q I rx ry h hs;obtain ⟨a,z,fs,b,rfl,rfl,⟨es,n,hl,hk,lo,hf⟩,hb,q⟩:=h;cases rx;obtain ⟨t,rfl⟩:=ry;have hm:=PySem.W.mapOf_K (prog:=X.prog) (I.ok.mod.kin.keeps I.bk) hl hk;exact tail_any hm.typeIs slot_dict_getitem.lookup (wpAny_getItem_of (strKind_is X.prog X.w z t) hm (v:=.ref b) (by rw [hf,hb];rfl) ⟨.ref b,H,I.tok _,rfl,q⟩) hs
end
end L2
namespace L2
open PySem PySem.Spec PyProof.Rows
section
variable {prog:Program}{w:World}{A:Around}{E:Value->Shared->Prop}{s:Shared}
theorem ZiU {it t:Addr}{i:Nat}{vs:Array Value}{x:Value}{Q:Value->Shared->Prop} (q:s.heap.IsTupleIter it t i) (qt:s.heap.IsTuple t vs) (qx:vs[i]? = some x)
  (fin:∀ h2,h2.IsTupleIter it t (i+1)->Heap.SameBut it s.heap h2->Q x { s with heap:=h2 }):wpAny (model prog w) A (Builtin.SmallTypes.nextOf (.ref it)) Q E s:=by
 obtain ⟨b,hb,cb,db⟩:=id q;obtain ⟨bt,hbt,_,m,dbt⟩:=qt;unfold Builtin.SmallTypes.nextOf;refine Ya3 (wpAny_callSpecial?_slot (name:=Str.ofString "__next__") q.typeIs F.slot_tuple_iterator_next (wpAny_call_entry F.slot_tuple_iterator_next q.typeIs F.entry_tuple_iterator_next ?_ (F.args_tuple_iterator_next_1 _)));show wpAny _ _ (field (.ref it) 0 >>= _) _ _ _;refine Ya3 (wpAny_field hb db (x:=.ref t) rfl ?_);show wpAny _ _ (if (Value.ref t == Value.none)=true then _ else _) _ _ _;rw [Ya6 (show ¬ ((Value.ref t == Value.none)=true) from Yaq)];show wpAny _ _ (field (.ref it) 1 >>= _) _ _ _;refine Ya3 (wpAny_field hb db (x:=.int i 0) rfl ?_);show wpAny _ _ (seqItems? (.ref t) >>= _) _ _ _;refine Ya3 (wpAny_seqItems hbt dbt ?_);simp only [Yav,qx];refine Ya3 (wpAny_setField hb db (by simp) (Ya8 ⟨x,rfl,Ya8 (fin _ ⟨_,Heap.get?_update_self _ hb (Obj.isFreed_of_fields (Obj.data_mapFields db _)),(Obj.cls_mapFields ..).trans cb,by rw [Obj.data_mapFields db];simp [rawInt]⟩ (Heap.SameBut.update ..))⟩))
theorem ZnA {it t:Addr}{i:Nat}{vs:Array Value}{Q:Value->Shared->Prop} (hh:A.handled=none) (q:s.heap.IsTupleIter it t i) (qt:s.heap.IsTuple t vs) (qx:vs[i]? = none)
  (fin:∀ h2 e,Heap.ExtBut it s.heap h2->(∃ o,h2.get? e=some o/\o.cls=.type "StopIteration")->E (.ref e) { s with heap:=h2 }):wpAny (model prog w) A (Builtin.SmallTypes.nextOf (.ref it)) Q E s:=by
 obtain ⟨b,hb,cb,db⟩:=id q;obtain ⟨bt,hbt,_,m,dbt⟩:=qt;unfold Builtin.SmallTypes.nextOf;refine Ya3 (wpAny_callSpecial?_slot (name:=Str.ofString "__next__") q.typeIs F.slot_tuple_iterator_next (wpAny_call_entry F.slot_tuple_iterator_next q.typeIs F.entry_tuple_iterator_next ?_ (F.args_tuple_iterator_next_1 _)));show wpAny _ _ (field (.ref it) 0 >>= _) _ _ _;refine Ya3 (wpAny_field hb db (x:=.ref t) rfl ?_);show wpAny _ _ (if (Value.ref t == Value.none)=true then _ else _) _ _ _;rw [Ya6 (show ¬ ((Value.ref t == Value.none)=true) from Yaq)];show wpAny _ _ (field (.ref it) 1 >>= _) _ _ _;refine Ya3 (wpAny_field hb db (x:=.int i 0) rfl ?_);show wpAny _ _ (seqItems? (.ref t) >>= _) _ _ _;refine Ya3 (wpAny_seqItems hbt dbt ?_);simp only [Yav,qx];refine Ya3 (wpAny_rule (Ya3 (wpAny_setField hb db (by simp) ?_)));show wpAny _ _ (newExc (.type "StopIteration") [] >>= _) _ _ _;refine Ya3 ?_;simp only [newExc,newTuple];refine Ya3 (wpAny_newObj_type ?_ (by size_fits));refine Ya3 (m:=firstArgMember _ _) (wpAny_of_eq (a:=Value.none) (by first | rfl | (simp only [firstArgMember];rfl)) ?_);refine wpAny_newObj_type ?_ (by size_fits);simp only [raiseNew];refine Ya3 (wpAny_handled ?_);first | rw [show A.in1.handled=none from hh] | rw [hh]
 refine Ya3 (Ya8 (wpAny_throw (fin _ _ (((Heap.SameBut.update ..).extBut.push _).push _) ⟨_,Yao _ rfl,rfl⟩)))
def NxI (prog:Program) (w:World) (it:Addr) (x:Value) (B C:Heap->Prop):Prop :=
 ∀ (A:Around) (s:Shared) (Q:Value->Shared->Prop) (E:Value->Shared->Prop),B s.heap->(∀ h2,C h2->Heap.SameBut it s.heap h2->Q x { s with heap:=h2 })->wpAny (model prog w) A (Builtin.SmallTypes.nextOf (.ref it)) Q E s
def NxE (prog:Program) (w:World) (it:Addr) (B:Heap->Prop):Prop :=
 ∀ (A:Around),A.handled=none->∀ (s:Shared) (Q:Value->Shared->Prop) (E:Value->Shared->Prop),B s.heap->(∀ h2 e,Heap.ExtBut it s.heap h2->(∃ o,h2.get? e=some o/\o.cls=.type "StopIteration")->E (.ref e) { s with heap:=h2 })->wpAny (model prog w) A (Builtin.SmallTypes.nextOf (.ref it)) Q E s
def Zde (z TO i:Addr) (B:Heap->Prop):Prop:=∀ h h2,B h->(∀ b o,b≠z->b≠TO->b≠i->h.get? b=some o->h2.get? b=some o)->B h2
structure Zd (z TI TO i1 i2:Addr):Prop where
 a:TI≠z
 b:TO≠z
 c:i1≠z
 d:i2≠z
 e:TI≠TO
 f:TI≠i1
 g:TI≠i2
 h:TO≠i1
 i:TO≠i2
 j:i1≠i2
theorem ZiK {z TI TO i1 i2:Addr}{x y a b:Value}{B1 B2 C1 C2:Heap->Prop}{Q:Value->Shared->Prop} (D:Zd z TI TO i1 i2)
  (n1:NxI prog w i1 x B1 C1) (n2:NxI prog w i2 y B2 C2) (k1:Zde z TO i2 B1) (k2:Zde z TO i1 B2) (k3:Zde z TO i2 C1) (k4:Zde z TO z C2)
  (hz:IsZip s.heap z TI TO .none) (hI:IsPair s.heap TI (.ref i1) (.ref i2)) (hO:IsPair s.heap TO a b) (h1:B1 s.heap) (h2:B2 s.heap)
  (fin:∀ hq,IsZip hq z TI TO (rawInt s.heap.objs.size)->IsPair hq TO x y->C1 hq->C2 hq->IsPair hq s.heap.objs.size x y->hq.objs.size=s.heap.objs.size+1 ->
   (∀ c o,c≠z->c≠TO->c≠i1->c≠i2->s.heap.get? c=some o->hq.get? c=some o)->Q (.ref s.heap.objs.size) { s with heap:=hq }) :
  wpAny (model prog w) A (Builtin.«zip.__next__» ⟨[.ref z],[]⟩) (λr s'=>∃ v,r=.done (.ret v)/\Q v s') E s:=by
 show wpAny _ _ (field (.ref z) 2 >>= _) _ _ _;refine Ya3 (wpAny_field hz rfl (x:=.bool false) rfl ?_);show wpAny _ _ (field (.ref z) 3 >>= _) _ _ _;refine Ya3 (wpAny_field hz rfl (x:=.ref TI) rfl ?_);refine Ya3 (wpAny_seqItems hI rfl ?_);show wpAny _ _ (Builtin.SmallTypes.ownedTupleIsFree (.ref z) >>= _) _ _ _;refine Ya3 ?_;unfold Builtin.SmallTypes.ownedTupleIsFree;refine Ya3 (wpAny_field hz rfl (x:=.none) rfl (Ya8 ?_));simp only [if_true];refine Ya3 (wpAny_rule ?_);refine Ya3 (wpAny_field hz rfl (x:=.ref TO) rfl ?_);refine Ya3 (wpAny_setField_rec hz (by simp) λg1 hz1 s1=>?_);have hz1:IsZip g1 z TI TO .ellipsis:=hz1;refine Ya3 ?_;simp only [List.zipIdx_cons,List.zipIdx_nil,List.forIn_cons,List.forIn_nil];refine Ya3 (Ya3 (wpAny_onRaise ?_));show wpAny _ _ (Builtin.SmallTypes.nextOf (.ref i1) >>= _) _ _ _;refine Ya3 (n1 _ _ _ _ (k1 _ _ h1 λb o c1 _ _ e=>s1.extBut _ _ c1 e) λg2 c2 s2=>Ya8 ?_);have hO2:IsPair g2 TO a b:=s2.extBut _ _ D.h (s1.extBut _ _ D.b hO);refine Ya3 (wpAny_seqItems hO2 rfl ?_);refine Ya3 (wpAny_updateSeq_pair hO2 λg3 hO3 s3=>?_);have hO3:IsPair g3 TO x b:=hO3;refine Ya3 (wpAny_letGo (Ya8 ?_));refine Ya3 (Ya3 (wpAny_onRaise ?_));show wpAny _ _ (Builtin.SmallTypes.nextOf (.ref i2) >>= _) _ _ _;refine Ya3 (n2 _ _ _ _ (k2 _ _ h2 λb o c1 c2 c3 e=>s3.extBut _ _ c2 (s2.extBut _ _ c3 (s1.extBut _ _ c1 e))) λg4 c4 s4=>Ya8 ?_);have hO4:IsPair g4 TO x b:=s4.extBut _ _ D.i hO3;refine Ya3 (wpAny_seqItems hO4 rfl ?_);refine Ya3 (wpAny_updateSeq_pair hO4 λg5 hO5 s5=>?_);have hO5:IsPair g5 TO x y:=hO5;refine Ya3 (wpAny_letGo (Ya8 (Ya8 ?_)));refine Ya3 (wpAny_seqItems hO5 rfl ?_);refine Ya3 (wpAny_newTuple ?_);have sz:g5.objs.size=s.heap.objs.size:=by rw [s5.1,s4.1,s3.1,s2.1,s1.1]
 have hz5:IsZip g5 z TI TO .ellipsis:=s5.extBut _ _ D.b.symm (s4.extBut _ _ D.d.symm (s3.extBut _ _ D.b.symm (s2.extBut _ _ D.c.symm hz1)));have ck1:C1 g5:=k3 _ _ c2 λb o _ q2 q3 e=>s5.extBut _ _ q2 (s4.extBut _ _ q3 (s3.extBut _ _ q2 e));have ck2:C2 g5:=k4 _ _ c4 λb o _ q2 _ e=>s5.extBut _ _ q2 e;have all:∀ c o,c≠z->c≠TO->c≠i1->c≠i2->s.heap.get? c=some o->g5.get? c=some o:=λc o q1 q2 q3 q4 e=>s5.extBut _ _ q2 (s4.extBut _ _ q4 (s3.extBut _ _ q2 (s2.extBut _ _ q3 (s1.extBut _ _ q1 e))));have zl:z<g5.objs.size:=Yal hz5;show wpAny _ _ (Builtin.SmallTypes.ownedTupleHandOut (.ref z) (.ref g5.objs.size) >>= _) _ _ _;refine Ya3 ?_;unfold Builtin.SmallTypes.ownedTupleHandOut;have hz6:IsZip (g5.push { cls:=.type "tuple",data:=.seq #[x,y] }) z TI TO .ellipsis:=Yad _ hz5;refine Ya3 (wpAny_setField_rec hz6 (by simp) λg7 hz7 s7=>?_);have hz7:IsZip g7 z TI TO (rawInt g5.objs.size):=hz7;refine wpAny_setField_rec hz7 (by simp) λg8 hz8 s8=>?_;have hz8:IsZip g8 z TI TO (rawInt g5.objs.size):=hz8;have up:∀ c o,c≠z->g5.get? c=some o->g8.get? c=some o:=λc o q1 e=>s8.extBut _ _ q1 (s7.extBut _ _ q1 (Yad _ e));have hT8:IsPair g8 g5.objs.size x y:=s8.extBut _ _ (Nat.ne_of_gt zl) (s7.extBut _ _ (Nat.ne_of_gt zl) (Yao _ rfl));have sz8:g8.objs.size=g5.objs.size+1:=by rw [s8.1,s7.1,Heap.size_push]
 rw [sz] at hz8 hT8 sz8;refine Ya8 ⟨_,rfl,?_⟩;show Q (.ref g5.objs.size) _;rw [sz];exact fin g8 hz8 (up _ _ D.b hO5) (k3 _ _ ck1 λb o q1 _ _ e=>up _ _ q1 e) (k4 _ _ ck2 λb o q1 _ _ e=>up _ _ q1 e) hT8 sz8 λc o q1 q2 q3 q4 e=>up c o q1 (all c o q1 q2 q3 q4 e)
theorem Zlb {z TI TO i1 i2:Addr}{a b:Value}{B1 B2 C1:Heap->Prop}{Q:Fin->Shared->Prop} (hh:A.handled=none) (D:Zd z TI TO i1 i2)
  (n1:NxE prog w i1 B1\/∃ x,NxI prog w i1 x B1 C1/\NxE prog w i2 B2) (k1:Zde z TO i2 B1) (k2:Zde z TO i1 B2)
  (hz:IsZip s.heap z TI TO .none) (hI:IsPair s.heap TI (.ref i1) (.ref i2)) (hO:IsPair s.heap TO a b) (h1:B1 s.heap) (h2:B2 s.heap)
  (fin:∀ hq e,(∀ c o,c≠z->c≠TO->c≠i1->c≠i2->s.heap.get? c=some o->hq.get? c=some o)->(∃ o,hq.get? e=some o/\o.cls=.type "StopIteration")->E (.ref e) { s with heap:=hq }) :
  wpAny (model prog w) A (Builtin.«zip.__next__» ⟨[.ref z],[]⟩) Q E s:=by
 show wpAny _ _ (field (.ref z) 2 >>= _) _ _ _;refine Ya3 (wpAny_field hz rfl (x:=.bool false) rfl ?_);show wpAny _ _ (field (.ref z) 3 >>= _) _ _ _;refine Ya3 (wpAny_field hz rfl (x:=.ref TI) rfl ?_);refine Ya3 (wpAny_seqItems hI rfl ?_);show wpAny _ _ (Builtin.SmallTypes.ownedTupleIsFree (.ref z) >>= _) _ _ _;refine Ya3 ?_;unfold Builtin.SmallTypes.ownedTupleIsFree;refine Ya3 (wpAny_field hz rfl (x:=.none) rfl (Ya8 ?_));simp only [if_true];refine Ya3 (wpAny_rule ?_);refine Ya3 (wpAny_field hz rfl (x:=.ref TO) rfl ?_);refine Ya3 (wpAny_setField_rec hz (by simp) λg1 hz1 s1=>?_);have hz1:IsZip g1 z TI TO .ellipsis:=hz1;refine Ya3 ?_;simp only [List.zipIdx_cons,List.zipIdx_nil,List.forIn_cons,List.forIn_nil];refine Ya3 (Ya3 (wpAny_onRaise ?_));show wpAny _ _ (Builtin.SmallTypes.nextOf (.ref i1) >>= _) _ _ _;have b1:B1 g1:=k1 _ _ h1 λb o c1 _ _ e=>s1.extBut _ _ c1 e;rcases n1 with n1 | ⟨x,n1,n2⟩
 ·refine Ya3 (n1 _ hh _ _ _ b1 λg2 e s2 he=>?_);obtain ⟨oe,go,ce⟩:=he;have hz2:IsZip g2 z TI TO .ellipsis:=s2 _ _ D.c.symm hz1;have ez:e≠z:=λx=>by subst x;rw [hz2] at go;cases go;simp at ce
  exact wpAny_setField_rec hz2 (by simp) λg3 _ s3=>fin g3 e (λc o q1 _ q3 _ x=>s3.extBut _ _ q1 (s2 _ _ q3 (s1.extBut _ _ q1 x))) ⟨oe,s3.extBut _ _ ez go,ce⟩
 ·refine Ya3 (n1 _ _ _ _ b1 λg2 c2 s2=>Ya8 ?_);have hO2:IsPair g2 TO a b:=s2.extBut _ _ D.h (s1.extBut _ _ D.b hO);refine Ya3 (wpAny_seqItems hO2 rfl ?_);refine Ya3 (wpAny_updateSeq_pair hO2 λg3 hO3 s3=>?_);refine Ya3 (wpAny_letGo (Ya8 ?_));refine Ya3 (Ya3 (wpAny_onRaise ?_));show wpAny _ _ (Builtin.SmallTypes.nextOf (.ref i2) >>= _) _ _ _;refine Ya3 (n2 _ hh _ _ _ (k2 _ _ h2 λb o c1 c2 c3 e=>s3.extBut _ _ c2 (s2.extBut _ _ c3 (s1.extBut _ _ c1 e))) λg4 e s4 he=>?_);obtain ⟨oe,go,ce⟩:=he;have hz4:IsZip g4 z TI TO .ellipsis:=s4 _ _ D.d.symm (s3.extBut _ _ D.b.symm (s2.extBut _ _ D.c.symm hz1));have ez:e≠z:=λx=>by subst x;rw [hz4] at go;cases go;simp at ce
  exact wpAny_setField_rec hz4 (by simp) λg5 _ s5=>fin g5 e (λc o q1 q2 q3 q4 x=>s5.extBut _ _ q1 (s4 _ _ q4 (s3.extBut _ _ q2 (s2.extBut _ _ q3 (s1.extBut _ _ q1 x))))) ⟨oe,s5.extBut _ _ ez go,ce⟩
theorem Zfr {z TI TO i1 i2:Addr}{x y a b:Value}{B1 B2 C1 C2:Heap->Prop}{Q:Option Value->Shared->Prop} (D:Zd z TI TO i1 i2)
  (n1:NxI prog w i1 x B1 C1) (n2:NxI prog w i2 y B2 C2) (k1:Zde z TO i2 B1) (k2:Zde z TO i1 B2) (k3:Zde z TO i2 C1) (k4:Zde z TO z C2)
  (hz:IsZip s.heap z TI TO .none) (hI:IsPair s.heap TI (.ref i1) (.ref i2)) (hO:IsPair s.heap TO a b) (h1:B1 s.heap) (h2:B2 s.heap)
  (fin:∀ hq,IsZip hq z TI TO (rawInt s.heap.objs.size)->IsPair hq TO x y->C1 hq->C2 hq->IsPair hq s.heap.objs.size x y->hq.objs.size=s.heap.objs.size+1 ->
   (∀ c o,c≠z->c≠TO->c≠i1->c≠i2->s.heap.get? c=some o->hq.get? c=some o)->Q (some (.ref s.heap.objs.size)) { s with heap:=hq }) :
  wpAny (model prog w) A (pyNext (.ref z)) Q E s:=by
 have ty:s.TypeIs (.ref z) "zip" := ⟨_,hz,rfl⟩;unfold pyNext;exact Ya3 (wpAny_attempt (wpAny_callSpecial?_slot (name:=Str.ofString "__next__") ty F.slot_zip_next (wpAny_call_entry F.slot_zip_next ty F.entry_zip_next
  (ZiK D n1 n2 k1 k2 k3 k4 hz hI hO h1 h2 λhq a1 a2 a3 a4 a5 a6 a7=>Ya8 (fin hq a1 a2 a3 a4 a5 a6 a7)) (F.args_zip_next_1 _))))
theorem Zgi {z TI TO i1 i2:Addr}{a b:Value}{B1 B2 C1:Heap->Prop}{Q:Option Value->Shared->Prop} (hh:A.handled=none) (D:Zd z TI TO i1 i2)
  (n1:NxE prog w i1 B1\/∃ x,NxI prog w i1 x B1 C1/\NxE prog w i2 B2) (k1:Zde z TO i2 B1) (k2:Zde z TO i1 B2)
  (hz:IsZip s.heap z TI TO .none) (hI:IsPair s.heap TI (.ref i1) (.ref i2)) (hO:IsPair s.heap TO a b) (h1:B1 s.heap) (h2:B2 s.heap)
  (fin:∀ hq,(∀ c o,c≠z->c≠TO->c≠i1->c≠i2->s.heap.get? c=some o->hq.get? c=some o)->Q none { s with heap:=hq }):wpAny (model prog w) A (pyNext (.ref z)) Q E s:=by
 have ty:s.TypeIs (.ref z) "zip" := ⟨_,hz,rfl⟩;unfold pyNext;refine Ya3 (wpAny_attempt (wpAny_callSpecial?_slot (name:=Str.ofString "__next__") ty F.slot_zip_next (wpAny_call_entry F.slot_zip_next ty F.entry_zip_next
  (Zlb hh D n1 k1 k2 hz hI hO h1 h2 λhq e hk he=>?_) (F.args_zip_next_1 _))))
 obtain ⟨o,ho,hc⟩:=he;exact Ya3 (wpAny_isInstance (T := "StopIteration") (b:=true) ⟨o,ho,hc⟩ isSubtype_stop (Ya8 (fin _ hk)))
abbrev zq1 (h:Heap) (l1:Addr):Heap:=h.push { cls:=.type "tuple_iterator",data:=.fields #[.ref l1,.int 0 0] }
abbrev zq2 (h:Heap) (l1 l2:Addr):Heap:=(zq1 h l1).push { cls:=.type "list_iterator",data:=.fields #[.ref l2,.int 0 0] }
abbrev zq3 (h:Heap) (l1 l2:Addr):Heap:=(zq2 h l1 l2).push { cls:=.type "tuple",data:=.seq #[.ref h.objs.size,.ref (zq1 h l1).objs.size] }
abbrev zq4 (h:Heap) (l1 l2:Addr):Heap:=(zq3 h l1 l2).push { cls:=.type "tuple",data:=.seq #[.none,.none] }
abbrev zq5 (h:Heap) (l1 l2:Addr):Heap:=(zq4 h l1 l2).push { cls:=.type "zip",data:=.fields #[.none,.bool false,.bool false,.ref (zq2 h l1 l2).objs.size,.ref (zq3 h l1 l2).objs.size] }
theorem Zgy (l1 l2:Addr) (xs ys:Array Value):Meets (Builtin.«zip.__new__» ⟨[.type "zip", .ref l1,.ref l2],[]⟩) (λ_ R s=>s.heap.IsTuple l1 xs/\s.heap.IsList l2 ys /\
   R (.ok (.ret (.ref (zq4 s.heap l1 l2).objs.size))) { s with heap:=zq5 s.heap l1 l2 }) :=
 .of_wp λprog w A R s h=>by
  obtain ⟨hp,g,d,tk,os⟩:=s;obtain ⟨q1,q2,h⟩:=h;have sub:=sub_zip;have p1:Heap.IsTuple (Shared.heap ⟨hp,g,d,tk,os⟩) l1 xs:=q1;have p2:Heap.IsList (Shared.heap ⟨hp.push { cls:=.type "tuple_iterator",data:=.fields #[.ref l1,.int 0 0] },g,d,tk,os⟩) l2 ys:=Heap.IsList.push q2 _
  wp_walk using wpAny_pyIter_tuple p1,wpAny_pyIter_list p2
  exact ⟨_,rfl,h⟩
theorem ZiD {l1 l2:Addr}{xs ys:Array Value}{Q:Value->Shared->Prop} (q1:s.heap.IsTuple l1 xs) (q2:s.heap.IsList l2 ys)
  (fin:∀ hq,IsZip hq (s.heap.objs.size+4) (s.heap.objs.size+2) (s.heap.objs.size+3) .none->IsPair hq (s.heap.objs.size+2) (.ref s.heap.objs.size) (.ref (s.heap.objs.size+1)) ->
   IsPair hq (s.heap.objs.size+3) .none .none->hq.IsTupleIter s.heap.objs.size l1 0->hq.IsListIter (s.heap.objs.size+1) l2 0->hq.objs.size=s.heap.objs.size+5 ->
   (∀ c o,s.heap.get? c=some o->hq.get? c=some o)->Q (.ref (s.heap.objs.size+4)) { s with heap:=hq }):wpAny (model prog w) A (call (.type "zip") [.ref l1,.ref l2]) Q E s:=by
 refine callType_new F.called_zip (by decide) (F.typeCall_zip_2 _ _) (F.newCall_zip_2 _ _) (λobj=>F.args_object_init_3 obj _ _) F.entry_zip_new (Zgy l1 l2 xs ys) ⟨q1,q2,?_⟩;have z1:(zq1 s.heap l1).objs.size=s.heap.objs.size+1:=Heap.size_push ..;have z2:(zq2 s.heap l1 l2).objs.size=s.heap.objs.size+2:=by rw [Heap.size_push,z1]
 have z3:(zq3 s.heap l1 l2).objs.size=s.heap.objs.size+3:=by rw [Heap.size_push,z2]
 have z4:(zq4 s.heap l1 l2).objs.size=s.heap.objs.size+4:=by rw [Heap.size_push,z3]
 have z5:(zq5 s.heap l1 l2).objs.size=s.heap.objs.size+5:=by rw [Heap.size_push,z4]
 have g5:(zq5 s.heap l1 l2).get? (zq4 s.heap l1 l2).objs.size=some _:=Yao _ rfl;have g4:(zq5 s.heap l1 l2).get? (zq3 s.heap l1 l2).objs.size=some _:=Yad _ (Yao _ rfl);have g3:(zq5 s.heap l1 l2).get? (zq2 s.heap l1 l2).objs.size=some _:=Yad _ (Yad _ (Yao _ rfl));have g2:(zq5 s.heap l1 l2).get? (zq1 s.heap l1).objs.size=some _:=Yad _ (Yad _ (Yad _ (Yao _ rfl)));have g1:(zq5 s.heap l1 l2).get? s.heap.objs.size=some _:=Yad _ (Yad _ (Yad _ (Yad _ (Yao _ rfl))));show _/\_;rw [z2,z3,z4] at g5;rw [z1,z2] at g3;rw [z3] at g4;rw [z1] at g2;rw [z4];exact ⟨⟨_,g5,rfl⟩,fin _ g5 g3 g4 ⟨_,g1,rfl,rfl⟩ ⟨_,g2,rfl,rfl⟩ z5 λc o x=>Yad _ (Yad _ (Yad _ (Yad _ (Yad _ x))))⟩
end
theorem Inv.sqT_ne {X:Cx}{pins:List (Addr × Obj)}{σ:St}{H:Hp}{s:Shared}{a b:Addr}{xs:List V} (I:Inv X pins σ H s) (h:SqT X.K H a xs) (f:FpOk X pins H b):a≠b:=by
 rintro rfl;rcases h with (h | ⟨o,h⟩) | ⟨o,its,n,hk,_⟩
 ·rw [f.1] at h;cases h
 ·rw [f.1] at h;cases h
 ·have hb:X.base.get? a=some o:=I.ok.mod.kin a o hk;rcases f.2.2.2.1 with z | z
  ·exact I.ok.noex a o hb z
  ·exact absurd (Yan (Yal (I.ok.bs a o hb).1) z) (Ybq _)
def ItzT (K:Yab) (a c:Addr):It :=
 ⟨λi H=>∃ xs ys x y,SqT K H a xs/\SqL K H c ys/\xs[i]? = some x/\ys[i]? = some y,
  λi H v H'=>∃ T x y,v=.ref T/\H T=none/\H'=upd H T (.tup [x,y])/\(∀ xs,SqT K H a xs->xs[i]? = some x)/\∀ ys,SqL K H c ys->ys[i]? = some y,
  λi H=>∃ xs ys,SqT K H a xs/\SqL K H c ys/\(xs.length<=i\/ys.length<=i)⟩
structure ZipTAt (h:Heap) (z TI TO i1 i2 l1 l2:Addr) (i:Nat):Prop where
 hz:IsZip h z TI TO .none
 hTI:IsPair h TI (.ref i1) (.ref i2)
 hTO:∃ a b,IsPair h TO a b
 h1:h.IsTupleIter i1 l1 i
 h2:h.IsListIter i2 l2 i
 nd:[z,TI,TO,i1,i2].Nodup
theorem ZiO {P:Program}{w:World}{K:Yab}{es:List Expr}{k1}{ps:Pos} (a c z TI TO i1 i2:Addr):Turn P w K (.Tuple es k1 ps) (ItzT K a c) [z,TI,TO,i1,i2] z (λi h=>ZipTAt h z TI TO i1 i2 a c i) where
 mem:=by simp
 obj:=λi h st b hb=>by
  simp only [YaF,Yax,or_false] at hb;rcases hb with rfl | rfl | rfl | rfl | rfl
  ·exact ⟨_,st.hz,λv q=>by have q':Data.fields _=Data.cell v:=q;cases q'⟩
  ·exact ⟨_,st.hTI,λv q=>by have q':Data.seq _ _=Data.cell v:=q;cases q'⟩
  ·obtain ⟨x,y,e⟩:=st.hTO;exact ⟨_,e,λv q=>by have q':Data.seq _ _=Data.cell v:=q;cases q'⟩
  ·obtain ⟨o,e,_,d⟩:=st.h1;exact ⟨o,e,λv q=>by rw [d] at q;cases q⟩
  ·obtain ⟨o,e,_,d⟩:=st.h2;exact ⟨o,e,λv q=>by rw [d] at q;cases q⟩
 keep:=λi h h' st k=>⟨k z (by simp) _ st.hz,k TI (by simp) _ st.hTI,let ⟨x,y,e⟩:=st.hTO;⟨x,y,k TO (by simp) _ e⟩,st.h1.at λo q=>k i1 (by simp) o q,st.h2.at λo q=>k i2 (by simp) o q,st.nd⟩
 item:=by
  intro X hP hw hK hc i pins s σ H E I hf st hg;subst hP hw hK;obtain ⟨xs,ys,x,y,hq,hq2,hx,hy⟩:=hg;obtain ⟨its,rv,p,_⟩:=I.tuple hq;obtain ⟨its2,rv2,p2,_⟩:=I.list hq2;obtain ⟨u,hu,ru⟩:=rv.get hx;obtain ⟨u2,hu2,ru2⟩:=rv2.get hy;obtain ⟨ta,tb,hTO⟩:=st.hTO;have nd:=st.nd;simp only [Yba,YaF,Yax,or_false,not_or,List.nodup_nil,and_true,not_false_eq_true] at nd;obtain ⟨⟨n1,n2,n3,n4⟩,⟨n5,n6,n7⟩,⟨n8,n9⟩,n10⟩:=nd;have Dz:Zd z TI TO i1 i2:=⟨Ne.symm n1,Ne.symm n2,Ne.symm n3,Ne.symm n4,n5,n6,n7,n8,n9,n10⟩;have az:=I.sqT_ne hq (hf z (by simp));have aO:=I.sqT_ne hq (hf TO (by simp));have a1:=I.sqT_ne hq (hf i1 (by simp));have a2:=I.sqT_ne hq (hf i2 (by simp));have cz:=I.sq_ne hq2 (hf z (by simp));have cO:=I.sq_ne hq2 (hf TO (by simp));have c1:=I.sq_ne hq2 (hf i1 (by simp));have c2:=I.sq_ne hq2 (hf i2 (by simp));refine Zfr (B1:=λh=>h.IsTupleIter i1 a i/\h.IsTuple a its.toArray) (B2:=λh=>h.IsListIter i2 c i/\h.IsList c its2.toArray) (C1:=λh=>h.IsTupleIter i1 a (i+1)) (C2:=λh=>h.IsListIter i2 c (i+1)) (x:=u) (y:=u2) Dz
   (λA s Q E b q=>ZiU b.1 b.2 (by simpa using hu) λh2 e1 e2=>q h2 e1 e2) (λA s Q E b q=>wpAny_nextOf_list_item b.1 b.2 (by simpa using hu2) λh2 e1 e2=>q h2 e1 e2)
   (λh h2 b k=>⟨b.1.at λo e=>k _ o (Ne.symm n3) (Ne.symm n8) n10 e,let ⟨o,e,r⟩:=b.2;⟨o,k _ o az aO a2 e,r⟩⟩)
   (λh h2 b k=>⟨b.1.at λo e=>k _ o (Ne.symm n4) (Ne.symm n9) (Ne.symm n10) e,b.2.at λo e=>k _ o cz cO c1 e⟩)
   (λh h2 b k=>b.at λo e=>k _ o (Ne.symm n3) (Ne.symm n8) n10 e) (λh h2 b k=>b.at λo e=>k _ o (Ne.symm n4) (Ne.symm n9) (Ne.symm n4) e) st.hz st.hTI hTO ⟨st.h1,p⟩ ⟨st.h2,p2.isList⟩ λh' z1 z2 z3 z4 z5 z6 z7=>?_
  refine ⟨_,rfl,wpAny_letOwnedTupleGo_zip z1 λh2 hz2 hs2=>?_⟩;have hs2':Heap.SameBut z h' h2:=hs2;have zlt:z≠s.heap.objs.size:=Yap (Yal st.hz);have fresh:∀ b∈[z,TI,TO,i1,i2],b≠s.heap.objs.size:=λb hb=>by
   simp only [YaF,Yax,or_false] at hb;rcases hb with rfl | rfl | rfl | rfl | rfl
   ·exact zlt
   ·exact Yap (Yal st.hTI)
   ·exact Yap (Yal hTO)
   ·obtain ⟨o,e,_⟩:=st.h1;exact Yap (Yal e)
   ·obtain ⟨o,e,_⟩:=st.h2;exact Yap (Yal e)
  have hT2:IsPair h2 s.heap.objs.size u u2:=(hs2'.2 _ (Ne.symm zlt)).trans z5;have st2:ZipTAt h2 z TI TO i1 i2 a c (i+1):=⟨hz2,(hs2'.2 TI (Ne.symm n1)).trans (z7 TI _ (Ne.symm n1) n5 n6 n7 st.hTI),⟨_,_,(hs2'.2 TO (Ne.symm n2)).trans z2⟩,z3.at λo q=>(hs2'.2 i1 (Ne.symm n3)).trans q,z4.at λo q=>(hs2'.2 i2 (Ne.symm n4)).trans q,st.nd⟩;have hfr:H s.heap.objs.size=none:=I.hok.fresh (Yag _);have I2:Inv X pins σ (upd H s.heap.objs.size (.tup [x,y])) { s with heap:=h2,toks:=s.toks }:=by
   refine I.tupNew (its:=[u,u2]) hf (Yag _) (λb o hb q=>?_) (by show 2<=sizeLine;decide) (.cons ru (.cons ru2 .nil)) hT2 (λb hb=>?_)
   ·simp only [YaF,Yax,or_false,not_or] at hb;exact (hs2'.2 b hb.1).trans (z7 b o hb.1 hb.2.2.1 hb.2.2.2.1 hb.2.2.2.2 q)
   ·simp only [YaF,Yax,or_false] at hb;rcases hb with rfl | rfl | rfl | rfl | rfl
    ·exact ⟨_,st2.hz⟩
    ·exact ⟨_,st2.hTI⟩
    ·obtain ⟨_,_,e⟩:=st2.hTO;exact ⟨_,e⟩
    ·obtain ⟨o,e,_⟩:=st2.h1;exact ⟨_,e⟩
    ·obtain ⟨o,e,_⟩:=st2.h2;exact ⟨_,e⟩
  refine ⟨.ref s.heap.objs.size,_,I2,rfl,⟨_,x,y,rfl,hfr,rfl,λzs hz=>by rw [I.tuple_inj hz hq];exact hx,λzs hz=>by rw [I.list_inj hz hq2];exact hy⟩,st2,λb hb=>?_⟩;rw [Zai (fresh b hb)];exact (hf b hb).1
 done:=by
  intro X hP hw hK hc i pins s σ H E I hf st hg;subst hP hw hK;obtain ⟨xs,ys,hq,hq2,hend⟩:=hg;obtain ⟨its,rv,p,_⟩:=I.tuple hq;obtain ⟨its2,rv2,p2,_⟩:=I.list hq2;obtain ⟨ta,tb,hTO⟩:=st.hTO;have nd:=st.nd;simp only [Yba,YaF,Yax,or_false,not_or,List.nodup_nil,and_true,not_false_eq_true] at nd;obtain ⟨⟨n1,n2,n3,n4⟩,⟨n5,n6,n7⟩,⟨n8,n9⟩,n10⟩:=nd;have Dz:Zd z TI TO i1 i2:=⟨Ne.symm n1,Ne.symm n2,Ne.symm n3,Ne.symm n4,n5,n6,n7,n8,n9,n10⟩;have az:=I.sqT_ne hq (hf z (by simp));have aO:=I.sqT_ne hq (hf TO (by simp));have a2:=I.sqT_ne hq (hf i2 (by simp));have cz:=I.sq_ne hq2 (hf z (by simp));have cO:=I.sq_ne hq2 (hf TO (by simp));have c1:=I.sq_ne hq2 (hf i1 (by simp));have l1:=rv.length;have l2:=rv2.length;refine Zgi (B1:=λh=>h.IsTupleIter i1 a i/\h.IsTuple a its.toArray) (B2:=λh=>h.IsListIter i2 c i/\h.IsList c its2.toArray) (C1:=λh=>h.IsTupleIter i1 a (i+1)) (I.ok.hd hc) Dz ?_
   (λh h2 b k=>⟨b.1.at λo e=>k _ o (Ne.symm n3) (Ne.symm n8) n10 e,let ⟨o,e,r⟩:=b.2;⟨o,k _ o az aO a2 e,r⟩⟩)
   (λh h2 b k=>⟨b.1.at λo e=>k _ o (Ne.symm n4) (Ne.symm n9) (Ne.symm n10) e,b.2.at λo e=>k _ o cz cO c1 e⟩) st.hz st.hTI hTO ⟨st.h1,p⟩ ⟨st.h2,p2.isList⟩ λh' k=>⟨rfl,I.turnedL (t':=s.toks) hf λb o hb q=>?_⟩
  ·by_cases hl:i<its.length
   ·refine .inr ⟨its[i],λA s Q E b q=>ZiU b.1 b.2 (by simp [hl]) λh2 e1 e2=>q h2 e1 e2,λA hh s Q E b q=>wpAny_nextOf_list_end hh b.1 b.2 (by simp;omega) q⟩
   ·exact .inl λA hh s Q E b q=>ZnA hh b.1 b.2 (by simp;omega) q
  simp only [YaF,Yax,or_false,not_or] at hb;exact k b o hb.1 hb.2.2.1 hb.2.2.2.1 hb.2.2.2.2 q
 self:=λ_ _ _ _ _ st h=>wpAny_pyIter_zip st.hz h
def ZrW (K:Yab) (ta:TA):TI:=λσ H R=>ta σ H λvs H1=>∃ a c,vs=[.ref a,.ref c]/\(∃ xs,SqT K H1 a xs)/\(∃ ys,SqL K H1 c ys)/\R (ItzT K a c) H1
theorem Zn1 {X:Cx}{a b:Expr}{ta:TA}{es:List Expr}{k1}{ps p pos:Pos} (hg:Gl X "zip") (hm:X.mg "zip" = none) (ha:PA X [a,b] ta) (hs:starEach [a,b] X.env=[(false,eval a X.env),(false,eval b X.env)]:=by rfl) (hs2:starEach [b] X.env=[(false,eval b X.env)]:=by rfl) :
  PI X (.Tuple es k1 ps) (.Call (.Name "zip" p) [a,b] [] pos) (ZrW X.K ta):=by
 intro pins s σ H R I h;refine Call_ (Zcr I hg hm boot_zip (PyProof.Rows.callWith_type1 (thn (ha pos pins s σ H _ I h) λus s1 ⟨vs,H1,I1,r1,q1⟩=>?_) (by rw [hs,hs2]) (by rw [hs2];rfl)));obtain ⟨a,c,e,⟨xs,hq⟩,⟨ys,hq2⟩,q⟩:=q1;subst e;obtain ⟨u,v,rfl,ru,rv⟩:=r1.two;cases ru;cases rv;obtain ⟨its,_,pl,_⟩:=I1.tuple hq;obtain ⟨its2,_,pl2,_⟩:=I1.list hq2;refine ZiD (show s1.heap.IsTuple a its.toArray from pl) pl2.isList λh' z1 z2 z3 z4 z5 z6 z7=>wpAny_pyIter_zip z1 ?_;have I2:Inv X pins σ H1 { s1 with heap:=h' }:=I1.kept (t':=s1.toks) z7;refine ⟨s1.heap.objs.size+4,[s1.heap.objs.size+4,s1.heap.objs.size+2,s1.heap.objs.size+3,s1.heap.objs.size,s1.heap.objs.size+1],_,_,H1,rfl,I2,ZiO a c _ _ _ _ _,⟨z1,z2,⟨_,_,z3⟩,z4,z5,?_⟩,λb hb=>?_,q⟩
 ·generalize s1.heap.objs.size=n;show List.Nodup ([n+4,n+2,n+3,n,n+1]:List Nat);simp
 ·have hb':s1.heap.objs.size<=b:=by
   simp only [YaF,Yax,or_false] at hb;rcases hb with rfl | rfl | rfl | rfl | rfl
   ·exact Nat.le_add_right _ _
   ·exact Nat.le_add_right _ _
   ·exact Nat.le_add_right _ _
   ·exact Yag _
   ·exact Nat.le_add_right _ _
  exact I1.fpOk hb' (I1.hok.fresh hb')
theorem ZiC {K:Yab}{a c:Addr}{xs ys:List V}{σ0:St}{H1:Hp}{te:TE}{Q:VK} (f:V->V->V) (hq:SqT K H1 a xs) (hq2:SqL K H1 c ys) (hlen:xs.length=ys.length) (hn:xs.length<=1000)
  (he:∀ x y,x∈xs->y∈ys->Pu te ((σ0.set 0 (some x)).set 1 (some y)) H1 (f x y))
  (fin:∀ D H',H1 D=none->Same H1 H'->H' D=some (.lst (List.zipWith f xs ys))->Q (.ref D) H') :
  ZaR (ItzT K a c) (gTup K 2 (Zcy (ZaT 0) (Zcy (ZaT 1) gNil))) Zbe te σ0 H1 Q:=by
 intro D hD;refine ⟨λi m zs σ' H'=>m=xs.length - i/\i<=xs.length/\(∀ u v,(σ'.set 0 u).set 1 v=(σ0.set 0 u).set 1 v)/\Same H1 H'/\H' D=some (.lst zs)/\zs=(List.zipWith f xs ys).take i,⟨xs.length,by simp,YaH _,λ_ _=>rfl,Same.new hD,Zad,by simp⟩,?_⟩;rintro i m zs σ' H' ⟨rfl,hi,es,sm,hDl,hys⟩;refine ⟨hDl,?_⟩;have q:SqT K H' a xs:=Same.tup sm hq;have q2:=sm.seq hq2
 by_cases hlt:i<xs.length
 ·refine .inr ⟨⟨_,_,xs[i],ys[i]'(by omega),q,q2,by simp [hlt],by simp⟩,λx H2 y=>?_⟩;obtain ⟨T,z,z2,rfl,hT,rfl,y,y2⟩:=y;have y:=y _ q;have y2:=y2 _ q2;have smT:Same H' (upd H' T (.tup [z,z2])):=Same.new hT;refine ⟨T,_,rfl,SqT.of Zad,rfl,_,_,rfl,_,_,rfl,rfl,?_⟩;unfold Zbe;refine iteT ?_;rw [es];refine he z z2 (YaP y) (YaP y2) _ _ (sm.trans smT) λH5 s5=>⟨s5 _ _ (smT _ _ hDl),?_,xs.length - (i+1),by omega,rfl,hlt,λ_ _=>set2,((sm.trans smT).trans s5).upd hD,Zad,?_⟩
  ·rw [hys,YaR];exact ZaD (by omega)
  ·rw [hys,List.take_add_one,List.getElem?_zipWith,y,y2];rfl
 ·have e:i=xs.length:=by omega
  subst e;refine .inl ⟨⟨_,_,q,q2,.inl (Yag _)⟩,fin D H' hD sm ?_⟩;rw [hDl,hys,List.take_of_length_le (by rw [List.length_zipWith];omega)]
end L2
namespace L2
open PySem PySem.Spec PyProof.Rows
section
variable {X:Cx}{a b c e o:Expr}{ta tb te to:TE}{pos:Pos}
def PEt (X:Cx) (e:Expr) (t:TE):Prop :=
 ∀ (pins:List (Addr × Obj)) (s:Shared) (σ:St) (H:Hp) (Q:VK),1<=s.toks->Inv X pins σ H s->t σ H Q->wpAny (model X.prog X.w) X.A (eval e X.env) (EP X pins σ Q) X.xe s
def PAt (X:Cx) (es:List Expr) (t:TA):Prop :=
 ∀ (pos:Pos) (pins:List (Addr × Obj)) (s:Shared) (σ:St) (H:Hp) (Q:List V->Hp->Prop),1<=s.toks->Inv X pins σ H s->t σ H Q->wpAny (model X.prog X.w) X.A (spliced (backTo pos (starEach es X.env))) (AP X pins σ Q) X.xe s
def PSst (X:Cx) (st:List Stmt) (t:TS):Prop :=
 ∀ (pins:List (Addr × Obj)) (s:Shared) (σ:St) (H:Hp) (D:Ends),1<=s.toks->Inv X pins σ H s->t D σ H->wpAny (model X.prog X.w) X.A (execs st X.env) (SP X pins D) X.xe s
def PTg (X:Cx) (e:Expr) (t:TT):Prop :=
 ∀ (pins:List (Addr × Obj)) (s:Shared) (σ:St) (H:Hp) (Q:Bool->Hp->Prop),Inv X pins σ H s->t σ H Q->wpAny (model X.prog X.w) X.A (isTrue e X.env (eval e X.env)) (λb s'=>1<=s'.toks/\TP X pins σ Q b s') X.xe s
theorem ZhZ {α:Type}{t:Sem α}{Q:α->Shared->Prop}{E:Value->Shared->Prop}{s:Shared}{A:Around}{P:Program}{w:World} (hn:1<=s.toks) (h:wpAny (model P w) A t Q E s):wpAny (model P w) A t (λx s'=>1<=s'.toks/\Q x s') E s :=
 Ya9 (wpAny_toks_of hn h) (λ_ _ z=>z) λ_ _ z=>z.2
theorem Zjx {x j pos}:PEg X (.Constant (.str x) j pos) (tC (.str x)):=λ_ _ _ H _ I h=>Calls.Constant_str ⟨Nat.le_add_left _ _,.str x,H,I.tok _,⟨_,rfl⟩,h⟩
theorem ZlN {op:CmpOp}{r:R2} (ho:OpR X (compareOp op) r) (ha:PEg X a ta) (hb:PE X b tb) (hm:behindInMarks op b=false):PTg X (.Compare a [op] [b] pos) (Zll (tOp r ta tb)):=by
 intro pins s σ H Q I h;refine wpAny_isTrue_Compare1 (thn (ha pins s σ H _ I h) λv s1 ⟨tk,x,H1,I1,r1,q1⟩=>thn (ZhZ tk (hb pins s1 σ H1 _ I1 q1)) λu s2 ⟨tk2,y,H2,I2,r2,q2⟩ =>
  thn (ZhZ tk2 (ho pins s2 σ H2 x y v u _ I2 r1 r2 q2)) λc s3 ⟨tk3,z,H3,I3,r3,k,e,q3⟩=>?_) hm
 subst e;cases r3;exact wpAny_truthy_bool ⟨tk3,H3,I3,q3⟩
theorem ZlM {op:CmpOp}{r:R2} (ho:OpR X (compareOp op) r) (ha:PE X a ta) (hb:PEg X b tb) (hm:behindInMarks op b=false):PTg X (.Compare a [op] [b] pos) (Zll (tOp r ta tb)):=by
 intro pins s σ H Q I h;refine wpAny_isTrue_Compare1 (thn (ha pins s σ H _ I h) λv s1 ⟨x,H1,I1,r1,q1⟩=>thn (hb pins s1 σ H1 _ I1 q1) λu s2 ⟨tk2,y,H2,I2,r2,q2⟩ =>
  thn (ZhZ tk2 (ho pins s2 σ H2 x y v u _ I2 r1 r2 q2)) λc s3 ⟨tk3,z,H3,I3,r3,k,e,q3⟩=>?_) hm
 subst e;cases r3;exact wpAny_truthy_bool ⟨tk3,H3,I3,q3⟩
theorem Zhh {y z:Str}{j1 j2:Nat}{p1 p2 apos cpos:Pos} (ho:PE X o to) (hyz:(y == z)=false:=by decide +kernel) (hz:z.length<=14:=by decide +kernel)
  (hbase:attributeBase o "replace" X.env (eval o X.env)=eval o X.env:=by rfl) (hline:(apos.endLine == cpos.line)=true:=by rfl) :
  PEt X (.Call (.Attribute o "replace" apos) [.Constant (.str y) j1 p1,.Constant (.str z) j2 p2] [] cpos) (Zrl y z to):=by
 intro pins s σ H Q tk0 I h;refine wpAny_Call_method_late hbase rfl hline rfl (thn (ZhZ tk0 (ho pins s σ H _ I h)) λv s1 ⟨tk,x,H1,I1,r1,x',e1,hx,q1⟩=>?_);subst e1;obtain ⟨t,rfl⟩:=r1;refine ⟨"str","str.replace",F.plainAttrs_str,F.slot_str_replace,F.type_str_replace,typeIs_str s1 x' t,(λ_ e=>nomatch e),?_⟩;refine Calls.callWith_builtin rfl (Calls.evalArgs_plain ?_);show wpAny _ _ (spliced ((false,eval (.Constant (.str y) j1 p1) X.env) :: backTo cpos (starEach [.Constant (.str z) j2 p2] X.env))) _ _ s1;refine Calls.spliced_cons (Calls.Constant_str ?_);show wpAny _ _ (spliced ((false,eval (.Constant (.str z) j2 p2) X.env) :: backTo cpos (starEach [] X.env))) _ _ _;refine Calls.spliced_cons (Calls.Constant_str (Calls.spliced_nil ?_));have h1:s1.toks≠0:=by omega
 have h2:s1.toks+1≠0:=by omega
 have h3:s1.toks≠s1.toks+1:=by omega
 exact SC.replaceW h1 h2 h3 hyz hx hz λt' k=>⟨.str _,H1,(I1.tok _).tok k,⟨_,rfl⟩,q1⟩
theorem Zoa (ha:PEt X e te) (hs:starEach [e] X.env=(false,eval e X.env) :: starEach [] X.env:=by rfl):PAt X [e] (Zgb te tNil):=by
 intro pos pins s σ H Q tk I h;rw [hs];show wpAny _ _ (spliced ((false,eval e X.env) :: backTo pos (starEach [] X.env))) _ _ s;refine Calls.spliced_cons (thn (ha pins s σ H _ tk I h) λu s1 ⟨x,H1,I1,r1,q1⟩=>?_);exact thn (Zac pos pins s1 σ H1 _ I1 q1) λus s2 ⟨xs,H2,I2,r2,q2⟩=>⟨x :: xs,H2,I2,.cons r1 r2,q2⟩
theorem Zp0 {k:Nat}{x:Str}{ps:List Str}{sp:Sp}{R:St->Value->Hp->Prop}{es:List Expr}{t:TA}{p:Pos} (F:FnAtX X.prog X.w X.K X.mg X.base k x ps sp) (hr:Room k X.A) (hR:Zd5 X R) (ha:PAt X (e :: es) t) (hg:Gl X x:=by rfl) (hdb:(x == ("__debug__" : Str))=false:=by decide)
  (he:starEach (e :: es) X.env=(false,eval e X.env) :: starEach es X.env:=by rfl) (hpl:(backTo pos (starEach es X.env)).any (·.1)=false:=by rfl):PEt X (.Call (.Name x p) (e :: es) [] pos) (tFx sp R t):=by
 obtain ⟨f,hm,hk,hl,run⟩:=F;intro pins s σ H Q tk I h;refine wpAny_Call_Name_kw (ZbQ I hg hm ?_ hdb);refine PySem.W.callWith_K (h₀:=X.base) I.ok.mod.kin hk (thn (ha pos pins s σ H _ tk I h) λus s1 ⟨vs,H1,I1,r,q⟩=>⟨I1.kIn,?_⟩) he hpl;refine wpAny_call (codeAny_mono (run X.A X.stack s1 H1 us vs Q _ hr I1.env0 r q) λres s' hq=>?_);cases res with
 |error ev =>
  obtain ⟨e',cls,H',rfl,Fl,rr⟩:=hq;exact hR pins σ H1 s1 e' cls H' s' I1 Fl rr
 |ok fl =>
  cases fl with
  |ret u=>exact I1.after hq
  |next=>exact False.elim hq
  |brk=>exact False.elim hq
  |cont=>exact False.elim hq
theorem Zhd (he:PEt X e te):PSst X [.Return (some e) pos] (tRet te):=by
 intro pins s σ H D tk I h;refine wpAny_execs_cons (wpAny_Return_some (thn (he pins s σ H _ tk I h) λv s1 ⟨x,H1,I1,r1,q1⟩=>?_));exact ⟨x,σ,H1,I1,r1,q1⟩
theorem Zn0 {A B:List Stmt}{t u v:TS}{tc:TT} (hc:PTg X c tc) (ha:PSs X A t) (hb:PSs X B v) {rest:List Stmt} (hr:PSst X rest u):PSs X (.If c A B pos :: rest) (tSeq (tIfS tc t v) u):=by
 intro pins s σ H D I h;refine wpAny_execs_cons (wpAny_If (thn (hc pins s σ H _ I h) λd s1 ⟨tk,H1,I1,q1⟩=>?_));have go:∀ (f:Flow) (s2:Shared),1<=s2.toks/\SP X pins { D with nx:=u D } f s2->(match f with | .next=>wpAny (model X.prog X.w) X.A (execs rest X.env) (SP X pins D) X.xe s2 | r=>SP X pins D r s2):=by
  rintro f s2 ⟨tk2,q⟩;cases f with
  |next =>
   obtain ⟨σ',H',I',q⟩:=q;exact hr pins s2 σ' H' D tk2 I' q
  |ret v=>exact q
  |brk=>exact q
  |cont=>exact q
 cases d with
 |true =>
  refine thn (ZhZ tk (ha pins s1 σ H1 { D with nx:=u D } I1 q1)) λf s2 q=>?_;have:=go f s2 q;cases f <;> exact this
 |false =>
  refine thn (ZhZ tk (hb pins s1 σ H1 { D with nx:=u D } I1 q1)) λf s2 q=>?_;have:=go f s2 q;cases f <;> exact this
theorem ZpX {A B:List Stmt}{t v:TS}{tc:TT} (hc:PTg X c tc) (ha:PSst X A t) (hb:PSs X B v):PS X (.If c A B pos) (tIfS tc t v):=by
 intro pins s σ H D I h;refine wpAny_If (thn (hc pins s σ H _ I h) λd s1 ⟨tk,H1,I1,q1⟩=>?_);cases d with
 |true=>exact ha pins s1 σ H1 D tk I1 q1
 |false=>exact hb pins s1 σ H1 D I1 q1
end
end L2
namespace L2
open PySem PySem.Spec PyProof.Rows
theorem ZcD {P:Program}{w:World}:∀ {ss:List Str}{us:List Value},us.length=ss.length->(∀ (i:Nat) (u:Value),us[i]? = some u->∃ x,ss[i]? = some x/\(ZaM P w).is (Sum.inr x) u=true)->StrsAre us ss
 | [],[],_,_=>.nil
 |x :: ss,u :: us,hl,h=>by
  obtain ⟨y,hy,hk⟩:=h 0 u rfl;have hy:x=y:=Yae hy;subst hy;have r:StrsAre us ss:=ZcD (by simpa using hl) λi v hv=>h (i+1) v hv;have hk:Value.isStrOf x u=true:=hk;cases u with
  |str z t =>
   have e:z=x:=by simpa [Value.isStrOf] using hk
   subst e;exact .cons _ _ r
  |_=>exact absurd hk (by simp [Value.isStrOf])
theorem Zc5:∀ {us:List Value}{ss:List Str},StrsAre us ss->Vals (ss.map V.str) us
 |_,_,.nil=>.nil
 |_,_,.cons y t r=>.cons ⟨t,rfl⟩ (Zc5 r)
theorem Zf1 {X:Cx} (hc:X.calm=true):Zbv X (.builtin "sorted") (λxs H Q=>∃ (d:Addr) (kv:List (Key × V)) (ss:List Str),xs=[.ref d]/\H d=some (.dK kv)/\kv.map (·.1)=ss.map Sum.inr/\ss.length<64 /\
  ∀ (D:Addr) (ss':List Str),H D=none->ss'.Perm ss->sortedS ss'=true->Q (.ref D) (upd H D (.lst (ss'.map V.str)))):=by
 intro pins s σ H xs us Q I rv h;obtain ⟨d,kv,ss,rfl,hd,hk,h64,q⟩:=h;obtain ⟨u,rfl,ru⟩:=rv.one;cases ru;obtain ⟨hz,lo,vs,rel,dd⟩:=ZoS I.hok hd;obtain ⟨ep,hat⟩:=dd.dictAt;have hkeys:vs.map (·.1)=ss.map Sum.inr:=by rw [<- rel.keys];exact hk
 have hlen:vs.length=ss.length:=by
  have:=congrArg List.length hkeys;rw [Yaa,Yaa] at this;exact this
 have big:(64:Nat)<=sizeLine:=by decide
 refine Calls.call_function_entry kind_sorted plain_sorted entry_sorted (args_sorted1 _) ?_;unfold Builtin.«sorted»;refine Ya3 (m:=checkCount "sorted" 1 1 _) (Ya8 ?_);refine Ya3 (PySem.W.kdu_collect (PySem.W.kdl_dict (knd:=ZaM X.prog X.w) (kvs:=vs) (ep:=ep) lo) (I.ok.hd hc) hat (by omega) λh' tk acc hk' hacc=>?_);have hl:acc.toList.length=vs.length:=by rw [YaD];exact hacc.1
 have hS:StrsAre acc.toList ss:=ZcD (P:=X.prog) (w:=X.w) (by omega) λi v hv=>by
  obtain ⟨k,x,hx,hi⟩:=hacc.2 i v (by rw [<- Ybi];exact hv);have h1:(vs.map (·.1))[i]? = some k:=by rw [Yaf,hx];rfl
  rw [hkeys,Yaf] at h1;cases e:ss[i]? with
  |none=>rw [e] at h1;cases h1
  |some y =>
   rw [e] at h1;have h1:Sum.inr y=k:=Yae h1;subst h1;exact ⟨y,rfl,hi⟩
 refine Ya3 (wpAny_newList ?_ (by rw [hl];omega));have hoL:(h'.push (seqObj "list" acc.toList.toArray 0)).get? h'.objs.size=some (seqObj "list" acc.toList.toArray 0):=Yao _ rfl;refine Ya3 (wpAny_holding (wpAny_call_entry slot_list_sort ⟨_,hoL,rfl⟩ entry_list_sort (list_sort_treeK strKind_oneLt hoL hS.keysOf (λv₁ v₂ rest e=>keyKind_strs (by rw [<- e];exact hS)) (by omega) λst' a1 a2=>⟨_,rfl,?_⟩) (args_list_sort _)));obtain ⟨ss',b1,b2,b3⟩:=sorted_out_str hS a1 a2;obtain ⟨e,he⟩:=sortedHeap_at (out:=(arrOf st').map (·.2)) hoL;have I1:Inv X pins σ H { s with heap:=h',toks:=tk }:=I.kept hk';have old:∀ b o,h'.get? b=some o->(sortedHeap (h'.push (seqObj "list" acc.toList.toArray 0)) h'.objs.size acc.toList ((arrOf st').map (·.2))).get? b=some o:=λb o h1=>by
  have lt:=Yal h1;rw [sortedHeap_old (Yap lt) (by rw [size_push'];exact Nat.lt_succ_of_lt lt),Heap.get?_push_ne _ _ _ (Yap lt)];exact h1
 refine Ya8 ⟨_,rfl,.ref _,_,I1.laid (t':=tk) (o:=.lst (ss'.map V.str)) old (Yag _) ⟨?_,((arrOf st').map (·.2)).toList,e,Zc5 b1,?_⟩,rfl,q _ ss' (I1.hok.fresh (Yag _)) b2 b3⟩
 ·rw [Yaa,b2.length_eq];omega
 ·rw [Array.toArray_toList];exact he
end L2
namespace Seek
open PySem L2 PyProof.Rows
def top (i:Nat):Stmt:=PySem.Challenge.pw_stairseek_k37_rows_that_are_none.main.body.getD i (.Pass ⟨0,0,0,0⟩)
abbrev ZeV:Stmt:=top 18
abbrev ZbM:Stmt:=top 19
abbrev ZbT:Stmt:=top 20
abbrev ZkU:Stmt:=top 21
abbrev ZfU:Stmt:=top 22
abbrev Zdm:Stmt:=top 23
abbrev ZdQ:Stmt:=top 24
abbrev ZeW:Stmt:=top 25
abbrev Zc0:Stmt:=top 28
abbrev ZcB:Stmt:=top 30
abbrev ZmD:Stmt:=top 33
abbrev ZhN:Stmt:=top 34
abbrev dLaw:Stmt:=top 93
abbrev ZhO:Stmt:=top 31
abbrev ZeY:Stmt:=top 27
abbrev ZcO:Stmt:=top 29
abbrev Ze1:Stmt:=top 26
abbrev ZkV:Stmt:=top 41
abbrev Zo0:Stmt:=top 37
abbrev ZeU:Stmt:=top 38
abbrev Zci:Stmt:=top 39
abbrev ZcN:Stmt:=top 40
abbrev ZoZ:Stmt:=top 68
abbrev ZkT:Stmt:=top 88
abbrev Zdk:Stmt:=top 35
abbrev ZdS:Stmt:=top 48
abbrev Zcb:Stmt:=top 49
abbrev ZhP:Stmt:=top 50
abbrev ZcA:Stmt:=top 51
abbrev ZdR:Stmt:=top 52
abbrev Zcz:Stmt:=top 92
abbrev ZeZ:Stmt:=top 43
abbrev ZoY:Stmt:=top 44
abbrev Ze0:Stmt:=top 45
abbrev ZeS:Stmt:=top 61
abbrev ZeR:Stmt:=top 62
abbrev Zdj:Stmt:=top 63
abbrev Zcg:Stmt:=top 64
abbrev ZbR:Stmt:=top 65
abbrev Zbd:Stmt:=top 66
abbrev ZgF:Stmt:=top 53
abbrev Ze2:Stmt:=top 54
abbrev ZmE:Stmt:=top 55
abbrev Zc1:Stmt:=top 57
abbrev ZdT:Stmt:=top 58
abbrev ZeX:Stmt:=top 75
abbrev dShC:Stmt:=top 76
abbrev dShN:Stmt:=top 77
abbrev ZoX:Stmt:=top 78
abbrev ZdP:Stmt:=top 79
abbrev Zdl:Stmt:=top 80
abbrev Zdi:Stmt:=top 81
abbrev ZeT:Stmt:=top 82
abbrev Zch:Stmt:=top 83
abbrev ZcZ:Stmt:=top 84
abbrev Ze3:Stmt:=top 85
abbrev ZkS:Stmt:=top 89
abbrev ZgE:Stmt:=top 90
abbrev ZbS:Stmt:=top 91
abbrev Zat:Stmt:=top 56
abbrev Zb2:Stmt:=top 86
def ZaC (c:Stmt) (j:Nat):Stmt:=match c with | .ClassDef _ _ _ b _ _ _ _ _ _ _=>b.getD j (.Pass ⟨0,0,0,0⟩) | _=>.Pass ⟨0,0,0,0⟩
open PySem L2 PyProof.Rows
def Row (H:Hp) (a:Addr) (ns:List Int):Prop:=H a=some (.lst (ns.map V.int))
def nfB (ns:List Int):Bool:=((List.range (ns.length - 1)).map λi=>decide (ns.getD i 0<=ns.getD (i+1) 0)).all id
theorem Row.same {H H':Hp}{a:Addr}{ns:List Int} (e:Same H H') (h:Row H a ns):Row H' a ns:=e _ _ h
theorem Row.sq {K:Yab}{H:Hp}{a:Addr}{ns:List Int} (h:Row H a ns):SqL K H a (ns.map V.int):=SqL.of h
structure Blt (mg:Str->Option Value):Prop where
 len:mg "len" = none
 all:mg "all" = none
 isinst:mg "isinstance" = none
 rng:mg "range" = none
 int:mg "int" = none
 bool:mg "bool" = none
 list:mg "list" = none
 enum:mg "enumerate" = none
 abs:mg "abs" = none
 max:mg "max" = none
 mr:∃ t,mg "MOST_ROWS" = some (.int 6 t)
 mp:∃ t,mg "MOST_PLACES" = some (.int 6 t)
 ms:∃ t,mg "MOST_TO_A_SIDE" = some (.int 4 t)
theorem sl6 {n:Nat} (h:n<=1000):n<=sizeLine:=Nat.le_of_lt (ZaD h)
section
variable {P:Program}{w:World}{K:Yab}{mg:Str->Option Value}{base:Heap}
def Zbi:Sp:=λvs H Q _=>∃ i:Int,vs=[.int i]/\Q (.bl true) H
theorem Zh6:FnScope ["thing"] ["thing"] (Zae ZeV):=⟨rfl,rfl,rfl,by decide +kernel,rfl,by decide +kernel,by decide +kernel⟩
theorem Zih (T:Blt mg) (D:Zak K mg "is_whole" ZeV ["thing"]):FnAt P w K mg base 1 "is_whole" ["thing"] Zbi:=by
 refine FnAt.of D Zh6 (λvs H Q E h=>?_) (λf cdv A outer s H vs Q E hr h=>?_)
 ·obtain ⟨i,rfl,_⟩:=h;rfl
 ·obtain ⟨i,rfl,q⟩:=h;refine ⟨_,Zaf (Zal (ZbY (pe_b ZaJ T.isinst boot_isinstance (Zaa (pv 0) (Zaa (ZcJ T.int boot_int) Zac)))
   (ZbF (Zp3 (pe_b ZaJ T.isinst boot_isinstance (Zaa (pv 0) (Zaa (ZcJ T.bool boot_bool) Zac))))))),?_⟩
  exact ⟨_,rfl,_,_,_,_,rfl,.int i,ZqI _,_,rfl,iteT ⟨_,rfl,_,_,_,_,rfl,.int i,ZqJ _,_,rfl,q⟩⟩
def ZcS (K:Yab):Sp:=λvs H Q _=>∃ (a:Addr) (ns:List Int),vs=[.ref a]/\Row H a ns/\ns.length<=1000/\∀ H',Same H H'->Q (.bl true) H'
theorem ZdC:FnScope ["things"] ["things"] (Zae ZbM):=⟨rfl,rfl,rfl,by decide +kernel,rfl,by decide +kernel,by decide +kernel⟩
theorem Ze8 {α:Type} (xs:List α):(xs.map λ_=>true).all id=true:=by simp
theorem Zgu (T:Blt mg) (D:Zak K mg "all_whole" ZbM ["things"]) (G1:FnAt P w K mg base 1 "is_whole" ["thing"] Zbi):FnAt P w K mg base 2 "all_whole" ["things"] (ZcS K):=by
 refine FnAt.of D ZdC (λvs H Q E h=>?_) (λf cdv A outer s H vs Q E hr h=>?_)
 ·obtain ⟨a,ns,rfl,_⟩:=h;rfl
 ·obtain ⟨a,ns,rfl,hR,hn,q⟩:=h;have nd1:(["thing"]:List Str).Nodup:=by decide +kernel
  refine ⟨_,Zaf (Zal (pe_b (Za0 rfl) T.all boot_all (Zaa (Zaz ["thing"] [none] (Zae ZbM) ["things"] rfl (ZaH (pv 0)) (by decide +kernel)
   (λcl C s2 H2 ex=>pg_c 0 nd1) (λcl C s2 H2 ex=>Zaw) (λcl C s2 H2 ex=>pe_f G1 hr (Zaa (pv 0) Zac))) Zac))),?_⟩
  refine ⟨_,rfl,a,rfl,⟨_,hR.sq⟩,ZaZ V.int (λ_=>.bl true) hR.sq (sl6 hn) (λi hx H' Q' sm q'=>?_) λD H' hD sm hDl=>?_⟩
  ·exact ⟨_,rfl,i,rfl,q' _ (Same.refl _)⟩
  ·refine ⟨D,ns.map λ_=>true,rfl,SqL.of ?_,?_⟩
   ·rw [hDl];simp [Function.comp]
   ·rw [Ze8];exact q H' sm
def spNF:Sp:=λvs H Q _=>∃ (a:Addr) (ns:List Int),vs=[.ref a]/\Row H a ns/\ns.length<=1000/\∀ H',Same H H'->Q (.bl (nfB ns)) H'
theorem Zrv:FnScope ["numbers"] ["numbers"] (Zae ZbT):=⟨rfl,rfl,rfl,by decide +kernel,rfl,by decide +kernel,by decide +kernel⟩
theorem ZdY {ns:List Int}{i:Nat} (h:i<ns.length):atI (ns.map V.int) (i:Int)=some (.int (ns.getD i 0)):=Zbu (by simp [h])
theorem ZrP (T:Blt mg) (D:Zak K mg "never_falls" ZbT ["numbers"]):FnAt P w K mg base 1 "never_falls" ["numbers"] spNF:=by
 refine FnAt.of D Zrv (λvs H Q E h=>?_) (λf cdv A outer s H vs Q E hr h=>?_)
 ·obtain ⟨a,ns,rfl,_⟩:=h;rfl
 ·obtain ⟨a,ns,rfl,hR,hn,q⟩:=h;have nd1:(["k","numbers"]:List Str).Nodup:=by decide +kernel
  refine ⟨_,Zaf (Zal (pe_b (Za0 rfl) T.all boot_all (Zaa (Zaz ["k","numbers"] [none,some 0] (Zae ZbT) ["numbers"] rfl
   (Zjv rfl T.rng (Zaa Zag (Zaa (pe_b Zao T.len boot_len (Zaa (pv 0) Zac)) Zac))) (by decide +kernel)
   (λcl C s2 H2 ex=>pg_c 0 nd1) (λcl C s2 H2 ex=>Zaw)
   (λcl C s2 H2 ex=>Zbn Zfv (Zar (ixL K) (pv 1) (Zax Znb (pv 0) Zag) (λ_ _=>rfl)) (Zar (ixL K) (pv 1) (pv 0) (λ_ _=>rfl)) (Zaq _))) Zac))),?_⟩
  refine ⟨_,rfl,a,_,rfl,.inl hR.sq,1,_,rfl,⟨by omega,by omega,?_,?_⟩,?_⟩
  ·omega
  ·rw [Yaa];omega
  ·rw [Yaa,show ((ns.length:Int) - 1).toNat=ns.length - 1 by omega];refine Zef (λi=>.bl (decide (ns.getD i 0<=ns.getD (i+1) 0))) (sl6 (by omega)) (λi hi H' Q' sm q'=>?_) λD H' hD sm hDl=>?_
   ·have h1:(1:Int)+(i:Int) - 1=((i:Nat):Int):=by omega
    have h2:(1:Int)+(i:Int)=((i+1:Nat):Int):=by omega
    refine ⟨_,rfl,_,rfl,_,_,rfl,rfl,a,_,_,_,rfl,rfl,(hR.same sm).sq,(by rw [h1];exact ZdY (by omega)),_,rfl,_,rfl,a,_,_,_,rfl,rfl,(hR.same sm).sq,(by rw [h2];exact ZdY (by omega)),_,_,rfl,rfl,?_⟩;exact q' _ (Same.refl _)
   ·refine ⟨D,(List.range (ns.length - 1)).map λi=>decide (ns.getD i 0<=ns.getD (i+1) 0),rfl,SqL.of ?_,q H' sm⟩;rw [hDl];simp [Function.comp]
end
open PySem L2 PyProof.Rows
abbrev Prs:=List (Addr × List Int)
structure Tab (H:Hp) (t:Addr) (prs:Prs):Prop where
 l:H t=some (.lst (prs.map λp=>V.ref p.1))
 r:∀ p∈prs,Row H p.1 p.2
theorem Tab.same {H H':Hp}{t:Addr}{prs:Prs} (e:Same H H') (h:Tab H t prs):Tab H' t prs:=⟨e _ _ h.l,λp hp=>(h.r p hp).same e⟩
theorem Tab.sq {K:Yab}{H:Hp}{t:Addr}{prs:Prs} (h:Tab H t prs):SqL K H t (prs.map λp=>V.ref p.1):=SqL.of h.l
def Sm (prs:Prs):Prop:=prs.length<=1000/\∀ p∈prs,p.2.length<=1000
def rowB (ns:List Int):Bool:=decide (1<=ns.length) && decide (ns.length<=6)
def w0 (prs:Prs):Nat:=(prs.head?.map (·.2.length)).getD 0
def shB (prs:Prs):Bool:=(decide (1<=prs.length) && decide (prs.length<=6)) && ((prs.map λp=>rowB p.2).all id && (prs.map λp=>decide (p.2.length=w0 prs)).all id)
def col (prs:Prs) (j:Nat):List Int:=prs.map λp=>p.2.getD j 0
def srB (prs:Prs):Bool:=(prs.map λp=>nfB p.2).all id && ((List.range (w0 prs)).map λj=>nfB (col prs j)).all id
def tabB (prs:Prs):Bool:=shB prs && srB prs
theorem Zhq {α:Type} (xs:List α) (f:α->Bool):xs.map (λx=>V.bl (f x))=(xs.map f).map V.bl:=by simp [Function.comp]
theorem ZoV {i j:Nat}:decide (V.int (i:Int)=V.int (j:Int))=decide (i=j):=by
 rw [Ybb];constructor
 ·intro h;injection h with h;omega
 ·rintro rfl;rfl
theorem Zcx {prs:Prs} (h:1<=prs.length):∃ p,prs.head? = some p/\p∈prs/\prs[0]? = some p:=by
 cases prs with
 |nil=>simp at h
 |cons p r=>exact ⟨p,rfl,by simp,rfl⟩
section
variable {P:Program}{w:World}{K:Yab}{mg:Str->Option Value}{base:Heap}
def Zjc:Sp:=λvs H Q _=>∃ (a:Addr) (ns:List Int),vs=[.ref a]/\Row H a ns/\ns.length<=1000/\∀ H',Same H H'->Q (.bl (rowB ns)) H'
theorem ZlG:FnScope ["thing"] ["thing"] (Zae ZkU):=⟨rfl,rfl,rfl,by decide +kernel,rfl,by decide +kernel,by decide +kernel⟩
theorem Zmb (T:Blt mg) (D:Zak K mg "is_row" ZkU ["thing"]) (G:FnAt P w K mg base 2 "all_whole" ["things"] (ZcS K)):FnAt P w K mg base 3 "is_row" ["thing"] Zjc:=by
 refine FnAt.of D ZlG (λvs H Q E h=>?_) (λf cdv A outer s H vs Q E hr h=>?_)
 ·obtain ⟨a,ns,rfl,_⟩:=h;rfl
 ·obtain ⟨a,ns,rfl,hR,hn,q⟩:=h;obtain ⟨tk,mp⟩:=T.mp;refine ⟨_,Zaf (Zal (ZbY (pe_b ZaJ T.isinst boot_isinstance (Zaa (pv 0) (Zaa (ZcJ T.list boot_list) Zac)))
   (ZbY (Zbg Zfv Zfv Zag (pe_b Zao T.len boot_len (Zaa (pv 0) Zac)) (ZaL (v:=.int 6) rfl mp ⟨_,rfl⟩))
   (ZbF (pe_f G hr (Zaa (pv 0) Zac)))))),?_⟩
  refine ⟨_,rfl,_,_,_,_,rfl,.lst hR,Zkr _,_,rfl,iteT ⟨_,rfl,a,_,rfl,.inl hR.sq,1,_,rfl,rfl,_,rfl,?_⟩⟩;rw [Yaa];refine ite2 (λh1=>?_) (λh1=>?_)
  ·have h1:=of_decide_eq_true h1;refine ⟨_,_,rfl,rfl,_,rfl,ite2 (λh2=>?_) (λh2=>?_)⟩
   ·have h2:=of_decide_eq_true h2;refine ⟨_,rfl,a,ns,rfl,hR,hn,λH' sm=>?_⟩;have e:rowB ns=true:=by
     unfold rowB;rw [Ya4 (by omega),Ya4 (by omega)];rfl
    rw [<- e];exact q H' sm
   ·have e:rowB ns=false:=by
     unfold rowB;rw [Ya5 (p:=ns.length<=6) (by intro z;exact h2 (Ya4 (by omega)))];simp
    rw [<- e];exact q H (Same.refl _)
  ·refine ⟨_,rfl,iteF ?_⟩;have e:rowB ns=false:=by
    unfold rowB;rw [Ya5 (p:=1<=ns.length) (by intro z;exact h1 (Ya4 (by omega)))];simp
   rw [<- e];exact q H (Same.refl _)
def Zi5:Sp:=λvs H Q _=>∃ (t:Addr) (prs:Prs),vs=[.ref t]/\Tab H t prs/\Sm prs/\∀ H',Same H H'->Q (.bl (shB prs)) H'
theorem ZlC:FnScope ["thing","row"] ["thing"] (Zae ZfU):=⟨rfl,rfl,rfl,by decide +kernel,rfl,by decide +kernel,by decide +kernel⟩
theorem Zl6 (T:Blt mg) (D:Zak K mg "has_table_shape" ZfU ["thing"]) (G:FnAt P w K mg base 3 "is_row" ["thing"] Zjc):FnAt P w K mg base 4 "has_table_shape" ["thing"] Zi5:=by
 refine FnAt.of D ZlC (λvs H Q E h=>?_) (λf cdv A outer s H vs Q E hr h=>?_)
 ·obtain ⟨t,prs,rfl,_⟩:=h;rfl
 ·obtain ⟨t,prs,rfl,hT,⟨hn,hw⟩,q⟩:=h;obtain ⟨tk,mr⟩:=T.mr;have nd1:(["row"]:List Str).Nodup:=by decide +kernel
  have nd2:(["row","thing"]:List Str).Nodup:=by decide +kernel
  refine ⟨_,Zab (Zay (PW.pt (Zb1 (ZaE (ZaB (pe_b ZaJ T.isinst boot_isinstance (Zaa (pv 0) (Zaa (ZcJ T.list boot_list) Zac)))))
    (Zby (ZaE (Zeq Zfv Zfv Zag (pe_b Zao T.len boot_len (Zaa (pv 0) Zac)) (ZaL (v:=.int 6) rfl mr ⟨_,rfl⟩)))))) (Zaf (Zal ZbG)) Zah)
   (Zab (Zay (ZaE (ZaB (pe_b (Za0 rfl) T.all boot_all (Zaa (Zaz ["row"] [none] (Zae ZfU) ["thing","row"] rfl (ZaH (pv 0)) (by decide +kernel)
    (λcl C s2 H2 ex=>pg_c 0 nd1) (λcl C s2 H2 ex=>Zaw) (λcl C s2 H2 ex=>pe_f G hr (Zaa (pv 0) Zac))) Zac)))) (Zaf (Zal ZbG)) Zah)
   (Zaf (Zal (pe_b (Za0 rfl) T.all boot_all (Zaa (Zaz ["row","thing"] [none,some 0] (Zae ZfU) ["thing","row"] rfl (ZaH (pv 0)) (by decide +kernel)
    (λcl C s2 H2 ex=>pg_c 0 nd2) (λcl C s2 H2 ex=>Zaw)
    (λcl C s2 H2 ex=>Zbn Za4 (pe_b (lenK K) T.len boot_len (Zaa (pv 0) Zac)) (pe_b (lenK K) T.len boot_len (Zaa (Zar (ixL K) (pv 1) Zag (λ_ _=>rfl)) Zac)) (Zaq _))) Zac))))),?_⟩
  refine ⟨_,rfl,_,_,_,_,rfl,.lst hT.l,Zkr _,_,rfl,iteF ⟨_,rfl,t,_,rfl,.inl hT.sq,1,_,rfl,rfl,_,rfl,?_⟩⟩;rw [Yaa];have bad:¬ (1<=prs.length/\prs.length<=6)->shB prs=false:=λz=>by
   unfold shB;rw [<- Bool.decide_and,Ya5 z];rfl
  refine ite2 (λh1=>?_) (λh1=>?_)
  ·have h1:=of_decide_eq_true h1;refine ⟨_,_,rfl,rfl,_,rfl,?_⟩
   by_cases h2:prs.length<=6
   ·rw [Ya4 (show (prs.length:Int)<=6 by omega)];refine iteF ?_;refine ⟨_,rfl,t,rfl,⟨_,hT.sq⟩,ZaZ (λp=>V.ref p.1) (λp=>.bl (rowB p.2)) hT.sq (sl6 hn) (λp hp H' Q' sm q'=>?_) λD H' hD sm hDl=>?_⟩
    ·exact ⟨_,rfl,p.1,p.2,rfl,(hT.r p hp).same sm,hw p hp,q'⟩
    ·refine ⟨D,prs.map λp=>rowB p.2,rfl,SqL.of (by rw [hDl,Zhq]),_,rfl,?_⟩;cases e1:(prs.map λp=>rowB p.2).all id with
     |false =>
      refine iteT ?_;have e:shB prs=false:=by
       unfold shB;rw [e1];simp
      have q1:=q H' sm;rw [e] at q1;exact q1
     |true =>
      refine iteF ?_;have hT1:=hT.same sm;obtain ⟨p0,hp0,hm0,hx0⟩:=Zcx (prs:=prs) (by omega);have hw0:w0 prs=p0.2.length:=by
       unfold w0;rw [hp0];rfl
      refine ⟨_,rfl,t,rfl,⟨_,hT1.sq⟩,ZaZ (λp=>V.ref p.1) (λp=>.bl (decide (p.2.length=w0 prs))) hT1.sq (sl6 hn) (λp hp H2 Q' sm2 q'=>?_) λD2 H2 hD2 sm2 hDl2=>?_⟩
      ·have hT2:=hT1.same sm2;refine ⟨_,rfl,p.1,_,rfl,.inl (hT2.r p hp).sq,_,rfl,t,_,0,.ref p0.1,rfl,rfl,hT2.sq,Zbu (j:=0) (by rw [Yaf,hx0];rfl),p0.1,_,rfl,.inl (hT2.r p0 hm0).sq,rfl,?_⟩;rw [Yaa,Yaa,ZoV,<- hw0];exact q' _ (Same.refl _)
      ·refine ⟨D2,prs.map λp=>decide (p.2.length=w0 prs),rfl,SqL.of (by rw [hDl2,Zhq]),?_⟩;have q1:=q H2 (sm.trans sm2);unfold shB at q1;rw [e1,Ya4 (show 1<=prs.length by omega),Ya4 h2] at q1;exact q1
   ·rw [Ya5 (show ¬ (prs.length:Int)<=6 by omega)];refine iteT ?_;have q1:=q H (Same.refl _);rw [bad (by omega)] at q1;exact q1
  ·refine ⟨_,rfl,iteT ?_⟩;have q1:=q H (Same.refl _);rw [bad (by
    intro z
    exact h1 (Ya4 (by omega)))] at q1
   exact q1
end
open PySem L2 PyProof.Rows
section
variable {P:Program}{w:World}{K:Yab}{mg:Str->Option Value}{base:Heap}
def Zfj:Sp:=λvs H Q _=>∃ (t:Addr) (prs:Prs) (j:Nat),vs=[.ref t,.int j]/\Tab H t prs/\prs.length<=1000/\(∀ p∈prs,j<p.2.length)/\∀ D H',H D=none->Same H H'->Row H' D (col prs j)->Q (.ref D) H'
theorem Zia:FnScope ["table","place"] ["table","place"] (Zae Zdm):=⟨rfl,rfl,rfl,by decide +kernel,rfl,by decide +kernel,by decide +kernel⟩
theorem Zil (D:Zak K mg "numbers_at_place" Zdm ["table","place"]):FnAt P w K mg base 1 "numbers_at_place" ["table","place"] Zfj:=by
 refine FnAt.of D Zia (λvs H Q E h=>?_) (λf cdv A outer s H vs Q E hr h=>?_)
 ·obtain ⟨t,prs,j,rfl,_⟩:=h;rfl
 ·obtain ⟨t,prs,j,rfl,hT,hn,hj,q⟩:=h;have nd1:(["row","place"]:List Str).Nodup:=by decide +kernel
  refine ⟨_,Zaf (Zal (Zaz ["row","place"] [none,some 1] (Zae Zdm) ["table","place"] rfl (ZaH (pv 0)) (by decide +kernel)
    (λcl C s2 H2 ex=>pg_c 0 nd1) (λcl C s2 H2 ex=>Zaw) (λcl C s2 H2 ex=>Zar (ixL K) (pv 0) (pv 1) (λ_ _=>rfl)))),?_⟩
  refine ⟨_,rfl,t,rfl,⟨_,hT.sq⟩,ZaZ (λp=>V.ref p.1) (λp=>.int (p.2.getD j 0)) hT.sq (sl6 hn) (λp hp H' Q' sm q'=>?_) λD H' hD sm hDl=>?_⟩
  ·exact ⟨_,rfl,_,rfl,p.1,_,_,_,rfl,rfl,((hT.r p hp).same sm).sq,ZdY (hj p hp),q' _ (Same.refl _)⟩
  ·refine q D H' hD sm ?_;unfold Row col;rw [hDl,Yau];rfl
def ZgY:Sp:=λvs H Q _=>∃ (t:Addr) (prs:Prs),vs=[.ref t]/\Tab H t prs/\Sm prs/\1<=prs.length/\(∀ p∈prs,p.2.length=w0 prs)/\∀ H',Same H H'->Q (.bl (srB prs)) H'
theorem Zjl:FnScope ["table","row","place"] ["table"] (Zae ZdQ):=⟨rfl,rfl,rfl,by decide +kernel,rfl,by decide +kernel,by decide +kernel⟩
theorem ZjK (T:Blt mg) (D:Zak K mg "is_sorted_both_ways" ZdQ ["table"]) (G:FnAt P w K mg base 1 "never_falls" ["numbers"] spNF) (G2:FnAt P w K mg base 1 "numbers_at_place" ["table","place"] Zfj):FnAt P w K mg base 2 "is_sorted_both_ways" ["table"] ZgY:=by
 refine FnAt.of D Zjl (λvs H Q E h=>?_) (λf cdv A outer s H vs Q E hr h=>?_)
 ·obtain ⟨t,prs,rfl,_⟩:=h;rfl
 ·obtain ⟨t,prs,rfl,hT,⟨hn,hw⟩,h1,hv,q⟩:=h;have nd1:(["row"]:List Str).Nodup:=by decide +kernel
  have nd2:(["place","table"]:List Str).Nodup:=by decide +kernel
  obtain ⟨p0,hp0,hm0,hx0⟩:=Zcx (prs:=prs) h1;have hw0:w0 prs=p0.2.length:=(hv p0 hm0).symm;refine ⟨_,Zab (Zay (ZaE (ZaB (pe_b (Za0 rfl) T.all boot_all (Zaa (Zaz ["row"] [none] (Zae ZdQ) ["table","row","place"] rfl (ZaH (pv 0)) (by decide +kernel)
    (λcl C s2 H2 ex=>pg_c 0 nd1) (λcl C s2 H2 ex=>Zaw) (λcl C s2 H2 ex=>pe_f G hr (Zaa (pv 0) Zac))) Zac)))) (Zaf (Zal ZbG)) Zah)
   (Zaf (Zal (pe_b (Za0 rfl) T.all boot_all (Zaa (Zaz ["place","table"] [none,some 0] (Zae ZdQ) ["table","row","place"] rfl
    (ZcI rfl T.rng (Zaa (pe_b Zao T.len boot_len (Zaa (Zar Zan (pv 0) Zag (λ_ _=>rfl)) Zac)) Zac)) (by decide +kernel)
    (λcl C s2 H2 ex=>pg_c 0 nd2) (λcl C s2 H2 ex=>Zaw)
    (λcl C s2 H2 ex=>pe_f G hr (Zaa (pe_f G2 hr (Zaa (pv 1) (Zaa (pv 0) Zac))) Zac))) Zac)))),?_⟩
  refine ⟨_,rfl,t,rfl,⟨_,hT.sq⟩,ZaZ (λp=>V.ref p.1) (λp=>.bl (nfB p.2)) hT.sq (sl6 hn) (λp hp H' Q' sm q'=>?_) λD H' hD sm hDl=>?_⟩
  ·exact ⟨_,rfl,p.1,p.2,rfl,(hT.r p hp).same sm,hw p hp,q'⟩
  ·refine ⟨D,prs.map λp=>nfB p.2,rfl,SqL.of (by rw [hDl,Zhq]),_,rfl,?_⟩;cases e1:(prs.map λp=>nfB p.2).all id with
   |false =>
    refine iteT ?_;have q1:=q H' sm;unfold srB at q1;rw [e1] at q1;exact q1
   |true =>
    refine iteF ?_;have hT1:=hT.same sm;refine ⟨_,rfl,t,_,0,.ref p0.1,rfl,rfl,hT1.sq,Zbu (j:=0) (by rw [Yaf,hx0];rfl),p0.1,_,rfl,.inl (hT1.r p0 hm0).sq,_,rfl,?_,?_,?_⟩
    ·omega
    ·have:=hw p0 hm0;rw [Yaa];omega
    ·rw [Yaa,<- hw0,Yav];have hb:w0 prs<=1000:=by rw [hw0];exact hw p0 hm0
     refine Zef (λj=>.bl (nfB (col prs j))) (sl6 hb) (λj hj H2 Q' sm2 q'=>?_) λD2 H2 hD2 sm2 hDl2=>?_
     ·have hT2:=hT1.same sm2;refine ⟨_,rfl,_,rfl,t,prs,j,by rw [Int.zero_add],hT2,hn,λp hp=>by rw [hv p hp];exact hj,λD3 H3 hD3 sm3 r3=>⟨D3,col prs j,rfl,r3,?_,λH4 sm4=>q' H4 (sm3.trans sm4)⟩⟩;unfold col;rw [Yaa];exact hn
     ·refine ⟨D2,(List.range (w0 prs)).map λj=>nfB (col prs j),rfl,SqL.of (by rw [hDl2,Zhq]),?_⟩;have q1:=q H2 (sm.trans sm2);unfold srB at q1;rw [e1] at q1;exact q1
def Zb3:Sp:=λvs H Q _=>∃ (t:Addr) (prs:Prs),vs=[.ref t]/\Tab H t prs/\Sm prs/\∀ H',Same H H'->Q (.bl (tabB prs)) H'
theorem Zh7:FnScope ["thing"] ["thing"] (Zae ZeW):=⟨rfl,rfl,rfl,by decide +kernel,rfl,by decide +kernel,by decide +kernel⟩
theorem Zm5 {prs:Prs} (h:shB prs=true):1<=prs.length/\prs.length<=6/\(∀ p∈prs,1<=p.2.length/\p.2.length<=6)/\∀ p∈prs,p.2.length=w0 prs:=by
 unfold shB rowB at h;simp only [Yaj,decide_eq_true_eq,YaO,Yar,id] at h;obtain ⟨⟨h1,h2⟩,h3,h4⟩:=h;exact ⟨h1,h2,λp hp=>by simpa using h3 _ ⟨p,hp,rfl⟩,λp hp=>by simpa using h4 _ ⟨p,hp,rfl⟩⟩
theorem Zii (D:Zak K mg "is_table" ZeW ["thing"]) (G:FnAt P w K mg base 4 "has_table_shape" ["thing"] Zi5) (G2:FnAt P w K mg base 2 "is_sorted_both_ways" ["table"] ZgY):FnAt P w K mg base 5 "is_table" ["thing"] Zb3:=by
 refine FnAt.of D Zh7 (λvs H Q E h=>?_) (λf cdv A outer s H vs Q E hr h=>?_)
 ·obtain ⟨t,prs,rfl,_⟩:=h;rfl
 ·obtain ⟨t,prs,rfl,hT,hs,q⟩:=h;refine ⟨_,Zaf (Zal (ZbY (pe_f G hr (Zaa (pv 0) Zac)) (ZbF (pe_f G2 (hr.mono (by decide)) (Zaa (pv 0) Zac))))),?_⟩;refine ⟨_,rfl,t,prs,rfl,hT,hs,λH' sm=>⟨_,rfl,?_⟩⟩;cases e:shB prs with
  |false =>
   refine iteF ?_;have q1:=q H' sm;unfold tabB at q1;rw [e] at q1;exact q1
  |true =>
   obtain ⟨a1,a2,a3,a4⟩:=Zm5 e;refine iteT ⟨_,rfl,t,prs,rfl,hT.same sm,hs,a1,a4,λH2 sm2=>?_⟩;have q1:=q H2 (sm.trans sm2);unfold tabB at q1;rw [e] at q1;exact q1
def Za1:Sp:=λvs H Q _=>∃ (t:Addr) (prs:Prs),vs=[.ref t]/\Tab H t prs/\Sm prs/\tabB prs=true/\∀ H',Same H H'->Q .non H'
theorem Zfn:FnScope ["thing"] ["thing"] (Zae Zc0):=⟨rfl,rfl,rfl,by decide +kernel,rfl,by decide +kernel,by decide +kernel⟩
theorem Zfx (D:Zak K mg "need_table" Zc0 ["thing"]) (G:FnAt P w K mg base 5 "is_table" ["thing"] Zb3):FnAt P w K mg base 6 "need_table" ["thing"] Za1:=by
 refine FnAt.of D Zfn (λvs H Q E h=>?_) (λf cdv A outer s H vs Q E hr h=>?_)
 ·obtain ⟨t,prs,rfl,_⟩:=h;rfl
 ·obtain ⟨t,prs,rfl,hT,hs,hg,q⟩:=h;refine ⟨_,Zaf (Zay (ZaE (ZaB (pe_f G hr (Zaa (pv 0) Zac)))) Zaj Zah),?_⟩;refine ⟨_,rfl,t,prs,rfl,hT,hs,λH' sm=>⟨_,rfl,?_⟩⟩;rw [hg];exact iteF (q H' sm)
def Zbh:Sp:=λvs H Q _=>∃ i:Int,vs=[.int i]/\Q .non H
theorem Zen:FnScope ["thing"] ["thing"] (Zae ZcB):=⟨rfl,rfl,rfl,by decide +kernel,rfl,by decide +kernel,by decide +kernel⟩
theorem ZeA (D:Zak K mg "need_number" ZcB ["thing"]) (G:FnAt P w K mg base 1 "is_whole" ["thing"] Zbi):FnAt P w K mg base 2 "need_number" ["thing"] Zbh:=by
 refine FnAt.of D Zen (λvs H Q E h=>?_) (λf cdv A outer s H vs Q E hr h=>?_)
 ·obtain ⟨i,rfl,_⟩:=h;rfl
 ·obtain ⟨i,rfl,q⟩:=h;refine ⟨_,Zaf (Zay (ZaE (ZaB (pe_f G hr (Zaa (pv 0) Zac)))) Zaj Zah),?_⟩;exact ⟨_,rfl,i,rfl,_,rfl,iteF q⟩
end
open PySem L2 PyProof.Rows
def nfP (ns:List Int):Prop:=∀ i,i+1<ns.length->ns.getD i 0<=ns.getD (i+1) 0
theorem nfB_iff {ns:List Int}:nfB ns=true ↔ nfP ns:=by
 unfold nfB nfP;simp only [List.all_map,YaO,List.mem_range,Function.comp,id,decide_eq_true_eq];constructor
 ·intro h i hi;exact h i (by omega)
 ·intro h i hi;exact h i (by omega)
def ZbD (prs:Prs) (i:Nat):List Int:=((prs[i]?).map (·.2)).getD []
theorem Zb5 {prs:Prs}{i:Nat} (h:i<prs.length):∃ p∈prs,prs[i]? = some p/\ZbD prs i=p.2:=by
 refine ⟨prs[i],YaL h,by simp [h],?_⟩;unfold ZbD;rw [Yac h];rfl
theorem Zo1 (prs:Prs) (j:Nat):(col prs j).length=prs.length:=by
 unfold col;rw [Yaa]
theorem Znr {prs:Prs}{i j:Nat} (h:i<prs.length):(col prs j).getD i 0=(ZbD prs i).getD j 0:=by
 unfold col ZbD;rw [Yat,Yaf,Yac h];rfl
structure GoodP (wide:Nat) (prs:Prs):Prop where
 len:∀ p∈prs,p.2.length=wide
 row:∀ p∈prs,nfP p.2
 down:∀ i,i+1<prs.length->∀ j,j<wide->(ZbD prs i).getD j 0<=(ZbD prs (i+1)).getD j 0
theorem Zbb {prs:Prs} (h:tabB prs=true):GoodP (w0 prs) prs/\1<=prs.length/\prs.length<=6/\1<=w0 prs/\w0 prs<=6:=by
 unfold tabB at h;rw [Yaj] at h;obtain ⟨h1,h2,h3,h4⟩:=Zm5 h.1;obtain ⟨p,e1,e2,_⟩:=Zcx h1;have h5:=h3 p e2;have h6:=h4 p e2;have hs:=h.2;unfold srB at hs;simp only [Yaj,YaO,Yar,id] at hs;refine ⟨⟨h4,λp hp=>nfB_iff.mp (hs.1 _ ⟨p,hp,rfl⟩),λi hi j hj=>?_⟩,h1,h2,by omega,by omega⟩;have:=nfB_iff.mp (hs.2 _ ⟨j,List.mem_range.mpr hj,rfl⟩) i (by rw [Zo1];exact hi);rw [Znr (by omega),Znr hi] at this;exact this
open PySem L2 PyProof.Rows
open PySem L2 PyProof.Rows
theorem len1:1<=sizeLine:=by decide
theorem len2:2<=sizeLine:=by decide
theorem len3:3<=sizeLine:=by decide
section
variable {P:Program}{w:World}{K:Yab}{mg:Str->Option Value}{base:Heap}
def Zdx (K:Yab):Sp:=λvs H Q _=>∃ (a:Addr) (ns:List Int) (k:Nat),vs=[.ref a,.int (k:Nat)]/\SqL K H a (ns.map V.int)/\k<=100/\∀ c,Q (.int c) H
theorem ZlF:FnScope ["script","k"] ["script","k"] (Zae ZkT):=⟨rfl,rfl,rfl,by decide +kernel,rfl,by decide +kernel,by decide +kernel⟩
theorem Zma (T:Blt mg) (D:Zak K mg "_law_cell" ZkT ["script","k"]):FnAt P w K mg base 1 "_law_cell" ["script","k"] (Zdx K):=by
 refine FnAt.of D ZlF (λvs H Q E h=>?_) (λf cdv A outer s H vs Q E hr h=>?_)
 ·obtain ⟨a,ns,k,rfl,_⟩:=h;rfl
 ·obtain ⟨a,ns,k,rfl,hS,hk,q⟩:=h;refine ⟨_,Zab (Zay (Zap o_lt (pv 1) (pe_b Zao T.len boot_len (Zaa (pv 0) Zac)) (Zaq _)) (Zaf (Zal (Zar Zan (pv 0) (pv 1) (λ_ _=>rfl)))) Zah)
   (Zaf (Zal (Zax ZfC (Zax ZfC (Zax Zj1 (Zax Zj1 Zag (pv 1)) (pv 1)) (Zax Zj1 Zag (pv 1))) Zag))),?_⟩
  refine ⟨_,rfl,_,rfl,a,_,rfl,.inl hS,_,_,rfl,rfl,_,rfl,?_⟩;rw [Yaa];refine ite2 (λh1=>?_) (λh1=>?_)
  ·have h1:=of_decide_eq_true h1;exact ⟨_,rfl,_,rfl,a,_,_,_,rfl,rfl,hS,ZdY (by omega),q _⟩
  ·exact ⟨_,rfl,_,_,rfl,rfl,.inl ⟨by decide,by decide⟩,_,rfl,_,_,rfl,rfl,.inr ⟨by omega,by omega⟩,_,rfl,_,_,rfl,rfl,.inl ⟨by decide,by decide⟩,_,_,rfl,rfl,_,_,rfl,rfl,q _⟩
def Znv (H:Hp) (Q:VK) (rows:List (List Int)):Prop:=∀ t' prs' H',H t'=none->(∀ p∈prs',H p.1=none/\p.1≠t')->(prs'.map (·.1)).Nodup->Same H H'->Tab H' t' prs'->prs'.map (·.2)=rows->Q (.ref t') H'
theorem ZiW {prs prs':Prs} (h:prs'.map (·.2)=prs.map (·.2)):tabB prs'=tabB prs:=by
 have hl:prs'.length=prs.length:=by
  have:=congrArg List.length h;simpa using this
 have hm:∀ (f:List Int->Bool),(prs'.map λp=>f p.2)=(prs.map λp=>f p.2):=λf=>by
  have:=congrArg (List.map f) h;rw [Yau,Yau] at this;exact this
 have hm2:∀ (f:List Int->Int),(prs'.map λp=>f p.2)=(prs.map λp=>f p.2):=λf=>by
  have:=congrArg (List.map f) h;rw [Yau,Yau] at this;exact this
 have hw:w0 prs'=w0 prs:=by
  have:=congrArg (λl:List (List Int)=>(l.head?.map List.length).getD 0) h;simp only [List.head?_map,Option.map_map] at this;exact this
 have hc:∀ j,col prs' j=col prs j:=λj=>hm2 λns=>ns.getD j 0;unfold tabB shB srB;rw [hl,hw,hm rowB,hm λns=>decide (ns.length=w0 prs),hm nfB];simp only [hc]
def Zb4 (rows:List (List Int)):Bool:=tabB (rows.map λr=>((0:Addr),r))
theorem ZcH {prs:Prs}{rows:List (List Int)} (h:prs.map (·.2)=rows):tabB prs=Zb4 rows:=by
 unfold Zb4;refine ZiW ?_;rw [h,Yau];exact (List.map_id _).symm
theorem ZaO {prs:Prs} (h:tabB prs=true):Sm prs:=by
 obtain ⟨g,h1,h2,h3,h4⟩:=Zbb h;exact ⟨by omega,λp hp=>by rw [g.len p hp];omega⟩
end
open PySem L2 PyProof.Rows
def Zas (n:Int):Str:=Str.ofString (toString n)
def dg (m:Nat):List Nat:=(Nat.toDigits 10 m).map Char.toNat
theorem ZbL (m:Nat):∀ c∈dg m,48<=c/\c<=57:=λc hc=>by
 obtain ⟨ch,hch,e⟩:=Yar.mp hc;have r:=digit_range (Nat.isDigit_of_mem_toDigits (by decide) (by decide) hch);rw [<- e];exact r
theorem ZoU (m:Nat):dg m≠[]:=λe=>by
 have h:=toDigits_len_ge 10 m;rw [List.map_eq_nil_iff.mp e] at h;exact absurd h (by decide)
theorem ZkM (m:Nat):0<m->∃ c r,dg m=c :: r/\c≠48:=by
 induction m using Nat.strongRecOn with
 |_ m ih =>
  intro h0
  by_cases h:m<10
  ·refine ⟨(Nat.digitChar m).toNat,[],?_,?_⟩
   ·unfold dg;rw [Nat.toDigits_of_lt_base h];rfl
   ·have:∀ k:Nat,k<10->0<k->(Nat.digitChar k).toNat≠48:=by decide
    exact this m h h0
  ·have hm:m % 10<10:=Ybl m (by decide);have t:Nat.toDigits 10 (m / 10) ++ Nat.toDigits 10 (m % 10)=Nat.toDigits 10 (10 * (m / 10)+m % 10):=Nat.toDigits_append_toDigits (by decide) (by omega) hm;rw [Nat.div_add_mod] at t;obtain ⟨c,r,e,hc⟩:=ih (m / 10) (by omega) (by omega);refine ⟨c,r ++ (Nat.toDigits 10 (m % 10)).map Char.toNat,?_,hc⟩;unfold dg at e ⊢;rw [<- t,Yah,e];rfl
theorem Zbc (m:Nat):(Zas (m:Int)).cps.toList=dg m:=PySem.W.KIN.signs_num m
theorem ZbH (m:Nat):(Zas (Int.negSucc m)).cps.toList=45 :: dg (m+1):=by
 unfold Zas;rw [signs_ofString];show ("-" ++ Nat.repr (m+1)).toList.map Char.toNat=_;rw [String.toList_append,Yah,Nat.toList_repr];rfl
theorem ZaN (x:Str):x.cps.toList.length=x.length:=YaD
theorem Zno {m k:Nat} (h:m<10 ^ k) (hk:1<=k):(dg m).length<=k:=by
 rw [<- Zbc,ZaN];exact toString_length_le (Ybc _) hk (by exact_mod_cast h)
theorem Zj2 {n:Int}{k:Nat} (h:n.natAbs<10 ^ k) (hk:1<=k):(Zas n).length<=k+1:=by
 rw [<- ZaN];cases n with
 |ofNat m =>
  rw [show Int.ofNat m=(m:Int) from rfl,Zbc];exact Nat.le_succ_of_le (Zno h hk)
 |negSucc m =>
  rw [ZbH,YaC];exact Nat.succ_le_succ (Zno h hk)
theorem ZbP {n:Int} (hl:(Zas n).length<=4300):intText? (Zas n)=some n:=by
 cases n with
 |ofNat m =>
  have e:=PySem.intText_digits (x:=Zas (m:Int)) (by rw [Zbc];exact ZbL m) (by rw [Zbc];exact ZoU m) hl;rw [Zbc] at e;exact e.trans (by rw [show PySem.NumText.digitsVal (dg m)=m from PySem.W.KIN.val_back m];rfl)
 |negSucc m =>
  have e:=PySem.intText_neg (x:=Zas (Int.negSucc m)) (ZbH m) (ZbL _) (ZoU _) hl;exact e.trans (by rw [show PySem.NumText.digitsVal (dg (m+1))=m+1 from PySem.W.KIN.val_back (m+1)];rfl)
theorem Zmg {n:Int}{c:Nat} (hc:c<45):c∉(Zas n).cps.toList:=λh=>by
 cases n with
 |ofNat m =>
  rw [show Int.ofNat m=(m:Int) from rfl,Zbc] at h;have:=ZbL m c h;omega
 |negSucc m =>
  rw [ZbH] at h;rcases YaF.mp h with z | z
  ·omega
  ·have:=ZbL _ c z;omega
theorem Zbl (c:Nat) (w:Str):∀ r:List Str,(Str.join ⟨#[c]⟩ (w :: r)).cps.toList=w.cps.toList ++ (match r with | []=>[] | x :: y=>c :: (Str.join ⟨#[c]⟩ (x :: y)).cps.toList)
 | []=>by simp [Str.join]
 |x :: y=>by
  rw [join_cons_cons];show ((w.cps ++ #[c]) ++ (Str.join ⟨#[c]⟩ (x :: y)).cps).toList=_;simp
theorem ZhA {c:Nat}:∀ {a b a' b':List Nat},c∉a->c∉a'->a ++ c :: b=a' ++ c :: b'->a=a'/\b=b'
 | [],b,[],b',_,_,e=>by simpa using e
 | [],b,x :: a',b',_,h,e=>by
  injection e with e1 e2;exact absurd (by rw [e1];exact .head _) h
 |x :: a,b,[],b',h,_,e=>by
  injection e with e1 e2;exact absurd (by rw [<- e1];exact .head _) h
 |x :: a,b,y :: a',b',h,h',e=>by
  injection e with e1 e2;obtain ⟨z1,z2⟩:=ZhA (λz=>h (.tail _ z)) (λz=>h' (.tail _ z)) e2;exact ⟨by rw [e1,z1],z2⟩
theorem Zdr {a b:Str} (h:a.cps.toList=b.cps.toList):a=b:=Str.ext' (Array.toList_inj.mp h)
theorem Zhw (c:Nat):∀ (ps ws:List Str),ps≠[]->ws≠[]->(∀ p∈ps,c∉p.cps.toList)->(∀ p∈ws,c∉p.cps.toList)->(Str.join ⟨#[c]⟩ ps).cps.toList=(Str.join ⟨#[c]⟩ ws).cps.toList->ps=ws
 | [],_,h,_,_,_,_=>absurd rfl h
 |_,[],_,h,_,_,_=>absurd rfl h
 | [p],[w],_,_,_,_,e=>by
  rw [show p=w from Zdr e]
 | [p],w :: x :: r,_,_,hp,_,e=>by
  rw [Zbl,Zbl] at e;exfalso;simp only [List.append_nil] at e;exact hp p (.head _) (by rw [e];simp)
 |p :: x :: r,[w],_,_,_,hw,e=>by
  rw [Zbl,Zbl] at e;exfalso;simp only [List.append_nil] at e;exact hw w (.head _) (by rw [<- e];simp)
 |p :: x :: r,w :: y :: t,_,_,hp,hw,e=>by
  rw [Zbl,Zbl] at e;obtain ⟨z1,z2⟩:=ZhA (hp p (.head _)) (hw w (.head _)) e;rw [show p=w from Zdr z1,Zhw c (x :: r) (y :: t) (by simp) (by simp) (λq hq=>hp q (.tail _ hq)) (λq hq=>hw q (.tail _ hq)) z2]
theorem ZgV (z y:Str):Txt.split z y≠[]:=by
 unfold Txt.split;split
 ·simp
 ·split
  ·simp
  ·rw [StrLaws.partsBetween_eq];obtain ⟨p,r,e⟩:=StrLaws.partsFrom_ne z y.length 0 (Builtin.Str.occurrences z y 0 z.length (z.length+1));rw [e];simp
theorem ZcQ {c:Nat}{ws:List Str} (h:ws≠[]) (hf:∀ w∈ws,c∉w.cps.toList):Txt.split (Txt.join ⟨#[c]⟩ ws) ⟨#[c]⟩=ws:=by
 refine Zhw c _ _ (ZgV _ _) h (StrLaws.split_free _ c) hf ?_;rw [StrLaws.join_split];show (Builtin.Str.glued _ _).cps.toList=_;rw [StrLaws.glued_eq_join]
open PySem L2 PyProof.Rows
theorem ZhR {z:Str}{σ0:L2.St}{H1:Hp}{te:TE}{Q:VK} (f:Nat->V) (hn:z.length<=1000) (he:∀ c∈z.cps.toList,∀ (H':Hp) (Q':VK),Same H1 H'->(∀ H'',Same H' H''->Q' (f c) H'')->te (σ0.set 0 (some (.str ⟨#[c]⟩))) H' Q')
  (fin:∀ D H',H1 D=none->Same H1 H'->H' D=some (.lst (z.cps.toList.map f))->Q (.ref D) H'):ZaR (Its z) (ZaT 0) Zbe te σ0 H1 Q:=by
 intro D hD;refine ZbU (n:=z.cps.size) (λi ys H'=>Same H1 H'/\H' D=some (.lst ys)/\ys=(z.cps.toList.take i).map f) ⟨Same.new hD,Zad,by simp⟩ (λi ys H' _ q=>q.2.1) (λi ys H' hi _=>hi) (λys H' _=>Yag _) ?_ ?_
 ·rintro i ys H' x H2 hi ⟨s1,eD,rfl⟩ ⟨rfl,c,hc,rfl⟩;unfold Zbe;refine iteT ?_;have hl:i<z.cps.toList.length:=by simpa using hi
  have hc':z.cps.toList[i]? = some c:=by rw [Ybi];exact hc
  have hm:c∈z.cps.toList:=YaP hc';refine he c hm _ _ s1 λH'' s2=>⟨s2 _ _ eD,?_,(s1.trans s2).upd hD,Zad,?_⟩
  ·rw [Yaa,YaR];have:z.cps.toList.length=z.length:=ZaN z;exact ZaD (by omega)
  ·rw [List.take_add_one,hc',Yah];rfl
 ·rintro ys H' ⟨s1,eD,rfl⟩;rw [show z.cps.size=z.cps.toList.length by simp,List.take_length] at eD;exact fin D H' hD s1 eD
theorem ZhQ {K:Yab}{a:Addr}{α:Type}{ms:List α}{σ0:L2.St}{H1:Hp}{te:TE}{Q:VK} (u:α->V) (f:α->List Int) (hq:SqL K H1 a (ms.map u)) (hn:ms.length<=1000)
  (he:∀ m∈ms,∀ (H':Hp) (Q':VK),Same H1 H'->(∀ p H'',H' p=none->Same H' H''->Row H'' p (f m)->Q' (.ref p) H'')->te (σ0.set 0 (some (u m))) H' Q')
  (fin:∀ t prs H',H1 t=none->(∀ p∈prs,H1 p.1=none/\p.1≠t)->(prs.map (·.1)).Nodup->Same H1 H'->Tab H' t prs->prs.map (·.2)=ms.map f->Q (.ref t) H'):ZaR (Itl K a) (ZaT 0) Zbe te σ0 H1 Q:=by
 intro D hD;refine ZbU (n:=ms.length) (λi ys H'=>∃ qs:Prs,Same H1 H'/\H' D=some (.lst ys)/\ys=(qs.map λp=>V.ref p.1)/\qs.length=i/\qs.map (·.2)=(ms.take i).map f/\(∀ p∈qs,Row H' p.1 p.2/\H1 p.1=none/\p.1≠D)/\(qs.map (·.1)).Nodup)
  ⟨[],Same.new hD,Zad,rfl,rfl,by simp,λp hp=>(nomatch hp),.nil⟩ (λi ys H' _ ⟨_,_,h,_⟩=>h) (λi ys H' hi ⟨_,sm,_⟩=>⟨_,u ms[i],sm.seq hq,by simp [hi]⟩) (λys H' ⟨_,sm,_⟩=>⟨_,sm.seq hq,by simp⟩) ?_ (λys H' h=>?_)
 ·rintro i ys H' x H2 hi ⟨qs,sm,hDl,rfl,hql,hqm,hq',hnd⟩ ⟨rfl,hy⟩;have hx:=hy _ (sm.seq hq);rw [Yaf,Yac hi] at hx;have hx:u ms[i]=x:=Yae hx;subst hx;unfold Zbe;refine iteT ?_;refine he ms[i] (YaL hi) _ _ sm λl H'' hl s2 hR=>?_;have nlD:D≠l:=Zav hDl hl;refine ⟨s2 _ _ hDl,?_,qs ++ [(l,f ms[i])],(sm.trans s2).upd hD,Zad,?_,?_,?_,?_,?_⟩
  ·rw [Yaa,hql];exact ZaD (by omega)
  ·rw [Yah];rfl
  ·rw [Yak,YaI,hql]
  ·rw [Yah,hqm,List.take_add_one,Yac hi,Yah];rfl
  ·intro p hp;rcases YaG.mp hp with z | z
   ·obtain ⟨z1,z2,z3⟩:=hq' p z;refine ⟨?_,z2,z3⟩;unfold Row;rw [Zai z3];exact s2 _ _ z1
   ·rw [YaJ.mp z];refine ⟨?_,sm.free hl,Ne.symm nlD⟩;unfold Row;rw [Zai (Ne.symm nlD)];exact hR
  ·rw [Yah,List.nodup_append];refine ⟨hnd,by simp,λa ha b hb z=>?_⟩;obtain ⟨p,hp,rfl⟩:=Yar.mp ha;rw [List.map_singleton,YaJ] at hb;have e:p.1=l:=z.trans hb;have hR:=(hq' p hp).1;unfold Row at hR;rw [e,hl] at hR;cases hR
 ·obtain ⟨qs,sm,hDl,rfl,hql,hqm,hq',hnd⟩:=h;rw [List.take_length] at hqm;exact fin D qs H' hD (λp hp=>(hq' p hp).2) hnd sm ⟨hDl,λp hp=>(hq' p hp).1⟩ hqm
open PySem L2 PyProof.Rows
def Zd3 (l:List Nat):Bool:=(!l.isEmpty && l.all λc=>decide (48<=c) && decide (c<=57)) && (decide (l=[48]) || decide (l.head?≠some 48))
def ZcL (l:List Nat):Bool:=if l.head? = some 45 then decide (l≠[45,48]) && Zd3 l.tail else Zd3 l
theorem ZoT {m c:Nat} (hm:0<m) (h1:48<=c) (h2:c<=57):dg (10 * m+(c - 48))=dg m ++ [c]:=by
 have hk:c - 48<10:=by omega
 have t:Nat.toDigits 10 m ++ Nat.toDigits 10 (c - 48)=Nat.toDigits 10 (10 * m+(c - 48)):=Nat.toDigits_append_toDigits (by decide) hm hk;unfold dg;rw [<- t,Yah,Nat.toDigits_of_lt_base hk];have:∀ k:Nat,k<10->(Nat.digitChar k).toNat=k+48:=by decide
 rw [Yaw,this _ hk,List.map_nil,show c - 48+48=c by omega]
theorem Zrb {c:Nat} (h1:48<=c) (h2:c<=57):dg (c - 48)=[c]:=by
 have hk:c - 48<10:=by omega
 unfold dg;rw [Nat.toDigits_of_lt_base hk];have:∀ k:Nat,k<10->(Nat.digitChar k).toNat=k+48:=by decide
 rw [Yaw,this _ hk,List.map_nil,show c - 48+48=c by omega]
theorem ZkF:∀ (n:Nat) (l:List Nat),l.length=n+1->(∀ c∈l,48<=c/\c<=57)->l.head?≠some 48->∃ m,0<m/\l=dg m
 | 0,l,hl,hd,hh=>by
  match l,hl with
  | [c],_ =>
   have:=hd c (by simp);have hc:c≠48:=λz=>hh (by rw [z];rfl);exact ⟨c - 48,by omega,(Zrb this.1 this.2).symm⟩
 |n+1,l,hl,hd,hh=>by
  have hne:l≠[]:=λz=>by rw [z] at hl;simp at hl
  obtain ⟨l',c,rfl⟩:∃ l' c,l=l' ++ [c]:=⟨l.dropLast,l.getLast hne,(List.dropLast_concat_getLast hne).symm⟩;have hl':l'.length=n+1:=by rw [Yak] at hl;simpa using hl
  have hh':l'.head?≠some 48:=λz=>hh (by
   match l',hl' with
   |x :: r,_=>exact z)
  obtain ⟨m,m0,e⟩:=ZkF n l' hl' (λd h=>hd d (YaA _ h)) hh';have:=hd c (by simp);exact ⟨10 * m+(c - 48),by omega,by rw [ZoT m0 this.1 this.2,<- e]⟩
theorem Zns {l:List Nat} (h:Zd3 l=true):∃ m,l=dg m:=by
 unfold Zd3 at h;rw [Yaj,Yaj,Bool.or_eq_true] at h;obtain ⟨⟨h1,h2⟩,h3⟩:=h;have hd:∀ c∈l,48<=c/\c<=57:=λc hc=>by
  have:=YaO.mp h2 c hc;simpa using this
 rcases h3 with h3 | h3
 ·exact ⟨0,by rw [of_decide_eq_true h3];decide⟩
 ·have hl:∃ n,l.length=n+1:=by
   match l,h1 with
   |x :: r,_=>exact ⟨r.length,rfl⟩
  obtain ⟨n,hn⟩:=hl;obtain ⟨m,_,e⟩:=ZkF n l hn hd (of_decide_eq_true h3);exact ⟨m,e⟩
theorem Znp (m:Nat):Zd3 (dg m)=true:=by
 unfold Zd3;rw [Yaj,Yaj,Bool.or_eq_true];refine ⟨⟨?_,?_⟩,?_⟩
 ·have:=ZoU m;cases h:dg m with
  |nil=>exact absurd h this
  |cons x r=>rfl
 ·rw [YaO];intro c hc;have:=ZbL m c hc;simpa using this
 ·rcases Nat.eq_zero_or_pos m with z | z
  ·subst z;exact .inl (by decide)
  ·obtain ⟨c,r,e,hc⟩:=ZkM m z;refine .inr (Ya4 ?_);rw [e];intro k;injection k with k;exact hc k
theorem Zrc (m:Nat):(dg m).head?≠some 45:=λz=>by
 have:(45:Nat)∈dg m:=by
  cases h:dg m with
  |nil=>rw [h] at z;cases z
  |cons x r =>
   rw [h] at z;injection z with z;rw [z];exact YaM
 have:=ZbL m 45 this;omega
theorem Zqx (n:Int):ZcL (Zas n).cps.toList=true:=by
 cases n with
 |ofNat m =>
  rw [show Int.ofNat m=(m:Int) from rfl,Zbc];unfold ZcL;rw [Ya6 (Zrc m)];exact Znp m
 |negSucc m =>
  rw [ZbH];unfold ZcL;rw [Ya7 (show (45 :: dg (m+1)).head? = some 45 from rfl),Yaj];refine ⟨Ya4 λz=>?_,Znp _⟩;injection z with _ z;obtain ⟨c,r,e,hc⟩:=ZkM (m+1) (by omega);rw [e] at z;injection z with z _;exact hc z
theorem Zqw {w:Str} (h:ZcL w.cps.toList=true):∃ n:Int,w=Zas n:=by
 unfold ZcL at h
 by_cases hh:w.cps.toList.head? = some 45
 ·rw [Ya7 hh,Yaj] at h;obtain ⟨h1,h2⟩:=h;obtain ⟨m,e⟩:=Zns h2;have hw:w.cps.toList=45 :: dg m:=by
   cases hl:w.cps.toList with
   |nil=>rw [hl] at hh;cases hh
   |cons x r =>
    rw [hl] at hh e;injection hh with hh;rw [hh,<- e];rfl
  match m,hw with
  | 0,hw=>exact absurd hw (of_decide_eq_true h1)
  |k+1,hw=>exact ⟨Int.negSucc k,Zdr (by rw [hw,ZbH])⟩
 ·rw [Ya6 hh] at h;obtain ⟨m,e⟩:=Zns h;exact ⟨(m:Int),Zdr (by rw [e,Zbc])⟩
theorem Zd7:∀ {ws:List Str},(∀ w∈ws,ZcL w.cps.toList=true)->∃ ns:List Int,ws=ns.map Zas
 | [],_=>⟨[],rfl⟩
 |w :: ws,h=>by
  obtain ⟨n,e⟩:=Zqw (h w (by simp));obtain ⟨ns,es⟩:=Zd7 (ws:=ws) λv hv=>h v (Yas _ hv);exact ⟨n :: ns,by rw [e,es];rfl⟩
open PySem L2 PyProof.Rows
abbrev figS:Str := "0123456789"
theorem e_l:(Str.ofString "").cps.toList=[]:=by decide +kernel
theorem z_l:(Str.ofString "0").cps.toList=[48]:=by decide +kernel
theorem m_l:(Str.ofString "-").cps.toList=[45]:=by decide +kernel
theorem mz_l:(Str.ofString "-0").cps.toList=[45,48]:=by decide +kernel
theorem Zlp (x:Str):Txt.startswith x "-" = decide (x.cps.toList.head? = some 45):=by
 have h:Txt.startswith x "-" = (decide (0+(Str.ofString "-").length<=x.length) && Builtin.Str.subAt x "-" 0):=rfl;rw [h,StrLaws.subAt_eq,m_l,<- ZaN x,<- ZaN (Str.ofString "-"),m_l];cases e:x.cps.toList with
 |nil=>simp
 |cons c r =>
  simp only [List.drop_zero,YaC,List.length_nil,List.head?_cons,Option.some.injEq]
  by_cases hc:c=45
  ·subst hc;simp
  ·rw [Ya5 hc];simp [hc]
section
variable {P:Program}{w:World}{K:Yab}{mg:Str->Option Value}{base:Heap}{c:Addr}
theorem Zq0 (c:Nat):(!(Builtin.Str.occurrences figS ⟨#[c]⟩ 0 figS.length 1).isEmpty)=(decide (48<=c) && decide (c<=57)):=by
 rw [StrLaws.found_one];have e:figS.cps.toList=List.range' 48 10:=by decide +kernel
 rw [e,Bool.eq_iff_iff,YaN,Yaj,YaN,YaN,List.mem_range'_1];omega
theorem vstr_iff {x y:Str}:(V.str x=V.str y) ↔ x.cps.toList=y.cps.toList:=⟨λz=>by injection z with z;rw [z],λz=>by rw [Zdr z]⟩
def ZnM:Sp:=λvs H Q _=>∃ (x:Str),vs=[.str x]/\x.length<=1000/\∀ H',Same H H'->Q (.bl (Zd3 x.cps.toList)) H'
theorem ZpH:FnScope ["word"] ["word"] (Zae ZeS):=⟨rfl,rfl,rfl,by decide +kernel,rfl,by decide +kernel,by decide +kernel⟩
theorem Zie (T:Blt mg) (hf:∃ t,mg "FIGURES" = some (.str figS t)) (D:Zak K mg "writes_count" ZeS ["word"]):FnAt P w K mg base 1 "writes_count" ["word"] ZnM:=by
 refine FnAt.of D ZpH (λvs H Q E h=>?_) (λf cdv A outer s H vs Q E hr h=>?_)
 ·obtain ⟨x,rfl,_⟩:=h;rfl
 ·obtain ⟨x,rfl,hl,q⟩:=h;obtain ⟨tf,hf⟩:=hf;have nd1:(["sign"]:List Str).Nodup:=by decide +kernel
  refine ⟨_,Zab (Zay (PW.pt (Zb1 (Zap Za4 (pv 0) Zam (Zaq _)) (Zby (ZaE (ZaB (pe_b (Za0 rfl) T.all boot_all (Zaa (Zaz ["sign"] [none] (Zae ZeS) ["word"] rfl (Zm8 (pv 0)) (by decide +kernel)
    (λcl C s2 H2 ex=>pg_c 0 nd1) (λcl C s2 H2 ex=>Zaw) (λcl C s2 H2 ex=>Zbn ZdF (pv 0) (ZaL (v:=.str figS) rfl hf ⟨_,rfl⟩) rfl)) Zac))))))) (Zaf (Zal ZbG)) Zah)
   (Zaf (Zal (Zp2 (Zbn Za4 (pv 0) Zam (Zaq _)) (ZbF (Zbn Zgm (Zar Zkx (pv 0) Zag (λ_ _=>rfl)) Zam (Zaq _)))))),?_⟩
  refine ⟨_,rfl,rfl,_,rfl,?_⟩
  by_cases he:V.str x=V.str ""
  ·rw [Ya4 he];have e:x.cps.toList=[]:=by rw [vstr_iff.mp he,e_l]
   rw [e] at q;exact iteT (iteT (q H (Same.refl _)))
  ·rw [Ya5 he];have hne:x.cps.toList≠[]:=λz=>he (vstr_iff.mpr (by rw [z,e_l]));refine iteF ⟨_,rfl,x,rfl,ZhR (λc=>V.bl (decide (48<=c) && decide (c<=57))) hl (λc hc H' Q' sm q'=>⟨_,rfl,_,_,rfl,rfl,?_⟩) λD H1 hD s1 hDl=>?_⟩
   ·rw [Zq0];exact q' _ (Same.refl _)
   ·refine ⟨D,x.cps.toList.map λc=>(decide (48<=c) && decide (c<=57)),rfl,SqL.of (by rw [hDl,Yau];rfl),⟨_,rfl,?_⟩⟩;have ea:((x.cps.toList.map λc=>(decide (48<=c) && decide (c<=57))).all id)=x.cps.toList.all λc=>(decide (48<=c) && decide (c<=57)):=by rw [List.all_map];rfl
    rw [ea];unfold Zd3 at q;have hie:(!x.cps.toList.isEmpty)=true:=by
     cases h:x.cps.toList with
     |nil=>exact absurd h hne
     |cons a r=>rfl
    rw [hie,Bool.true_and] at q;cases hall:(x.cps.toList.all λc=>(decide (48<=c) && decide (c<=57))) with
    |false =>
     rw [hall,Bool.false_and] at q;exact iteT (q H1 s1)
    |true =>
     rw [hall,Bool.true_and] at q;refine iteF ⟨_,rfl,rfl,_,rfl,?_⟩
     by_cases h0:V.str x=V.str "0"
     ·have e0:x.cps.toList=[48]:=by rw [vstr_iff.mp h0,z_l]
      rw [Ya4 h0];rw [Ya4 e0,Bool.true_or] at q;exact iteT (q H1 s1)
     ·have e0:x.cps.toList≠[48]:=λz=>h0 (vstr_iff.mpr (by rw [z,z_l]));rw [Ya5 h0];rw [Ya5 e0,Bool.false_or] at q;obtain ⟨a,r,ar⟩:∃ a r,x.cps.toList=a :: r:=by
       cases h:x.cps.toList with
       |nil=>exact absurd h hne
       |cons a r=>exact ⟨a,r,rfl⟩
      refine iteF ⟨_,rfl,x,((0:Nat):Int),a,rfl,rfl,sl6 hl,Zbu (j:=0) (by rw [ar];rfl),rfl,?_⟩;rw [ar] at q;have eq1:(!decide (V.str ⟨#[a]⟩=V.str "0"))=decide ((a :: r).head?≠some 48):=by
       rw [show (a :: r).head? = some a from rfl]
       by_cases ha:a=48
       ·subst ha;rw [Ya4 (vstr_iff.mpr (by rw [z_l]))];simp
       ·rw [Ya5 (λz=>ha (by have:=vstr_iff.mp z;rw [z_l] at this;simpa using this)),Ya4 (show ¬ (some a=some 48) from λz=>ha (by injection z))];rfl
      rw [eq1];exact q H1 s1
def Zls:Sp:=λvs H Q _=>∃ (x:Str),vs=[.str x]/\x.length<=1000/\∀ H',Same H H'->Q (.bl (ZcL x.cps.toList)) H'
theorem ZpG:FnScope ["word"] ["word"] (Zae ZeR):=⟨rfl,rfl,rfl,by decide +kernel,rfl,by decide +kernel,by decide +kernel⟩
theorem ZpE {x:Str} (h:x.cps.toList≠[]):(Txt.slice x (some 1) none).cps.toList=x.cps.toList.tail:=by
 obtain ⟨a,r,ar⟩:∃ a r,x.cps.toList=a :: r:=by
  cases h':x.cps.toList with
  |nil=>exact absurd h' h
  |cons a r=>exact ⟨a,r,rfl⟩
 have hh:=StrLaws.sliceText_from (x:=x) (i:=1) ⟨by decide,by rw [ar,YaC];omega⟩;rw [show Txt.slice x (some 1) none=StrLaws.sliceText x (some 1) none from rfl,hh,ar,YaC];have:((r.length+1:Nat) - 1:Int).toNat=r.length:=by omega
 rw [this,show (1:Int).toNat=1 from rfl,List.drop_succ_cons,List.drop_zero,List.take_length];rfl
theorem Zgn (D:Zak K mg "writes_number" ZeR ["word"]) (G:FnAt P w K mg base 1 "writes_count" ["word"] ZnM):FnAt P w K mg base 2 "writes_number" ["word"] Zls:=by
 refine FnAt.of D ZpG (λvs H Q E h=>?_) (λf cdv A outer s H vs Q E hr h=>?_)
 ·obtain ⟨x,rfl,_⟩:=h;rfl
 ·obtain ⟨x,rfl,hl,q⟩:=h;refine ⟨_,Zab (Zay (ZaB (Zbp F.plainAttrs_str F.slot_str_startswith F.type_str_startswith ZfD (pv 0) (Zaa Zam Zac))) (Zaf (Zal (ZbY (Zbn Zgm (pv 0) Zam (Zaq _)) (ZbF (pe_f G hr (Zaa (Zcf Zfl (pv 0) (ZcU Zag) ZcV) Zac)))))) Zah)
   (Zaf (Zal (pe_f G hr (Zaa (pv 0) Zac)))),?_⟩
  refine ⟨_,rfl,rfl,_,_,rfl,rfl,_,rfl,?_⟩;rw [Zlp];unfold ZcL at q
  by_cases hh:x.cps.toList.head? = some 45
  ·rw [Ya4 hh];rw [Ya7 hh] at q;have hne:x.cps.toList≠[]:=λz=>by rw [z] at hh;cases hh
   refine iteT ⟨_,rfl,rfl,_,rfl,?_⟩
   by_cases h0:V.str x=V.str "-0"
   ·have e0:x.cps.toList=[45,48]:=by rw [vstr_iff.mp h0,mz_l]
    rw [Ya4 h0];rw [show decide (x.cps.toList≠[45,48])=false from Ya5 (λz=>z e0),Bool.false_and] at q;exact iteF (q H (Same.refl _))
   ·have e0:x.cps.toList≠[45,48]:=λz=>h0 (vstr_iff.mpr (by rw [z,mz_l]));rw [Ya5 h0];rw [show decide (x.cps.toList≠[45,48])=true from Ya4 e0,Bool.true_and,<- ZpE hne] at q;exact iteT ⟨_,rfl,_,rfl,_,rfl,sl6 hl,_,rfl,Yay (Txt.slice_le x _ _) hl,q⟩
  ·rw [Ya5 hh];rw [Ya6 hh] at q;exact iteF ⟨_,rfl,x,rfl,hl,q⟩
end
open PySem L2 PyProof.Rows
theorem Za7:bootBuiltins "str" = some (.type "str"):=by kernel_rfl
theorem ZbN:(Str.ofString " ")=⟨#[32]⟩:=by decide +kernel
theorem ZqD:(Str.ofString "\n")=⟨#[10]⟩:=by decide +kernel
def rowS (r:List Int):Str:=Txt.join " " (r.map Zas)
def tabS (rows:List (List Int)):Str:=Txt.join "\n" (rows.map rowS)
theorem ZcC (c:Nat) (ws:List Str):Txt.join ⟨#[c]⟩ ws=Str.join ⟨#[c]⟩ ws:=StrLaws.glued_eq_join _ _
theorem ZeI {c B:Nat}{ws:List Str} (h:∀ w∈ws,w.length<=B):(Txt.join ⟨#[c]⟩ ws).length<=ws.length * (B+1):=by
 rw [ZcC];have h1:=StrLaws.join_length_le ⟨#[c]⟩ ws;have h2:=StrLaws.sumLen_le (B:=B) ws h;have h3:(⟨#[c]⟩:Str).length=1:=rfl;rw [h3] at h1;rw [Nat.mul_add];omega
theorem ZdL {c B:Nat}{ws:List Str} (h:∀ w∈ws,w.length<=B) (hz:ws.length * (B+1)<=1000000):JoinOk ⟨#[c]⟩ ws=true:=by
 unfold JoinOk;rw [Bool.not_eq_true'];refine StrLaws.joinFits h ?_;have h3:(⟨#[c]⟩:Str).length=1:=rfl;rw [h3];rw [Nat.mul_add] at hz;omega
theorem ZlL {r:List Int}{B:Nat} (h:∀ n∈r,(Zas n).length<=B):(rowS r).length<=r.length * (B+1):=by
 unfold rowS;rw [ZbN];have:=ZeI (c:=32) (ws:=r.map Zas) (B:=B) (λw hw=>by
  obtain ⟨n,hn,rfl⟩:=Yar.mp hw
  exact h n hn)
 rw [Yaa] at this;exact this
theorem ZcT {r:List Int} (h:r≠[]):Txt.split (rowS r) " " = r.map Zas:=by
 unfold rowS;rw [ZbN];exact ZcQ (by simpa using h) λw hw=>by
  obtain ⟨n,hn,rfl⟩:=Yar.mp hw;exact Zmg (by decide)
theorem Zlk {rows:List (List Int)}{B M:Nat} (h:∀ r∈rows,(rowS r).length<=B) (hM:rows.length * (B+1)<=M):(tabS rows).length<=M:=by
 unfold tabS;rw [ZqD];have:=ZeI (c:=10) (ws:=rows.map rowS) (B:=B) (λw hw=>by
  obtain ⟨r,hr,rfl⟩:=Yar.mp hw
  exact h r hr)
 rw [Yaa] at this;omega
theorem Zhv {c:Nat}:∀ {ws:List Str},∀ w∈ws,w.cps.toList.length<=(Str.join ⟨#[c]⟩ ws).cps.toList.length
 | [w],v,h=>by
  rw [YaJ.mp h];exact Yag _
 |w :: x :: r,v,h=>by
  rw [Zbl,Yak,YaC];rcases YaF.mp h with z | z
  ·rw [z];exact Nat.le_add_right _ _
  ·have:=Zhv (c:=c) (ws:=x :: r) v z;omega
theorem Zhx {c:Nat}:∀ {ws:List Str},ws.length<=(Str.join ⟨#[c]⟩ ws).cps.toList.length+1
 | []=>YaH _
 | [w]=>by simp
 |w :: x :: r=>by
  rw [Zbl,Yak];have:=Zhx (c:=c) (ws:=x :: r);show (x :: r).length+1<=w.cps.toList.length+((Str.join ⟨#[c]⟩ (x :: r)).cps.toList.length+1)+1;omega
theorem Zdg {x:Str}{c:Nat}:∀ w∈Txt.split x ⟨#[c]⟩,w.length<=x.length:=λw hw=>by
 have:=Zhv (c:=c) w hw;rw [StrLaws.join_split,ZaN,ZaN] at this;exact this
theorem Zew (x:Str) (c:Nat):(Txt.split x ⟨#[c]⟩).length<=x.length+1:=by
 have:=Zhx (c:=c) (ws:=Txt.split x ⟨#[c]⟩);rw [StrLaws.join_split,ZaN] at this;exact this
def ZfH (x:Str):Bool:=(Txt.split x " ").all λw=>ZcL w.cps.toList
theorem ZoH {x:Str} (h:ZfH x=true):∃ ns:List Int,ns≠[]/\x=rowS ns/\Txt.split x " " = ns.map Zas:=by
 obtain ⟨ns,e⟩:=Zd7 (ws:=Txt.split x " ") λw hw=>YaO.mp h w hw;refine ⟨ns,λz=>ZgV x " " (by rw [e,z];rfl),?_,e⟩;unfold rowS;rw [<- e,ZbN,ZcC,StrLaws.join_split]
def Zpg (x:Str):Bool:=(Txt.split x "\n").all ZfH
section
variable {P:Program}{w:World}{K:Yab}{mg:Str->Option Value}{base:Heap}{c:Addr}
def Zlv:Sp:=λvs H Q _=>∃ (x:Str) (ns:List Int),vs=[.str x]/\x.length<=600/\Txt.split x " " = ns.map Zas/\∀ p H',H p=none->Same H H'->Row H' p ns->Q (.ref p) H'
theorem sc_rrA:FnScope ["line","words"] ["line"] (Zae ZbR):=⟨rfl,rfl,rfl,by decide +kernel,rfl,by decide +kernel,by decide +kernel⟩
theorem Zgq (T:Blt mg) (D:Zak K mg "read_row" ZbR ["line"]) (G:FnAt P w K mg base 2 "writes_number" ["word"] Zls):FnAt P w K mg base 3 "read_row" ["line"] Zlv:=by
 refine FnAt.of D sc_rrA (λvs H Q E h=>?_) (λf cdv A outer s H vs Q E hr h=>?_)
 ·obtain ⟨x,ns,rfl,_⟩:=h;rfl
 ·obtain ⟨x,ns,rfl,hl,hw,q⟩:=h;have nd:=sc_rrA.nd;have nd1:(["word"]:List Str).Nodup:=by decide +kernel
  have wl:∀ n∈ns,(Zas n).length<=600:=λn hn=>by
   have h1:=Zdg (x:=x) (c:=32) (Zas n) (by rw [<- ZbN,hw];exact Yar.mpr ⟨n,hn,rfl⟩);omega
  have nl:ns.length<=601:=by
   have h1:=Zew x 32;rw [<- ZbN,hw,Yaa] at h1;omega
  refine ⟨_,Zab (Zau (i:=1) nd rfl (Or.inl rfl) (Zbp F.plainAttrs_str F.slot_str_split F.type_str_split ZbA (pv 0) (Zaa Zam Zac)))
   (Zab (Zay (ZaE (ZaB (pe_b (Za0 rfl) T.all boot_all (Zaa (Zaz ["word"] [none] (Zae ZbR) ["line","words"] rfl (ZaH (pv 1)) (by decide +kernel)
    (λcl C s2 H2 ex=>pg_c 0 nd1) (λcl C s2 H2 ex=>Zaw) (λcl C s2 H2 ex=>pe_f G hr (Zaa (pv 0) Zac))) Zac)))) Zaj Zah)
   (Zaf (Zal (Zaz ["word"] [none] (Zae ZbR) ["line","words"] rfl (ZaH (pv 1)) (by decide +kernel)
    (λcl C s2 H2 ex=>pg_c 0 nd1) (λcl C s2 H2 ex=>Zaw) (λcl C s2 H2 ex=>pe_t Zbs T.int boot_int (Zaa (pv 0) Zac)))))),?_⟩
  refine ⟨_,rfl,rfl,_,_,rfl,rfl,by decide +kernel,by omega,λp hp=>?_⟩;rw [hw];have s1:=Same.new (o:=.lst ((ns.map Zas).map V.str)) hp;have e1:(upd H p (.lst ((ns.map Zas).map V.str))) p=some (.lst ((ns.map Zas).map V.str)):=Zad;generalize upd H p (.lst ((ns.map Zas).map V.str))=H1 at s1 e1 ⊢;rw [Yau] at e1;refine ⟨_,rfl,p,rfl,⟨_,SqL.of e1⟩,ZaZ (ms:=ns) (V.str ∘ Zas) (λ_=>V.bl true) (SqL.of e1) (sl6 (by omega)) (λn hn H' Q' sm q'=>⟨_,rfl,Zas n,rfl,by have:=wl n hn;omega,λH'' s''=>by rw [Zqx];exact q' H'' s''⟩) λD2 H2 hD2 s2 eD2=>?_⟩;refine ⟨D2,ns.map λ_=>true,rfl,SqL.of (by rw [eD2,Yau];rfl),⟨_,rfl,?_⟩⟩;rw [show (ns.map λ_=>true).all id=true by rw [List.all_map];simp];refine iteF ⟨_,rfl,p,rfl,⟨_,SqL.of (s2 _ _ e1)⟩,ZaZ (ms:=ns) (V.str ∘ Zas) V.int (SqL.of (s2 _ _ e1)) (sl6 (by omega)) (λn hn H' Q' sm q'=>⟨_,rfl,Zas n,n,rfl,ZbP (by have:=wl n hn;omega),by have:=wl n hn;omega,q' _ (Same.refl _)⟩) λD3 H3 hD3 s3 eD3=>?_⟩;exact q D3 H3 ((s1.trans s2).free hD3) (s1.trans (s2.trans s3)) eD3
def Zpy (c:Addr):Sp:=λvs H _ E=>∃ (x:Str),vs=[.str x]/\x.length<=600/\ZfH x=false/\∀ H',Same H H'->E (.ref c) none H'
theorem Zgp (T:Blt mg) (hk:ExcK K c) (hm:mg "NoText" = some (.ref c)) (D:Zak K mg "read_row" ZbR ["line"]) (G:FnAt P w K mg base 2 "writes_number" ["word"] Zls):FnAtX P w K mg base 3 "read_row" ["line"] (Zpy c):=by
 refine FnAtX.of D sc_rrA (λvs H Q E h=>?_) (λf cdv A outer s H vs Q E hr h=>?_)
 ·obtain ⟨x,rfl,_⟩:=h;rfl
 ·obtain ⟨x,rfl,hl,hb,he⟩:=h;have nd:=sc_rrA.nd;have nd1:(["word"]:List Str).Nodup:=by decide +kernel
  refine ⟨_,Zab (Zau (i:=1) nd rfl (Or.inl rfl) (Zbp F.plainAttrs_str F.slot_str_split F.type_str_split ZbA (pv 0) (Zaa Zam Zac)))
   (Zab (Zay (ZaE (ZaB (pe_b (Za0 rfl) T.all boot_all (Zaa (Zaz ["word"] [none] (Zae ZbR) ["line","words"] rfl (ZaH (pv 1)) (by decide +kernel)
    (λcl C s2 H2 ex=>pg_c 0 nd1) (λcl C s2 H2 ex=>Zaw) (λcl C s2 H2 ex=>pe_f G hr (Zaa (pv 0) Zac))) Zac)))) (Zaf (Zbf ZaW hk Zam hm)) Zah) Zaj),?_⟩
  have wl:∀ w∈Txt.split x " ",w.length<=1000:=λw hw=>by
   have h1:=Zdg (x:=x) (c:=32) w (by rw [<- ZbN];exact hw);omega
  have nl:(Txt.split x " ").length<=601:=by
   have h1:=Zew x 32;rw [<- ZbN] at h1;omega
  refine ⟨_,rfl,rfl,_,_,rfl,rfl,by decide +kernel,by omega,λp hp=>?_⟩;have s1:=Same.new (o:=.lst ((Txt.split x " ").map V.str)) hp;have e1:(upd H p (.lst ((Txt.split x " ").map V.str))) p=some (.lst ((Txt.split x " ").map V.str)):=Zad;generalize upd H p (.lst ((Txt.split x " ").map V.str))=H1 at s1 e1 ⊢;refine ⟨_,rfl,p,rfl,⟨_,SqL.of e1⟩,ZaZ (ms:=Txt.split x " ") V.str (λw=>V.bl (ZcL w.cps.toList)) (SqL.of e1) (sl6 (by omega)) (λw hw H' Q' sm q'=>⟨_,rfl,w,rfl,wl w hw,λH'' s''=>q' H'' s''⟩) λD2 H2 hD2 s2 eD2=>?_⟩;refine ⟨D2,(Txt.split x " ").map λw=>ZcL w.cps.toList,rfl,SqL.of (by rw [eD2,Yau];rfl),⟨_,rfl,?_⟩⟩;rw [show ((Txt.split x " ").map λw=>ZcL w.cps.toList).all id=ZfH x by rw [List.all_map];rfl,hb];exact iteT (he H2 (s1.trans s2))
end
end Seek
namespace L2
open PySem PySem.Spec PyProof.Rows
section
variable {X:Cx}
end
end L2
namespace Seek
open PySem L2 PyProof.Rows
open PySem L2 PyProof.Rows
theorem Zmq (K:Yab) (d:PyData):PySem.W.kitOne K (.type (tyD d)) (.type "str")=some (match d with | .str _=>true | _=>false):=by
 cases d <;> (simp only [tyD];kernel_rfl)
def ZdM:PyData->Bool
 | .str _=>true
 |_=>false
section
variable {P:Program}{w:World}{K:Yab}{mg:Str->Option Value}{base:Heap}{c:Addr}
def ZiJ (x:Str):Prop:=x.length<=2000/\(Txt.split x "\n").length<=600/\∀ l∈Txt.split x "\n",l.length<=600
def RowsOf (x:Str) (rows:List (List Int)):Prop:=rows≠[]/\(∀ r∈rows,r≠[])/\Txt.split x "\n" = rows.map rowS
theorem RowsOf.lens {x:Str}{rows:List (List Int)} (hx:ZiJ x) (h:RowsOf x rows):rows.length<=600/\∀ r∈rows,(∀ n∈r,(Zas n).length<=600)/\r.length<=601/\(rowS r).length<=600:=by
 obtain ⟨_,h2,h3⟩:=h;obtain ⟨_,k2,k3⟩:=hx;rw [h3] at k2 k3;rw [Yaa] at k2;refine ⟨k2,λr hr=>?_⟩;have h0:=k3 (rowS r) (Yar.mpr ⟨r,hr,rfl⟩);have hsp:=ZcT (h2 r hr);refine ⟨λn hn=>?_,?_,h0⟩
 ·have h1:=Zdg (x:=rowS r) (c:=32) (Zas n) (by rw [<- ZbN,hsp];exact Yar.mpr ⟨n,hn,rfl⟩);omega
 ·have h1:=Zew (rowS r) 32;rw [<- ZbN,hsp,Yaa] at h1;omega
theorem sc_rtA:FnScope ["text","table"] ["text"] (Zae Zbd):=⟨rfl,rfl,rfl,by decide +kernel,rfl,by decide +kernel,by decide +kernel⟩
def Zlu:Sp:=λvs H Q _=>∃ (x:Str) (rows:List (List Int)),vs=[.str x]/\ZiJ x/\RowsOf x rows/\Zb4 rows=true/\∀ t prs H',H t=none->(∀ p∈prs,H p.1=none/\p.1≠t)->Same H H'->Tab H' t prs->prs.map (·.2)=rows->Q (.ref t) H'
theorem Zey (T:Blt mg) (hstr:mg "str" = none) (D:Zak K mg "read_table" Zbd ["text"]) (G:FnAt P w K mg base 3 "read_row" ["line"] Zlv) (G4:FnAt P w K mg base 5 "is_table" ["thing"] Zb3):FnAt P w K mg base 6 "read_table" ["text"] Zlu:=by
 refine FnAt.of D sc_rtA (λvs H Q E h=>?_) (λf cdv A outer s H vs Q E hr h=>?_)
 ·obtain ⟨x,rows,rfl,_⟩:=h;rfl
 ·obtain ⟨x,rows,rfl,hx,hR,hok,q⟩:=h;have nd:=sc_rtA.nd;have nd1:(["line"]:List Str).Nodup:=by decide +kernel
  obtain ⟨rl,rr⟩:=hR.lens hx;have hr3:Room 3 _:=hr.mono (show 3<=5 by decide);refine ⟨_,Zab (Zay (ZaE (ZaB (pe_b ZaJ T.isinst boot_isinstance (Zaa (pv 0) (Zaa (ZcJ hstr Za7) Zac))))) Zaj Zah)
   (Zab (Zgk (i:=1) ["line"] [none] (Zae Zbd) ["text","table"] nd rfl (Or.inl rfl) rfl (ZaH (Zbp F.plainAttrs_str F.slot_str_split F.type_str_split ZbA (pv 0) (Zaa Zam Zac))) (by decide +kernel)
    (λcl C s2 H2 ex=>pg_c 0 nd1) (λcl C s2 H2 ex=>Zaw) (λcl C s2 H2 ex=>pe_f G hr3 (Zaa (pv 0) Zac)))
   (Zab (Zay (ZaE (ZaB (pe_f G4 hr (Zaa (pv 1) Zac)))) Zaj Zah) (Zaf (Zal (pv 1))))),?_⟩
  refine ⟨_,rfl,_, "str", _,true,rfl,.str _,by kernel_rfl,_,rfl,iteF ⟨_,rfl,rfl,_,_,rfl,rfl,by decide +kernel,by have:=hx.1;omega,λp hp=>?_⟩⟩;rw [hR.2.2];have s1:=Same.new (o:=.lst ((rows.map rowS).map V.str)) hp;have e1:(upd H p (.lst ((rows.map rowS).map V.str))) p=some (.lst ((rows.map rowS).map V.str)):=Zad;generalize upd H p (.lst ((rows.map rowS).map V.str))=H1 at s1 e1 ⊢;rw [Yau] at e1;refine ⟨p,rfl,⟨_,SqL.of e1⟩,ZhQ (ms:=rows) (V.str ∘ rowS) id (SqL.of e1) (by omega) (λr hr H' Q' sm q'=>⟨_,rfl,rowS r,r,rfl,(rr r hr).2.2,ZcT (hR.2.1 r hr),λp' H'' hp' s'' hR=>q' p' H'' hp' s'' hR⟩) λt prs H2 ht hp2 hnd s2 hT2 hrows=>?_⟩;rw [List.map_id] at hrows;have hg2:tabB prs=true:=by rw [ZcH rfl,hrows];exact hok
  refine ⟨_,rfl,t,prs,rfl,hT2,ZaO hg2,λH3 s3=>⟨_,rfl,?_⟩⟩;rw [hg2];refine iteF ⟨_,rfl,?_⟩;exact q t prs H3 (s1.free ht) (λp' hp'=>⟨s1.free (hp2 p' hp').1,(hp2 p' hp').2⟩) ((s1.trans s2).trans s3) (hT2.same s3) hrows
theorem ZiA {K:Yab}{a:Addr}{α:Type}{ms:List α}{σ0:L2.St}{H1:Hp}{te:TE}{Q:VK} (u:α->V) {j:Nat} (hj:j<ms.length) (hq:SqL K H1 a (ms.map u)) (hn:ms.length<=1000)
  (hgood:∀ i m,i<j->ms[i]? = some m->∀ (H':Hp) (Q':VK),Same H1 H'->(∀ y H'',Same H' H''->Q' y H'')->te (σ0.set 0 (some (u m))) H' Q')
  (hbad:∀ m,ms[j]? = some m->∀ (H':Hp) (Q':VK),Same H1 H'->te (σ0.set 0 (some (u m))) H' Q'):ZaR (Itl K a) (ZaT 0) Zbe te σ0 H1 Q:=by
 intro D hD;refine ZbU (n:=ms.length) (λi ys H'=>Same H1 H'/\H' D=some (.lst ys)/\ys.length=i/\i<=j) ⟨Same.new hD,Zad,rfl,YaH _⟩ (λi ys H' _ q=>q.2.1)
  (λi ys H' hi q=>⟨_,u ms[i],q.1.seq hq,by simp [hi]⟩) (λys H' q=>⟨_,q.1.seq hq,by simp⟩) ?_ (λys H' q=>absurd q.2.2.2 (by omega))
 rintro i ys H' y H2 hi ⟨sm,hDl,hyl,hij⟩ ⟨rfl,hy⟩;have hy:=hy _ (sm.seq hq);rw [Yaf,Yac hi] at hy;have hy:u ms[i]=y:=Yae hy;subst hy;unfold Zbe;refine iteT ?_;rcases Nat.lt_or_ge i j with hlt | hge
 ·exact hgood i _ hlt (Yac hi) _ _ sm λy H3 s3=>⟨s3 _ _ hDl,ZaD (by omega),(sm.trans s3).upd hD,Zad,by simp [hyl],by omega⟩
 ·have hij':i=j:=by omega
  subst hij';exact hbad _ (Yac hi) _ _ sm
def Zg2 (c:Addr):Sp:=λvs H _ E=>∃ (x:Str),vs=[.str x]/\ZiJ x/\Zpg x=false/\∀ H',Same H H'->E (.ref c) none H'
theorem ZkE {ls:List Str} (h:ls.all ZfH=false):∃ j,j<ls.length/\(∃ l,ls[j]? = some l/\ZfH l=false)/\∀ k l,k<j->ls[k]? = some l->ZfH l=true:=by
 induction ls with
 |nil=>simp at h
 |cons l ls ih =>
  cases e:ZfH l with
  |false=>exact ⟨0,by simp,⟨l,rfl,e⟩,λk l' hk=>absurd hk (by omega)⟩
  |true =>
   rw [List.all_cons,e,Bool.true_and] at h;obtain ⟨j,hj,⟨b,hb,hb2⟩,hall⟩:=ih h;refine ⟨j+1,by simp;omega,⟨b,hb,hb2⟩,λk l' hk hl=>?_⟩;cases k with
   |zero=>cases hl;exact e
   |succ k=>exact hall k l' (by omega) hl
theorem Zd1 (T:Blt mg) (hstr:mg "str" = none) (hk:ExcK K c) (hm:mg "NoText" = some (.ref c)) (D:Zak K mg "read_table" Zbd ["text"]) (G:FnAt P w K mg base 3 "read_row" ["line"] Zlv) (GX:FnAtX P w K mg base 3 "read_row" ["line"] (Zpy c)):FnAtX P w K mg base 6 "read_table" ["text"] (Zg2 c):=by
 refine FnAtX.of D sc_rtA (λvs H Q E h=>?_) (λf cdv A outer s H vs Q E hr h=>?_)
 ·obtain ⟨x,rfl,_⟩:=h;rfl
 ·obtain ⟨x,rfl,hx,hb,he⟩:=h;have nd:=sc_rtA.nd;have nd1:(["line"]:List Str).Nodup:=by decide +kernel
  have hr3:Room 3 _:=hr.mono (show 3<=5 by decide);refine ⟨_,Zab (Zay (ZaE (ZaB (pe_b ZaJ T.isinst boot_isinstance (Zaa (pv 0) (Zaa (ZcJ hstr Za7) Zac))))) Zaj Zah)
   (Zab (ZlQ (i:=1) ["line"] [none] (Zae Zbd) ["text","table"] nd rfl (Or.inl rfl) rfl rfl rfl Zkp rfl (ZaH (Zbp F.plainAttrs_str F.slot_str_split F.type_str_split ZbA (pv 0) (Zaa Zam Zac))) (by decide +kernel)
    (λcl C s2 H2 ex=>pg_c 0 nd1) (λcl C s2 H2 ex=>Zaw) (λcl C s2 H2 ex W R hR=>ZdZ (G.toX.or GX) hr3 hR (Zaa (pv 0) Zac))) Zaj),?_⟩
  refine ⟨_,rfl,_, "str", _,true,rfl,.str _,by kernel_rfl,_,rfl,iteF ⟨_,rfl,rfl,_,_,rfl,rfl,by decide +kernel,by have:=hx.1;omega,λp hp=>?_⟩⟩;have s1:=Same.new (o:=.lst ((Txt.split x "\n").map V.str)) hp;have e1:(upd H p (.lst ((Txt.split x "\n").map V.str))) p=some (.lst ((Txt.split x "\n").map V.str)):=Zad;generalize upd H p (.lst ((Txt.split x "\n").map V.str))=H1 at s1 e1 ⊢;obtain ⟨j,hj,⟨b,hjb,hb2⟩,hall⟩:=ZkE (ls:=Txt.split x "\n") hb;have hn:=hx.2.1;refine ⟨p,rfl,⟨_,SqL.of e1⟩,ZiA (ms:=Txt.split x "\n") V.str hj (SqL.of e1) (by omega) (λi l hi hl H' Q' sm q'=>?_) λl hl H' Q' sm=>?_⟩
  ·obtain ⟨ns,hne,ex,hsp⟩:=ZoH (hall i l hi hl);exact ⟨_,rfl,.inl ⟨l,ns,rfl,hx.2.2 l (YaP hl),hsp,λa H3 ha s3 hR=>q' _ H3 s3⟩⟩
  ·rw [hjb] at hl;cases hl;exact ⟨_,rfl,.inr ⟨b,rfl,hx.2.2 b (YaP hjb),hb2,λH3 s3=>he H3 ((s1.trans sm).trans s3)⟩⟩
def Zg1 (c:Addr):Sp:=λvs H _ E=>∃ (x:Str) (rows:List (List Int)),vs=[.str x]/\ZiJ x/\RowsOf x rows/\Zb4 rows=false/\∀ H',Same H H'->E (.ref c) none H'
theorem Zd0 (T:Blt mg) (hstr:mg "str" = none) (hk:ExcK K c) (hm:mg "NoText" = some (.ref c)) (D:Zak K mg "read_table" Zbd ["text"]) (G:FnAt P w K mg base 3 "read_row" ["line"] Zlv) (G4:FnAt P w K mg base 5 "is_table" ["thing"] Zb3):FnAtX P w K mg base 6 "read_table" ["text"] (Zg1 c):=by
 refine FnAtX.of D sc_rtA (λvs H Q E h=>?_) (λf cdv A outer s H vs Q E hr h=>?_)
 ·obtain ⟨x,rows,rfl,_⟩:=h;rfl
 ·obtain ⟨x,rows,rfl,hx,hR,hok,he⟩:=h;have nd:=sc_rtA.nd;have nd1:(["line"]:List Str).Nodup:=by decide +kernel
  obtain ⟨rl,rr⟩:=hR.lens hx;have hr3:Room 3 _:=hr.mono (show 3<=5 by decide);refine ⟨_,Zab (Zay (ZaE (ZaB (pe_b ZaJ T.isinst boot_isinstance (Zaa (pv 0) (Zaa (ZcJ hstr Za7) Zac))))) Zaj Zah)
   (Zab (Zgk (i:=1) ["line"] [none] (Zae Zbd) ["text","table"] nd rfl (Or.inl rfl) rfl (ZaH (Zbp F.plainAttrs_str F.slot_str_split F.type_str_split ZbA (pv 0) (Zaa Zam Zac))) (by decide +kernel)
    (λcl C s2 H2 ex=>pg_c 0 nd1) (λcl C s2 H2 ex=>Zaw) (λcl C s2 H2 ex=>pe_f G hr3 (Zaa (pv 0) Zac)))
   (Zab (Zay (ZaE (ZaB (pe_f G4 hr (Zaa (pv 1) Zac)))) (Zaf (Zbf ZaW hk Zam hm)) Zah) Zaj)),?_⟩
  refine ⟨_,rfl,_, "str", _,true,rfl,.str _,by kernel_rfl,_,rfl,iteF ⟨_,rfl,rfl,_,_,rfl,rfl,by decide +kernel,by have:=hx.1;omega,λp hp=>?_⟩⟩;rw [hR.2.2];have s1:=Same.new (o:=.lst ((rows.map rowS).map V.str)) hp;have e1:(upd H p (.lst ((rows.map rowS).map V.str))) p=some (.lst ((rows.map rowS).map V.str)):=Zad;generalize upd H p (.lst ((rows.map rowS).map V.str))=H1 at s1 e1 ⊢;rw [Yau] at e1;refine ⟨p,rfl,⟨_,SqL.of e1⟩,ZhQ (ms:=rows) (V.str ∘ rowS) id (SqL.of e1) (by omega) (λr hr H' Q' sm q'=>⟨_,rfl,rowS r,r,rfl,(rr r hr).2.2,ZcT (hR.2.1 r hr),λp' H'' hp' s'' hR=>q' p' H'' hp' s'' hR⟩) λt prs H2 ht hp2 hnd s2 hT2 hrows=>?_⟩;rw [List.map_id] at hrows;have hg2:tabB prs=false:=by rw [ZcH rfl,hrows];exact hok
  have sm:Sm prs:=by
   have hl:prs.length=rows.length:=by rw [<- hrows,Yaa]
   refine ⟨by omega,λp hp=>?_⟩;have:=(rr p.2 (by rw [<- hrows];exact Yar.mpr ⟨p,hp,rfl⟩)).2.1;omega
  refine ⟨_,rfl,t,prs,rfl,hT2,sm,λH3 s3=>⟨_,rfl,?_⟩⟩;rw [hg2];exact iteT (he _ ((s1.trans s2).trans s3))
end
open PySem L2 PyProof.Rows
def lowS:Str := "abcdefghijklmnopqrstuvwxyz"
theorem ZqG (c:Nat):(!(Builtin.Str.occurrences lowS ⟨#[c]⟩ 0 lowS.length 1).isEmpty)=(decide (97<=c) && decide (c<=122)):=by
 rw [StrLaws.found_one];have e:lowS.cps.toList=List.range' 97 26:=by decide +kernel
 rw [e,Bool.eq_iff_iff,YaN,Yaj,YaN,YaN,List.mem_range'_1];omega
def ZeJ (cs:List Nat):Bool:=(decide (1<=cs.length) && decide (cs.length<=8)) && cs.all λc=>decide (97<=c) && decide (c<=122)
def isSC (cs:List Nat):Bool:=Zd3 cs && decide (cs.length<=2)
def isSN (cs:List Nat):Bool:=ZcL cs && decide ((cs.dropWhile λc=>c == 45).length<=9)
def wrB (kind:Str) (w:Str):Bool:=if kind = "NAME" then ZeJ w.cps.toList else if kind = "X" then isSN w.cps.toList else decide (kind = "TEXT") || isSC w.cps.toList
structure DkC (mg:Str->Option Value):Prop where
 low:∃ t,mg "SMALL_LETTERS" = some (.str lowS t)
 ml:∃ t,mg "MOST_LETTERS" = some (.int 8 t)
 mc:∃ t,mg "MOST_FIGURES_OF_COUNT" = some (.int 2 t)
 mn:∃ t,mg "MOST_FIGURES_OF_NUMBER" = some (.int 9 t)
section
variable {P:Program}{w:World}{K:Yab}{mg:Str->Option Value}{base:Heap}{c:Addr}
def ZpB:Sp:=λvs H Q _=>∃ (x:Str),vs=[.str x]/\x.length<=1000/\∀ H',Same H H'->Q (.bl (ZeJ x.cps.toList)) H'
theorem ZpM:FnScope ["word"] ["word"] (Zae ZeX):=⟨rfl,rfl,rfl,by decide +kernel,rfl,by decide +kernel,by decide +kernel⟩
theorem ZjQ (T:Blt mg) (C:DkC mg) (D:Zak K mg "is_name" ZeX ["word"]):FnAt P w K mg base 1 "is_name" ["word"] ZpB:=by
 refine FnAt.of D ZpM (λvs H Q E h=>?_) (λf cdv A outer s H vs Q E hr h=>?_)
 ·obtain ⟨x,rfl,_⟩:=h;rfl
 ·obtain ⟨x,rfl,hl,q⟩:=h;obtain ⟨t1,h1⟩:=C.low;obtain ⟨t2,h2⟩:=C.ml;have nd1:(["sign"]:List Str).Nodup:=by decide +kernel
  refine ⟨_,Zaf (Zal (ZbY (Zbg Zfv Zfv Zag (pe_b Zbm T.len boot_len (Zaa (pv 0) Zac)) (ZaL (v:=.int 8) rfl h2 ⟨_,rfl⟩))
   (ZbF (pe_b (Za0 rfl) T.all boot_all (Zaa (Zaz ["sign"] [none] (Zae ZeX) ["word"] rfl (Zm8 (pv 0)) (by decide +kernel)
    (λcl C s2 H2 ex=>pg_c 0 nd1) (λcl C s2 H2 ex=>Zaw) (λcl C s2 H2 ex=>Zbn ZdF (pv 0) (ZaL (v:=.str lowS) rfl h1 ⟨_,rfl⟩) rfl)) Zac))))),?_⟩
  have no:(decide (1<=x.length) && decide (x.length<=8))=false->Q (.bl false) H:=λe=>by
   have:=q H (Same.refl _);unfold ZeJ at this;rw [ZaN,e,Bool.false_and] at this;exact this
  refine ⟨_,rfl,x,rfl,sl6 hl,1,_,rfl,rfl,_,rfl,ite2 (λh1=>?_) (λh1=>?_)⟩
  ·have h1:=of_decide_eq_true h1;refine ⟨_,_,rfl,rfl,_,rfl,ite2 (λh2=>?_) (λh2=>?_)⟩
   ·have h2:=of_decide_eq_true h2;refine ⟨_,rfl,x,rfl,ZhR (λc=>V.bl (decide (97<=c) && decide (c<=122))) hl (λc hc H' Q' sm q'=>⟨_,rfl,_,_,rfl,rfl,?_⟩) λD H1 hD s1 hDl=>?_⟩
    ·rw [ZqG];exact q' _ (Same.refl _)
    ·refine ⟨D,x.cps.toList.map λc=>decide (97<=c) && decide (c<=122),rfl,SqL.of (by rw [hDl,Yau];rfl),?_⟩;have:=q H1 s1;unfold ZeJ at this;rw [ZaN,Ya4 (by omega),Ya4 (by omega),Bool.true_and,Bool.true_and] at this;rw [List.all_map];exact this
   ·exact no (by rw [Ya5 (p:=x.length<=8) (λz=>h2 (Ya4 (by omega))),Bool.and_false])
  ·refine ⟨_,rfl,iteF ?_⟩;exact no (by rw [Ya5 (p:=1<=x.length) (λz=>h1 (Ya4 (by omega))),Bool.false_and])
def spSC:Sp:=λvs H Q _=>∃ (x:Str),vs=[.str x]/\x.length<=1000/\∀ H',Same H H'->Q (.bl (isSC x.cps.toList)) H'
theorem ZpK:FnScope ["word"] ["word"] (Zae dShC):=⟨rfl,rfl,rfl,by decide +kernel,rfl,by decide +kernel,by decide +kernel⟩
theorem Zqj (T:Blt mg) (C:DkC mg) (D:Zak K mg "is_short_count" dShC ["word"]) (G:FnAt P w K mg base 1 "writes_count" ["word"] ZnM):FnAt P w K mg base 2 "is_short_count" ["word"] spSC:=by
 refine FnAt.of D ZpK (λvs H Q E h=>?_) (λf cdv A outer s H vs Q E hr h=>?_)
 ·obtain ⟨x,rfl,_⟩:=h;rfl
 ·obtain ⟨x,rfl,hl,q⟩:=h;obtain ⟨t2,h2⟩:=C.mc;refine ⟨_,Zaf (Zal (ZbY (pe_f G hr (Zaa (pv 0) Zac)) (ZbF (Zbn o_le (pe_b Zbm T.len boot_len (Zaa (pv 0) Zac)) (ZaL (v:=.int 2) rfl h2 ⟨_,rfl⟩) (Zaq _))))),?_⟩;refine ⟨_,rfl,x,rfl,hl,λH1 s1=>⟨_,rfl,?_⟩⟩;have:=q H1 s1;unfold isSC at this;cases e:Zd3 x.cps.toList with
  |false =>
   rw [e,Bool.false_and] at this;exact iteF this
  |true =>
   rw [e,Bool.true_and,ZaN] at this;refine iteT ⟨_,rfl,x,rfl,sl6 hl,_,_,rfl,rfl,?_⟩;rw [show decide ((x.length:Int)<=2)=decide (x.length<=2) by rw [Ybb];omega];exact this
def spSN:Sp:=λvs H Q _=>∃ (x:Str),vs=[.str x]/\x.length<=1000/\∀ H',Same H H'->Q (.bl (isSN x.cps.toList)) H'
theorem ZpI:FnScope ["word"] ["word"] (Zae dShN):=⟨rfl,rfl,rfl,by decide +kernel,rfl,by decide +kernel,by decide +kernel⟩
theorem Zir (x:Str):(Txt.lstripChars x "-").length=(x.cps.toList.dropWhile λc=>c == 45).length:=by
 have hs:Txt.lstripChars x "-" = Txt.stripBy ("-" : Str).cps.contains true false x:=rfl;have hp:("-" : Str).cps.contains=λc:Nat=>c == 45:=by
  funext c
  have e:("-" : Str).cps.toList=[45]:=by decide +kernel
  rw [<- Array.contains_toList,e];simp;rfl
 rw [hs,stripBy_eq,hp];have hlo:stripLo (λc:Nat=>c == 45) true x=(x.cps.toList.takeWhile λc=>c == 45).length:=by
  unfold stripLo;rw [Ya7 rfl]
 have hhi:∀ lo,stripHi (λc:Nat=>c == 45) false x lo=x.length:=λlo=>by
  unfold stripHi;rw [Ya6 (by decide)]
 rw [hhi,hlo];have e1:(x.cps.toList.takeWhile λc=>c == 45).length+(x.cps.toList.dropWhile λc=>c == 45).length=x.length:=by
  rw [<- Yak,List.takeWhile_append_dropWhile,ZaN]
 have e2:(Builtin.Str.strSub x (x.cps.toList.takeWhile λc=>c == 45).length x.length).length=x.length - (x.cps.toList.takeWhile λc=>c == 45).length:=by
  rw [<- ZaN];show (x.cps.extract _ x.length).toList.length=_;rw [YaD,Array.size_extract];show min x.length x.length - _=_;rw [Nat.min_self]
 rw [e2];omega
theorem Zqi (T:Blt mg) (C:DkC mg) (D:Zak K mg "is_short_number" dShN ["word"]) (G:FnAt P w K mg base 2 "writes_number" ["word"] Zls):FnAt P w K mg base 3 "is_short_number" ["word"] spSN:=by
 refine FnAt.of D ZpI (λvs H Q E h=>?_) (λf cdv A outer s H vs Q E hr h=>?_)
 ·obtain ⟨x,rfl,_⟩:=h;rfl
 ·obtain ⟨x,rfl,hl,q⟩:=h;obtain ⟨t2,h2⟩:=C.mn;refine ⟨_,Zaf (Zal (ZbY (pe_f G hr (Zaa (pv 0) Zac)) (ZbF (Zbn o_le (pe_b Zbm T.len boot_len (Zaa (Zbp F.plainAttrs_str F.slot_str_lstrip F.type_str_lstrip Zim (pv 0) (Zaa Zam Zac)) Zac)) (ZaL (v:=.int 9) rfl h2 ⟨_,rfl⟩) (Zaq _))))),?_⟩;refine ⟨_,rfl,x,rfl,hl,λH1 s1=>⟨_,rfl,?_⟩⟩;have:=q H1 s1;unfold isSN at this;have ll:=Zir x;have l2:(Txt.lstripChars x "-").length<=1000:=by
   rw [ll];have:=(List.dropWhile_sublist (λc=>c == 45) (l:=x.cps.toList)).length_le;rw [ZaN] at this;omega
  cases e:ZcL x.cps.toList with
  |false =>
   rw [e,Bool.false_and] at this;exact iteF this
  |true =>
   rw [e,Bool.true_and,<- ll] at this;refine iteT ⟨_,rfl,rfl,x,_,rfl,rfl,sl6 hl,_,rfl,sl6 l2,_,_,rfl,rfl,?_⟩;rw [show decide (((Txt.lstripChars x "-").length:Int)<=9)=decide ((Txt.lstripChars x "-").length<=9) by rw [Ybb];omega];exact this
def ZmT:Sp:=λvs H Q _=>∃ (k x:Str),vs=[.str k,.str x]/\x.length<=1000/\∀ H',Same H H'->Q (.bl (wrB k x)) H'
theorem ZnS:FnScope ["kind","word"] ["kind","word"] (Zae ZoX):=⟨rfl,rfl,rfl,by decide +kernel,rfl,by decide +kernel,by decide +kernel⟩
theorem Zoc (D:Zak K mg "is_written_as" ZoX ["kind","word"]) (G1:FnAt P w K mg base 1 "is_name" ["word"] ZpB) (G2:FnAt P w K mg base 3 "is_short_number" ["word"] spSN) (G3:FnAt P w K mg base 2 "is_short_count" ["word"] spSC):FnAt P w K mg base 4 "is_written_as" ["kind","word"] ZmT:=by
 refine FnAt.of D ZnS (λvs H Q E h=>?_) (λf cdv A outer s H vs Q E hr h=>?_)
 ·obtain ⟨k,x,rfl,_⟩:=h;rfl
 ·obtain ⟨k,x,rfl,hl,q⟩:=h;have hr1:Room 1 _:=hr.mono (show 1<=3 by decide);have hr2:Room 2 _:=hr.mono (show 2<=3 by decide);refine ⟨_,Zab (Zay (Zap Za4 (pv 0) Zam (Zaq _)) (Zaf (Zal (pe_f G1 hr1 (Zaa (pv 1) Zac)))) Zah)
   (Zab (Zay (Zap Za4 (pv 0) Zam (Zaq _)) (Zaf (Zal (pe_f G2 hr (Zaa (pv 1) Zac)))) Zah)
   (Zaf (Zal (Zp2 (Zbn Za4 (pv 0) Zam (Zaq _)) (ZbF (pe_f G3 hr2 (Zaa (pv 1) Zac))))))),?_⟩
  have vs:∀ {a b:Str},decide (V.str a=V.str b)=decide (a=b):=λ{a b}=>by
   rw [Ybb];exact ⟨λh=>by injection h,λh=>by rw [h]⟩
  unfold wrB at q;refine ⟨_,rfl,rfl,_,rfl,?_⟩;rw [vs]
  by_cases h1:k = "NAME"
  ·rw [Ya7 h1] at q;rw [Ya4 h1];exact iteT ⟨_,rfl,x,rfl,hl,q⟩
  ·rw [Ya6 h1] at q;rw [Ya5 h1];refine iteF ⟨_,rfl,rfl,_,rfl,?_⟩;rw [vs]
   by_cases h2:k = "X"
   ·rw [Ya7 h2] at q;rw [Ya4 h2];exact iteT ⟨_,rfl,x,rfl,hl,q⟩
   ·rw [Ya6 h2] at q;rw [Ya5 h2];refine iteF ⟨_,rfl,rfl,_,rfl,?_⟩;rw [vs]
    by_cases h3:k = "TEXT"
    ·rw [Ya4 h3] at q ⊢;exact iteT (q H (Same.refl _))
    ·rw [Ya5 h3] at q ⊢;exact iteF ⟨_,rfl,x,rfl,hl,q⟩
end
open PySem L2 PyProof.Rows
def formL:List (Str × List Str):=[("table",["NAME","TEXT"]),("cell",["NAME","R","C","X"]),("drop",["NAME"]),("find",["NAME","X"]),("stair",["NAME","X"]),("walk",["NAME","X"]),("below",["NAME","X"]),("nth",["NAME","K"]),("show",["NAME"]),("looks",["R","P"])]
def FmAll (K:Yab):List (Str × Addr)->List (Str × List Str)->Prop
 | [],[]=>True
 |p :: ps,q :: qs=>p.1=q.1/\(∀ H,SqT K H p.2 (q.2.map V.str))/\FmAll K ps qs
 |_,_=>False
theorem FmAll.look {K:Yab}{z:Str}:∀ {ps:List (Str × Addr)}{qs:List (Str × List Str)},FmAll K ps qs->(qs.lookup z=none/\ps.lookup z=none)\/∃ ks b,qs.lookup z=some ks/\ps.lookup z=some b/\∀ H,SqT K H b (ks.map V.str)
 | [],[],_=>.inl ⟨rfl,rfl⟩
 | (p,a) :: ps,(q,ks) :: qs,h=>by
  obtain ⟨rfl,h2,h3⟩:=h
  by_cases e:z=p
  ·refine .inr ⟨ks,a,?_,?_,h2⟩ <;> rw [List.lookup_cons,show (z == p)=true by rw [e];exact beq_self_eq_true p]
  ·have e2:(z == p)=false:=Ya1.mpr e;rw [List.lookup_cons,List.lookup_cons,e2];exact h3.look
theorem ZaF {α:Type}{xs:List α}{i:Nat}{v:α} (h:xs[i]? = some v):atI xs (i:Int)=some v:=by
 have hl:i<xs.length:=(Yai.mp h).1;unfold atI ixN;rw [Ya7 (by omega),Ya7 (by omega)];show xs[(i:Int).toNat]? = _;rw [Yav];exact h
structure FmOk (K:Yab) (w:World) (mg:Str->Option Value):Prop where
 is:∃ a fs,mg "FORMS" = some (.ref a)/\TopD K w a fs/\FmAll K fs formL
def spl (x:Str):List Str:=if Txt.startswith x "table " = true then Txt.splitMax x " " 2 else Txt.split x " "
def hfB:List Str->Bool
 | []=>false
 |f :: ws=>match formL.lookup f with
  |none=>false
  |some ks=>decide (ws.length=ks.length) && (List.zipWith wrB ks ws).all id
theorem ZnE (z:Str) (i j:Nat):(Builtin.Str.strSub z i j).length<=z.length:=by
 show (z.cps.extract i j).size<=z.cps.size;rw [Array.size_extract];omega
theorem ZoD {x y:Str}{k:Int}:∀ w∈Txt.splitMax x y k,w.length<=x.length:=λw hw=>by
 unfold Txt.splitMax at hw;split at hw
 ·rw [YaJ.mp hw];exact Yag _
 ·split at hw
  ·rw [YaJ.mp hw];exact Yag _
  ·unfold Builtin.Str.partsBetween at hw;obtain ⟨p,_,rfl⟩:=Yar.mp hw;exact ZnE _ _ _
theorem Zkf (x y:Str):(Txt.splitMax x y 2).length<=3:=by
 unfold Txt.splitMax;split
 ·simp
 ·split
  ·simp
  ·unfold Builtin.Str.partsBetween;have h:=StrLaws.occ_length_le x y 0 x.length (limitOf x 2);have e:limitOf x 2=2:=rfl;rw [Yaa,List.length_zip,YaC,Yaa,Yak,YaI,Nat.min_self];omega
theorem ZqF (x y:Str) (k:Int):Txt.splitMax x y k≠[]:=by
 unfold Txt.splitMax;split
 ·simp
 ·split
  ·simp
  ·unfold Builtin.Str.partsBetween;intro z;have:=congrArg List.length z;simp at this
theorem ZnH (x y:Str):Txt.split x y≠[]:=by
 unfold Txt.split;split
 ·simp
 ·split
  ·simp
  ·unfold Builtin.Str.partsBetween;intro z;have:=congrArg List.length z;simp at this
theorem ZiZ {x:Str}:∀ w∈spl x,w.length<=x.length:=λw hw=>by
 unfold spl at hw;split at hw
 ·exact ZoD w hw
 ·rw [show ((" " : Str))=⟨#[32]⟩ from ZbN] at hw;exact Zdg w hw
theorem Zi0 (x:Str):(spl x).length<=x.length+3:=by
 unfold spl;split
 ·have:=Zkf x " "; omega
 ·have:=Zfg x " "; omega
theorem ZmS (x:Str):spl x≠[]:=by
 unfold spl;split
 ·exact ZqF _ _ _
 ·exact ZnH _ _
theorem ZkW {xs:List V}:cutV xs (some 1) none=xs.drop 1:=by
 unfold cutV;rw [HT.sIx_none,show ((1:Int))=((1:Nat):Int) from rfl,HT.sIx_nat];rcases Nat.le_total 1 xs.length with h | h
 ·rw [Nat.min_eq_left h,List.take_of_length_le (by simp)]
 ·rw [Nat.min_eq_right h,Nat.sub_self,List.take_zero,List.drop_eq_nil_of_le (by simpa using h)]
section
variable {P:Program}{w:World}{K:Yab}{mg:Str->Option Value}{base:Heap}{c:Addr}
def Zge:Sp:=λvs H Q _=>∃ (x:Str),vs=[.str x]/\x.length<=1000/\∀ p,H p=none->Q (.ref p) (upd H p (.lst ((spl x).map V.str)))
theorem ZlA:FnScope ["row"] ["row"] (Zae ZdP):=⟨rfl,rfl,rfl,by decide +kernel,rfl,by decide +kernel,by decide +kernel⟩
theorem Zl4 (D:Zak K mg "split_row" ZdP ["row"]):FnAt P w K mg base 1 "split_row" ["row"] Zge:=by
 refine FnAt.of D ZlA (λvs H Q E h=>?_) (λf cdv A outer s H vs Q E hr h=>?_)
 ·obtain ⟨x,rfl,_⟩:=h;rfl
 ·obtain ⟨x,rfl,hl,q⟩:=h;refine ⟨_,Zab (Zay (ZaB (Zbp F.plainAttrs_str F.slot_str_startswith F.type_str_startswith ZfD (pv 0) (Zaa Zam Zac))) (Zaf (Zal (Zbp F.plainAttrs_str F.slot_str_split F.type_str_split Zj7 (pv 0) (Zaa Zam (Zaa Zag Zac))))) Zah)
   (Zaf (Zal (Zbp F.plainAttrs_str F.slot_str_split F.type_str_split ZbA (pv 0) (Zaa Zam Zac)))),?_⟩
  have e:spl x=if Txt.startswith x "table " = true then Txt.splitMax x " " 2 else Txt.split x " " := rfl
  refine ⟨_,rfl,rfl,_,_,rfl,rfl,_,rfl,ite2 (λh1=>?_) (λh1=>?_)⟩
  ·rw [e,Ya7 h1] at q;exact ⟨_,rfl,rfl,_,_,2,rfl,rfl,by decide +kernel,by omega,by decide,by decide,by have:=Zkf x " "; omega,q⟩
  ·rw [e,Ya6 h1] at q;exact ⟨_,rfl,rfl,_,_,rfl,rfl,by decide +kernel,by omega,q⟩
def spHF:Sp:=λvs H Q _=>∃ (a:Addr) (ws:List Str),vs=[.ref a]/\SqL K H a (ws.map V.str)/\ws≠[]/\ws.length<=1000/\(∀ x∈ws,x.length<=1000)/\∀ H',Same H H'->Q (.bl (hfB ws)) H'
theorem Zrw:FnScope ["words"] ["words"] (Zae Zdl):=⟨rfl,rfl,rfl,by decide +kernel,rfl,by decide +kernel,by decide +kernel⟩
theorem ZrQ (T:Blt mg) (hzip:mg "zip" = none) (Fm:FmOk K w mg) (D:Zak K mg "has_form" Zdl ["words"]) (G:FnAt P w K mg base 4 "is_written_as" ["kind","word"] ZmT):FnAt P w K mg base 5 "has_form" ["words"] (spHF (K:=K)):=by
 refine FnAt.of D Zrw (λvs H Q E h=>?_) (λf cdv A outer s H vs Q E hr h=>?_)
 ·obtain ⟨a,ws,rfl,_⟩:=h;rfl
 ·obtain ⟨a,ws,rfl,ha,hne,hl,hw,q⟩:=h;obtain ⟨fa,fs,h1,h2,h3⟩:=Fm.is;have nd1:(["kind","word"]:List Str).Nodup:=by decide +kernel
  refine ⟨_,Zab (Zay (PW.pt (Zb1 (Zap Zgl (Zar Zan (pv 0) Zag (λ_ _=>rfl)) (ZaL (v:=.ref fa) rfl h1 rfl) rfl)
    (Zby (Zap Zgm (pe_b Zao T.len boot_len (Zaa (pv 0) Zac)) (Zax ZfC (pe_b Zao T.len boot_len (Zaa (Zar Znj (ZaL (v:=.ref fa) rfl h1 rfl) (Zar Zan (pv 0) Zag (λ_ _=>rfl)) (λ_ _=>rfl)) Zac)) Zag) (Zaq _))))) (Zaf (Zal ZbG)) Zah)
   (Zaf (Zal (pe_b (Za0 rfl) T.all boot_all (Zaa (Zaz ["kind","word"] [none,none] (Zae Zdl) ["words"] rfl (Zn1 rfl hzip (Zaa (Zar Znj (ZaL (v:=.ref fa) rfl h1 rfl) (Zar Zan (pv 0) Zag (λ_ _=>rfl)) (λ_ _=>rfl)) (Zaa (Zcf ZnP (pv 0) (ZcU Zag) ZcV) Zac))) (by decide +kernel)
    (λcl C s2 H2 ex=>Zn2 K rfl nd1) (λcl C s2 H2 ex=>Zaw) (λcl C s2 H2 ex=>pe_f G hr (Zaa (pv 0) (Zaa (pv 1) Zac)))) Zac)))),?_⟩
  obtain ⟨f,ws,rfl⟩:∃ f w2,ws=f :: w2:=by
   cases ws with
   |nil=>exact absurd rfl hne
   |cons f w2=>exact ⟨f,w2,rfl⟩
  have at0:atI ((f :: ws).map V.str) 0=some (V.str f):=ZaF (i:=0) rfl;have fin:∀ {b:Bool},hfB (f :: ws)=b->∀ H',Same H H'->Q (.bl b) H':=λe H' s'=>by
   have:=q H' s';rw [e] at this;exact this
  refine ⟨_,rfl,a,_,0,_,rfl,rfl,ha,at0,f,fa,fs,rfl,rfl,h2,_,rfl,?_⟩;rcases h3.look (z:=f) with ⟨e1,e2⟩ | ⟨ks,b,e1,e2,hb⟩
  ·rw [e2];refine iteT (iteT (fin ?_ H (Same.refl _)));show (match formL.lookup f with | none=>false | some ks=>_)=_;rw [e1]
  ·rw [e2];have hf:hfB (f :: ws)=(decide (ws.length=ks.length) && (List.zipWith wrB ks ws).all id):=by
    show (match formL.lookup f with | none=>false | some ks=>_)=_;rw [e1]
   refine iteF ⟨_,rfl,a,_,rfl,.inl ha,_,rfl,a,_,0,_,rfl,rfl,ha,at0,fa,f,fs,b,rfl,rfl,h2,e2,b,_,rfl,.inr (hb _),_,_,rfl,rfl,rfl,_,rfl,?_⟩;have vi:∀ {i j:Int},decide (V.int i=V.int j)=decide (i=j):=λ{i j}=>by
    rw [Ybb];exact ⟨λh=>by injection h,λh=>by rw [h]⟩
   rw [vi];refine ite2 (λh=>?_) (λh=>?_)
   ·refine fin ?_ H (Same.refl _);rw [hf];have h:=of_decide_eq_false (by rw [Bool.not_eq_true'] at h;exact h);rw [Ya5 (λz=>h ?_),Bool.false_and];simp [z]
   ·have hlen:ws.length=ks.length:=by
     by_cases z:ws.length=ks.length
     ·exact z
     ·refine absurd ?_ h;rw [Bool.not_eq_true'];refine Ya5 λz2=>z ?_;simp at z2;omega
    refine ⟨_,rfl,a,_,0,_,rfl,rfl,ha,at0,fa,f,fs,b,rfl,rfl,h2,e2,_,rfl,_,rfl,a,_,rfl,ha,λp hp=>?_⟩;have s1:Same H (upd H p (.lst (cutV ((f :: ws).map V.str) (some 1) none))):=Same.new hp;have e3:(upd H p (.lst (cutV ((f :: ws).map V.str) (some 1) none))) p=some (.lst (ws.map V.str)):=by
     rw [Zad,ZkW];rfl
    generalize upd H p (.lst (cutV ((f :: ws).map V.str) (some 1) none))=H1 at s1 e3 ⊢;refine ⟨b,p,rfl,⟨_,hb _⟩,⟨_,SqL.of e3⟩,ZiC (λx y=>V.bl (match x,y with | .str x,.str y=>wrB x y | _,_=>false)) (hb _) (SqL.of e3) (by rw [Yaa,Yaa,hlen]) (by rw [Yaa];simp at hl;omega) (λx y hx hy H' Q' sm q'=>?_) λD H2 hD s2 hDl=>?_⟩
    ·obtain ⟨k,hk,rfl⟩:=Yar.mp hx;obtain ⟨z,hz,rfl⟩:=Yar.mp hy;exact ⟨_,rfl,_,rfl,k,z,rfl,hw z (Yas _ hz),q'⟩
    ·refine ⟨D,List.zipWith wrB ks ws,rfl,SqL.of ?_,fin ?_ H2 (s1.trans s2)⟩
     ·rw [hDl,List.zipWith_map,List.map_zipWith]
     ·rw [hf,Ya4 hlen,Bool.true_and]
def spWO:Sp:=λvs H Q _=>∃ (x:Str),vs=[.str x]/\x.length<=900/\hfB (spl x)=true/\∀ p H',H p=none->Same H H'->H' p=some (.lst ((spl x).map V.str))->Q (.ref p) H'
theorem sc_wo:FnScope ["row","words"] ["row"] (Zae Zdi):=⟨rfl,rfl,rfl,by decide +kernel,rfl,by decide +kernel,by decide +kernel⟩
theorem ZrO (T:Blt mg) (hstr:mg "str" = none) (D:Zak K mg "words_of" Zdi ["row"]) (G1:FnAt P w K mg base 1 "split_row" ["row"] Zge) (G2:FnAt P w K mg base 5 "has_form" ["words"] (spHF (K:=K))):FnAt P w K mg base 6 "words_of" ["row"] spWO:=by
 refine FnAt.of D sc_wo (λvs H Q E h=>?_) (λf cdv A outer s H vs Q E hr h=>?_)
 ·obtain ⟨x,rfl,_⟩:=h;rfl
 ·obtain ⟨x,rfl,hl,hf,q⟩:=h;have nd:=sc_wo.nd;have hr1:Room 1 _:=hr.mono (show 1<=5 by decide);refine ⟨_,Zab (Zay (ZaE (ZaB (pe_b ZaJ T.isinst boot_isinstance (Zaa (pv 0) (Zaa (ZcJ hstr Za7) Zac))))) Zaj Zah)
   (Zab (Zau (i:=1) nd rfl (Or.inl rfl) (pe_f G1 hr1 (Zaa (pv 0) Zac)))
   (Zab (Zay (ZaE (ZaB (pe_f G2 hr (Zaa (pv 1) Zac)))) Zaj Zah) (Zaf (Zal (pv 1))))),?_⟩
  refine ⟨_,rfl,_, "str", _,true,rfl,.str _,by kernel_rfl,_,rfl,iteF ⟨_,rfl,x,rfl,by omega,λp hp=>?_⟩⟩;have c1:=Zi0 x;refine ⟨_,rfl,p,spl x,rfl,SqL.of Zad,ZmS x,by omega,λz hz=>Yay (ZiZ z hz) (by omega),λH2 s2=>⟨_,rfl,?_⟩⟩;rw [hf];exact iteF ⟨_,rfl,q p H2 hp ((Same.new hp).trans s2) (s2 _ _ Zad)⟩
def Zpv (c:Addr):Sp:=λvs H _ E=>∃ (x:V) (d:PyData),vs=[x]/\RdS [] H x d/\(ZdM d=false\/∃ z,d=.str z/\z.length<=900/\hfB (spl z)=false)/\∀ H',Same H H'->E (.ref c) none H'
theorem Zqf (T:Blt mg) (hstr:mg "str" = none) (hk:ExcK K c) (hm:mg "NoRow" = some (.ref c)) (D:Zak K mg "words_of" Zdi ["row"]) (G1:FnAt P w K mg base 1 "split_row" ["row"] Zge) (G2:FnAt P w K mg base 5 "has_form" ["words"] (spHF (K:=K))):FnAtX P w K mg base 6 "words_of" ["row"] (Zpv c):=by
 refine FnAtX.of D sc_wo (λvs H Q E h=>?_) (λf cdv A outer s H vs Q E hr h=>?_)
 ·obtain ⟨x,d,rfl,_⟩:=h;rfl
 ·obtain ⟨x,d,rfl,rd,hc,he⟩:=h;rcases hc with hd | ⟨z,rfl,hz,hf⟩
  ·refine ⟨_,Zab (Zay (ZaE (ZaB (pe_b ZaJ T.isinst boot_isinstance (Zaa (pv 0) (Zaa (ZcJ hstr Za7) Zac))))) (Zaf (Zbf ZaW hk Zam hm)) Zah) Zaj,?_⟩;refine ⟨_,rfl,_, "str", _,false,rfl,rd.ty,?_,_,rfl,iteT (he _ (Same.refl _))⟩;rw [Zmq];cases d <;> first | rfl | cases hd
  ·have nd:=sc_wo.nd;have ex:x=.str z:=by cases rd;rfl
   subst ex;have hr1:Room 1 _:=hr.mono (show 1<=5 by decide);refine ⟨_,Zab (Zay (ZaE (ZaB (pe_b ZaJ T.isinst boot_isinstance (Zaa (pv 0) (Zaa (ZcJ hstr Za7) Zac))))) Zaj Zah)
    (Zab (Zau (i:=1) nd rfl (Or.inl rfl) (pe_f G1 hr1 (Zaa (pv 0) Zac)))
    (Zab (Zay (ZaE (ZaB (pe_f G2 hr (Zaa (pv 1) Zac)))) (Zaf (Zbf ZaW hk Zam hm)) Zah) Zaj)),?_⟩
   refine ⟨_,rfl,_, "str", _,true,rfl,.str _,by kernel_rfl,_,rfl,iteF ⟨_,rfl,z,rfl,by omega,λp hp=>?_⟩⟩;have c1:=Zi0 z;refine ⟨_,rfl,p,spl z,rfl,SqL.of Zad,ZmS z,by omega,λy hy=>Yay (ZiZ y hy) (by omega),λH2 s2=>⟨_,rfl,?_⟩⟩;rw [hf];exact iteT (he H2 ((Same.new hp).trans s2))
end
open PySem L2 PyProof.Rows
def ZfQ (x:Str):Bool:=!(Builtin.Str.occurrences x "\n" 0 x.length 1).isEmpty
theorem ZgH {α:Type}{K:Yab}{a:Addr}{cs:List α}{σ0:L2.St}{H1:Hp}{te:TE}{Q:VK} (ad:α->Addr) (f1 f2 g:α->V) (hq:SqL K H1 a (cs.map λc=>V.ref (ad c))) (hc:∀ c∈cs,H1 (ad c)=some (.tup [f1 c,f2 c])) (hn:cs.length<=1000)
  (he:∀ c∈cs,Pu te ((σ0.set 0 (some (f1 c))).set 1 (some (f2 c))) H1 (g c)) (fin:∀ D H',H1 D=none->Same H1 H'->H' D=some (.lst (cs.map g))->Q (.ref D) H') :
  ZaR (Itl K a) (gTup K 2 (Zcy (ZaT 0) (Zcy (ZaT 1) gNil))) Zbe te σ0 H1 Q:=by
 intro D hD;refine ⟨λi m ys σ' H'=>m=cs.length - i/\i<=cs.length/\(∀ u v,(σ'.set 0 u).set 1 v=(σ0.set 0 u).set 1 v)/\Same H1 H'/\H' D=some (.lst ys)/\ys=(cs.take i).map g,⟨cs.length,by simp,YaH _,λ_ _=>rfl,Same.new hD,Zad,by simp⟩,?_⟩;rintro i m ys σ' H' ⟨rfl,hi,es,sm,hDl,hys⟩;refine ⟨hDl,?_⟩;have q:=sm.seq hq
 by_cases hlt:i<cs.length
 ·refine .inr ⟨⟨_,V.ref (ad cs[i]),q,by simp [hlt]⟩,λx H2 y=>?_⟩;obtain ⟨rfl,y⟩:=y;have y:=y _ q;rw [Yaf,Yac hlt] at y;have hx:V.ref (ad cs[i])=x:=Yae y;subst hx;refine ⟨ad cs[i],_,rfl,SqT.of (sm _ _ (hc cs[i] (YaL hlt))),rfl,_,_,rfl,_,_,rfl,rfl,?_⟩;unfold Zbe;refine iteT ?_;rw [es];refine he cs[i] (YaL hlt) _ _ sm λH5 s5=>⟨s5 _ _ hDl,?_,cs.length - (i+1),by omega,rfl,hlt,λ_ _=>set2,(sm.trans s5).upd hD,Zad,?_⟩
  ·rw [hys,Yaa,YaR];exact ZaD (by omega)
  ·rw [hys,List.take_add_one,Yac hlt,Yah];rfl
 ·have e:i=cs.length:=by omega
  subst e;refine .inl ⟨⟨_,q,by simp⟩,fin D H' hD sm ?_⟩;rw [hDl,hys,List.take_length]
def Zk2 (c:Nat × Nat):Str:=Str.ofString (toString ((c.1:Nat):Int)) ++ ":" ++ Str.ofString (toString ((c.2:Nat):Int))
def Zk0 (L:List (Nat × Nat)):Str:=Txt.join " " (L.map Zk2)
def Znl (L:List (Nat × Nat)):Str:=if L=[] then "none" else Zk0 L
theorem fig6 {r:Nat} (h:r<6):((r:Nat):Int).natAbs.log2<1920/\(Str.ofString (toString ((r:Nat):Int))).length=1:=by
 have:∀ r:Fin 6,(((r:Nat):Int).natAbs.log2<1920)/\(Str.ofString (toString ((r:Nat):Int))).length=1:=by decide +kernel
 exact this ⟨r,h⟩
theorem Zk1 {c:Nat × Nat} (h1:c.1<6) (h2:c.2<6):(Zk2 c).length=3:=by
 unfold Zk2;rw [ZaS,ZaS,(fig6 h1).2,(fig6 h2).2];rfl
section
variable {P:Program}{w:World}{K:Yab}{mg:Str->Option Value}{base:Heap}{c:Addr}
def spRS (c:Addr) (sp:Sp):Sp:=λvs H Q E=>∃ (x:Str),vs=[.str x]/\x.length<=900/\((ZfQ x=true/\E (.ref c) none H)\/(ZfQ x=false/\sp [.str (Txt.replace x "/" "\n")] H Q λcls _ H'=>E cls none H'))
theorem Zru:FnScope ["text"] ["text"] (Zae ZeT):=⟨rfl,rfl,rfl,by decide +kernel,rfl,by decide +kernel,by decide +kernel⟩
theorem Zqk {sp:Sp} (hk:ExcK K c) (hm:mg "NoText" = some (.ref c)) (D:Zak K mg "read_slashed" ZeT ["text"]) (G:FnAtX P w K mg base 6 "read_table" ["text"] sp):FnAtX P w K mg base 7 "read_slashed" ["text"] (spRS c sp):=by
 refine FnAtX.of D Zru (λvs H Q E h=>?_) (λf cdv A outer s H vs Q E hr h=>?_)
 ·obtain ⟨x,rfl,_⟩:=h;rfl
 ·obtain ⟨x,rfl,hl,hh⟩:=h;refine ⟨_,Zn0 (ZlN ZdF Zjx (pv 0) rfl) (Zaf (Zbf ZaW hk Zam hm)) Zah (Zhd (Zp0 G hr Za5 (Zoa (Zhh (pv 0))))),?_⟩;refine ⟨_,rfl,_,_,rfl,rfl,_,rfl,?_⟩;rcases hh with ⟨h1,h2⟩ | ⟨h1,h2⟩
  ·unfold ZfQ at h1;rw [h1];exact iteT h2
  ·unfold ZfQ at h1;rw [h1];exact iteF ⟨_,rfl,x,rfl,by omega,h2⟩
def Zri (H:Hp) (c:Addr × Nat × Nat):Prop:=H c.1=some (.tup [.int (c.2.1:Nat),.int (c.2.2:Nat)])
def ZnN:Sp:=λvs H Q _=>∃ (a:Addr) (cs:List (Addr × Nat × Nat)),vs=[.ref a]/\H a=some (.lst (cs.map λc=>V.ref c.1))/\(∀ c∈cs,Zri H c/\c.2.1<6/\c.2.2<6)/\cs.length<=36/\∀ H',Same H H'->Q (.str (Zk0 (cs.map (·.2)))) H'
theorem ZnT:FnScope ["cells"] ["cells"] (Zae Zch):=⟨rfl,rfl,rfl,by decide +kernel,rfl,by decide +kernel,by decide +kernel⟩
theorem Zoh (D:Zak K mg "show_cells" Zch ["cells"]):FnAt P w K mg base 1 "show_cells" ["cells"] ZnN:=by
 refine FnAt.of D ZnT (λvs H Q E h=>?_) (λf cdv A outer s H vs Q E hr h=>?_)
 ·obtain ⟨a,cs,rfl,_⟩:=h;rfl
 ·obtain ⟨a,cs,rfl,ha,hc,hn,q⟩:=h;have nd1:(["row","place"]:List Str).Nodup:=by decide +kernel
  refine ⟨_,Zaf (Zal (Zbp F.plainAttrs_str F.slot_str_join F.type_str_join ZeD Zam (Zaa (Zaz ["row","place"] [none,none] (Zae Zch) ["cells"] rfl (ZaH (pv 0)) (by decide +kernel)
    (λcl C s2 H2 ex=>Zn2 K rfl nd1) (λcl C s2 H2 ex=>Zaw) (λcl C s2 H2 ex=>Zp6 (pv 0) (pv 1))) Zac))),?_⟩
  refine ⟨rfl,_,rfl,a,rfl,⟨_,SqL.of ha⟩,ZgH (λc:Addr × Nat × Nat=>c.1) (λc=>.int (c.2.1:Nat)) (λc=>.int (c.2.2:Nat)) (λc=>V.str (Zk2 c.2)) (SqL.of ha) (λc h=>(hc c h).1) (by omega) (λc h H' Q' sm q'=>?_) λD H2 hD s2 hDl=>?_⟩
  ·obtain ⟨_,h1,h2⟩:=hc c h;have f1:=fig6 h1;have f2:=fig6 h2;exact ⟨_,rfl,_,rfl,f1.1,by omega,by decide +kernel,_,rfl,_,rfl,f2.1,by omega,q' _ (Same.refl _)⟩
  ·refine ⟨_,D,(cs.map λc:Addr × Nat × Nat=>c.2).map Zk2,rfl,rfl,?_,?_,q H2 s2⟩
   ·rw [hDl,Yau,Yau];rfl
   ·rw [show ((" " : Str))=⟨#[32]⟩ from ZbN];refine ZdL (B:=3) (λw hw=>?_) ?_
    ·obtain ⟨c,hc2,rfl⟩:=Yar.mp hw;obtain ⟨c2,hc3,rfl⟩:=Yar.mp hc2;rw [Zk1 (hc c2 hc3).2.1 (hc c2 hc3).2.2];exact Yag _
    ·rw [Yaa,Yaa];omega
def Zpx:Sp:=λvs H Q _=>∃ (a:Addr) (cs:List (Addr × Nat × Nat)),vs=[.ref a]/\H a=some (.lst (cs.map λc=>V.ref c.1))/\(∀ c∈cs,Zri H c/\c.2.1<6/\c.2.2<6)/\cs.length<=36/\∀ H',Same H H'->Q (.str (Znl (cs.map (·.2)))) H'
theorem ZpJ:FnScope ["cells"] ["cells"] (Zae ZcZ):=⟨rfl,rfl,rfl,by decide +kernel,rfl,by decide +kernel,by decide +kernel⟩
theorem Zqh (D:Zak K mg "show_found" ZcZ ["cells"]) (G:FnAt P w K mg base 1 "show_cells" ["cells"] ZnN):FnAt P w K mg base 2 "show_found" ["cells"] Zpx:=by
 refine FnAt.of D ZpJ (λvs H Q E h=>?_) (λf cdv A outer s H vs Q E hr h=>?_)
 ·obtain ⟨a,cs,rfl,_⟩:=h;rfl
 ·obtain ⟨a,cs,rfl,ha,hc,hn,q⟩:=h;refine ⟨_,Zaf (Zal (ZlU (ZlO (pv 0) (λ_=>rfl)) (pe_f G hr (Zaa (pv 0) Zac)) Zam)),?_⟩;refine ⟨_,rfl,_,.inl ⟨_,SqL.of ha,rfl⟩,?_⟩;cases cs with
  |nil=>exact iteF (q H (Same.refl _))
  |cons c0 cs=>exact iteT ⟨_,rfl,a,c0 :: cs,rfl,ha,hc,hn,λH' s'=>q H' s'⟩
end
end Seek
namespace L2
open PySem PySem.Spec PyProof.Rows
theorem ZjC {X:Cx}{T id:String}{name:Str}{r:V->List V->Hp->VK->Prop}{o e:Expr}{es:List Expr}{to:TE}{t:TA}{apos cpos:Pos} (K:Yab) (pa:PlainAttrs T) (slot:Slot T name id) (hty:typeOf (.builtin id)=pure (.type "method_descriptor")) (hm:MtR X id r) (ho:PE X o to) (ha:PA X (e :: es) t) (hK:X.K=K:=by rfl)
  (hbase:attributeBase o name X.env (eval o X.env)=eval o X.env:=by rfl)
  (hfew:((backTo cpos (starEach (e :: es) X.env)).all (λx=>!x.1) && (backToKw cpos (keywordEach [] X.env)).all (λx=>x.1.isSome)
   && decide ((e :: es).length+([]:List Keyword).length+(if ([]:List Keyword).isEmpty then 0 else 1)<30))=true:=by rfl)
  (hline:(apos.endLine == cpos.line)=true:=by rfl) (hs:starEach (e :: es) X.env=(false,eval e X.env) :: starEach es X.env:=by rfl) (hplain:(backTo cpos (starEach es X.env)).any (·.1)=false:=by rfl) :
  PE X (.Call (.Attribute o name apos) (e :: es) [] cpos) (tBM K T r to t):=by
 subst hK;exact Zbp pa slot hty hm ho ha hbase hfew hline hs hplain
end L2
namespace Seek
open PySem L2 PyProof.Rows
theorem Zkm {n:Int} (h:n.natAbs<10 ^ 50):n.natAbs.log2<1920:=by
 by_cases h0:n.natAbs=0
 ·rw [h0];decide
 ·rw [Nat.log2_lt h0];have h1:(10:Nat) ^ 50<=2 ^ 200:=by decide
  have h2:(2:Nat) ^ 200<=2 ^ 1920:=Nat.pow_le_pow_right (by decide) (by decide);exact Yan h (Yay h1 h2)
def Bd50 (ns:List Int):Prop:=∀ n∈ns,n.natAbs<10 ^ 50
theorem ZpP {ns:List Int} (h6:ns.length<=6) (hb:Bd50 ns):JoinOk " " (ns.map Zas)=true:=by
 rw [ZbN];refine ZdL (B:=51) (λw hw=>?_) (by rw [Yaa];omega);obtain ⟨n,hn,rfl⟩:=Yar.mp hw;exact Zj2 (hb n hn) (by decide)
theorem Zjp {ns:List Int} (h6:ns.length<=6) (hb:Bd50 ns):(rowS ns).length<=312:=Yay (ZlL (B:=51) λn hn=>Zj2 (hb n hn) (by decide)) (Nat.mul_le_mul_right 52 h6)
theorem Zpi {rows:List (List Int)} (h6:rows.length<=6) (hr:∀ r∈rows,r.length<=6) (hb:∀ r∈rows,Bd50 r):JoinOk "\n" (rows.map rowS)=true:=by
 rw [ZqD];refine ZdL (B:=312) (λw hw=>?_) (by rw [Yaa];omega);obtain ⟨r,hr',rfl⟩:=Yar.mp hw;exact Zjp (hr r hr') (hb r hr')
section
variable {P:Program}{w:World}{K:Yab}{mg:Str->Option Value}{base:Heap}
def spSR:Sp:=λvs H Q _=>∃ (a:Addr) (ns:List Int),vs=[.ref a]/\Row H a ns/\ns.length<=6/\Bd50 ns/\∀ H',Same H H'->Q (.str (rowS ns)) H'
theorem Zrt:FnScope ["row"] ["row"] (Zae Zdj):=⟨rfl,rfl,rfl,by decide +kernel,rfl,by decide +kernel,by decide +kernel⟩
theorem Zif (hstr:mg "str" = none) (D:Zak K mg "show_row" Zdj ["row"]):FnAt P w K mg base 1 "show_row" ["row"] spSR:=by
 refine FnAt.of D Zrt (λvs H Q E h=>?_) (λf cdv A outer s H vs Q E hr h=>?_)
 ·obtain ⟨a,ns,rfl,_⟩:=h;rfl
 ·obtain ⟨a,ns,rfl,hR,h6,hb,q⟩:=h;have nd1:(["number"]:List Str).Nodup:=by decide +kernel
  refine ⟨_,Zaf (Zal (Zbp F.plainAttrs_str F.slot_str_join F.type_str_join ZeD Zam (Zaa (Zaz ["number"] [none] (Zae Zdj) ["row"] rfl (ZaH (pv 0)) (by decide +kernel)
   (λcl C s2 H2 ex=>pg_c 0 nd1) (λcl C s2 H2 ex=>Zaw) (λcl C s2 H2 ex=>pe_t Zcc hstr Za7 (Zaa (pv 0) Zac))) Zac))),?_⟩
  refine ⟨rfl,_,rfl,a,rfl,⟨_,hR.sq⟩,ZaZ (ms:=ns) V.int (λn=>V.str (Zas n)) hR.sq (sl6 (by omega)) (λn hn H' Q' sm q'=>⟨_,rfl,n,rfl,Zkm (hb n hn),q' _ (Same.refl _)⟩) λD2 H2 hD s2 eD=>?_⟩;exact ⟨_,D2,ns.map Zas,rfl,rfl,by rw [eD,Yau];rfl,ZpP h6 hb,q H2 s2⟩
def spST:Sp:=λvs H Q _=>∃ (t:Addr) (prs:Prs),vs=[.ref t]/\Tab H t prs/\tabB prs=true/\(∀ p∈prs,Bd50 p.2)/\∀ H',Same H H'->Q (.str (tabS (prs.map (·.2)))) H'
theorem Zrs:FnScope ["table"] ["table"] (Zae Zcg):=⟨rfl,rfl,rfl,by decide +kernel,rfl,by decide +kernel,by decide +kernel⟩
theorem ZiV {prs:Prs} (hg:tabB prs=true) (hb:∀ p∈prs,Bd50 p.2):JoinOk "\n" ((prs.map (·.2)).map rowS)=true:=by
 obtain ⟨g,g1,g2,g3,g4⟩:=Zbb hg;refine Zpi (by rw [Yaa];exact g2) (λr hr=>?_) λr hr=>?_
 ·obtain ⟨p,hp,rfl⟩:=Yar.mp hr;rw [g.len p hp];exact g4
 ·obtain ⟨p,hp,rfl⟩:=Yar.mp hr;exact hb p hp
theorem Zfw (D:Zak K mg "show_table" Zcg ["table"]) (G1:FnAt P w K mg base 6 "need_table" ["thing"] Za1) (G2:FnAt P w K mg base 1 "show_row" ["row"] spSR):FnAt P w K mg base 7 "show_table" ["table"] spST:=by
 refine FnAt.of D Zrs (λvs H Q E h=>?_) (λf cdv A outer s H vs Q E hr h=>?_)
 ·obtain ⟨t,prs,rfl,_⟩:=h;rfl
 ·obtain ⟨t,prs,rfl,hT,hg,hb,q⟩:=h;have nd1:(["row"]:List Str).Nodup:=by decide +kernel
  have hr1:Room 1 _:=hr.mono (show 1<=6 by decide);obtain ⟨g,g1,g2,g3,g4⟩:=Zbb hg;refine ⟨_,Zab (ZaG (pe_f G1 hr (Zaa (pv 0) Zac))) (Zaf (Zal (Zbp F.plainAttrs_str F.slot_str_join F.type_str_join ZeD Zam (Zaa (Zaz ["row"] [none] (Zae Zcg) ["table"] rfl (ZaH (pv 0)) (by decide +kernel)
   (λcl C s2 H2 ex=>pg_c 0 nd1) (λcl C s2 H2 ex=>Zaw) (λcl C s2 H2 ex=>pe_f G2 hr1 (Zaa (pv 0) Zac))) Zac)))),?_⟩
  refine ⟨_,rfl,t,prs,rfl,hT,ZaO hg,hg,λH1 s1=>⟨rfl,_,rfl,t,rfl,⟨_,(hT.same s1).sq⟩,ZaZ (ms:=prs) (λp:Addr × List Int=>V.ref p.1) (λp=>V.str (rowS p.2)) (hT.same s1).sq (sl6 (by omega)) (λp hp H' Q' sm q'=>⟨_,rfl,p.1,p.2,rfl,((hT.same s1).same sm).r p hp,by rw [g.len p hp];exact g4,hb p hp,λH'' s''=>q' H'' s''⟩) λD2 H2 hD s2 eD=>?_⟩⟩;exact ⟨_,D2,(List.map (λp:Addr × List Int=>p.2) prs).map rowS,rfl,rfl,by rw [eD];simp only [Yau];rfl,ZiV hg hb,q H2 (s1.trans s2)⟩
end
open PySem L2 PyProof.Rows
theorem len0:0<=sizeLine:=YaH _
open PySem L2 PyProof.Rows
def rc (i:Nat) (ns:List Int) (x:Int) (k:Nat):List (Nat × Nat):=((List.range k).filter λj=>decide (ns.getD j 0=x)).map λj=>(i,j)
def ZbV (prs:Prs) (x:Int) (n:Nat):List (Nat × Nat):=(List.range n).flatMap λi=>rc i (ZbD prs i) x (ZbD prs i).length
theorem Zjq (i:Nat) (ns:List Int) (x:Int) (k:Nat):rc i ns x (k+1)=rc i ns x k ++ (if ns.getD k 0=x then [(i,k)] else []):=by
 unfold rc;rw [List.range_succ,List.filter_append,Yah]
 by_cases h:ns.getD k 0=x
 ·rw [Ya7 h,List.filter_cons,Ya4 h];rfl
 ·rw [Ya6 h,List.filter_cons,Ya5 h];rfl
theorem Zm7 (i:Nat) (ns:List Int) (x:Int) (k:Nat):(rc i ns x k).length<=k:=by
 unfold rc;rw [Yaa];exact Yay (Ybm _ _) (by rw [List.length_range];omega)
theorem ZfZ (prs:Prs) (x:Int) (n:Nat):ZbV prs x (n+1)=ZbV prs x n ++ rc n (ZbD prs n) x (ZbD prs n).length:=by
 unfold ZbV;rw [List.range_succ,List.flatMap_append];simp
theorem Zr7 {i j:Int}:decide (V.int i=V.int j)=decide (i=j):=by
 rw [Ybb];constructor
 ·intro h;injection h
 ·rintro rfl;rfl
open PySem L2 PyProof.Rows
def Cell (H:Hp) (c:Addr) (i j:Nat):Prop:=H c=some (.tup [.int (i:Nat),.int (j:Nat)])
section
variable {P:Program}{w:World}{K:Yab}{mg:Str->Option Value}{base:Heap}
def Zcu:Sp:=λvs H Q _=>∃ (c:Addr) (i j:Nat),vs=[.ref c]/\Cell H c i j/\∀ H',Same H H'->Q (.bl true) H'
theorem ZfB (T:Blt mg) (D:Zak K mg "all_whole" ZbM ["things"]) (G1:FnAt P w K mg base 1 "is_whole" ["thing"] Zbi):FnAt P w K mg base 2 "all_whole" ["things"] Zcu:=by
 refine FnAt.of D ZdC (λvs H Q E h=>?_) (λf cdv A outer s H vs Q E hr h=>?_)
 ·obtain ⟨c,i,j,rfl,_⟩:=h;rfl
 ·obtain ⟨c,i,j,rfl,hC,q⟩:=h;have nd1:(["thing"]:List Str).Nodup:=by decide +kernel
  refine ⟨_,Zaf (Zal (pe_b (Za0 rfl) T.all boot_all (Zaa (Zaz ["thing"] [none] (Zae ZbM) ["things"] rfl (ZpZ (pv 0)) (by decide +kernel)
   (λcl C s2 H2 ex=>pg_c 0 nd1) (λcl C s2 H2 ex=>Zaw) (λcl C s2 H2 ex=>pe_f G1 hr (Zaa (pv 0) Zac))) Zac))),?_⟩
  refine ⟨_,rfl,c,rfl,⟨_,SqT.of hC⟩,ZmG V.int (ms:=[(i:Int),(j:Int)]) (λ_=>.bl true) (SqT.of hC) (by show 2<=sizeLine;decide) (λn _ H' Q' sm q'=>?_) λL H' hL sm hLl=>?_⟩
  ·exact ⟨_,rfl,n,rfl,q' _ (Same.refl _)⟩
  ·exact ⟨L,[true,true],rfl,SqL.of hLl,q H' sm⟩
def Zg6:Sp:=λvs H Q _=>∃ (c:Addr) (r p i j:Nat),vs=[.int (r:Nat),.int (p:Nat),.ref c]/\Cell H c i j/\i<r/\j<p/\∀ H',Same H H'->Q (.bl true) H'
theorem Zfp:FnScope ["rows","places","thing"] ["rows","places","thing"] (Zae Ze1):=⟨rfl,rfl,rfl,by decide +kernel,rfl,by decide +kernel,by decide +kernel⟩
theorem ZjW (T:Blt mg) (htup:mg "tuple" = none) (D:Zak K mg "is_cell_of_size" Ze1 ["rows","places","thing"]) (G:FnAt P w K mg base 2 "all_whole" ["things"] Zcu):FnAt P w K mg base 3 "is_cell_of_size" ["rows","places","thing"] Zg6:=by
 refine FnAt.of D Zfp (λvs H Q E h=>?_) (λf cdv A outer s H vs Q E hr h=>?_)
 ·obtain ⟨c,r,p,i,j,rfl,_⟩:=h;rfl
 ·obtain ⟨c,r,p,i,j,rfl,hC,hi,hj,q⟩:=h;refine ⟨_,Zab (Zay (PW.pt (Zb1 (ZaE (ZaB (pe_b ZaJ T.isinst boot_isinstance (Zaa (pv 2) (Zaa (ZcJ htup boot_tuple) Zac))))) (Zb1 (Zap Zgm (pe_b Zao T.len boot_len (Zaa (pv 2) Zac)) Zag (Zaq _)) (Zby (ZaE (ZaB (pe_f G hr (Zaa (pv 2) Zac)))))))) (Zaf (Zal ZbG)) Zah)
   (Zaf (Zal (ZbY (Zbg o_le o_lt Zag (Zar ZbJ (pv 2) Zag (λ_ _=>rfl)) (pv 0))
    (ZbF (Zbg o_le o_lt Zag (Zar ZbJ (pv 2) Zag (λ_ _=>rfl)) (pv 1)))))),?_⟩
  refine ⟨_,rfl,_,_,_,_,rfl,.tup hC,Zni _,_,rfl,iteF ⟨_,rfl,c,_,rfl,.inr (SqT.of hC),rfl,_,rfl,?_⟩⟩;refine iteF ⟨_,rfl,c,i,j,rfl,hC,λH1 s1=>⟨_,rfl,iteF ?_⟩⟩;have hC1:Cell H1 c i j:=s1 _ _ hC;refine ⟨_,rfl,c,_,0,.int (i:Nat),rfl,rfl,SqT.of hC1,rfl,_,_,rfl,rfl,_,rfl,?_⟩;rw [Ya4 (show (0:Int)<=(i:Nat) by omega)];refine iteT ⟨_,rfl,_,_,rfl,rfl,_,rfl,?_⟩;rw [Ya4 (show ((i:Nat):Int)<(r:Nat) by omega)];refine iteT ⟨_,rfl,c,_,1,.int (j:Nat),rfl,rfl,SqT.of hC1,rfl,_,_,rfl,rfl,_,rfl,?_⟩;rw [Ya4 (show (0:Int)<=(j:Nat) by omega)];refine iteT ⟨_,rfl,_,_,rfl,rfl,?_⟩;rw [Ya4 (show ((j:Nat):Int)<(p:Nat) by omega)];exact q H1 s1
def Zg5:Sp:=λvs H Q _=>∃ (t c:Addr) (prs:Prs) (i j:Nat),vs=[.ref t,.ref c]/\Tab H t prs/\tabB prs=true/\Cell H c i j/\i<prs.length/\j<w0 prs/\∀ H',Same H H'->Q (.bl true) H'
theorem Zfo:FnScope ["table","thing"] ["table","thing"] (Zae ZeY):=⟨rfl,rfl,rfl,by decide +kernel,rfl,by decide +kernel,by decide +kernel⟩
theorem ZjR (T:Blt mg) (D:Zak K mg "is_cell" ZeY ["table","thing"]) (G:FnAt P w K mg base 3 "is_cell_of_size" ["rows","places","thing"] Zg6):FnAt P w K mg base 4 "is_cell" ["table","thing"] Zg5:=by
 refine FnAt.of D Zfo (λvs H Q E h=>?_) (λf cdv A outer s H vs Q E hr h=>?_)
 ·obtain ⟨t,c,prs,i,j,rfl,_⟩:=h;rfl
 ·obtain ⟨t,c,prs,i,j,rfl,hT,hg,hC,hi,hj,q⟩:=h;obtain ⟨g,g1,g2,g3,g4⟩:=Zbb hg;obtain ⟨p0,hp0,hm0,hx0⟩:=Zcx (prs:=prs) g1;refine ⟨_,Zaf (Zal (pe_f G hr (Zaa (pe_b Zao T.len boot_len (Zaa (pv 0) Zac)) (Zaa (pe_b Zao T.len boot_len (Zaa (Zar Zan (pv 0) Zag (λ_ _=>rfl)) Zac)) (Zaa (pv 1) Zac))))),?_⟩;exact ⟨_,rfl,t,_,rfl,.inl hT.sq,_,rfl,t,_,0,.ref p0.1,rfl,rfl,hT.sq,Zbu (j:=0) (by rw [Yaf,hx0];rfl),p0.1,_,rfl,.inl (hT.r p0 hm0).sq,_,rfl,c,prs.length,w0 prs,i,j,by rw [Yaa,Yaa,g.len p0 hm0],hC,hi,hj,q⟩
def Zea:Sp:=λvs H Q _=>∃ (t c:Addr) (prs:Prs) (i j:Nat),vs=[.ref t,.ref c]/\Tab H t prs/\tabB prs=true/\Cell H c i j/\i<prs.length/\j<w0 prs/\∀ H',Same H H'->Q .non H'
theorem ZdB:FnScope ["table","thing"] ["table","thing"] (Zae ZcO):=⟨rfl,rfl,rfl,by decide +kernel,rfl,by decide +kernel,by decide +kernel⟩
theorem Zgt (D:Zak K mg "need_cell" ZcO ["table","thing"]) (G:FnAt P w K mg base 4 "is_cell" ["table","thing"] Zg5):FnAt P w K mg base 5 "need_cell" ["table","thing"] Zea:=by
 refine FnAt.of D ZdB (λvs H Q E h=>?_) (λf cdv A outer s H vs Q E hr h=>?_)
 ·obtain ⟨t,c,prs,i,j,rfl,_⟩:=h;rfl
 ·obtain ⟨t,c,prs,i,j,rfl,hT,hg,hC,hi,hj,q⟩:=h;refine ⟨_,Zaf (Zay (ZaE (ZaB (pe_f G hr (Zaa (pv 0) (Zaa (pv 1) Zac))))) Zaj Zah),?_⟩;exact ⟨_,rfl,_,rfl,t,c,prs,i,j,rfl,hT,hg,hC,hi,hj,λH' sm=>⟨_,rfl,iteF (q H' sm)⟩⟩
end
open PySem L2 PyProof.Rows
abbrev Cs:=List (Addr × Nat × Nat)
def Zd4 (c:Addr × Nat × Nat):V:=.ref c.1
def Zbo (H:Hp) (c:Addr × Nat × Nat):Prop:=H c.1=some (.tup [.int (c.2.1:Nat),.int (c.2.2:Nat)])
section
variable {P:Program}{w:World}{K:Yab}{mg:Str->Option Value}{base:Heap}
def Zjg:Sp:=λvs H Q _=>∃ (t:Addr) (prs:Prs) (x:Int),vs=[.ref t,.int x]/\Tab H t prs/\tabB prs=true /\
 ∀ L (cs:Cs) H',H L=none->Same H H'->H' L=some (.lst (cs.map Zd4))->(∀ c∈cs,Zbo H' c/\H c.1=none)->cs.map (·.2)=ZbV prs x prs.length->cs.length<=36->Q (.ref L) H'
theorem sc_cells:FnScope ["table","x","cells","row","numbers"] ["table","x"] (Zae ZhO):=⟨rfl,rfl,rfl,by decide +kernel,rfl,by decide +kernel,by decide +kernel⟩
theorem Zme (T:Blt mg) (D:Zak K mg "cells_of" ZhO ["table","x"]) (G1:FnAt P w K mg base 6 "need_table" ["thing"] Za1) (G2:FnAt P w K mg base 2 "need_number" ["thing"] Zbh):FnAt P w K mg base 7 "cells_of" ["table","x"] Zjg:=by
 refine FnAt.of D sc_cells (λvs H Q E h=>?_) (λf cdv A outer s H vs Q E hr h=>?_)
 ·obtain ⟨t,prs,x,rfl,_⟩:=h;rfl
 ·obtain ⟨t,prs,x,rfl,hT,hg,q⟩:=h;obtain ⟨g,g1,g2,g3,g4⟩:=Zbb hg;have hs:=ZaO hg;have nd:=sc_cells.nd;have nd1:(["place","number","row","x"]:List Str).Nodup:=by decide +kernel
  refine ⟨_,Zab (ZaG (pe_f G1 hr (Zaa (pv 0) Zac))) (Zab (ZaG (pe_f G2 (hr.mono (by decide)) (Zaa (pv 1) Zac)))
   (Zab (Zau (i:=2) nd rfl (Or.inl rfl) (ZaK Zac))
   (Zab (Zcq PassesOwn.never rfl (Zet rfl T.enum (Zaa (pv 0) Zac)) (Zhg rfl (Zbz (Za3 (i:=3) nd rfl (Or.inr rfl)) (Zbz (Za3 (i:=4) nd rfl (Or.inl rfl)) Zeu)))
    (Zaf (ZaG (Zbp YaS PySem.F.slot_list_extend PySem.F.type_list_extend ZfE (pv 2) (Zaa
     (Zaz ["place","number","row","x"] [none,none,some 3,some 1] (Zae ZhO) ["table","x","cells","row","numbers"] rfl (Zet rfl T.enum (Zaa (pv 4) Zac)) (by decide +kernel)
      (λcl C s2 H2 ex=>Zn3 K rfl nd1) (λcl C s2 H2 ex=>Zce (Zap Za4 (pv 1) (pv 3) (Zaq _))) (λcl C s2 H2 ex=>ZbE (Zaa (pv 2) (Zaa (pv 0) Zac)))) Zac)))))
   (Zaf (Zal (pv 2)))))),?_⟩
  refine ⟨_,rfl,t,prs,rfl,hT,hs,hg,λH1 s1=>⟨_,rfl,x,rfl,len0,λL hL=>?_⟩⟩;have L0:H L=none:=s1.free hL;have s2:Same H (upd H1 L (.lst [])):=s1.trans (Same.new hL);refine ⟨_,rfl,t,rfl,⟨_,(hT.same s2).sq⟩,ZhC (K:=K) (a:=t) (xs:=prs.map λp=>V.ref p.1) (λi σ H2=>∃ (cs:Cs) (o3 o4:Option V),σ = [some (.ref t),some (.int x),some (.ref L),o3,o4]/\Same H H2/\H2 L=some (.lst (cs.map Zd4)) /\
   (∀ c∈cs,Zbo H2 c/\H c.1=none)/\cs.map (·.2)=ZbV prs x i/\cs.length<=6 * i)
   ⟨[],none,none,rfl,s2,Zad,λc hc=>(nomatch hc),rfl,by simp⟩ (λi σ H2 _ ⟨_,_,_,_,sm,_⟩=>(hT.same sm).sq) ?_ ?_⟩
  ·rintro i y σ H2 T1 hi ⟨cs,o3,o4,rfl,sm,hLl,hcs,hcm,hcl⟩ hT1;have hil:i<prs.length:=by
    have:=(Yai.mp hi).1;rw [Yaa] at this;exact this
   obtain ⟨p,hp1,hp2,hp3⟩:=Zb5 hil;rw [Yaf,hp2] at hi;have hy:V.ref p.1=y:=Yae hi;subst hy;have hpl:=g.len p hp1;have smT:Same H2 (upd H2 T1 (.tup [.int (i:Nat),.ref p.1])):=Same.new hT1;have eT:(upd H2 T1 (.tup [.int (i:Nat),.ref p.1])) T1=some (.tup [.int (i:Nat),.ref p.1]):=Zad;generalize upd H2 T1 (.tup [.int (i:Nat),.ref p.1])=H3 at smT eT ⊢;refine ⟨T1,_,rfl,SqT.of eT,rfl,_,_,rfl,_,_,rfl,rfl,?_⟩;have sm3:=sm.trans smT;have hR3:=(hT.same sm3).r p hp1;have hL3:=smT _ _ hLl;refine ⟨_,rfl,.inl ⟨rfl,_,SqL.of hL3⟩,_,rfl,p.1,rfl,⟨_,hR3.sq⟩,?_⟩;refine ZfY (xs:=p.2.map V.int) (λD2 k ys H'=>∃ qs:Cs,Same H3 H'/\H' D2=some (.lst ys)/\ys=qs.map Zd4/\(∀ c∈qs,Zbo H' c/\H3 c.1=none/\c.1≠D2)/\qs.map (·.2)=rc i p.2 x k)
    (λD2 hD2=>⟨[],Same.new hD2,Zad,rfl,λc hc=>(nomatch hc),rfl⟩) (λD2 k ys H' _ _ ⟨_,sm',e,_⟩=>⟨e,(hR3.same sm').sq⟩) ?_ ?_
   ·rintro D2 k z ys H' T2 hD2 hz ⟨qs,sm',eD,hys,hqs,hqm⟩ hT2;have hkl:k<p.2.length:=by
     have:=(Yai.mp hz).1;rw [Yaa] at this;exact this
    have ez:z=.int (p.2.getD k 0):=by
     rw [Yaf,Yac hkl] at hz;rw [Yat,Yac hkl];exact (Yae hz).symm
    subst ez;have smT2:Same H' (upd H' T2 (.tup [.int (k:Nat),.int (p.2.getD k 0)])):=Same.new hT2;generalize upd H' T2 (.tup [.int (k:Nat),.int (p.2.getD k 0)])=H4 at smT2 ⊢;have ql:qs.length<=k:=by
     have:=congrArg List.length hqm;rw [Yaa] at this;rw [this];exact Zm7 _ _ _ _
    refine ⟨_,rfl,_,rfl,rfl,_,rfl,?_⟩;rw [Zr7]
    by_cases hx:p.2.getD k 0=x
    ·rw [Ya4 hx];refine iteT ⟨_,rfl,_,rfl,len2,λT3 hT3=>?_⟩;have nT3:D2≠T3:=Zav (smT2 _ _ eD) hT3;have s3T:Same H4 (upd H4 T3 (.tup [.int (i:Nat),.int (k:Nat)])):=Same.new hT3;refine ⟨s3T _ _ (smT2 _ _ eD),?_,qs ++ [(T3,i,k)],((sm'.trans smT2).trans s3T).upd hD2,Zad,?_,λc hc=>?_,?_⟩
     ·rw [hys,Yaa];exact ZaD (by omega)
     ·rw [hys,Yah];rfl
     ·rcases YaG.mp hc with z | z
      ·obtain ⟨z1,z2,z3⟩:=hqs c z;refine ⟨?_,z2,z3⟩;unfold Zbo;rw [Zai z3];exact s3T _ _ (smT2 _ _ z1)
      ·have:c=(T3,i,k):=by simpa using z
       subst this;refine ⟨?_,(sm'.trans smT2).free hT3,Ne.symm nT3⟩;unfold Zbo;rw [Zai (Ne.symm nT3)];exact Zad
     ·rw [Yah,hqm,Zjq,Ya7 hx];rfl
    ·rw [Ya5 hx];refine iteF ⟨qs,sm'.trans smT2,smT2 _ _ eD,hys,λc hc=>?_,?_⟩
     ·obtain ⟨z1,z2,z3⟩:=hqs c hc;exact ⟨smT2 _ _ z1,z2,z3⟩
     ·rw [hqm,Zjq,Ya6 hx,List.append_nil]
   ·rintro D2 ys H' hD2 ⟨qs,sm',eD,hys,hqs,hqm⟩;rw [Yaa] at hqm;have ql:qs.length<=p.2.length:=by
     have:=congrArg List.length hqm;rw [Yaa] at this;rw [this];exact Zm7 _ _ _ _
    have hL4:=sm' _ _ hL3;refine ⟨L,D2,_,_,rfl,rfl,hL4,eD,?_,?_⟩
    ·rw [Yaa,hys,Yaa];exact sl6 (by omega)
    ·refine ⟨cs ++ qs,_,_,rfl,(sm3.trans sm').upd L0,?_,λc hc=>?_,?_,?_⟩
     ·rw [Zad,hys,Yah]
     ·have nL:∀ c:Addr × Nat × Nat,Zbo H' c->c.1≠L:=λc h=>Zmi h hL4 (by intro z;cases z);rcases YaG.mp hc with z | z
      ·obtain ⟨z1,z2⟩:=hcs c z;have z3:Zbo H' c:=sm' _ _ (smT _ _ z1);refine ⟨?_,z2⟩;unfold Zbo;rw [Zai (nL c z3)];exact z3
      ·obtain ⟨z1,z2,z3⟩:=hqs c z;refine ⟨?_,sm3.free z2⟩;unfold Zbo;rw [Zai (nL c z1)];exact z1
     ·rw [Yah,hcm,hqm,ZfZ,hp3]
     ·rw [Yak];omega
  ·rintro σ H2 ⟨cs,o3,o4,rfl,sm,hLl,hcs,hcm,hcl⟩;rw [Yaa] at hcm hcl;exact ⟨_,rfl,q L cs H2 L0 sm hLl hcs hcm (by omega)⟩
end
open PySem L2 PyProof.Rows
def lessN (x:Int) (ns:List Int):Nat:=(ns.filter λn=>decide (n<x)).length
open PySem L2 PyProof.Rows
section
variable {P:Program}{w:World}{K:Yab}{mg:Str->Option Value}{base:Heap}
def Zm2:Sp:=λvs H Q _=>∃ (a:Addr) (ns:List Int) (x:Int),vs=[.ref a,.int x]/\Row H a ns/\ns.length<=1000/\∀ H',Same H H'->Q (.int (lessN x ns:Nat)) H'
theorem ZnV:FnScope ["row","x"] ["row","x"] (Zae ZmD):=⟨rfl,rfl,rfl,by decide +kernel,rfl,by decide +kernel,by decide +kernel⟩
theorem Zoo (T:Blt mg) (D:Zak K mg "how_many_less" ZmD ["row","x"]):FnAt P w K mg base 1 "how_many_less" ["row","x"] Zm2:=by
 refine FnAt.of D ZnV (λvs H Q E h=>?_) (λf cdv A outer s H vs Q E hr h=>?_)
 ·obtain ⟨a,ns,x,rfl,_⟩:=h;rfl
 ·obtain ⟨a,ns,x,rfl,hR,hn,q⟩:=h;have nd1:(["number","x"]:List Str).Nodup:=by decide +kernel
  refine ⟨_,Zaf (Zal (pe_b Zao T.len boot_len (Zaa (Zaz ["number","x"] [none,some 1] (Zae ZmD) ["row","x"] rfl (ZaH (pv 0)) (by decide +kernel)
    (λcl C s2 H2 ex=>pg_c 0 nd1) (λcl C s2 H2 ex=>Zce (Zap Zqc (pv 0) (pv 1) (Zaq _))) (λcl C s2 H2 ex=>pv 0)) Zac))),?_⟩
  refine ⟨_,rfl,a,rfl,⟨_,hR.sq⟩,ZgI V.int (λn=>decide (n<x)) V.int hR.sq (sl6 hn) (λn hx H' Q' sm q'=>?_) (λn hx _ H' Q' sm q'=>?_) λD H' hD sm hDl=>?_⟩
  ·exact ⟨_,rfl,_,rfl,_,_,rfl,rfl,_,rfl,q' _ (Same.refl _)⟩
  ·exact ⟨_,rfl,q' _ (Same.refl _)⟩
  ·refine ⟨D,_,rfl,.inl (SqL.of hDl),?_⟩;rw [Yaa];exact q H' sm
def Zgd (f:Int->List Int->Nat):Sp:=λvs H Q _=>∃ (t:Addr) (prs:Prs) (x:Int),vs=[.ref t,.int x]/\Tab H t prs/\Sm prs/\tabB prs=true /\
 ∀ D H',H D=none->Same H H'->Row H' D (prs.map λp=>(f x p.2:Int))->Q (.ref D) H'
theorem Zlz:FnScope ["table","x"] ["table","x"] (Zae ZhN):=⟨rfl,rfl,rfl,by decide +kernel,rfl,by decide +kernel,by decide +kernel⟩
theorem Zl3 (D:Zak K mg "stair_of" ZhN ["table","x"]) (G1:FnAt P w K mg base 6 "need_table" ["thing"] Za1) (G2:FnAt P w K mg base 2 "need_number" ["thing"] Zbh) (G3:FnAt P w K mg base 1 "how_many_less" ["row","x"] Zm2) :
  FnAt P w K mg base 7 "stair_of" ["table","x"] (Zgd lessN):=by
 refine FnAt.of D Zlz (λvs H Q E h=>?_) (λf cdv A outer s H vs Q E hr h=>?_)
 ·obtain ⟨t,prs,x,rfl,_⟩:=h;rfl
 ·obtain ⟨t,prs,x,rfl,hT,hs,hg,q⟩:=h;have nd1:(["row","x"]:List Str).Nodup:=by decide +kernel
  refine ⟨_,Zab (ZaG (pe_f G1 hr (Zaa (pv 0) Zac))) (Zab (ZaG (pe_f G2 (hr.mono (by decide)) (Zaa (pv 1) Zac)))
   (Zaf (Zal (Zaz ["row","x"] [none,some 1] (Zae ZhN) ["table","x"] rfl (ZaH (pv 0)) (by decide +kernel)
    (λcl C s2 H2 ex=>pg_c 0 nd1) (λcl C s2 H2 ex=>Zaw) (λcl C s2 H2 ex=>pe_f G3 (hr.mono (by decide)) (Zaa (pv 0) (Zaa (pv 1) Zac))))))),?_⟩
  refine ⟨_,rfl,t,prs,rfl,hT,hs,hg,λH1 s1=>⟨_,rfl,x,rfl,?_⟩⟩;have hT1:=hT.same s1;refine ⟨_,rfl,t,rfl,⟨_,hT1.sq⟩,ZaZ (λp=>V.ref p.1) (λp=>.int (lessN x p.2:Nat)) hT1.sq (sl6 hs.1) (λp hp H' Q' sm q'=>?_) λD H' hD sm hDl=>?_⟩
  ·exact ⟨_,rfl,_,rfl,p.1,p.2,x,rfl,(hT1.r p hp).same sm,hs.2 p hp,q'⟩
  ·refine q D H' (s1.free hD) (s1.trans sm) ?_;unfold Row;rw [hDl,Yau];rfl
end
open PySem L2 PyProof.Rows
def Zcm (prs:Prs):List Int:=(prs.map (·.2)).flatten
theorem ZcY (p:Addr × List Int) (r:Prs):Zcm (p :: r)=p.2 ++ Zcm r:=rfl
theorem ZfI (x:Int):∀ prs:Prs,(prs.map λp=>(lessN x p.2:Int)).sum=(lessN x (Zcm prs):Nat)
 | []=>rfl
 |p :: r=>by
  rw [Yaw,List.sum_cons,ZfI x r,ZcY];unfold lessN;rw [List.filter_append,Yak];omega
open PySem L2 PyProof.Rows
theorem ZcF {α:Type}{lt:α->α->Bool} (tot:∀ a b,lt a b=false->lt b a=false->a=b):∀ {xs ys:List α},xs.Perm ys->xs.Pairwise (λr q=>lt q r=false)->ys.Pairwise (λr q=>lt q r=false)->xs=ys
 | [],ys,h,_,_=>(List.nil_perm.mp h).symm
 |a :: xs,[],h,_,_=>by have:=h.length_eq;simp at this
 |a :: xs,b :: ys,h,h1,h2=>by
  rw [List.pairwise_cons] at h1 h2;have e:a=b:=by
   have ha:a∈b :: ys:=h.subset (by simp);have hb:b∈a :: xs:=h.symm.subset (by simp);rcases YaF.mp ha with z | z
   ·exact z
   ·rcases YaF.mp hb with y | y
    ·exact y.symm
    ·exact tot a b (h2.1 a z) (h1.1 b y)
  subst e;rw [ZcF tot (List.perm_cons a |>.mp h) h1.2 h2.2]
def entR (i:Nat) (ns:List Int) (k:Nat):List (List Int):=(List.range k).map λj=>[ns.getD j 0,(i:Int),(j:Int)]
def Zb0 (prs:Prs):Nat->List (List Int)
 | 0=>[]
 |i+1=>Zb0 prs i ++ entR i (ZbD prs i) (ZbD prs i).length
theorem ZkK (i:Nat) (ns:List Int) (k:Nat):entR i ns (k+1)=entR i ns k ++ [[ns.getD k 0,(i:Int),(k:Int)]]:=by
 unfold entR;rw [List.range_succ,Yah];rfl
theorem ZhH (i:Nat) (ns:List Int) (k:Nat):(entR i ns k).length=k:=by
 unfold entR;rw [Yaa,List.length_range]
theorem ZbK {prs:Prs}{e:List Int}:∀ {i:Nat},e∈Zb0 prs i->∃ n r p:Int,e=[n,r,p]
 | 0,h=>nomatch h
 |i+1,h=>by
  rcases YaG.mp h with z | z
  ·exact ZbK z
  ·obtain ⟨j,_,rfl⟩:=Yar.mp z;exact ⟨_,_,_,rfl⟩
def hdI (e:List Int):Int:=e.getD 0 0
theorem Zib:∀ ns:List Int,(List.range ns.length).map (λj=>ns.getD j 0)=ns:=λns=>by
 apply List.ext_getElem (by simp);intro i h1 h2;simp [h2]
theorem Ziy (i:Nat) (ns:List Int):(entR i ns ns.length).map hdI=ns:=by
 unfold entR;rw [Yau];exact Zib ns
theorem Zda (prs:Prs):∀ i,i<=prs.length->(Zb0 prs i).map hdI=Zcm (prs.take i)
 | 0,_=>by simp [Zb0,Zcm]
 |i+1,h=>by
  have ih:=Zda prs i (by omega);show (Zb0 prs i ++ _).map hdI=_;rw [Yah,ih,Ziy];unfold Zcm ZbD;rw [List.take_add_one,Yac (by omega),Yah,List.flatten_append];simp
theorem ZgB (prs:Prs):(Zb0 prs prs.length).map hdI=Zcm prs:=by
 rw [Zda prs _ (Yag _),List.take_length]
theorem Zko {e f:List Int} (he:∃ n r p:Int,e=[n,r,p]) (hf:∃ n r p:Int,f=[n,r,p]) (h:HT.lexLt f e=false):hdI e<=hdI f:=by
 obtain ⟨n,r,p,rfl⟩:=he;obtain ⟨m,r',p',rfl⟩:=hf;rw [HT.lexLt_cons] at h;show n<=m
 by_cases z:m=n
 ·omega
 ·rw [Ya6 z] at h;have:=of_decide_eq_false h;omega
structure Sorted (prs:Prs) (fs:List (List Int)):Prop where
 pm:fs.Perm (Zb0 prs prs.length)
 up:fs.Pairwise (λr q=>HT.lexLt q r=false)
theorem Sorted.heads {prs:Prs}{fs:List (List Int)} (h:Sorted prs fs):(fs.map hdI).Perm (Zcm prs)/\(fs.map hdI).Pairwise (·<=·):=by
 refine ⟨?_,?_⟩
 ·rw [<- ZgB];exact h.pm.map hdI
 ·rw [List.pairwise_map];refine List.Pairwise.imp_of_mem (λ{a b} ha hb z=>?_) h.up;exact Zko (ZbK (h.pm.subset ha)) (ZbK (h.pm.subset hb)) z
theorem Sorted.same {prs:Prs}{fs gs:List (List Int)} (h:Sorted prs fs) (g:Sorted prs gs):fs=gs:=ZcF SrtT.lex_tot (h.pm.trans g.pm.symm) h.up g.up
theorem ZkD {prs:Prs}{wide:Nat} (h:∀ p∈prs,p.2.length=wide):(Zcm prs).length=prs.length * wide:=by
 induction prs with
 |nil=>simp [Zcm]
 |cons p r ih =>
  rw [ZcY,Yak,h p (by simp),ih λq hq=>h q (by simp [hq]),YaC,Nat.add_mul,Nat.one_mul,Nat.add_comm]
theorem Sorted.len {prs:Prs}{fs:List (List Int)} (s:Sorted prs fs):fs.length=(Zcm prs).length:=by
 have:=s.heads.1.length_eq;rw [Yaa] at this;exact this
open PySem L2 PyProof.Rows
abbrev Es:=List (Addr × List Int)
def Zd6 (H:Hp) (e:Addr × List Int):Prop:=H e.1=some (.tup (e.2.map V.int))
open PySem L2 PyProof.Rows
section
variable {P:Program}{w:World}{K:Yab}{mg:Str->Option Value}{base:Heap}
def Zja:Sp:=λvs H Q _=>∃ (t:Addr) (prs:Prs),vs=[.ref t]/\Tab H t prs/\tabB prs=true/\Q (.int ((prs.length:Int) * (w0 prs:Int))) H
theorem ZnU:FnScope ["table"] ["table"] (Zae Zo0):=⟨rfl,rfl,rfl,by decide +kernel,rfl,by decide +kernel,by decide +kernel⟩
theorem Zon (T:Blt mg) (D:Zak K mg "how_many_cells" Zo0 ["table"]):FnAt P w K mg base 1 "how_many_cells" ["table"] Zja:=by
 refine FnAt.of D ZnU (λvs H Q E h=>?_) (λf cdv A outer s H vs Q E hr h=>?_)
 ·obtain ⟨t,prs,rfl,_⟩:=h;rfl
 ·obtain ⟨t,prs,rfl,hT,hg,q⟩:=h;obtain ⟨g,g1,g2,g3,g4⟩:=Zbb hg;obtain ⟨p0,hp0,hm0,hx0⟩:=Zcx (prs:=prs) g1;refine ⟨_,Zaf (Zal (Zax Zj1 (pe_b Zao T.len boot_len (Zaa (pv 0) Zac)) (pe_b Zao T.len boot_len (Zaa (Zar Zan (pv 0) Zag (λ_ _=>rfl)) Zac)))),?_⟩;refine ⟨_,rfl,t,_,rfl,.inl hT.sq,_,rfl,t,_,0,.ref p0.1,rfl,rfl,hT.sq,Zbu (j:=0) (by rw [Yaf,hx0];rfl),p0.1,_,rfl,.inl (hT.r p0 hm0).sq,_,_,rfl,rfl,.inl ⟨by omega,by rw [Yaa];omega⟩,?_⟩;rw [Yaa,Yaa,g.len p0 hm0];exact q
def Zg3:Sp:=λvs H Q _=>∃ (t:Addr) (prs:Prs),vs=[.ref t]/\Tab H t prs/\tabB prs=true /\
 ∀ L (es:Es) H',H L=none->Same H H'->H' L=some (.lst (es.map λe=>V.ref e.1))->(∀ e∈es,Zd6 H' e/\H e.1=none)->Sorted prs (es.map (·.2))->Q (.ref L) H'
theorem sc_merged:FnScope ["table","entries","row","numbers"] ["table"] (Zae ZeU):=⟨rfl,rfl,rfl,by decide +kernel,rfl,by decide +kernel,by decide +kernel⟩
theorem ZjO (T:Blt mg) (hso:mg "sorted" = none) (D:Zak K mg "merged" ZeU ["table"]) (G1:FnAt P w K mg base 6 "need_table" ["thing"] Za1):FnAt P w K mg base 7 "merged" ["table"] Zg3:=by
 refine FnAt.of D sc_merged (λvs H Q E h=>?_) (λf cdv A outer s H vs Q E hr h=>?_)
 ·obtain ⟨t,prs,rfl,_⟩:=h;rfl
 ·obtain ⟨t,prs,rfl,hT,hg,q⟩:=h;obtain ⟨g,g1,g2,g3,g4⟩:=Zbb hg;have hs:=ZaO hg;have nd:=sc_merged.nd;have nd1:(["place","number","row"]:List Str).Nodup:=by decide +kernel
  refine ⟨_,Zab (ZaG (pe_f G1 hr (Zaa (pv 0) Zac)))
   (Zab (Zau (i:=1) nd rfl (Or.inl rfl) (ZaK Zac))
   (Zab (Zcq PassesOwn.never rfl (Zet rfl T.enum (Zaa (pv 0) Zac)) (Zhg rfl (Zbz (Za3 (i:=2) nd rfl (Or.inr rfl)) (Zbz (Za3 (i:=3) nd rfl (Or.inl rfl)) Zeu)))
    (Zaf (ZaG (Zbp YaS PySem.F.slot_list_extend PySem.F.type_list_extend ZfE (pv 1) (Zaa
     (Zaz ["place","number","row"] [none,none,some 2] (Zae ZeU) ["table","entries","row","numbers"] rfl (Zet rfl T.enum (Zaa (pv 3) Zac)) (by decide +kernel)
      (λcl C s2 H2 ex=>Zn3 K rfl nd1) (λcl C s2 H2 ex=>Zaw) (λcl C s2 H2 ex=>ZbE (Zaa (pv 1) (Zaa (pv 2) (Zaa (pv 0) Zac))))) Zac)))))
   (Zaf (Zal (pe_b (Zf0 hr.units) hso boot_sorted (Zaa (pv 1) Zac)))))),?_⟩
  refine ⟨_,rfl,t,prs,rfl,hT,hs,hg,λH1 s1=>⟨len0,λL hL=>?_⟩⟩;have L0:H L=none:=s1.free hL;have s2:Same H (upd H1 L (.lst [])):=s1.trans (Same.new hL);refine ⟨_,rfl,t,rfl,⟨_,(hT.same s2).sq⟩,ZhC (K:=K) (a:=t) (xs:=prs.map λp=>V.ref p.1) (λi σ H2=>∃ (cs:Es) (o2 o3:Option V),σ = [some (.ref t),some (.ref L),o2,o3]/\Same H H2/\H2 L=some (.lst (cs.map λe=>V.ref e.1)) /\
   (∀ c∈cs,Zd6 H2 c/\H c.1=none)/\cs.map (·.2)=Zb0 prs i/\cs.length<=6 * i)
   ⟨[],none,none,rfl,s2,Zad,λc hc=>(nomatch hc),rfl,by simp⟩ (λi σ H2 _ ⟨_,_,_,_,sm,_⟩=>(hT.same sm).sq) ?_ ?_⟩
  ·rintro i y σ H2 T1 hi ⟨cs,o2,o3,rfl,sm,hLl,hcs,hcm,hcl⟩ hT1;have hil:i<prs.length:=by
    have:=(Yai.mp hi).1;rw [Yaa] at this;exact this
   obtain ⟨p,hp1,hp2,hp3⟩:=Zb5 hil;rw [Yaf,hp2] at hi;have hy:V.ref p.1=y:=Yae hi;subst hy;have hpl:=g.len p hp1;have smT:Same H2 (upd H2 T1 (.tup [.int (i:Nat),.ref p.1])):=Same.new hT1;have eT:(upd H2 T1 (.tup [.int (i:Nat),.ref p.1])) T1=some (.tup [.int (i:Nat),.ref p.1]):=Zad;generalize upd H2 T1 (.tup [.int (i:Nat),.ref p.1])=H3 at smT eT ⊢;refine ⟨T1,_,rfl,SqT.of eT,rfl,_,_,rfl,_,_,rfl,rfl,?_⟩;have sm3:=sm.trans smT;have hR3:=(hT.same sm3).r p hp1;have hL3:=smT _ _ hLl;refine ⟨_,rfl,.inl ⟨rfl,_,SqL.of hL3⟩,_,rfl,p.1,rfl,⟨_,hR3.sq⟩,?_⟩;refine ZfY (xs:=p.2.map V.int) (λD2 k ys H'=>∃ qs:Es,Same H3 H'/\H' D2=some (.lst ys)/\ys=(qs.map λe=>V.ref e.1)/\(∀ c∈qs,Zd6 H' c/\H3 c.1=none/\c.1≠D2)/\qs.map (·.2)=entR i p.2 k)
    (λD2 hD2=>⟨[],Same.new hD2,Zad,rfl,λc hc=>(nomatch hc),rfl⟩) (λD2 k ys H' _ _ ⟨_,sm',e,_⟩=>⟨e,(hR3.same sm').sq⟩) ?_ ?_
   ·rintro D2 k z ys H' T2 hD2 hz ⟨qs,sm',eD,hys,hqs,hqm⟩ hT2;have hkl:k<p.2.length:=by
     have:=(Yai.mp hz).1;rw [Yaa] at this;exact this
    have ez:z=.int (p.2.getD k 0):=by
     rw [Yaf,Yac hkl] at hz;rw [Yat,Yac hkl];exact (Yae hz).symm
    subst ez;have smT2:Same H' (upd H' T2 (.tup [.int (k:Nat),.int (p.2.getD k 0)])):=Same.new hT2;generalize upd H' T2 (.tup [.int (k:Nat),.int (p.2.getD k 0)])=H4 at smT2 ⊢;have ql:qs.length=k:=by
     have:=congrArg List.length hqm;rw [Yaa,ZhH] at this;exact this
    unfold Zbe;refine iteT ⟨_,rfl,_,rfl,_,rfl,len3,λT3 hT3=>?_⟩;have nT3:D2≠T3:=Zav (smT2 _ _ eD) hT3;have s3T:Same H4 (upd H4 T3 (.tup [.int (p.2.getD k 0),.int (i:Nat),.int (k:Nat)])):=Same.new hT3;refine ⟨s3T _ _ (smT2 _ _ eD),?_,qs ++ [(T3,[p.2.getD k 0,(i:Int),(k:Int)])],((sm'.trans smT2).trans s3T).upd hD2,Zad,?_,λc hc=>?_,?_⟩
    ·rw [hys,Yaa];exact ZaD (by omega)
    ·rw [hys,Yah];rfl
    ·rcases YaG.mp hc with z | z
     ·obtain ⟨z1,z2,z3⟩:=hqs c z;refine ⟨?_,z2,z3⟩;unfold Zd6;rw [Zai z3];exact s3T _ _ (smT2 _ _ z1)
     ·have:c=(T3,[p.2.getD k 0,(i:Int),(k:Int)]):=by simpa using z
      subst this;refine ⟨?_,(sm'.trans smT2).free hT3,Ne.symm nT3⟩;unfold Zd6;rw [Zai (Ne.symm nT3)];exact Zad
    ·rw [Yah,hqm,ZkK];rfl
   ·rintro D2 ys H' hD2 ⟨qs,sm',eD,hys,hqs,hqm⟩;rw [Yaa] at hqm;have ql:qs.length=p.2.length:=by
     have:=congrArg List.length hqm;rw [Yaa,ZhH] at this;exact this
    have hL4:=sm' _ _ hL3;refine ⟨L,D2,_,_,rfl,rfl,hL4,eD,?_,?_⟩
    ·rw [Yaa,hys,Yaa];exact sl6 (by omega)
    ·refine ⟨cs ++ qs,_,_,rfl,(sm3.trans sm').upd L0,?_,λc hc=>?_,?_,?_⟩
     ·rw [Zad,hys,Yah]
     ·have nL:∀ c:Addr × List Int,Zd6 H' c->c.1≠L:=λc h=>Zmi h hL4 (by intro z;cases z);rcases YaG.mp hc with z | z
      ·obtain ⟨z1,z2⟩:=hcs c z;have z3:Zd6 H' c:=sm' _ _ (smT _ _ z1);refine ⟨?_,z2⟩;unfold Zd6;rw [Zai (nL c z3)];exact z3
      ·obtain ⟨z1,z2,z3⟩:=hqs c z;refine ⟨?_,sm3.free z2⟩;unfold Zd6;rw [Zai (nL c z1)];exact z1
     ·rw [Yah,hcm,hqm];show _=Zb0 prs i ++ _;rw [hp3]
     ·rw [Yak];omega
  ·rintro σ H2 ⟨cs,o2,o3,rfl,sm,hLl,hcs,hcm,hcl⟩;rw [Yaa] at hcm hcl;refine ⟨_,rfl,L,cs,rfl,SqL.of hLl,by omega,λc hc=>⟨SqT.of (hcs c hc).1,?_⟩,λD rs' hD hpm hup=>?_⟩
   ·have:c.2∈Zb0 prs prs.length:=by
     rw [<- hcm];exact Yar.mpr ⟨c,hc,rfl⟩
    obtain ⟨n,r,p,e⟩:=ZbK this;rw [e];exact Nat.succ_pos _
   ·refine q D rs' _ (sm.free hD) (sm.trans (Same.new hD)) Zad (λe he=>?_) ⟨?_,?_⟩
    ·obtain ⟨z1,z2⟩:=hcs e (hpm.subset he);exact ⟨(Same.new hD) _ _ z1,z2⟩
    ·rw [<- hcm];exact hpm.map _
    ·rw [List.pairwise_map];exact hup
def Zdu:Sp:=λvs H Q _=>∃ (t:Addr) (prs:Prs) (k:Nat),vs=[.ref t,.int (k:Nat)]/\Tab H t prs/\tabB prs=true/\k<prs.length * w0 prs/\Q .non H
theorem Zc7:FnScope ["table","thing"] ["table","thing"] (Zae Zci):=⟨rfl,rfl,rfl,by decide +kernel,rfl,by decide +kernel,by decide +kernel⟩
theorem Zfy (D:Zak K mg "need_place" Zci ["table","thing"]) (G1:FnAt P w K mg base 1 "is_whole" ["thing"] Zbi) (G2:FnAt P w K mg base 1 "how_many_cells" ["table"] Zja):FnAt P w K mg base 2 "need_place" ["table","thing"] Zdu:=by
 refine FnAt.of D Zc7 (λvs H Q E h=>?_) (λf cdv A outer s H vs Q E hr h=>?_)
 ·obtain ⟨t,prs,k,rfl,_⟩:=h;rfl
 ·obtain ⟨t,prs,k,rfl,hT,hg,hk,q⟩:=h;refine ⟨_,Zaf (Zay (PW.pt (Zb1 (ZaE (ZaB (pe_f G1 hr (Zaa (pv 1) Zac)))) (Zby (ZaE (Zeq o_le o_lt Zag (pv 1) (pe_f G2 hr (Zaa (pv 0) Zac))))))) Zaj Zah),?_⟩;refine ⟨_,rfl,_,rfl,_,rfl,iteF ⟨_,rfl,_,_,rfl,rfl,_,rfl,?_⟩⟩;rw [Ya4 (show (0:Int)<=(k:Nat) by omega)];refine iteT ⟨_,rfl,t,prs,rfl,hT,hg,_,_,rfl,rfl,_,rfl,?_⟩;rw [Ya4 (show ((k:Nat):Int)<(prs.length:Int) * (w0 prs:Int) by rw [<- Int.natCast_mul];omega)];exact iteF q
def Zd9:Sp:=λvs H Q _=>∃ (t:Addr) (prs:Prs) (k:Nat),vs=[.ref t,.int (k:Nat)]/\Tab H t prs/\tabB prs=true/\k<prs.length * w0 prs/\∀ fs H',Same H H'->Sorted prs fs->Q (.int (hdI (fs.getD k []))) H'
theorem ZdA:FnScope ["table","k"] ["table","k"] (Zae ZcN):=⟨rfl,rfl,rfl,by decide +kernel,rfl,by decide +kernel,by decide +kernel⟩
theorem Zgr (D:Zak K mg "number_by" ZcN ["table","k"]) (G1:FnAt P w K mg base 6 "need_table" ["thing"] Za1) (G2:FnAt P w K mg base 2 "need_place" ["table","thing"] Zdu) (G3:FnAt P w K mg base 7 "merged" ["table"] Zg3):FnAt P w K mg base 8 "number_by" ["table","k"] Zd9:=by
 refine FnAt.of D ZdA (λvs H Q E h=>?_) (λf cdv A outer s H vs Q E hr h=>?_)
 ·obtain ⟨t,prs,k,rfl,_⟩:=h;rfl
 ·obtain ⟨t,prs,k,rfl,hT,hg,hk,q⟩:=h;obtain ⟨g,g1,g2,g3,g4⟩:=Zbb hg;refine ⟨_,Zab (ZaG (pe_f G1 (hr.mono (by decide)) (Zaa (pv 0) Zac))) (Zab (ZaG (pe_f G2 (hr.mono (by decide)) (Zaa (pv 0) (Zaa (pv 1) Zac))))
   (Zaf (Zal (Zar ZbJ (Zar Zan (pe_f G3 hr (Zaa (pv 0) Zac)) (pv 1) (λ_ _=>rfl)) Zag (λ_ _=>rfl))))),?_⟩
  refine ⟨_,rfl,t,prs,rfl,hT,ZaO hg,hg,λH1 s1=>⟨_,rfl,_,rfl,t,prs,k,rfl,hT.same s1,hg,hk,?_⟩⟩;refine ⟨_,rfl,t,prs,rfl,hT.same s1,hg,λL es H2 hL s2 hLl hes hso=>?_⟩;have hl:es.length=prs.length * w0 prs:=by
   have:=hso.len;rw [Yaa,ZkD g.len] at this;exact this
  have hk2:k<es.length:=by omega
  have he:=(hes es[k] (YaL hk2)).1;obtain ⟨n,r,p,e3⟩:∃ n r p:Int,es[k].2=[n,r,p]:=ZbK (hso.pm.subset (Yar.mpr ⟨es[k],YaL hk2,rfl⟩));unfold Zd6 at he;rw [e3] at he;refine ⟨_,rfl,L,_,_,.ref es[k].1,rfl,rfl,SqL.of hLl,Zbu (by simp [hk2]),es[k].1,_,0,.int n,rfl,rfl,SqT.of he,rfl,?_⟩;have:=q (es.map (·.2)) H2 (s1.trans s2) hso;have e4:hdI ((es.map (·.2)).getD k [])=n:=by
   rw [Yat,Yaf,Yac hk2];show hdI es[k].2=n;rw [e3];rfl
  rw [e4] at this;exact this
end
open PySem L2 PyProof.Rows
section
variable {P:Program}{w:World}{K:Yab}{mg:Str->Option Value}{base:Heap}
def Zje (f:Int->List Int->Nat):Sp:=λvs H Q _=>∃ (t:Addr) (prs:Prs) (x:Int),vs=[.ref t,.int x]/\Tab H t prs/\tabB prs=true/\∀ H',Same H H'->Q (.int (f x (Zcm prs):Nat)) H'
theorem ZlI:FnScope ["table","x"] ["table","x"] (Zae ZkV):=⟨rfl,rfl,rfl,by decide +kernel,rfl,by decide +kernel,by decide +kernel⟩
theorem Zmd (hs:mg "sum" = none) (D:Zak K mg "count_less" ZkV ["table","x"]) (G:FnAt P w K mg base 7 "stair_of" ["table","x"] (Zgd lessN)):FnAt P w K mg base 8 "count_less" ["table","x"] (Zje lessN):=by
 refine FnAt.of D ZlI (λvs H Q E h=>?_) (λf cdv A outer s H vs Q E hr h=>?_)
 ·obtain ⟨t,prs,x,rfl,_⟩:=h;rfl
 ·obtain ⟨t,prs,x,rfl,hT,hg,q⟩:=h;refine ⟨_,Zaf (Zal (pe_b (Zdo rfl) hs boot_sum (Zaa (pe_f G hr (Zaa (pv 0) (Zaa (pv 1) Zac))) Zac))),?_⟩;refine ⟨_,rfl,_,rfl,t,prs,x,rfl,hT,ZaO hg,hg,λD H' hD sm hR=>⟨D,_,rfl,hR.sq,?_⟩⟩;rw [ZfI];exact q H' sm
end
open PySem L2 PyProof.Rows
def valN (prs:Prs) (i j:Nat):Int:=(ZbD prs i).getD j 0
def Zdb (prs:Prs) (x:Int):Nat->Nat->Nat->List (Nat × Nat)
 | 0,_,_=>[]
 |f+1,r,p=>if r<prs.length/\0<p then (r,p - 1) :: (if valN prs r (p - 1)=x then [] else if x<valN prs r (p - 1) then Zdb prs x f r (p - 1) else Zdb prs x f (r+1) p) else []
def ZiL (prs:Prs) (x:Int):List (Nat × Nat):=Zdb prs x (prs.length+w0 prs) 0 (w0 prs)
theorem Zej (prs:Prs) (x:Int):∀ f r p,∀ c∈Zdb prs x f r p,c.1<prs.length/\c.2<p
 | 0,_,_,c,h=>nomatch h
 |f+1,r,p,c,h=>by
  unfold Zdb at h;split at h
  ·rename_i hi
   rcases YaF.mp h with rfl | h
   ·exact ⟨hi.1,by show p - 1<p;omega⟩
   ·split at h
    ·nomatch h
    ·split at h
     ·have:=Zej prs x f r (p - 1) c h;omega
     ·exact Zej prs x f (r+1) p c h
  ·nomatch h
theorem Zdp (prs:Prs) (x:Int):∀ f r p,(Zdb prs x f r p).length<=f
 | 0,_,_=>Yag _
 |f+1,r,p=>by
  unfold Zdb;have h1:=Zdp prs x f r (p - 1);have h2:=Zdp prs x f (r+1) p;split
  ·rw [YaC];split
   ·simp
   ·split <;> omega
  ·simp
theorem ZhW {prs:Prs}{x:Int}{f r p:Nat} (h1:r<prs.length) (h2:0<p):Zdb prs x (f+1) r p=(r,p - 1) :: (if valN prs r (p - 1)=x then [] else if x<valN prs r (p - 1) then Zdb prs x f r (p - 1) else Zdb prs x f (r+1) p):=by
 show (if _ then _ else _)=_;rw [Ya7 ⟨h1,h2⟩]
theorem ZhV {prs:Prs}{x:Int}{f r p:Nat} (h:¬ (r<prs.length/\0<p)):Zdb prs x f r p=[]:=by
 cases f with
 |zero=>rfl
 |succ f =>
  show (if _ then _ else _)=_;rw [Ya6 h]
open PySem L2 PyProof.Rows
theorem ZmJ {H:Hp}{L:Addr}{xs:List V}{c:Addr × Nat × Nat} (h:Zbo H c) (hL:H L=some (.lst xs)):c.1≠L:=Zmi h hL (by intro z;cases z)
section
variable {P:Program}{w:World}{K:Yab}{mg:Str->Option Value}{base:Heap}
def ZmV:Sp:=λvs H Q _=>∃ (t:Addr) (prs:Prs) (x:Int),vs=[.ref t,.int x]/\Tab H t prs/\tabB prs=true /\
 ∀ L (cs:Cs) H',H L=none->Same H H'->H' L=some (.lst (cs.map Zd4))->(∀ c∈cs,Zbo H' c/\H c.1=none)->cs.map (·.2)=ZiL prs x->Q (.ref L) H'
theorem sc_walk:FnScope ["table","x","looked_at","row","place","number"] ["table","x"] (Zae ZoZ):=⟨rfl,rfl,rfl,by decide +kernel,rfl,by decide +kernel,by decide +kernel⟩
theorem Zoe (T:Blt mg) (D:Zak K mg "walk_for" ZoZ ["table","x"]) (G1:FnAt P w K mg base 6 "need_table" ["thing"] Za1) (G2:FnAt P w K mg base 2 "need_number" ["thing"] Zbh):FnAt P w K mg base 7 "walk_for" ["table","x"] ZmV:=by
 refine FnAt.of D sc_walk (λvs H Q E h=>?_) (λf cdv A outer s H vs Q E hr h=>?_)
 ·obtain ⟨t,prs,x,rfl,_⟩:=h;rfl
 ·obtain ⟨t,prs,x,rfl,hT,hg,q⟩:=h;obtain ⟨g,g1,g2,g3,g4⟩:=Zbb hg;obtain ⟨p0,hp0,hm0,hx0⟩:=Zcx (prs:=prs) g1;have nd:=sc_walk.nd;refine ⟨_,Zab (ZaG (pe_f G1 hr (Zaa (pv 0) Zac))) (Zab (ZaG (pe_f G2 (hr.mono (by decide)) (Zaa (pv 1) Zac)))
   (Zab (Zau (i:=2) nd rfl (Or.inl rfl) (ZaK Zac)) (Zab (Zau (i:=3) nd rfl (Or.inl rfl) Zag)
   (Zab (Zau (i:=4) nd rfl (Or.inl rfl) (Zax Zqv (pe_b Zao T.len boot_len (Zaa (Zar Zan (pv 0) Zag (λ_ _=>rfl)) Zac)) Zag))
   (Zab (ZlP PassesOwn.never (PW.pt (Zhb (Zap o_lt (pv 3) (pe_b Zao T.len boot_len (Zaa (pv 0) Zac)) (Zaq _)) (Zgj (Zap o_ge (pv 4) Zag (Zaq _)))))
    (Zab (ZaG (Zbp YaS YaU YaV Zbk (pv 2) (Zaa (ZbE (Zaa (pv 3) (Zaa (pv 4) Zac))) Zac)))
    (Zab (Zau (i:=5) nd rfl (Or.inl rfl) (Zar Zan (Zar Zan (pv 0) (pv 3) (λ_ _=>rfl)) (pv 4) (λ_ _=>rfl)))
    (Zab (Zay (Zap Za4 (pv 1) (pv 5) (Zaq _)) (Zaf ZlR) Zah)
    (Zaf (Zay (Zap o_lt (pv 1) (pv 5) (Zaq _)) (Zaf (Zjs (i:=4) nd rfl (Or.inl rfl) Zag ZqS)) (Zaf (Zjs (i:=3) nd rfl (Or.inl rfl) Zag ZqT))))))))
   (Zaf (Zal (pv 2)))))))),?_⟩
  refine ⟨_,rfl,t,prs,rfl,hT,ZaO hg,hg,λH1 s1=>⟨_,rfl,x,rfl,len0,λL hL=>?_⟩⟩;have L0:H L=none:=s1.free hL;have s2:Same H (upd H1 L (.lst [])):=s1.trans (Same.new hL);have e2:(upd H1 L (.lst [])) L=some (.lst []):=Zad;generalize upd H1 L (.lst [])=H2 at s2 e2 ⊢;have hT2:=hT.same s2;refine ⟨_,rfl,t,_,0,.ref p0.1,rfl,rfl,hT2.sq,Zbu (j:=0) (by rw [Yaf,hx0];rfl),p0.1,_,rfl,.inl (hT2.r p0 hm0).sq,_,_,rfl,rfl,?_⟩;rw [Yaa,g.len p0 hm0];refine ⟨λm σ H3=>∃ (r p:Nat) (rr qq:Int) (cs:Cs) (o5:Option V),m=(prs.length - r)+p/\r<=prs.length/\p<=w0 prs/\rr=(r:Nat)/\qq=(p:Nat) - 1/\σ = [some (.ref t),some (.int x),some (.ref L),some (.int rr),some (.int qq),o5]/\Same H H3/\H3 L=some (.lst (cs.map Zd4)) /\
   (∀ c∈cs,Zbo H3 c/\H c.1=none)/\cs.map (·.2) ++ Zdb prs x m r p=ZiL prs x/\cs.length+m<=12,⟨_,0,w0 prs,0,_,[],none,rfl,by omega,by omega,rfl,rfl,rfl,s2,e2,λc hc=>(nomatch hc),rfl,by simp;omega⟩,?_⟩
  rintro m σ H3 ⟨r,p,rr,qq,cs,o5,hm,hr1,hp1,hrr,hqq,rfl,sm,hLl,hcs,hcw,hcl⟩;have hT3:=hT.same sm;have fin:¬ (r<prs.length/\0<p)->Q (.ref L) H3:=λhn=>by
   rw [ZhV hn,List.append_nil] at hcw;exact q L cs H3 L0 sm hLl hcs hcw
  refine ⟨_,rfl,_,rfl,t,_,rfl,.inl hT3.sq,_,_,rfl,rfl,_,rfl,?_⟩;rw [Yaa];refine ite2 (λh1=>?_) (λh1=>?_)
  rotate_left
  ·refine iteF ⟨_,rfl,fin λz=>h1 (Ya4 (by omega))⟩
  have h1':=of_decide_eq_true h1;have hrl:r<prs.length:=by omega
  clear h1';refine ⟨_,rfl,_,_,rfl,rfl,_,rfl,ite2 (λh2=>?_) (λh2=>?_)⟩
  rotate_left
  ·exact ⟨_,rfl,fin λz=>h2 (Ya4 (by omega))⟩
  have h2:=of_decide_eq_true h2;obtain ⟨k,rfl⟩:∃ k,p=k+1:=⟨p - 1,by omega⟩;have hk:qq=(k:Nat):=by omega
  subst hk hrr;obtain ⟨mm,rfl⟩:∃ mm,m=mm+1:=⟨m - 1,by omega⟩;rw [ZhW hrl (by omega),Nat.add_sub_cancel] at hcw;refine ⟨_,λ_ _ hh=>hh,⟨_,rfl,.inl ⟨rfl,_,SqL.of hLl⟩,_,rfl,_,rfl,len2,λT1 hT1=>?_⟩⟩;have s3:Same H3 (upd H3 T1 (.tup [.int (r:Nat),.int (k:Nat)])):=Same.new hT1;have e3:Zbo (upd H3 T1 (.tup [.int (r:Nat),.int (k:Nat)])) (T1,r,k):=Zad;generalize upd H3 T1 (.tup [.int (r:Nat),.int (k:Nat)])=H4 at s3 e3 ⊢;have hL4:=s3 _ _ hLl;refine ⟨L,_,_,rfl,rfl,hL4,by rw [Yaa];exact ZaD (by omega),?_⟩;have e5:(upd H4 L (.lst (cs.map Zd4 ++ [.ref T1]))) L=some (.lst ((cs ++ [(T1,r,k)]).map Zd4)):=by
   rw [Zad,Yah];rfl
  have s5:Same H (upd H4 L (.lst (cs.map Zd4 ++ [.ref T1]))):=(sm.trans s3).upd L0;have c5:∀ c∈cs ++ [(T1,r,k)],Zbo (upd H4 L (.lst (cs.map Zd4 ++ [.ref T1]))) c/\H c.1=none:=λc hc=>by
   have h4:Zbo H4 c/\H c.1=none:=by
    rcases YaG.mp hc with z | z
    ·exact ⟨s3 _ _ (hcs c z).1,(hcs c z).2⟩
    ·have:c=(T1,r,k):=by simpa using z
     subst this;exact ⟨e3,sm.free hT1⟩
   refine ⟨?_,h4.2⟩;unfold Zbo;rw [Zai (ZmJ h4.1 hL4)];exact h4.1
  generalize upd H4 L (.lst (cs.map Zd4 ++ [.ref T1]))=H5 at e5 s5 c5 ⊢;have hT5:=hT.same s5;obtain ⟨pr,hp1',hp2,hp3⟩:=Zb5 hrl;have hpl:=g.len pr hp1';have ev:valN prs r k=pr.2.getD k 0:=by
   unfold valN;rw [hp3]
  refine ⟨_,rfl,_,rfl,t,_,_,.ref pr.1,rfl,rfl,hT5.sq,Zbu (by rw [Yaf,hp2];rfl),_,rfl,pr.1,_,_,.int (pr.2.getD k 0),rfl,rfl,(hT5.r pr hp1').sq,ZdY (by omega),?_⟩;rw [<- ev];generalize valN prs r k=n at hcw;refine ⟨_,rfl,_,rfl,rfl,_,rfl,?_⟩
  by_cases hx:n=x
  ·rw [Ya4 (by rw [hx])];refine iteT ⟨_,rfl,q L _ H5 L0 s5 e5 c5 ?_⟩;rw [Ya7 hx] at hcw;rw [Yah];exact hcw
  ·rw [Ya5 (by intro z;injection z with z;exact hx z.symm)];rw [Ya6 hx] at hcw;refine iteF ⟨_,rfl,_,rfl,_,_,rfl,rfl,_,rfl,ite2 (λh3=>?_) (λh3=>?_)⟩
   ·have h3:=of_decide_eq_true h3;rw [Ya7 h3] at hcw;refine ⟨_,rfl,_,_,rfl,rfl,mm,by omega,r,k,_,_,cs ++ [(T1,r,k)],_,by omega,hr1,by omega,rfl,rfl,rfl,s5,e5,c5,?_,?_⟩
    ·rw [Yah,List.append_assoc];exact hcw
    ·rw [Yak,YaI];omega
   ·have h3:¬ x<n:=λz=>h3 (Ya4 z);rw [Ya6 h3] at hcw;refine ⟨_,rfl,_,_,rfl,rfl,mm,by omega,r+1,k+1,_,_,cs ++ [(T1,r,k)],_,by omega,by omega,hp1,rfl,by omega,rfl,s5,e5,c5,?_,?_⟩
    ·rw [Yah,List.append_assoc];exact hcw
    ·rw [Yak,YaI];omega
end
open PySem L2 PyProof.Rows
theorem Zpa {prs:Prs}{x:Int}{n:Nat}{c:Nat × Nat} (h:c∈ZbV prs x n):c.1<n/\c.2<(ZbD prs c.1).length:=by
 unfold ZbV rc at h;simp only [List.mem_flatMap,Yar,List.mem_filter,List.mem_range,decide_eq_true_eq] at h;obtain ⟨i,hi,j,⟨hj,e⟩,rfl⟩:=h;exact ⟨hi,hj⟩
theorem up6 {prs:Prs}{x:Int} (hg:tabB prs=true) {c:Nat × Nat} (h:c∈ZbV prs x prs.length):c.1<6/\c.2<6:=by
 obtain ⟨h1,h2⟩:=Zpa h;obtain ⟨g,g1,g2,g3,g4⟩:=Zbb hg;obtain ⟨p,hp,_,e⟩:=Zb5 h1;rw [e,g.len p hp] at h2;omega
theorem Zrj {prs:Prs}{x:Int} (hg:tabB prs=true) {c:Nat × Nat} (h:c∈ZiL prs x):c.1<6/\c.2<6:=by
 obtain ⟨g,g1,g2,g3,g4⟩:=Zbb hg;have:=Zej prs x _ _ _ c h;omega
theorem Zji {n:Int} (h:n.natAbs<10 ^ 50):n.natAbs.log2<1920:=Zkm h
theorem ZhF:∀ prs:Prs,(∀ p∈prs,p.2.length<=6)->(Zcm prs).length<=prs.length * 6
 | [],_=>Yag _
 |p :: r,h=>by
  rw [ZcY,Yak,YaC];have h1:=h p (YaM ..);have h2:=ZhF r λq hq=>h q (Yas _ hq);omega
def AnsOk (prs:Prs) (first:Str) (x:Int) (R:Str->Prop):Prop :=
 if first = "find" then R (Znl (ZbV prs x prs.length)) else if first = "stair" then R (rowS (prs.map λp=>(lessN x p.2:Int))) else
 if first = "walk" then R (Zk0 (ZiL prs x)) else if first = "below" then R (Zas (lessN x (Zcm prs):Nat)) else
 ∃ k:Nat,x=(k:Nat)/\k<prs.length * w0 prs/\∀ fs,Sorted prs fs->(hdI (fs.getD k [])).natAbs.log2<1920/\R (Zas (hdI (fs.getD k [])))
section
variable {P:Program}{w:World}{K:Yab}{mg:Str->Option Value}{base:Heap}{c:Addr}
def ZnO:Sp:=λvs H Q _=>∃ (t:Addr) (prs:Prs) (first:Str) (x:Int),vs=[.ref t,.str first,.int x]/\Tab H t prs/\tabB prs=true/\AnsOk prs first x λy=>∀ H',Same H H'->Q (.str y) H'
theorem Zm6:FnScope ["table","first","x"] ["table","first","x"] (Zae Ze3):=⟨rfl,rfl,rfl,by decide +kernel,rfl,by decide +kernel,by decide +kernel⟩
theorem decS {a b:Str}:decide (V.str a=V.str b)=decide (a=b):=by
 rw [Ybb];exact ⟨λh=>by injection h,λh=>by rw [h]⟩
theorem Zqt (hstr:mg "str" = none) (D:Zak K mg "answer_of" Ze3 ["table","first","x"]) (G1:FnAt P w K mg base 2 "show_found" ["cells"] Zpx) (G2:FnAt P w K mg base 7 "cells_of" ["table","x"] Zjg)
  (G3:FnAt P w K mg base 1 "show_row" ["row"] spSR) (G4:FnAt P w K mg base 7 "stair_of" ["table","x"] (Zgd lessN)) (G5:FnAt P w K mg base 1 "show_cells" ["cells"] ZnN) (G6:FnAt P w K mg base 7 "walk_for" ["table","x"] ZmV)
  (G7:FnAt P w K mg base 8 "count_less" ["table","x"] (Zje lessN)) (G8:FnAt P w K mg base 8 "number_by" ["table","k"] Zd9):FnAt P w K mg base 9 "answer_of" ["table","first","x"] ZnO:=by
 refine FnAt.of D Zm6 (λvs H Q E h=>?_) (λf cdv A outer s H vs Q E hr h=>?_)
 ·obtain ⟨t,prs,first,x,rfl,_⟩:=h;rfl
 ·obtain ⟨t,prs,first,x,rfl,hT,hg,q⟩:=h;have hr1:Room 1 _:=hr.mono (show 1<=8 by decide);have hr2:Room 2 _:=hr.mono (show 2<=8 by decide);have hr7:Room 7 _:=hr.mono (show 7<=8 by decide);obtain ⟨g,g1,g2,g3,g4⟩:=Zbb hg;refine ⟨_,Zab (Zay (Zap Za4 (pv 1) Zam (Zaq _)) (Zaf (Zal (pe_f G1 hr2 (Zaa (pe_f G2 hr7 (Zaa (pv 0) (Zaa (pv 2) Zac))) Zac)))) Zah)
   (Zab (Zay (Zap Za4 (pv 1) Zam (Zaq _)) (Zaf (Zal (pe_f G3 hr1 (Zaa (pe_f G4 hr7 (Zaa (pv 0) (Zaa (pv 2) Zac))) Zac)))) Zah)
   (Zab (Zay (Zap Za4 (pv 1) Zam (Zaq _)) (Zaf (Zal (pe_f G5 hr1 (Zaa (pe_f G6 hr7 (Zaa (pv 0) (Zaa (pv 2) Zac))) Zac)))) Zah)
   (Zab (Zay (Zap Za4 (pv 1) Zam (Zaq _)) (Zaf (Zal (pe_t Zcc hstr Za7 (Zaa (pe_f G7 hr (Zaa (pv 0) (Zaa (pv 2) Zac))) Zac)))) Zah)
   (Zaf (Zal (pe_t Zcc hstr Za7 (Zaa (pe_f G8 hr (Zaa (pv 0) (Zaa (pv 2) Zac))) Zac))))))),?_⟩
  unfold AnsOk at q;refine ⟨_,rfl,rfl,_,rfl,?_⟩;rw [decS]
  by_cases h1:first = "find"
  ·rw [Ya7 h1] at q;rw [Ya4 h1];refine iteT ⟨_,rfl,_,rfl,t,prs,x,rfl,hT,hg,λL cs H1 hL s1 eL hc ec hn=>⟨L,cs,rfl,eL,λc h=>⟨(hc c h).1,up6 hg (by rw [<- ec];exact Yar.mpr ⟨c,h,rfl⟩)⟩,hn,λH' s'=>?_⟩⟩;rw [ec];exact q H' (s1.trans s')
  ·rw [Ya6 h1] at q;rw [Ya5 h1];refine iteF ⟨_,rfl,rfl,_,rfl,?_⟩;rw [decS]
   by_cases h2:first = "stair"
   ·rw [Ya7 h2] at q;rw [Ya4 h2];refine iteT ⟨_,rfl,_,rfl,t,prs,x,rfl,hT,ZaO hg,hg,λD2 H1 hD s1 hR=>⟨D2,_,rfl,hR,by rw [Yaa];exact g2,λn hn=>?_,λH' s'=>q H' (s1.trans s')⟩⟩;obtain ⟨p,hp,rfl⟩:=Yar.mp hn;have l1:lessN x p.2<=p.2.length:=Ybm _ _;have l2:=g.len p hp;have l3:(10:Nat)<=10 ^ 50:=by decide +kernel
    show (((lessN x p.2:Nat):Int)).natAbs<10 ^ 50;rw [Int.natAbs_natCast];omega
   ·rw [Ya6 h2] at q;rw [Ya5 h2];refine iteF ⟨_,rfl,rfl,_,rfl,?_⟩;rw [decS]
    by_cases h3:first = "walk"
    ·rw [Ya7 h3] at q;rw [Ya4 h3];have wl:(ZiL prs x).length<=prs.length+w0 prs:=Zdp prs x _ _ _;refine iteT ⟨_,rfl,_,rfl,t,prs,x,rfl,hT,hg,λL cs H1 hL s1 eL hc ec=>⟨L,cs,rfl,eL,λc h=>⟨(hc c h).1,Zrj hg (by rw [<- ec];exact Yar.mpr ⟨c,h,rfl⟩)⟩,?_,λH' s'=>?_⟩⟩
     ·have:=congrArg List.length ec;rw [Yaa] at this;omega
     ·rw [ec];exact q H' (s1.trans s')
    ·rw [Ya6 h3] at q;rw [Ya5 h3];refine iteF ⟨_,rfl,rfl,_,rfl,?_⟩;rw [decS]
     by_cases h4:first = "below"
     ·rw [Ya7 h4] at q;rw [Ya4 h4];refine iteT ⟨_,rfl,_,rfl,t,prs,x,rfl,hT,hg,λH1 s1=>⟨_,rfl,?_,q H1 s1⟩⟩;refine Zji ?_;have l1:lessN x (Zcm prs)<=(Zcm prs).length:=Ybm _ _;have l2:=ZhF prs λp hp=>by rw [g.len p hp];exact g4
      have l3:(100:Nat)<=10 ^ 50:=by decide +kernel
      rw [Int.natAbs_natCast];omega
     ·rw [Ya6 h4] at q;rw [Ya5 h4];obtain ⟨k,rfl,hk,q⟩:=q;exact iteF ⟨_,rfl,_,rfl,t,prs,k,rfl,hT,hg,hk,λfs H1 s1 hS=>⟨_,rfl,(q fs hS).1,(q fs hS).2 H1 s1⟩⟩
end
open PySem L2 PyProof.Rows
def setR (rows:List (List Int)) (i j:Nat) (x:Int):List (List Int):=rows.set i ((rows.getD i []).set j x)
section
variable {P:Program}{w:World}{K:Yab}{mg:Str->Option Value}{base:Heap}
def Zjf:Sp:=λvs H Q _=>∃ (t:Addr) (prs:Prs),vs=[.ref t]/\Tab H t prs/\Sm prs/\Znv H Q (prs.map (·.2))
theorem Zjn:FnScope ["table"] ["table"] (Zae ZeZ):=⟨rfl,rfl,rfl,by decide +kernel,rfl,by decide +kernel,by decide +kernel⟩
theorem ZjV (T:Blt mg) (D:Zak K mg "copy_of" ZeZ ["table"]):FnAt P w K mg base 1 "copy_of" ["table"] Zjf:=by
 refine FnAt.of D Zjn (λvs H Q E h=>?_) (λf cdv A outer s H vs Q E hr h=>?_)
 ·obtain ⟨t,prs,rfl,_⟩:=h;rfl
 ·obtain ⟨t,prs,rfl,hT,hs,q⟩:=h;have nd1:(["row"]:List Str).Nodup:=by decide +kernel
  refine ⟨_,Zaf (Zal (Zaz ["row"] [none] (Zae ZeZ) ["table"] rfl (ZaH (pv 0)) (by decide +kernel)
   (λcl C s2 H2 ex=>pg_c 0 nd1) (λcl C s2 H2 ex=>Zaw) (λcl C s2 H2 ex=>pe_t (ZrU K) T.list boot_list (Zaa (pv 0) Zac)))),?_⟩
  refine ⟨_,rfl,t,rfl,⟨_,hT.sq⟩,ZiB (λp:Addr × List Int=>V.ref p.1) (λp=>.lst (p.2.map V.int)) hT.sq hs.1 (λp hp H' Q' sm q'=>⟨_,rfl,p.1,_,rfl,.inl ((hT.same sm).r p hp).sq,λl hl=>q' l _ hl (Same.new hl) Zad⟩) λM qs H2 hM hqm hnd hq s2 eM=>?_⟩;refine q M (qs.map λx=>(x.1,x.2.2)) H2 hM (λp hp=>?_) ?_ s2 ⟨?_,λp hp=>?_⟩ ?_
  ·obtain ⟨x,hx,rfl⟩:=Yar.mp hp;exact (hq x hx).2
  ·rw [Yau];exact hnd
  ·rw [eM,Yau];rfl
  ·obtain ⟨x,hx,rfl⟩:=Yar.mp hp;exact (hq x hx).1
  ·rw [Yau,<- hqm,Yau];rfl
def ZmU:Sp:=λvs H Q _=>∃ (t c:Addr) (prs:Prs) (i j:Nat) (x:Int),vs=[.ref t,.ref c,.int x]/\Tab H t prs/\Sm prs/\H c=some (.tup [.int (i:Nat),.int (j:Nat)])/\i<prs.length/\j<(ZbD prs i).length/\Znv H Q (setR (prs.map (·.2)) i j x)
theorem sc_with:FnScope ["table","cell","x","changed"] ["table","cell","x"] (Zae ZoY):=⟨rfl,rfl,rfl,by decide +kernel,rfl,by decide +kernel,by decide +kernel⟩
theorem Zod (D:Zak K mg "table_with" ZoY ["table","cell","x"]) (G:FnAt P w K mg base 1 "copy_of" ["table"] Zjf):FnAt P w K mg base 2 "table_with" ["table","cell","x"] ZmU:=by
 refine FnAt.of D sc_with (λvs H Q E h=>?_) (λf cdv A outer s H vs Q E hr h=>?_)
 ·obtain ⟨t,c,prs,i,j,x,rfl,_⟩:=h;rfl
 ·obtain ⟨t,c,prs,i,j,x,rfl,hT,hs,hc,hi,hj,q⟩:=h;have nd:=sc_with.nd;refine ⟨_,Zab (Zau (i:=3) nd rfl (Or.inl rfl) (pe_f G hr (Zaa (pv 0) Zac)))
   (Zab (Zc9 (pv 2) (ZdD (Zar Zan (pv 3) (Zar ZbJ (pv 1) Zag (λ_ _=>rfl)) (λ_ _=>rfl)) (Zar ZbJ (pv 1) Zag (λ_ _=>rfl)) ZbO))
   (Zaf (Zal (pv 3)))),?_⟩
  refine ⟨_,rfl,t,prs,rfl,hT,hs,λt' qs H1 ht' hqn hnd s1 hT1 hrows=>?_⟩;have hc1:=s1 _ _ hc;have hql:qs.length=prs.length:=by
   have:=congrArg List.length hrows;simpa using this
  have hiq:i<qs.length:=by omega
  have hqi:qs[i]? = some qs[i]:=Yac hiq;have mqi:qs[i]∈qs:=YaL hiq;have hri:qs[i].2=ZbD prs i:=by
   have h1:(qs.map (·.2))[i]? = (prs.map (·.2))[i]?:=by rw [hrows]
   rw [Yaf,hqi,Yaf,Yac hi] at h1;have h2:qs[i].2=prs[i].2:=by simpa using h1
   rw [h2];unfold ZbD;rw [Yac hi];rfl
  have hR:=hT1.r qs[i] mqi;refine ⟨_,rfl,_,rfl,_,rfl,c,_,0,.int (i:Nat),rfl,rfl,SqT.of hc1,rfl,t',_,_,.ref qs[i].1,rfl,rfl,hT1.sq,Zbu (by rw [Yaf,hqi];rfl),_,rfl,c,_,1,.int (j:Nat),rfl,rfl,SqT.of hc1,rfl,qs[i].1,_,_,j,rfl,rfl,hR,?_,_,rfl,?_⟩
  ·rw [Yaa,hri];unfold ixN;rw [Ya7 (by omega),Ya7 (by omega),Yav]
  rw [<- List.map_set];have hn:∀ p∈qs,p.1=qs[i].1->p=qs[i]:=λp hp e=>by
   obtain ⟨k,hk⟩:=List.mem_iff_getElem?.mp hp;have hkl:=(Yai.mp hk).1;have:k=i:=(List.getElem?_inj (l:=qs.map (·.1)) (by rw [Yaa];exact hkl) hnd).mp (by rw [Yaf,Yaf,hk,hqi];simp [e]);subst this;exact Yae (hk.symm.trans hqi)
  have key:∀ b o,b≠qs[i].1->H1 b=some o->(upd H1 qs[i].1 (.lst ((qs[i].2.set j x).map V.int))) b=some o:=λb o n e=>by rw [Zai n];exact e
  refine q t' (qs.set i (qs[i].1,qs[i].2.set j x)) _ ht' (λp hp=>?_) ?_ (λb o e=>key b o (λz=>?_) (s1 _ _ e)) ⟨?_,λp hp=>?_⟩ ?_
  ·rcases List.mem_or_eq_of_mem_set hp with z | z
   ·exact hqn p z
   ·rw [z];exact hqn qs[i] mqi
  ·have:(qs.set i (qs[i].1,qs[i].2.set j x)).map (·.1)=qs.map (·.1):=by
    rw [List.map_set];refine List.ext_getElem? λk=>?_;rw [List.getElem?_set];split
    ·next h =>
     subst h;rw [Yaa,Ya7 hiq,Yaf,hqi];rfl
    ·rfl
   rw [this];exact hnd
  ·rw [z,(hqn _ mqi).1] at e;cases e
  ·have:(qs.set i (qs[i].1,qs[i].2.set j x)).map (λp=>V.ref p.1)=qs.map λp=>V.ref p.1:=by
    rw [List.map_set];refine List.ext_getElem? λk=>?_;rw [List.getElem?_set];split
    ·next h =>
     subst h;rw [Yaa,Ya7 hiq,Yaf,hqi];rfl
    ·rfl
   rw [this];exact key _ _ (λz=>(hqn _ mqi).2 z.symm) hT1.l
  ·obtain ⟨k,hk⟩:=List.mem_iff_getElem?.mp hp;rw [List.getElem?_set] at hk
   by_cases h:i=k
   ·rw [Ya7 h,Ya7 hiq] at hk;rw [<- Yae hk];exact Zad
   ·rw [Ya6 h] at hk;have hkl:=(Yai.mp hk).1;refine key _ _ (λe=>h ?_) (hT1.r p (YaP hk));exact ((List.getElem?_inj (l:=qs.map (·.1)) (by rw [Yaa];exact hkl) hnd).mp (by rw [Yaf,Yaf,hk,hqi];simp [e])).symm
  ·rw [List.map_set,hrows];unfold setR;rw [show (prs.map (·.2)).getD i []=qs[i].2 by
    rw [hri];unfold ZbD
    rw [Yat,Yaf]]
end
open PySem L2 PyProof.Rows
section
variable {P:Program}{w:World}{K:Yab}{mg:Str->Option Value}{base:Heap}{C:Addr}
theorem sc_changed:FnScope ["table","cell","x","changed"] ["table","cell","x"] (Zae Ze0):=⟨rfl,rfl,rfl,by decide +kernel,rfl,by decide +kernel,by decide +kernel⟩
end
open PySem L2 PyProof.Rows
section
variable {P:Program}{w:World}{K:Yab}{mg:Str->Option Value}{base:Heap}{c1 c3 c6 c7:Addr}
def Zlw (c6:Addr):Sp:=λvs H _ E=>∃ (t:Addr) (prs:Prs) (k:Nat),vs=[.ref t,.int (k:Nat)]/\Tab H t prs/\tabB prs=true/\prs.length * w0 prs<=k/\∀ H',Same H H'->E (.ref c6) none H'
theorem Zql (hk:ExcK K c6) (hm:mg "NoPlace" = some (.ref c6)) (D:Zak K mg "need_place" Zci ["table","thing"]) (G1:FnAt P w K mg base 1 "is_whole" ["thing"] Zbi) (G2:FnAt P w K mg base 1 "how_many_cells" ["table"] Zja):FnAtX P w K mg base 2 "need_place" ["table","thing"] (Zlw c6):=by
 refine FnAtX.of D Zc7 (λvs H Q E h=>?_) (λf cdv A outer s H vs Q E hr h=>?_)
 ·obtain ⟨t,prs,k,rfl,_⟩:=h;rfl
 ·obtain ⟨t,prs,k,rfl,hT,hg,hk2,q⟩:=h;refine ⟨_,Zaf (Zay (PW.pt (Zb1 (ZaE (ZaB (pe_f G1 hr (Zaa (pv 1) Zac)))) (Zby (ZaE (Zeq o_le o_lt Zag (pv 1) (pe_f G2 hr (Zaa (pv 0) Zac))))))) (Zaf (Zbf ZaW hk Zam hm)) Zah),?_⟩;refine ⟨_,rfl,_,rfl,_,rfl,iteF ⟨_,rfl,_,_,rfl,rfl,_,rfl,?_⟩⟩;rw [Ya4 (show (0:Int)<=(k:Nat) by omega)];refine iteT ⟨_,rfl,t,prs,rfl,hT,hg,_,_,rfl,rfl,_,rfl,?_⟩;rw [Ya5 (show ¬ ((k:Nat):Int)<(prs.length:Int) * (w0 prs:Int) by rw [<- Int.natCast_mul];omega)];exact iteT (q H (Same.refl _))
theorem Zqo (D:Zak K mg "number_by" ZcN ["table","k"]) (G1:FnAt P w K mg base 6 "need_table" ["thing"] Za1) (G2:FnAtX P w K mg base 2 "need_place" ["table","thing"] (Zlw c6)):FnAtX P w K mg base 8 "number_by" ["table","k"] (Zlw c6):=by
 refine FnAtX.of D ZdA (λvs H Q E h=>?_) (λf cdv A outer s H vs Q E hr h=>?_)
 ·obtain ⟨t,prs,k,rfl,_⟩:=h;rfl
 ·obtain ⟨t,prs,k,rfl,hT,hg,hk,q⟩:=h;refine ⟨_,Zab (ZaG (pe_f G1 (hr.mono (by decide)) (Zaa (pv 0) Zac))) (Zab (ZaG (ZdZ G2 (hr.mono (by decide)) Za5 (Zaa (pv 0) (Zaa (pv 1) Zac)))) Zaj),?_⟩;exact ⟨_,rfl,t,prs,rfl,hT,ZaO hg,hg,λH1 s1=>⟨_,rfl,_,rfl,t,prs,k,rfl,hT.same s1,hg,hk,λH' s'=>q H' (s1.trans s')⟩⟩
def Zm4 (c6:Addr):Sp:=λvs H _ E=>∃ (t:Addr) (prs:Prs) (k:Nat),vs=[.ref t,.str "nth", .int (k:Nat)]/\Tab H t prs/\tabB prs=true/\prs.length * w0 prs<=k/\∀ H',Same H H'->E (.ref c6) none H'
theorem Zor (hstr:mg "str" = none) (D:Zak K mg "answer_of" Ze3 ["table","first","x"]) (G8:FnAtX P w K mg base 8 "number_by" ["table","k"] (Zlw c6)):FnAtX P w K mg base 9 "answer_of" ["table","first","x"] (Zm4 c6):=by
 refine FnAtX.of D Zm6 (λvs H Q E h=>?_) (λf cdv A outer s H vs Q E hr h=>?_)
 ·obtain ⟨t,prs,k,rfl,_⟩:=h;rfl
 ·obtain ⟨t,prs,k,rfl,hT,hg,hk,q⟩:=h;refine ⟨_,Zab (Zay (Zap Za4 (pv 1) Zam (Zaq _)) Zaj Zah) (Zab (Zay (Zap Za4 (pv 1) Zam (Zaq _)) Zaj Zah)
   (Zab (Zay (Zap Za4 (pv 1) Zam (Zaq _)) Zaj Zah) (Zab (Zay (Zap Za4 (pv 1) Zam (Zaq _)) Zaj Zah)
   (Zaf (Zal (pe_t Zcc hstr Za7 (Zaa (ZdZ G8 hr Za5 (Zaa (pv 0) (Zaa (pv 2) Zac))) Zac))))))),?_⟩
  refine ⟨_,rfl,rfl,_,rfl,?_⟩;rw [decS,Ya5 (show ¬ ("nth" : Str) = "find" by decide +kernel)];refine iteF ⟨_,rfl,rfl,_,rfl,?_⟩;rw [decS,Ya5 (show ¬ ("nth" : Str) = "stair" by decide +kernel)];refine iteF ⟨_,rfl,rfl,_,rfl,?_⟩;rw [decS,Ya5 (show ¬ ("nth" : Str) = "walk" by decide +kernel)];refine iteF ⟨_,rfl,rfl,_,rfl,?_⟩;rw [decS,Ya5 (show ¬ ("nth" : Str) = "below" by decide +kernel)];exact iteF ⟨_,rfl,_,rfl,t,prs,k,rfl,hT,hg,hk,q⟩
def Zpw:Sp:=λvs H Q _=>∃ (c:Addr) (r p i j:Nat),vs=[.int (r:Nat),.int (p:Nat),.ref c]/\Cell H c i j/\(r<=i\/p<=j)/\∀ H',Same H H'->Q (.bl false) H'
theorem Zqg (T:Blt mg) (htup:mg "tuple" = none) (D:Zak K mg "is_cell_of_size" Ze1 ["rows","places","thing"]) (G:FnAt P w K mg base 2 "all_whole" ["things"] Zcu):FnAt P w K mg base 3 "is_cell_of_size" ["rows","places","thing"] Zpw:=by
 refine FnAt.of D Zfp (λvs H Q E h=>?_) (λf cdv A outer s H vs Q E hr h=>?_)
 ·obtain ⟨c,r,p,i,j,rfl,_⟩:=h;rfl
 ·obtain ⟨c,r,p,i,j,rfl,hC,ho,q⟩:=h;refine ⟨_,Zab (Zay (PW.pt (Zb1 (ZaE (ZaB (pe_b ZaJ T.isinst boot_isinstance (Zaa (pv 2) (Zaa (ZcJ htup boot_tuple) Zac))))) (Zb1 (Zap Zgm (pe_b Zao T.len boot_len (Zaa (pv 2) Zac)) Zag (Zaq _)) (Zby (ZaE (ZaB (pe_f G hr (Zaa (pv 2) Zac)))))))) (Zaf (Zal ZbG)) Zah)
   (Zaf (Zal (ZbY (Zbg o_le o_lt Zag (Zar ZbJ (pv 2) Zag (λ_ _=>rfl)) (pv 0))
    (ZbF (Zbg o_le o_lt Zag (Zar ZbJ (pv 2) Zag (λ_ _=>rfl)) (pv 1)))))),?_⟩
  refine ⟨_,rfl,_,_,_,_,rfl,.tup hC,Zni _,_,rfl,iteF ⟨_,rfl,c,_,rfl,.inr (SqT.of hC),rfl,_,rfl,?_⟩⟩;refine iteF ⟨_,rfl,c,i,j,rfl,hC,λH1 s1=>⟨_,rfl,iteF ?_⟩⟩;have hC1:Cell H1 c i j:=s1 _ _ hC;refine ⟨_,rfl,c,_,0,.int (i:Nat),rfl,rfl,SqT.of hC1,rfl,_,_,rfl,rfl,_,rfl,?_⟩;rw [Ya4 (show (0:Int)<=(i:Nat) by omega)];refine iteT ⟨_,rfl,_,_,rfl,rfl,_,rfl,?_⟩
  by_cases hi:i<r
  ·rw [Ya4 (show ((i:Nat):Int)<(r:Nat) by omega)];refine iteT ⟨_,rfl,c,_,1,.int (j:Nat),rfl,rfl,SqT.of hC1,rfl,_,_,rfl,rfl,_,rfl,?_⟩;rw [Ya4 (show (0:Int)<=(j:Nat) by omega)];refine iteT ⟨_,rfl,_,_,rfl,rfl,?_⟩;rw [Ya5 (show ¬ ((j:Nat):Int)<(p:Nat) by omega)];exact q H1 s1
  ·rw [Ya5 (show ¬ ((i:Nat):Int)<(r:Nat) by omega)];exact iteF (q H1 s1)
def Zm3:Sp:=λvs H Q _=>∃ (t c:Addr) (prs:Prs) (i j:Nat),vs=[.ref t,.ref c]/\Tab H t prs/\tabB prs=true/\Cell H c i j/\(prs.length<=i\/w0 prs<=j)/\∀ H',Same H H'->Q (.bl false) H'
theorem Zop (T:Blt mg) (D:Zak K mg "is_cell" ZeY ["table","thing"]) (G:FnAt P w K mg base 3 "is_cell_of_size" ["rows","places","thing"] Zpw):FnAt P w K mg base 4 "is_cell" ["table","thing"] Zm3:=by
 refine FnAt.of D Zfo (λvs H Q E h=>?_) (λf cdv A outer s H vs Q E hr h=>?_)
 ·obtain ⟨t,c,prs,i,j,rfl,_⟩:=h;rfl
 ·obtain ⟨t,c,prs,i,j,rfl,hT,hg,hC,ho,q⟩:=h;obtain ⟨g,g1,g2,g3,g4⟩:=Zbb hg;obtain ⟨p0,hp0,hm0,hx0⟩:=Zcx (prs:=prs) g1;refine ⟨_,Zaf (Zal (pe_f G hr (Zaa (pe_b Zao T.len boot_len (Zaa (pv 0) Zac)) (Zaa (pe_b Zao T.len boot_len (Zaa (Zar Zan (pv 0) Zag (λ_ _=>rfl)) Zac)) (Zaa (pv 1) Zac))))),?_⟩;exact ⟨_,rfl,t,_,rfl,.inl hT.sq,_,rfl,t,_,0,.ref p0.1,rfl,rfl,hT.sq,Zbu (j:=0) (by rw [Yaf,hx0];rfl),p0.1,_,rfl,.inl (hT.r p0 hm0).sq,_,rfl,c,prs.length,w0 prs,i,j,by rw [Yaa,Yaa,g.len p0 hm0],hC,ho,q⟩
def ZpA (c1:Addr):Sp:=λvs H _ E=>∃ (t c:Addr) (prs:Prs) (i j:Nat),vs=[.ref t,.ref c]/\Tab H t prs/\tabB prs=true/\Cell H c i j/\(prs.length<=i\/w0 prs<=j)/\∀ H',Same H H'->E (.ref c1) none H'
theorem Zqn (hk:ExcK K c1) (hm:mg "NoCell" = some (.ref c1)) (D:Zak K mg "need_cell" ZcO ["table","thing"]) (G:FnAt P w K mg base 4 "is_cell" ["table","thing"] Zm3):FnAtX P w K mg base 5 "need_cell" ["table","thing"] (ZpA c1):=by
 refine FnAtX.of D ZdB (λvs H Q E h=>?_) (λf cdv A outer s H vs Q E hr h=>?_)
 ·obtain ⟨t,c,prs,i,j,rfl,_⟩:=h;rfl
 ·obtain ⟨t,c,prs,i,j,rfl,hT,hg,hC,ho,q⟩:=h;refine ⟨_,Zaf (Zay (ZaE (ZaB (pe_f G hr (Zaa (pv 0) (Zaa (pv 1) Zac))))) (Zaf (Zbf ZaW hk Zam hm)) Zah),?_⟩;exact ⟨_,rfl,_,rfl,t,c,prs,i,j,rfl,hT,hg,hC,ho,λH' sm=>⟨_,rfl,iteT (q H' sm)⟩⟩
end
open PySem L2 PyProof.Rows
section
variable {P:Program}{w:World}{K:Yab}{mg:Str->Option Value}{base:Heap}{c1 c3 c6 c7:Addr}
def ZpC (c1 c7:Addr):Sp:=λvs H _ E=>∃ (t c:Addr) (prs:Prs) (i j:Nat) (x:Int),vs=[.ref t,.ref c,.int x]/\Tab H t prs/\tabB prs=true/\Cell H c i j /\
 (((prs.length<=i\/w0 prs<=j)/\∀ H',Same H H'->E (.ref c1) none H')\/(i<prs.length/\j<w0 prs/\Zb4 (setR (prs.map (·.2)) i j x)=false/\∀ H',Same H H'->E (.ref c7) none H'))
theorem Zly {prs qs:Prs}{i j:Nat}{x:Int} (h:Sm prs) (e:qs.map (·.2)=setR (prs.map (·.2)) i j x):Sm qs:=by
 have hl:qs.length=prs.length:=by
  have:=congrArg List.length e;unfold setR at this;rw [Yaa,YaK,Yaa] at this;exact this
 refine ⟨by rw [hl];exact h.1,λp hp=>?_⟩;have hm:p.2∈setR (prs.map (·.2)) i j x:=by rw [<- e];exact Yar.mpr ⟨p,hp,rfl⟩
 unfold setR at hm;rcases List.mem_or_eq_of_mem_set hm with hm | hm
 ·obtain ⟨q,hq,hq2⟩:=Yar.mp hm;rw [<- hq2];exact h.2 q hq
 ·rw [hm,YaK]
  by_cases hi:i<prs.length
  ·rw [Yat,Yaf,Yac hi];exact h.2 _ (YaL hi)
  ·rw [Yat,Yaf,List.getElem?_eq_none (by omega)];exact YaH _
theorem Zqs (hk:ExcK K c7) (hm:mg "NoFit" = some (.ref c7)) (D:Zak K mg "changed_table" Ze0 ["table","cell","x"]) (G1:FnAt P w K mg base 5 "need_cell" ["table","thing"] Zea) (G1X:FnAtX P w K mg base 5 "need_cell" ["table","thing"] (ZpA c1))
  (G2:FnAt P w K mg base 2 "need_number" ["thing"] Zbh) (G3:FnAt P w K mg base 2 "table_with" ["table","cell","x"] ZmU) (G4:FnAt P w K mg base 5 "is_table" ["thing"] Zb3):FnAtX P w K mg base 6 "changed_table" ["table","cell","x"] (ZpC c1 c7):=by
 refine FnAtX.of D sc_changed (λvs H Q E h=>?_) (λf cdv A outer s H vs Q E hr h=>?_)
 ·obtain ⟨t,c,prs,i,j,x,rfl,_⟩:=h;rfl
 ·obtain ⟨t,c,prs,i,j,x,rfl,hT,hg,hc,h⟩:=h;have nd:=sc_changed.nd;rcases h with ⟨ho,he⟩ | ⟨hi,hj,ok,he⟩
  ·refine ⟨_,Zab (ZaG (ZdZ G1X hr Za5 (Zaa (pv 0) (Zaa (pv 1) Zac)))) Zaj,?_⟩;exact ⟨_,rfl,_,rfl,t,c,prs,i,j,rfl,hT,hg,hc,ho,he⟩
  ·obtain ⟨g,g1,g2,g3,g4⟩:=Zbb hg;have hli:(ZbD prs i).length=w0 prs:=by
    obtain ⟨p,hp,_,e⟩:=Zb5 hi;rw [e];exact g.len p hp
   refine ⟨_,Zab (ZaG (pe_f G1 hr (Zaa (pv 0) (Zaa (pv 1) Zac)))) (Zab (ZaG (pe_f G2 (hr.mono (by decide)) (Zaa (pv 2) Zac)))
    (Zab (Zau (i:=3) nd rfl (Or.inl rfl) (pe_f G3 (hr.mono (by decide)) (Zaa (pv 0) (Zaa (pv 1) (Zaa (pv 2) Zac)))))
    (Zab (Zay (ZaE (ZaB (pe_f G4 hr (Zaa (pv 3) Zac)))) (Zaf (Zbf ZaW hk Zam hm)) Zah) Zaj))),?_⟩
   refine ⟨_,rfl,_,rfl,t,c,prs,i,j,rfl,hT,hg,hc,hi,hj,λH1 s1=>⟨_,rfl,x,rfl,?_⟩⟩;refine ⟨_,rfl,_,rfl,_,rfl,t,c,prs,i,j,x,rfl,hT.same s1,ZaO hg,s1 _ _ hc,hi,by omega,λt' prs' H2 ht' hq hnd s2 hT2 hrows=>?_⟩;refine ⟨_,rfl,t',prs',rfl,hT2,Zly (ZaO hg) hrows,λH3 s3=>⟨_,rfl,?_⟩⟩;rw [ZcH hrows,ok];exact iteT (he H3 (s1.trans (s2.trans s3)))
def Zgf (r:Nat):Bool:=decide (1<=r) && decide (r<=4)
def Zi4:Sp:=λvs H Q _=>∃ r:Nat,vs=[.int (r:Nat)]/\Q (.bl (Zgf r)) H
theorem ZlB:FnScope ["thing"] ["thing"] (Zae ZdS):=⟨rfl,rfl,rfl,by decide +kernel,rfl,by decide +kernel,by decide +kernel⟩
theorem Zl5 (T:Blt mg) (D:Zak K mg "is_side" ZdS ["thing"]) (G:FnAt P w K mg base 1 "is_whole" ["thing"] Zbi):FnAt P w K mg base 2 "is_side" ["thing"] Zi4:=by
 refine FnAt.of D ZlB (λvs H Q E h=>?_) (λf cdv A outer s H vs Q E hr h=>?_)
 ·obtain ⟨r,rfl,_⟩:=h;rfl
 ·obtain ⟨r,rfl,q⟩:=h;obtain ⟨t,ht⟩:=T.ms;refine ⟨_,Zaf (Zal (ZbY (pe_f G hr (Zaa (pv 0) Zac)) (ZbF (Zbg o_le o_le Zag (pv 0) (ZaL (v:=.int 4) rfl ht ⟨_,rfl⟩))))),?_⟩;refine ⟨_,rfl,_,rfl,_,rfl,iteT ⟨_,rfl,_,_,rfl,rfl,_,rfl,?_⟩⟩;unfold Zgf at q
  by_cases h1:1<=r
  ·rw [Ya4 h1,Bool.true_and] at q;rw [Ya4 (show (1:Int)<=(r:Nat) by omega)];refine iteT ⟨_,_,rfl,rfl,?_⟩;rw [show decide (((r:Nat):Int)<=4)=decide (r<=4) by rw [Ybb];omega];exact q
  ·rw [Ya5 h1,Bool.false_and] at q;rw [Ya5 (show ¬ (1:Int)<=(r:Nat) by omega)];exact iteF q
def Zh3 (c3:Addr):Sp:=λvs H _ E=>∃ (r p:Nat),vs=[.int (r:Nat),.int (p:Nat)]/\(Zgf r && Zgf p)=false/\E (.ref c3) none H
theorem ZpL:FnScope ["r","p"] ["r","p"] (Zae Zcb):=⟨rfl,rfl,rfl,by decide +kernel,rfl,by decide +kernel,by decide +kernel⟩
theorem Zqm (hk:ExcK K c3) (hm:mg "NoSize" = some (.ref c3)) (D:Zak K mg "need_size" Zcb ["r","p"]) (G:FnAt P w K mg base 2 "is_side" ["thing"] Zi4):FnAtX P w K mg base 3 "need_size" ["r","p"] (Zh3 c3):=by
 refine FnAtX.of D ZpL (λvs H Q E h=>?_) (λf cdv A outer s H vs Q E hr h=>?_)
 ·obtain ⟨r,p,rfl,_⟩:=h;rfl
 ·obtain ⟨r,p,rfl,ho,q⟩:=h;refine ⟨_,Zaf (Zay (PW.pt (Zb1 (ZaE (ZaB (pe_f G hr (Zaa (pv 0) Zac)))) (Zby (ZaE (ZaB (pe_f G hr (Zaa (pv 1) Zac))))))) (Zaf (Zbf ZaW hk Zam hm)) Zah),?_⟩;refine ⟨_,rfl,r,rfl,_,rfl,?_⟩;cases e1:Zgf r with
  |false=>exact iteT (iteT q)
  |true =>
   rw [e1,Bool.true_and] at ho;refine iteF ⟨_,rfl,p,rfl,_,rfl,?_⟩;rw [ho];exact iteT q
theorem ZpN:FnScope ["r","p"] ["r","p"] (Zae ZdT):=⟨rfl,rfl,rfl,by decide +kernel,rfl,by decide +kernel,by decide +kernel⟩
theorem Zqr (D:Zak K mg "fewest_looks" ZdT ["r","p"]) (G1:FnAtX P w K mg base 3 "need_size" ["r","p"] (Zh3 c3)):FnAtX P w K mg base 4 "fewest_looks" ["r","p"] (Zh3 c3):=by
 refine FnAtX.of D ZpN (λvs H Q E h=>?_) (λf cdv A outer s H vs Q E hr h=>?_)
 ·obtain ⟨r,p,rfl,_⟩:=h;rfl
 ·obtain ⟨r,p,rfl,ho,q⟩:=h;refine ⟨_,Zab (ZaG (ZdZ G1 hr Za5 (Zaa (pv 0) (Zaa (pv 1) Zac)))) Zaj,?_⟩;exact ⟨_,rfl,_,rfl,r,p,rfl,ho,q⟩
end
open PySem L2 PyProof.Rows
theorem Zc8 {k:Nat}{A:Around} (r:Room k A):A.units+1<cLine:=YaZ (Nat.add_le_add_left (by decide:1<=64) _) r.units
structure DkK (K:Yab) (C:Addr):Prop where
 cls:Cls K C
 nt:NoAttr K C "tables"
abbrev Ts:=List (Str × Addr × Prs)
def kvs (ts:Ts):List (Key × V):=ts.map λe=>(Sum.inr e.1,V.ref e.2.1)
structure DeskAt (H:Hp) (C a dx d:Addr) (ts:Ts):Prop where
 ob:H a=some (.ins C dx [("tables", .ref d)])
 D:H d=some (.dK (kvs ts))
 T:∀ e∈ts,Tab H e.2.1 e.2.2/\tabB e.2.2=true
 nd:(ts.map (·.1)).Nodup
theorem DeskAt.same {H H':Hp}{C a dx d:Addr}{ts:Ts} (h:DeskAt H C a dx d ts) (s:Same H H'):DeskAt H' C a dx d ts :=
 ⟨s _ _ h.ob,s _ _ h.D,λe he=>⟨(h.T e he).1.same s,(h.T e he).2⟩,h.nd⟩
theorem Zfc:∀ {ts:Ts}{n:Str}{t:Addr}{prs:Prs},(ts.map (·.1)).Nodup->(n,t,prs)∈ts->L2.valV (kvs ts) (Sum.inr n)=some (.ref t)
 |e :: ts,n,t,prs,nd,h=>by
  rw [Yaw,Yba] at nd;rcases YaF.mp h with h | h
  ·subst h;exact L2.Za9 rfl
  ·have ne:¬ (Sum.inr e.1:Key)=Sum.inr n:=λz=>nd.1 (by
    have z:e.1=n:=by injection z
    rw [z]
    exact Yar.mpr ⟨_,h,rfl⟩)
   exact (L2.ZaY (p:=(Sum.inr e.1,V.ref e.2.1)) ne).trans (Zfc nd.2 h)
theorem Zga:∀ {ts:Ts}{n:Str},n∉ts.map (·.1)->L2.valV (kvs ts) (Sum.inr n)=none
 | [],_,_=>rfl
 |e :: ts,n,h=>by
  rw [Yaw,YaF,not_or] at h;have ne:¬ (Sum.inr e.1:Key)=Sum.inr n:=λz=>h.1 (by injection z with z;exact z.symm);exact (L2.ZaY (p:=(Sum.inr e.1,V.ref e.2.1)) ne).trans (Zga h.2)
section
variable {P:Program}{w:World}{K:Yab}{mg:Str->Option Value}{base:Heap}{C c:Addr}
theorem sc_sot:FnScope ["self","words","table"] ["self","words"] (Zae (ZaC Zb2 3)):=⟨rfl,rfl,rfl,by decide +kernel,rfl,by decide +kernel,by decide +kernel⟩
def Zdt (C:Addr):Sp:=λvs H Q _=>∃ (a dx d p t:Addr) (ts:Ts) (n:Str) (prs:Prs),vs=[.ref a,.ref p]/\DeskAt H C a dx d ts/\H p=some (.lst ([("show" : Str),n].map V.str))/\(n,t,prs)∈ts/\(∀ q∈prs,Bd50 q.2) /\
 ∀ H',Same H H'->Q (.str (Txt.replace (tabS (prs.map (·.2))) "\n" "/")) H'
theorem ZbB {a b:Str}{r:Bool} (h:decide (a=b)=r):decide (V.str a=V.str b)=r:=decS.trans h
theorem Zog (kc:DkK K C) (D:ZaA K C "say_of_table" "Desk.say_of_table" (ZaC Zb2 3) ["self","words"]) (G:FnAt P w K mg base 7 "show_table" ["table"] spST):MtAtX P w K mg base 10 C "say_of_table" ["self","words"] (Zdt C):=by
 refine MtAtX.of D sc_sot (λvs H Q E h=>?_) (λf cdv A outer s H vs Q E hr h=>?_)
 ·obtain ⟨a,dx,d,p,t,ts,n,prs,rfl,_⟩:=h;rfl
 ·obtain ⟨a,dx,d,p,t,ts,n,prs,rfl,hd,hp,hm,hb,q⟩:=h;have nd:=sc_sot.nd;have hu:=Zc8 hr;have hr7:Room 7 _:=hr.mono (show 7<=9 by decide);obtain ⟨hT,hg⟩:=hd.T _ hm;have g:DGet H d (kV (Sum.inr n)) (some (.ref t)):=by
   have:=DGet.k (k:=Sum.inr n) hd.D;rw [Zfc hd.nd hm] at this;exact this
  refine ⟨_,Zab (Zau (i:=2) nd rfl (Or.inl rfl) (ZbC hu (Zbr (pv 0) rfl) (Zar Zan (pv 1) Zag (λ_ _=>rfl)) (λ_ _=>rfl)))
   (Zab (Zay (Zap Za4 (Zar Zan (pv 1) Zag (λ_ _=>rfl)) Zam (Zaq _)) Zaj Zah)
   (Zab (Zay (Zap Za4 (Zar Zan (pv 1) Zag (λ_ _=>rfl)) Zam (Zaq _)) Zaj Zah)
   (Zab (ZpX (ZlM Za4 (Zar Zan (pv 1) Zag (λ_ _=>rfl)) Zjx (Zaq _)) (Zhd (Zhh (pe_f G hr7 (Zaa (pv 2) Zac)))) Zah) Zaj))),?_⟩
  refine ⟨_,rfl,a,C,dx,_,_,rfl,hd.ob,kc.cls,kc.nt,rfl,_,rfl,p,_,1,_,rfl,rfl,SqL.of hp,ZaF (i:=1) rfl,d,_,rfl,g,?_⟩;refine ⟨_,rfl,p,_,0,_,rfl,rfl,SqL.of hp,ZaF (i:=0) rfl,rfl,_,rfl,?_⟩;rw [ZbB (r:=false) (by decide +kernel)];refine iteF ⟨_,rfl,p,_,0,_,rfl,rfl,SqL.of hp,ZaF (i:=0) rfl,rfl,_,rfl,?_⟩;rw [ZbB (r:=false) (by decide +kernel)];refine iteF ⟨_,rfl,p,_,0,_,rfl,rfl,SqL.of hp,ZaF (i:=0) rfl,rfl,_,rfl,?_⟩;rw [ZbB (r:=true) (by decide +kernel)];refine iteT ⟨_,rfl,t,prs,rfl,hT,hg,hb,λH1 s1=>⟨_,rfl,?_,q H1 s1⟩⟩;obtain ⟨g,g1,g2,g3,g4⟩:=Zbb hg;refine Yay (Zlk (B:=312) (M:=2000) (λr hr=>?_) ?_) (by decide)
  ·obtain ⟨q,hq,rfl⟩:=Yar.mp hr;exact Zjp (by rw [g.len q hq];exact g4) (hb q hq)
  ·rw [Yaa];have g2:prs.length<=6:=g2;omega
def ZgX (C:Addr) (sp:Sp):Sp:=λvs H Q E=>∃ (a dx d p t:Addr) (ts:Ts) (f n:Str) (x:Int) (prs:Prs),vs=[.ref a,.ref p]/\DeskAt H C a dx d ts/\H p=some (.lst ([f,n,Zas x].map V.str))/\(n,t,prs)∈ts/\f ≠ "cell" /\ f ≠ "drop" /\ f ≠ "show" /\ (Zas x).length<=640 /\
 sp [.ref t,.str f,.int x] H Q λcls _ H'=>E cls none H'
theorem ZjJ {sp:Sp} (T:Blt mg) (kc:DkK K C) (D:ZaA K C "say_of_table" "Desk.say_of_table" (ZaC Zb2 3) ["self","words"]) (G:FnAtX P w K mg base 9 "answer_of" ["table","first","x"] sp):MtAtX P w K mg base 10 C "say_of_table" ["self","words"] (ZgX C sp):=by
 refine MtAtX.of D sc_sot (λvs H Q E h=>?_) (λf cdv A outer s H vs Q E hr h=>?_)
 ·obtain ⟨a,dx,d,p,t,ts,f,n,x,prs,rfl,_⟩:=h;rfl
 ·obtain ⟨a,dx,d,p,t,ts,f,n,x,prs,rfl,hd,hp,hm,f1,f2,f3,hl,q⟩:=h;have nd:=sc_sot.nd;have hu:=Zc8 hr;have g:DGet H d (kV (Sum.inr n)) (some (.ref t)):=by
   have:=DGet.k (k:=Sum.inr n) hd.D;rw [Zfc hd.nd hm] at this;exact this
  refine ⟨_,Zab (Zau (i:=2) nd rfl (Or.inl rfl) (ZbC hu (Zbr (pv 0) rfl) (Zar Zan (pv 1) Zag (λ_ _=>rfl)) (λ_ _=>rfl)))
   (Zab (Zay (Zap Za4 (Zar Zan (pv 1) Zag (λ_ _=>rfl)) Zam (Zaq _)) Zaj Zah)
   (Zab (Zay (Zap Za4 (Zar Zan (pv 1) Zag (λ_ _=>rfl)) Zam (Zaq _)) Zaj Zah)
   (Zab (Zay (Zap Za4 (Zar Zan (pv 1) Zag (λ_ _=>rfl)) Zam (Zaq _)) Zaj Zah)
   (Zaf (Zal (ZdZ G hr Za5 (Zaa (pv 2) (Zaa (Zar Zan (pv 1) Zag (λ_ _=>rfl)) (Zaa (pe_t Zbs T.int boot_int (Zaa (Zar Zan (pv 1) Zag (λ_ _=>rfl)) Zac)) Zac))))))))),?_⟩
  refine ⟨_,rfl,a,C,dx,_,_,rfl,hd.ob,kc.cls,kc.nt,rfl,_,rfl,p,_,1,_,rfl,rfl,SqL.of hp,ZaF (i:=1) rfl,d,_,rfl,g,?_⟩;refine ⟨_,rfl,p,_,0,_,rfl,rfl,SqL.of hp,ZaF (i:=0) rfl,rfl,_,rfl,?_⟩;rw [ZbB (r:=false) (Ya5 f1)];refine iteF ⟨_,rfl,p,_,0,_,rfl,rfl,SqL.of hp,ZaF (i:=0) rfl,rfl,_,rfl,?_⟩;rw [ZbB (r:=false) (Ya5 f2)];refine iteF ⟨_,rfl,p,_,0,_,rfl,rfl,SqL.of hp,ZaF (i:=0) rfl,rfl,_,rfl,?_⟩;rw [ZbB (r:=false) (Ya5 f3)];exact iteF ⟨_,rfl,_,rfl,p,_,0,_,rfl,rfl,SqL.of hp,ZaF (i:=0) rfl,_,rfl,p,_,2,_,rfl,rfl,SqL.of hp,ZaF (i:=2) rfl,_,_,rfl,ZbP (by omega),hl,q⟩
def ZmX (C c1 c7:Addr):Sp:=λvs H _ E=>∃ (a dx d p t:Addr) (ts:Ts) (n:Str) (prs:Prs) (i j:Nat) (x:Int),vs=[.ref a,.ref p]/\DeskAt H C a dx d ts/\H p=some (.lst ([("cell" : Str),n,Zas (i:Nat),Zas (j:Nat),Zas x].map V.str))/\(n,t,prs)∈ts /\
 (Zas (i:Nat)).length<=640/\(Zas (j:Nat)).length<=640/\(Zas x).length<=640 /\
 (((prs.length<=i\/w0 prs<=j)/\∀ H',Same H H'->E (.ref c1) none H')\/(i<prs.length/\j<w0 prs/\Zb4 (setR (prs.map (·.2)) i j x)=false/\∀ H',Same H H'->E (.ref c7) none H'))
theorem Zof {c1 c7:Addr} (T:Blt mg) (kc:DkK K C) (D:ZaA K C "say_of_table" "Desk.say_of_table" (ZaC Zb2 3) ["self","words"]) (G:FnAtX P w K mg base 6 "changed_table" ["table","cell","x"] (ZpC c1 c7)):MtAtX P w K mg base 10 C "say_of_table" ["self","words"] (ZmX C c1 c7):=by
 refine MtAtX.of D sc_sot (λvs H Q E h=>?_) (λf cdv A outer s H vs Q E hr h=>?_)
 ·obtain ⟨a,dx,d,p,t,ts,n,prs,i,j,x,rfl,_⟩:=h;rfl
 ·obtain ⟨a,dx,d,p,t,ts,n,prs,i,j,x,rfl,hd,hp,hm,l1,l2,l3,q⟩:=h;have nd:=sc_sot.nd;have hu:=Zc8 hr;have hr6:Room 6 _:=hr.mono (show 6<=9 by decide);obtain ⟨hT,hg⟩:=hd.T _ hm;have g:DGet H d (kV (Sum.inr n)) (some (.ref t)):=by
   have:=DGet.k (k:=Sum.inr n) hd.D;rw [Zfc hd.nd hm] at this;exact this
  refine ⟨_,Zab (Zau (i:=2) nd rfl (Or.inl rfl) (ZbC hu (Zbr (pv 0) rfl) (Zar Zan (pv 1) Zag (λ_ _=>rfl)) (λ_ _=>rfl)))
   (Zab (Zay (Zap Za4 (Zar Zan (pv 1) Zag (λ_ _=>rfl)) Zam (Zaq _)) (Zab (Zer hu (Zbr (pv 0) rfl) (Zar Zan (pv 1) Zag (λ_ _=>rfl))
    (ZdZ G hr6 Za5 (Zaa (pv 2) (Zaa (ZbE (Zaa (pe_t Zbs T.int boot_int (Zaa (Zar Zan (pv 1) Zag (λ_ _=>rfl)) Zac)) (Zaa (pe_t Zbs T.int boot_int (Zaa (Zar Zan (pv 1) Zag (λ_ _=>rfl)) Zac)) Zac)))
     (Zaa (pe_t Zbs T.int boot_int (Zaa (Zar Zan (pv 1) Zag (λ_ _=>rfl)) Zac)) Zac)))) rfl) Zaj) Zah) Zaj),?_⟩
  refine ⟨_,rfl,a,C,dx,_,_,rfl,hd.ob,kc.cls,kc.nt,rfl,_,rfl,p,_,1,_,rfl,rfl,SqL.of hp,ZaF (i:=1) rfl,d,_,rfl,g,?_⟩;refine ⟨_,rfl,p,_,0,_,rfl,rfl,SqL.of hp,ZaF (i:=0) rfl,rfl,_,rfl,?_⟩;rw [ZbB (r:=true) (by decide +kernel)];refine iteT ⟨_,rfl,_,rfl,p,_,2,_,rfl,rfl,SqL.of hp,ZaF (i:=2) rfl,_,_,rfl,ZbP (by omega),l1,_,rfl,p,_,3,_,rfl,rfl,SqL.of hp,ZaF (i:=3) rfl,_,_,rfl,ZbP (by omega),l2,len2,λq2 hq2=>?_⟩;have s1:=Same.new (o:=.tup [.int (i:Nat),.int (j:Nat)]) hq2;refine ⟨_,rfl,p,_,4,_,rfl,rfl,SqL.of (s1 _ _ hp),ZaF (i:=4) rfl,_,_,rfl,ZbP (by omega),l3,t,q2,prs,i,j,x,rfl,hT.same s1,hg,Zad,?_⟩;rcases q with ⟨h1,h2⟩ | ⟨h1,h2,h3,h4⟩
  ·exact .inl ⟨h1,λH' s'=>h2 H' (s1.trans s')⟩
  ·exact .inr ⟨h1,h2,h3,λH' s'=>h4 H' (s1.trans s')⟩
end
open PySem L2 PyProof.Rows
section
variable {P:Program}{w:World}{K:Yab}{mg:Str->Option Value}{base:Heap}{C c:Addr}
theorem sc_say:FnScope ["self","row","words"] ["self","row"] (Zae (ZaC Zb2 2)):=⟨rfl,rfl,rfl,by decide +kernel,rfl,by decide +kernel,by decide +kernel⟩
def ZmZ (C c:Addr):Sp:=λvs H _ E=>∃ (a:Addr) (x:V) (d:PyData),vs=[.ref a,x]/\RdS [] H x d/\(ZdM d=false\/∃ z,d=.str z/\z.length<=900/\hfB (spl z)=false)/\∀ H',Same H H'->E (.ref c) none H'
theorem Zoj (D:ZaA K C "say" "Desk.say" (ZaC Zb2 2) ["self","row"]) (G:FnAtX P w K mg base 6 "words_of" ["row"] (Zpv c)):MtAtX P w K mg base 38 C "say" ["self","row"] (ZmZ C c):=by
 refine MtAtX.of D sc_say (λvs H Q E h=>?_) (λf cdv A outer s H vs Q E hr h=>?_)
 ·obtain ⟨a,x,d,rfl,_⟩:=h;rfl
 ·obtain ⟨a,x,d,rfl,rd,hc,he⟩:=h;have nd:=sc_say.nd;have hr6:Room 6 _:=hr.mono (show 6<=37 by decide);refine ⟨_,Zab (Zau (i:=2) nd rfl (Or.inl rfl) (ZdZ G hr6 Za5 (Zaa (pv 1) Zac))) Zaj,?_⟩;exact ⟨_,rfl,x,d,rfl,rd,hc,he⟩
def ZmY (C c:Addr):Sp:=λvs H _ E=>∃ (a dx d:Addr) (ts:Ts) (x f n:Str) (ws:List Str),vs=[.ref a,.str x]/\DeskAt H C a dx d ts/\x.length<=900/\hfB (spl x)=true/\spl x=f :: n :: ws/\f ≠ "looks" /\ f ≠ "table" /\ n∉ts.map (·.1)/\∀ H',Same H H'->E (.ref c) none H'
theorem Zoi (kc:DkK K C) (hk:ExcK K c) (hm:mg "NoName" = some (.ref c)) (D:ZaA K C "say" "Desk.say" (ZaC Zb2 2) ["self","row"]) (G:FnAt P w K mg base 6 "words_of" ["row"] spWO):MtAtX P w K mg base 38 C "say" ["self","row"] (ZmY C c):=by
 refine MtAtX.of D sc_say (λvs H Q E h=>?_) (λf cdv A outer s H vs Q E hr h=>?_)
 ·obtain ⟨a,dx,d,ts,x,f,n,ws,rfl,_⟩:=h;rfl
 ·obtain ⟨a,dx,d,ts,x,f,n,ws,rfl,hd,hl,hf,hs,f1,f2,hn,he⟩:=h;have nd:=sc_say.nd;have hu:=Zc8 hr;have hr6:Room 6 _:=hr.mono (show 6<=37 by decide);refine ⟨_,Zab (Zau (i:=2) nd rfl (Or.inl rfl) (pe_f G hr6 (Zaa (pv 1) Zac)))
   (Zab (Zay (Zap Za4 (Zar Zan (pv 2) Zag (λ_ _=>rfl)) Zam (Zaq _)) Zaj Zah)
   (Zab (Zay (Zap Za4 (Zar Zan (pv 2) Zag (λ_ _=>rfl)) Zam (Zaq _)) Zaj Zah)
   (Zab (Zay (Zjr (ZdE hu (Zar Zan (pv 2) Zag (λ_ _=>rfl)) (Zbr (pv 0) rfl))) (Zaf (Zbf ZaW hk Zam hm)) Zah) Zaj))),?_⟩
  refine ⟨_,rfl,x,rfl,hl,hf,λp H1 hp s1 e1=>?_⟩;rw [hs] at e1;have d1:=hd.same s1;have g:DGet H1 d (kV (Sum.inr n)) none:=by
   have:=DGet.k (k:=Sum.inr n) d1.D;rw [Zga hn] at this;exact this
  refine ⟨_,rfl,p,_,0,_,rfl,rfl,SqL.of e1,ZaF (i:=0) rfl,rfl,_,rfl,?_⟩;rw [ZbB (r:=false) (Ya5 f1)];refine iteF ⟨_,rfl,p,_,0,_,rfl,rfl,SqL.of e1,ZaF (i:=0) rfl,rfl,_,rfl,?_⟩;rw [ZbB (r:=false) (Ya5 f2)];refine iteF ⟨_,rfl,p,_,1,_,rfl,rfl,SqL.of e1,ZaF (i:=1) rfl,_,rfl,a,C,dx,_,_,rfl,d1.ob,kc.cls,kc.nt,rfl,d,none,rfl,g,_,rfl,?_⟩;exact iteT (he H1 s1)
def Zco (C:Addr) (sp:Sp):Sp:=λvs H Q E=>∃ (a dx d t:Addr) (ts:Ts) (x f n:Str) (ws:List Str) (prs:Prs),vs=[.ref a,.str x]/\DeskAt H C a dx d ts/\x.length<=900/\hfB (spl x)=true/\spl x=f :: n :: ws/\f ≠ "looks" /\ f ≠ "table" /\ (n,t,prs)∈ts /\
 ∀ p H',H p=none->Same H H'->H' p=some (.lst ((spl x).map V.str))->sp [.ref a,.ref p] H' Q λcls _ H2=>E cls none H2
theorem Zgo {sp:Sp} (kc:DkK K C) (D:ZaA K C "say" "Desk.say" (ZaC Zb2 2) ["self","row"]) (G:FnAt P w K mg base 6 "words_of" ["row"] spWO) (M:MtAtX P w K mg base 10 C "say_of_table" ["self","words"] sp):MtAtX P w K mg base 38 C "say" ["self","row"] (Zco C sp):=by
 refine MtAtX.of D sc_say (λvs H Q E h=>?_) (λf cdv A outer s H vs Q E hr h=>?_)
 ·obtain ⟨a,dx,d,t,ts,x,f,n,ws,prs,rfl,_⟩:=h;rfl
 ·obtain ⟨a,dx,d,t,ts,x,f,n,ws,prs,rfl,hd,hl,hf,hs,f1,f2,hm,q⟩:=h;have nd:=sc_say.nd;have hu:=Zc8 hr;have hr6:Room 6 _:=hr.mono (show 6<=37 by decide);have hr10:Room 10 _:=hr.mono (show 10<=37 by decide);refine ⟨_,Zab (Zau (i:=2) nd rfl (Or.inl rfl) (pe_f G hr6 (Zaa (pv 1) Zac)))
   (Zab (Zay (Zap Za4 (Zar Zan (pv 2) Zag (λ_ _=>rfl)) Zam (Zaq _)) Zaj Zah)
   (Zab (Zay (Zap Za4 (Zar Zan (pv 2) Zag (λ_ _=>rfl)) Zam (Zaq _)) Zaj Zah)
   (Zab (Zay (Zjr (ZdE hu (Zar Zan (pv 2) Zag (λ_ _=>rfl)) (Zbr (pv 0) rfl))) Zaj Zah)
   (Zaf (Zal (Zjz M kc.cls hr10 Za5 (pv 0) (Zaa (pv 2) Zac))))))),?_⟩
  refine ⟨_,rfl,x,rfl,hl,hf,λp H1 hp s1 e0=>?_⟩;have e1:=e0;rw [hs] at e1;have d1:=hd.same s1;have g:DGet H1 d (kV (Sum.inr n)) (some (.ref t)):=by
   have:=DGet.k (k:=Sum.inr n) d1.D;rw [Zfc hd.nd hm] at this;exact this
  refine ⟨_,rfl,p,_,0,_,rfl,rfl,SqL.of e1,ZaF (i:=0) rfl,rfl,_,rfl,?_⟩;rw [ZbB (r:=false) (Ya5 f1)];refine iteF ⟨_,rfl,p,_,0,_,rfl,rfl,SqL.of e1,ZaF (i:=0) rfl,rfl,_,rfl,?_⟩;rw [ZbB (r:=false) (Ya5 f2)];refine iteF ⟨_,rfl,p,_,1,_,rfl,rfl,SqL.of e1,ZaF (i:=1) rfl,_,rfl,a,C,dx,_,_,rfl,d1.ob,kc.cls,kc.nt,rfl,d,some (.ref t),rfl,g,_,rfl,?_⟩;exact iteF ⟨_,rfl,a,dx,_,rfl,d1.ob,rfl,_,rfl,q p H1 hp s1 e0⟩
end
open PySem L2 PyProof.Rows
section
variable {P:Program}{w:World}{K:Yab}{mg:Str->Option Value}{base:Heap}{C c:Addr}
def Zg0 (C:Addr) (sp:Sp):Sp:=λvs H Q E=>∃ (a:Addr) (x:Str) (r p:Nat),vs=[.ref a,.str x]/\x.length<=900/\hfB (spl x)=true/\spl x=[("looks" : Str),Zas (r:Nat),Zas (p:Nat)]/\(Zas (r:Nat)).length<=640/\(Zas (p:Nat)).length<=640 /\
 ∀ H',Same H H'->sp [.int (r:Nat),.int (p:Nat)] H' (λv H2=>∃ k:Int,[v]=[V.int k]/\k.natAbs.log2<1920/\Q (.str (Zas k)) H2) λcls _ H2=>E cls none H2
theorem ZjM {sp:Sp} (T:Blt mg) (hstr:mg "str" = none) (D:ZaA K C "say" "Desk.say" (ZaC Zb2 2) ["self","row"]) (G:FnAt P w K mg base 6 "words_of" ["row"] spWO) (G2:FnAtX P w K mg base 36 "fewest_looks" ["r","p"] sp):MtAtX P w K mg base 38 C "say" ["self","row"] (Zg0 C sp):=by
 refine MtAtX.of D sc_say (λvs H Q E h=>?_) (λf cdv A outer s H vs Q E hr h=>?_)
 ·obtain ⟨a,x,r,p,rfl,_⟩:=h;rfl
 ·obtain ⟨a,x,r,p2,rfl,hl,hf,hs,l1,l2,q⟩:=h;have nd:=sc_say.nd;have hr6:Room 6 _:=hr.mono (show 6<=37 by decide);have hr36:Room 36 _:=hr.mono (show 36<=37 by decide);refine ⟨_,Zab (Zau (i:=2) nd rfl (Or.inl rfl) (pe_f G hr6 (Zaa (pv 1) Zac)))
   (Zab (Zay (Zap Za4 (Zar Zan (pv 2) Zag (λ_ _=>rfl)) Zam (Zaq _)) (Zaf (Zal (pe_t Zcc hstr Za7 (Zaa (ZdZ G2 hr36 Za5 (Zaa (pe_t Zbs T.int boot_int (Zaa (Zar Zan (pv 2) Zag (λ_ _=>rfl)) Zac))
    (Zaa (pe_t Zbs T.int boot_int (Zaa (Zar Zan (pv 2) Zag (λ_ _=>rfl)) Zac)) Zac))) Zac)))) Zah) Zaj),?_⟩
  refine ⟨_,rfl,x,rfl,hl,hf,λp H1 hp s1 e1=>?_⟩;rw [hs] at e1;refine ⟨_,rfl,p,_,0,_,rfl,rfl,SqL.of e1,ZaF (i:=0) rfl,rfl,_,rfl,?_⟩;rw [ZbB (r:=true) (by decide +kernel)];refine iteT ⟨_,rfl,p,_,1,_,rfl,rfl,SqL.of e1,ZaF (i:=1) rfl,_,_,rfl,ZbP (by omega),l1,_,rfl,p,_,2,_,rfl,rfl,SqL.of e1,ZaF (i:=2) rfl,_,_,rfl,ZbP (by omega),l2,?_⟩;exact q H1 s1
def ZgZ (C:Addr) (sp:Sp):Sp:=λvs H Q E=>∃ (a dx d:Addr) (ts:Ts) (x n tx:Str),vs=[.ref a,.str x]/\DeskAt H C a dx d ts/\ts.length<=1000/\x.length<=900/\hfB (spl x)=true/\spl x=[("table" : Str),n,tx] /\
 ∀ H1,Same H H1->sp [.str tx] H1 (λv H2=>Same H1 H2/\Q (.str "ok") (upd H2 d (.dK (putK (kvs ts) (Sum.inr n) v)))) λcls _ H2=>E cls none H2
def Mono (sp:Sp):Prop:=∀ vs H (Q Q':VK) E,(∀ v H',Q v H'->Q' v H')->sp vs H Q E->sp vs H Q' E
theorem ZjL {sp:Sp} (ms:Mono sp) (kc:DkK K C) (D:ZaA K C "say" "Desk.say" (ZaC Zb2 2) ["self","row"]) (G:FnAt P w K mg base 6 "words_of" ["row"] spWO) (G2:FnAtX P w K mg base 7 "read_slashed" ["text"] sp):MtAtX P w K mg base 38 C "say" ["self","row"] (ZgZ C sp):=by
 refine MtAtX.of D sc_say (λvs H Q E h=>?_) (λf cdv A outer s H vs Q E hr h=>?_)
 ·obtain ⟨a,dx,d,ts,x,n,tx,rfl,_⟩:=h;rfl
 ·obtain ⟨a,dx,d,ts,x,n,tx,rfl,hd,hn,hl,hf,hs,q⟩:=h;have nd:=sc_say.nd;have hu:=Zc8 hr;have hr6:Room 6 _:=hr.mono (show 6<=37 by decide);have hr7:Room 7 _:=hr.mono (show 7<=37 by decide);refine ⟨_,Zab (Zau (i:=2) nd rfl (Or.inl rfl) (pe_f G hr6 (Zaa (pv 1) Zac)))
   (Zab (Zay (Zap Za4 (Zar Zan (pv 2) Zag (λ_ _=>rfl)) Zam (Zaq _)) Zaj Zah)
   (Zab (Zay (Zap Za4 (Zar Zan (pv 2) Zag (λ_ _=>rfl)) Zam (Zaq _)) (Zab (Zer hu (Zbr (pv 0) rfl) (Zar Zan (pv 2) Zag (λ_ _=>rfl)) (ZdZ G2 hr7 Za5 (Zaa (Zar Zan (pv 2) Zag (λ_ _=>rfl)) Zac)) rfl)
    (Zaf (Zal Zam))) Zah) Zaj)),?_⟩
  refine ⟨_,rfl,x,rfl,hl,hf,λp H1 hp s1 e1=>?_⟩;rw [hs] at e1;refine ⟨_,rfl,p,_,0,_,rfl,rfl,SqL.of e1,ZaF (i:=0) rfl,rfl,_,rfl,?_⟩;rw [ZbB (r:=false) (by decide +kernel)];refine iteF ⟨_,rfl,p,_,0,_,rfl,rfl,SqL.of e1,ZaF (i:=0) rfl,rfl,_,rfl,?_⟩;rw [ZbB (r:=true) (by decide +kernel)];refine iteT ⟨_,rfl,p,_,2,_,rfl,rfl,SqL.of e1,ZaF (i:=2) rfl,?_⟩;refine ms _ _ _ _ _ ?_ (q H1 s1);rintro v H2 ⟨s2,q2⟩;have d2:=hd.same (s1.trans s2);exact ⟨_,rfl,a,C,dx,_,_,rfl,d2.ob,kc.cls,kc.nt,rfl,_,rfl,p,_,1,_,rfl,rfl,SqL.of (s2 _ _ e1),ZaF (i:=1) rfl,d,_,rfl,DPut.k (k:=Sum.inr n) d2.D (by unfold kvs;rw [Yaa];exact ZaD (by omega)),q2⟩
theorem ZlH:FnScope ["self"] ["self"] (Zae (ZaC Zb2 0)):=⟨rfl,rfl,rfl,by decide +kernel,rfl,by decide +kernel,by decide +kernel⟩
def Zdz (C:Addr):Sp:=λvs H Q _=>∃ (a dx:Addr),vs=[.ref a]/\H a=some (.ins C dx [])/\∀ d H',H d=none->d≠a->(∀ b o,b≠a->H b=some o->H' b=some o)->DeskAt H' C a dx d []->Q .non H'
theorem Zmc (kc:DkK K C) (D:ZaA K C "__init__" "Desk.__init__" (ZaC Zb2 0) ["self"]):MtAt P w K mg base 1 C "__init__" ["self"] (Zdz C):=by
 refine MtAt.of D ZlH (λvs H Q E h=>?_) (λf cdv A outer s H vs Q E hr h=>?_)
 ·obtain ⟨a,dx,rfl,_⟩:=h;rfl
 ·obtain ⟨a,dx,rfl,ea,q⟩:=h;refine ⟨_,Zaf (Zhe (pv 0) ZlW rfl),?_⟩;intro d hd;have s1:=Same.new (o:=.dK []) hd;have nda:d≠a:=λz=>by rw [z,ea] at hd;cases hd
  refine ⟨_,rfl,a,C,dx,[],rfl,s1 _ _ ea,kc.cls,kc.nt,by decide,?_⟩;refine q d _ hd nda (λb o n e=>by rw [Zai n];exact s1 _ _ e) ⟨Zad,?_,(λe he=>nomatch he),.nil⟩;rw [Zai nda];exact Zad
end
end Seek
namespace L2
open PySem PySem.Spec PyProof.Rows
theorem Zjy {X:Cx}{k:Nat}{C:Addr}{ps:List Str}{sp:Sp}{x:Str}{p pos:Pos} (F:MtAt X.prog X.w X.K X.mg X.base k C "__init__" ps sp) (hmk:PySem.W.makesIn X.K C=true) (hkp:PySem.W.keepIn X.K (.ref C)=true) (hr:Room (k+1) X.A) (hg:Gl X x) (hm:X.mg x=some (.ref C))
  (hdb:(x == ("__debug__" : Str))=false:=by decide):PE X (.Call (.Name x p) [] [] pos) (λσ H Q=>∀ x dx,H x=none->H dx=none->dx≠x->sp [.ref x] (upd (upd H dx (.own x)) x (.ins C dx [])) (λv H2=>v=.non/\Q (.ref x) H2) E0):=by
 obtain ⟨f,fd,F,hmt,hb⟩:=F;have q:=ZlT (p:=p) (pos:=pos) ⟨hmk,hmt.at_,hmt.fn,hkp⟩ F hr hg hm hb .nil (Zid (X:=X)) hdb;intro pins s σ H Q I h;refine q pins s σ H Q I ?_;unfold Zln;simp only [List.append_nil];exact h
end L2
namespace Seek
open PySem L2 PyProof.Rows
structure Err (K:Yab) (S:Addr) (cs:List Addr) (i:Nat) (C:Addr):Prop where
 k:ExcK K C
 sk:PySem.W.mroIn K C (.ref S)=some true
 kv:PySem.W.kitOne K (.ref C) (.type "ValueError")=some true
 ks:∀ j D,cs[j]? = some D->PySem.W.kitOne K (.ref C) (.ref D)=some (decide (j=i))
end Seek
namespace L2
open PySem PySem.Spec PyProof.Rows
theorem ZdW:bootBuiltins "ValueError" = some (.type "ValueError"):=by kernel_rfl
section
variable {X:Cx}
theorem Za6 (K:Yab) (hK:X.K=K:=by rfl):Zbv X (.builtin "isinstance") (λxs H Q=>∃ e C D b,xs=[.ref e,.ref D]/\H e=some (excO e C)/\ExcK K C/\PySem.W.kitOne K (.ref C) (.ref D)=some b/\Q (.bl b) H):=by
 subst hK;intro pins s σ H xs us Q I rv h;obtain ⟨e,C,D,b,rfl,he,kC,hk,q⟩:=h;obtain ⟨u,v,rfl,r1,r2⟩:=rv.two;obtain rfl:u=.ref e:=r1;obtain rfl:v=.ref D:=r2;exact PySem.W.kia_one (ZeH kC) I.kIn (ZgA I he) hk (λz=>nomatch z) λtk=>⟨.bl b,H,I.tok tk,rfl,q⟩
theorem Ze5 (K:Yab) (hK:X.K=K:=by rfl):Zbv X (.builtin "isinstance") (λxs H Q=>∃ e C T b,xs=[.ref e,.ty T]/\H e=some (excO e C)/\ExcK K C/\PySem.W.kitOne K (.ref C) (.type T)=some b/\Q (.bl b) H):=by
 subst hK;intro pins s σ H xs us Q I rv h;obtain ⟨e,C,T,b,rfl,he,kC,hk,q⟩:=h;obtain ⟨u,v,rfl,r1,r2⟩:=rv.two;obtain rfl:u=.ref e:=r1;obtain rfl:v=.type T:=r2;exact PySem.W.kia_one (ZeH kC) I.kIn (ZgA I he) hk (λz=>nomatch z) λtk=>⟨.bl b,H,I.tok tk,rfl,q⟩
end
open PySem PySem.Spec PyProof.Rows
section
variable {X:Cx}
theorem Zfq:∀ {ds:List Addr}{us:List Value},Vals (ds.map V.ref) us->us=ds.map Value.ref
 | [],_,.nil=>rfl
 |d :: ds,_,.cons r t=>by
  obtain rfl:=(r:_=Value.ref d);rw [Zfq t];rfl
theorem Ze4 (K:Yab) (hK:X.K=K:=by rfl):Zbv X (.builtin "isinstance") (λxs H Q=>∃ (e C tp:Addr) (ds:List Addr) (b:Bool),xs=[.ref e,.ref tp]/\H e=some (excO e C)/\ExcK K C/\SqT K H tp (ds.map V.ref)/\PySem.W.kitAny K (.ref C) (ds.map Value.ref)=some b/\Q (.bl b) H):=by
 subst hK;intro pins s σ H xs us Q I rv h;obtain ⟨e,C,tp,ds,b,rfl,he,kC,ht,hk,q⟩:=h;obtain ⟨u,v,rfl,r1,r2⟩:=rv.two;obtain rfl:u=.ref e:=r1;obtain rfl:v=.ref tp:=r2;obtain ⟨its,r,pl,hz⟩:=I.tuple ht;have ei:=Zfq r;subst ei;obtain ⟨⟨cls,dd,data,sl⟩,e1,e2,e3⟩:=pl;obtain ⟨n,e3⟩:=e3;simp only at e2 e3;subst e2 e3;exact PySem.W.kia_tup (ZeH kC) I.kIn (ZgA I he) e1 hk (λz=>nomatch z) λtk=>⟨.bl b,H,I.tok tk,rfl,q⟩
end
end L2
namespace Seek
open PySem L2 PyProof.Rows
structure Nms (mg:Str->Option Value) (S:Addr) (cs:List Addr):Prop where
 len:cs.length=12
 seek:mg "SeekError" = some (.ref S)
 n0:mg "NoTable" = some (.ref (cs.getD 0 0))
 n1:mg "NoCell" = some (.ref (cs.getD 1 0))
 n2:mg "NoNumber" = some (.ref (cs.getD 2 0))
 n3:mg "NoSize" = some (.ref (cs.getD 3 0))
 n4:mg "NoStair" = some (.ref (cs.getD 4 0))
 n5:mg "NoLook" = some (.ref (cs.getD 5 0))
 n6:mg "NoPlace" = some (.ref (cs.getD 6 0))
 n7:mg "NoFit" = some (.ref (cs.getD 7 0))
 n8:mg "NoChange" = some (.ref (cs.getD 8 0))
 n9:mg "NoText" = some (.ref (cs.getD 9 0))
 n10:mg "NoName" = some (.ref (cs.getD 10 0))
 n11:mg "NoRow" = some (.ref (cs.getD 11 0))
theorem Err.kit {K:Yab}{S:Addr}{cs:List Addr}{i:Nat}{C:Addr} (h:Err K S cs i C) (hl:cs.length=12) (j:Nat) (hj:j<12):PySem.W.kitOne K (.ref C) (.ref (cs.getD j 0))=some (decide (j=i)) :=
 h.ks j _ (by rw [Yat,Yac (by omega)];rfl)
end Seek
namespace L2
open PySem PySem.Spec PyProof.Rows
theorem Zka {X:Cx} (K:Yab) (hK:X.K=K:=by rfl):MtM X "list.count" (λx vs H Q=>∃ (l:Addr) (bs:List Bool),x=.ref l/\vs=[.bl true]/\SqL K H l (bs.map V.bl)/\Q (.int (bs.countP id:Nat)) H):=by subst hK;exact Zkb
theorem Zj8 {X:Cx} (K:Yab) (hK:X.K=K:=by rfl):MtM X "list.index" (λx vs H Q=>∃ (l:Addr) (bs:List Bool) (j:Nat),x=.ref l/\vs=[.bl true]/\SqL K H l (bs.map V.bl)/\bs[j]? = some true/\(∀ m,m<j->bs[m]? = some false)/\j<=1000/\Q (.int (j:Nat)) H):=by subst hK;exact Zj9
end L2
namespace Seek
open PySem L2 PyProof.Rows
def hdlO:Stmt->List Stmt
 | .Try _ [.ExceptHandler _ _ b _] _ _ _=>b
 |_=>[]
theorem ZdJ {K:Yab}{C:Addr}:∀ {ds:List Addr},(∀ d∈ds,PySem.W.kitOne K (.ref C) (.ref d)=some false)->PySem.W.kitAny K (.ref C) (ds.map Value.ref)=some false
 | [],_=>rfl
 |d :: ds,h=>by
  rw [Yaw];unfold PySem.W.kitAny;rw [h d (.head _)];exact ZdJ λd' hd=>h d' (.tail _ hd)
def kdL:List Nat:=[1,7,10,6,11,3,9]
def kdW:List Str:=[("cell" : Str), "fit","name","place","row","size","text"]
def kdB (j:Nat):List Bool:=kdL.map λm=>decide (m=kdL.getD j 0)
theorem ZqO {j:Nat} (h:j<7):(kdB j).countP id=1:=(by decide:∀ j:Fin 7,(kdB j).countP id=1) ⟨j,h⟩
theorem ZrV {j:Nat} (h:j<7):(kdB j)[j]? = some true:=(by decide:∀ j:Fin 7,(kdB j)[(j:Nat)]? = some true) ⟨j,h⟩
theorem Zmr {j:Nat} (h:j<7) (m:Nat) (hm:m<j):(kdB j)[m]? = some false:=(by decide:∀ j:Fin 7,∀ m:Fin 7,(m:Nat)<j->(kdB j)[(m:Nat)]? = some false) ⟨j,h⟩ ⟨m,by omega⟩ hm
theorem Zkv {j:Nat} (h:j<7):∀ m∈[8,5,2,4,0],m≠kdL.getD j 0:=(by decide:∀ j:Fin 7,∀ m∈[8,5,2,4,0],m≠kdL.getD (j:Nat) 0) ⟨j,h⟩
theorem ZoJ {j:Nat} (h:j<7):kdW[j]? = some (kdW.getD j ""):=by
 rw [Yat,Yac (show j<kdW.length from h)];rfl
section
variable {P:Program}{w:World}{K:Yab}{mg:Str->Option Value}{base:Heap}{S C:Addr}{cs:List Addr}
def Refs (cs:List Addr) (sp:Sp) (H:Hp) (a:Addr) (x:V) (i:Nat):Prop:=∀ (H1:Hp) (Q:VK) (E:XK),Same H H1->(∀ H',Same H1 H'->E (.ref (cs.getD i 0)) none H')->sp [.ref a,x] H1 Q E
def Zd8 (C:Addr) (cs:List Addr) (sp:Sp):Sp:=λvs H Q _=>∃ (a dx:Addr) (fs:List (Str × V)) (x:V) (j:Nat),vs=[.ref a,x]/\H a=some (.ins C dx fs)/\fs.lookup ("say" : Str)=none/\j<7/\Refs cs sp H a x (kdL.getD j 0) /\
 ∀ F H',H F=none->Same H H'->H' F=some (.lst [.bl true,.str (kdW.getD j "")])->Q (.ref F) H'
abbrev sdN:List Str:=["desk","row","found","e","kinds","others","words"]
theorem sc_said:FnScope sdN ["desk","row"] (Zae ZkS):=⟨rfl,rfl,rfl,by decide +kernel,rfl,by decide +kernel,by decide +kernel⟩
theorem Zok {sp:Sp} (T:Blt mg) (hve:mg "ValueError" = none) (N:Nms mg S cs) (kS:ExcK K S) (kc:DkK K C) (Er:∀ j,j<7->Err K S cs (kdL.getD j 0) (cs.getD (kdL.getD j 0) 0)) (D:Zak K mg "_law_said" ZkS ["desk","row"])
  (M:MtAtX P w K mg base 38 C "say" ["self","row"] sp):FnAt P w K mg base 39 "_law_said" ["desk","row"] (Zd8 C cs sp):=by
 refine FnAt.of D sc_said (λvs H Q E h=>?_) (λf cdv A outer s H vs Q E hr h=>?_)
 ·obtain ⟨a,dx,fs,x,j,rfl,_⟩:=h;rfl
 ·obtain ⟨a,dx,fs,x,j,rfl,ha,hfs,hj,hrf,q⟩:=h;have nd:=sc_said.nd;have er:=Er j hj;obtain ⟨th,hth,hq⟩:∃ th:TS,(∀ v,PSs ((cxOf CX0 P w K mg base sdN "_law_said" (Zae ZkS) f cdv A outer s H E).nox.hand v) (hdlO ((ZaQ ZkS).getD 1 (.Pass ⟨0,0,0,0⟩))) th) /\
    ∀ (e F:Addr) (H':Hp) (D:Ends),H' e=some (excO e (cs.getD (kdL.getD j 0) 0)) ->
     (∀ F2 H2 o4 o5 o6,H' F2=none->Same H' H2->H2 F2=some (.lst [.bl true,.str (kdW.getD j "")])->D.nx [some (.ref a),some x,some (.ref F2),some (.ref e),o4,o5,o6] H2)->th D [some (.ref a),some x,some (.ref F),some (.ref e),none,none,none] H':=by
   refine ⟨_,λv=>Zab (Zau (i:=4) nd rfl (Or.inl rfl) (ZaK (Zaa (pe_b (Za6 K) T.isinst boot_isinstance (Zaa (pv 3) (Zaa (ZaL (v:=.ref _) rfl N.n1 rfl) Zac))) (Zaa (pe_b (Za6 K) T.isinst boot_isinstance (Zaa (pv 3) (Zaa (ZaL (v:=.ref _) rfl N.n7 rfl) Zac))) (Zaa (pe_b (Za6 K) T.isinst boot_isinstance (Zaa (pv 3) (Zaa (ZaL (v:=.ref _) rfl N.n10 rfl) Zac))) Zac)))))
     (Zab (Zau (i:=4) nd rfl (Or.inl rfl) (Zax Zb8 (pv 4) (ZaK (Zaa (pe_b (Za6 K) T.isinst boot_isinstance (Zaa (pv 3) (Zaa (ZaL (v:=.ref _) rfl N.n6 rfl) Zac))) (Zaa (pe_b (Za6 K) T.isinst boot_isinstance (Zaa (pv 3) (Zaa (ZaL (v:=.ref _) rfl N.n11 rfl) Zac))) Zac)))))
     (Zab (Zau (i:=4) nd rfl (Or.inl rfl) (Zax Zb8 (pv 4) (ZaK (Zaa (pe_b (Za6 K) T.isinst boot_isinstance (Zaa (pv 3) (Zaa (ZaL (v:=.ref _) rfl N.n3 rfl) Zac))) (Zaa (pe_b (Za6 K) T.isinst boot_isinstance (Zaa (pv 3) (Zaa (ZaL (v:=.ref _) rfl N.n9 rfl) Zac))) Zac)))))
     (Zab (Zau (i:=5) nd rfl (Or.inl rfl) (pe_b (Ze4 K) T.isinst boot_isinstance (Zaa (pv 3) (Zaa (ZbE (Zaa (ZaL (v:=.ref _) rfl N.n8 rfl) (Zaa (ZaL (v:=.ref _) rfl N.n5 rfl) (Zaa (ZaL (v:=.ref _) rfl N.n2 rfl) (Zaa (ZaL (v:=.ref _) rfl N.n4 rfl) (Zaa (ZaL (v:=.ref _) rfl N.n0 rfl) Zac)))))) Zac))))
     (Zab (Zau (i:=2) nd rfl (Or.inl rfl) (ZaK (Zaa ZbG (Zaa Zam Zac))))
     (Zaf (Zay (PW.pt (Zhb (ZaB (pe_b (Ze5 K) T.isinst boot_isinstance (Zaa (pv 3) (Zaa (ZcJ hve ZdW) Zac)))) (Zhb (ZaE (ZaB (pv 5))) (Zgj (Zap Za4 (ZjC K YaS PySem.F.slot_list_count PySem.F.type_list_count (Zka K) (pv 4) (Zaa ZbG Zac)) Zag (Zaq _))))))
      (Zab (Zau (i:=6) nd rfl (Or.inl rfl) (ZaK (Zaa Zam (Zaa Zam (Zaa Zam (Zaa Zam (Zaa Zam (Zaa Zam (Zaa Zam Zac)))))))))
      (Zaf (Zau (i:=2) nd rfl (Or.inl rfl) (ZaK (Zaa ZbG (Zaa (Zar (ixL K) (pv 6) (ZjC K YaS PySem.F.slot_list_index PySem.F.type_list_index (Zj8 K) (pv 4) (Zaa ZbG Zac)) (λ_ _=>rfl)) Zac)))))) Zah)))))),?_⟩
   intro e F H' D he q;have kk:=er.kit N.len;have hr2:2<=sizeLine:=by decide
   refine ⟨_,rfl,e,_,_,_,rfl,he,er.k,kk 1 (by decide),_,rfl,e,_,_,_,rfl,he,er.k,kk 7 (by decide),_,rfl,e,_,_,_,rfl,he,er.k,kk 10 (by decide),(by show 3<=sizeLine;decide),λl1 h1=>?_⟩;have s1:=Same.new (o:=.lst ((kdB j).take 3 |>.map V.bl)) h1;have e1:(upd H' l1 (.lst ((kdB j).take 3 |>.map V.bl))) l1=some (.lst ((kdB j).take 3 |>.map V.bl)):=Zad;have s1':Same H' (upd H' l1 (.lst [.bl (decide (1=kdL.getD j 0)),.bl (decide (7=kdL.getD j 0)),.bl (decide (10=kdL.getD j 0))])):=s1;have e1':(upd H' l1 (.lst [.bl (decide (1=kdL.getD j 0)),.bl (decide (7=kdL.getD j 0)),.bl (decide (10=kdL.getD j 0))])) l1=some (.lst [.bl (decide (1=kdL.getD j 0)),.bl (decide (7=kdL.getD j 0)),.bl (decide (10=kdL.getD j 0))]):=e1;clear s1 e1;generalize upd H' l1 (.lst [.bl (decide (1=kdL.getD j 0)),.bl (decide (7=kdL.getD j 0)),.bl (decide (10=kdL.getD j 0))])=H2 at s1' e1' ⊢;have he2:=s1' _ _ he;refine ⟨_,rfl,_,rfl,e,_,_,_,rfl,he2,er.k,kk 6 (by decide),_,rfl,e,_,_,_,rfl,he2,er.k,kk 11 (by decide),hr2,λl2 h2=>⟨l1,l2,_,_,rfl,rfl,Same.new h2 _ _ e1',Zad,(by show 5<=sizeLine;decide),λl3 h3=>?_⟩⟩;have s3:Same H2 (upd (upd H2 l2 (.lst [.bl (decide (6=kdL.getD j 0)),.bl (decide (11=kdL.getD j 0))])) l3 (.lst ([.bl (decide (1=kdL.getD j 0)),.bl (decide (7=kdL.getD j 0)),.bl (decide (10=kdL.getD j 0))] ++ [.bl (decide (6=kdL.getD j 0)),.bl (decide (11=kdL.getD j 0))]))):=(Same.new h2).trans (Same.new h3);have e3:(upd (upd H2 l2 (.lst [.bl (decide (6=kdL.getD j 0)),.bl (decide (11=kdL.getD j 0))])) l3 (.lst ([.bl (decide (1=kdL.getD j 0)),.bl (decide (7=kdL.getD j 0)),.bl (decide (10=kdL.getD j 0))] ++ [.bl (decide (6=kdL.getD j 0)),.bl (decide (11=kdL.getD j 0))]))) l3=some (.lst [.bl (decide (1=kdL.getD j 0)),.bl (decide (7=kdL.getD j 0)),.bl (decide (10=kdL.getD j 0)),.bl (decide (6=kdL.getD j 0)),.bl (decide (11=kdL.getD j 0))]):=Zad;generalize upd (upd H2 l2 (.lst [.bl (decide (6=kdL.getD j 0)),.bl (decide (11=kdL.getD j 0))])) l3 (.lst ([.bl (decide (1=kdL.getD j 0)),.bl (decide (7=kdL.getD j 0)),.bl (decide (10=kdL.getD j 0))] ++ [.bl (decide (6=kdL.getD j 0)),.bl (decide (11=kdL.getD j 0))]))=H3 at s3 e3 ⊢;have he3:=s3 _ _ he2;refine ⟨_,rfl,_,rfl,e,_,_,_,rfl,he3,er.k,kk 3 (by decide),_,rfl,e,_,_,_,rfl,he3,er.k,kk 9 (by decide),hr2,λl4 h4=>⟨l3,l4,_,_,rfl,rfl,Same.new h4 _ _ e3,Zad,(by show 7<=sizeLine;decide),λl5 h5=>?_⟩⟩;have s5:Same H3 (upd (upd H3 l4 (.lst [.bl (decide (3=kdL.getD j 0)),.bl (decide (9=kdL.getD j 0))])) l5 (.lst ([.bl (decide (1=kdL.getD j 0)),.bl (decide (7=kdL.getD j 0)),.bl (decide (10=kdL.getD j 0)),.bl (decide (6=kdL.getD j 0)),.bl (decide (11=kdL.getD j 0))] ++ [.bl (decide (3=kdL.getD j 0)),.bl (decide (9=kdL.getD j 0))]))):=(Same.new h4).trans (Same.new h5);have e5:(upd (upd H3 l4 (.lst [.bl (decide (3=kdL.getD j 0)),.bl (decide (9=kdL.getD j 0))])) l5 (.lst ([.bl (decide (1=kdL.getD j 0)),.bl (decide (7=kdL.getD j 0)),.bl (decide (10=kdL.getD j 0)),.bl (decide (6=kdL.getD j 0)),.bl (decide (11=kdL.getD j 0))] ++ [.bl (decide (3=kdL.getD j 0)),.bl (decide (9=kdL.getD j 0))]))) l5=some (.lst ((kdB j).map V.bl)):=Zad;generalize upd (upd H3 l4 (.lst [.bl (decide (3=kdL.getD j 0)),.bl (decide (9=kdL.getD j 0))])) l5 (.lst ([.bl (decide (1=kdL.getD j 0)),.bl (decide (7=kdL.getD j 0)),.bl (decide (10=kdL.getD j 0)),.bl (decide (6=kdL.getD j 0)),.bl (decide (11=kdL.getD j 0))] ++ [.bl (decide (3=kdL.getD j 0)),.bl (decide (9=kdL.getD j 0))]))=H5 at s5 e5 ⊢;have he5:=s5 _ _ he3;have s15:=(s1'.trans s3).trans s5;refine ⟨_,rfl,(by show 5<=sizeLine;decide),λp2 h6=>⟨e,_,p2,[cs.getD 8 0,cs.getD 5 0,cs.getD 2 0,cs.getD 4 0,cs.getD 0 0],false,rfl,Same.new h6 _ _ he5,er.k,SqT.of Zad,ZdJ λd hd=>?_,?_⟩⟩
   ·have ko:=Zkv hj;simp only [YaF,Yax,or_false] at hd;rcases hd with rfl | rfl | rfl | rfl | rfl
    ·rw [kk 8 (by decide),Ya5 (ko 8 (by decide))]
    ·rw [kk 5 (by decide),Ya5 (ko 5 (by decide))]
    ·rw [kk 2 (by decide),Ya5 (ko 2 (by decide))]
    ·rw [kk 4 (by decide),Ya5 (ko 4 (by decide))]
    ·rw [kk 0 (by decide),Ya5 (ko 0 (by decide))]
   have s6:=Same.new (o:=.tup [.ref (cs.getD 8 0),.ref (cs.getD 5 0),.ref (cs.getD 2 0),.ref (cs.getD 4 0),.ref (cs.getD 0 0)]) h6;have e6:=s6 _ _ e5;have he6:=s6 _ _ he5;have s16:=s15.trans s6;generalize upd H5 p2 (.tup [.ref (cs.getD 8 0),.ref (cs.getD 5 0),.ref (cs.getD 2 0),.ref (cs.getD 4 0),.ref (cs.getD 0 0)])=H6 at s6 e6 he6 s16 ⊢;refine ⟨hr2,λp4 h7=>?_⟩;have s7:=Same.new (o:=.lst [.bl true,.str "other"]) h7;have e7:=s7 _ _ e6;have he7:=s7 _ _ he6;have s17:=s16.trans s7;generalize upd H6 p4 (.lst [.bl true,.str "other"])=H7 at s7 e7 he7 s17 ⊢;refine ⟨_,rfl,e,_,_,_,rfl,he7,er.k,er.kv,_,rfl,iteT ⟨_,rfl,_,rfl,iteT ⟨_,rfl,.inl ⟨rfl,_,SqL.of e7⟩,l5,kdB j,rfl,rfl,SqL.of e7,rfl,_,rfl,?_⟩⟩⟩;rw [ZqO hj,show decide (V.int ((1:Nat):Int)=V.int 1)=true from Ya4 rfl];refine iteT ⟨(by show 7<=sizeLine;decide),λp5 h8=>?_⟩;have s8:=Same.new (o:=.lst (kdW.map V.str)) h8;refine ⟨_,rfl,_,rfl,.inl ⟨rfl,_,SqL.of (s8 _ _ e7)⟩,l5,kdB j,j,rfl,rfl,SqL.of (s8 _ _ e7),ZrV hj,Zmr hj,by omega,p5,kdW.map V.str,(j:Int),.str (kdW.getD j ""),rfl,rfl,SqL.of Zad,ZaF (by rw [Yaf,ZoJ hj];rfl),hr2,λp6 h9=>?_⟩;exact q p6 _ _ _ _ (s17.free (s8.free h9)) ((s17.trans s8).trans (Same.new h9)) Zad
  refine ⟨_,Zab (Zau (i:=2) nd rfl (Or.inl rfl) (ZaK (Zaa ZbG (Zaa Zm9 Zac))))
   (Zab (ZpV (i:=3) rfl rfl nd kS N.seek (λpn W R hR=>Zaf (Zc9 (Zjz M kc.cls hr hR (pv 0) (Zaa (pv 1) Zac)) (ZdD (pv 2) Zag ZbO)))
    (λv=>hth v))
   (Zaf (Zal (pv 2)))),?_⟩
  refine ⟨(by show 2<=sizeLine;decide),λF hF=>?_⟩;have sF:=Same.new (o:=.lst [.bl false,.non]) hF;generalize upd H F (.lst [.bl false,.non])=H1 at sF ⊢;refine ⟨_,rfl,a,dx,fs,rfl,sF _ _ ha,hfs,_,rfl,hrf H1 _ _ sF λH' s'=>?_⟩;refine ⟨_,rfl,er.k,er.sk,λe he=>hq e F _ _ Zad λF2 H2 o4 o5 o6 h2 s2 e2=>?_⟩;have sB:=(sF.trans s').trans (Same.new (o:=excO e (cs.getD (kdL.getD j 0) 0)) he);exact ⟨_,rfl,q F2 H2 (sB.free h2) (sB.trans s2) e2⟩
end
open PySem L2 PyProof.Rows
section
variable {P:Program}{w:World}{K:Yab}{mg:Str->Option Value}{base:Heap}{C c:Addr}
theorem ZlD:FnScope ["self"] ["self"] (Zae (ZaC Zb2 1)):=⟨rfl,rfl,rfl,by decide +kernel,rfl,by decide +kernel,by decide +kernel⟩
def Zct (C:Addr):Sp:=λvs H Q _=>∃ (a dx d:Addr) (ts:Ts),vs=[.ref a]/\DeskAt H C a dx d ts/\ts.length<64/\∀ (D:Addr) (ss:List Str),H D=none->ss.Perm (ts.map (·.1))->sortedS ss=true->Q (.ref D) (upd H D (.lst (ss.map V.str)))
theorem Zmo (ts:Ts):(kvs ts).map (·.1)=(ts.map (·.1)).map Sum.inr:=by
 unfold kvs;rw [Yau,Yau];rfl
theorem Zl8 (hso:mg "sorted" = none) (kc:DkK K C) (D:ZaA K C "names" "Desk.names" (ZaC Zb2 1) ["self"]):MtAt P w K mg base 1 C "names" ["self"] (Zct C):=by
 refine MtAt.of D ZlD (λvs H Q E h=>?_) (λf cdv A outer s H vs Q E hr h=>?_)
 ·obtain ⟨a,dx,d,ts,rfl,_⟩:=h;rfl
 ·obtain ⟨a,dx,d,ts,rfl,hd,hn,q⟩:=h;refine ⟨_,Zaf (Zal (pe_b (Zf1 rfl) hso boot_sorted (Zaa (Zbr (pv 0) rfl) Zac))),?_⟩;exact ⟨_,rfl,a,C,dx,_,_,rfl,hd.ob,kc.cls,kc.nt,rfl,d,kvs ts,ts.map (·.1),rfl,hd.D,Zmo ts,by rw [Yaa];exact hn,q⟩
end
open PySem L2 PyProof.Rows
structure StairP (r p:Nat) (ns:List Int):Prop where
 len:ns.length=r
 bd:∀ n∈ns,0<=n/\n<=(p:Int)
 down:∀ i,i+1<ns.length->ns.getD (i+1) 0<=ns.getD i 0
theorem Zhy {ns:List Int}{i:Nat} (h:i<ns.length):ns.reverse.getD i 0=ns.getD (ns.length - 1 - i) 0:=by
 rw [Yat,Yat,List.getElem?_reverse h]
theorem StairP.nf {r p:Nat}{ns:List Int} (h:StairP r p ns):nfB ns.reverse=true:=by
 refine nfB_iff.mpr λi hi=>?_;rw [List.length_reverse] at hi;rw [Zhy (by omega),Zhy hi];have:=h.down (ns.length - 1 - (i+1)) (by omega);rw [show ns.length - 1 - (i+1)+1=ns.length - 1 - i by omega] at this;exact this
open PySem L2 PyProof.Rows
section
variable {P:Program}{w:World}{K:Yab}{mg:Str->Option Value}{base:Heap}
def Zfi:Sp:=λvs H Q _=>∃ (a:Addr) (ns:List Int) (r p:Nat),vs=[.ref a,.int (r:Nat),.int (p:Nat)]/\Row H a ns/\StairP r p ns/\r<=100/\∀ H',Same H H'->Q (.bl true) H'
theorem Zh8:FnScope ["thing","rows","places"] ["thing","rows","places"] (Zae Zdk):=⟨rfl,rfl,rfl,by decide +kernel,rfl,by decide +kernel,by decide +kernel⟩
theorem Zij (T:Blt mg) (hre:mg "reversed" = none) (D:Zak K mg "is_stair" Zdk ["thing","rows","places"]) (G1:FnAt P w K mg base 2 "all_whole" ["things"] (ZcS K)) (G2:FnAt P w K mg base 1 "never_falls" ["numbers"] spNF):FnAt P w K mg base 3 "is_stair" ["thing","rows","places"] Zfi:=by
 refine FnAt.of D Zh8 (λvs H Q E h=>?_) (λf cdv A outer s H vs Q E hr h=>?_)
 ·obtain ⟨a,ns,r,p,rfl,_⟩:=h;rfl
 ·obtain ⟨a,ns,r,p,rfl,hR,hs,hr4,q⟩:=h;have hn:ns.length<=1000:=by rw [hs.len];omega
  have nd1:(["step","places"]:List Str).Nodup:=by decide +kernel
  refine ⟨_,Zab (Zay (PW.pt (Zb1 (ZaE (ZaB (pe_b ZaJ T.isinst boot_isinstance (Zaa (pv 0) (Zaa (ZcJ T.list boot_list) Zac))))) (Zb1 (Zap Zgm (pe_b Zao T.len boot_len (Zaa (pv 0) Zac)) (pv 1) (Zaq _)) (Zby (ZaE (ZaB (pe_f G1 hr (Zaa (pv 0) Zac)))))))) (Zaf (Zal ZbG)) Zah)
   (Zab (Zay (ZaE (ZaB (pe_b (Za0 rfl) T.all boot_all (Zaa (Zaz ["step","places"] [none,some 2] (Zae Zdk) ["thing","rows","places"] rfl (ZaH (pv 0)) (by decide +kernel)
    (λcl C s2 H2 ex=>pg_c 0 nd1) (λcl C s2 H2 ex=>Zaw) (λcl C s2 H2 ex=>Zbg o_le o_le Zag (pv 0) (pv 1))) Zac)))) (Zaf (Zal ZbG)) Zah)
   (Zaf (Zal (pe_f G2 (hr.mono (by decide)) (Zaa (Zic rfl T.list hre (pv 0)) Zac))))),?_⟩
  refine ⟨_,rfl,_,_,_,_,rfl,.lst hR,Zkr _,_,rfl,iteF ⟨_,rfl,a,_,rfl,.inl hR.sq,_,rfl,rfl,_,rfl,?_⟩⟩;rw [Yaa,hs.len,Ya4 rfl];refine iteF ⟨_,rfl,a,ns,rfl,hR,hn,λH1 s1=>⟨_,rfl,iteF ?_⟩⟩;have hR1:=hR.same s1;refine ⟨_,rfl,a,rfl,⟨_,hR1.sq⟩,ZaZ V.int (λ_=>.bl true) hR1.sq (sl6 hn) (λn hx H' Q' sm q'=>?_) λD1 H2 hD1 s2 hDl=>?_⟩
  ·obtain ⟨b1,b2⟩:=hs.bd n hx;refine ⟨_,rfl,_,_,rfl,rfl,_,rfl,?_⟩;rw [Ya4 b1];refine iteT ⟨_,rfl,_,_,rfl,rfl,?_⟩;rw [Ya4 b2];exact q' _ (Same.refl _)
  ·refine ⟨D1,ns.map λ_=>true,rfl,SqL.of (by rw [hDl];simp [Function.comp]),_,rfl,?_⟩;rw [Ze8];have hR2:=hR1.same s2;refine iteF ⟨_,rfl,a,_,rfl,hR2.sq,λp2 hp2=>?_⟩;have r3:Row (upd H2 p2 (.lst (ns.map V.int).reverse)) p2 ns.reverse:=by
    unfold Row;rw [Zad,List.map_reverse]
   refine ⟨p2,ns.reverse,rfl,r3,by rw [List.length_reverse];exact hn,λH3 s3=>?_⟩;rw [hs.nf];exact q H3 (s1.trans (s2.trans ((Same.new hp2).trans s3)))
def Zg4:Sp:=λvs H Q _=>∃ r:Nat,vs=[.int (r:Nat)]/\1<=r/\r<=4/\Q (.bl true) H
theorem Zjm:FnScope ["thing"] ["thing"] (Zae ZdS):=⟨rfl,rfl,rfl,by decide +kernel,rfl,by decide +kernel,by decide +kernel⟩
theorem ZjP (T:Blt mg) (D:Zak K mg "is_side" ZdS ["thing"]) (G:FnAt P w K mg base 1 "is_whole" ["thing"] Zbi):FnAt P w K mg base 2 "is_side" ["thing"] Zg4:=by
 refine FnAt.of D Zjm (λvs H Q E h=>?_) (λf cdv A outer s H vs Q E hr h=>?_)
 ·obtain ⟨r,rfl,_⟩:=h;rfl
 ·obtain ⟨r,rfl,h1,h4,q⟩:=h;obtain ⟨tk,ms⟩:=T.ms;refine ⟨_,Zaf (Zal (ZbY (pe_f G hr (Zaa (pv 0) Zac)) (ZbF (Zbg o_le o_le Zag (pv 0) (ZaL (v:=.int 4) rfl ms ⟨_,rfl⟩))))),?_⟩;refine ⟨_,rfl,_,rfl,_,rfl,iteT ⟨_,rfl,_,_,rfl,rfl,_,rfl,?_⟩⟩;rw [Ya4 (show (1:Int)<=(r:Nat) by omega)];refine iteT ⟨_,_,rfl,rfl,?_⟩;rw [Ya4 (show ((r:Nat):Int)<=4 by omega)];exact q
def ZcR:Sp:=λvs H Q _=>∃ r p:Nat,vs=[.int (r:Nat),.int (p:Nat)]/\1<=r/\r<=4/\1<=p/\p<=4/\Q .non H
theorem Zgg:FnScope ["r","p"] ["r","p"] (Zae Zcb):=⟨rfl,rfl,rfl,by decide +kernel,rfl,by decide +kernel,by decide +kernel⟩
theorem Zgs (D:Zak K mg "need_size" Zcb ["r","p"]) (G:FnAt P w K mg base 2 "is_side" ["thing"] Zg4):FnAt P w K mg base 3 "need_size" ["r","p"] ZcR:=by
 refine FnAt.of D Zgg (λvs H Q E h=>?_) (λf cdv A outer s H vs Q E hr h=>?_)
 ·obtain ⟨r,p,rfl,_⟩:=h;rfl
 ·obtain ⟨r,p,rfl,h1,h2,h3,h4,q⟩:=h;refine ⟨_,Zaf (Zay (PW.pt (Zb1 (ZaE (ZaB (pe_f G hr (Zaa (pv 0) Zac)))) (Zby (ZaE (ZaB (pe_f G hr (Zaa (pv 1) Zac))))))) Zaj Zah),?_⟩;exact ⟨_,rfl,r,rfl,h1,h2,_,rfl,iteF ⟨_,rfl,p,rfl,h3,h4,_,rfl,iteF q⟩⟩
def Zjh:Sp:=λvs H Q _=>∃ (a b:Addr) (ls hs:List Int),vs=[.ref a,.ref b]/\Row H a ls/\Row H b hs/\ls.length=hs.length/\ls.length<=100/\(∀ i,i<ls.length->ls.getD i 0<=hs.getD i 0)/\∀ H',Same H H'->Q (.bl true) H'
theorem ZlJ:FnScope ["low","high"] ["low","high"] (Zae ZhP):=⟨rfl,rfl,rfl,by decide +kernel,rfl,by decide +kernel,by decide +kernel⟩
theorem Zmf (T:Blt mg) (hzip:mg "zip" = none) (D:Zak K mg "is_at_no_row_above" ZhP ["low","high"]):FnAt P w K mg base 1 "is_at_no_row_above" ["low","high"] Zjh:=by
 refine FnAt.of D ZlJ (λvs H Q E h=>?_) (λf cdv A outer s H vs Q E hr h=>?_)
 ·obtain ⟨a,b,ls,hs,rfl,_⟩:=h;rfl
 ·obtain ⟨a,b,ls,hs,rfl,hA,hB,hl,hn,hle,q⟩:=h;have nd1:(["lower","higher"]:List Str).Nodup:=by decide +kernel
  refine ⟨_,Zaf (Zal (pe_b (Za0 rfl) T.all boot_all (Zaa (Zaz ["lower","higher"] [none,none] (Zae ZhP) ["low","high"] rfl (ZpY rfl hzip (Zaa (pv 0) (Zaa (pv 1) Zac))) (by decide +kernel)
    (λcl C s2 H2 ex=>Zn2 K rfl nd1) (λcl C s2 H2 ex=>Zaw) (λcl C s2 H2 ex=>Zbn o_le (pv 0) (pv 1) (Zaq _))) Zac))),?_⟩
  refine ⟨_,rfl,_,rfl,a,b,rfl,⟨_,hA.sq⟩,⟨_,hB.sq⟩,ZkY (λ_=>.bl true) hA.sq hB.sq hl (by omega) (λi hi H' Q' sm q'=>?_) λD1 H2 hD1 s2 hDl=>?_⟩
  ·refine ⟨_,rfl,_,rfl,_,_,rfl,rfl,?_⟩;rw [Ya4 (hle i hi)];exact q' _ (Same.refl _)
  ·refine ⟨D1,(List.range ls.length).map λ_=>true,rfl,SqL.of (by rw [hDl];simp [Function.comp]),?_⟩;rw [Ze8];exact q H2 s2
structure TwoSt (r p:Nat) (ls hs:List Int):Prop where
 lo:StairP r p ls
 hi:StairP r p hs
 le:∀ i,i<r->ls.getD i 0<=hs.getD i 0
def Zc6:Sp:=λvs H Q _=>∃ (r p:Nat) (a b:Addr) (ls hs:List Int),vs=[.int (r:Nat),.int (p:Nat),.ref a,.ref b]/\r<=4/\Row H a ls/\Row H b hs/\TwoSt r p ls hs/\∀ H',Same H H'->Q .non H'
theorem Zem:FnScope ["r","p","low","high"] ["r","p","low","high"] (Zae ZcA):=⟨rfl,rfl,rfl,by decide +kernel,rfl,by decide +kernel,by decide +kernel⟩
theorem Zez (D:Zak K mg "need_stairs" ZcA ["r","p","low","high"]) (G1:FnAt P w K mg base 3 "is_stair" ["thing","rows","places"] Zfi) (G2:FnAt P w K mg base 1 "is_at_no_row_above" ["low","high"] Zjh):FnAt P w K mg base 4 "need_stairs" ["r","p","low","high"] Zc6:=by
 refine FnAt.of D Zem (λvs H Q E h=>?_) (λf cdv A outer s H vs Q E hr h=>?_)
 ·obtain ⟨r,p,a,b,ls,hs,rfl,_⟩:=h;rfl
 ·obtain ⟨r,p,a,b,ls,hs,rfl,h4,hA,hB,hS,q⟩:=h;refine ⟨_,Zaf (Zay (PW.pt (Zb1 (ZaE (ZaB (pe_f G1 hr (Zaa (pv 2) (Zaa (pv 0) (Zaa (pv 1) Zac)))))) (Zb1 (ZaE (ZaB (pe_f G1 hr (Zaa (pv 3) (Zaa (pv 0) (Zaa (pv 1) Zac)))))) (Zby (ZaE (ZaB (pe_f G2 (hr.mono (by decide)) (Zaa (pv 2) (Zaa (pv 3) Zac))))))))) Zaj Zah),?_⟩;exact ⟨_,rfl,_,rfl,_,rfl,a,ls,r,p,rfl,hA,hS.lo,by omega,λH1 s1=>⟨_,rfl,iteF ⟨_,rfl,_,rfl,_,rfl,b,hs,r,p,rfl,hB.same s1,hS.hi,by omega,λH2 s2=>⟨_,rfl,iteF ⟨_,rfl,_,rfl,a,b,ls,hs,rfl,(hA.same s1).same s2,(hB.same s1).same s2,by rw [hS.lo.len,hS.hi.len],by rw [hS.lo.len];omega,λi hi=>hS.le i (by rw [<- hS.lo.len];exact hi),λH3 s3=>⟨_,rfl,iteF (q H3 (s1.trans (s2.trans s3)))⟩⟩⟩⟩⟩⟩
def opnB (ls hs:List Int) (i j:Nat):Bool:=decide (ls.getD i 0<=(j:Int)) && decide ((j:Int)<hs.getD i 0)
def Zdw:Sp:=λvs H Q _=>∃ (a b c:Addr) (ls hs:List Int) (i j:Nat),vs=[.ref a,.ref b,.ref c]/\Row H a ls/\Row H b hs/\Cell H c i j/\i<ls.length/\i<hs.length/\Q (.bl (opnB ls hs i j)) H
theorem Zgh:FnScope ["low","high","cell"] ["low","high","cell"] (Zae ZdR):=⟨rfl,rfl,rfl,by decide +kernel,rfl,by decide +kernel,by decide +kernel⟩
theorem ZfA (D:Zak K mg "is_left_open" ZdR ["low","high","cell"]):FnAt P w K mg base 1 "is_left_open" ["low","high","cell"] Zdw:=by
 refine FnAt.of D Zgh (λvs H Q E h=>?_) (λf cdv A outer s H vs Q E hr h=>?_)
 ·obtain ⟨a,b,c,ls,hs,i,j,rfl,_⟩:=h;rfl
 ·obtain ⟨a,b,c,ls,hs,i,j,rfl,hA,hB,hC,i1,i2,q⟩:=h;refine ⟨_,Zaf (Zal (Zbg o_le o_lt (Zar Zan (pv 0) (Zar ZbJ (pv 2) Zag (λ_ _=>rfl)) (λ_ _=>rfl)) (Zar ZbJ (pv 2) Zag (λ_ _=>rfl)) (Zar Zan (pv 1) (Zar ZbJ (pv 2) Zag (λ_ _=>rfl)) (λ_ _=>rfl)))),?_⟩;refine ⟨_,rfl,_,rfl,c,_,0,.int (i:Nat),rfl,rfl,SqT.of hC,rfl,a,_,_,.int (ls.getD i 0),rfl,rfl,hA.sq,ZdY i1,_,rfl,c,_,1,.int (j:Nat),rfl,rfl,SqT.of hC,rfl,_,_,rfl,rfl,_,rfl,?_⟩;unfold opnB at q
  by_cases h1:ls.getD i 0<=(j:Int)
  ·rw [Ya4 h1] at q ⊢;refine iteT ⟨_,rfl,_,rfl,c,_,0,.int (i:Nat),rfl,rfl,SqT.of hC,rfl,b,_,_,.int (hs.getD i 0),rfl,rfl,hB.sq,ZdY i2,_,_,rfl,rfl,?_⟩;rw [Bool.true_and] at q;exact q
  ·rw [Ya5 h1] at q ⊢;rw [Bool.false_and] at q;exact iteF q
end
end Seek
namespace Seek
def lsI (w c o:Nat):Bool:=decide (o / w<c / w) || decide (o % w<c % w)
def mrI (w c o:Nat):Bool:=decide (c / w<o / w) || decide (c % w<o % w)
def minN:List Nat->Nat
 | []=>0
 | [a]=>a
 |a :: b :: r=>min a (minN (b :: r))
theorem Zkd:∀ {L:List Nat}{a:Nat},a∈L->minN L<=a
 | [],_,h=>nomatch h
 | [x],a,h=>by
  have:a=x:=by simpa using h
  subst this;exact Yag _
 |x :: y :: r,a,h=>by
  rcases YaF.mp h with z | z
  ·subst z;exact Nat.min_le_left _ _
  ·exact Yay (Nat.min_le_right _ _) (Zkd z)
theorem Zhp:∀ {L:List Nat},L≠[]->minN L∈L
 | [],h=>absurd rfl h
 | [x],_=>by simp [minN]
 |x :: y :: r,_=>by
  have ih:minN (y :: r)∈y :: r:=Zhp (by simp);unfold minN;rcases Nat.le_total x (minN (y :: r)) with z | z
  ·rw [Nat.min_eq_left z];exact .head _
  ·rw [Nat.min_eq_right z];exact .tail _ ih
theorem ZoC {L:List Nat}{M:Nat} (h:M∈L) (hm:∀ a∈L,M<=a):M=minN L :=
 Nat.le_antisymm (hm _ (Zhp (λz=>by rw [z] at h;nomatch h))) (Zkd h)
def fwN (w:Nat):Nat->List Nat->Nat
 | 0,_=>0
 |n+1,L=>minN (L.map λc=>1+max (fwN w n (L.filter (lsI w c))) (fwN w n (L.filter (mrI w c))))
theorem ZoF {w c:Nat}{L:List Nat} (h:c∈L):(L.filter (lsI w c)).length<L.length:=List.length_filter_lt_length_iff_exists.mpr ⟨c,h,by simp [lsI]⟩
theorem Zoy {w c:Nat}{L:List Nat} (h:c∈L):(L.filter (mrI w c)).length<L.length:=List.length_filter_lt_length_iff_exists.mpr ⟨c,h,by simp [mrI]⟩
theorem ZeN (w n:Nat):fwN w n []=0:=by cases n <;> simp [fwN,minN]
theorem ZfR (w:Nat):∀ (n m:Nat) (L:List Nat),L.length<=n->L.length<=m->fwN w n L=fwN w m L
 | 0,m,L,h,_=>by
  have:L=[]:=List.length_eq_zero_iff.mp (by omega);rw [this,ZeN,ZeN]
 |n+1,0,L,_,h=>by
  have:L=[]:=List.length_eq_zero_iff.mp (by omega);rw [this,ZeN,ZeN]
 |n+1,m+1,L,h1,h2=>by
  unfold fwN;refine congrArg minN (List.map_congr_left λc hc=>?_);have a1:=ZoF (w:=w) hc;have a2:=Zoy (w:=w) hc;rw [ZfR w n m _ (by omega) (by omega),ZfR w n m _ (by omega) (by omega)]
def fw (w:Nat) (L:List Nat):Nat:=fwN w L.length L
def thr (w:Nat) (L:List Nat) (c:Nat):Nat:=1+max (fw w (L.filter (lsI w c))) (fw w (L.filter (mrI w c)))
theorem ZqY (w:Nat):fw w []=0:=rfl
theorem Zr4 (w:Nat) (L:List Nat):fw w L=minN (L.map (thr w L)):=by
 unfold fw;rw [ZfR w L.length (L.length+1) L (Yag _) (Nat.le_succ _)];unfold fwN;refine congrArg minN (List.map_congr_left λc hc=>?_);have a1:=ZoF (w:=w) hc;have a2:=Zoy (w:=w) hc;unfold thr fw;rw [ZfR w L.length _ _ (by omega) (Yag _),ZfR w L.length _ (L.filter (mrI w c)) (by omega) (Yag _)]
def ZaU (n m:Nat):List Nat:=(List.range n).filter λi=>m.testBit i
theorem Zf4 (n m:Nat):(ZaU n m).length<=n:=by
 have:=Ybm (λi=>m.testBit i) (List.range n);rw [List.length_range] at this;exact this
theorem mem_bitsN {n m i:Nat}:i∈ZaU n m ↔ i<n/\m.testBit i=true:=by
 unfold ZaU;rw [List.mem_filter,List.mem_range]
theorem Zk7 (n m k:Nat):ZaU n (m &&& k)=(ZaU n m).filter λi=>k.testBit i:=by
 unfold ZaU;rw [List.filter_filter]
 congr 1
 funext i
 rw [Nat.testBit_and,Bool.and_comm]
theorem Zei {n m k:Nat}{q:Nat->Bool} (h:∀ i,i<n->k.testBit i=q i):ZaU n (m &&& k)=(ZaU n m).filter q:=by
 rw [Zk7];refine List.filter_congr λi hi=>h i (mem_bitsN.mp hi).1
theorem ZiE (n:Nat):ZaU n 0=[]:=by
 unfold ZaU;rw [List.filter_eq_nil_iff];intro i _;simp
def msum (n:Nat) (S:Nat->Bool):Nat:=(((List.range n).filter S).map λi=>2 ^ i).sum
theorem ZfF (n:Nat) (S:Nat->Bool):msum (n+1) S=msum n S+if S n then 2 ^ n else 0:=by
 unfold msum;rw [List.range_succ,List.filter_append,Yah,List.sum_append]
 congr 1
 by_cases h:S n=true
 ·rw [Ya7 h,List.filter_cons,Ya7 h];simp
 ·rw [Ya6 h,List.filter_cons,Ya6 h];simp
theorem Zgv (S:Nat->Bool):∀ n,msum n S<2 ^ n
 | 0=>by simp [msum]
 |n+1=>by
  rw [ZfF,Nat.pow_succ];have:=Zgv S n;split <;> omega
theorem Zdh (S:Nat->Bool):∀ n i,(msum n S).testBit i=(decide (i<n) && S i)
 | 0,i=>by simp [msum]
 |n+1,i=>by
  rw [ZfF];have hl:=Zgv S n;have ih:=Zdh S n;rcases Nat.lt_trichotomy i n with z | z | z
  ·rw [Ya4 (show i<n+1 by omega)];split
   ·rw [Nat.add_comm,Nat.testBit_two_pow_add_gt z,ih i,Ya4 z]
   ·rw [Nat.add_zero,ih i,Ya4 z]
  ·subst z;rw [Ya4 (show i<i+1 by omega)];split
   ·rename_i h
    rw [Nat.add_comm,Nat.testBit_two_pow_add_eq,Nat.testBit_lt_two_pow hl,h];rfl
   ·rename_i h
    rw [Nat.add_zero,Nat.testBit_lt_two_pow hl];simp at h;rw [h];rfl
  ·rw [Ya5 (show ¬ i<n+1 by omega),Bool.false_and];refine Nat.testBit_lt_two_pow (Yan (m:=2 ^ (n+1)) ?_ (Nat.pow_le_pow_right (by decide) z));rw [Nat.pow_succ];split <;> omega
theorem ZiF (n:Nat) (S:Nat->Bool):ZaU n (msum n S)=(List.range n).filter S:=by
 unfold ZaU;refine List.filter_congr λi hi=>?_;rw [Zdh,Ya4 (List.mem_range.mp hi),Bool.true_and]
theorem Zo4 {m i:Nat}:(m &&& 2 ^ i=0)=(m.testBit i=false):=by
 apply propext;constructor
 ·intro h;have:=congrArg (λz=>z.testBit i) h;simp only [Nat.testBit_and,Nat.testBit_two_pow_self,Bool.and_true,Nat.zero_testBit] at this;exact this
 ·intro h;apply Nat.eq_of_testBit_eq;intro j;rw [Nat.testBit_and,Nat.testBit_two_pow,Nat.zero_testBit]
  by_cases e:i=j
  ·subst e;rw [h];rfl
  ·rw [Ya5 e,Bool.and_false]
open PySem L2 PyProof.Rows
section
variable {P:Program}{w:World}{K:Yab}{mg:Str->Option Value}{base:Heap}
end
end Seek
namespace Seek
theorem ZqE:∀ (N:Nat) (l:List Nat),l.Nodup->(∀ x∈l,x<N)->l.length<=N
 | 0,[],_,_=>Yag _
 | 0,x :: r,_,h=>absurd (h x (.head _)) (by omega)
 |N+1,l,hn,h=>by
  have h1:=ZqE N (l.filter λx=>decide (x≠N)) (hn.filter _) (λx hx=>by
   have:=List.mem_filter.mp hx;have h2:=h x this.1;have h3:x≠N:=by simpa using this.2
   omega)
  have h2:(l.filter λx=>!decide (x≠N)).length<=1:=by
   have hn2:(l.filter λx=>!decide (x≠N)).Nodup:=hn.filter _;have hm:∀ x∈l.filter (λx=>!decide (x≠N)),x=N:=λx hx=>by simpa using (List.mem_filter.mp hx).2
   generalize l.filter (λx=>!decide (x≠N))=q at hn2 hm
   match q,hn2,hm with
   | [],_,_=>exact YaH _
   | [_],_,_=>exact Yag _
   |a :: b :: r,hn2,hm =>
    exfalso;have e1:=hm a (.head _);have e2:=hm b (.tail _ (.head _));have:=(Yba.mp hn2).1;exact this (by rw [e1,<- e2];exact .head _)
  have h3:=List.length_eq_countP_add_countP (λx=>decide (x≠N)) (l:=l);rw [List.countP_eq_length_filter,List.countP_eq_length_filter] at h3;have e:(l.filter λx=>decide ¬decide (x≠N)=true)=l.filter λx=>!decide (x≠N):=by
   congr 1
   funext x
   by_cases z:x=N <;> simp [z]
  rw [e] at h3;omega
theorem Zk6 {n m:Nat} (hm:m<2 ^ n) (h:ZaU n m=[]):m=0:=by
 apply Nat.eq_of_testBit_eq;intro i;rw [Nat.zero_testBit]
 by_cases hi:i<n
 ·cases e:m.testBit i with
  |false=>rfl
  |true =>
   have:i∈ZaU n m:=mem_bitsN.mpr ⟨hi,e⟩;rw [h] at this
   nomatch this
 ·exact Nat.testBit_lt_two_pow (Yan hm (Nat.pow_le_pow_right (by decide) (by omega)))
theorem Znt {m k n:Nat} (h:m<2 ^ n):m &&& k<2 ^ n:=YaZ Nat.and_le_left h
theorem Zr3 {w:Nat}{L:List Nat}{b:Nat} (h1:∀ c∈L,b<=thr w L c) (h2:∃ c∈L,b=thr w L c):b=fw w L:=by
 rw [Zr4];obtain ⟨c,hc,e⟩:=h2;refine ZoC (Yar.mpr ⟨c,hc,e.symm⟩) λa ha=>?_;obtain ⟨c',hc',rfl⟩:=Yar.mp ha;exact h1 c' hc'
open PySem L2 PyProof.Rows
def But1 (s:Addr) (H H':Hp):Prop:=∀ b o,b≠s->H b=some o->H' b=some o
theorem But1.refl (s:Addr) (H:Hp):But1 s H H:=λ_ _ _ e=>e
theorem But1.trans {s:Addr}{H H1 H2:Hp} (a:But1 s H H1) (b:But1 s H1 H2):But1 s H H2:=λc o n e=>b c o n (a c o n e)
structure Kno (w n:Nat) (kvs:List (Key × V)):Prop where
 nd:(kvs.map (·.1)).Nodup
 ok:∀ k v,valV kvs k=some v->∃ m:Nat,k=.inl (m:Int)/\m<2 ^ n/\v=.int ((fw w (ZaU n m):Nat):Int)
theorem Zlf {kvs:List (Key × V)}{p:Key × V} (h:p∈kvs):∃ v,valV kvs p.1=some v:=by
 cases e:valV kvs p.1 with
 |some v=>exact ⟨v,rfl⟩
 |none=>exact absurd (Yar.mpr ⟨p,h,rfl⟩) (ZgO e)
theorem Kno.len {w n:Nat}{kvs:List (Key × V)} (h:Kno w n kvs):kvs.length<=2 ^ n:=by
 have f:∀ p∈kvs,∃ m:Nat,p.1=.inl (m:Int)/\m<2 ^ n:=λp hp=>by
  obtain ⟨v,e⟩:=Zlf hp;obtain ⟨m,h1,h2,_⟩:=h.ok _ _ e;exact ⟨m,h1,h2⟩
 let g:Key->Nat:=λk=>match k with | .inl i=>i.toNat | .inr _=>0
 have hg:∀ p∈kvs,p.1=.inl ((g p.1:Nat):Int)/\g p.1<2 ^ n:=λp hp=>by
  obtain ⟨m,h1,h2⟩:=f p hp;have:g p.1=m:=by rw [h1];exact Yav m
  rw [this];exact ⟨h1,h2⟩
 have h1:((kvs.map (·.1)).map g).Nodup:=by
  refine List.pairwise_map.mpr (List.Pairwise.imp_of_mem ?_ h.nd);intro a b ha hb hne e;obtain ⟨p,hp,rfl⟩:=Yar.mp ha;obtain ⟨q,hq,rfl⟩:=Yar.mp hb;exact hne (by rw [(hg p hp).1,(hg q hq).1,e])
 have:=ZqE (2 ^ n) _ h1 (λx hx=>by
  obtain ⟨k,hk,rfl⟩:=Yar.mp hx;obtain ⟨p,hp,rfl⟩:=Yar.mp hk
  exact (hg p hp).2)
 rw [Yaa,Yaa] at this;exact this
theorem Kno.put' {w n m:Nat}{kvs:List (Key × V)} (h:Kno w n kvs) (hm:m<2 ^ n):Kno w n (putK kvs (.inl (m:Int)) (.int ((fw w (ZaU n m):Nat):Int))):=by
 refine ⟨?_,λk v e=>?_⟩
 ·cases hv:valV kvs (.inl (m:Int)) with
  |none=>exact Zox _ h.nd hv
  |some v =>
   have:(putK kvs (.inl (m:Int)) (.int ((fw w (ZaU n m):Nat):Int))).map (·.1)=kvs.map (·.1):=by
    unfold putK;rw [Ya7 (by rw [Zbw,hv];rfl),Yau];refine List.map_congr_left λp hp=>?_;show (if p.1=_ then _ else p).1=p.1;split <;> rfl
   rw [this];exact h.nd
 ·rw [Zdf] at e
  by_cases hk:k=.inl (m:Int)
  ·rw [Ya7 hk] at e;cases e;exact ⟨m,hk,hm,rfl⟩
  ·rw [Ya6 hk] at e;exact h.ok k v e
section
variable {P:Program}{w:World}{K:Yab}{mg:Str->Option Value}{base:Heap}
end
open PySem L2 PyProof.Rows
section
variable {P:Program}{w:World}{K:Yab}{mg:Str->Option Value}{base:Heap}
theorem Zeb {k:Nat}{A:Around} (r:Room k A):A.units+1<cLine:=YaZ (Nat.add_le_add_left (by decide:1<=64) _) r.units
end
open PySem L2 PyProof.Rows
theorem ZoM {tc:TT}{t u:TS}{D:Ends}{σ0:L2.St}{H0:Hp} (C:(L2.St->Hp->Prop)->Prop) (h:C (u D)) (hA:C (u D)->tc σ0 H0 (λb H1=>if b=true then t { D with nx:=u D } σ0 H1 else u D σ0 H1)):tSeq (tIfS tc t Zpl) u D σ0 H0:=hA h
open PySem L2 PyProof.Rows
theorem ZfV {o:Obj}{d:Addr}{kvs:List (List Key × V)}{σ0:L2.St}{H1:Hp}{tc:TT}{te:TE}{Q:VK} (p:Nat->Bool) (R:Nat->V->Hp->Prop) (hq:H1 d=some (.frz o (.dT kvs))) (hn:kvs.length<=1000)
  (hR:∀ i y H H',Same H H'->R i y H->R i y H') (hU:∀ i y H D ys u,H D=some (.lst ys)->R i y H->R i y (upd H D u))
  (ht:∀ i ks v b,kvs[i]? = some (ks,v)->∀ H',Same H1 H'->H' b=some (.tup (ks.map kV))->PuT tc (σ0.set 0 (some (.ref b))) H' (p i))
  (he:∀ i ks v b,kvs[i]? = some (ks,v)->p i=true->∀ (H':Hp) (Q':VK),Same H1 H'->H' b=some (.tup (ks.map kV))->(∀ y H'',Same H' H''->R i y H''->Q' y H'')->te (σ0.set 0 (some (.ref b))) H' Q')
  (fin:∀ D H' (zs:List (Nat × V)),H1 D=none->Same H1 H'->H' D=some (.lst (zs.map (·.2)))->zs.map (·.1)=(List.range kvs.length).filter p->(∀ z∈zs,R z.1 z.2 H')->Q (.ref D) H'):ZaR (Itd o d kvs) (ZaT 0) tc te σ0 H1 Q:=by
 intro D hD;refine ZbU (n:=kvs.length) (λi ys H'=>∃ zs:List (Nat × V),Same H1 H'/\H' D=some (.lst ys)/\ys=zs.map (·.2)/\zs.map (·.1)=(List.range i).filter p/\∀ z∈zs,R z.1 z.2 H')
  ⟨[],Same.new hD,Zad,rfl,rfl,λz hz=>nomatch hz⟩ (λi ys H' _ ⟨_,_,h,_⟩=>h) (λi ys H' hi ⟨_,sm,_⟩=>⟨sm _ _ hq,hi⟩) (λys H' ⟨_,sm,_⟩=>⟨sm _ _ hq,Yag _⟩) ?_ ?_
 ·rintro i ys H' x H2 hi ⟨zs,sm,hDl,rfl,hz1,hzR⟩ ⟨rfl,b,ks,v,hk,rfl,hb⟩;refine ht i ks v b hk H2 sm hb H2 _ (Same.refl _) λH4 s4=>?_;cases hp:p i with
  |false =>
   refine iteF ⟨zs,sm.trans s4,s4 _ _ hDl,rfl,?_,λz hz=>hR _ _ _ _ s4 (hzR z hz)⟩;rw [hz1,List.range_succ,List.filter_append,List.filter_cons,hp];simp
  |true =>
   refine iteT (he i ks v b hk hp H4 _ (sm.trans s4) (s4 _ _ hb) λy H5 s5 hy=>⟨s5 _ _ (s4 _ _ hDl),?_,zs ++ [(i,y)],((sm.trans s4).trans s5).upd hD,Zad,?_,?_,λz hz=>?_⟩)
   ·rw [Yaa];have e:=congrArg List.length hz1;rw [Yaa] at e;have e2:=Ybm p (List.range i);rw [List.length_range] at e2;exact ZaD (by omega)
   ·rw [Yah];rfl
   ·rw [Yah,hz1,List.range_succ,List.filter_append,List.filter_cons,hp];simp
   ·refine hU _ _ _ _ _ _ (s5 _ _ (s4 _ _ hDl)) ?_;rcases YaG.mp hz with z1 | z1
    ·exact hR _ _ _ _ (s4.trans s5) (hzR z z1)
    ·have e:z=(i,y):=by simpa using z1
     subst e;exact hy
 ·rintro ys H' ⟨zs,sm,hDl,rfl,hz1,hzR⟩;exact fin D H' zs hD sm hDl hz1 hzR
theorem Zc2 {o:Obj}{d:Addr}{kvs:List (List Key × V)}{σ0:L2.St}{H1:Hp}{tc:TT}{te:TE}{Q:VK} (p:Nat->Bool) (f:Nat->V) (hq:H1 d=some (.frz o (.dT kvs))) (hn:kvs.length<=1000)
  (ht:∀ i ks v b,kvs[i]? = some (ks,v)->∀ H',Same H1 H'->H' b=some (.tup (ks.map kV))->PuT tc (σ0.set 0 (some (.ref b))) H' (p i))
  (he:∀ i ks v b,kvs[i]? = some (ks,v)->∀ H',Same H1 H'->H' b=some (.tup (ks.map kV))->Pu te (σ0.set 0 (some (.ref b))) H' (f i))
  (fin:∀ D H',H1 D=none->Same H1 H'->H' D=some (.lst (((List.range kvs.length).filter p).map f))->Q (.ref D) H'):ZaR (Itd o d kvs) (ZaT 0) tc te σ0 H1 Q :=
 ZfV p (λi y _=>y=f i) hq hn (λ_ _ _ _ _ h=>h) (λ_ _ _ _ _ _ _ h=>h) ht (λi ks v b hk _ H' Q' sm hb q'=>he i ks v b hk H' sm hb H' Q' (Same.refl _) λH'' s=>q' _ _ s rfl)
  λD H' zs hD sm hDl hz hR=>fin D H' hD sm (by
   rw [hDl,<- hz,Yau]
   congr 2
   exact List.map_congr_left λz hz=>hR z hz)
def Zcl (p i:Nat):List Key:=[.inl ((i / p:Nat):Int),.inl ((i % p:Nat):Int)]
def Za8 (p n:Nat):List (List Key × V):=(List.range n).map λi=>(Zcl p i,V.int ((2 ^ i:Nat):Int))
theorem Zba (p n:Nat):(Za8 p n).length=n:=by
 unfold Za8;rw [Yaa,List.length_range]
theorem Zbt {p n i:Nat}{ks:List Key}{v:V} (h:(Za8 p n)[i]? = some (ks,v)):i<n/\ks=Zcl p i/\v=.int ((2 ^ i:Nat):Int):=by
 unfold Za8 at h;rw [Yaf] at h
 by_cases hi:i<n
 ·rw [List.getElem?_range hi] at h;have h:=Yae h;injection h with h1 h2;exact ⟨hi,h1.symm,h2.symm⟩
 ·rw [List.getElem?_eq_none (by rw [List.length_range];omega)] at h;cases h
theorem ZfM {p i j:Nat} (h:Zcl p i=Zcl p j):i=j:=by
 unfold Zcl at h;injection h with h1 h2;injection h2 with h2 _;have h1:=Sum.inl.inj h1;have h2:=Sum.inl.inj h2;have a:i / p=j / p:=by omega
 have b:i % p=j % p:=by omega
 rw [<- Nat.div_add_mod i p,<- Nat.div_add_mod j p,a,b]
theorem ZiG (p n:Nat):valV (Za8 p n) (Zcl p n)=none:=by
 cases e:valV (Za8 p n) (Zcl p n) with
 |none=>rfl
 |some v =>
  have:=Znx e;unfold Za8 at this;rw [Yau] at this;obtain ⟨i,hi,e2⟩:=Yar.mp this;have:=ZfM e2;have:=List.mem_range.mp hi;omega
theorem ZdX (p n:Nat):putK (Za8 p n) (Zcl p n) (.int ((2 ^ n:Nat):Int))=Za8 p (n+1):=by
 rw [Zep _ (ZiG p n)];unfold Za8;rw [List.range_succ,Yah];rfl
theorem Zcj {p n i:Nat} (h:i<n):valV (Za8 p n) (Zcl p i)=some (.int ((2 ^ i:Nat):Int)):=by
 induction n with
 |zero=>omega
 |succ n ih =>
  rw [<- ZdX,Zdf]
  by_cases e:i=n
  ·subst e;rw [Ya7 rfl]
  ·rw [Ya6 (λz=>e (ZfM z))];exact ih (by omega)
section
variable {P:Program}{w:World}{K:Yab}{mg:Str->Option Value}{base:Heap}
def Zg7:Sp:=λvs H Q _=>∃ r p:Nat,vs=[.int (r:Nat),.int (p:Nat)]/\r<=4/\1<=p/\p<=4/\∀ d H',H d=none->Same H H'->H' d=some (.dT (Za8 p (r * p)))->Q (.ref d) H'
theorem sc_bitsOf:FnScope ["r","p","bits","bit","row","place"] ["r","p"] (Zae ZgF):=⟨rfl,rfl,rfl,by decide +kernel,rfl,by decide +kernel,by decide +kernel⟩
theorem ZjY (T:Blt mg) (D:Zak K mg "bits_of_cells" ZgF ["r","p"]):FnAt P w K mg base 1 "bits_of_cells" ["r","p"] Zg7:=by
 refine FnAt.of D sc_bitsOf (λvs H Q E h=>?_) (λf cdv A outer s H vs Q E hr h=>?_)
 ·obtain ⟨r,p,rfl,_⟩:=h;rfl
 ·obtain ⟨r,p,rfl,r4,p1,p4,q⟩:=h;have nd:=sc_bitsOf.nd;have hu1:=Zeb hr;refine ⟨_,Zab (Zau (i:=2) nd rfl (Or.inl rfl) ZlV)
   (Zab (Zau (i:=3) nd rfl (Or.inl rfl) Zag)
   (Zab (Zcq PassesOwn.never rfl (ZcI rfl T.rng (Zaa (pv 0) Zac)) (Za3 (i:=4) nd rfl (Or.inl rfl))
    (Zaf (Zcq PassesOwn.never rfl (ZcI rfl T.rng (Zaa (pv 1) Zac)) (Za3 (i:=5) nd rfl (Or.inl rfl))
     (Zab (Zer hu1 (pv 2) (ZbE (Zaa (pv 4) (Zaa (pv 5) Zac))) (pv 3) rfl)
     (Zaf (Zjs (i:=3) nd rfl (Or.inl rfl) (pv 3) ZoK))))))
   (Zaf (Zal (pv 2))))),?_⟩
  intro bd hbd;have e0:(upd H bd (.dT [])) bd=some (.dT []):=Zad;have s0:Same H (upd H bd (.dT [])):=Same.new hbd;generalize upd H bd (.dT [])=H0 at e0 s0 ⊢;refine ⟨_,rfl,_,rfl,by omega,by omega,ZdO (λi σ H2=>∃ (o4 o5:Option V),σ = [some (.int (r:Nat)),some (.int (p:Nat)),some (.ref bd),some (.int ((2 ^ (i * p):Nat):Int)),o4,o5]/\Same H H2/\H2 bd=some (.dT (Za8 p (i * p)))) ⟨none,none,by rw [Nat.zero_mul];rfl,s0,by rw [Nat.zero_mul];exact e0⟩ ?_ ?_⟩
  ·rintro i σ H2 hi ⟨o4,o5,rfl,sm,eD⟩;refine ⟨_,rfl,_,rfl,by omega,by omega,ZdO (λj σ H2=>∃ (o5:Option V),σ = [some (.int (r:Nat)),some (.int (p:Nat)),some (.ref bd),some (.int ((2 ^ (i * p+j):Nat):Int)),some (.int (0+(i:Nat))),o5]/\Same H H2/\H2 bd=some (.dT (Za8 p (i * p+j)))) ⟨o5,rfl,sm,eD⟩ ?_ ?_⟩
   ·rintro j σ H3 hj ⟨o5,rfl,sm,eD⟩;rw [Yav] at hj;refine ⟨_,rfl,_,rfl,_,rfl,_,rfl,len2,λtb htb=>?_⟩;have ed:(upd H3 tb (.tup [.int (0+(i:Nat)),.int (0+(j:Nat))])) bd=some (.dT (Za8 p (i * p+j))):=(Same.new htb) _ _ eD;have et:(upd H3 tb (.tup [.int (0+(i:Nat)),.int (0+(j:Nat))])) tb=some (.tup ((Zcl p (i * p+j)).map kV)):=by
     have a:(i * p+j) / p=i:=by rw [Nat.mul_comm,Nat.mul_add_div (by omega),Nat.div_eq_of_lt hj,Nat.add_zero]
     have b:(i * p+j) % p=j:=by rw [Nat.mul_comm,Nat.mul_add_mod,Nat.mod_eq_of_lt hj]
     rw [Zad];unfold Zcl;rw [a,b,Int.zero_add,Int.zero_add];rfl
    have smt:Same H (upd H3 tb (.tup [.int (0+(i:Nat)),.int (0+(j:Nat))])):=sm.trans (Same.new htb);generalize upd H3 tb (.tup [.int (0+(i:Nat)),.int (0+(j:Nat))])=H4 at ed et smt ⊢;refine ⟨bd,_,rfl,DPut.t ed et (by rw [Zba];have:=Nat.mul_le_mul_right p (show i<=4 by omega);exact ZaD (by omega)),?_⟩;refine ⟨_,rfl,_,rfl,_,_,rfl,rfl,?_⟩;refine ⟨some (.int (0+(j:Nat))),?_,smt.upd hbd,by rw [Zad,ZdX];rfl⟩;show [some (V.int (r:Nat)),some (.int (p:Nat)),some (.ref bd),some (.int (((2 ^ (i * p+j):Nat):Int)+((2 ^ (i * p+j):Nat):Int))),some (.int (0+(i:Nat))),some (.int (0+(j:Nat)))]=_;rw [show ((2 ^ (i * p+j):Nat):Int)+((2 ^ (i * p+j):Nat):Int)=((2 ^ (i * p+(j+1)):Nat):Int) by rw [<- Nat.add_assoc,Nat.pow_succ];omega]
   ·rintro σ H3 ⟨o5,rfl,sm,eD⟩;rw [Yav] at *;refine ⟨some (.int (0+(i:Nat))),o5,?_,sm,by rw [eD,Nat.succ_mul]⟩;rw [Nat.succ_mul]
  ·rintro σ H2 ⟨o4,o5,rfl,sm,eD⟩;exact ⟨_,rfl,q bd H2 hbd sm eD⟩
end
open PySem L2 PyProof.Rows
theorem ZgT (g:Nat->Nat):∀ L:List Nat,(L.map λi=>((g i:Nat):Int)).sum=(((L.map g).sum:Nat):Int)
 | []=>rfl
 |a :: r=>by
  rw [Yaw,List.sum_cons,ZgT g r,Yaw,List.sum_cons];omega
theorem ZbI (n:Nat) (S:Nat->Bool):((((List.range n).filter S).map λi=>V.int ((2 ^ i:Nat):Int))=(((List.range n).filter S).map λi=>((2 ^ i:Nat):Int)).map V.int)/\(((List.range n).filter S).map λi=>((2 ^ i:Nat):Int)).sum=((msum n S:Nat):Int) :=
 ⟨by rw [Yau];rfl,ZgT (λi=>2 ^ i) _⟩
theorem ZhM {a b:Nat}:decide ((a:Int)<(b:Int))=decide (a<b):=by
 by_cases h:a<b
 ·rw [Ya4 h,Ya4 (by omega)]
 ·rw [Ya5 h,Ya5 (by omega)]
section
variable {P:Program}{w:World}{K:Yab}{mg:Str->Option Value}{base:Heap}
def spBy (S:Nat->Nat->Nat->Bool):Sp:=λvs H Q _=>∃ (d c:Addr) (o:Obj) (p n i:Nat),vs=[.ref d,.ref c]/\H d=some (.frz o (.dT (Za8 p n)))/\n<=16/\H c=some (.tup ((Zcl p i).map kV))/\∀ H',Same H H'->Q (.int ((msum n (S p i):Nat):Int)) H'
theorem Zjo:FnScope ["bits","cell"] ["bits","cell"] (Zae Ze2):=⟨rfl,rfl,rfl,by decide +kernel,rfl,by decide +kernel,by decide +kernel⟩
theorem ZnW:FnScope ["bits","cell"] ["bits","cell"] (Zae ZmE):=⟨rfl,rfl,rfl,by decide +kernel,rfl,by decide +kernel,by decide +kernel⟩
theorem key0 {p i:Nat}:atI ((Zcl p i).map kV) 0=some (.int ((i / p:Nat):Int)):=rfl
theorem key1 {p i:Nat}:atI ((Zcl p i).map kV) 1=some (.int ((i % p:Nat):Int)):=rfl
theorem ZjX (hsum:mg "sum" = none) (D:Zak K mg "left_by_less" Ze2 ["bits","cell"]):FnAt P w K mg base 1 "left_by_less" ["bits","cell"] (spBy lsI):=by
 refine FnAt.of D Zjo (λvs H Q E h=>?_) (λf cdv A outer s H vs Q E hr h=>?_)
 ·obtain ⟨d,c,o,p,n,i,rfl,_⟩:=h;rfl
 ·obtain ⟨d,c,o,p,n,i,rfl,hd,hn,hc,q⟩:=h;have nd1:(["other","bits","cell"]:List Str).Nodup:=by decide +kernel
  have hu1:=Zeb hr;refine ⟨_,Zaf (Zal (pe_b (Zdo rfl) hsum boot_sum (Zaa (Zaz ["other","bits","cell"] [none,some 0,some 1] (Zae Ze2) ["bits","cell"] rfl (Zes (pv 0)) (by decide +kernel)
   (λcl C s2 H2 ex=>pg_c 0 nd1) (λcl C s2 H2 ex=>Zce (PW.pt (Zb1 (Zap o_lt (Zar (ixT K) (pv 0) Zag (λ_ _=>rfl)) (Zar (ixT K) (pv 2) Zag (λ_ _=>rfl)) (Zaq _)) (Zby (Zap o_lt (Zar (ixT K) (pv 0) Zag (λ_ _=>rfl)) (Zar (ixT K) (pv 2) Zag (λ_ _=>rfl)) (Zaq _))))))
   (λcl C s2 H2 ex=>ZbC hu1 (pv 1) (pv 0) (λ_ _=>rfl))) Zac))),?_⟩
  refine ⟨_,rfl,d,_,rfl,.inr ⟨o,hd,Zc2 (lsI p i) (λj=>V.int ((2 ^ j:Nat):Int)) hd (by rw [Zba];omega) (λj ks v b hj H1 s1 hb H2 Q2 s2 q2=>?_) (λj ks v b hj H1 s1 hb H2 Q2 s2 q2=>?_) λD H' hD sm hDl=>?_⟩⟩
  ·obtain ⟨hj1,rfl,rfl⟩:=Zbt hj;refine ⟨_,rfl,b,_,0,_,rfl,rfl,SqT.of (s2 _ _ hb),key0,_,rfl,c,_,0,_,rfl,rfl,SqT.of ((s1.trans s2) _ _ hc),key0,_,_,rfl,rfl,_,rfl,?_⟩;have q3:=q2 H2 (Same.refl _);unfold lsI at q3;rw [ZhM]
   by_cases h1:j / p<i / p
   ·rw [Ya4 h1] at q3 ⊢;exact iteT q3
   ·rw [Ya5 h1,Bool.false_or] at q3;rw [Ya5 h1];refine iteF ⟨_,rfl,b,_,1,_,rfl,rfl,SqT.of (s2 _ _ hb),key1,_,rfl,c,_,1,_,rfl,rfl,SqT.of ((s1.trans s2) _ _ hc),key1,_,_,rfl,rfl,_,rfl,?_⟩;rw [ZhM];exact q3
  ·obtain ⟨hj1,rfl,rfl⟩:=Zbt hj;refine ⟨_,rfl,_,rfl,d,_,rfl,?_,q2 H2 (Same.refl _)⟩;exact .inr ⟨_,_,b,.inr ⟨o,(s1.trans s2) _ _ hd⟩,rfl,s2 _ _ hb,(Zcj hj1).symm⟩
  ·rw [Zba,(ZbI n (lsI p i)).1] at hDl;refine ⟨D,_,rfl,SqL.of hDl,?_⟩;rw [(ZbI n (lsI p i)).2];exact q H' sm
theorem Zoq (hsum:mg "sum" = none) (D:Zak K mg "left_by_greater" ZmE ["bits","cell"]):FnAt P w K mg base 1 "left_by_greater" ["bits","cell"] (spBy mrI):=by
 refine FnAt.of D ZnW (λvs H Q E h=>?_) (λf cdv A outer s H vs Q E hr h=>?_)
 ·obtain ⟨d,c,o,p,n,i,rfl,_⟩:=h;rfl
 ·obtain ⟨d,c,o,p,n,i,rfl,hd,hn,hc,q⟩:=h;have nd1:(["other","bits","cell"]:List Str).Nodup:=by decide +kernel
  have hu1:=Zeb hr;refine ⟨_,Zaf (Zal (pe_b (Zdo rfl) hsum boot_sum (Zaa (Zaz ["other","bits","cell"] [none,some 0,some 1] (Zae ZmE) ["bits","cell"] rfl (Zes (pv 0)) (by decide +kernel)
   (λcl C s2 H2 ex=>pg_c 0 nd1) (λcl C s2 H2 ex=>Zce (PW.pt (Zb1 (Zap o_gt (Zar (ixT K) (pv 0) Zag (λ_ _=>rfl)) (Zar (ixT K) (pv 2) Zag (λ_ _=>rfl)) (Zaq _)) (Zby (Zap o_gt (Zar (ixT K) (pv 0) Zag (λ_ _=>rfl)) (Zar (ixT K) (pv 2) Zag (λ_ _=>rfl)) (Zaq _))))))
   (λcl C s2 H2 ex=>ZbC hu1 (pv 1) (pv 0) (λ_ _=>rfl))) Zac))),?_⟩
  refine ⟨_,rfl,d,_,rfl,.inr ⟨o,hd,Zc2 (mrI p i) (λj=>V.int ((2 ^ j:Nat):Int)) hd (by rw [Zba];omega) (λj ks v b hj H1 s1 hb H2 Q2 s2 q2=>?_) (λj ks v b hj H1 s1 hb H2 Q2 s2 q2=>?_) λD H' hD sm hDl=>?_⟩⟩
  ·obtain ⟨hj1,rfl,rfl⟩:=Zbt hj;refine ⟨_,rfl,b,_,0,_,rfl,rfl,SqT.of (s2 _ _ hb),key0,_,rfl,c,_,0,_,rfl,rfl,SqT.of ((s1.trans s2) _ _ hc),key0,_,_,rfl,rfl,_,rfl,?_⟩;have q3:=q2 H2 (Same.refl _);unfold mrI at q3;rw [ZhM]
   by_cases h1:i / p<j / p
   ·rw [Ya4 h1] at q3 ⊢;exact iteT q3
   ·rw [Ya5 h1,Bool.false_or] at q3;rw [Ya5 h1];refine iteF ⟨_,rfl,b,_,1,_,rfl,rfl,SqT.of (s2 _ _ hb),key1,_,rfl,c,_,1,_,rfl,rfl,SqT.of ((s1.trans s2) _ _ hc),key1,_,_,rfl,rfl,_,rfl,?_⟩;rw [ZhM];exact q3
  ·obtain ⟨hj1,rfl,rfl⟩:=Zbt hj;refine ⟨_,rfl,_,rfl,d,_,rfl,?_,q2 H2 (Same.refl _)⟩;exact .inr ⟨_,_,b,.inr ⟨o,(s1.trans s2) _ _ hd⟩,rfl,s2 _ _ hb,(Zcj hj1).symm⟩
  ·rw [Zba,(ZbI n (mrI p i)).1] at hDl;refine ⟨D,_,rfl,SqL.of hDl,?_⟩;rw [(ZbI n (mrI p i)).2];exact q H' sm
end
end Seek
namespace L2
open PySem PySem.Spec PyProof.Rows
theorem Zev {X:Cx}{e:Expr}{ta:TE}{f:Str}{pos:Pos} (K:Yab) (he:PE X e ta) (hb:attributeBase e f X.env (eval e X.env)=eval e X.env) (hK:X.K=K:=by rfl):PE X (.Attribute e f pos) (tFld K ta f):=by
 subst hK;exact Zbr he hb
end L2
namespace Seek
open PySem L2 PyProof.Rows
structure RkC (K:Yab) (C:Addr):Prop where
 cls:Cls K C
 nb:NoAttr K C "bits"
 nl:NoAttr K C "looks"
 nk:NoAttr K C "known"
abbrev rkF (db dl dk:Addr):List (Str × V):=[("bits", .ref db),("looks", .ref dl),("known", .ref dk)]
structure Rk (H:Hp) (C a dx db dl dk:Addr) (o:Obj) (p n:Nat) (qs:List (Addr × Addr)) (kvs:List (Key × V)):Prop where
 ob:H a=some (.ins C dx (rkF db dl dk))
 hb:H db=some (.frz o (.dT (Za8 p n)))
 hl:H dl=some (.lst (qs.map λq=>V.ref q.1))
 ln:qs.length=n
 hq:∀ i q,qs[i]? = some q->H q.1=some (.tup [.ref q.2,.int ((msum n (lsI p i):Nat):Int),.int ((msum n (mrI p i):Nat):Int)])/\H q.2=some (.tup ((Zcl p i).map kV))
 hk:H dk=some (.dK kvs)
 kn:Kno p n kvs
 kz:(valV kvs (.inl 0)).isSome=true
 n16:n<=16
theorem Rk.same {H H':Hp}{C a dx db dl dk:Addr}{o:Obj}{p n:Nat}{qs:List (Addr × Addr)}{kvs:List (Key × V)} (h:Rk H C a dx db dl dk o p n qs kvs) (s:Same H H'):Rk H' C a dx db dl dk o p n qs kvs :=
 ⟨s _ _ h.ob,s _ _ h.hb,s _ _ h.hl,h.ln,λi q hi=>let ⟨h1,h2⟩:=h.hq i q hi;⟨s _ _ h1,s _ _ h2⟩,s _ _ h.hk,h.kn,h.kz,h.n16⟩
theorem Rk.but {H H':Hp}{C a dx db dl dk:Addr}{o:Obj}{p n:Nat}{qs:List (Addr × Addr)}{kvs kvs':List (Key × V)} (h:Rk H C a dx db dl dk o p n qs kvs) (b:But1 dk H H') (e:H' dk=some (.dK kvs')) (k:Kno p n kvs') (kz:(valV kvs' (.inl 0)).isSome=true):Rk H' C a dx db dl dk o p n qs kvs':=by
 have f:∀ {x:Addr}{u:HO},H x=some u->(∀ kv,u≠.dK kv)->H' x=some u:=λ{x u} hx hu=>b _ _ (λz=>by
  rw [z,h.hk] at hx
  exact hu _ (Yae hx).symm) hx
 exact ⟨f h.ob (λ_ z=>by cases z),f h.hb (λ_ z=>by cases z),f h.hl (λ_ z=>by cases z),h.ln,λi q hi=>let ⟨h1,h2⟩:=h.hq i q hi;⟨f h1 (λ_ z=>by cases z),f h2 (λ_ z=>by cases z)⟩,e,k,kz,h.n16⟩
section
variable {P:Program}{w:World}{K:Yab}{mg:Str->Option Value}{base:Heap}{C:Addr}
theorem sc_rInit:FnScope ["self","r","p"] ["self","r","p"] (Zae (ZaC Zat 0)):=⟨rfl,rfl,rfl,by decide +kernel,rfl,by decide +kernel,by decide +kernel⟩
def kn0:List (Key × V):=[(.inl 0,.int 0)]
theorem ZqH (p n:Nat):Kno p n kn0:=by
 refine ⟨by unfold kn0;simp,λk v e=>?_⟩;unfold kn0 at e
 by_cases hk:(Sum.inl 0:Key)=k
 ·rw [Za9 hk] at e;cases e;exact ⟨0,hk.symm,Nat.pow_pos (by decide),by rw [ZiE,ZqY];rfl⟩
 ·rw [ZaY hk,Zle] at e;cases e
def Zi8 (C:Addr):Sp:=λvs H Q _=>∃ (a dx:Addr) (r p:Nat),vs=[.ref a,.int (r:Nat),.int (p:Nat)]/\H a=some (.ins C dx [])/\r<=4/\1<=p/\p<=4 /\
 ∀ db dl dk o qs H',But1 a H H'->H db=none->H dl=none->H dk=none->Rk H' C a dx db dl dk o p (r * p) qs kn0->Q .non H'
theorem Zl7 (kc:RkC K C) (D:ZaA K C "__init__" "Reckoning.__init__" (ZaC Zat 0) ["self","r","p"]) (G1:FnAt P w K mg base 1 "bits_of_cells" ["r","p"] Zg7) (G2:FnAt P w K mg base 1 "left_by_less" ["bits","cell"] (spBy lsI)) (G3:FnAt P w K mg base 1 "left_by_greater" ["bits","cell"] (spBy mrI)) :
  MtAt P w K mg base 2 C "__init__" ["self","r","p"] (Zi8 C):=by
 refine MtAt.of D sc_rInit (λvs H Q E h=>?_) (λf cdv A outer s H vs Q E hr h=>?_)
 ·obtain ⟨a,dx,r,p,rfl,_⟩:=h;rfl
 ·obtain ⟨a,dx,r,p,rfl,ea,r4,p1,p4,q⟩:=h;have nd:=sc_rInit.nd;have nd1:(["cell","self"]:List Str).Nodup:=by decide +kernel
  refine ⟨_,Zab (Zhe (pv 0) (pe_f G1 hr (Zaa (pv 1) (Zaa (pv 2) Zac))) rfl)
   (Zab (Zhe (pv 0) (Zaz ["cell","self"] [none,some 0] (Zae (ZaC Zat 0)) ["self","r","p"] rfl (Zes (Zbr (pv 0) rfl)) (by decide +kernel)
    (λcl C s2 H2 ex=>pg_c 0 nd1) (λcl C s2 H2 ex=>Zaw) (λcl C s2 H2 ex=>ZbE (Zaa (pv 0) (Zaa (pe_f G2 hr (Zaa (Zev K (pv 1) rfl) (Zaa (pv 0) Zac))) (Zaa (pe_f G3 hr (Zaa (Zev K (pv 1) rfl) (Zaa (pv 0) Zac))) Zac))))) rfl)
   (Zaf (Zhe (pv 0) (ZjA (Zhf Zag Zag Zjt) rfl rfl (List.cons_ne_nil _ _) (show 1<=15 by decide)) rfl))),?_⟩
  refine ⟨_,rfl,_,rfl,r,p,rfl,r4,p1,p4,λdb H1 hdb s1 e1=>?_⟩;refine ⟨_,rfl,a,C,dx,[],rfl,s1 _ _ ea,kc.cls,kc.nb,by decide,?_⟩;have nba:db≠a:=λz=>by rw [z,ea] at hdb;cases hdb
  have k2:∀ b o,b≠a->H1 b=some o->(upd H1 a (.ins C dx (putF "bits" (.ref db) []))) b=some o:=λb o n e=>by rw [Zai n];exact e
  have e2:(upd H1 a (.ins C dx (putF "bits" (.ref db) []))) a=some (.ins C dx [("bits", .ref db)]):=Zad;have d2:=k2 _ _ nba e1;generalize upd H1 a (.ins C dx (putF "bits" (.ref db) []))=H2 at k2 e2 d2 ⊢;have B2:But1 a H H2:=λb o n e=>k2 b o n (s1 _ _ e);refine ⟨_,rfl,a,C,dx,_,_,rfl,e2,kc.cls,kc.nb,rfl,db,_,rfl,.inl ⟨d2,λo=>?_⟩⟩;have f3:(upd H2 db (.frz o (.dT (Za8 p (r * p))))) db=some (.frz o (.dT (Za8 p (r * p)))):=Zad;have e3:(upd H2 db (.frz o (.dT (Za8 p (r * p))))) a=some (.ins C dx [("bits", .ref db)]):=by rw [Zai (Ne.symm nba)];exact e2
  have B3:But1 a H (upd H2 db (.frz o (.dT (Za8 p (r * p))))):=λb u n e=>by
   rw [Zai (λz=>by rw [z,hdb] at e;cases e)];exact B2 b u n e
  have free3:∀ x,(upd H2 db (.frz o (.dT (Za8 p (r * p))))) x=none->x≠a->H x=none:=λx hx n=>by
   cases e:H x with
   |none=>rfl
   |some u=>rw [B3 x u n e] at hx;cases hx
  generalize upd H2 db (.frz o (.dT (Za8 p (r * p))))=H3 at f3 e3 B3 free3 ⊢;have hn:r * p<=16:=by
   have:=Nat.mul_le_mul r4 p4;omega
  refine ZfV (λ_=>true) (λi y H'=>∃ q b:Addr,y=.ref q/\H' q=some (.tup [.ref b,.int ((msum (r * p) (lsI p i):Nat):Int),.int ((msum (r * p) (mrI p i):Nat):Int)])/\H' b=some (.tup ((Zcl p i).map kV))) f3 (by rw [Zba];omega)
   (λi y H4 H5 s5 ⟨q,b,h1,h2,h3⟩=>⟨q,b,h1,s5 _ _ h2,s5 _ _ h3⟩) (λi y H4 D ys u hD ⟨q,b,h1,h2,h3⟩=>⟨q,b,h1,by rw [Zai (λz=>by rw [z,hD] at h2;cases h2)];exact h2,by rw [Zai (λz=>by rw [z,hD] at h3;cases h3)];exact h3⟩)
   (λi ks v b _ H4 _ _=>Zhc) (λi ks v b hk _ H4 Q4 s4 hb q4=>?_) λDl H4 zs hDl s4 eDl hz hzR=>?_
  ·obtain ⟨hi,rfl,rfl⟩:=Zbt hk;refine ⟨_,rfl,_,rfl,a,C,dx,_,_,rfl,s4 _ _ e3,kc.cls,kc.nb,rfl,_,rfl,db,b,o,p,r * p,i,rfl,s4 _ _ f3,hn,hb,λH5 s5=>?_⟩;refine ⟨_,rfl,a,C,dx,_,_,rfl,s5 _ _ (s4 _ _ e3),kc.cls,kc.nb,rfl,_,rfl,db,b,o,p,r * p,i,rfl,s5 _ _ (s4 _ _ f3),hn,s5 _ _ hb,λH6 s6=>?_⟩;refine ⟨len3,λt ht=>q4 _ _ ((s5.trans s6).trans (Same.new ht)) ⟨t,b,rfl,Zad,?_⟩⟩;exact (Same.new ht) _ _ (s6 _ _ (s5 _ _ hb))
  ·have hzl:zs.map (·.1)=List.range (r * p):=by
    rw [hz,Zba];exact List.filter_eq_self.mpr λ_ _=>rfl
   have nDa:Dl≠a:=λz=>by rw [z,e3] at hDl;cases hDl
   refine ⟨_,rfl,a,C,dx,_,rfl,s4 _ _ e3,kc.cls,kc.nl,(by show 1<1000;decide),?_⟩;have k5:∀ b u,b≠a->H4 b=some u->(upd H4 a (.ins C dx (putF "looks" (.ref Dl) [("bits", .ref db)]))) b=some u:=λb u n e=>by rw [Zai n];exact e
   have e5:(upd H4 a (.ins C dx (putF "looks" (.ref Dl) [("bits", .ref db)]))) a=some (.ins C dx [("bits", .ref db),("looks", .ref Dl)]):=Zad;generalize upd H4 a (.ins C dx (putF "looks" (.ref Dl) [("bits", .ref db)]))=H5 at k5 e5 ⊢;have B5:But1 a H H5:=λb u n e=>k5 b u n (s4 _ _ (B3 b u n e));intro dk hdk;refine ⟨Zad,[(.inl 0,.int 0)],rfl,by decide,?_⟩;have nka:dk≠a:=λz=>by rw [z,e5] at hdk;cases hdk
   have s6:Same H5 (upd (upd H5 dk (.dK [])) dk (.dK (ZbZ [] [(.inl 0,.int 0)]))):=((Same.refl H5).upd hdk).upd hdk;have e6:(upd (upd H5 dk (.dK [])) dk (.dK (ZbZ [] [(.inl 0,.int 0)]))) dk=some (.dK kn0):=Zad;generalize upd (upd H5 dk (.dK [])) dk (.dK (ZbZ [] [(.inl 0,.int 0)]))=H6 at s6 e6 ⊢;refine ⟨_,rfl,a,C,dx,_,rfl,s6 _ _ e5,kc.cls,kc.nk,(by show 2<1000;decide),?_⟩;have k7:∀ b u,b≠a->H6 b=some u->(upd H6 a (.ins C dx (putF "known" (.ref dk) [("bits", .ref db),("looks", .ref Dl)]))) b=some u:=λb u n e=>by rw [Zai n];exact e
   have na:∀ {x:Addr}{u:HO},H4 x=some u->(∀ fs,u≠.ins C dx fs)->x≠a:=λ{x u} hx hu z=>by
    rw [z,s4 _ _ e3] at hx;exact hu _ (Yae hx).symm
   have up:∀ {x:Addr}{u:HO},H4 x=some u->(∀ fs,u≠.ins C dx fs)->(upd H6 a (.ins C dx (putF "known" (.ref dk) [("bits", .ref db),("looks", .ref Dl)]))) x=some u:=λ{x u} hx hu=>k7 _ _ (na hx hu) (s6 _ _ (k5 _ _ (na hx hu) hx));have hdk0:H dk=none:=by
    cases e:H dk with
    |none=>rfl
    |some u=>rw [B5 dk u nka e] at hdk;cases hdk
   refine q db Dl dk o (zs.map λz=>match z.2 with | .ref q=>(q,match H4 q with | some (.tup (.ref b :: _))=>b | _=>0) | _=>(0,0)) _ (λb u n e=>k7 b u n (s6 _ _ (B5 b u n e))) hdb (free3 Dl hDl nDa) hdk0 ⟨Zad,up (s4 _ _ f3) (λ_ z=>by cases z),?_,?_,?_,k7 _ _ nka e6,ZqH _ _,rfl,hn⟩
   ·rw [up eDl (λ_ z=>by cases z),Yau]
    congr 2
    refine List.map_congr_left λz hz'=>?_;obtain ⟨q,b,h1,_⟩:=hzR z hz';show z.2=_;simp only [Function.comp,h1]
   ·rw [Yaa];have:=congrArg List.length hzl;rw [Yaa,List.length_range] at this;exact this
   ·intro i q' hi;rw [Yaf] at hi;cases ez:zs[i]? with
    |none=>rw [ez] at hi;cases hi
    |some z =>
     rw [ez] at hi;have hi:=Yae hi;have hz':=YaP ez;obtain ⟨q,b,h1,h2,h3⟩:=hzR z hz';have e1:z.1=i:=by
      have h5:(zs.map (·.1))[i]? = some z.1:=by rw [Yaf,ez];rfl
      rw [hzl] at h5;have h6:=(Yai.mp h5);obtain ⟨h7,h8⟩:=h6;rw [List.getElem_range] at h8;exact h8.symm
     rw [e1] at h2 h3;have e2:q'=(q,b):=by
      rw [<- hi];simp only [h1,h2]
     subst e2;exact ⟨up h2 (λ_ z=>by cases z),up h3 (λ_ z=>by cases z)⟩
end
end Seek
namespace L2
open PySem PySem.Spec PyProof.Rows
def tI (t:TE):TT:=λσ H Q=>t σ H λx H1=>∃ i:Int,x=.int i/\Q (i != 0) H1
theorem ZpT {X:Cx}{e:Expr}{t:TE} (h:PE X e t) (he:∀ whole,isTrue e X.env whole=(do let v <- whole;standAt e.pos;holding [v] (truthy v)):=by intro _;rfl):PT X e (tI t):=by
 intro pins s σ H Q I hw;refine isTrue_plain (thn (h pins s σ H _ I hw) λv s1 ⟨x,H1,I1,r1,q1⟩=>?_) (he _);obtain ⟨i,rfl,q⟩:=q1;obtain ⟨t,rfl⟩:=r1;exact PySem.P.truthy_int ⟨H1,I1,q⟩
end L2
namespace Seek
open PySem L2 PyProof.Rows
theorem ZiI (m i:Nat):((((m:Int).toNat &&& ((2 ^ i:Nat):Int).toNat:Nat):Int) != 0)=m.testBit i:=by
 rw [Yav,Yav];have h:=Zo4 (m:=m) (i:=i);cases e:m.testBit i with
 |false =>
  rw [e] at h;rw [show m &&& 2 ^ i=0 from by rw [h]];rfl
 |true =>
  rw [e] at h;have h2:m &&& 2 ^ i≠0:=by rw [Ne,h];simp
  rw [bne_iff_ne];omega
section
variable {P:Program}{w:World}{K:Yab}{mg:Str->Option Value}{base:Heap}{C:Addr}
def Zjb (C:Addr):Sp:=λvs H Q _=>∃ (a dx db dl dk la lb:Addr) (o:Obj) (r p:Nat) (qs:List (Addr × Addr)) (kvs:List (Key × V)) (ls hs:List Int),vs=[.ref a,.ref la,.ref lb]/\Rk H C a dx db dl dk o p (r * p) qs kvs/\Row H la ls/\Row H lb hs/\ls.length=r/\hs.length=r /\
 ∀ H',Same H H'->Q (.int ((msum (r * p) (λi=>opnB ls hs (i / p) (i % p)):Nat):Int)) H'
theorem ZlE:FnScope ["self","low","high"] ["self","low","high"] (Zae (ZaC Zat 1)):=⟨rfl,rfl,rfl,by decide +kernel,rfl,by decide +kernel,by decide +kernel⟩
theorem Zl9 (hsum:mg "sum" = none) (kc:RkC K C) (D:ZaA K C "left_between" "Reckoning.left_between" (ZaC Zat 1) ["self","low","high"]) (G:FnAt P w K mg base 1 "is_left_open" ["low","high","cell"] Zdw):MtAt P w K mg base 2 C "left_between" ["self","low","high"] (Zjb C):=by
 refine MtAt.of D ZlE (λvs H Q E h=>?_) (λf cdv A outer s H vs Q E hr h=>?_)
 ·obtain ⟨a,dx,db,dl,dk,la,lb,o,r,p,qs,kvs,ls,hs,rfl,_⟩:=h;rfl
 ·obtain ⟨a,dx,db,dl,dk,la,lb,o,r,p,qs,kvs,ls,hs,rfl,R,hA,hB,hla,hlb,q⟩:=h;have nd1:(["cell","high","low","self"]:List Str).Nodup:=by decide +kernel
  have hu1:=Zeb hr;refine ⟨_,Zaf (Zal (pe_b (Zdo rfl) hsum boot_sum (Zaa (Zaz ["cell","high","low","self"] [none,some 2,some 1,some 0] (Zae (ZaC Zat 1)) ["self","low","high"] rfl (Zes (Zbr (pv 0) rfl)) (by decide +kernel)
   (λcl C s2 H2 ex=>pg_c 0 nd1) (λcl C s2 H2 ex=>Zce (ZaB (pe_f G hr (Zaa (pv 2) (Zaa (pv 1) (Zaa (pv 0) Zac)))))) (λcl C s2 H2 ex=>ZbC hu1 (Zev K (pv 3) rfl) (pv 0) (λ_ _=>rfl))) Zac))),?_⟩
  refine ⟨_,rfl,a,C,dx,_,_,rfl,R.ob,kc.cls,kc.nb,rfl,db,_,rfl,.inr ⟨o,R.hb,Zc2 (λi=>opnB ls hs (i / p) (i % p)) (λj=>V.int ((2 ^ j:Nat):Int)) R.hb (by rw [Zba];have:=R.n16;omega) (λj ks v b hj H1 s1 hb H2 Q2 s2 q2=>?_) (λj ks v b hj H1 s1 hb H2 Q2 s2 q2=>?_) λD H' hD sm hDl=>?_⟩⟩
  ·obtain ⟨hj1,rfl,rfl⟩:=Zbt hj;have hjr:j / p<r:=Nat.div_lt_of_lt_mul (by rw [Nat.mul_comm];exact hj1);exact ⟨_,rfl,_,rfl,_,rfl,la,lb,b,ls,hs,j / p,j % p,rfl,(hA.same s1).same s2,(hB.same s1).same s2,s2 _ _ hb,by omega,by omega,_,rfl,q2 H2 (Same.refl _)⟩
  ·obtain ⟨hj1,rfl,rfl⟩:=Zbt hj;refine ⟨_,rfl,a,C,dx,_,_,rfl,(s1.trans s2) _ _ R.ob,kc.cls,kc.nb,rfl,_,rfl,db,_,rfl,?_,q2 H2 (Same.refl _)⟩;exact .inr ⟨_,_,b,.inr ⟨o,(s1.trans s2) _ _ R.hb⟩,rfl,s2 _ _ hb,(Zcj hj1).symm⟩
  ·rw [Zba,(ZbI (r * p) _).1] at hDl;refine ⟨D,_,rfl,SqL.of hDl,?_⟩;rw [(ZbI (r * p) _).2];exact q H' sm
abbrev ZfG (qs:List (Addr × Addr)) (i:Nat):Addr:=(qs.getD i (0,0)).1
theorem ZeF {qs:List (Addr × Addr)}{i:Nat} (h:i<qs.length):qs[i]? = some (qs.getD i (0,0)):=by
 rw [Yat,Yac h];rfl
theorem Zki {qs:List (Addr × Addr)}{n:Nat} (h:qs.length=n):(qs.map λq=>V.ref q.1)=(List.range n).map λi=>V.ref (ZfG qs i):=by
 apply List.ext_getElem?;intro i;rw [Yaf,Yaf]
 by_cases hi:i<n
 ·rw [ZeF (by omega),List.getElem?_range hi];rfl
 ·rw [List.getElem?_eq_none (by omega),List.getElem?_eq_none (by rw [List.length_range];omega)];rfl
def ZcE (C:Addr):Sp:=λvs H Q _=>∃ (a dx db dl dk:Addr) (o:Obj) (p n m:Nat) (qs:List (Addr × Addr)) (kvs:List (Key × V)),vs=[.ref a,.int ((m:Nat):Int)]/\Rk H C a dx db dl dk o p n qs kvs /\
 ∀ D H',H D=none->Same H H'->H' D=some (.lst ((ZaU n m).map λi=>V.ref (ZfG qs i)))->Q (.ref D) H'
theorem Zh5:FnScope ["self","left"] ["self","left"] (Zae (ZaC Zat 3)):=⟨rfl,rfl,rfl,by decide +kernel,rfl,by decide +kernel,by decide +kernel⟩
theorem Zig (kc:RkC K C) (D:ZaA K C "looks_at" "Reckoning.looks_at" (ZaC Zat 3) ["self","left"]):MtAt P w K mg base 1 C "looks_at" ["self","left"] (ZcE C):=by
 refine MtAt.of D Zh5 (λvs H Q E h=>?_) (λf cdv A outer s H vs Q E hr h=>?_)
 ·obtain ⟨a,dx,db,dl,dk,o,p,n,m,qs,kvs,rfl,_⟩:=h;rfl
 ·obtain ⟨a,dx,db,dl,dk,o,p,n,m,qs,kvs,rfl,R,q⟩:=h;have nd1:(["look","left","self"]:List Str).Nodup:=by decide +kernel
  have hu1:=Zeb hr;have hn:=R.n16;refine ⟨_,Zaf (Zal (Zaz ["look","left","self"] [none,some 1,some 0] (Zae (ZaC Zat 3)) ["self","left"] rfl (ZaH (Zbr (pv 0) rfl)) (by decide +kernel)
   (λcl C s2 H2 ex=>pg_c 0 nd1) (λcl C s2 H2 ex=>Zce (ZpT (Zax Zot (pv 1) (ZbC hu1 (Zev K (pv 2) rfl) (Zar (ixT K) (pv 0) Zag (λ_ _=>rfl)) (λ_ _=>rfl))))) (λcl C s2 H2 ex=>pv 0))),?_⟩
  have hl:SqL K H dl ((List.range n).map λi=>V.ref (ZfG qs i)):=by
   rw [<- Zki R.ln];exact SqL.of R.hl
  refine ⟨_,rfl,a,C,dx,_,_,rfl,R.ob,kc.cls,kc.nl,rfl,dl,rfl,⟨_,hl⟩,ZgI (ms:=List.range n) (λi=>V.ref (ZfG qs i)) (λi=>m.testBit i) (λi=>V.ref (ZfG qs i)) hl (sl6 (by rw [List.length_range];omega)) (λi hi H1 Q1 s1 q1=>?_) (λi hi _ H1 Q1 s1 q1=>⟨_,rfl,q1 _ (Same.refl _)⟩) λD H' hD sm hDl=>q D H' hD sm hDl⟩;have hi:=List.mem_range.mp hi;obtain ⟨h1,h2⟩:=R.hq i _ (ZeF (by rw [R.ln];exact hi));refine ⟨_,rfl,_,rfl,a,C,dx,_,_,rfl,s1 _ _ R.ob,kc.cls,kc.nb,rfl,_,rfl,_,_,0,_,rfl,rfl,SqT.of (s1 _ _ h1),rfl,db,.int ((2 ^ i:Nat):Int),rfl,.inr ⟨_,_,_,.inr ⟨o,s1 _ _ R.hb⟩,rfl,s1 _ _ h2,(Zcj hi).symm⟩,_,_,rfl,rfl,⟨Ybc _,Ybc _⟩,_,rfl,?_⟩;rw [ZiI];exact q1 _ (Same.refl _)
end
open PySem L2 PyProof.Rows
theorem ZhU {m k:Nat}:((m:Int).toNat &&& ((k:Nat):Int).toNat)=(m &&& k):=by
 rw [Yav,Yav]
theorem Same.but1 {H H':Hp}{x:Addr} (s:Same H H'):But1 x H H':=λ_ _ _ e=>s _ _ e
theorem ZmH {K:Yab}{Dl:Addr}{ms:List Nat}{σ0:L2.St}{H1:Hp}{te:TE}{Q:VK} (u f:Nat->V) (J:Addr->Hp->Prop) (hn:ms.length<=1000) (h0:∀ D,H1 D=none->J D (upd H1 D (.lst []))) (hq:∀ D H',H1 D=none->J D H'->SqL K H' Dl (ms.map u))
  (step:∀ D c H' ys Q',H1 D=none->c∈ms->J D H'->H' D=some (.lst ys)->(∀ H'',J D H''->H'' D=some (.lst ys)->Q' (f c) H'')->te (σ0.set 0 (some (u c))) H' Q')
  (hU:∀ D H' ys zs,H1 D=none->J D H'->H' D=some (.lst ys)->J D (upd H' D (.lst zs))) (fin:∀ D H',H1 D=none->J D H'->H' D=some (.lst (ms.map f))->Q (.ref D) H'):ZaR (Itl K Dl) (ZaT 0) Zbe te σ0 H1 Q:=by
 intro D hD;refine ZbU (n:=ms.length) (λi ys H'=>J D H'/\H' D=some (.lst ys)/\ys=(ms.take i).map f) ⟨h0 D hD,Zad,by simp⟩ (λi ys H' _ q=>q.2.1) (λi ys H' hi q=>⟨_,u ms[i],hq D H' hD q.1,by simp [hi]⟩) (λys H' q=>⟨_,hq D H' hD q.1,by simp⟩) ?_ ?_
 ·rintro i ys H' x H2 hi ⟨j,eD,rfl⟩ ⟨rfl,hy⟩;have hx:=hy _ (hq D H2 hD j);rw [Yaf,Yac hi] at hx;have hx:u ms[i]=x:=Yae hx;subst hx;unfold Zbe;refine iteT (step D ms[i] H2 _ _ hD (YaL hi) j eD λH'' j2 e2=>⟨e2,?_,hU D H'' _ _ hD j2 e2,Zad,?_⟩)
  ·rw [Yaa,YaR];exact ZaD (by omega)
  ·rw [List.take_add_one,Yac hi,Yah];rfl
 ·rintro ys H' ⟨j,eD,rfl⟩;rw [List.take_length] at eD;exact fin D H' hD j eD
section
variable {P:Program}{w:World}{K:Yab}{mg:Str->Option Value}{base:Heap}{C:Addr}
def RkQ (H:Hp) (C a dx db dl dk:Addr) (o:Obj) (p n:Nat) (qs:List (Addr × Addr)) (Q:VK) (v:Nat):Prop:=∀ kvs' H',But1 dk H H'->Rk H' C a dx db dl dk o p n qs kvs'->Q (.int ((v:Nat):Int)) H'
def Zjd (C:Addr) (k:Nat):Sp:=λvs H Q _=>∃ (a dx db dl dk:Addr) (o:Obj) (p n m:Nat) (qs:List (Addr × Addr)) (kvs:List (Key × V)),vs=[.ref a,.int ((m:Nat):Int)]/\m<2 ^ n/\(ZaU n m).length<=k/\Rk H C a dx db dl dk o p n qs kvs/\RkQ H C a dx db dl dk o p n qs Q (fw p (ZaU n m))
def Zfh (C:Addr) (k:Nat):Sp:=λvs H Q _=>∃ (a dx db dl dk:Addr) (o:Obj) (p n m i:Nat) (qs:List (Addr × Addr)) (kvs:List (Key × V)),vs=[.ref a,.int ((m:Nat):Int),.ref (ZfG qs i)]/\m<2 ^ n/\(ZaU n m).length<=k/\i∈ZaU n m/\Rk H C a dx db dl dk o p n qs kvs/\RkQ H C a dx db dl dk o p n qs Q (thr p (ZaU n m) i)
theorem ZpO:FnScope ["self","left"] ["self","left"] (Zae (ZaC Zat 2)):=⟨rfl,rfl,rfl,by decide +kernel,rfl,by decide +kernel,by decide +kernel⟩
theorem Zjk:FnScope ["self","left","look"] ["self","left","look"] (Zae (ZaC Zat 4)):=⟨rfl,rfl,rfl,by decide +kernel,rfl,by decide +kernel,by decide +kernel⟩
theorem Zhk (D:ZaA K C "fewest_through" "Reckoning.fewest_through" (ZaC Zat 4) ["self","left","look"]):MtAt P w K mg base 1 C "fewest_through" ["self","left","look"] (Zfh C 0):=by
 have no:∀ {vs H Q E},Zfh C 0 vs H Q E->False:=λ{vs H Q E} h=>by
  obtain ⟨a,dx,db,dl,dk,o,p,n,m,i,qs,kvs,rfl,h1,h2,h3,_⟩:=h;have:ZaU n m=[]:=List.length_eq_zero_iff.mp (by omega);rw [this] at h3
  nomatch h3
 exact MtAt.of D Zjk (λvs H Q E h=>(no h).elim) (λf cdv A outer s H vs Q E hr h=>(no h).elim)
theorem Zl2 (T:Blt mg) (kc:RkC K C) {k:Nat} (D:ZaA K C "fewest_through" "Reckoning.fewest_through" (ZaC Zat 4) ["self","left","look"]) (G:MtAt P w K mg base (2 * k+2) C "fewest" ["self","left"] (Zjd C k)):MtAt P w K mg base (2 * k+3) C "fewest_through" ["self","left","look"] (Zfh C (k+1)):=by
 refine MtAt.of D Zjk (λvs H Q E h=>?_) (λf cdv A outer s H vs Q E hr h=>?_)
 ·obtain ⟨a,dx,db,dl,dk,o,p,n,m,i,qs,kvs,rfl,_⟩:=h;rfl
 ·obtain ⟨a,dx,db,dl,dk,o,p,n,m,i,qs,kvs,rfl,hm,hk,hi,R,q⟩:=h;have hin:i<n:=(mem_bitsN.mp hi).1;refine ⟨_,Zaf (Zal (Zax ZfC Zag (pe_b (Zf2 rfl) T.max boot_max (Zaa (pe_m G kc.cls hr (pv 0) (Zaa (Zax Zot (pv 1) (Zar ZbJ (pv 2) Zag (λ_ _=>rfl))) Zac)) (Zaa (pe_m G kc.cls hr (pv 0) (Zaa (Zax Zot (pv 1) (Zar ZbJ (pv 2) Zag (λ_ _=>rfl))) Zac)) Zac))))),?_⟩;obtain ⟨h1,h2⟩:=R.hq i _ (ZeF (by rw [R.ln];exact hin));have b1:ZaU n (m &&& msum n (lsI p i))=(ZaU n m).filter (lsI p i):=Zei λj hj=>by rw [Zdh,Ya4 hj,Bool.true_and]
  have b2:ZaU n (m &&& msum n (mrI p i))=(ZaU n m).filter (mrI p i):=Zei λj hj=>by rw [Zdh,Ya4 hj,Bool.true_and]
  have s1:=ZoF (w:=p) hi;have s2:=Zoy (w:=p) hi;refine ⟨_,rfl,a,dx,_,rfl,R.ob,rfl,_,rfl,_,rfl,_,_,1,_,rfl,rfl,SqT.of h1,rfl,_,_,rfl,rfl,⟨Ybc _,Ybc _⟩,?_⟩;rw [ZhU];refine ⟨a,dx,db,dl,dk,o,p,n,_,qs,kvs,rfl,Znt hm,by rw [b1];omega,R,λkv1 H1 B1 R1=>?_⟩;obtain ⟨h1',_⟩:=R1.hq i _ (ZeF (by rw [R1.ln];exact hin));refine ⟨_,rfl,a,dx,_,rfl,R1.ob,rfl,_,rfl,_,rfl,_,_,2,_,rfl,rfl,SqT.of h1',rfl,_,_,rfl,rfl,⟨Ybc _,Ybc _⟩,?_⟩;rw [ZhU];refine ⟨a,dx,db,dl,dk,o,p,n,_,qs,kv1,rfl,Znt hm,by rw [b2];omega,R1,λkv2 H2 B2 R2=>⟨_,_,rfl,_,_,rfl,rfl,?_⟩⟩;have:=q kv2 H2 (B1.trans B2) R2;unfold thr at this;rw [b1,b2];generalize fw p ((ZaU n m).filter (lsI p i))=x at this ⊢;generalize fw p ((ZaU n m).filter (mrI p i))=y at this ⊢;have e:(1:Int)+(if (y:Int) > (x:Int) then (y:Int) else (x:Int))=((1+max x y:Nat):Int):=by
   rw [Nat.max_def];split <;> split <;> omega
  rw [e];exact this
theorem Znd (hmin:mg "min" = none) (kc:RkC K C) {k:Nat} (D:ZaA K C "fewest" "Reckoning.fewest" (ZaC Zat 2) ["self","left"]) (G:MtAt P w K mg base (2 * k+1) C "fewest_through" ["self","left","look"] (Zfh C k)) (G2:MtAt P w K mg base 1 C "looks_at" ["self","left"] (ZcE C)):MtAt P w K mg base (2 * k+2) C "fewest" ["self","left"] (Zjd C k):=by
 refine MtAt.of D ZpO (λvs H Q E h=>?_) (λf cdv A outer s H vs Q E hr h=>?_)
 ·obtain ⟨a,dx,db,dl,dk,o,p,n,m,qs,kvs,rfl,_⟩:=h;rfl
 ·obtain ⟨a,dx,db,dl,dk,o,p,n,m,qs,kvs,rfl,hm,hk,R,q⟩:=h;have nd1:(["look","left","self"]:List Str).Nodup:=by decide +kernel
  have hu1:=Zeb hr;have hr1:Room 1 _:=hr.mono (show 1<=2 * k+1 by omega);refine ⟨_,Zab (Zay (Zjr (ZdE hu1 (pv 1) (Zbr (pv 0) rfl)))
    (Zaf (Zer hu1 (Zbr (pv 0) rfl) (pv 1) (pe_b (Zk3 rfl) hmin boot_min (Zaa (Zaz ["look","left","self"] [none,some 1,some 0] (Zae (ZaC Zat 2)) ["self","left"] rfl (ZaH (pe_m G2 kc.cls hr1 (pv 0) (Zaa (pv 1) Zac))) (by decide +kernel)
     (λcl C s2 H2 ex=>pg_c 0 nd1) (λcl C s2 H2 ex=>Zaw) (λcl C s2 H2 ex=>pe_m G kc.cls hr (pv 2) (Zaa (pv 1) (Zaa (pv 0) Zac)))) Zac)) rfl)) Zah)
   (Zaf (Zal (ZbC hu1 (Zbr (pv 0) rfl) (pv 1) (λ_ _=>rfl)))),?_⟩
  refine ZoM (λN=>∀ kv H',But1 dk H H'->Rk H' C a dx db dl dk o p n qs kv->valV kv (.inl (m:Int))=some (.int ((fw p (ZaU n m):Nat):Int))->N [some (.ref a),some (.int ((m:Nat):Int))] H') (λkv H' B R' hv=>?_) (λtail=>?_)
  ·refine ⟨_,rfl,a,C,dx,_,_,rfl,R'.ob,kc.cls,kc.nk,rfl,_,rfl,dk,.int ((fw p (ZaU n m):Nat):Int),rfl,?_,q kv H' B R'⟩;rw [<- hv];exact DGet.k (k:=.inl (m:Int)) R'.hk
  ·refine ⟨_,rfl,_,rfl,a,C,dx,_,_,rfl,R.ob,kc.cls,kc.nk,rfl,dk,_,rfl,DGet.k (k:=.inl (m:Int)) R.hk,_,rfl,?_⟩;cases hv:valV kvs (.inl (m:Int)) with
   |some v =>
    obtain ⟨m',e1,e2,e3⟩:=R.kn.ok _ _ hv;have e4:m=m':=by
     have:=Sum.inl.inj e1;omega
    subst e4;exact iteF (tail kvs H (But1.refl _ _) R (by rw [hv,e3]))
   |none =>
    have m0:m≠0:=λz=>by
     have:=R.kz;rw [z] at hv;rw [show (Sum.inl 0:Key)=.inl ((0:Nat):Int) from rfl,hv] at this;cases this
    have hne:ZaU n m≠[]:=λz=>m0 (Zk6 hm z);have hn:=R.n16;have hbl:=Zf4 n m;refine iteT ?_;refine ⟨_,rfl,a,dx,_,rfl,R.ob,rfl,_,rfl,a,dx,db,dl,dk,o,p,n,m,qs,kvs,rfl,R,λDl H1 hDl s1 eDl=>?_⟩;have R1:=R.same s1;have sq1:SqL K H1 Dl ((ZaU n m).map λi=>V.ref (ZfG qs i)):=SqL.of eDl;have nDk:Dl≠dk:=λz=>by rw [z,R.hk] at hDl;cases hDl
    refine ⟨Dl,rfl,⟨_,sq1⟩,ZmH (λi=>V.ref (ZfG qs i)) (λc=>V.int ((thr p (ZaU n m) c:Nat):Int)) (λD H'=>But1 dk H1 H'/\∃ kv,Rk H' C a dx db dl dk o p n qs kv) (by omega)
     (λD hD=>⟨Same.but1 (Same.new hD),kvs,R1.same (Same.new hD)⟩) (λD H' _ h=>SqL.of (h.1 _ _ nDk eDl)) ?_ ?_ ?_⟩
    ·rintro DD c H' ys Q' hDD hc ⟨B',kv,R'⟩ eDD q';have nDD:DD≠dk:=λz=>by rw [z,R1.hk] at hDD;cases hDD
     exact ⟨_,rfl,a,dx,_,rfl,R'.ob,rfl,_,rfl,_,rfl,a,dx,db,dl,dk,o,p,n,m,c,qs,kv,rfl,hm,hk,hc,R',λkv3 H3 B3 R3=>q' H3 ⟨B'.trans B3,kv3,R3⟩ (B3 _ _ nDD eDD)⟩
    ·rintro DD H3 ys zs hDD ⟨B',kv,R3⟩ eDD;have nDD:DD≠dk:=λz=>by rw [z,R1.hk] at hDD;cases hDD
     have f:∀ {x:Addr}{u:HO},H3 x=some u->(∀ ys,u≠.lst ys)->x≠DD:=λ{x u} h1 h2 z=>by
      rw [z,eDD] at h1;exact h2 _ (Yae h1).symm
     have dd1:dl≠DD:=λz=>by rw [<- z,R1.hl] at hDD;cases hDD
     exact ⟨λb u nb e=>by rw [Zai (Zav e hDD)];exact B' _ _ nb e,kv,by rw [Zai (f R3.ob (λ_ z=>by cases z))];exact R3.ob,by rw [Zai (f R3.hb (λ_ z=>by cases z))];exact R3.hb,by rw [Zai dd1];exact R3.hl,R3.ln,
      λj q hj=>let ⟨g1,g2⟩:=R3.hq j q hj;⟨by rw [Zai (f g1 (λ_ z=>by cases z))];exact g1,by rw [Zai (f g2 (λ_ z=>by cases z))];exact g2⟩,by rw [Zai (Ne.symm nDD)];exact R3.hk,R3.kn,R3.kz,R3.n16⟩
    ·rintro DD H' hDD ⟨B',kv,R'⟩ eDD;have sqD:SqL K H' DD (((ZaU n m).map λc=>((thr p (ZaU n m) c:Nat):Int)).map V.int):=SqL.of (by rw [eDD,Yau];rfl);refine ⟨DD,_,rfl,sqD,?_,λM hM hle=>?_⟩
     ·rw [Yaa];exact List.length_pos_iff.mpr hne
     have hMe:M=((fw p (ZaU n m):Nat):Int):=by
      obtain ⟨c,hc,e⟩:=Yar.mp hM;rw [<- e]
      congr 1
      refine Zr3 (λc' hc'=>?_) ⟨c,hc,rfl⟩;have:=hle _ (Yar.mpr ⟨c',hc',rfl⟩);omega
     subst hMe;have hz:kv.length<sizeLine:=by
      have h1:=R'.kn.len;have h2:=Nat.pow_le_pow_right (show 0<2 by decide) hn;rw [sizeLine_eq];have e:2 ^ 16=65536:=by decide
      omega
     refine ⟨_,rfl,a,C,dx,_,_,rfl,R'.ob,kc.cls,kc.nk,rfl,_,rfl,dk,_,rfl,DPut.k (k:=.inl (m:Int)) R'.hk hz,?_⟩;have Bk:But1 dk H' (upd H' dk (.dK (putK kv (.inl (m:Int)) (.int ((fw p (ZaU n m):Nat):Int))))):=λb u nb e=>by rw [Zai nb];exact e
     refine tail _ _ ((Same.but1 s1).trans (B'.trans Bk)) (R'.but Bk Zad (R'.kn.put' hm) ?_) (by rw [Zdf,Ya7 rfl]);rw [Zdf];split
     ·rfl
     ·exact R'.kz
theorem ZjU (T:Blt mg) (hmin:mg "min" = none) (kc:RkC K C) (D1:ZaA K C "fewest" "Reckoning.fewest" (ZaC Zat 2) ["self","left"]) (D2:ZaA K C "fewest_through" "Reckoning.fewest_through" (ZaC Zat 4) ["self","left","look"]) (G2:MtAt P w K mg base 1 C "looks_at" ["self","left"] (ZcE C)) :
  ∀ k,MtAt P w K mg base (2 * k+1) C "fewest_through" ["self","left","look"] (Zfh C k)/\MtAt P w K mg base (2 * k+2) C "fewest" ["self","left"] (Zjd C k)
 | 0=>⟨Zhk D2,Znd (k:=0) hmin kc D1 (Zhk D2) G2⟩
 |k+1=>by
  have h:=Zl2 T kc D2 (ZjU T hmin kc D1 D2 G2 k).2;exact ⟨h,Znd (k:=k+1) hmin kc D1 h G2⟩
theorem ZjT (T:Blt mg) (hmin:mg "min" = none) (kc:RkC K C) (D1:ZaA K C "fewest" "Reckoning.fewest" (ZaC Zat 2) ["self","left"]) (D2:ZaA K C "fewest_through" "Reckoning.fewest_through" (ZaC Zat 4) ["self","left","look"]) (G2:MtAt P w K mg base 1 C "looks_at" ["self","left"] (ZcE C)) :
  MtAt P w K mg base 34 C "fewest" ["self","left"] (Zjd C 16):=(ZjU T hmin kc D1 D2 G2 16).2
end
end Seek
namespace L2
open PySem PySem.Spec PyProof.Rows
def tNew (C:Addr) (sp:Sp) (t:TA):TE:=λσ H Q=>t σ H λvs H1=>∀ x dx,H1 x=none->H1 dx=none->dx≠x->sp (.ref x :: vs) (upd (upd H1 dx (.own x)) x (.ins C dx [])) (λv H2=>v=.non/\Q (.ref x) H2) E0
theorem Zp4 {X:Cx}{k:Nat}{C:Addr}{ps:List Str}{sp:Sp}{e:Expr}{es:List Expr}{x:Str}{p pos:Pos}{t:TA} (F:MtAt X.prog X.w X.K X.mg X.base k C "__init__" ps sp) (hmk:PySem.W.makesIn X.K C=true) (hkp:PySem.W.keepIn X.K (.ref C)=true) (hr:Room (k+1) X.A) (hg:Gl X x) (hm:X.mg x=some (.ref C))
  (ha:PA X (e :: es) t) (hdb:(x == ("__debug__" : Str))=false:=by decide) (he:starEach (e :: es) X.env=(false,eval e X.env) :: starEach es X.env:=by rfl) (hpl:(backTo pos (starEach es X.env)).any (·.1)=false:=by rfl) :
  PE X (.Call (.Name x p) (e :: es) [] pos) (tNew C sp t):=by
 obtain ⟨f,fd,F,hmt,hb⟩:=F;have q:=Zn7 (p:=p) (pos:=pos) ⟨hmk,hmt.at_,hmt.fn,hkp⟩ F hr hg hm hb .nil (Zid (X:=X)) ha hdb he hpl;intro pins s σ H Q I h;refine q pins s σ H Q I ?_;unfold Zln;simp only [List.append_nil];exact h
theorem Zp7 {X:Cx}{k:Nat}{x:Str}{sp:Sp}{p pos:Pos} (F:FnAt X.prog X.w X.K X.mg X.base k x [] sp) (hr:Room k X.A) (hg:Gl X x:=by rfl) (hdb:(x == ("__debug__" : Str))=false:=by decide):PE X (.Call (.Name x p) [] [] pos) (tF sp tNil):=by
 obtain ⟨f,fd,F,hm,hk,hb⟩:=F;have q:=ZlZ (p:=p) (pos:=pos) F hr hg hm hk hb .nil (Zid (X:=X)) hdb;intro pins s σ H Q I h;exact q pins s σ H Q I h
theorem Zin {K:Yab}{C f:Addr}{m qual:Str}{st:Stmt}{ps:List Str}{od an:Option Addr}{sl:Array (Option Value)}{oc kV dc pm cd ct:Value}
  (a:PySem.W.findIn K (.ref C) m=some (some (.ref f))) (i:PySem.W.isFn K (.ref f)=true) (l:K.lookup f=some ⟨oc,od,.func (PySem.W.fnOf m qual (Zca st) (ZaQ st) (Zae st) .none kV dc pm an cd ct),sl⟩) (c:PySem.W.codeIn K cd qual=true) (k:PySem.W.keepIn K (.ref f)=true)
  (b:∀ (kV doc pm:Value) (an:Option Addr) (cdv ct:Value) (us:List Value),us.length=ps.length->bindArgs (PySem.W.fnOf m qual (Zca st) (ZaQ st) (Zae st) .none kV doc pm an cdv ct) ⟨us,[]⟩=pure (ps.zip us)):ZaA K C m qual st ps:=by
 have F:=Znk (st:=st) l c k;exact ⟨f,_,F,⟨a,i,k⟩,F.binds b⟩
end L2
namespace Seek
open PySem L2 PyProof.Rows
structure RkM (K:Yab) (mg:Str->Option Value) (C:Addr):Prop where
 c:RkC K C
 gl:mg "Reckoning" = some (.ref C)
 mks:PySem.W.makesIn K C=true
 kp:PySem.W.keepIn K (.ref C)=true
theorem ZpQ {K:Yab}{h:Heap}{mg:Str->Option Value}{C:Addr} (X:K.In h) (G:h.Ns mainGlobals mg) (aC:PySem.W.nsIn K mainGlobals "Reckoning" = some (some (.ref C)))
  (pg:PySem.W.plainGet K C Str.empty=true) (hd:PySem.W.hasDictIn K C=true) (po:PySem.W.plainOver K C=true) (sa:PySem.W.findIn K (.ref C) "__setattr__" = some (some (.builtin "object.__setattr__"))) (mk:PySem.W.makesIn K C=true) (kc:PySem.W.keepIn K (.ref C)=true)
  (n1:PySem.W.findIn K (.ref C) "bits" = some none) (n2:PySem.W.findIn K (.ref C) "looks" = some none) (n3:PySem.W.findIn K (.ref C) "known" = some none):RkM K mg C:=⟨⟨⟨pg,hd,po,sa⟩,n1,n2,n3⟩,YaE X G aC,mk,kc⟩
def opnL (r p:Nat) (ls hs:List Int):List Nat:=(List.range (r * p)).filter λi=>opnB ls hs (i / p) (i % p)
section
variable {P:Program}{w:World}{K:Yab}{mg:Str->Option Value}{base:Heap}{C:Addr}
def Zdv:Sp:=λvs H Q _=>∃ (r p:Nat) (a b:Addr) (ls hs:List Int),vs=[.int (r:Nat),.int (p:Nat),.ref a,.ref b]/\1<=r/\r<=4/\1<=p/\p<=4/\Row H a ls/\Row H b hs/\TwoSt r p ls hs/\∀ H',Same H H'->Q (.int ((fw p (opnL r p ls hs):Nat):Int)) H'
theorem sc_looksLeft:FnScope ["r","p","low","high","reckoning"] ["r","p","low","high"] (Zae Zc1):=⟨rfl,rfl,rfl,by decide +kernel,rfl,by decide +kernel,by decide +kernel⟩
theorem Zfz (zK:RkM K mg C) (D:Zak K mg "looks_left" Zc1 ["r","p","low","high"]) (G1:FnAt P w K mg base 3 "need_size" ["r","p"] ZcR) (G2:FnAt P w K mg base 4 "need_stairs" ["r","p","low","high"] Zc6)
  (M0:MtAt P w K mg base 2 C "__init__" ["self","r","p"] (Zi8 C)) (M1:MtAt P w K mg base 2 C "left_between" ["self","low","high"] (Zjb C)) (M2:MtAt P w K mg base 34 C "fewest" ["self","left"] (Zjd C 16)):FnAt P w K mg base 35 "looks_left" ["r","p","low","high"] Zdv:=by
 refine FnAt.of D sc_looksLeft (λvs H Q E h=>?_) (λf cdv A outer s H vs Q E hr h=>?_)
 ·obtain ⟨r,p,a,b,ls,hs,rfl,_⟩:=h;rfl
 ·obtain ⟨r,p,a,b,ls,hs,rfl,r1,r4,p1,p4,hA,hB,S,q⟩:=h;have nd:=sc_looksLeft.nd;have hr3:Room 3 _:=hr.mono (show 3<=34 by decide);have hr4:Room 4 _:=hr.mono (show 4<=34 by decide);have hr2:Room 2 _:=hr.mono (show 2<=34 by decide);refine ⟨_,Zab (ZaG (pe_f G1 hr3 (Zaa (pv 0) (Zaa (pv 1) Zac))))
   (Zab (ZaG (pe_f G2 hr4 (Zaa (pv 0) (Zaa (pv 1) (Zaa (pv 2) (Zaa (pv 3) Zac))))))
   (Zab (Zau (i:=4) nd rfl (Or.inl rfl) (Zp4 M0 zK.mks zK.kp hr3 rfl zK.gl (Zaa (pv 0) (Zaa (pv 1) Zac))))
   (Zaf (Zal (pe_m M2 zK.c.cls hr (pv 4) (Zaa (pe_m M1 zK.c.cls hr2 (pv 4) (Zaa (pv 2) (Zaa (pv 3) Zac))) Zac)))))),?_⟩
  refine ⟨_,rfl,_,rfl,r,p,rfl,r1,r4,p1,p4,_,rfl,_,rfl,_,rfl,_,rfl,r,p,a,b,ls,hs,rfl,r4,hA,hB,S,λH1 s1=>?_⟩;refine ⟨_,rfl,_,rfl,λx dx hx hdx ndx=>?_⟩;have s2:Same H1 (upd (upd H1 dx (.own x)) x (.ins C dx [])):=((Same.refl H1).upd hdx).upd hx;have e2:(upd (upd H1 dx (.own x)) x (.ins C dx [])) x=some (.ins C dx []):=Zad;generalize upd (upd H1 dx (.own x)) x (.ins C dx [])=H2 at s2 e2 ⊢;refine ⟨x,dx,r,p,rfl,e2,r4,p1,p4,λdb dl dk o qs H3 B3 hdb hdl hdk R=>⟨rfl,?_⟩⟩;have s3:Same H1 H3:=λb u e=>B3 _ _ (Zav e hx) (s2 _ _ e);have hdk1:H1 dk=none:=s2.free hdk;refine ⟨_,rfl,x,dx,_,rfl,R.ob,rfl,_,rfl,x,dx,_,rfl,R.ob,rfl,_,rfl,_,rfl,x,dx,db,dl,dk,a,b,o,r,p,qs,kn0,ls,hs,rfl,R,(hA.same s1).same s3,(hB.same s1).same s3,S.lo.len,S.hi.len,λH4 s4=>?_⟩;have R4:=R.same s4;have eb:ZaU (r * p) (msum (r * p) λi=>opnB ls hs (i / p) (i % p))=opnL r p ls hs:=ZiF _ _;refine ⟨x,dx,db,dl,dk,o,p,r * p,_,qs,kn0,rfl,Zgv _ _,?_,R4,λkv H5 B5 R5=>?_⟩
  ·have:=Zf4 (r * p) (msum (r * p) λi=>opnB ls hs (i / p) (i % p));have:=R.n16;omega
  ·rw [eb];exact q H5 λb u e=>B5 _ _ (Zav (s1 _ _ e) hdk1) (s4 _ _ (s3 _ _ (s1 _ _ e)))
end
open PySem L2 PyProof.Rows
theorem ZhE (k:Nat) (c:Int):(List.replicate k [V.int c]).flatten=(List.replicate k c).map V.int:=by
 induction k with
 |zero=>rfl
 |succ k ih=>rw [List.replicate_succ,List.flatten_cons,ih,List.replicate_succ];rfl
open PySem L2 PyProof.Rows
theorem Zff {r p:Nat}{c:Int} (h0:0<=c) (h1:c<=p):StairP r p (List.replicate r c):=by
 refine ⟨List.length_replicate,λn hn=>?_,λi hi=>?_⟩
 ·rw [List.eq_of_mem_replicate hn];exact ⟨h0,h1⟩
 ·rw [List.length_replicate] at hi;have e:∀ k,k<r->(List.replicate r c).getD k 0=c:=λk hk=>by simp [hk]
  rw [e _ hi,e _ (by omega)];exact Int.le_refl _
open PySem L2 PyProof.Rows
theorem Znz {r p:Nat}{a b:Int} (ha:0<=a) (hab:a<=b) (hb:b<=p):TwoSt r p (List.replicate r a) (List.replicate r b) :=
 ⟨Zff ha (by omega),Zff (by omega) hb,λi hi=>by
  rw [Yat,Yat,List.getElem?_replicate,List.getElem?_replicate,Ya7 hi,Ya7 hi]
  exact hab⟩
open PySem L2 PyProof.Rows
section
variable {P:Program}{w:World}{K:Yab}{mg:Str->Option Value}{base:Heap}
def allL (r p:Nat):List Nat:=opnL r p (List.replicate r 0) (List.replicate r (p:Int))
def Zdy:Sp:=λvs H Q _=>∃ r p:Nat,vs=[.int (r:Nat),.int (p:Nat)]/\1<=r/\r<=4/\1<=p/\p<=4/\∀ H',Same H H'->Q (.int ((fw p (allL r p):Nat):Int)) H'
theorem Zh9:FnScope ["r","p"] ["r","p"] (Zae ZdT):=⟨rfl,rfl,rfl,by decide +kernel,rfl,by decide +kernel,by decide +kernel⟩
theorem Zik (D:Zak K mg "fewest_looks" ZdT ["r","p"]) (G1:FnAt P w K mg base 3 "need_size" ["r","p"] ZcR) (G2:FnAt P w K mg base 35 "looks_left" ["r","p","low","high"] Zdv):FnAt P w K mg base 36 "fewest_looks" ["r","p"] Zdy:=by
 refine FnAt.of D Zh9 (λvs H Q E h=>?_) (λf cdv A outer s H vs Q E hr h=>?_)
 ·obtain ⟨r,p,rfl,_⟩:=h;rfl
 ·obtain ⟨r,p,rfl,r1,r4,p1,p4,q⟩:=h;have hr3:Room 3 _:=hr.mono (show 3<=35 by decide);refine ⟨_,Zab (ZaG (pe_f G1 hr3 (Zaa (pv 0) (Zaa (pv 1) Zac)))) (Zaf (Zal (pe_f G2 hr (Zaa (pv 0) (Zaa (pv 1) (Zaa (Zax Znc (ZaK (Zaa Zag Zac)) (pv 0)) (Zaa (Zax Znc (ZaK (Zaa (pv 1) Zac)) (pv 0)) Zac))))))),?_⟩;refine ⟨_,rfl,_,rfl,r,p,rfl,r1,r4,p1,p4,_,rfl,_,rfl,len1,λl1 h1=>?_⟩;have s1:Same H (upd H l1 (.lst [.int 0])):=Same.new h1;have e1:(upd H l1 (.lst [.int 0])) l1=some (.lst [.int 0]):=Zad;generalize upd H l1 (.lst [.int 0])=H1 at s1 e1 ⊢;refine ⟨_,rfl,l1,_,_,rfl,rfl,e1,by omega,by omega,?_,λl2 h2=>?_⟩
  ·rw [Yav];exact sl6 (by simp;omega)
  rw [Yav,ZhE];have s2:Same H1 (upd H1 l2 (.lst ((List.replicate r (0:Int)).map V.int))):=Same.new h2;have e2:Row (upd H1 l2 (.lst ((List.replicate r (0:Int)).map V.int))) l2 (List.replicate r 0):=Zad;generalize upd H1 l2 (.lst ((List.replicate r (0:Int)).map V.int))=H2 at s2 e2 ⊢;refine ⟨_,rfl,len1,λl3 h3=>?_⟩;have s3:Same H2 (upd H2 l3 (.lst [.int (p:Nat)])):=Same.new h3;have e3:(upd H2 l3 (.lst [.int (p:Nat)])) l3=some (.lst [.int (p:Nat)]):=Zad;generalize upd H2 l3 (.lst [.int (p:Nat)])=H3 at s3 e3 ⊢;refine ⟨_,rfl,l3,_,_,rfl,rfl,e3,by omega,by omega,?_,λl4 h4=>?_⟩
  ·rw [Yav];exact sl6 (by simp;omega)
  rw [Yav,ZhE];have s4:Same H3 (upd H3 l4 (.lst ((List.replicate r (p:Int)).map V.int))):=Same.new h4;have e4:Row (upd H3 l4 (.lst ((List.replicate r (p:Int)).map V.int))) l4 (List.replicate r (p:Int)):=Zad;generalize upd H3 l4 (.lst ((List.replicate r (p:Int)).map V.int))=H4 at s4 e4 ⊢;exact ⟨r,p,l2,l4,_,_,rfl,r1,r4,p1,p4,(e2.same s3).same s4,e4,Znz (by decide) (by omega) (by omega),λH5 s5=>q H5 (s1.trans (s2.trans (s3.trans (s4.trans s5))))⟩
end
open PySem L2 PyProof.Rows
theorem Zq1:fw 2 (allL 2 2)=3:=by decide +kernel
theorem Zq2:fw 1 (allL 1 1)=1:=by decide +kernel
section
variable {P:Program}{w:World}{K:Yab}{mg:Str->Option Value}{base:Heap}{C c3:Addr}
def spFw (c3:Addr):Sp:=λvs H Q E=>Zdy vs H Q E\/Zh3 c3 vs H Q E
theorem ZrR (G:FnAt P w K mg base 36 "fewest_looks" ["r","p"] Zdy) (X:FnAtX P w K mg base 4 "fewest_looks" ["r","p"] (Zh3 c3)):FnAtX P w K mg base 36 "fewest_looks" ["r","p"] (spFw c3):=G.toX.or (X.mono (by decide))
end
open PySem L2 PyProof.Rows
def strE:Expr->Option Str
 | .Constant (.str x) _ _=>some x
 |_=>none
theorem Zgc {e:Expr}{x:Str} (h:strE e=some x):∃ j p,e=.Constant (.str x) j p:=by
 cases e with
 |Constant c j p =>
  cases c with
  |str y=>cases h;exact ⟨j,p,rfl⟩
  |_=>cases h
 |_=>cases h
def ZbW:List Expr->Option (List Str)
 | []=>some []
 |e :: es=>(strE e).bind λx=>(ZbW es).map (x :: ·)
theorem ZaX {X:Cx}:∀ {es:List Expr}{xs:List Str},ZbW es=some xs->PA X es (λ_ H Q=>Q (xs.map V.str) H)
 | [],xs,h=>by
  cases h;exact Zac
 |e :: es,xs,h=>by
  obtain ⟨x,hx,h1⟩:=Option.bind_eq_some_iff.mp h;obtain ⟨ys,hy,rfl⟩:=Option.map_eq_some_iff.mp h1;obtain ⟨j,p,rfl⟩:=Zgc hx;exact Zaa (X:=X) (e:=.Constant (.str x) j p) (es:=es) Zam (ZaX hy) rfl
def badR (y:Str):Bool:=decide (y.length<=900) && !hfB (spl y)
def Zk9 (n:Nat) (es:List Expr):Bool:=match ZbW es with
 |some ys=>ys.length == n && ys.all badR
 |none=>false
theorem Ze7 {n:Nat}{es:List Expr} (h:Zk9 n es=true):∃ ys,ZbW es=some ys/\ys.length=n/\∀ y∈ys,badR y=true:=by
 unfold Zk9 at h;split at h
 ·next ys hy =>
  rw [Yaj,beq_iff_eq,YaO] at h;exact ⟨ys,hy,h.1,h.2⟩
 ·cases h
def NnC (H0:Hp) (n:Nat) (σ:L2.St) (H:Hp):Prop:=∃ (a:Addr) (xs:List Str) (o1 o2:Option V),σ = [some (.ref a),o1,o2]/\H0 a=none/\H a=some (.lst (xs.map V.str))/\xs.length=n/\(∀ x∈xs,badR x=true)/\Same H0 H
theorem Zbj {X:Cx}{x:Str}{H0:Hp}{m n:Nat} (nd:X.N.Nodup) (hi:X.N[0]? = some x) (hx:Loc X.env.scope x) (hf:X.fn x=true\/X.env.scope.names.lookup x=some .local) (hv:∀ p:Pos,PE X (.Name x p) (tVar 0)) (hmn:m+n<=900) (es:List Expr) (pos pos' p2 q1 q2:Pos) :
  PS X (.Assign [.Name x pos'] (.BinOp (.Name x q1) .Add (.List es pos) q2) p2) (λE σ H=>Zk9 n es=true/\NnC H0 m σ H/\∀ σ' H',NnC H0 (m+n) σ' H'->E.nx σ' H'):=λpins s σ H D I ⟨hb,⟨a,xs,o1,o2,es0,ha0,ha,hl,hs,sm⟩,q⟩=>by
 obtain ⟨ys,hy,ly,hys⟩:=Ze7 hb;subst es0;refine Zau nd hi hx (Zax Zb8 (hv q1) (ZaK (ZaX hy))) rfl hf pins s _ H D I ⟨_,rfl,sl6 (by rw [Yaa];omega),λp hp=>?_⟩;have sp:Same H (upd H p (.lst (ys.map V.str))):=Same.new hp;refine ⟨a,p,_,_,rfl,rfl,sp _ _ ha,Zad,sl6 (by rw [Yaa,Yaa];omega),λb hb'=>?_⟩;have sb:=Same.new (o:=.lst (xs.map V.str ++ ys.map V.str)) hb';refine q _ _ ⟨b,xs ++ ys,o1,o2,rfl,sm.free (sp.free hb'),by rw [Zad,Yah],by rw [Yak];omega,λz hz=>?_,(sm.trans sp).trans sb⟩;rcases YaG.mp hz with h | h
 ·exact hs z h
 ·exact hys z h
theorem ZqA {X:Cx}{x:Str}{n:Nat} (nd:X.N.Nodup) (hi:X.N[0]? = some x) (hx:Loc X.env.scope x) (hf:X.fn x=true\/X.env.scope.names.lookup x=some .local) (hmn:n<=900) (es:List Expr) (pos pos' p2:Pos) :
  PS X (.Assign [.Name x pos'] (.List es pos) p2) (λE σ H=>Zk9 n es=true/\σ = [none,none,none]/\∀ σ' H',NnC H n σ' H'->E.nx σ' H'):=λpins s σ H D I ⟨hb,es0,q⟩=>by
 obtain ⟨ys,hy,ly,hys⟩:=Ze7 hb;subst es0;refine Zau nd hi hx (ZaK (ZaX hy)) rfl hf pins s _ H D I ⟨sl6 (by rw [Yaa];omega),λp hp=>?_⟩;exact q _ _ ⟨p,ys,none,none,rfl,hp,Zad,ly,hys,Same.new hp⟩
theorem Zqy {X:Cx}{x:Str}{H0:Hp}{m n:Nat} (hv:∀ p:Pos,PE X (.Name x p) (tVar 0)) (hmn:m+n<=900) (es:List Expr) (pos p2 q1 q2:Pos) :
  PS X (.Return (some (.BinOp (.Name x q1) .Add (.List es pos) q2)) p2) (λE σ H=>Zk9 n es=true/\NnC H0 m σ H/\∀ (b:Addr) (xs:List Str) (H':Hp),H0 b=none->H' b=some (.lst (xs.map V.str))->xs.length=m+n->(∀ y∈xs,badR y=true)->Same H0 H'->E.rt (.ref b) H'):=λpins s σ H D I ⟨hb,⟨a,xs,o1,o2,es0,ha0,ha,hl,hs,sm⟩,q⟩=>by
 obtain ⟨ys,hy,ly,hys⟩:=Ze7 hb;subst es0;refine Zal (Zax Zb8 (hv q1) (ZaK (ZaX hy))) pins s _ H D I ⟨_,rfl,sl6 (by rw [Yaa];omega),λp hp=>?_⟩;have sp:Same H (upd H p (.lst (ys.map V.str))):=Same.new hp;refine ⟨a,p,_,_,rfl,rfl,sp _ _ ha,Zad,sl6 (by rw [Yaa,Yaa];omega),λb hb'=>?_⟩;have sb:=Same.new (o:=.lst (xs.map V.str ++ ys.map V.str)) hb';refine q b (xs ++ ys) _ (sm.free (sp.free hb')) (by rw [Zad,Yah]) (by rw [Yak];omega) (λz hz=>?_) ((sm.trans sp).trans sb);rcases YaG.mp hz with h | h
 ·exact hs z h
 ·exact hys z h
open PySem L2 PyProof.Rows
def nnS (k:Nat):Stmt:=(ZaQ ZgE).getD k (.Pass ⟨0,0,0,0⟩)
def nnW:List Str:=[("find" : Str), "stair","walk","below","nth"]
def nnE:List Str:=[(" abcdefghi 1" : Str), "  a 1"," a "]
theorem Zov:∀ w∈nnW,∀ e∈nnE,badR (w ++ e)=true:=by decide +kernel
theorem Zou:∀ w∈nnW,badR ((Str.ofString " " ++ w) ++ Str.ofString " a 1")=true:=by decide +kernel
theorem Zhn:∀ w∈nnW,w.length<=10:=by decide +kernel
theorem Zj3:∀ w∈nnE,w.length<=20:=by decide +kernel
section
variable {P:Program}{w:World}{K:Yab}{mg:Str->Option Value}{base:Heap}
theorem sc_none:FnScope ["some","word","end"] [] (Zae ZgE):=⟨rfl,rfl,rfl,by decide +kernel,rfl,by decide +kernel,by decide +kernel⟩
def Zi9:Sp:=λvs H Q _=>vs=[]/\∀ (b:Addr) (xs:List Str) (H':Hp),H b=none->H' b=some (.lst (xs.map V.str))->xs.length=108->(∀ y∈xs,badR y=true)->Same H H'->Q (.ref b) H'
abbrev nnX (P:Program) (w:World) (K:Yab) (mg:Str->Option Value) (base:Heap) (f:Addr) (cdv:Value) (A:Around) (outer:List Env) (s:Shared) (H:Hp) (E:XK):Cx:=(cxOf CX0 P w K mg base ["some","word","end"] "_law_none" (Zae ZgE) f cdv A outer s H E).nox
def nnF:Stmt->List Stmt
 | .For _ _ b _ _=>b
 |_=>[]
def tNnI:TS:=λE σ H=>∃ (a:Addr) (xs:List Str) (u e:Str),σ = [some (.ref a),some (.str u),some (.str e)]/\H a=some (.lst (xs.map V.str))/\xs.length<=900/\u.length<=10/\e.length<=20/\E.nx σ (upd H a (.lst ((xs ++ [u ++ e]).map V.str)))
theorem ZrT {f:Addr}{cdv:Value}{A:Around}{outer:List Env}{s:Shared}{H:Hp}{E:XK}:PSs (nnX P w K mg base f cdv A outer s H E) (nnF ((nnF (nnS 16)).getD 0 (.Pass ⟨0,0,0,0⟩))) tNnI:=λpins s1 σ H1 D I h=>by
 obtain ⟨a,xs,u,e,rfl,ha,hx,h1,h2,q⟩:=h;refine (Zaf (ZaG (Zbp YaS YaU YaV Zbk (pv 0) (Zaa (Zax ZaI (pv 1) (pv 2)) Zac))):PSs (nnX P w K mg base f cdv A outer s H E) (nnF ((nnF (nnS 16)).getD 0 (.Pass ⟨0,0,0,0⟩))) _) pins s1 _ H1 D I ?_;refine ⟨_,rfl,.inl ⟨rfl,_,SqL.of ha⟩,_,rfl,_,rfl,u,e,rfl,rfl,sl6 (by omega),a,_,_,rfl,rfl,ha,(by rw [Yaa];exact ZaD (by omega)),?_⟩;rw [Yah] at q;exact q
def tNnO:TS:=λE σ H=>∃ (H0:Hp) (m:Nat) (u:Str) (a:Addr) (xs:List Str) (o2:Option V),σ = [some (.ref a),some (.str u),o2]/\u∈nnW/\m<=800/\H0 a=none/\H a=some (.lst (xs.map V.str))/\xs.length=m/\(∀ x∈xs,badR x=true)/\Same H0 H/\∀ σ' H',NnC H0 (m+4) σ' H'->(∀ b o,b≠a->H b=some o->H' b=some o)->(∃ o1 o2,σ'=[some (.ref a),o1,o2])->E.nx σ' H'
theorem Zqz {f:Addr}{cdv:Value}{A:Around}{outer:List Env}{s:Shared}{H:Hp}{E:XK}:PSs (nnX P w K mg base f cdv A outer s H E) (nnF (nnS 16)) tNnO:=λpins s1 σ H1 D I h=>by
 obtain ⟨H0,m,u,a,xs,o2,rfl,hu,hm,ha0,ha,hl,hb,sm,q⟩:=h;have nd:=(sc_none).nd;have hy:∃ es p,(match (nnF (nnS 16)).getD 0 (.Pass ⟨0,0,0,0⟩) with | .For _ it _ _ _=>it | _=>.Constant .none 0 p)=.List es p/\ZbW es=some nnE:=⟨_,_,rfl,by kernel_rfl⟩;refine (Zab (Zcq PassesOwn.never rfl (ZaH (ZaK (ZaX (xs:=nnE) (by kernel_rfl)))) (Za3 (i:=2) nd rfl (Or.inl rfl)) ZrT)
  (Zaf (ZaG (Zbp YaS YaU YaV Zbk (pv 0) (Zaa (Zax ZaI (Zax ZaI Zam (pv 1)) Zam) Zac)))):PSs (nnX P w K mg base f cdv A outer s H E) (nnF (nnS 16)) _) pins s1 _ H1 D I ?_
 refine ⟨sl6 (by decide),λL hL=>?_⟩;have sL:=Same.new (o:=.lst (nnE.map V.str)) hL;have eL:(upd H1 L (.lst (nnE.map V.str))) L=some (.lst (nnE.map V.str)):=Zad;generalize upd H1 L (.lst (nnE.map V.str))=H2 at sL eL ⊢;have naL:L≠a:=λz=>by rw [z,ha] at hL;cases hL
 refine ⟨L,rfl,⟨_,SqL.of eL⟩,ZeO (xs:=nnE.map V.str) (λi σ H=>∃ (o2:Option V) (ys:List Str),σ = [some (.ref a),some (.str u),o2]/\H a=some (.lst (ys.map V.str))/\ys.length=m+i/\(∀ y∈ys,badR y=true)/\Same H0 H/\∀ b o,b≠a->H2 b=some o->H b=some o)
  ⟨o2,xs,rfl,sL _ _ ha,hl,hb,sm.trans sL,λ_ _ _ e=>e⟩ (λi σ H _ ⟨_,_,_,_,_,_,_,k⟩=>SqL.of (k _ _ naL eL)) (λi x σ H hx ⟨o2,ys,es,hy,ly,by1,s1,k⟩=>?_) (λσ H ⟨o2,ys,es,hy,ly,by1,s1,k⟩=>?_)⟩
 ·subst es;rw [Yaf] at hx;cases e:nnE[i]? with
  |none=>rw [e] at hx;cases hx
  |some v =>
   rw [e] at hx;have hx:V.str v=x:=Yae hx;subst hx;have hv:v∈nnE:=YaP e;have hi:i<3:=(Yai.mp e).1;show tNnI _ _ _;refine ⟨a,ys,u,v,rfl,hy,by omega,Zhn u hu,Zj3 v hv,?_⟩;refine ⟨_,ys ++ [u ++ v],rfl,Zad,by rw [Yak];show ys.length+1=_;omega,λy hy'=>?_,λb o hb0=>?_,λb o n hb0=>by rw [Zai n];exact k b o n hb0⟩
   ·rcases YaG.mp hy' with h | h
    ·exact by1 y h
    ·rw [YaJ.mp h];exact Zov u hu v hv
   ·rw [Zai (λz=>by rw [z,ha0] at hb0;cases hb0)];exact s1 _ _ hb0
 ·subst es;have h2:(Str.ofString " ").length<=10:=by decide +kernel
  have h3:(Str.ofString " a 1").length<=10:=by decide +kernel
  have h4:=Zhn u hu;refine ⟨_,rfl,.inl ⟨rfl,_,SqL.of hy⟩,_,rfl,_,_,rfl,rfl,sl6 (by omega),_,_,rfl,rfl,sl6 (by rw [ZaS];omega),a,_,_,rfl,rfl,hy,(by rw [Yaa];exact ZaD (by have:(nnE.map V.str).length=3:=rfl;omega)),?_⟩;refine q _ _ ⟨a,ys ++ [(Str.ofString " " ++ u) ++ Str.ofString " a 1"],_,_,rfl,ha0,by rw [Zad,Yah];rfl,?_,λy hy'=>?_,λb o hb0=>?_⟩ (λb o n hb0=>by rw [Zai n];exact k b o n (sL _ _ hb0)) ⟨_,_,rfl⟩
  ·rw [Yak];have:(nnE.map V.str).length=3:=rfl;show ys.length+1=_;omega
  ·rcases YaG.mp hy' with h | h
   ·exact by1 y h
   ·rw [YaJ.mp h];exact Zou u hu
  ·rw [Zai (λz=>by rw [z,ha0] at hb0;cases hb0)];exact s1 _ _ hb0
theorem ZqB {f:Addr}{cdv:Value}{A:Around}{outer:List Env}{s:Shared}{H:Hp}{E:XK}{m:Nat} (hm:m<=700):PS (nnX P w K mg base f cdv A outer s H E) (nnS 16) (λD σ H1=>NnC H m σ H1/\∀ σ' H',NnC H (m+20) σ' H'->D.nx σ' H'):=λpins s1 σ H1 D I h=>by
 obtain ⟨⟨a,xs,o1,o2,rfl,ha0,ha,hl,hb,sm⟩,q⟩:=h;have nd:=(sc_none).nd;refine (Zcq PassesOwn.never rfl (ZaH (ZaK (ZaX (xs:=nnW) (by kernel_rfl)))) (Za3 (i:=1) nd rfl (Or.inl rfl)) Zqz:PS (nnX P w K mg base f cdv A outer s H E) (nnS 16) _) pins s1 _ H1 D I ?_;refine ⟨sl6 (by decide),λL hL=>?_⟩;have sL:=Same.new (o:=.lst (nnW.map V.str)) hL;have eL:(upd H1 L (.lst (nnW.map V.str))) L=some (.lst (nnW.map V.str)):=Zad;generalize upd H1 L (.lst (nnW.map V.str))=H2 at sL eL ⊢;have naL:L≠a:=λz=>by rw [z,ha] at hL;cases hL
 refine ⟨L,rfl,⟨_,SqL.of eL⟩,ZeO (xs:=nnW.map V.str) (λi σ H'=>∃ (o1 o2:Option V) (ys:List Str),σ = [some (.ref a),o1,o2]/\H' a=some (.lst (ys.map V.str))/\ys.length=m+4 * i/\(∀ y∈ys,badR y=true)/\Same H H'/\∀ b o,b≠a->H2 b=some o->H' b=some o)
  ⟨o1,o2,xs,rfl,sL _ _ ha,hl,hb,sm.trans sL,λ_ _ _ e=>e⟩ (λi σ H' _ ⟨_,_,_,_,_,_,_,_,k⟩=>SqL.of (k _ _ naL eL)) (λi x σ H' hx ⟨o1,o2,ys,es,hy,ly,by1,s2,k⟩=>?_) (λσ H' ⟨o1,o2,ys,es,hy,ly,by1,s2,k⟩=>?_)⟩
 ·subst es;rw [Yaf] at hx;cases e:nnW[i]? with
  |none=>rw [e] at hx;cases hx
  |some v =>
   rw [e] at hx;have hx:V.str v=x:=Yae hx;subst hx;have hv:v∈nnW:=YaP e;have hi:i<5:=(Yai.mp e).1;show tNnO _ _ _;refine ⟨H,m+4 * i,v,a,ys,_,rfl,hv,by omega,ha0,hy,ly,by1,s2,λσ' H3 c3 k3 es3=>?_⟩;obtain ⟨a',zs,p1,p2,e3,_,hz,lz,bz,s3⟩:=c3;obtain ⟨r1,r2,e4⟩:=es3;have ea:a'=a:=by
    rw [e3] at e4;injection e4 with e5 e6;injection e5 with e5;injection e5
   subst ea;exact ⟨p1,p2,zs,e3,hz,by omega,bz,s3,λb o nb e=>k3 b o nb (k b o nb e)⟩
 ·have l5:(nnW.map V.str).length=5:=rfl;exact q _ _ ⟨a,ys,o1,o2,es,ha0,hy,by omega,by1,s2⟩
theorem Zol (D:Zak K mg "_law_none" ZgE []):FnAt P w K mg base 1 "_law_none" [] Zi9:=by
 refine FnAt.of D sc_none (λvs H Q E h=>?_) (λf cdv A outer s H vs Q E hr h=>?_)
 ·rw [h.1];rfl
 ·obtain ⟨rfl,q⟩:=h;have nd:=sc_none.nd;have B16:=ZqB (P:=P) (w:=w) (K:=K) (mg:=mg) (base:=base) (f:=f) (cdv:=cdv) (A:=A) (outer:=outer) (s:=s) (H:=H) (E:=E) (m:=78) (by decide);generalize hX:nnX P w K mg base f cdv A outer s H E=X at B16;have hX2:(cxOf CX0 P w K mg base ["some","word","end"] "_law_none" (Zae ZgE) f cdv A outer s H E).nox=X:=hX;rw [hX2];have hv:∀ p:Pos,PE X (.Name "some" p) (tVar 0):=λp=>by subst hX;exact pv 0
  have hi:X.N[0]? = some ("some" : Str):=by subst hX;rfl
  have hx:Loc X.env.scope "some" := by subst hX;exact Or.inl rfl
  have hf:X.fn "some" = true\/X.env.scope.names.lookup ("some" : Str)=some .local:=by subst hX;exact Or.inr rfl
  have hn:X.N.Nodup:=by subst hX;exact nd
  have B0:PS X (nnS 0) _:=ZqA (n:=6) hn hi hx hf (by decide) _ _ _ _;have B1:PS X (nnS 1) _:=Zbj (H0:=H) (m:=6) (n:=5) hn hi hx hf hv (by decide) _ _ _ _ _ _;have B2:PS X (nnS 2) _:=Zbj (H0:=H) (m:=11) (n:=4) hn hi hx hf hv (by decide) _ _ _ _ _ _;have B3:PS X (nnS 3) _:=Zbj (H0:=H) (m:=15) (n:=4) hn hi hx hf hv (by decide) _ _ _ _ _ _;have B4:PS X (nnS 4) _:=Zbj (H0:=H) (m:=19) (n:=3) hn hi hx hf hv (by decide) _ _ _ _ _ _;have B5:PS X (nnS 5) _:=Zbj (H0:=H) (m:=22) (n:=3) hn hi hx hf hv (by decide) _ _ _ _ _ _;have B6:PS X (nnS 6) _:=Zbj (H0:=H) (m:=25) (n:=5) hn hi hx hf hv (by decide) _ _ _ _ _ _;have B7:PS X (nnS 7) _:=Zbj (H0:=H) (m:=30) (n:=5) hn hi hx hf hv (by decide) _ _ _ _ _ _;have B8:PS X (nnS 8) _:=Zbj (H0:=H) (m:=35) (n:=5) hn hi hx hf hv (by decide) _ _ _ _ _ _;have B9:PS X (nnS 9) _:=Zbj (H0:=H) (m:=40) (n:=5) hn hi hx hf hv (by decide) _ _ _ _ _ _;have B10:PS X (nnS 10) _:=Zbj (H0:=H) (m:=45) (n:=6) hn hi hx hf hv (by decide) _ _ _ _ _ _;have B11:PS X (nnS 11) _:=Zbj (H0:=H) (m:=51) (n:=5) hn hi hx hf hv (by decide) _ _ _ _ _ _;have B12:PS X (nnS 12) _:=Zbj (H0:=H) (m:=56) (n:=6) hn hi hx hf hv (by decide) _ _ _ _ _ _;have B13:PS X (nnS 13) _:=Zbj (H0:=H) (m:=62) (n:=5) hn hi hx hf hv (by decide) _ _ _ _ _ _;have B14:PS X (nnS 14) _:=Zbj (H0:=H) (m:=67) (n:=6) hn hi hx hf hv (by decide) _ _ _ _ _ _;have B15:PS X (nnS 15) _:=Zbj (H0:=H) (m:=73) (n:=5) hn hi hx hf hv (by decide) _ _ _ _ _ _;have B17:PS X (nnS 17) _:=Zbj (H0:=H) (m:=98) (n:=4) hn hi hx hf hv (by decide) _ _ _ _ _ _;have B18:PS X (nnS 18) _:=Zbj (H0:=H) (m:=102) (n:=3) hn hi hx hf hv (by decide) _ _ _ _ _ _;have B19:PS X (nnS 19) _:=Zqy (H0:=H) (m:=105) (n:=3) hv (by decide) _ _ _ _ _;have eB:ZaQ ZgE=[nnS 0,nnS 1,nnS 2,nnS 3,nnS 4,nnS 5,nnS 6,nnS 7,nnS 8,nnS 9,nnS 10,nnS 11,nnS 12,nnS 13,nnS 14,nnS 15,nnS 16,nnS 17,nnS 18,nnS 19]:=by kernel_rfl
  rw [eB];generalize nnS 0=S0 at B0 ⊢;generalize nnS 1=S1 at B1 ⊢;generalize nnS 2=S2 at B2 ⊢;generalize nnS 3=S3 at B3 ⊢;generalize nnS 4=S4 at B4 ⊢;generalize nnS 5=S5 at B5 ⊢;generalize nnS 6=S6 at B6 ⊢;generalize nnS 7=S7 at B7 ⊢;generalize nnS 8=S8 at B8 ⊢;generalize nnS 9=S9 at B9 ⊢;generalize nnS 10=S10 at B10 ⊢;generalize nnS 11=S11 at B11 ⊢;generalize nnS 12=S12 at B12 ⊢;generalize nnS 13=S13 at B13 ⊢;generalize nnS 14=S14 at B14 ⊢;generalize nnS 15=S15 at B15 ⊢;generalize nnS 16=S16 at B16 ⊢;generalize nnS 17=S17 at B17 ⊢;generalize nnS 18=S18 at B18 ⊢;generalize nnS 19=S19 at B19 ⊢;refine ⟨_,Zab B0 (Zab B1 (Zab B2 (Zab B3 (Zab B4 (Zab B5 (Zab B6 (Zab B7 (Zab B8 (Zab B9 (Zab B10 (Zab B11 (Zab B12 (Zab B13 (Zab B14 (Zab B15 (Zab B16 (Zab B17 (Zab B18 (Zaf B19))))))))))))))))))),?_⟩;refine ⟨by kernel_rfl,rfl,λσ0 H0 c0=>?_⟩;refine ⟨by kernel_rfl,c0,λσ1 H1 c1=>?_⟩;refine ⟨by kernel_rfl,c1,λσ2 H2 c2=>?_⟩;refine ⟨by kernel_rfl,c2,λσ3 H3 c3=>?_⟩;refine ⟨by kernel_rfl,c3,λσ4 H4 c4=>?_⟩;refine ⟨by kernel_rfl,c4,λσ5 H5 c5=>?_⟩;refine ⟨by kernel_rfl,c5,λσ6 H6 c6=>?_⟩;refine ⟨by kernel_rfl,c6,λσ7 H7 c7=>?_⟩;refine ⟨by kernel_rfl,c7,λσ8 H8 c8=>?_⟩;refine ⟨by kernel_rfl,c8,λσ9 H9 c9=>?_⟩;refine ⟨by kernel_rfl,c9,λσ10 H10 c10=>?_⟩;refine ⟨by kernel_rfl,c10,λσ11 H11 c11=>?_⟩;refine ⟨by kernel_rfl,c11,λσ12 H12 c12=>?_⟩;refine ⟨by kernel_rfl,c12,λσ13 H13 c13=>?_⟩;refine ⟨by kernel_rfl,c13,λσ14 H14 c14=>?_⟩;refine ⟨by kernel_rfl,c14,λσ15 H15 c15=>?_⟩;refine ⟨c15,λσ16 H16 c16=>?_⟩;refine ⟨by kernel_rfl,c16,λσ17 H17 c17=>?_⟩;refine ⟨by kernel_rfl,c17,λσ18 H18 c18=>?_⟩;exact ⟨by kernel_rfl,c18,λb xs H1 h1 h2 h3 h4 h5=>q b xs H1 h1 h2 h3 h4 h5⟩
end
open PySem L2 PyProof.Rows
def ZgU:Expr->Option Str
 | .Constant (.str x) _ _=>some x
 |_=>none
def ZjF:Expr->Option (Str × Str)
 | .Tuple [a,b] _ _=>match ZgU a,ZgU b with
  |some x,some y=>some (x,y)
  |_,_=>none
 |_=>none
def Zfu:List Expr->Option (List (Str × Str))
 | []=>some []
 |e :: es=>match ZjF e,Zfu es with
  |some x,some xs=>some (x :: xs)
  |_,_=>none
theorem Zfe {e:Expr}{x:Str} (h:ZgU e=some x):∃ j p,e=.Constant (.str x) j p:=by
 unfold ZgU at h;split at h
 ·cases h;exact ⟨_,_,rfl⟩
 ·cases h
theorem ZjE {e:Expr}{x:Str × Str} (h:ZjF e=some x):∃ j1 p1 j2 p2 k p,e=.Tuple [.Constant (.str x.1) j1 p1,.Constant (.str x.2) j2 p2] k p:=by
 unfold ZjF at h;split at h
 ·next a b k p =>
  split at h
  ·next u v h1 h2 =>
   cases h;obtain ⟨j1,p1,rfl⟩:=Zfe h1;obtain ⟨j2,p2,rfl⟩:=Zfe h2;exact ⟨_,_,_,_,_,_,rfl⟩
  ·cases h
 ·cases h
abbrev Pq:=List (Addr × Str × Str)
def PqAt (H0 H:Hp) (q:Addr × Str × Str):Prop:=H q.1=some (.tup [.str q.2.1,.str q.2.2])/\H0 q.1=none
theorem Zex {X:Cx}:∀ {es:List Expr}{xs:List (Str × Str)},Zfu es=some xs->PA X es (λ_ H Q=>∀ (qs:Pq) (H':Hp),Same H H'->qs.map (·.2)=xs->(∀ q∈qs,PqAt H H' q)->Q (qs.map λq=>V.ref q.1) H')
 | [],xs,h=>by
  cases h;exact λpos pins s σ H Q I q=>Zac pos pins s σ H Q I (q [] H (Same.refl _) rfl (λq hq=>nomatch hq))
 |e :: es,xs,h=>by
  unfold Zfu at h;split at h
  ·next u v h1 h2 =>
   cases h;obtain ⟨j1,p1,j2,p2,k,p,rfl⟩:=ZjE h1;refine λpos pins s σ H Q I q=>Zaa (X:=X) (ZbE (Zaa Zam (Zaa Zam Zac))) (Zex h2) rfl pos pins s σ H Q I ?_;refine ⟨by show 2<=sizeLine;decide,λa ha qs H' s' hm hq=>?_⟩;have sa:=Same.new (o:=.tup [.str u.1,.str u.2]) ha;refine q ((a,u) :: qs) H' (sa.trans s') (by rw [Yaw,hm]) λz hz=>?_;rcases YaF.mp hz with rfl | hz
   ·exact ⟨s' _ _ Zad,ha⟩
   ·exact ⟨(hq z hz).1,sa.free (hq z hz).2⟩
  ·cases h
open PySem L2 PyProof.Rows
def rdN (w:Str):Nat:=w.cps.toList.foldl (λa c=>a * 10+(c - 48)) 0
def rdZ (w:Str):Int:=match w.cps.toList with
 | 45 :: r=>-((r.foldl (λa c=>a * 10+(c - 48)) 0:Nat):Int)
 |l=>((l.foldl (λa c=>a * 10+(c - 48)) 0:Nat):Int)
def isN (w:Str):Bool:=decide (Zas ((rdN w:Nat):Int)=w) && decide (w.length<=640)
def isZ (w:Str):Bool:=decide (Zas (rdZ w)=w) && decide (w.length<=640)
abbrev TR:=List (Str × List (List Int))
def ts37:TR:=[(("a" : Str),[[1,3],[2,5]]),("abcdefgh",[[1,1,1],[1,1,1]]),("b",[[7]])]
def wid (rows:List (List Int)):Nat:=(rows.head?.map List.length).getD 0
def txtB (x:Str):Bool:=decide (x.length<=900) && (ZfQ x || (
 let y:=Txt.replace x "/" "\n"
 decide (y.length<=2000) && decide ((Txt.split y "\n").length<=600) && (Txt.split y "\n").all (λl=>decide (l.length<=600)) &&
  (!Zpg y || (
   let rows:=(Txt.split y "\n").map λl=>(Txt.split l " ").map rdZ
   !rows.isEmpty && rows.all (λr=>!r.isEmpty) && decide (Txt.split y "\n" = rows.map rowS) && !Zb4 rows))))
def Zd2 (y:Str):Option Nat :=
 if y.length<=900 then
  if hfB (spl y)=false then some 4 else
  match spl y with
  |f :: n :: ws =>
   if f = "looks" then match ws with
    | [p]=>if isN n && isN p && !(Zgf (rdN n) && Zgf (rdN p)) then some 5 else none
    |_=>none
   else if f = "table" then match ws with
    | [t]=>if txtB t then some 6 else none
    |_=>none
   else match ts37.lookup n with
    |none=>some 2
    |some rows =>
     if f = "cell" then match ws with
      | [i,j,x]=>if isN i && isN j && isZ x then (if rows.length<=rdN i\/wid rows<=rdN j then some 0 else if Zb4 (setR rows (rdN i) (rdN j) (rdZ x))=false then some 1 else none) else none
      |_=>none
     else if f = "nth" then match ws with
      | [k]=>if isN k && decide (rows.length * wid rows<=rdN k) then some 3 else none
      |_=>none
     else none
  |_=>none
 else none
open PySem L2 PyProof.Rows
section
variable {C:Addr}{cs:List Addr}
def ZbX (C:Addr) (cs:List Addr):Sp:=λvs H Q E=>ZmZ C (cs.getD 11 0) vs H Q E\/ZmY C (cs.getD 10 0) vs H Q E \/
 Zco C (λvs H Q E=>ZmX C (cs.getD 1 0) (cs.getD 7 0) vs H Q E\/ZgX C (Zm4 (cs.getD 6 0)) vs H Q E) vs H Q E\/Zg0 C (Zh3 (cs.getD 3 0)) vs H Q E \/
 ZgZ C (spRS (cs.getD 9 0) (λvs H Q E=>Zg2 (cs.getD 9 0) vs H Q E\/Zg1 (cs.getD 9 0) vs H Q E)) vs H Q E
def ZcG (ts:Ts):TR:=ts.map λe=>(e.1,e.2.2.map (·.2))
theorem Zhr:∀ {ts:Ts}{n:Str},(ZcG ts).lookup n=none->n∉ts.map (·.1)
 | [],_,_=>λh=>nomatch h
 |e :: ts,n,h=>by
  have h:List.lookup n ((e.1,e.2.2.map (·.2)) :: ZcG ts)=none:=h;rw [List.lookup_cons] at h
  by_cases z:n=e.1
  ·rw [show (n == e.1)=true by rw [z];exact beq_self_eq_true _] at h;cases h
  ·rw [show (n == e.1)=false from Ya1.mpr z] at h;rw [Yaw,YaF,not_or];exact ⟨z,Zhr h⟩
theorem Zkk:∀ {ts:Ts}{n:Str}{rows:List (List Int)},(ZcG ts).lookup n=some rows->∃ t prs,(n,t,prs)∈ts/\prs.map (·.2)=rows
 | [],_,_,h=>by cases h
 |e :: ts,n,rows,h=>by
  have h:List.lookup n ((e.1,e.2.2.map (·.2)) :: ZcG ts)=some rows:=h;rw [List.lookup_cons] at h
  by_cases z:n=e.1
  ·rw [show (n == e.1)=true by rw [z];exact beq_self_eq_true _] at h;have h:e.2.2.map (·.2)=rows:=Yae h;exact ⟨e.2.1,e.2.2,by rw [z];exact YaM ..,h⟩
  ·rw [show (n == e.1)=false from Ya1.mpr z] at h;obtain ⟨t,prs,h1,h2⟩:=Zkk h;exact ⟨t,prs,Yas _ h1,h2⟩
theorem Zo8 (prs:Prs):wid (prs.map (·.2))=w0 prs:=by
 cases prs <;> rfl
theorem ZfP {w:Str} (h:isN w=true):Zas ((rdN w:Nat):Int)=w/\w.length<=640:=by
 unfold isN at h;rw [Yaj,YaN,YaN] at h;exact h
theorem ZqR {w:Str} (h:isZ w=true):Zas (rdZ w)=w/\w.length<=640:=by
 unfold isZ at h;rw [Yaj,YaN,YaN] at h;exact h
theorem Zny {x:Str} (h:txtB x=true) {c:Addr}{H:Hp}{Q:VK}{E:XK} (he:∀ H',Same H H'->E (.ref c) none H'):spRS c (λvs H Q E=>Zg2 c vs H Q E\/Zg1 c vs H Q E) [.str x] H Q E:=by
 unfold txtB at h;rw [Yaj,YaN] at h;obtain ⟨h0,h⟩:=h;refine ⟨x,rfl,h0,?_⟩;cases hn:ZfQ x with
 |true=>exact .inl ⟨rfl,he H (Same.refl _)⟩
 |false =>
  rw [hn,Bool.false_or] at h;simp only [Yaj,Bool.or_eq_true,YaN,YaO,Bool.not_eq_true'] at h;obtain ⟨⟨⟨h1,h2⟩,h3⟩,h4⟩:=h;have hx:ZiJ (Txt.replace x "/" "\n"):=⟨h1,h2,h3⟩;refine .inr ⟨rfl,?_⟩;rcases h4 with h4 | ⟨⟨⟨h4,h5⟩,h6⟩,h7⟩
  ·exact .inl ⟨_,rfl,hx,h4,λH' s'=>he H' s'⟩
  ·refine .inr ⟨_,_,rfl,hx,⟨?_,?_,h6⟩,h7,λH' s'=>he H' s'⟩
   ·intro z;rw [z] at h4;cases h4
   ·intro r hr z;have:=h5 r hr;rw [z] at this;cases this
theorem Zks {H:Hp}{a dx d:Addr}{ts:Ts} (hd:DeskAt H C a dx d ts) (ht:ZcG ts=ts37) {y:Str}{j:Nat} (h:Zd2 y=some j):j<7/\Refs cs (ZbX C cs) H a (.str y) (kdL.getD j 0):=by
 unfold Zd2 at h
 by_cases hl:y.length<=900
 ·rw [Ya7 hl] at h
  by_cases hf:hfB (spl y)=false
  ·rw [Ya7 hf] at h;have h:4=j:=Yae h;subst h;exact ⟨by decide,λH1 Q E s1 he=>.inl ⟨a,.str y,.str y,rfl,.str y,.inr ⟨y,rfl,hl,hf⟩,he⟩⟩
  ·rw [Ya6 hf] at h;have hf:hfB (spl y)=true:=by rw [Bool.not_eq_false] at hf;exact hf
   cases hs:spl y with
   |nil=>rw [hs] at h;cases h
   |cons f r =>
    cases r with
    |nil=>rw [hs] at h;cases h
    |cons n ws =>
     rw [hs] at h;dsimp only at h
     by_cases f1:f = "looks"
     ·rw [Ya7 f1] at h;split at h
      ·next p =>
       split at h
       ·next hc =>
        have h:5=j:=Yae h;subst h;rw [Yaj,Yaj,Bool.not_eq_true'] at hc;obtain ⟨⟨c1,c2⟩,c3⟩:=hc;obtain ⟨n1,l1⟩:=ZfP c1;obtain ⟨n2,l2⟩:=ZfP c2;refine ⟨by decide,λH1 Q E s1 he=>.inr (.inr (.inr (.inl ⟨a,y,rdN n,rdN p,rfl,hl,hf,by rw [hs,n1,n2,f1],by rw [n1];exact l1,by rw [n2];exact l2,λH' s'=>⟨rdN n,rdN p,rfl,c3,he H' s'⟩⟩)))⟩
       ·cases h
      ·cases h
     ·rw [Ya6 f1] at h
      by_cases f2:f = "table"
      ·rw [Ya7 f2] at h;split at h
       ·next t =>
        split at h
        ·next hc =>
         have h:6=j:=Yae h;subst h;have tl:ts.length<=1000:=by
          have:=congrArg List.length ht;unfold ZcG at this;rw [Yaa] at this;rw [this];decide
         exact ⟨by decide,λH1 Q E s1 he=>.inr (.inr (.inr (.inr ⟨a,dx,d,ts,y,n,t,rfl,hd.same s1,tl,hl,hf,by rw [hs,f2],λH2 s2=>Zny hc λH' s'=>he H' (s2.trans s')⟩)))⟩
        ·cases h
       ·cases h
      ·rw [Ya6 f2] at h;split at h
       ·next hlk =>
        have h:2=j:=Yae h;subst h;rw [<- ht] at hlk;exact ⟨by decide,λH1 Q E s1 he=>.inr (.inl ⟨a,dx,d,ts,y,f,n,ws,rfl,hd.same s1,hl,hf,hs,f1,f2,Zhr hlk,he⟩)⟩
       ·next rows hlk =>
        rw [<- ht] at hlk;obtain ⟨t,prs,hm,hrows⟩:=Zkk hlk;have hln:prs.length=rows.length:=by rw [<- hrows,Yaa]
        have hw:wid rows=w0 prs:=by rw [<- hrows,Zo8]
        by_cases f3:f = "cell"
        ·rw [Ya7 f3] at h;split at h
         ·next i jj x =>
          split at h
          ·next hc =>
           rw [Yaj,Yaj] at hc;obtain ⟨⟨c1,c2⟩,c3⟩:=hc;obtain ⟨n1,l1⟩:=ZfP c1;obtain ⟨n2,l2⟩:=ZfP c2;obtain ⟨n3,l3⟩:=ZqR c3;have key:∀ (H1:Hp) (Q:VK) (E:XK),Same H H1->(((prs.length<=rdN i\/w0 prs<=rdN jj)/\∀ H',Same H1 H'->E (.ref (cs.getD 1 0)) none H')\/(rdN i<prs.length/\rdN jj<w0 prs/\Zb4 (setR (prs.map (·.2)) (rdN i) (rdN jj) (rdZ x))=false/\∀ H',Same H1 H'->E (.ref (cs.getD 7 0)) none H'))->ZbX C cs [.ref a,.str y] H1 Q E:=λH1 Q E s1 hk =>
            .inr (.inr (.inl ⟨a,dx,d,t,ts,y,f,n,_,prs,rfl,hd.same s1,hl,hf,hs,f1,f2,hm,λp H' hp s' e'=>.inl ⟨a,dx,d,p,t,ts,n,prs,rdN i,rdN jj,rdZ x,rfl,(hd.same s1).same s',by rw [e',hs,n1,n2,n3,f3],hm,by rw [n1];exact l1,by rw [n2];exact l2,by rw [n3];exact l3,
             hk.elim (λ⟨k1,k2⟩=>.inl ⟨k1,λH2 s2=>k2 H2 (s'.trans s2)⟩) λ⟨k1,k2,k3,k4⟩=>.inr ⟨k1,k2,k3,λH2 s2=>k4 H2 (s'.trans s2)⟩⟩⟩))
           split at h
           ·next ho =>
            have h:0=j:=Yae h;subst h;rw [<- hln,hw] at ho;exact ⟨by decide,λH1 Q E s1 he=>key H1 Q E s1 (.inl ⟨ho,he⟩)⟩
           ·next ho =>
            split at h
            ·next hr =>
             have h:1=j:=Yae h;subst h;rw [<- hln,hw] at ho;rw [<- hrows] at hr;exact ⟨by decide,λH1 Q E s1 he=>key H1 Q E s1 (.inr ⟨by omega,by omega,hr,he⟩)⟩
            ·cases h
          ·cases h
         ·cases h
        ·rw [Ya6 f3] at h
         by_cases f4:f = "nth"
         ·rw [Ya7 f4] at h;split at h
          ·next k =>
           split at h
           ·next hc =>
            have h:3=j:=Yae h;subst h;rw [Yaj,YaN] at hc;obtain ⟨c1,c2⟩:=hc;obtain ⟨n1,l1⟩:=ZfP c1;rw [<- hln,hw] at c2;refine ⟨by decide,λH1 Q E s1 he=>.inr (.inr (.inl ⟨a,dx,d,t,ts,y,f,n,_,prs,rfl,hd.same s1,hl,hf,hs,f1,f2,hm,λp H' hp s' e'=>.inr ⟨a,dx,d,p,t,ts, "nth",n,(rdN k:Nat),prs,rfl,(hd.same s1).same s',by rw [e',hs,n1,f4],hm,by decide +kernel,by decide +kernel,by decide +kernel,by rw [n1];exact l1,
             t,prs,rdN k,rfl,(((hd.same s1).same s').T _ hm).1,(hd.T _ hm).2,c2,λH2 s2=>he H2 (s'.trans s2)⟩⟩))⟩
           ·cases h
          ·cases h
         ·rw [Ya6 f4] at h;cases h
 ·rw [Ya6 hl] at h;cases h
end
open PySem L2 PyProof.Rows
def othB (p:Str × Str):Bool:=match Zd2 p.1 with
 |some j=>decide (p.2=kdW.getD j "")
 |none=>false
def txOk (t:Str):Bool:=decide (t.length<=100) && othB (Str.ofString "table zz " ++ t, "text") && othB (Str.ofString "table a " ++ t, "text")
def Zl1 (n:Nat) (es:List Expr):Bool:=match Zfu es with
 |some ys=>ys.length == n && ys.all othB
 |none=>false
theorem Zhi {n:Nat}{es:List Expr} (h:Zl1 n es=true):∃ ys,Zfu es=some ys/\ys.length=n/\∀ y∈ys,othB y=true:=by
 unfold Zl1 at h;split at h
 ·next ys hy =>
  rw [Yaj,beq_iff_eq,YaO] at h;exact ⟨ys,hy,h.1,h.2⟩
 ·cases h
def txTs (n:Nat) (es:List Expr):Bool:=match ZbW es with
 |some ys=>ys.length == n && ys.all txOk
 |none=>false
theorem ZiN {n:Nat}{es:List Expr} (h:txTs n es=true):∃ ys,ZbW es=some ys/\ys.length=n/\∀ y∈ys,txOk y=true:=by
 unfold txTs at h;split at h
 ·next ys hy =>
  rw [Yaj,beq_iff_eq,YaO] at h;exact ⟨ys,hy,h.1,h.2⟩
 ·cases h
structure OtS (H0:Hp) (n:Nat) (a:Addr) (qs:Pq) (H:Hp):Prop where
 n0:H0 a=none
 l:H a=some (.lst (qs.map λq=>V.ref q.1))
 len:qs.length=n
 all:∀ q∈qs,PqAt H0 H q/\othB q.2=true
 sm:Same H0 H
theorem OtS.same {H0 H H':Hp}{n:Nat}{a:Addr}{qs:Pq} (h:OtS H0 n a qs H) (s:Same H H'):OtS H0 n a qs H' :=
 ⟨h.n0,s _ _ h.l,h.len,λq hq=>⟨⟨s _ _ (h.all q hq).1.1,(h.all q hq).1.2⟩,(h.all q hq).2⟩,h.sm.trans s⟩
theorem OtS.add {H0 H H':Hp}{m n:Nat}{a p b:Addr}{qs zs:Pq} (h:OtS H0 m a qs H) (s:Same H H') (hz:∀ q∈zs,PqAt H H' q/\othB q.2=true) (hn:zs.length=n) (hb:H' b=none):OtS H0 (m+n) b (qs ++ zs) (upd H' b (.lst ((qs ++ zs).map λq=>V.ref q.1))):=by
 have sb:=Same.new (o:=.lst ((qs ++ zs).map λq=>V.ref q.1)) hb;refine ⟨h.sm.free (s.free hb),Zad,by rw [Yak,h.len,hn],λq hq=>?_,(h.sm.trans s).trans sb⟩;rcases YaG.mp hq with hq | hq
 ·exact ⟨⟨sb _ _ (s _ _ (h.all q hq).1.1),(h.all q hq).1.2⟩,(h.all q hq).2⟩
 ·exact ⟨⟨sb _ _ (hz q hq).1.1,h.sm.free (hz q hq).1.2⟩,(hz q hq).2⟩
def OtC (H0:Hp) (n:Nat) (σ:L2.St) (H:Hp):Prop:=∃ a qs,σ = [some (.ref a),none]/\OtS H0 n a qs H
def OtT (H0:Hp) (n k:Nat) (σ:L2.St) (H:Hp):Prop:=∃ (a:Addr) (qs:Pq) (b:Addr) (xs:List Str),σ = [some (.ref a),some (.ref b)]/\OtS H0 n a qs H/\H b=some (.lst (xs.map V.str))/\xs.length=k/\∀ x∈xs,txOk x=true
theorem Zp8 {X:Cx}{x:Str}{n:Nat} (nd:X.N.Nodup) (hi:X.N[0]? = some x) (hx:Loc X.env.scope x) (hf:X.fn x=true\/X.env.scope.names.lookup x=some .local) (hmn:n<=900) (es:List Expr) (pos pos' p2:Pos) :
  PS X (.Assign [.Name x pos'] (.List es pos) p2) (λE σ H=>Zl1 n es=true/\σ = [none,none]/\∀ σ' H',OtC H n σ' H'->E.nx σ' H'):=λpins s σ H D I ⟨hb,es0,q⟩=>by
 obtain ⟨ys,hy,ly,hys⟩:=Zhi hb;subst es0;refine Zau nd hi hx (ZaK (Zex hy)) rfl hf pins s _ H D I λqs H' s' hm hq=>?_;have lq:qs.length=n:=by
  have:=congrArg List.length hm;rw [Yaa] at this;omega
 refine ⟨sl6 (by rw [Yaa];omega),λp hp=>q _ _ ⟨p,qs,rfl,s'.free hp,Zad,lq,λz hz=>?_,s'.trans (Same.new hp)⟩⟩;exact ⟨⟨Same.new hp _ _ (hq z hz).1,(hq z hz).2⟩,hys _ (by rw [<- hm];exact Yar.mpr ⟨z,hz,rfl⟩)⟩
theorem Zb7 {X:Cx}{x:Str}{H0:Hp}{m n:Nat} (nd:X.N.Nodup) (hi:X.N[0]? = some x) (hx:Loc X.env.scope x) (hf:X.fn x=true\/X.env.scope.names.lookup x=some .local) (hv:∀ p:Pos,PE X (.Name x p) (tVar 0)) (hmn:m+n<=900) (es:List Expr) (pos pos' p2 q1 q2:Pos) :
  PS X (.Assign [.Name x pos'] (.BinOp (.Name x q1) .Add (.List es pos) q2) p2) (λE σ H=>Zl1 n es=true/\OtC H0 m σ H/\∀ σ' H',OtC H0 (m+n) σ' H'->E.nx σ' H'):=λpins s σ H D I ⟨hb,⟨a,qs,es0,hs⟩,q⟩=>by
 obtain ⟨ys,hy,ly,hys⟩:=Zhi hb;subst es0;refine Zau nd hi hx (Zax Zb8 (hv q1) (ZaK (Zex hy))) rfl hf pins s _ H D I ⟨_,rfl,λzs H' s' hm hq=>?_⟩;have lq:zs.length=n:=by
  have:=congrArg List.length hm;rw [Yaa] at this;omega
 have ln:=hs.len;refine ⟨sl6 (by rw [Yaa];omega),λp hp=>?_⟩;have sp:=Same.new (o:=.lst (zs.map λq=>V.ref q.1)) hp;refine ⟨a,p,_,_,rfl,rfl,sp _ _ (s' _ _ hs.l),Zad,sl6 (by rw [Yaa,Yaa];omega),λb hb'=>?_⟩;have:=hs.add (p:=p) (b:=b) (s'.trans sp) (λz hz=>⟨⟨sp _ _ (hq z hz).1,(hq z hz).2⟩,hys _ (by rw [<- hm];exact Yar.mpr ⟨z,hz,rfl⟩)⟩) lq hb';rw [Yah] at this;exact q _ _ ⟨b,qs ++ zs,rfl,this⟩
theorem Zpd {X:Cx}{x:Str}{H0:Hp}{m n:Nat} (nd:X.N.Nodup) (hi:X.N[1]? = some x) (hx:Loc X.env.scope x) (hf:X.fn x=true\/X.env.scope.names.lookup x=some .local) (hmn:n<=900) (es:List Expr) (pos pos' p2:Pos) :
  PS X (.Assign [.Name x pos'] (.List es pos) p2) (λE σ H=>txTs n es=true/\OtC H0 m σ H/\∀ σ' H',OtT H0 m n σ' H'->E.nx σ' H'):=λpins s σ H D I ⟨hb,⟨a,qs,es0,hs⟩,q⟩=>by
 obtain ⟨ys,hy,ly,hys⟩:=ZiN hb;subst es0;refine Zau nd hi hx (ZaK (ZaX hy)) rfl hf pins s _ H D I ⟨sl6 (by rw [Yaa];omega),λp hp=>?_⟩;exact q _ _ ⟨a,qs,p,ys,rfl,hs.same (Same.new hp),Zad,ly,hys⟩
theorem ZgQ {X:Cx}{x:Str}{H0:Hp}{k m n:Nat} (nd:X.N.Nodup) (hi:X.N[1]? = some x) (hx:Loc X.env.scope x) (hf:X.fn x=true\/X.env.scope.names.lookup x=some .local) (hv:∀ p:Pos,PE X (.Name x p) (tVar 1)) (hmn:m+n<=900) (es:List Expr) (pos pos' p2 q1 q2:Pos) :
  PS X (.Assign [.Name x pos'] (.BinOp (.Name x q1) .Add (.List es pos) q2) p2) (λE σ H=>txTs n es=true/\OtT H0 k m σ H/\∀ σ' H',OtT H0 k (m+n) σ' H'->E.nx σ' H'):=λpins s σ H D I ⟨hb,⟨a,qs,c,xs,es0,hs,hc,lc,hxs⟩,q⟩=>by
 obtain ⟨ys,hy,ly,hys⟩:=ZiN hb;subst es0;refine Zau nd hi hx (Zax Zb8 (hv q1) (ZaK (ZaX hy))) rfl hf pins s _ H D I ⟨_,rfl,sl6 (by rw [Yaa];omega),λp hp=>?_⟩;have sp:Same H (upd H p (.lst (ys.map V.str))):=Same.new hp;refine ⟨c,p,_,_,rfl,rfl,sp _ _ hc,Zad,sl6 (by rw [Yaa,Yaa];omega),λb hb'=>?_⟩;refine q _ _ ⟨a,qs,b,xs ++ ys,rfl,(hs.same sp).same (Same.new hb'),by rw [Zad,Yah],by rw [Yak];omega,λz hz=>?_⟩;rcases YaG.mp hz with h | h
 ·exact hxs z h
 ·exact hys z h
def otS (k:Nat):Stmt:=(ZaQ ZbS).getD k (.Pass ⟨0,0,0,0⟩)
section
variable {P:Program}{w:World}{K:Yab}{mg:Str->Option Value}{base:Heap}
theorem sc_others:FnScope ["some","texts"] [] (Zae ZbS):=⟨rfl,rfl,rfl,by decide +kernel,rfl,by decide +kernel,by decide +kernel⟩
abbrev otX (P:Program) (w:World) (K:Yab) (mg:Str->Option Value) (base:Heap) (f:Addr) (cdv:Value) (A:Around) (outer:List Env) (s:Shared) (H:Hp) (E:XK):Cx:=(cxOf CX0 P w K mg base ["some","texts"] "_law_others" (Zae ZbS) f cdv A outer s H E).nox
theorem ZiM {b:Addr}{xs:List Str}{pre:Str}{H:Hp}{te:TE}{Q:VK} (hp:pre.length<=100) (hq:H b=some (.lst (xs.map V.str))) (hn:xs.length<=900) (hx:∀ x∈xs,txOk x=true) (hpre:∀ x∈xs,othB (pre ++ x, "text")=true) (hte:te=tTup (Zgb (tOp (λx y H Q=>∃ i j,x=.str i/\y=.str j/\i.length+j.length<=sizeLine/\Q (.str (i ++ j)) H) (tC (.str pre)) (tVar 0)) (Zgb (tC (.str "text")) tNil)))
  (fin:∀ (D:Addr) (zs:Pq) (H':Hp),H D=none->Same H H'->H' D=some (.lst (zs.map λq=>V.ref q.1))->zs.length=xs.length->(∀ z∈zs,PqAt H H' z/\othB z.2=true)->Q (.ref D) H'):ZaR (Itl K b) (ZaT 0) Zbe te [none] H Q:=by
 subst hte;have hq':SqL K H b (xs.map V.str):=SqL.of hq;refine ZdU (ms:=xs) V.str (λx=>.tup [.str (pre ++ x),.str "text"]) (by omega) (λi H' hi sm=>⟨_,V.str xs[i],sm.seq hq',by simp [hi]⟩) (λH' sm=>⟨_,sm.seq hq',by simp⟩) (λi H' x H2 h sm ⟨e,hy⟩=>⟨e,?_⟩) (λx hm H' Q' sm q'=>?_) (λD qs H' hD hqs _ hall sm hDl=>?_)
 ·have hy:=hy _ (sm.seq hq');rw [Yaf,Yac h] at hy;exact (Yae hy).symm
 ·have hxl:x.length<=100:=by
   have:=hx x hm;unfold txOk at this;rw [Yaj,Yaj,YaN] at this;exact this.1.1
  exact ⟨_,rfl,_,_,rfl,rfl,sl6 (by omega),(by show 2<=sizeLine;decide),λl hl=>q' l _ hl (Same.new hl) Zad⟩
 ·refine fin D (qs.map λq=>(q.1,pre ++ q.2, "text")) H' hD sm (by rw [hDl,Yau];rfl) (by rw [Yaa,<- hqs,Yaa]) λz hz=>?_;obtain ⟨q,hq2,rfl⟩:=Yar.mp hz;exact ⟨⟨(hall q hq2).1,(hall q hq2).2.1⟩,hpre _ (by rw [<- hqs];exact Yar.mpr ⟨q,hq2,rfl⟩)⟩
end
open PySem L2 PyProof.Rows
section
variable {P:Program}{w:World}{K:Yab}{mg:Str->Option Value}{base:Heap}
def Zek:Sp:=λvs H Q _=>vs=[]/\∀ (b:Addr) (qs:Pq) (H':Hp),OtS H 95 b qs H'->Q (.ref b) H'
theorem ZrL {f:Addr}{cdv:Value}{A:Around}{outer:List Env}{s:Shared}{H:Hp}{E:XK}{m k:Nat} (hm:m+k<=700):PS (otX P w K mg base f cdv A outer s H E) (otS 17) (λD σ H1=>OtT H m k σ H1/\∀ σ' H',OtT H (m+k) k σ' H'->D.nx σ' H'):=λpins s1 σ H1 D I h=>by
 obtain ⟨⟨a,qs,b,xs,rfl,hs,hb,lx,hx⟩,q⟩:=h;have nd:=(sc_others).nd;have nd1:(["text"]:List Str).Nodup:=by decide +kernel
 refine (Zau (i:=0) nd rfl (Or.inl rfl) (Zax Zb8 (pv 0) (Zaz ["text"] [none] (Zae ZbS) ["some","texts"] rfl (ZaH (pv 1)) (by decide +kernel) (λcl C s2 H2 ex=>pg_c 0 nd1) (λcl C s2 H2 ex=>Zaw) (λcl C s2 H2 ex=>ZbE (Zaa (Zax ZaI Zam (pv 0)) (Zaa Zam Zac))))):PS (otX P w K mg base f cdv A outer s H E) (otS 17) _) pins s1 _ H1 D I ?_;have ln:=hs.len;refine ⟨_,rfl,_,rfl,b,rfl,⟨_,SqL.of hb⟩,ZiM (by decide +kernel) hb (by omega) hx (λx hm=>?_) rfl λp zs H' hp s' hl lz hz=>?_⟩
 ·have:=hx x hm;unfold txOk at this;rw [Yaj,Yaj] at this;exact this.1.2
 ·refine ⟨a,p,_,_,rfl,rfl,s' _ _ hs.l,hl,sl6 (by rw [Yaa,Yaa];omega),λc hc=>?_⟩;have:=hs.add (p:=p) (b:=c) s' hz (lz.trans lx) hc;rw [Yah] at this;exact q _ _ ⟨c,qs ++ zs,b,xs,rfl,this,Same.new hc _ _ (s' _ _ hb),lx,hx⟩
theorem ot_a {f:Addr}{cdv:Value}{A:Around}{outer:List Env}{s:Shared}{H:Hp}{E:XK}{m k:Nat} (hm:m+k<=700):PS (otX P w K mg base f cdv A outer s H E) (otS 18) (λD σ H1=>OtT H m k σ H1/\∀ b qs H',OtS H (m+k) b qs H'->D.rt (.ref b) H'):=λpins s1 σ H1 D I h=>by
 obtain ⟨⟨a,qs,b,xs,rfl,hs,hb,lx,hx⟩,q⟩:=h;have nd1:(["text"]:List Str).Nodup:=by decide +kernel
 refine (Zal (Zax Zb8 (pv 0) (Zaz ["text"] [none] (Zae ZbS) ["some","texts"] rfl (ZaH (pv 1)) (by decide +kernel) (λcl C s2 H2 ex=>pg_c 0 nd1) (λcl C s2 H2 ex=>Zaw) (λcl C s2 H2 ex=>ZbE (Zaa (Zax ZaI Zam (pv 0)) (Zaa Zam Zac))))):PS (otX P w K mg base f cdv A outer s H E) (otS 18) _) pins s1 _ H1 D I ?_;have ln:=hs.len;refine ⟨_,rfl,_,rfl,b,rfl,⟨_,SqL.of hb⟩,ZiM (by decide +kernel) hb (by omega) hx (λx hm=>?_) rfl λp zs H' hp s' hl lz hz=>?_⟩
 ·have:=hx x hm;unfold txOk at this;rw [Yaj,Yaj] at this;exact this.2
 ·refine ⟨a,p,_,_,rfl,rfl,s' _ _ hs.l,hl,sl6 (by rw [Yaa,Yaa];omega),λc hc=>?_⟩;have:=hs.add (p:=p) (b:=c) s' hz (lz.trans lx) hc;rw [Yah] at this;exact q c (qs ++ zs) _ this
theorem ZjN (D:Zak K mg "_law_others" ZbS []):FnAt P w K mg base 1 "_law_others" [] Zek:=by
 refine FnAt.of D sc_others (λvs H Q E h=>?_) (λf cdv A outer s H vs Q E hr h=>?_)
 ·rw [h.1];rfl
 ·obtain ⟨rfl,q⟩:=h;have nd:=sc_others.nd;have B17:=ZrL (P:=P) (w:=w) (K:=K) (mg:=mg) (base:=base) (f:=f) (cdv:=cdv) (A:=A) (outer:=outer) (s:=s) (H:=H) (E:=E) (m:=29) (k:=33) (by decide);have B18:=ot_a (P:=P) (w:=w) (K:=K) (mg:=mg) (base:=base) (f:=f) (cdv:=cdv) (A:=A) (outer:=outer) (s:=s) (H:=H) (E:=E) (m:=62) (k:=33) (by decide);generalize hX:otX P w K mg base f cdv A outer s H E=X at B17 B18;have hX2:(cxOf CX0 P w K mg base ["some","texts"] "_law_others" (Zae ZbS) f cdv A outer s H E).nox=X:=hX;rw [hX2];have hv:∀ p:Pos,PE X (.Name "some" p) (tVar 0):=λp=>by subst hX;exact pv 0
  have hi:X.N[0]? = some ("some" : Str):=by subst hX;rfl
  have hx:Loc X.env.scope "some" := by subst hX;exact Or.inl rfl
  have hf:X.fn "some" = true\/X.env.scope.names.lookup ("some" : Str)=some .local:=by subst hX;exact Or.inr rfl
  have hv1:∀ p:Pos,PE X (.Name "texts" p) (tVar 1):=λp=>by subst hX;exact pv 1
  have hi1:X.N[1]? = some ("texts" : Str):=by subst hX;rfl
  have hx1:Loc X.env.scope "texts" := by subst hX;exact Or.inl rfl
  have hf1:X.fn "texts" = true\/X.env.scope.names.lookup ("texts" : Str)=some .local:=by subst hX;exact Or.inr rfl
  have hn:X.N.Nodup:=by subst hX;exact nd
  have B0:PS X (otS 0) _:=Zp8 (n:=3) hn hi hx hf (by decide) _ _ _ _;have B1:PS X (otS 1) _:=Zb7 (H0:=H) (m:=3) (n:=2) hn hi hx hf hv (by decide) _ _ _ _ _ _;have B2:PS X (otS 2) _:=Zb7 (H0:=H) (m:=5) (n:=3) hn hi hx hf hv (by decide) _ _ _ _ _ _;have B3:PS X (otS 3) _:=Zb7 (H0:=H) (m:=8) (n:=2) hn hi hx hf hv (by decide) _ _ _ _ _ _;have B4:PS X (otS 4) _:=Zb7 (H0:=H) (m:=10) (n:=3) hn hi hx hf hv (by decide) _ _ _ _ _ _;have B5:PS X (otS 5) _:=Zb7 (H0:=H) (m:=13) (n:=2) hn hi hx hf hv (by decide) _ _ _ _ _ _;have B6:PS X (otS 6) _:=Zb7 (H0:=H) (m:=15) (n:=3) hn hi hx hf hv (by decide) _ _ _ _ _ _;have B7:PS X (otS 7) _:=Zb7 (H0:=H) (m:=18) (n:=2) hn hi hx hf hv (by decide) _ _ _ _ _ _;have B8:PS X (otS 8) _:=Zb7 (H0:=H) (m:=20) (n:=3) hn hi hx hf hv (by decide) _ _ _ _ _ _;have B9:PS X (otS 9) _:=Zb7 (H0:=H) (m:=23) (n:=2) hn hi hx hf hv (by decide) _ _ _ _ _ _;have B10:PS X (otS 10) _:=Zb7 (H0:=H) (m:=25) (n:=2) hn hi hx hf hv (by decide) _ _ _ _ _ _;have B11:PS X (otS 11) _:=Zb7 (H0:=H) (m:=27) (n:=2) hn hi hx hf hv (by decide) _ _ _ _ _ _;have B12:PS X (otS 12) _:=Zpd (H0:=H) (m:=29) (n:=9) hn hi1 hx1 hf1 (by decide) _ _ _ _;have B13:PS X (otS 13) _:=ZgQ (H0:=H) (k:=29) (m:=9) (n:=8) hn hi1 hx1 hf1 hv1 (by decide) _ _ _ _ _ _;have B14:PS X (otS 14) _:=ZgQ (H0:=H) (k:=29) (m:=17) (n:=3) hn hi1 hx1 hf1 hv1 (by decide) _ _ _ _ _ _;have B15:PS X (otS 15) _:=ZgQ (H0:=H) (k:=29) (m:=20) (n:=7) hn hi1 hx1 hf1 hv1 (by decide) _ _ _ _ _ _;have B16:PS X (otS 16) _:=ZgQ (H0:=H) (k:=29) (m:=27) (n:=6) hn hi1 hx1 hf1 hv1 (by decide) _ _ _ _ _ _;have eB:ZaQ ZbS=[otS 0,otS 1,otS 2,otS 3,otS 4,otS 5,otS 6,otS 7,otS 8,otS 9,otS 10,otS 11,otS 12,otS 13,otS 14,otS 15,otS 16,otS 17,otS 18]:=by kernel_rfl
  rw [eB];generalize otS 0=S0 at B0 ⊢;generalize otS 1=S1 at B1 ⊢;generalize otS 2=S2 at B2 ⊢;generalize otS 3=S3 at B3 ⊢;generalize otS 4=S4 at B4 ⊢;generalize otS 5=S5 at B5 ⊢;generalize otS 6=S6 at B6 ⊢;generalize otS 7=S7 at B7 ⊢;generalize otS 8=S8 at B8 ⊢;generalize otS 9=S9 at B9 ⊢;generalize otS 10=S10 at B10 ⊢;generalize otS 11=S11 at B11 ⊢;generalize otS 12=S12 at B12 ⊢;generalize otS 13=S13 at B13 ⊢;generalize otS 14=S14 at B14 ⊢;generalize otS 15=S15 at B15 ⊢;generalize otS 16=S16 at B16 ⊢;generalize otS 17=S17 at B17 ⊢;generalize otS 18=S18 at B18 ⊢;refine ⟨_,Zab B0 (Zab B1 (Zab B2 (Zab B3 (Zab B4 (Zab B5 (Zab B6 (Zab B7 (Zab B8 (Zab B9 (Zab B10 (Zab B11 (Zab B12 (Zab B13 (Zab B14 (Zab B15 (Zab B16 (Zab B17 (Zaf B18)))))))))))))))))),?_⟩;refine ⟨by kernel_rfl,rfl,λσ0 H0 c0=>?_⟩;refine ⟨by kernel_rfl,c0,λσ1 H1 c1=>?_⟩;refine ⟨by kernel_rfl,c1,λσ2 H2 c2=>?_⟩;refine ⟨by kernel_rfl,c2,λσ3 H3 c3=>?_⟩;refine ⟨by kernel_rfl,c3,λσ4 H4 c4=>?_⟩;refine ⟨by kernel_rfl,c4,λσ5 H5 c5=>?_⟩;refine ⟨by kernel_rfl,c5,λσ6 H6 c6=>?_⟩;refine ⟨by kernel_rfl,c6,λσ7 H7 c7=>?_⟩;refine ⟨by kernel_rfl,c7,λσ8 H8 c8=>?_⟩;refine ⟨by kernel_rfl,c8,λσ9 H9 c9=>?_⟩;refine ⟨by kernel_rfl,c9,λσ10 H10 c10=>?_⟩;refine ⟨by kernel_rfl,c10,λσ11 H11 c11=>?_⟩;refine ⟨by kernel_rfl,c11,λσ12 H12 c12=>?_⟩;refine ⟨by kernel_rfl,c12,λσ13 H13 c13=>?_⟩;refine ⟨by kernel_rfl,c13,λσ14 H14 c14=>?_⟩;refine ⟨by kernel_rfl,c14,λσ15 H15 c15=>?_⟩;refine ⟨by kernel_rfl,c15,λσ16 H16 c16=>?_⟩;refine ⟨c16,λσ17 H17 c17=>?_⟩;exact ⟨c17,λb qs H1 h1=>q b qs H1 h1⟩
end
open PySem L2 PyProof.Rows
def sgL:List Nat:=[33,34,92,35,36,38,39,40,41,42,43,44,45,46,47,48,49,50,51,52,53,54,55,56,57,58,59,60,61,62,63,64,65,66,67,68,69,70,71,72,73,74,75,76,77,78,79,80,81,82,83,84,85,86,87,88,89,90,91,93,94,95,96,123,124,125,126,9,10]
def nm8:List Nat:=[97,98,99,100,101,102,103,104]
def spW (l:List Nat) (k c b:Nat):List Nat:=l.take k ++ [c] ++ l.drop (k+b)
theorem Zpu:∀ k:Fin 9,∀ c∈sgL,∀ b:Fin 2,ZeJ (spW nm8 k c b)=false:=by decide +kernel
theorem Zi1:∀ c∈sgL,c≠32:=by decide +kernel
def fwL:List Str:=[("cell" : Str), "find","stair","walk","below","nth","drop","show","table"]
open PySem L2 PyProof.Rows
theorem ZiY {ws:List Str} (h:ws≠[]) (hf:∀ w∈ws,32∉w.cps.toList) (hs:Txt.startswith (Txt.join " " ws) "table " = false):spl (Txt.join " " ws)=ws:=by
 unfold spl;rw [hs,Ya6 (by decide),show ((" " : Str))=⟨#[32]⟩ from ZbN];exact ZcQ h hf
theorem Zmu {f:Str}{ws:List Str} (h:formL.lookup f=none):hfB (f :: ws)=false:=by
 show (match formL.lookup f with | none=>false | some ks=>_)=_;rw [h]
theorem ZoN {f n:Str}{ws:List Str} (hl:f ≠ "looks") (h:ZeJ n.cps.toList=false):hfB (f :: n :: ws)=false:=by
 show (match formL.lookup f with | none=>false | some ks=>_)=_;cases e:formL.lookup f with
 |none=>rfl
 |some ks =>
  have hk:ks.head? = some ("NAME" : Str):=by
   have:∀ p∈formL,p.1 ≠ "looks" -> p.2.head? = some ("NAME" : Str):=by decide +kernel
   have hm:(f,ks)∈formL:=by
    have:=List.lookup_eq_some_iff.mp e;obtain ⟨l1,l2,e1,_⟩:=this;rw [e1];simp
   exact this (f,ks) hm hl
  cases ks with
  |nil=>cases hk
  |cons k r =>
   have hk:k = "NAME" := Yae hk;subst hk;show (decide _ && (wrB "NAME" n :: List.zipWith wrB r ws).all id)=false;have:wrB "NAME" n=false:=by
    unfold wrB;rw [Ya7 rfl];exact h
   rw [List.all_cons,this];simp
end Seek
namespace Seek
open PySem L2 PyProof.Rows Builtin Builtin.Str
theorem Zj0 (s sub:Str) (hi M:Nat):∀ (l:List Nat) (st:Array Nat × Nat),st.fst.size<=(forIn l st (StrLaws.occBody s sub hi M)).run.fst.size
 | [],st=>Yag _
 |a :: l,st=>by
  rw [List.forIn_cons];unfold StrLaws.occBody;split
  ·refine Yay ?_ (Zj0 s sub hi M l _);simp only [Array.size_push];omega
  ·exact Zj0 s sub hi M l _
theorem ZeB (s sub:Str) (hi:Nat) {L M:Nat} (hM:L<=M):∀ (l:List Nat) (st:Array Nat × Nat),(forIn l st (StrLaws.occBody s sub hi M)).run.fst.size<=L->(forIn l st (StrLaws.occBody s sub hi L)).run=(forIn l st (StrLaws.occBody s sub hi M)).run
 | [],st,_=>rfl
 |a :: l,st,h=>by
  rw [List.forIn_cons] at h ⊢;rw [List.forIn_cons]
  by_cases c:((st.fst.size<M/\st.snd<=a)/\a+sub.length<=hi)/\subAt s sub a=true
  ·have e:StrLaws.occBody s sub hi M a st=pure (ForInStep.yield (st.fst.push a,a+sub.length)):=Ya7 c;rw [e] at h ⊢;have h:(forIn l (st.fst.push a,a+sub.length) (StrLaws.occBody s sub hi M)).run.fst.size<=L:=h;have u:=Zj0 s sub hi M l (st.fst.push a,a+sub.length);dsimp only at u;rw [Array.size_push] at u;have e2:StrLaws.occBody s sub hi L a st=pure (ForInStep.yield (st.fst.push a,a+sub.length)):=Ya7 ⟨⟨⟨by omega,c.1.1.2⟩,c.1.2⟩,c.2⟩;rw [e2];exact ZeB s sub hi hM l _ h
  ·have e:StrLaws.occBody s sub hi M a st=pure (ForInStep.yield (st.fst,st.snd)):=Ya6 c;rw [e] at h ⊢;have e2:StrLaws.occBody s sub hi L a st=pure (ForInStep.yield (st.fst,st.snd)):=Ya6 λc'=>c ⟨⟨⟨by have:=c'.1.1.1;omega,c'.1.1.2⟩,c'.1.2⟩,c'.2⟩;rw [e2];exact ZeB s sub hi hM l _ h
theorem Zke {x y:Str} (h:(Txt.split x y).length<=3):Txt.splitMax x y 2=Txt.split x y:=by
 unfold Txt.split at h ⊢;unfold Txt.splitMax;have key:(occurrences x y 0 x.length (x.length+1)).length<=2->occurrences x y 0 x.length (limitOf x 2)=occurrences x y 0 x.length (x.length+1):=λk=>by
  show occurrences x y 0 x.length 2=_;rw [StrLaws.occ_eq,YaD] at k;rcases Nat.lt_or_ge (x.length+1) 2 with z | z
  ·have z0:x.length=0:=by omega
   have k2:=StrLaws.occ_length_le_len x y 0 x.length 2;rw [StrLaws.occ_eq,YaD] at k2;rw [StrLaws.occ_eq,StrLaws.occ_eq];exact congrArg _ (congrArg _ (ZeB x y x.length (Nat.le_of_lt z) _ _ (by omega)).symm)
  ·rw [StrLaws.occ_eq,StrLaws.occ_eq];exact congrArg _ (congrArg _ (ZeB x y x.length z _ _ k))
 split
 ·rfl
 ·next h1 =>
  rw [Ya6 h1] at h
  by_cases h2:(occurrences x y 0 x.length (x.length+1)).isEmpty=true
  ·have e:occurrences x y 0 x.length (x.length+1)=[]:=List.isEmpty_iff.mp h2;rw [key (by rw [e];exact YaH _)]
  ·rw [Ya6 h2] at h;have:(occurrences x y 0 x.length (x.length+1)).length<=2:=by
    unfold partsBetween at h;rw [Yaa,List.length_zip,YaC,Yaa,Yak,YaI,Nat.min_self] at h;omega
   rw [key this]
theorem ZnB {l t:List Nat} (h:32∉l) (hp:[116,97,98,108,101,32] <+: l ++ 32 :: t):l=[116,97,98,108,101]:=by
 obtain ⟨r,e⟩:=hp
 match l,h,e with
 | [],h,e=>simp at e
 | [a],h,e=>simp at e
 | [a,b],h,e=>simp at e
 | [a,b,c],h,e=>simp at e
 | [a,b,c,d],h,e=>simp at e
 | [a,b,c,d,f],h,e =>
  simp at e;obtain ⟨rfl,rfl,rfl,rfl,rfl,_⟩:=e;rfl
 |a :: b :: c :: d :: f :: g :: l,h,e =>
  simp at e;obtain ⟨rfl,rfl,rfl,rfl,rfl,rfl,_⟩:=e;exact absurd (by simp) h
theorem Zrd {x:Str}{k:Nat} (h:k<=x.cps.toList.length):(Txt.slice x none (some (k:Int))).cps.toList=x.cps.toList.take k:=by
 have hh:=StrLaws.sliceText_to (x:=x) (j:=(k:Int)) ⟨by omega,by omega⟩;rw [show Txt.slice x none (some (k:Int))=StrLaws.sliceText x none (some (k:Int)) from rfl,hh];simp
theorem ZmF {x:Str}{k:Nat} (h:k<=x.cps.toList.length+1):(Txt.slice x (some (k:Int)) none).cps.toList=x.cps.toList.drop k:=by
 rcases Nat.lt_or_ge x.cps.toList.length k with z | z
 ·rw [List.drop_eq_nil_of_le (by omega)];have hs:strSliceIndices (some (k:Int)) none 1 x.length=[]:=by
   rw [ZaN] at z h;unfold strSliceIndices sliceRange;simp only [show (1:Int) > 0 by decide,if_true];rw [List.map_eq_nil_iff,List.range_eq_nil];split <;> (try split) <;> (try split) <;> (try simp only [Int.ediv_one]) <;> omega
  unfold Txt.slice;rw [hs];split
  ·next e =>
   simp at e;apply List.eq_nil_of_length_eq_zero;rw [ZaN];omega
  ·rfl
 ·have hh:=StrLaws.sliceText_from (x:=x) (i:=(k:Int)) ⟨by omega,by omega⟩;rw [show Txt.slice x (some (k:Int)) none=StrLaws.sliceText x (some (k:Int)) none from rfl,hh];simp only [Yav];rw [List.take_of_length_le (by rw [List.length_drop];omega)]
theorem Zms (f:Str) {g:Str}{ws:List Str}:(Txt.join " " (f :: g :: ws)).cps.toList=f.cps.toList ++ 32 :: (Txt.join " " (g :: ws)).cps.toList:=by
 rw [show ((" " : Str))=⟨#[32]⟩ from ZbN,ZcC,ZcC];show (f ++ (⟨#[32]⟩:Str) ++ Str.join ⟨#[32]⟩ (g :: ws)).cps.toList=_;show ((f.cps ++ #[32]) ++ (Str.join ⟨#[32]⟩ (g :: ws)).cps).toList=_;simp
theorem Zh1 {y:Str} (h:Txt.startswith y "table " = true):[116,97,98,108,101,32] <+: y.cps.toList:=by
 unfold Txt.startswith at h;rw [Yaj,StrLaws.subAt_eq,List.drop_zero,beq_iff_eq] at h;have e:(Str.ofString "table ").cps.toList=[116,97,98,108,101,32]:=by decide +kernel
 rw [<- e];have:=List.take_prefix (Str.ofString "table ").length y.cps.toList;rw [h.2] at this;exact this
theorem Zpt {u v:Str} (h:u.cps.toList=v.cps.toList):u=v:=by
 cases u;cases v;simp only [Str.mk.injEq];exact Array.toList_inj.mp h
theorem ZnI {ws:List Str} (h:ws≠[]) (hf:∀ w∈ws,32∉w.cps.toList) (ht:ws.length<=3\/ws.head?≠some (Str.ofString "table")):spl (Txt.join " " ws)=ws:=by
 have es:Txt.split (Txt.join " " ws) " " = ws:=by
  rw [show ((" " : Str))=⟨#[32]⟩ from ZbN];exact ZcQ h hf
 cases hs:Txt.startswith (Txt.join " " ws) "table " with
 |false=>exact ZiY h hf hs
 |true =>
  unfold spl;rw [Ya7 hs];rcases ht with ht | ht
  ·rw [Zke (by rw [es];exact ht),es]
  ·exfalso;have hp:=Zh1 hs
   match ws,h,hf,ht,hp with
   | [f],_,hf,_,hp =>
    rw [show ((" " : Str))=⟨#[32]⟩ from ZbN,ZcC] at hp;obtain ⟨r,e⟩:=hp;have e:_=f.cps.toList:=e;exact hf f (by simp) (by rw [<- e];simp)
   |f :: g :: ws,_,hf,ht,hp =>
    rw [Zms] at hp;have:=ZnB (hf f (by simp)) hp;exact ht (congrArg some (Zpt (this.trans (by decide +kernel))))
end Seek
namespace L2
open PySem PySem.Spec PyProof.Rows
def ItdS (o:Obj) (d:Addr) (kvs:List (Key × V)) (ss:List Str):It :=
 ⟨λi H=>H d=some (.frz o (.dK kvs))/\i<ss.length,λi H x H'=>H'=H/\∃ y,ss[i]? = some y/\x=.str y,λi H=>H d=some (.frz o (.dK kvs))/\ss.length<=i⟩
theorem ZhJ {P:Program}{w:World}{H:Hp}{h:Heap}{d:Addr}{kvs:List (Key × V)} (x:ObjOk P w H h d (.dK kvs)):(d == sysModules)=false/\∃ (vs:List (Key × Value)) (o:Obj) (es:Array DictEntry) (ep:Nat),KV kvs vs/\h.get? d=some o/\o.ExactDict/\o.data=.dict es ep/\Pairs (ZaM P w) es.toList vs:=by
 obtain ⟨_,hs,vs,r,o,es,ep,h1,h2,h3,_,h4,_⟩:=x;exact ⟨hs,vs,o,es,ep,r,h1,h2,h3,h4⟩
theorem Zmp {kvs:List (Key × V)}{vs:List (Key × Value)} (r:KV kvs vs):vs.map (·.1)=kvs.map (·.1):=by
 induction r with
 |nil=>rfl
 |cons h _ ih=>rw [Yaw,Yaw,ih,h.1]
theorem ZjD {P:Program}{w:World}{es:List DictEntry}{vs:List (Key × Value)} (h:Pairs (ZaM P w) es vs):∀ {i:Nat}{k:Key},(vs.map (·.1))[i]? = some k->∃ e,es[i]? = some e/\(ZaM P w).is k e.key=true:=by
 induction h with
 |nil=>intro i k e;simp at e
 | @cons e kv es kvs h1 h2 t ih =>
  intro i k hk;cases i with
  |zero =>
   simp only [Yaw,List.getElem?_cons_zero,Option.some.injEq] at hk;subst hk;exact ⟨e,rfl,h1⟩
  |succ j =>
   simp only [Yaw,List.getElem?_cons_succ] at hk ⊢;exact ih hk
theorem ZqQ {P:Program}{w:World}{x:Str}{u:Value} (h:(ZaM P w).is (Sum.inr x) u=true):RelV (.str x) u:=by
 obtain ⟨t,e⟩:=Value.isStrOf_shape (x:=x) (v:=u) h;exact ⟨t,e⟩
theorem ZiR {P:Program}{w:World}{K:Yab}{tg:Expr}{o:Obj}{es:Array DictEntry}{ep:Nat} (y:o.data=.dict es ep) (d it:Addr) (kvs:List (Key × V)) (ss:List Str) (hk:kvs.map (·.1)=ss.map Sum.inr):Turn P w K tg (ItdS o d kvs ss) [it] it (λi h=>h.IsKeyIter it d i es.size ep) where
 mem:=by simp
 obj:=λi h st b hb=>by
  have e:b=it:=by simpa using hb
  subst e;obtain ⟨u,e,c,d⟩:=st;exact ⟨u,e,λv z=>by rw [d] at z;cases z⟩
 keep:=λi h h' st k=>st.at λo e=>k it (by simp) o e
 item:=by
  intro X hP hw hK hc i pins s σ H E I hf st hg;subst hP hw hK;obtain ⟨hd,hi⟩:=hg;obtain ⟨g,ok⟩:=(show ObjOk X.prog X.w H s.heap d (.frz o (.dK kvs)) from I.hok d _ hd);obtain ⟨_,vs,o',es',ep',r,g',_,y',he⟩:=ZhJ ok;have eo:o=o':=Yae (g.symm.trans g');subst eo;have ey:=y.symm.trans y';injection ey with e1 e2;subst e1;have hik:(vs.map (·.1))[i]? = some (Sum.inr ss[i]):=by rw [Zmp r,hk,Yaf,Yac hi];rfl
  obtain ⟨e,he1,he2⟩:=ZjD he hik;have hl:i<es.size:=by
   have:=(Yai.mp he1).1
   rwa [YaD] at this
  have hk2:es[i]=e:=by
   rw [Ybi,Array.getElem?_eq_getElem hl] at he1;exact Yae he1
  obtain ⟨f0,f1,f2,f3,f4,f5⟩:=hf it (by simp);refine ZfK st g y hl λh' st' sb=>?_;have I1:Inv X pins σ H { s with heap:=h' }:=I.turned (t':=s.toks) (λb o hb e=>(sb.2 b hb).trans e) f0 f1 f3 f4 f5;obtain ⟨u,e5,c,dd⟩:=id st';refine ⟨_,rfl,Ziu (s:={ s with heap:=h' }) e5 c dd (by decide) ⟨.str ss[i],H,I1,?_,⟨rfl,_,Yac hi,rfl⟩,st',λb hb=>(hf b hb).1⟩⟩;rw [hk2];exact ZqQ he2
 done:=by
  intro X hP hw hK hc i pins s σ H E I hf st hg;subst hP hw hK;obtain ⟨hd,hi⟩:=hg;obtain ⟨g,ok⟩:=(show ObjOk X.prog X.w H s.heap d (.frz o (.dK kvs)) from I.hok d _ hd);obtain ⟨_,vs,o',es',ep',r,g',_,y',he⟩:=ZhJ ok;have eo:o=o':=Yae (g.symm.trans g');subst eo;have ey:=y.symm.trans y';injection ey with e1 e2;subst e1;have hl:es.size<=i:=by
   have e3:=Pairs.length he;have e4:=congrArg List.length hk;have e5:=Paired.length r;rw [Yaa,Yaa] at e4;rw [YaD] at e3;omega
  obtain ⟨f0,f1,f2,f3,f4,f5⟩:=hf it (by simp);exact Zht (I.ok.hd hc) st g y hl λh' eb=>⟨rfl,I.turned (t':=s.toks) (λb o hb e=>eb b o hb e) f0 f1 f3 f4 f5⟩
 self:=λ_ _ _ _ _ st h=>wpAny_pyIter_keyiter st h
theorem Inv.freezeK {X:Cx}{pins:List (Addr × Obj)}{σ:St}{H:Hp}{s:Shared}{d:Addr}{o:Obj}{kvs:List (Key × V)} (I:Inv X pins σ H s) (hd:H d=some (.dK kvs)) (g:s.heap.get? d=some o):Inv X pins σ (upd H d (.frz o (.dK kvs))) s:=by
 refine I.write (h':=s.heap) (t':=s.toks) (e:=d) (by rw [hd];trivial) (.inl rfl) (λ_ _ _ e=>e) ⟨o,g⟩ ⟨g,?_⟩;exact (show ObjOk X.prog X.w H s.heap d (.dK kvs) from I.hok d _ hd)
section
variable {X:Cx}{tg:Expr}
def ZqU (tl:TE):TI:=λσ H R=>tl σ H λx H1=>∃ d kvs ss,x=.ref d/\kvs.map (·.1)=ss.map Sum.inr/\((H1 d=some (.dK kvs)/\∀ o,R (ItdS o d kvs ss) (upd H1 d (.frz o (.dK kvs))))\/∃ o,H1 d=some (.frz o (.dK kvs))/\R (ItdS o d kvs ss) H1)
theorem Zjw {l:Expr}{tl:TE} (hl:PE X l tl):PI X tg l (ZqU tl):=by
 intro pins s σ H R I h;refine thn (hl pins s σ H _ I h) λv s1 ⟨x,H1,I1,r1,q1⟩=>?_;obtain ⟨d,kvs,ss,e,hk,q⟩:=q1;subst e;cases r1;have fin:∀ (o:Obj) (H2:Hp),Inv X pins σ H2 s1->H2 d=some (.frz o (.dK kvs))->R (ItdS o d kvs ss) H2->wpAny (model X.prog X.w) X.A (pyIter (.ref d)) (PIE X pins σ tg R) X.xe s1:=λo H2 I2 hd hR=>by
  obtain ⟨g,ok⟩:=(show ObjOk X.prog X.w H2 s1.heap d (.frz o (.dK kvs)) from I2.hok d _ hd);obtain ⟨hs,vs,o',es,ep,r,g',x',y',he⟩:=ZhJ ok;have eo:o=o':=Yae (g.symm.trans g');subst eo;refine ZfL hs g x' y' ?_;refine ⟨s1.heap.objs.size,[s1.heap.objs.size],_,_,H2,rfl,I2.kept (t':=s1.toks) λb o e=>Yad _ e,ZiR y' d _ kvs ss hk,⟨_,Yao _ rfl,rfl,rfl⟩,λb hb=>?_,hR⟩;have e:b=s1.heap.objs.size:=by simpa using hb
  subst e;exact I2.fpOk (Yag _) (I2.hok.fresh (Yag _))
 rcases q with ⟨hd,hR⟩ | ⟨o,hd,hR⟩
 ·obtain ⟨hs,vs,o,es,ep,r,g,x',y',he⟩:=ZhJ (show ObjOk X.prog X.w H1 s1.heap d (.dK kvs) from I1.hok d _ hd);exact fin o _ (I1.freezeK hd g) Zad (hR o)
 ·exact fin o H1 I1 hd hR
end
theorem ZhB {o:Obj}{d:Addr}{kvs:List (Key × V)}{ss:List Str}{g:TG}{tb:TS}{D:Ends}{σ:St}{H:Hp} (Pv:Nat->St->Hp->Prop) (h0:Pv 0 σ H) (hl:∀ i σ H,Pv i σ H->H d=some (.frz o (.dK kvs)))
  (hs:∀ i x σ H,ss[i]? = some x->Pv i σ H->g (.str x) σ H λσ2 H2=>tb { D with nx:=Pv (i+1),ct:=Pv (i+1),bk:=D.nx } σ2 H2) (hd:∀ σ H,Pv ss.length σ H->D.nx σ H) :
  ∃ W:Nat->Nat->St->Hp->Prop,(∃ m,W 0 m σ H)/\∀ i m σ H,W i m σ H ->
   ((ItdS o d kvs ss).stop i H/\D.nx σ H)\/((ItdS o d kvs ss).go i H/\∃ N:St->Hp->Prop,(∀ σ' H',N σ' H'->∃ m',m'<m/\W (i+1) m' σ' H')/\∀ x H',(ItdS o d kvs ss).yld i H x H'->g x σ H' λσ2 H2=>tb { D with nx:=N,ct:=N,bk:=D.nx } σ2 H2):=by
 refine ⟨λi m σ H=>m=ss.length - i/\i<=ss.length/\Pv i σ H,⟨ss.length,by simp,YaH _,h0⟩,?_⟩;rintro i m σ H ⟨rfl,hi,p⟩;have q:=hl i σ H p
 by_cases hlt:i<ss.length
 ·refine .inr ⟨⟨q,hlt⟩,Pv (i+1),λσ' H' p'=>⟨ss.length - (i+1),by omega,rfl,hlt,p'⟩,λx H' y=>?_⟩;obtain ⟨e,y,hy,ex⟩:=y;subst e ex;exact hs i y σ _ hy p
 ·have e:i=ss.length:=by omega
  subst e;exact .inl ⟨⟨q,Yag _⟩,hd σ H p⟩
theorem ZeP {X:Cx}:Zd5 X (λ_ _ _=>False):=λ_ _ _ _ _ _ _ _ _ _ h=>h.elim
section
variable {X:Cx}
theorem Zp9 (hu:X.A.units<cLine):OpR X (compareOp .NotEq) (λx y H Q=>∃ a b xs,x=.ref a/\y=.ref b/\SqL X.K H a xs/\SqL X.K H b []/\Q (.bl (!xs.isEmpty)) H):=by
 intro pins s σ H x y v u Q I rx ry h;obtain ⟨a,b,xs,rfl,rfl,h1,h2,q⟩:=h;cases rx;cases ry;obtain ⟨its,r,pl,hz⟩:=I.list h1;obtain ⟨its2,r2,pl2,hz2⟩:=I.list h2;cases r2;cases r with
 |nil =>
  have R:=SeqAt.RcNeAt.lists (A:=X.A) (e:=λ_=>true) pl.isList pl2.isList rfl hu (λj h1 _=>absurd h1 (by simp));exact R _ _ _ _ ⟨.bl false,H,I,rfl,q⟩
 |cons z zs=>exact SeqAt.RcNeAt.lists_lengths (A:=X.A) pl.isList pl2.isList (by simp) hu _ _ _ _ ⟨.bl true,H,I,rfl,q⟩
end
end L2
namespace Seek
open PySem L2 PyProof.Rows
def spR:List Str:=[("cell abcdefgh 0 0 1" : Str), "find abcdefgh 1","stair abcdefgh 1","walk abcdefgh 1","below abcdefgh 1","nth abcdefgh 1","drop abcdefgh","show abcdefgh","table abcdefgh 1"]
def spWL:List (List Str):=[[("cell" : Str), "abcdefgh","0","0","1"],[("find" : Str), "abcdefgh","1"],[("stair" : Str), "abcdefgh","1"],[("walk" : Str), "abcdefgh","1"],[("below" : Str), "abcdefgh","1"],[("nth" : Str), "abcdefgh","1"],[("drop" : Str), "abcdefgh"],[("show" : Str), "abcdefgh"],[("table" : Str), "abcdefgh","1"]]
theorem Zi7:spR.map (λr=>Txt.split r " ")=spWL:=by decide +kernel
def nmS:Str := "abcdefgh"
theorem Zj4:nmS.cps.toList=nm8:=by decide +kernel
def gwB:List Str->Bool
 |f :: n :: r=>decide (f∈fwL) && decide (n=nmS) && decide (r.length<=3) && (f :: r).all (λw=>decide (32∉w.cps.toList) && decide (w.length<=10)) && decide (r.length<=1\/f≠Str.ofString "table")
 |_=>false
theorem ZnK:∀ ws∈spWL,gwB ws=true:=by decide +kernel
structure GwOk (f:Str) (r:List Str):Prop where
 fw:f∈fwL
 r3:r.length<=3
 all:∀ w∈f :: r,32∉w.cps.toList/\w.length<=10
 tb:r.length<=1\/f≠Str.ofString "table"
theorem ZqV {ws:List Str} (h:ws∈spWL):∃ f r,ws=f :: nmS :: r/\GwOk f r:=by
 have:=ZnK ws h
 match ws,this with
 |f :: n :: r,this =>
  unfold gwB at this;rw [Yaj,Yaj,Yaj,Yaj,YaN,YaN,YaN,YaN,YaO] at this;obtain ⟨⟨⟨⟨h1,h2⟩,h3⟩,h4⟩,h5⟩:=this;subst h2;refine ⟨f,r,rfl,h1,h3,λw hw=>?_,h5⟩;have:=h4 w hw;rw [Yaj,YaN,YaN] at this;exact this
theorem ZgK {ws:List Str} (h:ws≠[]) (hl:ws.length<=10) (hw:∀ w∈ws,32∉w.cps.toList/\w.length<=20) (ht:ws.length<=3\/ws.head?≠some (Str.ofString "table")) (hb:hfB ws=false):badR (Txt.join " " ws)=true:=by
 unfold badR;rw [ZnI h (λw h=>(hw w h).1) ht,hb,Yaj,YaN];refine ⟨?_,rfl⟩;rw [show ((" " : Str))=⟨#[32]⟩ from ZbN];have:=ZeI (c:=32) (ws:=ws) (B:=20) λw h=>(hw w h).2;have:ws.length * (20+1)<=10 * (20+1):=Nat.mul_le_mul_right _ hl;omega
theorem Zmw:∀ f∈fwL,f≠Str.ofString "looks" := by decide +kernel
theorem Zhz:∀ f∈fwL,32∉f.cps.toList/\f.length<=5:=by decide +kernel
theorem Ze6 {f u:Str}{r:List Str} (g:GwOk f r) (h:ZeJ u.cps.toList=false) (hu:32∉u.cps.toList) (hl:u.length<=20):badR (Txt.join " " (f :: u :: r))=true:=by
 refine ZgK (by simp) (by have:=g.r3;simp;omega) (λw hw=>?_) ?_ (ZoN (Zmw f g.fw) h)
 ·rcases YaF.mp hw with rfl | hw
  ·exact ⟨(g.all _ (by simp)).1,by have:=(g.all _ (YaM ..)).2;omega⟩
  ·rcases YaF.mp hw with rfl | hw
   ·exact ⟨hu,hl⟩
   ·exact ⟨(g.all _ (Yas _ hw)).1,by have:=(g.all _ (Yas _ hw)).2;omega⟩
 ·rcases g.tb with h | h
  ·left;simp;omega
  ·right;intro z;exact h (Yae z)
theorem Zkj {u:Str} (h:u∉fwL) (h2:u≠Str.ofString "looks"):formL.lookup u=none:=by
 have hk:∀ p∈formL,p.1∈fwL\/p.1=Str.ofString "looks" := by decide +kernel
 rw [List.lookup_eq_none_iff];intro p hp;have hne:u≠p.1:=λz=>by
  subst z;rcases hk p hp with e | e
  ·exact h e
  ·exact h2 e
 simpa using hne
theorem ZqX:∀ f∈fwL,formL.lookup (f ++ f)=none/\32∉(f ++ f).cps.toList/\(f ++ f).length<=10:=by decide +kernel
theorem Zf9 {f f' u:Str}{r:List Str} (g:GwOk f r) (h:formL.lookup f'=none) (h32:32∉f'.cps.toList) (hl':f'.length<=20) (hu:32∉u.cps.toList) (hl:u.length<=20):badR (Txt.join " " (f' :: u :: r))=true:=by
 refine ZgK (by simp) (by have:=g.r3;simp;omega) (λw hw=>?_) (Or.inr λz=>?_) (Zmu h)
 ·rcases YaF.mp hw with rfl | hw
  ·exact ⟨h32,hl'⟩
  ·rcases YaF.mp hw with rfl | hw
   ·exact ⟨hu,hl⟩
   ·exact ⟨(g.all _ (Yas _ hw)).1,by have:=(g.all _ (Yas _ hw)).2;omega⟩
 ·have z:f'=Str.ofString "table" := Yae z;rw [z] at h;have:formL.lookup (Str.ofString "table")≠none:=by decide +kernel
  exact this h
def spT (x:Str) (a:Nat) (sg:Str) (b:Nat):Str:=Txt.slice x none (some (a:Int)) ++ sg ++ Txt.slice x (some ((a:Int)+(b:Int))) none
theorem ZmW {x:Str}{a b c:Nat} (ha:a<=x.cps.toList.length) (hb:b<=1):(spT x a ⟨#[c]⟩ b).cps.toList=spW x.cps.toList a c b:=by
 unfold spT spW;show (((Txt.slice x none (some (a:Int))).cps ++ #[c]) ++ (Txt.slice x (some ((a:Int)+(b:Int))) none).cps).toList=_;rw [Array.toList_append,Array.toList_append,Zrd ha,show ((a:Int)+(b:Int))=((a+b:Nat):Int) by omega,ZmF (by omega)]
theorem Zi2 {l:List Nat}{k c b:Nat}:(spW l k c b).length<=l.length+1:=by
 unfold spW;simp only [Yak,YaR,List.length_drop,YaI];omega
theorem ZgW {l:List Nat}{k c b:Nat} (h:32∉l) (hc:c≠32):32∉spW l k c b:=by
 unfold spW;intro z;rcases YaG.mp z with z | z
 ·rcases YaG.mp z with z | z
  ·exact h (List.mem_of_mem_take z)
  ·exact hc (YaJ.mp z).symm
 ·exact h (List.mem_of_mem_drop z)
theorem Zlt {a c b:Nat} (ha:a<9) (hc:c∈sgL) (hb:b<2):ZeJ (spT nmS a ⟨#[c]⟩ b).cps.toList=false/\32∉(spT nmS a ⟨#[c]⟩ b).cps.toList/\(spT nmS a ⟨#[c]⟩ b).length<=20:=by
 have e:=ZmW (x:=nmS) (c:=c) (b:=b) (a:=a) (by rw [Zj4];show a<=8;omega) (by omega);refine ⟨?_,?_,?_⟩
 ·rw [e,Zj4];exact Zpu ⟨a,ha⟩ c hc ⟨b,hb⟩
 ·rw [e];exact ZgW (by decide +kernel) (Zi1 c hc)
 ·rw [<- ZaN,e];refine Yay Zi2 ?_;rw [Zj4];decide
open PySem L2 PyProof.Rows
theorem ZnJ {l m:List Nat}{a c b:Nat} (ha:a<=l.length) (h:spW l a c b=m):m.take a=l.take a/\m.drop (a+1)=l.drop (a+b):=by
 subst h;have e:(l.take a).length=a:=by rw [YaR];omega
 unfold spW;constructor
 ·rw [List.append_assoc];exact List.take_left' e
 ·exact List.drop_left' (by rw [Yak,e];rfl)
theorem Zr2:∀ f∈fwL,∀ a:Fin 6,∀ b:Fin 2,¬([108,111,111,107,115].take a.val=f.cps.toList.take a.val/\[108,111,111,107,115].drop (a.val+1)=f.cps.toList.drop (a.val+b.val)):=by decide +kernel
def fstW (u:Str):Str:=if u∈fwL then u ++ u else u
theorem Zi3 {f:Str}{a c b:Nat} (hf:f∈fwL) (ha:a<=f.length) (hc:c≠32) (hb:b<2):formL.lookup (fstW (spT f a ⟨#[c]⟩ b))=none/\32∉(fstW (spT f a ⟨#[c]⟩ b)).cps.toList/\(fstW (spT f a ⟨#[c]⟩ b)).length<=20:=by
 have hl:=Zhz f hf;have e:=ZmW (x:=f) (c:=c) (b:=b) (a:=a) (by rw [ZaN];exact ha) (by omega);unfold fstW
 by_cases hu:spT f a ⟨#[c]⟩ b∈fwL
 ·rw [Ya7 hu];have:=ZqX _ hu;exact ⟨this.1,this.2.1,by omega⟩
 ·rw [Ya6 hu];refine ⟨Zkj hu λz=>?_,?_,?_⟩
  ·rw [z] at e;have e2:(Str.ofString "looks").cps.toList=[108,111,111,107,115]:=by decide +kernel
   rw [e2] at e;exact Zr2 f hf ⟨a,by omega⟩ ⟨b,hb⟩ (ZnJ (by rw [ZaN];exact ha) e.symm)
  ·rw [e];exact ZgW hl.1 hc
  ·rw [<- ZaN,e];refine Yay Zi2 ?_;rw [ZaN];omega
def bdL:List Str:=[("1000000000" : Str), "","01","00","x","+1","1_","1.0","1\n","\t1","10x","-0","-01","--1","-","1 1"]
def spP:List (List Str × Nat):=[([("cell" : Str), "abcdefgh","0","0","1"],2),([("cell" : Str), "abcdefgh","0","0","1"],3),([("cell" : Str), "abcdefgh","0","0","1"],4),([("find" : Str), "abcdefgh","1"],2),([("stair" : Str), "abcdefgh","1"],2),([("walk" : Str), "abcdefgh","1"],2),([("below" : Str), "abcdefgh","1"],2),([("nth" : Str), "abcdefgh","1"],2)]
theorem Zm1:∀ ws∈spWL.take 6,∀ p:Fin 3,(ws,2+p.val % (ws.length - 2))∈spP:=by decide +kernel
theorem ZmP:∀ q∈spP,badR (Txt.join " " (q.1.set q.2 (Str.ofString "1 1")))=true:=by decide +kernel
theorem ZmM:∀ q∈spP,∀ d∈bdL.take 15,hfB (q.1.set q.2 d)=false:=by decide +kernel
theorem Zpz:∀ q∈spP,q.1≠[]/\q.1.length<=10/\(∀ w∈q.1,32∉w.cps.toList/\w.length<=10)/\q.1.head?≠some (Str.ofString "table")/\2<=q.2:=by decide +kernel
def wyL:List Str:=[("" : Str), "abcdefghi"]
theorem Zlc:∀ u∈wyL,ZeJ u.cps.toList=false/\32∉u.cps.toList/\u.length<=20:=by decide +kernel
theorem ZmN:∀ q∈spP,∀ u∈wyL,badR (Txt.join " " ((q.1.set q.2 (Str.ofString "1 1")).set 1 u))=true:=by decide +kernel
theorem Zk8:∀ d∈bdL,d≠Str.ofString "1 1" -> 32∉d.cps.toList/\d.length<=10:=by decide +kernel
theorem Zr9:∀ d∈bdL,d≠Str.ofString "1 1" -> d∈bdL.take 15:=by decide +kernel
theorem Zo2 (ws:List Str) (hw:ws∈spWL.take 6) (p:Fin 3) (d:Str) (hd:d∈bdL):badR (Txt.join " " (ws.set (2+p.val % (ws.length - 2)) d))=true:=by
 have hq:=Zm1 ws hw p;generalize 2+p.val % (ws.length - 2)=k at hq
 by_cases h1:d=Str.ofString "1 1"
 ·rw [h1];exact ZmP _ hq
 ·have h2:=Zk8 d hd h1;obtain ⟨g1,g2,g3,g4,g5⟩:=Zpz _ hq;refine ZgK (λz=>g1 ?_) (by rw [YaK];exact g2) (λw hw=>?_) (.inr ?_) (ZmM _ hq d (Zr9 d hd h1))
  ·exact List.length_eq_zero_iff.mp (by rw [<- YaK (i:=k) (a:=d),z];rfl)
  ·rcases List.mem_or_eq_of_mem_set hw with h | h
   ·exact ⟨(g3 w h).1,by have:=(g3 w h).2;omega⟩
   ·rw [h];exact ⟨h2.1,by omega⟩
  ·match ws,k,g5,g4 with
   | [],_,_,_=>intro z;cases z
   |x :: xs,k+1,_,g4=>exact g4
theorem ZmO (ws:List Str) (hw:ws∈spWL.take 6) (p:Fin 3) (d:Str) (hd:d∈bdL) (u:Str) (hu:u∈wyL):badR (Txt.join " " ((ws.set (2+p.val % (ws.length - 2)) d).set 1 u))=true:=by
 by_cases h1:d=Str.ofString "1 1"
 ·rw [h1];exact ZmN _ (Zm1 ws hw p) u hu
 ·have hd:=Zk8 d hd h1;obtain ⟨f,r,rfl,g⟩:=ZqV (List.mem_of_mem_take hw);have hu:=Zlc u hu;rw [Nat.add_comm 2];show badR (Txt.join " " (f :: u :: r.set _ d))=true;refine Ze6 (f:=f) (r:=r.set _ d) ⟨g.fw,by rw [YaK];exact g.r3,λw hw=>?_,by rw [YaK];exact g.tb⟩ hu.1 hu.2.1 hu.2.2;rcases YaF.mp hw with rfl | hw
  ·exact g.all _ (YaM ..)
  ·rcases List.mem_or_eq_of_mem_set hw with h | h
   ·exact g.all _ (Yas _ h)
   ·rw [h];exact hd
open PySem L2 PyProof.Rows
theorem ZmR {X:Cx}{x:Str}{i:Nat} (nd:X.N.Nodup) (hi:X.N[i]? = some x) (hx:Loc X.env.scope x) (hf:X.fn x=true\/X.env.scope.names.lookup x=some .local) (es:List Expr) (pos pos' p2:Pos) :
  PS X (.Assign [.Name x pos'] (.List es pos) p2) (λE σ H=>∃ xs,ZbW es=some xs/\xs.length<=900/\∀ p,H p=none->E.nx (σ.set i (some (.ref p))) (upd H p (.lst (xs.map V.str)))):=λpins s σ H D I ⟨xs,hy,hl,q⟩ =>
 Zau nd hi hx (ZaK (ZaX hy)) rfl hf pins s _ H D I ⟨sl6 (by rw [Yaa];omega),λp hp=>q p hp⟩
theorem ZiX {X:Cx}{x:Str}{i:Nat} (nd:X.N.Nodup) (hi:X.N[i]? = some x) (hx:Loc X.env.scope x) (hf:X.fn x=true\/X.env.scope.names.lookup x=some .local) (hv:∀ p:Pos,PE X (.Name x p) (tVar i)) (es:List Expr) (pos pos' p2 q1 q2:Pos) :
  PS X (.Assign [.Name x pos'] (.BinOp (.Name x q1) .Add (.List es pos) q2) p2) (λE σ H=>∃ (xs ys:List Str) (a:Addr),ZbW es=some ys/\σ[i]? = some (some (.ref a))/\H a=some (.lst (xs.map V.str))/\xs.length+ys.length<=900/\∀ p H',H p=none->Same H H'->H' p=some (.lst ((xs ++ ys).map V.str))->E.nx (σ.set i (some (.ref p))) H'):=λpins s σ H D I ⟨xs,ys,a,hy,hs,ha,hl,q⟩=>by
 refine Zau nd hi hx (Zax Zb8 (hv q1) (ZaK (ZaX hy))) rfl hf pins s _ H D I ⟨_,hs,sl6 (by rw [Yaa];omega),λp hp=>?_⟩;have sp:Same H (upd H p (.lst (ys.map V.str))):=Same.new hp;refine ⟨a,p,_,_,rfl,rfl,sp _ _ ha,Zad,sl6 (by rw [Yaa,Yaa];omega),λb hb'=>?_⟩;exact q b _ (sp.free hb') (sp.trans (Same.new hb')) (by rw [Zad,Yah])
def sgS:Str := "!\"\\#$&'()*+,-./0123456789:;<=>?@ABCDEFGHIJKLMNOPQRSTUVWXYZ[]^_`{|}~\t\n"
theorem ZpF:sgS.cps.toList=sgL:=by decide +kernel
def abS:Str := "abcdefghijklmnopqrstuvwxyz"
theorem Zo6:∀ c∈abS.cps.toList,c≠32:=by decide +kernel
def sqS (k:Nat):Stmt:=(ZaQ Zcz).getD k (.Pass ⟨0,0,0,0⟩)
abbrev sqN:List Str:=["cell","rows","words","signs","sign","at","bad","way"]
theorem sc_spoilt:FnScope sqN ["cell"] (Zae Zcz):=⟨rfl,rfl,rfl,by decide +kernel,rfl,by decide +kernel,by decide +kernel⟩
def SpC (H0:Hp) (n:Nat) (ws:List Str) (sg:Str) (σ:L2.St) (H:Hp):Prop:=∃ (R Wd:Addr) (o5 o6 o7:Option V),σ = [some (.int (n:Int)),some (.ref R),some (.ref Wd),some (.str sgS),some (.str sg),o5,o6,o7]/\H0 Wd=none/\R≠Wd/\H R=some (.lst (spR.map V.str))/\H Wd=some (.lst (ws.map V.str))/\Same H0 H
theorem ZfN {n c:Nat} (h:c<n):ixN n (c:Int)=some c:=by
 unfold ixN;rw [Ya7 (by omega),Ya7 (by omega),Yav]
theorem ZoL {x:Str}{xs:List Str}:inV (.str x) (xs.map V.str)=decide (x∈xs):=by
 unfold inV;rw [List.any_map,Bool.eq_iff_iff,List.any_eq_true,YaN];constructor
 ·rintro ⟨y,hy,e⟩;have e:(y == x)=true:=e;rw [<- eq_of_beq e];exact hy
 ·intro h;exact ⟨x,h,(beq_self_eq_true x:(x == x)=true)⟩
section
variable {P:Program}{w:World}{K:Yab}{mg:Str->Option Value}{base:Heap}
def Zh2:Sp:=λvs H Q _=>∃ n:Nat,vs=[.int (n:Int)]/\∀ y H',badR y=true->Same H H'->Q (.str y) H'
abbrev sqX (P:Program) (w:World) (K:Yab) (mg:Str->Option Value) (base:Heap) (f:Addr) (cdv:Value) (A:Around) (outer:List Env) (s:Shared) (H:Hp) (E:XK):Cx:=(cxOf CX0 P w K mg base sqN "_law_spoilt" (Zae Zcz) f cdv A outer s H E).nox
variable {f:Addr}{cdv:Value}{A:Around}{outer:List Env}{s:Shared}{H:Hp}{E:XK}
theorem Zbx {x:Str}{a b:Option Int}{n:Nat} (h:x.length<=n):(Txt.slice x a b).length<=n:=Yay (Txt.slice_le x _ _) h
theorem ZaS (x y:Str):(x ++ y).length=x.length+y.length:=by
 show (x.cps ++ y.cps).size=_;rw [Array.size_append];rfl
theorem sq6 {H0:Hp}{n:Nat}:PS (sqX P w K mg base f cdv A outer s H E) (sqS 6) (λE σ H=>∃ (f:Str) (sg:Str) (r:List Str),SpC H0 n (f :: nmS :: r) sg σ H/\sg.length<=2/\(n % 3≠0->E.nx σ H)/\(n % 3=0->∀ σ' H',SpC H0 n (f :: spT nmS (n / 27 % 9) sg (n / 243 % 2) :: r) sg σ' H'->E.nx σ' H')):=λpins s1 σ H1 D I h=>by
 have nd:=sc_spoilt.nd;have hF:PS (sqX P w K mg base f cdv A outer s H E) (sqS 6) _:=Zay (Zap Za4 (Zax Zck (pv 0) Zag) Zag (Zaq _)) (Zab (Zau (i:=5) nd rfl (Or.inl rfl) (Zax Zck (Zax Zdd (pv 0) Zag) Zag)) (Zaf (Zc9 (Zax ZaI (Zax ZaI (Zcf Zfl (Zar Zan (pv 2) Zag (λ_ _=>rfl)) ZcV (ZcU (pv 5))) (pv 4)) (Zcf Zfl (Zar Zan (pv 2) Zag (λ_ _=>rfl)) (ZcU (Zax ZfC (pv 5) (Zax Zck (Zax Zdd (pv 0) Zag) Zag))) ZcV)) (ZdD (pv 2) Zag ZbO)))) Zah;generalize sqS 6=S_ at hF ⊢;obtain ⟨f,sg,r,⟨R,Wd,o5,o6,o7,rfl,hW0,hRW,hR,hW,sm⟩,lsg,q1,q2⟩:=h;refine hF pins s1 _ H1 D I ?_;refine ⟨_,rfl,_,_,rfl,rfl,by decide,rfl,_,rfl,?_⟩;rw [show decide (V.int ((n:Int) % 3)=V.int 0)=decide (n % 3=0) from by
  rw [Ybb];constructor
  ·intro h;injection h with h;omega
  ·intro h
   exact congrArg V.int (by omega)]
 by_cases h0:n % 3=0
 ·rw [Ya4 h0];have l8:nmS.length<=8:=by decide +kernel
  have e1:((n:Int) / 27 % 9)=((n / 27 % 9:Nat):Int):=by omega
  have e2:((n:Int) / 243 % 2)=((n / 243 % 2:Nat):Int):=by omega
  have at1:atI (((f :: nmS :: r)).map V.str) 1=some (V.str nmS):=ZaF (i:=1) rfl;refine iteT ⟨_,rfl,_,_,rfl,rfl,⟨by decide,by decide⟩,_,_,rfl,rfl,by decide,?_⟩;refine ⟨_,rfl,Wd,_,_,_,rfl,rfl,SqL.of hW,at1,_,rfl,_,rfl,nmS,rfl,sl6 (by omega),_,rfl,_,_,rfl,rfl,sl6 (by have:=Zbx (a:=none) (b:=some ((n:Int) / 27 % 9)) l8;omega),?_⟩;refine ⟨_,rfl,Wd,_,_,_,rfl,rfl,SqL.of hW,at1,_,rfl,_,rfl,_,_,rfl,rfl,⟨by decide,by decide⟩,_,_,rfl,rfl,by decide,_,_,rfl,rfl,_,rfl,nmS,rfl,sl6 (by omega),_,_,rfl,rfl,?_,?_⟩
  ·rw [ZaS];have h1:=Zbx (a:=none) (b:=some ((n:Int) / 27 % 9)) l8;have h2:=Zbx (a:=some ((n:Int) / 27 % 9+(n:Int) / 243 % 2)) (b:=none) l8;exact sl6 (by omega)
  ·refine ⟨_,rfl,Wd,_,_,1,rfl,rfl,hW,ZfN (n:=(List.map V.str (f :: nmS :: r)).length) (c:=1) (by simp),?_⟩;refine q2 h0 _ _ ⟨R,Wd,_,o6,o7,rfl,hW0,hRW,(Zai hRW).trans hR,?_,sm.upd hW0⟩;rw [Zad];refine congrArg (λz=>some (HO.lst z)) ?_;rw [e1,e2];rfl
 ·rw [Ya5 h0];exact iteF (q1 h0)
theorem dec3 {n k:Nat}:decide (V.int ((n:Int) % 3)=V.int (k:Nat))=decide (n % 3=k):=by
 rw [Ybb];constructor
 ·intro h;injection h with h;omega
 ·intro h;exact congrArg V.int (by omega)
theorem ZqW:spR.map (λr=>(Txt.split r " ").headD Str.empty)=fwL:=by decide +kernel
theorem Zm0:∀ r∈spR,(Txt.split r " ")≠[]/\r.length<=100:=by decide +kernel
theorem sq7 (T:Blt mg) {H0:Hp}{n:Nat}:PS (sqX P w K mg base f cdv A outer s H E) (sqS 7) (λE σ H=>∃ (f:Str) (sg m:Str) (r:List Str),SpC H0 n (f :: m :: r) sg σ H/\f.length<=10/\sg.length=1/\(n % 3≠1->E.nx σ H)/\(n % 3=1->∀ c∈(sg ++ abS).cps.toList,∀ σ' H',SpC H0 n (fstW (spT f (n / 27 % (f.length+1)) ⟨#[c]⟩ (n / 243 % 2)) :: m :: r) ⟨#[c]⟩ σ' H'->E.nx σ' H')):=λpins s1 σ H1 D I h=>by
 have nd:=sc_spoilt.nd;have nd1:(["row"]:List Str).Nodup:=by decide +kernel
 have hF:PS (sqX P w K mg base f cdv A outer s H E) (sqS 7) _:=Zay (Zap Za4 (Zax Zck (pv 0) Zag) Zag (Zaq _))
  (Zab (Zau (i:=5) nd rfl (Or.inl rfl) (Zax Zck (Zax Zdd (pv 0) Zag) (Zax ZfC (pe_b Zbm T.len boot_len (Zaa (Zar Zan (pv 2) Zag (λ_ _=>rfl)) Zac)) Zag)))
  (Zab (Zau (i:=4) nd rfl (Or.inl rfl) (Zar Zkx (Zax ZaI (pv 4) Zam) (Zax Zck (Zax Zdd (pv 0) Zag) Zag) (λ_ _=>rfl)))
  (Zab (Zc9 (Zax ZaI (Zax ZaI (Zcf Zfl (Zar Zan (pv 2) Zag (λ_ _=>rfl)) ZcV (ZcU (pv 5))) (pv 4)) (Zcf Zfl (Zar Zan (pv 2) Zag (λ_ _=>rfl)) (ZcU (Zax ZfC (pv 5) (Zax Zck (Zax Zdd (pv 0) Zag) Zag))) ZcV)) (ZdD (pv 2) Zag ZbO))
  (Zaf (Zay (Zap ZjH (Zar Zan (pv 2) Zag (λ_ _=>rfl)) (Zaz ["row"] [none] (Zae Zcz) sqN rfl (ZaH (pv 1)) (by decide +kernel)
    (λcl C s2 H2 ex=>pg_c 0 nd1) (λcl C s2 H2 ex=>Zaw) (λcl C s2 H2 ex=>Zar (ixL K) (ZjC K PySem.F.plainAttrs_str PySem.F.slot_str_split PySem.F.type_str_split ZbA (pv 0) (Zaa Zam Zac)) Zag (λ_ _=>rfl))) rfl)
   (Zaf (Zc9 (Zax ZaI (Zar Zan (pv 2) Zag (λ_ _=>rfl)) (Zar Zan (pv 2) Zag (λ_ _=>rfl))) (ZdD (pv 2) Zag ZbO))) Zah))))) Zah
 generalize sqS 7=S_ at hF ⊢;obtain ⟨f,sg,m,r,⟨R,Wd,o5,o6,o7,rfl,hW0,hRW,hR,hW,sm⟩,lf,lsg,q1,q2⟩:=h;refine hF pins s1 _ H1 D I ?_;refine ⟨_,rfl,_,_,rfl,rfl,by decide,rfl,_,rfl,?_⟩;rw [show decide (V.int ((n:Int) % 3)=V.int 1)=decide (n % 3=1) from dec3 (k:=1)]
 by_cases h0:n % 3=1
 ·rw [Ya4 h0];have q2:=q2 h0;have e1:((n:Int) / 27 % ((f.length:Int)+1))=((n / 27 % (f.length+1):Nat):Int):=by
   rw [Int.natCast_emod,Int.natCast_ediv];rfl
  have e2:((n:Int) / 243 % 2)=((n / 243 % 2:Nat):Int):=by omega
  have e3:((n:Int) / 500 % 27)=((n / 500 % 27:Nat):Int):=by omega
  have lab:abS.length=26:=by decide +kernel
  have l27:(sg ++ abS).length=27:=by rw [ZaS,lsg,lab]
  have hpl:n / 500 % 27<(sg ++ abS).cps.toList.length:=by
   rw [ZaN,l27];exact Ybl _ (by decide)
  have at0:∀ x:Str,atI ((x :: m :: r).map V.str) 0=some (V.str x):=λx=>ZaF (i:=0) rfl;refine iteT ⟨_,rfl,_,_,rfl,rfl,⟨by decide,by decide⟩,_,rfl,Wd,_,_,_,rfl,rfl,SqL.of hW,at0 f,f,rfl,sl6 (by omega),_,_,rfl,rfl,_,_,rfl,rfl,by omega,?_⟩;refine ⟨_,rfl,sg,abS,rfl,rfl,sl6 (by omega),_,rfl,_,_,rfl,rfl,⟨by decide,by decide⟩,_,_,rfl,rfl,by decide,sg ++ abS,_,_,rfl,rfl,sl6 (by omega),by rw [e3];exact ZaF (Yac hpl),?_⟩;have q2:=q2 _ (YaL hpl);generalize (sg ++ abS).cps.toList[n / 500 % 27]=c at q2 ⊢;have l1:(⟨#[c]⟩:Str).length=1:=rfl;refine ⟨_,rfl,Wd,_,_,_,rfl,rfl,SqL.of hW,at0 f,_,rfl,_,rfl,f,rfl,sl6 (by omega),_,rfl,_,_,rfl,rfl,sl6 (by have:=Zbx (a:=none) (b:=some ((n:Int) / 27 % ((f.length:Int)+1))) lf;omega),?_⟩;refine ⟨_,rfl,Wd,_,_,_,rfl,rfl,SqL.of hW,at0 f,_,rfl,_,rfl,_,_,rfl,rfl,⟨by decide,by decide⟩,_,_,rfl,rfl,by decide,_,_,rfl,rfl,_,rfl,f,rfl,sl6 (by omega),_,_,rfl,rfl,?_,?_⟩
  ·rw [ZaS];have h1:=Zbx (a:=none) (b:=some ((n:Int) / 27 % ((f.length:Int)+1))) lf;have h2:=Zbx (a:=some ((n:Int) / 27 % ((f.length:Int)+1)+(n:Int) / 243 % 2)) (b:=none) lf;exact sl6 (by omega)
  ·refine ⟨_,rfl,Wd,_,_,0,rfl,rfl,hW,ZfN (n:=(List.map V.str (f :: m :: r)).length) (c:=0) (by simp),?_⟩;have hu:(Txt.slice f none (some ((n:Int) / 27 % ((f.length:Int)+1))) ++ (⟨#[c]⟩:Str) ++ Txt.slice f (some ((n:Int) / 27 % ((f.length:Int)+1)+(n:Int) / 243 % 2)) none)=spT f (n / 27 % (f.length+1)) ⟨#[c]⟩ (n / 243 % 2):=by
    rw [e1,e2];rfl
   rw [hu];have lu:(spT f (n / 27 % (f.length+1)) ⟨#[c]⟩ (n / 243 % 2)).length<=21:=by
    rw [<- hu,ZaS,ZaS];have h1:=Zbx (a:=none) (b:=some ((n:Int) / 27 % ((f.length:Int)+1))) lf;have h2:=Zbx (a:=some ((n:Int) / 27 % ((f.length:Int)+1)+(n:Int) / 243 % 2)) (b:=none) lf;omega
   generalize spT f (n / 27 % (f.length+1)) ⟨#[c]⟩ (n / 243 % 2)=u at q2 lu ⊢;have hR1:=(Zai (H:=H1) (o:=.lst (((f :: m :: r).map V.str).set 0 (V.str u))) hRW).trans hR;have hW1:(upd H1 Wd (.lst (((f :: m :: r).map V.str).set 0 (V.str u)))) Wd=some (.lst ((u :: m :: r).map V.str)):=Zad;have sm1:Same H0 (upd H1 Wd (.lst (((f :: m :: r).map V.str).set 0 (V.str u)))):=sm.upd hW0;generalize upd H1 Wd (.lst (((f :: m :: r).map V.str).set 0 (V.str u)))=H2 at hR1 hW1 sm1 ⊢;refine ⟨_,rfl,Wd,_,_,_,rfl,rfl,SqL.of hW1,at0 u,_,rfl,R,rfl,⟨_,SqL.of hR1⟩,?_⟩;refine ZaZ (ms:=spR) V.str (λr=>V.str ((Txt.split r " ").headD Str.empty)) (SqL.of hR1) (sl6 (by decide)) (λx hx H' Q' sm q'=>?_) λD2 H3 hD2 s3 eD2=>?_
   ·have h2:=Zm0 x hx;refine ⟨_,rfl,rfl,_,_,rfl,rfl,by decide +kernel,by omega,λp hp=>⟨p,_,_,_,rfl,rfl,SqL.of Zad,ZaF (i:=0) ?_,q' _ (Same.new hp)⟩⟩;show ((Txt.split x " ").map V.str)[0]? = _;have h2:=h2.1;cases hh:Txt.split x " " with
    |nil=>exact absurd hh h2
    |cons y ys=>rfl
   ·have eD3:H3 D2=some (.lst (fwL.map V.str)):=by
     rw [eD2,<- ZqW,Yau];rfl
    refine ⟨D2,_,rfl,.inl (SqL.of eD3),rfl,by rfl,_,rfl,?_⟩;rw [show (if false=true then !inV (.str u) (fwL.map V.str) else inV (.str u) (fwL.map V.str))=decide (u∈fwL) from ZoL];have hR3:=s3 _ _ hR1;have hW3:=s3 _ _ hW1
    by_cases hfu:u∈fwL
    ·rw [Ya4 hfu];refine iteT ⟨_,rfl,Wd,_,_,_,rfl,rfl,SqL.of hW3,at0 u,_,rfl,Wd,_,_,_,rfl,rfl,SqL.of hW3,at0 u,_,_,rfl,rfl,sl6 (by omega),_,rfl,Wd,_,_,0,rfl,rfl,hW3,ZfN (n:=(List.map V.str (u :: m :: r)).length) (c:=0) (by simp),?_⟩;refine q2 _ _ ⟨R,Wd,_,o6,o7,rfl,hW0,hRW,(Zai hRW).trans hR3,?_,(sm1.trans s3).upd hW0⟩;unfold fstW;rw [Ya7 hfu];exact Zad
    ·rw [Ya5 hfu];refine iteF (q2 _ _ ⟨R,Wd,_,o6,o7,rfl,hW0,hRW,hR3,?_,sm1.trans s3⟩);unfold fstW;rw [Ya6 hfu];exact hW3
 ·rw [Ya5 h0];exact iteF (q1 h0)
theorem sq8 (T:Blt mg) {H0:Hp}{n:Nat}:PS (sqX P w K mg base f cdv A outer s H E) (sqS 8) (λE σ H=>∃ (ws:List Str) (sg:Str),SpC H0 n ws sg σ H/\(n % 3≠2->E.nx σ H)/\(n % 3=2->3<=ws.length/\∀ d∈bdL,∀ σ' H',SpC H0 n (ws.set (2+n / 18 % (ws.length - 2)) d) sg σ' H'->E.nx σ' H')):=λpins s1 σ H1 D I h=>by
 have nd:=sc_spoilt.nd;have hF:PS (sqX P w K mg base f cdv A outer s H E) (sqS 8) _:=Zay (Zap Za4 (Zax Zck (pv 0) Zag) Zag (Zaq _))
  (Zab (ZmR (i:=6) nd rfl (Or.inl rfl) (Or.inl rfl) _ _ _ _)
  (Zab (ZiX (i:=6) nd rfl (Or.inl rfl) (Or.inl rfl) (λp=>pv 6) _ _ _ _ _ _)
  (Zaf (Zc9 (Zar Zan (pv 6) (Zax Zck (Zax Zdd (pv 0) Zag) Zag) (λ_ _=>rfl)) (ZdD (pv 2) (Zax ZfC Zag (Zax Zck (Zax Zdd (pv 0) Zag) (Zax Zqv (pe_b Zao T.len boot_len (Zaa (pv 2) Zac)) Zag))) ZbO))))) Zah
 generalize sqS 8=S_ at hF ⊢;obtain ⟨ws,sg,⟨R,Wd,o5,o6,o7,rfl,hW0,hRW,hR,hW,sm⟩,q1,q2⟩:=h;refine hF pins s1 _ H1 D I ?_;refine ⟨_,rfl,_,_,rfl,rfl,by decide,rfl,_,rfl,?_⟩;rw [show decide (V.int ((n:Int) % 3)=V.int 2)=decide (n % 3=2) from dec3 (k:=2)]
 by_cases h0:n % 3=2
 ·rw [Ya4 h0];obtain ⟨l3,q2⟩:=q2 h0;refine iteT ⟨bdL.take 8,by kernel_rfl,by decide,λp hp=>?_⟩;have sp:=Same.new (o:=.lst ((bdL.take 8).map V.str)) hp;have ep:(upd H1 p (.lst ((bdL.take 8).map V.str))) p=some (.lst ((bdL.take 8).map V.str)):=Zad;generalize upd H1 p (.lst ((bdL.take 8).map V.str))=H2 at sp ep ⊢;refine ⟨bdL.take 8,bdL.drop 8,p,by kernel_rfl,rfl,ep,by decide,λp3 H4 hp3 sp3 ep3=>?_⟩;have s14:=sp.trans sp3;rw [List.take_append_drop] at ep3;have hpl:n / 54 % 16<bdL.length:=Ybl _ (by decide);have e3:((n:Int) / 54 % 16)=((n / 54 % 16:Nat):Int):=by omega
  refine ⟨_,rfl,_,rfl,_,_,rfl,rfl,⟨by decide,by decide⟩,_,_,rfl,rfl,by decide,p3,_,_,V.str bdL[n / 54 % 16],rfl,rfl,SqL.of ep3,by rw [e3];exact ZaF (by rw [Yaf,Yac hpl];rfl),?_⟩;have hW4:=s14 _ _ hW;have e1:((n:Int) / 18 % (((ws.map V.str).length:Int) - 2))=((n / 18 % (ws.length - 2):Nat):Int):=by
   rw [Yaa,show ((ws.length:Int) - 2)=((ws.length - 2:Nat):Int) by omega,Int.natCast_emod,Int.natCast_ediv];rfl
  have hlt:n / 18 % (ws.length - 2)<ws.length - 2:=Ybl _ (by omega);refine ⟨_,rfl,_,rfl,_,_,rfl,rfl,⟨by decide,by decide⟩,_,rfl,Wd,_,rfl,.inl (SqL.of hW4),_,_,rfl,rfl,_,_,rfl,rfl,by rw [Yaa];omega,_,_,rfl,rfl,Wd,_,_,2+n / 18 % (ws.length - 2),rfl,rfl,hW4,?_,?_⟩
  ·rw [e1,show ((2:Int)+((n / 18 % (ws.length - 2):Nat):Int))=((2+n / 18 % (ws.length - 2):Nat):Int) by omega];exact ZfN (by rw [Yaa];omega)
  ·refine q2 _ (YaL hpl) _ _ ⟨R,Wd,o5,_,o7,rfl,hW0,hRW,(Zai hRW).trans (s14 _ _ hR),?_,(sm.trans s14).upd hW0⟩;rw [Zad,List.map_set]
 ·rw [Ya5 h0];exact iteF (q1 h0)
end
open PySem L2 PyProof.Rows
section
variable {P:Program}{w:World}{K:Yab}{mg:Str->Option Value}{base:Heap}
variable {f:Addr}{cdv:Value}{A:Around}{outer:List Env}{s:Shared}{H:Hp}{E:XK}
theorem sqT {H0:Hp}{n:Nat}:PSs (sqX P w K mg base f cdv A outer s H E) [sqS 9,sqS 10,sqS 11] (λE σ H=>∃ (ws:List Str) (sg:Str),SpC H0 n ws sg σ H/\2<=ws.length/\ws.length<=10/\(∀ w∈ws,w.length<=30)/\∀ ws' H',Same H0 H'->(ws'=ws\/∃ u∈wyL,ws'=ws.set 1 u)->E.rt (.str (Txt.join " " ws')) H'):=λpins s1 σ H1 D I h=>by
 obtain ⟨ws,sg,⟨R,Wd,o5,o6,o7,rfl,hW0,hRW,hR,hW,sm⟩,l2,l10,hl,q⟩:=h;have nd:=sc_spoilt.nd;have hF:PSs (sqX P w K mg base f cdv A outer s H E) [sqS 9,sqS 10,sqS 11] _:=Zab (Zau (i:=7) nd rfl (Or.inl rfl) (Zax Zck (Zax Zdd (pv 0) Zag) Zag)) (Zab (Zay (Zap o_lt (pv 7) Zag (Zaq _)) (Zaf (Zc9 (Zar Zan (ZaK (ZaX (xs:=wyL) (by kernel_rfl))) (pv 7) (λ_ _=>rfl)) (ZdD (pv 2) Zag ZbO))) Zah) (Zaf (Zal (Zbp PySem.F.plainAttrs_str PySem.F.slot_str_join PySem.F.type_str_join ZeD Zam (Zaa (pv 2) Zac)))));generalize [sqS 9,sqS 10,sqS 11]=S_ at hF ⊢;refine hF pins s1 _ H1 D I ?_;have e1:((n:Int) / 100000 % 8)=((n / 100000 % 8:Nat):Int):=by omega
 refine ⟨_,rfl,_,_,rfl,rfl,⟨by decide,by decide⟩,_,_,rfl,rfl,by decide,?_⟩;refine ⟨_,rfl,_,_,rfl,rfl,_,rfl,ite2 (λh1=>?_) (λh1=>?_)⟩
 ·have h1:n / 100000 % 8<2:=by
   have:=of_decide_eq_true h1;omega
  refine ⟨sl6 (by decide),λp hp=>?_⟩;have sp:=Same.new (o:=.lst (wyL.map V.str)) hp;have ep:(upd H1 p (.lst (wyL.map V.str))) p=some (.lst (wyL.map V.str)):=Zad;generalize upd H1 p (.lst (wyL.map V.str))=H2 at sp ep ⊢;have hpl:n / 100000 % 8<wyL.length:=h1;refine ⟨_,rfl,p,_,_,V.str wyL[n / 100000 % 8],rfl,rfl,SqL.of ep,by rw [e1];exact ZaF (by rw [Yaf,Yac hpl];rfl),?_⟩;have hu:=YaL hpl;generalize wyL[n / 100000 % 8]=u at hu ⊢;have lu:=(Zlc u hu).2.2;refine ⟨_,rfl,Wd,_,_,1,rfl,rfl,sp _ _ hW,ZfN (c:=1) (by rw [Yaa];omega),?_⟩;refine ⟨rfl,_,rfl,_,Wd,ws.set 1 u,rfl,rfl,by rw [Zad,List.map_set],?_,?_⟩
  ·rw [show ((" " : Str))=⟨#[32]⟩ from ZbN];refine ZdL (B:=30) (λw hw=>?_) (by rw [YaK];omega);rcases List.mem_or_eq_of_mem_set hw with h | h
   ·exact hl w h
   ·rw [h];omega
  ·exact q _ _ ((sm.trans sp).upd hW0) (.inr ⟨u,hu,rfl⟩)
 ·refine ⟨rfl,_,rfl,_,Wd,ws,rfl,rfl,hW,?_,q _ _ sm (.inl rfl)⟩;rw [show ((" " : Str))=⟨#[32]⟩ from ZbN];exact ZdL (B:=30) hl (by omega)
theorem ZnL {i:Nat} (h:i<9):∃ x ws,spR[i]? = some x/\Txt.split x " " = ws/\ws∈spWL/\(i<6->ws∈spWL.take 6)/\x.length<=100:=by
 have hl:i<spR.length:=h;have e:(spR.map (λr=>Txt.split r " "))[i]? = spWL[i]?:=by rw [Zi7]
 rw [Yaf,Yac hl] at e;have e:some (Txt.split spR[i] " ")=spWL[i]?:=e;refine ⟨spR[i],_,Yac hl,rfl,YaP e.symm,λh6=>?_,(Zm0 _ (YaL hl)).2⟩;have:(spWL.take 6)[i]? = some (Txt.split spR[i] " "):=by rw [List.getElem?_take,Ya7 h6,<- e]
 exact YaP this
def l996:List Int:=[9,9,6]
theorem Zsb {k:Nat} (h:k<3):∃ m:Nat,atI (l996.map V.int) (k:Int)=some (V.int (m:Int))/\0<m/\m<=9/\(k=2->m=6):=by
 match k,h with
 | 0,_=>exact ⟨9,rfl,by decide,by decide,λh=>nomatch h⟩
 | 1,_=>exact ⟨9,rfl,by decide,by decide,λh=>nomatch h⟩
 | 2,_=>exact ⟨6,rfl,by decide,by decide,λ_=>rfl⟩
theorem ZnQ:∀ ws∈spWL.take 6,3<=ws.length/\ws.length<=5/\∀ w∈ws,w.length<=10:=by decide +kernel
theorem ZmL:∀ d∈bdL,d.length<=10:=by decide +kernel
theorem mod3 {p m:Nat} (h1:1<=m) (h2:m<=3):∃ q:Fin 3,p % m=q.val % m:=⟨⟨p % m,by have:=Ybl p h1;omega⟩,(Nat.mod_mod p m).symm⟩
theorem ZjI (T:Blt mg) (D:Zak K mg "_law_spoilt" Zcz ["cell"]):FnAt P w K mg base 1 "_law_spoilt" ["cell"] Zh2:=by
 refine FnAt.of D sc_spoilt (λvs H Q E h=>?_) (λf cdv A outer s H vs Q E hr h=>?_)
 ·obtain ⟨n,rfl,_⟩:=h;rfl
 ·obtain ⟨n,rfl,q⟩:=h;have nd:=sc_spoilt.nd;have B0:PS (sqX P w K mg base f cdv A outer s H E) (sqS 0) _:=ZmR (i:=1) nd rfl (Or.inl rfl) (Or.inl rfl) _ _ _ _;have B1:PS (sqX P w K mg base f cdv A outer s H E) (sqS 1) _:=ZiX (i:=1) nd rfl (Or.inl rfl) (Or.inl rfl) (λp=>pv 1) _ _ _ _ _ _;have B2:PS (sqX P w K mg base f cdv A outer s H E) (sqS 2) _:=ZiX (i:=1) nd rfl (Or.inl rfl) (Or.inl rfl) (λp=>pv 1) _ _ _ _ _ _;have B3:PS (sqX P w K mg base f cdv A outer s H E) (sqS 3) _:=Zau (i:=2) nd rfl (Or.inl rfl) (Zbp PySem.F.plainAttrs_str PySem.F.slot_str_split PySem.F.type_str_split ZbA (Zar Zan (pv 1) (Zax Zck (Zax Zdd (pv 0) Zag) (Zar Zan (ZaK (Zaa Zag (Zaa Zag (Zaa Zag Zac)))) (Zax Zck (pv 0) Zag) (λ_ _=>rfl))) (λ_ _=>rfl)) (Zaa Zam Zac));have B4:PS (sqX P w K mg base f cdv A outer s H E) (sqS 4) (tAsg (tC (.str sgS)) (ZaT 3)):=Zau (i:=3) nd rfl (Or.inl rfl) Zam;have B5:PS (sqX P w K mg base f cdv A outer s H E) (sqS 5) _:=Zau (i:=4) nd rfl (Or.inl rfl) (Zar Zkx (pv 3) (Zax Zck (Zax Zdd (pv 0) Zag) (pe_b Zbm T.len boot_len (Zaa (pv 3) Zac))) (λ_ _=>rfl));have B6:=@sq6 P w K mg base f cdv A outer s H E H n;have B7:=@sq7 P w K mg base f cdv A outer s H E T H n;have B8:=@sq8 P w K mg base f cdv A outer s H E T H n;have B9:=@sqT P w K mg base f cdv A outer s H E H n;have eB:ZaQ Zcz=[sqS 0,sqS 1,sqS 2,sqS 3,sqS 4,sqS 5,sqS 6,sqS 7,sqS 8,sqS 9,sqS 10,sqS 11]:=by kernel_rfl
  rw [eB];generalize sqS 0=S0 at B0 ⊢;generalize sqS 1=S1 at B1 ⊢;generalize sqS 2=S2 at B2 ⊢;generalize sqS 3=S3 at B3 ⊢;generalize sqS 4=S4 at B4 ⊢;generalize sqS 5=S5 at B5 ⊢;generalize sqS 6=S6 at B6 ⊢;generalize sqS 7=S7 at B7 ⊢;generalize sqS 8=S8 at B8 ⊢;generalize sqS 9=S9 at B9 ⊢;generalize sqS 10=S10 at B9 ⊢;generalize sqS 11=S11 at B9 ⊢;refine ⟨_,Zab B0 (Zab B1 (Zab B2 (Zab B3 (Zab B4 (Zab B5 (Zab B6 (Zab B7 (Zab B8 B9)))))))),?_⟩;clear B0 B1 B2 B3 B4 B5 B6 B7 B8 B9;refine ⟨spR.take 3,by kernel_rfl,by decide,λp0 hp0=>?_⟩;have s0:=Same.new (o:=.lst ((spR.take 3).map V.str)) hp0;have e0:(upd H p0 (.lst ((spR.take 3).map V.str))) p0=some (.lst ((spR.take 3).map V.str)):=Zad;generalize upd H p0 (.lst ((spR.take 3).map V.str))=H0 at s0 e0 ⊢;refine ⟨spR.take 3,(spR.drop 3).take 3,p0,by kernel_rfl,rfl,e0,by decide,λp2 H2 hp2 s2 e2=>?_⟩;have e2:H2 p2=some (.lst ((spR.take 6).map V.str)):=e2;refine ⟨spR.take 6,spR.drop 6,p2,by kernel_rfl,rfl,e2,by decide,λR H4 hR s4 e4=>?_⟩;rw [List.take_append_drop] at e4;have t4:Same H H4:=(s0.trans s2).trans s4;clear s0 s2 s4 e0 e2;obtain ⟨m,am,m0,m9,m6⟩:=Zsb (k:=n % 3) (Ybl _ (by decide));have hi:n / 3 % m<9:=by have:=Ybl (n / 3) m0;omega
  obtain ⟨x,ws,ex,ew,hw,hw6,lx⟩:=ZnL hi;refine ⟨_,rfl,_,rfl,_,_,rfl,rfl,⟨by decide,by decide⟩,sl6 (by decide),λL hL=>?_⟩;have s5:=Same.new (o:=.lst [V.int 9,V.int 9,V.int 6]) hL;have e5:(upd H4 L (.lst [V.int 9,V.int 9,V.int 6])) L=some (.lst (l996.map V.int)):=Zad;generalize upd H4 L (.lst [V.int 9,V.int 9,V.int 6])=H5 at s5 e5 ⊢;refine ⟨_,rfl,_,_,rfl,rfl,by decide,L,_,_,V.int (m:Int),rfl,rfl,SqL.of e5,by rw [show ((n:Int) % 3)=((n % 3:Nat):Int) by omega];exact am,_,_,rfl,rfl,by omega,R,_,_,V.str x,rfl,rfl,SqL.of (s5 _ _ e4),?_,rfl,_,_,rfl,rfl,by decide +kernel,by omega,λWd hWd=>?_⟩
  ·rw [show ((n:Int) / 3 % (m:Int))=((n / 3 % m:Nat):Int) by rw [Int.natCast_emod,Int.natCast_ediv];rfl];exact ZaF (by rw [Yaf,ex];rfl)
  rw [ew];have s6:=Same.new (o:=.lst (ws.map V.str)) hWd;have e6:(upd H5 Wd (.lst (ws.map V.str))) Wd=some (.lst (ws.map V.str)):=Zad;have hW0:H Wd=none:=(t4.trans s5).free hWd;have hRW:R≠Wd:=λz=>by
   have:=s5 _ _ e4;rw [z,hWd] at this;cases this
  generalize upd H5 Wd (.lst (ws.map V.str))=H6 at s6 e6 ⊢;have t6:=(t4.trans s5).trans s6;have e4:=s6 _ _ (s5 _ _ e4);clear s5 s6 e5;have lS:sgS.length=69:=by decide +kernel
  have hpl:n / 1000 % 69<sgS.cps.toList.length:=by
   rw [ZaN,lS];exact Ybl _ (by decide)
  show tSeq (tAsg (tC _) (ZaT 3)) _ _ _ _;refine ⟨_,rfl,_,rfl,_,_,rfl,rfl,⟨by decide,by decide⟩,_,rfl,sgS,rfl,sl6 (by omega),_,_,rfl,rfl,by rw [lS];decide,sgS,_,_,rfl,rfl,sl6 (by omega),by rw [lS,show ((n:Int) / 1000 % ((69:Nat):Int))=((n / 1000 % 69:Nat):Int) by omega];exact ZaF (Yac hpl),?_⟩;have hc:sgS.cps.toList[n / 1000 % 69]∈sgL:=by
   rw [<- ZpF];exact YaL hpl
  generalize sgS.cps.toList[n / 1000 % 69]=c at hc ⊢;obtain ⟨f0,r,rfl,g⟩:=ZqV hw;have c0:SpC H n (f0 :: nmS :: r) ⟨#[c]⟩ [some (.int (n:Int)),some (.ref R),some (.ref Wd),some (.str sgS),some (.str ⟨#[c]⟩),none,none,none] H6:=⟨R,Wd,none,none,none,rfl,hW0,hRW,e4,e6,t6⟩;have l1:(⟨#[c]⟩:Str).length=1:=rfl;have fl:=Zhz f0 g.fw;have r3:=g.r3;have rl:∀ w∈r,w.length<=30:=λw hw=>by have:=(g.all w (Yas _ hw)).2;omega
  have ln:nmS.length<=30:=by decide +kernel
  refine ⟨f0,_,r,c0,by omega,λn0=>?_,λn0 σ' H' c1=>?_⟩
  ·refine ⟨f0,_,nmS,r,c0,by omega,l1,λn1=>?_,λn1 d hd σ' H' c1=>?_⟩
   ·have n2:n % 3=2:=by omega
    have w6:=hw6 (by have:=Ybl (n / 3) m0;have:=m6 n2;omega);have l6:=ZnQ _ w6;refine ⟨_,_,c0,λh=>absurd n2 h,λ_=>⟨l6.1,λd hd σ' H' c1=>⟨_,_,c1,by rw [YaK];exact Yay (by decide) l6.1,by rw [YaK];omega,λw hw=>?_,λws' H2 hs hws=>?_⟩⟩⟩
    ·rcases List.mem_or_eq_of_mem_set hw with h | h
     ·have:=l6.2.2 w h;omega
     ·rw [h];have:=ZmL d hd;omega
    ·refine q _ _ ?_ hs;obtain ⟨p,hp⟩:=mod3 (p:=n / 18) (m:=(f0 :: nmS :: r).length - 2) (by have:=l6.1;omega) (by have:=l6.2.1;omega);rw [hp] at hws;rcases hws with rfl | ⟨u,hu,rfl⟩
     ·exact Zo2 _ w6 p d hd
     ·exact ZmO _ w6 p d hd u hu
   ·have hd32:d≠32:=by
     have hd:d∈((⟨#[c]⟩:Str).cps ++ abS.cps).toList:=hd;rw [Array.toList_append] at hd;rcases YaG.mp hd with h | h
     ·rw [YaJ.mp h];exact Zi1 c hc
     ·exact Zo6 d h
    have hf:=Zi3 (a:=n / 27 % (f0.length+1)) (c:=d) (b:=n / 243 % 2) g.fw (by have:=Ybl (n / 27) (show f0.length+1 > 0 by omega);omega) hd32 (Ybl _ (by decide));generalize fstW (spT f0 (n / 27 % (f0.length+1)) ⟨#[d]⟩ (n / 243 % 2))=f1 at c1 hf;refine ⟨_,_,c1,λ_=>⟨_,_,c1,by simp,by simp;omega,λw hw=>?_,λws' H2 hs hws=>?_⟩,λh=>absurd h (by omega)⟩
    ·rcases YaF.mp hw with rfl | hw
     ·omega
     ·rcases YaF.mp hw with rfl | hw
      ·exact ln
      ·exact rl w hw
    ·refine q _ _ ?_ hs;rcases hws with rfl | ⟨u,hu,rfl⟩
     ·exact Zf9 g hf.1 hf.2.1 hf.2.2 (by decide +kernel) (by decide +kernel)
     ·have:=Zlc u hu;exact Zf9 g hf.1 hf.2.1 hf.2.2 this.2.1 this.2.2
  ·have hn:=Zlt (a:=n / 27 % 9) (c:=c) (b:=n / 243 % 2) (Ybl _ (by decide)) hc (Ybl _ (by decide));generalize spT nmS (n / 27 % 9) ⟨#[c]⟩ (n / 243 % 2)=u1 at c1 hn;refine ⟨f0,_,u1,r,c1,by omega,l1,λn1=>⟨_,_,c1,λ_=>⟨_,_,c1,by simp,by simp;omega,λw hw=>?_,λws' H2 hs hws=>?_⟩,λh=>absurd h (by omega)⟩,λh=>absurd h (by omega)⟩
   ·rcases YaF.mp hw with rfl | hw
    ·omega
    ·rcases YaF.mp hw with rfl | hw
     ·omega
     ·exact rl w hw
   ·refine q _ _ ?_ hs;rcases hws with rfl | ⟨u,hu,rfl⟩
    ·exact Ze6 g hn.1 hn.2.1 hn.2.2
    ·have:=Zlc u hu;exact Ze6 g this.1 this.2.1 this.2.2
end
open PySem L2 PyProof.Rows
def tbS:List (Str × Str):=[(("a" : Str),("1 3/2 5" : Str)),("abcdefgh","1 1 1/1 1 1"),("b","7")]
def tbK:List (Key × V):=tbS.map λp=>(Sum.inr p.1,V.str p.2)
def tbN:List Str:=tbS.map (·.1)
def ptX (n tx:Str):Str:=((Str.ofString "table " ++ n) ++ Str.ofString " ") ++ tx
def ptB (n tx:Str) (rows:List (List Int)):Bool :=
 decide ((ptX n tx).length<=900) && hfB (spl (ptX n tx)) && decide (spl (ptX n tx)=[("table" : Str),n,tx]) && decide (tx.length<=900) && !ZfQ tx &&
 (let y:=Txt.replace tx "/" "\n"; decide (y.length<=2000) && decide ((Txt.split y "\n").length<=600) && (Txt.split y "\n").all (λl=>decide (l.length<=600)) && !rows.isEmpty && rows.all (λr=>!r.isEmpty) && decide (Txt.split y "\n" = rows.map rowS)) &&
 Zb4 rows && decide (Txt.replace (tabS rows) "\n" "/" = tx) && rows.all (λr=>r.all λn=>decide (n.natAbs<10 ^ 9))
def shX (n:Str):Str:=Str.ofString "show " ++ n
def shwB (n:Str):Bool:=decide ((shX n).length<=900) && hfB (spl (shX n)) && decide (spl (shX n)=[("show" : Str),n])
def atB (i:Nat):Bool:=match tbS[i]?,ts37[i]? with
 |some p,some q=>decide (p.1=q.1) && ptB p.1 p.2 q.2 && shwB p.1
 |_,_=>false
theorem Zsa:∀ i:Fin 3,atB i=true:=by decide +kernel
structure PtOk (n tx:Str) (rows:List (List Int)):Prop where
 l:(ptX n tx).length<=900
 f:hfB (spl (ptX n tx))=true
 s:spl (ptX n tx)=[("table" : Str),n,tx]
 lx:tx.length<=900
 nl:ZfQ tx=false
 t:ZiJ (Txt.replace tx "/" "\n")
 r:RowsOf (Txt.replace tx "/" "\n") rows
 ok:Zb4 rows=true
 back:Txt.replace (tabS rows) "\n" "/" = tx
 bd:∀ r∈rows,Bd50 r
 sl:(shX n).length<=900
 sf:hfB (spl (shX n))=true
 ss:spl (shX n)=[("show" : Str),n]
theorem ZpU {i:Nat} (h:i<3):∃ n tx rows,tbS[i]? = some (n,tx)/\ts37[i]? = some (n,rows)/\PtOk n tx rows:=by
 have:=Zsa ⟨i,h⟩;have h1:i<tbS.length:=h;have h2:i<ts37.length:=h;unfold atB at this;rw [Yac h1,Yac h2] at this;dsimp only at this;rw [Yac h1,Yac h2];generalize tbS[i]=p at this ⊢;generalize ts37[i]=q at this ⊢;obtain ⟨n,tx⟩:=p;obtain ⟨n',rows⟩:=q;unfold ptB shwB at this;simp only [Yaj,YaN,Bool.not_eq_true',YaO] at this;obtain ⟨⟨e,⟨⟨⟨⟨⟨⟨⟨⟨a1,a2⟩,a3⟩,a4⟩,a5⟩,⟨⟨⟨⟨⟨b1,b2⟩,b3⟩,b4⟩,b5⟩,b6⟩⟩,a6⟩,a7⟩,a8⟩⟩,⟨c1,c2⟩,c3⟩:=this;subst e;refine ⟨n,tx,rows,rfl,rfl,a1,a2,a3,a4,a5,⟨b1,b2,b3⟩,⟨?_,?_,b6⟩,a6,a7,λr hr n hn=>Nat.lt_trans (a8 r hr n hn) (by decide),c1,c2,c3⟩
 ·intro z;rw [z] at b4;cases b4
 ·intro r hr z;have:=b5 r hr;rw [z] at this;cases this
theorem DeskAt.put {H:Hp}{C a dx d t:Addr}{ts:Ts}{n:Str}{prs:Prs} (h:DeskAt H C a dx d ts) (hn:n∉ts.map (·.1)) (hT:Tab H t prs) (hg:tabB prs=true):DeskAt (upd H d (.dK (putK (kvs ts) (Sum.inr n) (.ref t)))) C a dx d (ts ++ [(n,t,prs)]):=by
 have hl:∀ {b:Addr}{xs:List V},H b=some (.lst xs)->b≠d:=λe z=>by
  rw [z,h.D] at e;cases e
 have tabs:∀ {t:Addr}{prs:Prs}{o:HO},Tab H t prs->Tab (upd H d o) t prs:=λq=>⟨(Zai (hl q.l)).trans q.l,λp hp=>by
  have:=q.r p hp
  exact (Zai (hl this)).trans this⟩
 refine ⟨?_,?_,?_,?_⟩
 ·refine (Zai λz=>?_).trans h.ob;have:=h.ob;rw [z,h.D] at this;cases this
 ·rw [Zad,Zep _ (Zga hn)];unfold kvs;rw [Yah];rfl
 ·intro e he;rcases YaG.mp he with he | he
  ·exact ⟨tabs (h.T e he).1,(h.T e he).2⟩
  ·rw [YaJ.mp he];exact ⟨tabs hT,hg⟩
 ·rw [Yah,List.nodup_append];refine ⟨h.nd,by simp,λx hx y hy z=>?_⟩;rw [z] at hx;simp at hy;rw [hy] at hx;exact hn hx
theorem DeskAt.but {H:Hp}{C a dx d x:Addr}{o:HO}{kv:List (Key × V)} (h:DeskAt H C a dx d []) (hx:H x=some (.dK kv)) (n:x≠d):DeskAt (upd H x o) C a dx d [] :=
 ⟨(Zai λz=>by have:=h.ob;rw [z,hx] at this;cases this).trans h.ob,(Zai n.symm).trans h.D,(λe he=>nomatch he),.nil⟩
structure Wd (K:Yab) (C a dx d o ox od tb:Addr) (ob:Obj) (ts:Ts) (ns:List Int) (a0:Addr) (H:Hp):Prop where
 dk:DeskAt H C a dx d ts
 ot:DeskAt H C o ox od []
 tb:H tb=some (.frz ob (.dK tbK))
 rt:ZcG ts=ts37
 bd:∀ e∈ts,∀ q∈e.2.2,Bd50 q.2
 sc:SqL K H a0 (ns.map V.int)
theorem Wd.same {K:Yab}{C a dx d o ox od tb:Addr}{ob:Obj}{ts:Ts}{ns:List Int}{a0:Addr}{H H':Hp} (h:Wd K C a dx d o ox od tb ob ts ns a0 H) (s:Same H H'):Wd K C a dx d o ox od tb ob ts ns a0 H' :=
 ⟨h.dk.same s,h.ot.same s,s _ _ h.tb,h.rt,h.bd,s.seq h.sc⟩
theorem Wd.names {K:Yab}{C a dx d o ox od tb:Addr}{ob:Obj}{ts:Ts}{ns:List Int}{a0:Addr}{H:Hp} (h:Wd K C a dx d o ox od tb ob ts ns a0 H):ts.map (·.1)=tbN:=by
 have:=congrArg (List.map (·.1)) h.rt;unfold ZcG at this;rw [Yau] at this;exact this
theorem Zh0:∀ x∈tbN,∀ y∈tbN,∀ z∈tbN,[x,y,z].Nodup->sortedS [x,y,z]=true->[x,y,z]=tbN:=by decide +kernel
theorem Zj6 {ss:List Str} (hp:ss.Perm tbN) (hs:sortedS ss=true):ss=tbN:=by
 have hl:ss.length=3:=hp.length_eq
 match ss,hl with
 | [x,y,z],_ =>
  refine Zh0 x (hp.subset (by simp)) y (hp.subset (by simp)) z (hp.subset (by simp)) ?_ hs;exact hp.symm.nodup (by decide +kernel)
def EvD (H:Hp) (q:Addr):Prop:=(∃ y j,Zd2 y=some j/\H q=some (.tup [.str y,.str (kdW.getD j "")]))\/∃ x dd,RdS [] H x dd/\ZdM dd=false/\H q=some (.tup [x,.str "row"])
def EvT (H:Hp) (q:Addr):Prop:=∃ y j,Zd2 y=some j/\H q=some (.tup [.str y,.str (kdW.getD j "")])
theorem EvT.same {H H':Hp}{q:Addr} (h:EvT H q) (s:Same H H'):EvT H' q:=by
 obtain ⟨y,j,h1,h2⟩:=h;exact ⟨y,j,h1,s _ _ h2⟩
theorem Zhs {y:Str} (h:badR y=true):Zd2 y=some 4:=by
 unfold badR at h;rw [Yaj,YaN,Bool.not_eq_true'] at h;unfold Zd2;rw [Ya7 h.1,Ya7 h.2]
theorem Zl0 {p:Str × Str} (h:othB p=true):∃ j,Zd2 p.1=some j/\p.2=kdW.getD j "" := by
 unfold othB at h;split at h
 ·next j hj=>exact ⟨j,hj,of_decide_eq_true h⟩
 ·cases h
section
variable {C:Addr}{cs:List Addr}
theorem Zq3 {K:Yab}{a dx d o ox od tb:Addr}{ob:Obj}{ts:Ts}{ns:List Int}{a0:Addr}{H:Hp} (h:Wd K C a dx d o ox od tb ob ts ns a0 H) {q:Addr} (hq:EvD H q):∃ x j,H q=some (.tup [x,.str (kdW.getD j "")])/\j<7/\Refs cs (ZbX C cs) H a x (kdL.getD j 0):=by
 rcases hq with ⟨y,j,h1,h2⟩ | ⟨x,dd,h1,h2,h3⟩
 ·have:=Zks (cs:=cs) h.dk h.rt h1;exact ⟨_,j,h2,this.1,this.2⟩
 ·exact ⟨x,4,h3,by decide,λH1 Q E s1 he=>.inl ⟨a,x,dd,rfl,h1.same s1,.inl h2,he⟩⟩
end
open PySem L2 PyProof.Rows
def forB:Stmt->List Stmt
 | .For _ _ b _ _=>b
 |_=>[]
def lwS (k:Nat):Stmt:=(ZaQ dLaw).getD k (.Pass ⟨0,0,0,0⟩)
abbrev l37N:List Str:=["script","desk","other","tables","name","held","row","every","thing","k","cell","due","told","rows"]
theorem sc_law37:FnScope l37N ["script"] (Zae dLaw):=⟨rfl,rfl,rfl,by decide +kernel,rfl,by decide +kernel,by decide +kernel⟩
section
variable {P:Program}{w:World}{K:Yab}{mg:Str->Option Value}{base:Heap}{C c9:Addr}
abbrev lwX (P:Program) (w:World) (K:Yab) (mg:Str->Option Value) (base:Heap) (f:Addr) (cdv:Value) (A:Around) (outer:List Env) (s:Shared) (H:Hp) (E:XK):Cx:=(cxOf CX0 P w K mg base l37N "law" (Zae dLaw) f cdv A outer s H E).nox
variable {f:Addr}{cdv:Value}{A:Around}{outer:List Env}{s:Shared}{H:Hp}{E:XK}
theorem Zho {H:Hp}{Q:VK} (q:∀ a dx d H',Same H H'->H d=none->DeskAt H' C a dx d []->Q (.ref a) H'):∀ x dx,H x=none->H dx=none->dx≠x->Zdz C [.ref x] (upd (upd H dx (.own x)) x (.ins C dx [])) (λv H2=>v=.non/\Q (.ref x) H2) E0:=λx dx hx hdx n=>by
 refine ⟨x,dx,rfl,Zad,λd H' hd nd k hD=>⟨rfl,q x dx d H' (λb o e=>?_) ?_ hD⟩⟩
 ·have nb:b≠x:=λz=>by rw [z,hx] at e;cases e
  have nb2:b≠dx:=λz=>by rw [z,hdx] at e;cases e
  refine k b o nb ?_;rw [Zai nb,Zai nb2];exact e
 ·rw [Zai nd] at hd
  by_cases z:d=dx
  ·rw [z];exact hdx
  ·rw [Zai z] at hd;exact hd
theorem lw0 (M:MtAt P w K mg base 1 C "__init__" ["self"] (Zdz C)) (hmk:PySem.W.makesIn K C=true) (hkp:PySem.W.keepIn K (.ref C)=true) (hm:mg "Desk" = some (.ref C)) (hr:Room 2 (lwX P w K mg base f cdv A outer s H E).A):PS (lwX P w K mg base f cdv A outer s H E) (lwS 0) (λD σ H=>∀ a dx d H',Same H H'->H d=none->DeskAt H' C a dx d []->D.nx (σ.set 1 (some (.ref a))) H'):=λpins s1 σ H1 D I q=>by
 have nd:=sc_law37.nd;have hF:PS (lwX P w K mg base f cdv A outer s H E) (lwS 0) _:=Zau (i:=1) nd rfl (Or.inr rfl) (Zjy M hmk hkp hr rfl hm);generalize (lwS 0)=S_ at hF ⊢;exact hF pins s1 σ H1 D I (Zho (Q:=λv H'=>D.nx (σ.set 1 (some v)) H') λa dx d H' sm hd hD=>q a dx d H' sm hd hD)
theorem lw1 (M:MtAt P w K mg base 1 C "__init__" ["self"] (Zdz C)) (hmk:PySem.W.makesIn K C=true) (hkp:PySem.W.keepIn K (.ref C)=true) (hm:mg "Desk" = some (.ref C)) (hr:Room 2 (lwX P w K mg base f cdv A outer s H E).A):PS (lwX P w K mg base f cdv A outer s H E) (lwS 1) (λD σ H=>∀ a dx d H',Same H H'->H d=none->DeskAt H' C a dx d []->D.nx (σ.set 2 (some (.ref a))) H'):=λpins s1 σ H1 D I q=>by
 have nd:=sc_law37.nd;have hF:PS (lwX P w K mg base f cdv A outer s H E) (lwS 1) _:=Zau (i:=2) nd rfl (Or.inl rfl) (Zjy M hmk hkp hr rfl hm);generalize (lwS 1)=S_ at hF ⊢;exact hF pins s1 σ H1 D I (Zho (Q:=λv H'=>D.nx (σ.set 2 (some v)) H') λa dx d H' sm hd hD=>q a dx d H' sm hd hD)
def ZkL:List (Option Expr)->List Expr->Option (List (Str × Str))
 | [],[]=>some []
 |k :: ks,v :: vs=>(k.bind strE).bind λa=>(strE v).bind λb=>(ZkL ks vs).map ((a,b) :: ·)
 |_,_=>none
def dTrs (kvs:List (Str × Str)):List (TE × TE):=kvs.map λq=>(tC (.str q.1),tC (.str q.2))
theorem Zee {σ:L2.St}{H:Hp}:∀ (kvs:List (Str × Str)) (Q:List (V × V)->Hp->Prop),Q (kvs.map λq=>(V.str q.1,V.str q.2)) H->ZgS (dTrs kvs) σ H Q
 | [],Q,h=>h
 |q :: kvs,Q,h=>Zee kvs _ h
theorem ZhL {X:Cx}{pos:Pos}:∀ {ks:List (Option Expr)}{vs:List Expr}{kvs:List (Str × Str)},ZkL ks vs=some kvs->PPs X pos ks vs (dTrs kvs)/\ks.all (·.isSome)=true/\ks.length=vs.length/\ks.length=kvs.length
 | [],[],kvs,h=>by
  cases h;exact ⟨Zjt,rfl,rfl,rfl⟩
 | [],_ :: _,_,h=>nomatch h
 |_ :: _,[],_,h=>nomatch h
 |k :: ks,v :: vs,kvs,h=>by
  obtain ⟨a,ha,h1⟩:=Option.bind_eq_some_iff.mp h;obtain ⟨k0,rfl,ha1⟩:=Option.bind_eq_some_iff.mp ha;obtain ⟨b,hb,h2⟩:=Option.bind_eq_some_iff.mp h1;obtain ⟨ls,e,rfl⟩:=Option.map_eq_some_iff.mp h2;obtain ⟨j,p,rfl⟩:=Zgc ha1;obtain ⟨j2,p2,rfl⟩:=Zgc hb;obtain ⟨h1,h2,h3,h4⟩:=ZhL (X:=X) (pos:=pos) e;exact ⟨Zhf Zam Zam h1,by rw [List.all_cons,h2];rfl,by rw [YaC,YaC,h3],by rw [YaC,YaC,h4]⟩
theorem ZnG {X:Cx}{x:Str}{i:Nat} (nd:X.N.Nodup) (hi:X.N[i]? = some x) (hx:Loc X.env.scope x) (hf:X.fn x=true\/X.env.scope.names.lookup x=some .local) (ks:List (Option Expr)) (vs:List Expr) (pos pos' p2:Pos) :
  PS X (.Assign [.Name x pos'] (.Dict ks vs pos) p2) (λE σ H=>∃ kvs,ZkL ks vs=some kvs/\kvs≠[]/\kvs.length<=15/\∀ p,H p=none->E.nx (σ.set i (some (.ref p))) (upd (upd H p (.dK [])) p (.dK (ZbZ [] (kvs.map λq=>(Sum.inr q.1,V.str q.2)))))):=λpins s σ H D I ⟨kvs,hy,hn,hl,q⟩=>by
 obtain ⟨h1,h2,h3,h4⟩:=ZhL (X:=X) (pos:=pos) hy;refine Zau nd hi hx (ZjA h1 h2 h3 (λz=>hn (List.length_eq_zero_iff.mp (by rw [<- h4,z];rfl))) (by omega)) rfl hf pins s _ H D I ?_;intro p hp;refine Zee kvs _ ⟨Zad,kvs.map λq:Str × Str=>((Sum.inr q.1:Key),V.str q.2),by rw [Yau];rfl,by rw [Yaa];exact hl,q p hp⟩
theorem lw2:PS (lwX P w K mg base f cdv A outer s H E) (lwS 2) (λD σ H=>∀ tb,H tb=none->D.nx (σ.set 3 (some (.ref tb))) (upd H tb (.dK tbK))):=λpins s1 σ H1 D I q=>by
 have nd:=sc_law37.nd;have hF:PS (lwX P w K mg base f cdv A outer s H E) (lwS 2) _:=ZnG (i:=3) nd rfl (Or.inl rfl) (Or.inl rfl) _ _ _ _ _;generalize lwS 2=S_ at hF ⊢;refine hF pins s1 σ H1 D I ⟨tbS,by kernel_rfl,by decide,by decide,λtb htb=>?_⟩;have e:upd (upd H1 tb (.dK [])) tb (.dK (ZbZ [] tbK))=upd H1 tb (.dK tbK):=by
  have e2:ZbZ [] tbK=tbK:=by decide +kernel
  funext b
  unfold upd;split
  ·rw [e2]
  ·rfl
 show D.nx _ (upd (upd H1 tb (.dK [])) tb (.dK (ZbZ [] tbK)));rw [e];exact q tb htb
structure Wi (K:Yab) (C a dx d o ox od tb:Addr) (ob:Obj) (ts:Ts) (H0 H:Hp) (i:Nat):Prop where
 dk:DeskAt H C a dx d ts
 ot:DeskAt H C o ox od []
 tb:H tb=some (.frz ob (.dK tbK))
 rt:ZcG ts=ts37.take i
 bd:∀ e∈ts,∀ q∈e.2.2,Bd50 q.2
 sm:Same H0 H
theorem Zlj {i:Nat}{n:Str}{rows:List (List Int)} (h:ts37[i]? = some (n,rows)):n∉(ts37.take i).map (·.1):=by
 have hi:i<3:=(Yai.mp h).1;have:∀ i:Fin 3,∀ p∈ts37[i.val]?,p.1∉(ts37.take i.val).map (·.1):=by decide +kernel
 exact this ⟨i,hi⟩ (n,rows) h
theorem lw3 (kc:DkK K C) (M:MtAtX P w K mg base 38 C "say" ["self","row"] (ZgZ C (spRS c9 Zlu))) (hr:Room 38 (lwX P w K mg base f cdv A outer s H E).A):PS (lwX P w K mg base f cdv A outer s H E) (lwS 3) (λD σ H1=>∃ (H0:Hp) (a0 a dx d o ox od tb:Addr),σ = [some (.ref a0),some (.ref a),some (.ref o),some (.ref tb),none,none,none,none,none,none,none,none,none,none]/\Same H0 H1/\H0 d=none/\H0 tb=none/\d≠od/\tb≠d/\tb≠od/\DeskAt H1 C a dx d []/\DeskAt H1 C o ox od []/\H1 tb=some (.dK tbK) /\
  ∀ ob ts H' o4,Wi K C a dx d o ox od tb ob ts H0 H' 3->D.nx [some (.ref a0),some (.ref a),some (.ref o),some (.ref tb),o4,none,none,none,none,none,none,none,none,none] H'):=λpins s1 σ H1 D I h=>by
 obtain ⟨H0,a0,a,dx,d,o,ox,od,tb,rfl,sm,hd0,htb0,ndo,ntd,nto,hD,hO,htb,q⟩:=h;have nd:=sc_law37.nd;have hu:=Zc8 hr;have hF:PS (lwX P w K mg base f cdv A outer s H E) (lwS 3) _:=Zcq PassesOwn.never rfl (Zjw (pv 3)) (Za3 (i:=4) nd rfl (Or.inl rfl)) (Zaf (ZaG (Zjz M kc.cls hr ZeP (pv 1) (Zaa (Zax ZaI (Zax ZaI (Zax ZaI Zam (pv 4)) Zam) (ZbC hu (pv 3) (pv 4) (λ_ _=>rfl))) Zac))));generalize (lwS 3)=S_ at hF ⊢;refine hF pins s1 _ H1 D I ?_;refine ⟨_,rfl,tb,tbK,tbN,rfl,rfl,.inl ⟨htb,λob=>?_⟩⟩;have w0:Wi K C a dx d o ox od tb ob [] H0 (upd H1 tb (.frz ob (.dK tbK))) 0:=⟨⟨(Zai λz=>by have:=hD.ob;rw [z,htb] at this;cases this).trans hD.ob,(Zai ntd.symm).trans hD.D,(λe he=>nomatch he),.nil⟩,hO.but htb nto,Zad,rfl,(λe he=>nomatch he),sm.upd htb0⟩;generalize upd H1 tb (.frz ob (.dK tbK))=H2 at w0 ⊢;refine ZhB (λi σ H=>∃ o4 ts,σ = [some (.ref a0),some (.ref a),some (.ref o),some (.ref tb),o4,none,none,none,none,none,none,none,none,none]/\Wi K C a dx d o ox od tb ob ts H0 H i) ⟨none,[],rfl,w0⟩ (λi σ H ⟨_,_,_,w⟩=>w.tb) (λi x σ H hx ⟨o4,ts,es,w⟩=>?_) (λσ H ⟨o4,ts,es,w⟩=>by rw [es];exact q ob ts H o4 w);subst es;have hi:i<3:=(Yai.mp hx).1;obtain ⟨n,tx,rows,e1,e2,g⟩:=ZpU hi;have ex:x=n:=by
  have:tbN[i]? = some n:=by
   unfold tbN;rw [Yaf,e1];rfl
  rw [this] at hx;exact (Yae hx).symm
 subst ex;have g1:DGet H tb (kV (Sum.inr x)) (some (.str tx)):=by
  have hv:valV tbK (Sum.inr x)=some (V.str tx):=by
   have:∀ i:Fin 3,∀ p∈tbS[i.val]?,valV tbK (Sum.inr p.1)=some (V.str p.2):=by
    intro i p hp
    match i,hp with
    | 0,hp=>cases hp;rfl
    | 1,hp=>cases hp;rfl
    | 2,hp=>cases hp;rfl
   exact this ⟨i,hi⟩ (x,tx) e1
  rw [<- hv];exact .inl ⟨tbK,Sum.inr x,.inr ⟨ob,w.tb⟩,rfl,rfl⟩
 have lx:(ptX x tx).length=("table " : Str).length+x.length+(" " : Str).length+tx.length:=by
  unfold ptX;rw [ZaS,ZaS,ZaS]
 have l9:=g.l;have lw:ts.length=i:=by
  have:=congrArg List.length w.rt;unfold ZcG at this;rw [Yaa,YaR] at this;have h3:ts37.length=3:=rfl;omega
 refine ⟨_,rfl,a,dx,_,rfl,w.dk.ob,rfl,_,rfl,_,_,rfl,rfl,sl6 (by omega),_,_,rfl,rfl,sl6 (by rw [ZaS];omega),_,rfl,_,rfl,tb,_,rfl,g1,_,_,rfl,rfl,sl6 (by rw [ZaS,ZaS];omega),?_⟩;refine ⟨a,dx,d,ts,ptX x tx,x,tx,rfl,w.dk,by omega,g.l,g.f,g.s,λH3 s3=>⟨tx,rfl,g.lx,.inr ⟨g.nl,_,rows,rfl,g.t,g.r,g.ok,λt prs H4 ht hp s4 hT hrows=>⟨s4,?_⟩⟩⟩⟩;have hnew:x∉ts.map (·.1):=by
  have:=Zlj e2;rw [<- w.rt] at this;unfold ZcG at this;rw [Yau] at this;exact this
 have hg:tabB prs=true:=by
  rw [ZcH rfl,hrows];exact g.ok
 have D4:=((w.dk.same s3).same s4).put hnew hT hg;refine ⟨_,_,rfl,D4,((w.ot.same s3).same s4).but ((w.dk.same s3).same s4).D ndo,?_,?_,?_,((w.sm.trans s3).trans s4).upd hd0⟩
 ·exact (Zai ntd).trans (s4 _ _ (s3 _ _ w.tb))
 ·unfold ZcG;rw [Yah,List.take_add_one,e2];show ZcG ts ++ [(x,prs.map (·.2))]=_;rw [w.rt,hrows];rfl
 ·intro e he;rcases YaG.mp he with he | he
  ·exact w.bd e he
  ·rw [YaJ.mp he];intro p hp;exact g.bd p.2 (by rw [<- hrows];exact Yar.mpr ⟨p,hp,rfl⟩)
end
open PySem L2 PyProof.Rows
def lbS (k:Nat):Stmt:=(forB (lwS 7)).getD k (.Pass ⟨0,0,0,0⟩)
def four:List Str:=tbN ++ [("c" : Str)]
abbrev lσ (a0 a o tb hd ev:Addr) (o4 o6 o8 o9 o10 o11 o12 o13:Option V):L2.St:=[some (.ref a0),some (.ref a),some (.ref o),some (.ref tb),o4,some (.ref hd),o6,some (.ref ev),o8,o9,o10,o11,o12,o13]
def Held (H:Hp) (hd:Addr) (n:Nat):Prop:=∃ ls:List Addr,H hd=some (.lst (ls.map V.ref))/\ls.length=n/\∀ p,ls.getLast? = some p->p≠hd/\H p=some (.lst (four.map V.str))
theorem Held.same {H H':Hp}{hd:Addr}{n:Nat} (h:Held H hd n) (s:Same H H'):Held H' hd n:=by
 obtain ⟨ls,h1,h2,h3⟩:=h;exact ⟨ls,s _ _ h1,h2,λp hp=>⟨(h3 p hp).1,s _ _ (h3 p hp).2⟩⟩
theorem Refs.same {cs:List Addr}{sp:Sp}{G H:Hp}{a:Addr}{x:V}{i:Nat} (h:Refs cs sp G a x i) (s:Same G H):Refs cs sp H a x i:=λH1 Q E s1 he=>h H1 Q E (s.trans s1) he
theorem Zcv {K:Yab}{H:Hp}:∀ xs:List Str,RdAll K H (xs.map V.str) (xs.map PyData.str)
 | []=>.nil
 |x :: xs=>.cons (.str x) (Zcv xs)
theorem ZhG:∀ xs:List Str,PyData.eqvAll (xs.map PyData.str) (xs.map PyData.str)=true
 | []=>rfl
 |x :: xs=>by
  show (PyData.eqv (.str x) (.str x) && PyData.eqvAll (xs.map PyData.str) (xs.map PyData.str))=true;rw [ZhG xs,show PyData.eqv (.str x) (.str x)=true by simp [PyData.eqv]];rfl
theorem ZeQ (xs:List Str):PyData.eqv (.list (xs.map PyData.str)) (.list (xs.map PyData.str))=true:=by
 have:=ZhG xs;simpa [PyData.eqv] using this
theorem Za2 {xs:List Str} (h:∀ x∈xs,PyData.strOk x=true):SeqAt.shaped (.list (xs.map PyData.str))=true:=by
 have h1:∀ xs:List Str,(∀ x∈xs,PyData.strOk x=true)->PyData.canLayAll0 (xs.map PyData.str)=true:=λxs=>by
  induction xs with
  |nil=>exact λ_=>rfl
  |cons x xs ih =>
   intro h;have:=ih λy hy=>h y (Yas _ hy);have h0:=h x (YaM ..);simp [PyData.canLayAll0,PyData.canLay0,this,h0]
 have h2:∀ xs:List Str,PyData.depthAll (xs.map PyData.str)<=1:=λxs=>by
  induction xs with
  |nil=>simp [PyData.depthAll]
  |cons x xs ih=>simp [PyData.depthAll,PyData.depth];omega
 unfold SeqAt.shaped;have:=h2 xs;simp [PyData.canLay0,PyData.depth,h1 xs h];omega
theorem Zfm {w:Str} (h:PyData.strOk w=true):SeqAt.shaped (.list [.bool true,.str w])=true:=by
 unfold SeqAt.shaped;simp [PyData.canLay0,PyData.canLayAll0,PyData.depth,PyData.depthAll,h]
theorem Zhl:∀ x∈tbN,PyData.strOk x=true:=by decide +kernel
theorem ZjS:∀ x∈four,PyData.strOk x=true:=by decide +kernel
theorem Zqq {j:Nat} (h:j<7):PyData.strOk (kdW.getD j "")=true:=(by decide +kernel:∀ j:Fin 7,PyData.strOk (kdW.getD j.val "")=true) ⟨j,h⟩
theorem Zq5 (w:Str):PyData.eqv (.list [.bool true,.str w]) (.list [.bool true,.str w])=true:=by
 simp [PyData.eqv,PyData.eqvAll]
open PySem L2 PyProof.Rows
section
variable {P:Program}{w:World}{K:Yab}{mg:Str->Option Value}{base:Heap}{C:Addr}{cs:List Addr}
variable {f:Addr}{cdv:Value}{A:Around}{outer:List Env}{s:Shared}{H:Hp}{E:XK}
theorem lb0 (G1:FnAt P w K mg base 1 "_law_cell" ["script","k"] (Zdx K)) (hr:Room 1 (lwX P w K mg base f cdv A outer s H E).A):PS (lwX P w K mg base f cdv A outer s H E) (lbS 0) (λD σ H=>∃ (a0 a o tb hd ev:Addr) (o4 o6 o8 o10 o11 o12 o13:Option V) (k:Nat) (ns:List Int),σ = lσ a0 a o tb hd ev o4 o6 o8 (some (.int (k:Nat))) o10 o11 o12 o13/\SqL K H a0 (ns.map V.int)/\k<=100/\∀ c:Int,D.nx (lσ a0 a o tb hd ev o4 o6 o8 (some (.int (k:Nat))) (some (.int c)) o11 o12 o13) H):=λpins s1 σ H1 D I h=>by
 obtain ⟨a0,a,o,tb,hd,ev,o4,o6,o8,o10,o11,o12,o13,k,ns,rfl,hs,hk,q⟩:=h;have hF:PS (lwX P w K mg base f cdv A outer s H E) (lbS 0) _:=Zau (i:=10) sc_law37.nd rfl (Or.inl rfl) (pe_f G1 hr (Zaa (pv 0) (Zaa (pv 9) Zac)));generalize (lbS 0)=S_ at hF ⊢;refine hF pins s1 _ H1 D I ?_;exact ⟨_,rfl,_,rfl,a0,ns,k,rfl,hs,hk,λc=>q c⟩
end
open PySem L2 PyProof.Rows
section
variable {P:Program}{w:World}{K:Yab}{mg:Str->Option Value}{base:Heap}{C:Addr}{cs:List Addr}
variable {f:Addr}{cdv:Value}{A:Around}{outer:List Env}{s:Shared}{H:Hp}{E:XK}
theorem lb1 (T:Blt mg) {Pj:V->Nat->Prop}:PS (lwX P w K mg base f cdv A outer s H E) (lbS 1) (λD σ H=>∃ (a0 a o tb hd ev:Addr) (o4 o6 o8 o9 o11 o12 o13:Option V) (c:Int) (zs:List Addr),σ = lσ a0 a o tb hd ev o4 o6 o8 o9 (some (.int c)) o11 o12 o13/\H ev=some (.lst (zs.map V.ref))/\zs.length=209/\(∀ z∈zs,∃ x j,H z=some (.tup [x,.str (kdW.getD j "")])/\Pj x j)/\∀ x j,Pj x j->D.nx (lσ a0 a o tb hd ev o4 (some x) o8 o9 (some (.int c)) (some (.str (kdW.getD j ""))) o12 o13) H):=λpins s1 σ H1 D I h=>by
 obtain ⟨a0,a,o,tb,hd,ev,o4,o6,o8,o9,o11,o12,o13,c,zs,rfl,he,hl,hz,q⟩:=h;have hF:PS (lwX P w K mg base f cdv A outer s H E) (lbS 1) _:=Zc9 (Zar Zan (pv 7) (Zax Zck (pv 10) (pe_b Zao T.len boot_len (Zaa (pv 7) Zac))) (λ_ _=>rfl)) (Zhg rfl (Zbz (Za3 (i:=6) sc_law37.nd rfl (Or.inl rfl)) (Zbz (Za3 (i:=11) sc_law37.nd rfl (Or.inl rfl)) Zeu)));generalize (lbS 1)=S_ at hF ⊢;refine hF pins s1 _ H1 D I ?_;have h0:0<=c % 209/\c % 209<209:=⟨Int.emod_nonneg _ (by decide),Int.emod_lt_of_pos _ (by decide)⟩;obtain ⟨m,em⟩:∃ m:Nat,c % 209=(m:Int):=⟨_,(Int.toNat_of_nonneg h0.1).symm⟩;have hm:m<zs.length:=by omega
 obtain ⟨x,j,hx,hj⟩:=hz _ (YaL hm);refine ⟨_,rfl,_,rfl,_,rfl,ev,_,rfl,.inl (SqL.of he),_,_,rfl,rfl,by rw [Yaa,hl];decide,ev,_,_,V.ref zs[m],rfl,rfl,SqL.of he,?_,?_⟩
 ·rw [Yaa,hl,show ((209:Nat):Int)=209 from rfl,em];exact ZaF (by rw [Yaf,Yac hm];rfl)
 ·exact ⟨zs[m],_,rfl,SqT.of hx,rfl,_,_,rfl,_,_,rfl,rfl,q x j hj⟩
end
open PySem L2 PyProof.Rows
section
variable {P:Program}{w:World}{K:Yab}{mg:Str->Option Value}{base:Heap}{C:Addr}{cs:List Addr}
variable {f:Addr}{cdv:Value}{A:Around}{outer:List Env}{s:Shared}{H:Hp}{E:XK}
theorem Zr8:CMul 3 ((209:Nat):Int):=by
 first | decide | (unfold CMul;decide) | exact cmul_small (by decide) (by decide)
theorem lb2 (T:Blt mg) (G2:FnAt P w K mg base 1 "_law_spoilt" ["cell"] Zh2) (hr:Room 1 (lwX P w K mg base f cdv A outer s H E).A):PS (lwX P w K mg base f cdv A outer s H E) (lbS 2) (λD σ H=>∃ (a0 a o tb hd ev:Addr) (o4 o6 o8 o9 o11 o12 o13:Option V) (c:Int) (zs:List Addr),σ = lσ a0 a o tb hd ev o4 o6 o8 o9 (some (.int c)) o11 o12 o13/\H ev=some (.lst (zs.map V.ref))/\zs.length=209/\D.nx σ H/\∀ y H',badR y=true->Same H H'->D.nx (lσ a0 a o tb hd ev o4 (some (.str y)) o8 o9 (some (.int c)) (some (.str "row")) o12 o13) H'):=λpins s1 σ H1 D I h=>by
 obtain ⟨a0,a,o,tb,hd,ev,o4,o6,o8,o9,o11,o12,o13,c,zs,rfl,he,hl,q1,q2⟩:=h;have hF:PS (lwX P w K mg base f cdv A outer s H E) (lbS 2) _:=Zay (Zap Za4 (Zax Zck (Zax Zdd (pv 10) (pe_b Zao T.len boot_len (Zaa (pv 7) Zac))) Zag) Zag (Zaq _))
  (Zaf (ZpW (i:=6) (j:=11) rfl sc_law37.nd rfl rfl (by decide) rfl rfl (Zaa (pe_f G2 hr (Zaa (Zax Zdd (pe_b ZmK T.abs boot_abs (Zaa (pv 10) Zac)) (Zax Zj1 Zag (pe_b Zao T.len boot_len (Zaa (pv 7) Zac)))) Zac)) (Zaa Zam Zac)) rfl)) Zah
 generalize (lbS 2)=S_ at hF ⊢;refine hF pins s1 _ H1 D I ?_;have hne:((List.map V.ref zs).length:Int)≠0:=by rw [Yaa,hl];decide
 refine ⟨_,rfl,_,rfl,ev,_,rfl,.inl (SqL.of he),_,_,rfl,rfl,?_,_,_,rfl,rfl,by decide,rfl,_,rfl,ite2 (λ_=>?_) (λ_=>q1)⟩
 ·rw [Yaa,hl];exact ⟨by decide,by decide⟩
 ·refine ⟨_,rfl,c,rfl,_,rfl,ev,_,rfl,.inl (SqL.of he),_,_,rfl,rfl,?_,_,_,rfl,rfl,by rw [Yaa,hl];exact ⟨by decide,by decide⟩,?_⟩
  ·rw [Yaa,hl];exact Zr8
  ·have hn:0<=(if c<0 then -c else c) / (3 * ((List.map V.ref zs).length:Int)):=by
    rw [Yaa,hl];refine Int.ediv_nonneg ?_ (by decide);split <;> omega
   unfold Zh2;refine ⟨((if c<0 then -c else c) / (3 * ((List.map V.ref zs).length:Int))).toNat,by rw [Int.toNat_of_nonneg hn],λy H' hy sm=>?_⟩;exact ⟨_,_,rfl,q2 y H' hy sm⟩
end
open PySem L2 PyProof.Rows
section
variable {P:Program}{w:World}{K:Yab}{mg:Str->Option Value}{base:Heap}{C:Addr}{cs:List Addr}
variable {f:Addr}{cdv:Value}{A:Around}{outer:List Env}{s:Shared}{H:Hp}{E:XK}
theorem lb3 (kc:DkK K C) (G3:FnAt P w K mg base 39 "_law_said" ["desk","row"] (Zd8 C cs (ZbX C cs))) (M:MtAt P w K mg base 1 C "names" ["self"] (Zct C)) (hr:Room 39 (lwX P w K mg base f cdv A outer s H E).A):PS (lwX P w K mg base f cdv A outer s H E) (lbS 3) (λD σ H=>∃ (a0 a o tb hd ev dx d ox od:Addr) (ts:Ts) (o4 o8 o9 o10 o12 o13:Option V) (x:V) (j:Nat),σ = lσ a0 a o tb hd ev o4 (some x) o8 o9 o10 (some (.str (kdW.getD j ""))) o12 o13/\DeskAt H C a dx d ts/\DeskAt H C o ox od []/\j<7/\Refs cs (ZbX C cs) H a x (kdL.getD j 0)/\∀ H',Same H H'->D.nx σ H'):=λpins s1 σ H1 D I h=>by
 obtain ⟨a0,a,o,tb,hd,ev,dx,d,ox,od,ts,o4,o8,o9,o10,o12,o13,x,j,rfl,hD,hO,hj,hrf,q⟩:=h;have hr1:Room 1 (lwX P w K mg base f cdv A outer s H E).A:=hr.mono (by decide);have hF:PS (lwX P w K mg base f cdv A outer s H E) (lbS 3) _:=Zay (PW.pt (Zb1 (Zap (Zhj hr.units) (pe_f G3 hr (Zaa (pv 1) (Zaa (pv 6) Zac))) (ZaK (Zaa ZbG (Zaa (pv 11) Zac))) (Zaq _)) (Zby (Zap (Zhj hr.units) (Zp5 M kc.cls hr1 (pv 2)) (ZaK Zac) (Zaq _))))) (Zaf (Zal ZbG)) Zah;generalize (lbS 3)=S_ at hF ⊢;refine hF pins s1 _ H1 D I ?_;refine ⟨_,rfl,_,rfl,a,dx,_,x,j,rfl,hD.ob,rfl,hj,hrf,λF H2 hF s2 eF=>?_⟩;refine ⟨_,rfl,(by show 2<=sizeLine;decide),λl hl=>?_⟩;have s3:=Same.new (o:=.lst [V.bl true,.str (kdW.getD j "")]) hl;have el:(upd H2 l (.lst [V.bl true,.str (kdW.getD j "")])) l=some (.lst [V.bl true,.str (kdW.getD j "")]):=Zad;generalize upd H2 l (.lst [V.bl true,.str (kdW.getD j "")])=H3 at s3 el ⊢;refine ⟨.list [.bool true,.str (kdW.getD j "")],.list [.bool true,.str (kdW.getD j "")],.lst (SqL.of (s3 _ _ eF)) (.cons (.bl true) (.cons (.str _) .nil)),.lst (SqL.of el) (.cons (.bl true) (.cons (.str _) .nil)),Zfm (Zqq hj),Zfm (Zqq hj),_,rfl,?_⟩;rw [Zq5];refine iteF ⟨_,rfl,o,ox,_,rfl,(hO.same (s2.trans s3)).ob,rfl,o,ox,od,[],rfl,hO.same (s2.trans s3),by decide,λD1 ss hD1 hp hs=>?_⟩;have e0:ss=[]:=List.Perm.eq_nil hp;subst e0;have s4:=Same.new (o:=.lst (List.map V.str [])) hD1;have e4:(upd H3 D1 (.lst (List.map V.str []))) D1=some (.lst []):=Zad;generalize upd H3 D1 (.lst (List.map V.str []))=H4 at s4 e4 ⊢;refine ⟨sl6 (by decide),λl2 hl2=>?_⟩;refine ⟨.list [],.list [],.lst (SqL.of (Same.new hl2 _ _ e4)) .nil,.lst (SqL.of Zad) .nil,Za2 (xs:=[]) (λ_ h=>nomatch h),Za2 (xs:=[]) (λ_ h=>nomatch h),_,rfl,?_⟩;exact iteF (q _ (((s2.trans s3).trans s4).trans (Same.new hl2)))
end
open PySem L2 PyProof.Rows
section
variable {P:Program}{w:World}{K:Yab}{mg:Str->Option Value}{base:Heap}{C:Addr}{cs:List Addr}
variable {f:Addr}{cdv:Value}{A:Around}{outer:List Env}{s:Shared}{H:Hp}{E:XK}
theorem lb4 (kc:DkK K C) (M:MtAt P w K mg base 1 C "names" ["self"] (Zct C)) (hr:Room 1 (lwX P w K mg base f cdv A outer s H E).A):PS (lwX P w K mg base f cdv A outer s H E) (lbS 4) (λD σ H=>∃ (a0 a o tb hd ev dx d:Addr) (ts:Ts) (o4 o6 o8 o9 o10 o11 o12 o13:Option V),σ = lσ a0 a o tb hd ev o4 o6 o8 o9 o10 o11 o12 o13/\DeskAt H C a dx d ts/\ts.map (·.1)=tbN/\∀ p,H p=none->D.nx (lσ a0 a o tb hd ev o4 o6 o8 o9 o10 o11 (some (.ref p)) o13) (upd H p (.lst (tbN.map V.str)))):=λpins s1 σ H1 D I h=>by
 obtain ⟨a0,a,o,tb,hd,ev,dx,d,ts,o4,o6,o8,o9,o10,o11,o12,o13,rfl,hD,hn,q⟩:=h;have hF:PS (lwX P w K mg base f cdv A outer s H E) (lbS 4) _:=Zau (i:=12) sc_law37.nd rfl (Or.inl rfl) (Zp5 M kc.cls hr (pv 1));generalize (lbS 4)=S_ at hF ⊢;refine hF pins s1 _ H1 D I ?_;refine ⟨_,rfl,a,dx,_,rfl,hD.ob,rfl,a,dx,d,ts,rfl,hD,?_,λp ss hp hpm hs=>?_⟩
 ·have:=congrArg List.length hn;rw [Yaa] at this;rw [this];decide
 ·rw [hn] at hpm;rw [Zj6 hpm hs];exact q p hp
end
open PySem L2 PyProof.Rows
section
variable {P:Program}{w:World}{K:Yab}{mg:Str->Option Value}{base:Heap}{C:Addr}{cs:List Addr}
variable {f:Addr}{cdv:Value}{A:Around}{outer:List Env}{s:Shared}{H:Hp}{E:XK}
theorem lb5 (hr:Room 1 (lwX P w K mg base f cdv A outer s H E).A):PS (lwX P w K mg base f cdv A outer s H E) (lbS 5) (λD σ H=>∃ (a0 a o tb hd ev p:Addr) (o4 o6 o8 o9 o10 o11 o13:Option V),σ = lσ a0 a o tb hd ev o4 o6 o8 o9 o10 o11 (some (.ref p)) o13/\H p=some (.lst (tbN.map V.str))/\∀ H',Same H H'->D.nx σ H'):=λpins s1 σ H1 D I h=>by
 obtain ⟨a0,a,o,tb,hd,ev,p,o4,o6,o8,o9,o10,o11,o13,rfl,hp,q⟩:=h;have hF:PS (lwX P w K mg base f cdv A outer s H E) (lbS 5) _:=Zay (Zap (Zhj hr.units) (pv 12) (ZaK (ZaX (xs:=tbN) (by kernel_rfl))) (Zaq _)) (Zaf (Zal ZbG)) Zah;generalize (lbS 5)=S_ at hF ⊢;refine hF pins s1 _ H1 D I ?_;refine ⟨_,rfl,sl6 (by decide),λl hl=>?_⟩;have s2:=Same.new (o:=.lst (tbN.map V.str)) hl;refine ⟨.list (tbN.map PyData.str),.list (tbN.map PyData.str),.lst (SqL.of (s2 _ _ hp)) (Zcv tbN),.lst (SqL.of Zad) (Zcv tbN),Za2 Zhl,Za2 Zhl,_,rfl,?_⟩;rw [ZeQ];exact iteF (q _ s2)
end
open PySem L2 PyProof.Rows
section
variable {P:Program}{w:World}{K:Yab}{mg:Str->Option Value}{base:Heap}{C:Addr}{cs:List Addr}
variable {f:Addr}{cdv:Value}{A:Around}{outer:List Env}{s:Shared}{H:Hp}{E:XK}
def tB6 (C:Addr):TS:=λD σ H=>∃ (a0 a o tb hd ev dx d t:Addr) (ob:Obj) (ts:Ts) (prs:Prs) (n tx:Str) (o6 o8 o9 o10 o11 o12 o13:Option V),σ = lσ a0 a o tb hd ev (some (.str n)) o6 o8 o9 o10 o11 o12 o13/\H tb=some (.frz ob (.dK tbK))/\valV tbK (Sum.inr n)=some (V.str tx)/\DeskAt H C a dx d ts/\(n,t,prs)∈ts/\(∀ q∈prs,Bd50 q.2)/\PtOk n tx (prs.map (·.2))/\∀ H',Same H H'->D.nx σ H'
theorem lb6i (kc:DkK K C) (M:MtAtX P w K mg base 38 C "say" ["self","row"] (Zco C (Zdt C))) (hr:Room 38 (lwX P w K mg base f cdv A outer s H E).A):PSs (lwX P w K mg base f cdv A outer s H E) (forB (lbS 6)) (tB6 C):=λpins s1 σ H1 D I h=>by
 obtain ⟨a0,a,o,tb,hd,ev,dx,d,t,ob,ts,prs,n,tx,o6,o8,o9,o10,o11,o12,o13,rfl,htb,hv,hD,hm,hb,g,q⟩:=h;have hu:=Zc8 hr;have hF:PSs (lwX P w K mg base f cdv A outer s H E) (forB (lbS 6)) _:=Zaf (Zay (Zap Zgm (Zjz M kc.cls hr ZeP (pv 1) (Zaa (Zax ZaI Zam (pv 4)) Zac)) (ZbC hu (pv 3) (pv 4) (λ_ _=>rfl)) (Zaq _)) (Zaf (Zal ZbG)) Zah);generalize (forB (lbS 6))=S_ at hF ⊢;refine hF pins s1 _ H1 D I ?_;have lx:(shX n).length=("show " : Str).length+n.length:=by
  unfold shX;rw [ZaS]
 have sl:=g.sl;refine ⟨_,rfl,a,dx,_,rfl,hD.ob,rfl,_,rfl,_,_,rfl,rfl,sl6 (by omega),?_⟩;refine ⟨a,dx,d,t,ts,shX n, "show",n,[],prs,rfl,hD,g.sl,g.sf,g.ss,by decide +kernel,by decide +kernel,hm,λp H2 hp s2 e2=>?_⟩;rw [g.ss] at e2;refine ⟨a,dx,d,p,t,ts,n,prs,rfl,hD.same s2,e2,hm,hb,λH3 s3=>?_⟩;have g1:DGet H3 tb (kV (Sum.inr n)) (some (.str tx)):=by
  rw [<- hv];exact .inl ⟨tbK,Sum.inr n,.inr ⟨ob,s3 _ _ (s2 _ _ htb)⟩,rfl,rfl⟩
 refine ⟨_,rfl,_,rfl,tb,_,rfl,g1,rfl,_,rfl,?_⟩;rw [g.back,show (!decide (V.str tx=V.str tx))=false by simp];exact iteF (q _ (s2.trans s3))
theorem Zph {i:Nat}{n tx:Str} (h:tbS[i]? = some (n,tx)):valV tbK (Sum.inr n)=some (V.str tx):=by
 have hi:i<3:=(Yai.mp h).1;have:∀ i:Fin 3,∀ p∈tbS[i.val]?,valV tbK (Sum.inr p.1)=some (V.str p.2):=by
  intro i p hp
  match i,hp with
  | 0,hp=>cases hp;rfl
  | 1,hp=>cases hp;rfl
  | 2,hp=>cases hp;rfl
 exact this ⟨i,hi⟩ (n,tx) h
theorem Wd.at {a dx d o ox od tb:Addr}{ob:Obj}{ts:Ts}{ns:List Int}{a0:Addr}{H:Hp} (h:Wd K C a dx d o ox od tb ob ts ns a0 H) {i:Nat}{n:Str}{rows:List (List Int)} (e:ts37[i]? = some (n,rows)):∃ t prs,(n,t,prs)∈ts/\prs.map (·.2)=rows:=by
 rw [<- h.rt] at e;unfold ZcG at e;rw [Yaf] at e;cases e2:ts[i]? with
 |none=>rw [e2] at e;cases e
 |some q =>
  rw [e2] at e;have e:(q.1,q.2.2.map (·.2))=(n,rows):=Yae e;obtain ⟨q1,q2,q3⟩:=q;have e1:q1=n:=congrArg Prod.fst e;have e3:q3.map (·.2)=rows:=congrArg Prod.snd e;subst e1;exact ⟨q2,q3,YaP e2,e3⟩
theorem lb6 (kc:DkK K C) (M:MtAtX P w K mg base 38 C "say" ["self","row"] (Zco C (Zdt C))) (hr:Room 38 (lwX P w K mg base f cdv A outer s H E).A):PS (lwX P w K mg base f cdv A outer s H E) (lbS 6) (λD σ H=>∃ (a0 a o tb hd ev dx d ox od:Addr) (ob:Obj) (ts:Ts) (ns:List Int) (o4 o6 o8 o9 o10 o11 o12 o13:Option V),σ = lσ a0 a o tb hd ev o4 o6 o8 o9 o10 o11 o12 o13/\Wd K C a dx d o ox od tb ob ts ns a0 H/\∀ o4' H',Same H H'->D.nx (lσ a0 a o tb hd ev o4' o6 o8 o9 o10 o11 o12 o13) H'):=λpins s1 σ H1 D I h=>by
 obtain ⟨a0,a,o,tb,hd,ev,dx,d,ox,od,ob,ts,ns,o4,o6,o8,o9,o10,o11,o12,o13,rfl,hw,q⟩:=h;have hb:=@lb6i P w K mg base C f cdv A outer s H E kc M hr;have key:∀ (body:List Stmt) {tb:TS},PSs (lwX P w K mg base f cdv A outer s H E) body tb->∀ p1 p2 p3:Pos,PS (lwX P w K mg base f cdv A outer s H E) (.For (.Name "name" p1) (.Name "tables" p2) body [] p3) (tFor (ZqU (tVar 3)) (ZaT 4) tb):=λbody tb hb p1 p2 p3=>Zcq PassesOwn.never rfl (Zjw (pv 3)) (Za3 (i:=4) sc_law37.nd rfl (Or.inl rfl)) hb;have hF:PS (lwX P w K mg base f cdv A outer s H E) (lbS 6) _:=@key _ _ @hb _ _ _;clear key hb;generalize lbS 6=S6 at hF ⊢;refine hF pins s1 _ H1 D I ?_;refine ⟨_,rfl,tb,tbK,tbN,rfl,rfl,.inr ⟨ob,hw.tb,?_⟩⟩;refine ZhB (ss:=tbN) (g:=ZaT 4) (tb:=tB6 C) (λi σ H=>∃ o4',σ = lσ a0 a o tb hd ev o4' o6 o8 o9 o10 o11 o12 o13/\Same H1 H) ⟨o4,rfl,Same.refl _⟩ (λi σ H ⟨_,_,s2⟩=>s2 _ _ hw.tb) (λi x σ H hx ⟨o4',es,s2⟩=>?_) (λσ H ⟨o4',es,s2⟩=>by rw [es];exact q o4' H s2);subst es;have hi:i<3:=(Yai.mp hx).1;obtain ⟨n,tx,rows,e1,e2,g⟩:=ZpU hi;have ex:x=n:=by
  have:tbN[i]? = some n:=by
   unfold tbN;rw [Yaf,e1];rfl
  rw [this] at hx;exact (Yae hx).symm
 subst ex;obtain ⟨t,prs,hm,hrows⟩:=hw.at e2;subst hrows;have hw2:=hw.same s2;exact ⟨a0,a,o,tb,hd,ev,dx,d,t,ob,ts,prs,x,tx,o6,o8,o9,o10,o11,o12,o13,rfl,hw2.tb,Zph e1,hw2.dk,hm,hw2.bd _ hm,g,λH3 s3=>⟨_,rfl,s2.trans s3⟩⟩
end
open PySem L2 PyProof.Rows
section
variable {P:Program}{w:World}{K:Yab}{mg:Str->Option Value}{base:Heap}{C:Addr}{cs:List Addr}
variable {f:Addr}{cdv:Value}{A:Around}{outer:List Env}{s:Shared}{H:Hp}{E:XK}
theorem lb7 (hr:Room 1 (lwX P w K mg base f cdv A outer s H E).A):PS (lwX P w K mg base f cdv A outer s H E) (lbS 7) (λD σ H=>∃ (a0 a o tb hd ev:Addr) (n:Nat) (o4 o6 o8 o9 o10 o11 o12 o13:Option V),σ = lσ a0 a o tb hd ev o4 o6 o8 o9 o10 o11 o12 o13/\Held H hd n/\∀ H',Same H H'->D.nx σ H'):=λpins s1 σ H1 D I h=>by
 obtain ⟨a0,a,o,tb,hd,ev,n,o4,o6,o8,o9,o10,o11,o12,o13,rfl,⟨ls,h1,h2,h3⟩,q⟩:=h;have hu:(lwX P w K mg base f cdv A outer s H E).A.units<cLine:=YaZ (Nat.le_add_right _ 64) hr.units;have hF:PS (lwX P w K mg base f cdv A outer s H E) (lbS 7) _:=Zay (PW.pt (Zhb (Zap (Zp9 hu) (pv 5) (ZaK Zac) (Zaq _)) (Zgj (Zap (Zhj hr.units) (Zar Zan (pv 5) (ZrK ZrS Zag) (λ_ _=>rfl)) (ZaK (ZaX (xs:=four) (by kernel_rfl))) (Zaq _))))) (Zaf (Zal ZbG)) Zah;generalize (lbS 7)=S_ at hF ⊢;refine hF pins s1 _ H1 D I ?_;refine ⟨_,rfl,sl6 (by decide),λl hl=>?_⟩;have s2:=Same.new (o:=.lst []) hl;have e2:(upd H1 l (.lst [])) l=some (.lst []):=Zad;generalize upd H1 l (.lst [])=H2 at s2 e2 ⊢;refine ⟨hd,l,_,rfl,rfl,SqL.of (s2 _ _ h1),SqL.of e2,_,rfl,?_⟩;rcases List.eq_nil_or_concat ls with z | ⟨l0,p,z⟩
 ·subst z;exact iteF (q _ s2)
 ·rw [List.concat_eq_append] at z;subst z;have hp:=h3 p (by simp);rw [show (!((l0 ++ [p]).map V.ref).isEmpty)=true by simp];refine iteT ⟨_,rfl,1,rfl,hd,_,_,V.ref p,rfl,rfl,SqL.of (s2 _ _ h1),?_,sl6 (by decide),λl3 hl3=>?_⟩
  ·unfold atI ixN;rw [Ya6 (by decide),Ya7 (by simp;omega)];have e:(-1+((List.map V.ref (l0 ++ [p])).length:Int)).toNat=l0.length:=by
    rw [Yaa,Yak,YaI];omega
   show (List.map V.ref (l0 ++ [p]))[(-1+((List.map V.ref (l0 ++ [p])).length:Int)).toNat]? = _;rw [e,Yah,List.getElem?_append_right (by rw [Yaa];exact Yag _),Yaa,Nat.sub_self];rfl
  have s3:=Same.new (o:=.lst (four.map V.str)) hl3;refine ⟨.list (four.map PyData.str),.list (four.map PyData.str),.lst (SqL.of (s3 _ _ (s2 _ _ hp.2))) (Zcv four),.lst (SqL.of Zad) (Zcv four),Za2 ZjS,Za2 ZjS,_,rfl,?_⟩;rw [ZeQ];exact iteF (q _ (s2.trans s3))
end
open PySem L2 PyProof.Rows
section
variable {P:Program}{w:World}{K:Yab}{mg:Str->Option Value}{base:Heap}{C:Addr}{cs:List Addr}
variable {f:Addr}{cdv:Value}{A:Around}{outer:List Env}{s:Shared}{H:Hp}{E:XK}
theorem lb8:PS (lwX P w K mg base f cdv A outer s H E) (lbS 8) (λD σ H=>∃ (a0 a o tb hd ev p:Addr) (o4 o6 o8 o9 o10 o11 o13:Option V),σ = lσ a0 a o tb hd ev o4 o6 o8 o9 o10 o11 (some (.ref p)) o13/\H p=some (.lst (tbN.map V.str))/\D.nx σ (upd H p (.lst (four.map V.str)))):=λpins s1 σ H1 D I h=>by
 obtain ⟨a0,a,o,tb,hd,ev,p,o4,o6,o8,o9,o10,o11,o13,rfl,hp,q⟩:=h;have hF:PS (lwX P w K mg base f cdv A outer s H E) (lbS 8) _:=ZaG (Zbp YaS YaU YaV Zbk (pv 12) (Zaa Zam Zac));generalize (lbS 8)=S_ at hF ⊢;refine hF pins s1 _ H1 D I ?_;exact ⟨_,rfl,.inl ⟨rfl,_,SqL.of hp⟩,p,_,_,rfl,rfl,hp,ZaD (by decide),q⟩
theorem lb9:PS (lwX P w K mg base f cdv A outer s H E) (lbS 9) (λD σ H=>∃ (a0 a o tb hd ev p:Addr) (ls:List Addr) (o4 o6 o8 o9 o10 o11 o13:Option V),σ = lσ a0 a o tb hd ev o4 o6 o8 o9 o10 o11 (some (.ref p)) o13/\H hd=some (.lst (ls.map V.ref))/\ls.length<=900/\D.nx σ (upd H hd (.lst ((ls ++ [p]).map V.ref)))):=λpins s1 σ H1 D I h=>by
 obtain ⟨a0,a,o,tb,hd,ev,p,ls,o4,o6,o8,o9,o10,o11,o13,rfl,hp,hl,q⟩:=h;have hF:PS (lwX P w K mg base f cdv A outer s H E) (lbS 9) _:=ZaG (Zbp YaS YaU YaV Zbk (pv 5) (Zaa (pv 12) Zac));generalize (lbS 9)=S_ at hF ⊢;refine hF pins s1 _ H1 D I ?_;rw [Yah] at q;exact ⟨_,rfl,.inl ⟨rfl,_,SqL.of hp⟩,_,rfl,hd,_,_,rfl,rfl,hp,ZaD (by rw [Yaa];omega),q⟩
end
open PySem L2 PyProof.Rows
def oddE:Expr->Option PyData
 | .Constant .none _ _=>some .none
 | .Constant (.int i) _ _=>some (.int i)
 | .Constant (.bool b) _ _=>some (.bool b)
 | .List es _=>(ZbW es).bind λxs=>if xs.length<=10 then some (.list (xs.map .str)) else none
 | .Tuple es _ _=>(ZbW es).bind λxs=>if xs.length<=10 then some (.tuple (xs.map .str)) else none
 | .Dict [] [] _=>some (.dict [])
 |_=>none
def oddA:List Expr->Option (List PyData)
 | []=>some []
 |e :: es=>(oddE e).bind λd=>(oddA es).map (d :: ·)
def RdN (H0 H:Hp) (v:V) (d:PyData):Prop:=∀ S:List Addr,(∀ b∈S,H0 b≠none)->RdS S H v d
theorem Zeo {S:List Addr}{H:Hp}:∀ xs:List Str,RdSs S H (xs.map V.str) (xs.map PyData.str)
 | []=>.nil
 |x :: xs=>.cons (.str x) (Zeo xs)
theorem ZcW {X:Cx}{e:Expr}{t t':TE} (h:PE X e t) (i:∀ σ H Q,t' σ H Q->t σ H Q):PE X e t':=λpins s σ H Q I q=>h pins s σ H Q I (i σ H Q q)
theorem ZjG {X:Cx}{es:List Expr}{t t':TA} (h:PA X es t) (i:∀ σ H Q,t' σ H Q->t σ H Q):PA X es t':=λp pins s σ H Q I q=>h p pins s σ H Q I (i σ H Q q)
theorem Zlq {e:Expr}{d:PyData} (h:oddE e=some d) (es:List Expr) (env:Env):starEach (e :: es) env=(false,eval e env) :: starEach es env:=by
 cases e <;> first | rfl | exact nomatch h
theorem Zn5 {X:Cx}{e:Expr}{d:PyData} (h:oddE e=some d):PE X e (λ_ H Q=>∀ v H',Same H H'->RdN H H' v d->Q v H'):=by
 cases e with
 |Constant c j p =>
  cases c with
  |none=>cases h;exact ZcW Zm9 λσ H Q q=>q _ _ (Same.refl _) λS _=>.non
  |int i=>cases h;exact ZcW Zag λσ H Q q=>q _ _ (Same.refl _) λS _=>.int i
  |bool b=>cases h;exact ZcW ZbG λσ H Q q=>q _ _ (Same.refl _) λS _=>.bl b
  |_=>cases h
 |List es p =>
  obtain ⟨xs,e,h⟩:=Option.bind_eq_some_iff.mp h
  by_cases hl:xs.length<=10
  ·rw [Ya7 hl] at h;cases h;exact ZcW (ZaK (ZaX e)) λσ H Q q=>⟨sl6 (by rw [Yaa];omega),λl hl=>q _ _ (Same.new hl) λS hS=>.lst Zad (λz=>hS l z hl) (Zeo xs)⟩
  ·rw [Ya6 hl] at h;cases h
 |Tuple es k p =>
  obtain ⟨xs,e,h⟩:=Option.bind_eq_some_iff.mp h
  by_cases hl:xs.length<=10
  ·rw [Ya7 hl] at h;cases h;exact ZcW (ZbE (ZaX e)) λσ H Q q=>⟨sl6 (by rw [Yaa];omega),λl hl=>q _ _ (Same.new hl) λS hS=>.tup Zad (λz=>hS l z hl) (Zeo xs)⟩
  ·rw [Ya6 hl] at h;cases h
 |Dict ks vs p =>
  cases ks with
  |nil =>
   cases vs with
   |nil=>cases h;exact ZcW ZlX λσ H Q q l hl=>q _ _ (Same.new hl) λS hS=>.dct Zad λz=>hS l z hl
   |cons _ _=>cases h
  |cons _ _=>cases h
 |_=>cases h
inductive RdNs (H0 H:Hp):List V->List PyData->Prop
 |nil:RdNs H0 H [] []
 |cons {v:V}{d:PyData}{vs:List V}{ds:List PyData}:RdN H0 H v d->RdNs H0 H vs ds->RdNs H0 H (v :: vs) (d :: ds)
theorem RdNs.same {H0 H H':Hp} (s:Same H H'):∀ {vs:List V}{ds:List PyData},RdNs H0 H vs ds->RdNs H0 H' vs ds
 |_,_,.nil=>.nil
 |_,_,.cons h t=>.cons (λS hS=>(h S hS).same s) (t.same s)
theorem RdNs.from {H0 H1 H:Hp} (s:Same H0 H1):∀ {vs:List V}{ds:List PyData},RdNs H1 H vs ds->RdNs H0 H vs ds
 |_,_,.nil=>.nil
 |_,_,.cons h t=>.cons (λS hS=>h S λb hb z=>by
  cases e:H0 b with
  |none=>exact hS b hb e
  |some o=>rw [s _ _ e] at z;cases z) (t.from s)
theorem RdNs.len {H0 H:Hp}:∀ {vs:List V}{ds:List PyData},RdNs H0 H vs ds->vs.length=ds.length
 |_,_,.nil=>rfl
 |_,_,.cons _ t=>by rw [YaC,YaC,t.len]
theorem RdNs.at {H0 H:Hp}:∀ {vs:List V}{ds:List PyData}{i:Nat}{v:V},RdNs H0 H vs ds->vs[i]? = some v->∃ d∈ds,RdN H0 H v d
 |_,_,_,_,.nil,h=>by simp at h
 |_,_,0,_,.cons hd _,h=>by
  have h:=Yae h;subst h;exact ⟨_,YaM ..,hd⟩
 |_,_,i+1,_,.cons _ t,h=>by
  obtain ⟨d,hd,r⟩:=t.at (i:=i) h;exact ⟨d,Yas _ hd,r⟩
theorem Zna {X:Cx}:∀ {es:List Expr}{ds:List PyData},oddA es=some ds->PA X es (λ_ H Q=>∀ vs H',Same H H'->RdNs H H' vs ds->Q vs H')
 | [],ds,h=>by
  have h:=Yae h;subst h;exact ZjG Zac λσ H Q q=>q _ _ (Same.refl _) .nil
 |e :: es,ds,h=>by
  have h:((oddE e).bind λd=>(oddA es).map (d :: ·))=some ds:=h;cases e1:oddE e with
  |none=>rw [e1] at h;cases h
  |some d =>
   rw [e1] at h;have h:(oddA es).map (d :: ·)=some ds:=h;cases e2:oddA es with
   |none=>rw [e2] at h;cases h
   |some ds' =>
    rw [e2] at h;have h:d :: ds'=ds:=Yae h;subst h;exact ZjG (Zaa (Zn5 e1) (Zna e2) (Zlq e1 es X.env)) λσ H Q q v H1 s1 r1 vs H2 s2 r2=>q _ _ (s1.trans s2) (.cons (λS hS=>(r1 S hS).same s2) (r2.from s1))
section
variable {P:Program}{w:World}{K:Yab}{mg:Str->Option Value}{base:Heap}{C c9:Addr}
variable {f:Addr}{cdv:Value}{A:Around}{outer:List Env}{s:Shared}{H:Hp}{E:XK}
theorem Zn4 {X:Cx} (es:List Expr) (pos:Pos):PE X (.List es pos) (λ_ H Q=>∃ ds,oddA es=some ds/\ds.length<=100/\∀ vs H' p,Same H H'->H p=none->H' p=some (.lst vs)->RdNs H H' vs ds->Q (.ref p) H'):=λpins s σ H Q I ⟨ds,h,hl,q⟩=>by
 refine ZaK (Zna h) pins s σ H Q I λvs H' s1 r=>⟨sl6 (by rw [r.len];omega),λp hp=>?_⟩;exact q vs _ p (s1.trans (Same.new hp)) (s1.free hp) Zad (r.same (Same.new hp))
def EvS (hd:Addr) (H:Hp) (q:Addr):Prop:=(∃ y j,Zd2 y=some j/\H q=some (.tup [.str y,.str (kdW.getD j "")]))\/∃ x dd,RdS [hd] H x dd/\ZdM dd=false/\H q=some (.tup [x,.str "row"])
def od6:List PyData:=[.none,.int 0,.list [.str "show a"],.bool true,.tuple [.str "show", .str "a"],.dict []]
theorem Zqu:∀ d∈od6,ZdM d=false:=by
 have:od6.all (λd=>!ZdM d)=true:=by decide +kernel
 intro d hd;have:=YaO.mp this d hd;simpa using this
theorem ZlK {b:Addr}{xs:List Str}{H:Hp}{Q:VK} (hq:H b=some (.lst (xs.map V.str))) (hn:xs.length<=900) (hx:∀ x∈xs,badR x=true)
  (fin:∀ (D:Addr) (zs:List Addr) (H':Hp),H D=none->Same H H'->H' D=some (.lst (zs.map V.ref))->zs.length=xs.length->(∀ z∈zs,EvT H' z)->Q (.ref D) H'):ZaR (Itl K b) (ZaT 0) Zbe (tTup (Zgb (tVar 0) (Zgb (tC (.str "row")) tNil))) [none] H Q:=by
 have hq':SqL K H b (xs.map V.str):=SqL.of hq;refine ZdU (ms:=xs) V.str (λx=>.tup [.str x,.str "row"]) (by omega) (λi H' hi sm=>⟨_,V.str xs[i],sm.seq hq',by simp [hi]⟩) (λH' sm=>⟨_,sm.seq hq',by simp⟩) (λi H' x H2 h sm ⟨e,hy⟩=>⟨e,?_⟩) (λx hm H' Q' sm q'=>?_) (λD qs H' hD hqs _ hall sm hDl=>?_)
 ·have hy:=hy _ (sm.seq hq');rw [Yaf,Yac h] at hy;exact (Yae hy).symm
 ·exact ⟨_,rfl,(by show 2<=sizeLine;decide),λl hl=>q' l _ hl (Same.new hl) Zad⟩
 ·refine fin D (qs.map λq=>q.1) H' hD sm (by rw [hDl,Yau];rfl) (by rw [Yaa,<- hqs,Yaa]) λz hz=>?_;obtain ⟨q,hq2,rfl⟩:=Yar.mp hz;exact ⟨q.2,4,Zhs (hx _ (by rw [<- hqs];exact Yar.mpr ⟨q,hq2,rfl⟩)),(hall q hq2).1⟩
theorem lw5 (G1:FnAt P w K mg base 1 "_law_none" [] Zi9) (G2:FnAt P w K mg base 1 "_law_others" [] Zek) (hr:Room 1 (lwX P w K mg base f cdv A outer s H E).A):PS (lwX P w K mg base f cdv A outer s H E) (lwS 5) (λD σ H1=>∀ (ev:Addr) (zs:List Addr) (H':Hp),H1 ev=none->Same H1 H'->H' ev=some (.lst (zs.map V.ref))->zs.length=203->(∀ z∈zs,EvT H' z)->D.nx (σ.set 7 (some (.ref ev))) H'):=λpins s1 σ H1 D I q=>by
 have nd:=sc_law37.nd;have nd1:(["row"]:List Str).Nodup:=by decide +kernel
 have hF:PS (lwX P w K mg base f cdv A outer s H E) (lwS 5) _:=Zau (i:=7) nd rfl (Or.inl rfl) (Zax Zb8 (Zaz ["row"] [none] (Zae dLaw) l37N rfl (ZaH (Zp7 G1 hr)) (by decide +kernel) (λcl C s2 H2 ex=>pg_c 0 nd1) (λcl C s2 H2 ex=>Zaw) (λcl C s2 H2 ex=>ZbE (Zaa (pv 0) (Zaa Zam Zac)))) (Zp7 G2 hr));generalize (lwS 5)=S_ at hF ⊢;refine hF pins s1 σ H1 D I ?_;refine ⟨rfl,λb xs H2 hb eb lb hb2 s2=>⟨b,rfl,⟨_,SqL.of eb⟩,ZlK eb (by omega) hb2 λD1 zs H3 hD1 s3 eD1 lz hz=>?_⟩⟩;refine ⟨rfl,λb2 qs H4 ot=>?_⟩;have s4:=ot.sm;have ln:=ot.len;refine ⟨D1,b2,_,_,rfl,rfl,s4 _ _ eD1,ot.l,sl6 (by rw [Yaa,Yaa];omega),λev hev=>?_⟩;have s5:=Same.new (o:=.lst (zs.map V.ref ++ qs.map λq=>V.ref q.1)) hev;refine q ev (zs ++ qs.map (·.1)) _ ((s2.trans (s3.trans s4)).free hev) ((s2.trans (s3.trans s4)).trans s5) ?_ (by rw [Yak,Yaa];omega) λz hz2=>?_
 ·rw [Zad,Yah,Yau];rfl
 ·rcases YaG.mp hz2 with hz2 | hz2
  ·exact ((hz z hz2).same s4).same s5
  ·obtain ⟨q1,hq1,rfl⟩:=Yar.mp hz2;have h1:=ot.all q1 hq1;obtain ⟨j,hj,e2⟩:=Zl0 h1.2;refine ⟨_,j,hj,s5 _ _ ?_⟩;rw [<- e2];exact h1.1.1
def tB6e:TS:=λD σ H=>∃ (a0 a o tb hd ev:Addr) (o4:Option V) (x:V) (ys:List Addr),σ = [some (.ref a0),some (.ref a),some (.ref o),some (.ref tb),o4,some (.ref hd),none,some (.ref ev),some x,none,none,none,none,none]/\H ev=some (.lst (ys.map V.ref))/\ys.length<=900/\∀ p H',H p=none->Same H H'->H' p=some (.tup [x,.str "row"])->D.nx σ (upd H' ev (.lst ((ys ++ [p]).map V.ref)))
theorem lw6i:PSs (lwX P w K mg base f cdv A outer s H E) (forB (lwS 6)) tB6e:=λpins s1 σ H1 D I h=>by
 obtain ⟨a0,a,o,tb,hd,ev,o4,x,ys,rfl,ee,ly,q⟩:=h;have hF:PSs (lwX P w K mg base f cdv A outer s H E) (forB (lwS 6)) _:=Zaf (ZaG (Zbp YaS YaU YaV Zbk (pv 7) (Zaa (ZbE (Zaa (pv 8) (Zaa Zam Zac))) Zac)));generalize (forB (lwS 6))=S_ at hF ⊢;refine hF pins s1 _ H1 D I ?_;refine ⟨_,rfl,.inl ⟨rfl,_,SqL.of ee⟩,_,rfl,(by show 2<=sizeLine;decide),λp hp=>?_⟩;refine ⟨ev,_,_,rfl,rfl,Same.new hp _ _ ee,ZaD (by rw [Yaa];omega),?_⟩;have:=q p _ hp (Same.new hp) Zad;rw [Yah] at this;exact this
theorem lw6:PS (lwX P w K mg base f cdv A outer s H E) (lwS 6) (λD σ H1=>∃ (G:Hp) (a0 a o tb hd ev:Addr) (o4:Option V) (zs:List Addr),σ = [some (.ref a0),some (.ref a),some (.ref o),some (.ref tb),o4,some (.ref hd),none,some (.ref ev),none,none,none,none,none,none]/\Same G H1/\G ev=none/\H1 ev=some (.lst (zs.map V.ref))/\H1 hd≠none/\zs.length<=800/\(∀ z∈zs,EvT H1 z) /\
  ∀ (o8:Option V) (zs':List Addr) (H':Hp),Same G H'->(∀ b x,b≠ev->H1 b=some x->H' b=some x)->H' ev=some (.lst (zs'.map V.ref))->zs'.length=zs.length+6->(∀ z∈zs',EvS hd H' z)->D.nx [some (.ref a0),some (.ref a),some (.ref o),some (.ref tb),o4,some (.ref hd),none,some (.ref ev),o8,none,none,none,none,none] H'):=λpins s1 σ H1 D I h=>by
 obtain ⟨G,a0,a,o,tb,hd,ev,o4,zs,rfl,sG,hev,eev,hhd,lz,hz,q⟩:=h;have hb:=lw6i (P:=P) (w:=w) (K:=K) (mg:=mg) (base:=base) (f:=f) (cdv:=cdv) (A:=A) (outer:=outer) (s:=s) (H:=H) (E:=E);have key:∀ (body:List Stmt) {tb:TS},PSs (lwX P w K mg base f cdv A outer s H E) body tb->∀ (es:List Expr) (p1 p2 p3:Pos),PS (lwX P w K mg base f cdv A outer s H E) (.For (.Name "thing" p1) (.List es p2) body [] p3) (tFor _ (ZaT 8) tb):=λbody tb hb es p1 p2 p3=>Zcq PassesOwn.never rfl (ZaH (Zn4 es p2)) (Za3 (i:=8) sc_law37.nd rfl (Or.inl rfl)) hb;have hF:PS (lwX P w K mg base f cdv A outer s H E) (lwS 6) _:=@key _ _ @hb _ _ _ _;clear key hb;generalize lwS 6=S_ at hF ⊢;refine hF pins s1 _ H1 D I ?_;refine ⟨od6,by kernel_rfl,by decide,λvs H2 L t hL xL rv=>?_⟩;clear hF;have lv:vs.length=6:=rv.len;have hLe:L≠ev:=λz=>by rw [z,eev] at hL;cases hL
 have evE:∀ z∈zs,z≠ev:=λz hz' e=>by
  obtain ⟨y,j,_,k⟩:=hz z hz';rw [e,eev] at k;cases k
 refine ⟨L,rfl,⟨_,SqL.of xL⟩,ZeO (xs:=vs) (g:=ZaT 8) (tb:=tB6e) (λi σ H=>∃ (o8:Option V) (ys:List Addr),σ = [some (.ref a0),some (.ref a),some (.ref o),some (.ref tb),o4,some (.ref hd),none,some (.ref ev),o8,none,none,none,none,none]/\H ev=some (.lst (ys.map V.ref))/\ys.length=zs.length+i/\(∀ z∈ys,z≠ev/\((∃ y j,Zd2 y=some j/\H z=some (.tup [.str y,.str (kdW.getD j "")]))\/∃ x dd,RdS [ev,hd] H x dd/\ZdM dd=false/\H z=some (.tup [x,.str "row"])))/\∀ b x,b≠ev->H2 b=some x->H b=some x)
  ⟨none,zs,rfl,t _ _ eev,rfl,λz hz'=>⟨evE z hz',?_⟩,λ_ _ _ e=>e⟩ (λi σ H _ ⟨_,_,_,_,_,_,k⟩=>SqL.of (k _ _ hLe xL)) (λi x σ H hx ⟨o8,ys,es,ee,ly,hys,k⟩=>?_) (λσ H ⟨o8,ys,es,ee,ly,hys,k⟩=>?_)⟩
 ·obtain ⟨y,j,h1,h2⟩:=hz z hz';exact .inl ⟨y,j,h1,t _ _ h2⟩
 ·subst es;have hi6:i<6:=by rw [<- lv];exact (Yai.mp hx).1
  obtain ⟨dd,hdd,rd⟩:=rv.at hx;have rd:=rd [ev,hd] λb hb=>by
   simp only [YaF,Yax,or_false] at hb;rcases hb with rfl | rfl
   ·rw [eev];exact λz=>nomatch z
   ·exact hhd
  refine ⟨a0,a,o,tb,hd,ev,o4,x,ys,rfl,ee,by omega,λp H3 hp sp ep=>?_⟩;have npe:p≠ev:=λz=>by rw [z,ee] at hp;cases hp
  have k3:∀ b x,b≠ev->H3 b=some x->(upd H3 ev (.lst ((ys ++ [p]).map V.ref))) b=some x:=λb x n e=>(Zai n).trans e;refine ⟨_,ys ++ [p],rfl,Zad,by rw [Yak,YaI];omega,λz hz'=>?_,λb x n e=>k3 b x n (sp _ _ (k b x n e))⟩;rcases YaG.mp hz' with hz' | hz'
  ·obtain ⟨n,hh⟩:=hys z hz';refine ⟨n,?_⟩;rcases hh with ⟨y,j,h1,h2⟩ | ⟨x,dd,h1,h2,h3⟩
   ·exact .inl ⟨y,j,h1,k3 _ _ n (sp _ _ h2)⟩
   ·exact .inr ⟨x,dd,(h1.same sp).move (λb o nb e=>k3 b o (λz=>nb (by rw [z];simp)) e) (λ_ n=>n),h2,k3 _ _ n (sp _ _ h3)⟩
  ·rw [YaJ.mp hz'];refine ⟨npe,.inr ⟨x,dd,?_,Zqu dd hdd,k3 _ _ npe ep⟩⟩;refine rd.move (λb o nb e=>?_) (λ_ n=>n);have nb:b≠ev:=λz=>nb (by rw [z];simp);exact k3 b o nb (sp _ _ (k b o nb e))
 ·subst es;rw [lv] at ly;refine q o8 ys H (λb x e=>?_) (λb x n e=>k b x n (t _ _ e)) ee ly λz hz'=>?_
  ·have nb:b≠ev:=λz=>by rw [z,hev] at e;cases e
   exact k b x nb (t _ _ (sG _ _ e))
  ·rcases (hys z hz').2 with h | ⟨x,dd,h1,h2,h3⟩
   ·exact .inl h
   ·exact .inr ⟨x,dd,h1.move (λb o nb e=>e) (λb nb z=>nb (by rw [YaJ.mp z];simp)),h2,h3⟩
end
open PySem L2 PyProof.Rows
theorem AnsOk.imp {prs:Prs}{first:Str}{x:Int}{R R':Str->Prop} (h:AnsOk prs first x R) (i:∀ s,R s->R' s):AnsOk prs first x R':=by
 unfold AnsOk at h ⊢;split
 ·next e=>rw [Ya7 e] at h;exact i _ h
 ·next e =>
  rw [Ya6 e] at h;split
  ·next e2=>rw [Ya7 e2] at h;exact i _ h
  ·next e2 =>
   rw [Ya6 e2] at h;split
   ·next e3=>rw [Ya7 e3] at h;exact i _ h
   ·next e3 =>
    rw [Ya6 e3] at h;split
    ·next e4=>rw [Ya7 e4] at h;exact i _ h
    ·next e4 =>
     rw [Ya6 e4] at h;obtain ⟨k,h1,h2,h3⟩:=h;exact ⟨k,h1,h2,λfs hs=>⟨(h3 fs hs).1,i _ (h3 fs hs).2⟩⟩
section
variable {p1 p2:Addr}
theorem an1:AnsOk [(p1,[1,3]),(p2,[2,5])] "find" 2 (· = ("1:0" : Str)):=by
 unfold AnsOk;rw [Ya7 rfl];kernel_rfl
theorem an2:AnsOk [(p1,[1,3]),(p2,[2,5])] "find" 4 (· = ("none" : Str)):=by
 unfold AnsOk;rw [Ya7 rfl];kernel_rfl
theorem an3:AnsOk [(p1,[1,3]),(p2,[2,5])] "stair" 3 (· = ("1 1" : Str)):=by
 unfold AnsOk;rw [Ya6 (by decide +kernel),Ya7 rfl];kernel_rfl
theorem an4:AnsOk [(p1,[1,3]),(p2,[2,5])] "walk" 2 (· = ("0:1 0:0 1:0" : Str)):=by
 unfold AnsOk;rw [Ya6 (by decide +kernel),Ya6 (by decide +kernel),Ya7 rfl];kernel_rfl
theorem an5:AnsOk [(p1,[1,3]),(p2,[2,5])] "below" 5 (· = ("3" : Str)):=by
 unfold AnsOk;rw [Ya6 (by decide +kernel),Ya6 (by decide +kernel),Ya6 (by decide +kernel),Ya7 rfl];kernel_rfl
theorem so4:Sorted [(p1,[1,3]),(p2,[2,5])] [[1,0,0],[2,1,0],[3,0,1],[5,1,1]]:=by
 refine ⟨?_,by decide⟩;have e:Zb0 [(p1,[1,3]),(p2,[2,5])] 2=[[1,0,0],[3,0,1],[2,1,0],[5,1,1]]:=rfl;show List.Perm _ (Zb0 [(p1,[1,3]),(p2,[2,5])] 2);rw [e];exact (List.Perm.swap _ _ _).cons _
theorem an6:AnsOk [(p1,[1,3]),(p2,[2,5])] "nth" 2 (· = ("3" : Str)):=by
 unfold AnsOk;rw [Ya6 (by decide +kernel),Ya6 (by decide +kernel),Ya6 (by decide +kernel),Ya6 (by decide +kernel)];refine ⟨2,rfl,(by show 2<4;decide),λfs hs=>?_⟩;rw [hs.same so4];exact ⟨by decide,by kernel_rfl⟩
theorem an9:AnsOk [(p1,[1,1,1]),(p2,[1,1,1])] "find" 2 (· = ("none" : Str)):=by
 unfold AnsOk;rw [Ya7 rfl];kernel_rfl
end
def fr9:List (Str × Str):=[(("find a 2" : Str),("1:0" : Str)),("find a 4","none"),("stair a 3","1 1"),("walk a 2","0:1 0:0 1:0"),("below a 5","3"),("nth a 2","3"),("looks 2 2","3"),("looks 1 1","1"),("find abcdefgh 2","none")]
def anB (x f n:Str) (z:Int):Bool:=decide (x.length<=900) && hfB (spl x) && decide (spl x=[f,n,Zas z]) && decide (f ≠ "looks") && decide (f ≠ "table") && decide (f ≠ "cell") && decide (f ≠ "drop") && decide (f ≠ "show") && decide ((Zas z).length<=640)
section
variable {C c3:Addr}
theorem Zcs {H:Hp}{a dx d t:Addr}{ts:Ts}{x f n y:Str}{z:Int}{prs:Prs}{Q:VK}{E:XK} (h:anB x f n z=true) (hd:DeskAt H C a dx d ts) (hm:(n,t,prs)∈ts) (ho:AnsOk prs f z (· = y)) (q:∀ H',Same H H'->Q (.str y) H'):Zco C (ZgX C ZnO) [.ref a,.str x] H Q E:=by
 unfold anB at h;simp only [Yaj,YaN] at h;obtain ⟨⟨⟨⟨⟨⟨⟨⟨h1,h2⟩,h3⟩,h4⟩,h5⟩,h6⟩,h7⟩,h8⟩,h9⟩:=h;refine ⟨a,dx,d,t,ts,x,f,n,_,prs,rfl,hd,h1,h2,h3,h4,h5,hm,λp H' hp s' e'=>?_⟩;rw [h3] at e';refine ⟨a,dx,d,p,t,ts,f,n,z,prs,rfl,hd.same s',e',hm,h6,h7,h8,h9,?_⟩;exact ⟨t,prs,f,z,rfl,(hd.T _ hm).1.same s',(hd.T _ hm).2,ho.imp λs e H2 s2=>by rw [e];exact q H2 (s'.trans s2)⟩
def lkB (x:Str) (r p:Nat):Bool:=decide (x.length<=900) && hfB (spl x) && decide (spl x=[("looks" : Str),Zas (r:Nat),Zas (p:Nat)]) && decide ((Zas (r:Nat)).length<=640) && decide ((Zas (p:Nat)).length<=640) && decide (1<=r) && decide (r<=4) && decide (1<=p) && decide (p<=4)
theorem Zne {H:Hp}{a:Addr}{x y:Str}{r p:Nat}{Q:VK}{E:XK} (h:lkB x r p=true) (hl:(((fw p (allL r p):Nat):Int)).natAbs.log2<1920) (ho:Zas ((fw p (allL r p):Nat):Int)=y) (q:∀ H',Same H H'->Q (.str y) H'):Zg0 C (spFw c3) [.ref a,.str x] H Q E:=by
 unfold lkB at h;simp only [Yaj,YaN] at h;obtain ⟨⟨⟨⟨⟨⟨⟨⟨h1,h2⟩,h3⟩,h4⟩,h5⟩,h6⟩,h7⟩,h8⟩,h9⟩:=h;refine ⟨a,x,r,p,rfl,h1,h2,h3,h4,h5,λH' s'=>.inl ⟨r,p,rfl,h6,h7,h8,h9,λH2 s2=>⟨_,rfl,hl,?_⟩⟩⟩;rw [ho];exact q H2 (s'.trans s2)
def Zi6 (C c3:Addr):Sp:=λvs H Q E=>Zco C (ZgX C ZnO) vs H Q E\/Zg0 C (spFw c3) vs H Q E
theorem ZgR {prs:Prs}{r1 r2:List Int} (h:prs.map (·.2)=[r1,r2]):∃ p1 p2,prs=[(p1,r1),(p2,r2)]:=by
 match prs,h with
 | [(p1,s1),(p2,s2)],h =>
  have h:[s1,s2]=[r1,r2]:=h;simp at h;exact ⟨p1,p2,by rw [h.1,h.2]⟩
theorem Zsc:anB "find a 2" "find" "a" 2=true/\anB "find a 4" "find" "a" 4=true/\anB "stair a 3" "stair" "a" 3=true/\anB "walk a 2" "walk" "a" 2=true/\anB "below a 5" "below" "a" 5=true/\anB "nth a 2" "nth" "a" 2=true/\anB "find abcdefgh 2" "find" "abcdefgh" 2=true/\lkB "looks 2 2" 2 2=true/\lkB "looks 1 1" 1 1=true:=by decide +kernel
theorem Zow {K:Yab}{a dx d o ox od tb:Addr}{ob:Obj}{ts:Ts}{ns:List Int}{a0:Addr}{H:Hp} (h:Wd K C a dx d o ox od tb ob ts ns a0 H):∀ q∈fr9,∀ (Q:VK) (E:XK),(∀ H',Same H H'->Q (.str q.2) H')->Zi6 C c3 [.ref a,.str q.1] H Q E:=by
 obtain ⟨t,prs,hm,hrows⟩:=h.at (i:=0) (n := "a") (rows:=[[1,3],[2,5]]) rfl;obtain ⟨p1,p2,rfl⟩:=ZgR hrows;obtain ⟨t',prs',hm',hrows'⟩:=h.at (i:=1) (n := "abcdefgh") (rows:=[[1,1,1],[1,1,1]]) rfl;obtain ⟨p3,p4,rfl⟩:=ZgR hrows';obtain ⟨k1,k2,k3,k4,k5,k6,k7,k8,k9⟩:=Zsc;intro q hq Q E hQ;unfold fr9 at hq;simp only [YaF,Yax,or_false] at hq;rcases hq with rfl | rfl | rfl | rfl | rfl | rfl | rfl | rfl | rfl
 ·exact .inl (Zcs k1 h.dk hm an1 hQ)
 ·exact .inl (Zcs k2 h.dk hm an2 hQ)
 ·exact .inl (Zcs k3 h.dk hm an3 hQ)
 ·exact .inl (Zcs k4 h.dk hm an4 hQ)
 ·exact .inl (Zcs k5 h.dk hm an5 hQ)
 ·exact .inl (Zcs k6 h.dk hm an6 hQ)
 ·exact .inr (Zne k8 (by rw [Zq1];decide) (by rw [Zq1];decide +kernel) hQ)
 ·exact .inr (Zne k9 (by rw [Zq2];decide) (by rw [Zq2];decide +kernel) hQ)
 ·exact .inl (Zcs k7 h.dk hm' an9 hQ)
end
section
variable {P:Program}{w:World}{K:Yab}{mg:Str->Option Value}{base:Heap}{C c3:Addr}
variable {f:Addr}{cdv:Value}{A:Around}{outer:List Env}{s:Shared}{H:Hp}{E:XK}
theorem lw4:PS (lwX P w K mg base f cdv A outer s H E) (lwS 4) (λD σ H=>∀ hd,H hd=none->D.nx (σ.set 5 (some (.ref hd))) (upd H hd (.lst []))):=λpins s1 σ H1 D I q=>by
 have hF:PS (lwX P w K mg base f cdv A outer s H E) (lwS 4) _:=Zau (i:=5) sc_law37.nd rfl (Or.inl rfl) (ZaK Zac);generalize (lwS 4)=S_ at hF ⊢;refine hF pins s1 σ H1 D I ?_;exact ⟨sl6 (by decide),λhd hh=>q hd hh⟩
def fr1:List Str:=fr9.map (·.1)
def fr2:List Str:=fr9.map (·.2)
theorem lw8:PS (lwX P w K mg base f cdv A outer s H E) (lwS 8) (λD σ H=>∀ p,H p=none->D.nx (σ.set 13 (some (.ref p))) (upd H p (.lst ((fr1.take 5).map V.str)))):=λpins s1 σ H1 D I q=>by
 have hF:PS (lwX P w K mg base f cdv A outer s H E) (lwS 8) _:=Zau (i:=13) sc_law37.nd rfl (Or.inl rfl) (ZaK (ZaX (xs:=fr1.take 5) (by kernel_rfl)));generalize (lwS 8)=S_ at hF ⊢;refine hF pins s1 σ H1 D I ?_;exact ⟨sl6 (by decide),λhd hh=>q hd hh⟩
theorem lw9:PS (lwX P w K mg base f cdv A outer s H E) (lwS 9) (λD σ H=>∃ p,σ[13]? = some (some (.ref p))/\H p=some (.lst ((fr1.take 5).map V.str))/\∀ p2 H',Same H H'->H' p2=some (.lst (fr1.map V.str))->D.nx (σ.set 13 (some (.ref p2))) H'):=λpins s1 σ H1 D I ⟨p,hp,e,q⟩=>by
 have hF:PS (lwX P w K mg base f cdv A outer s H E) (lwS 9) _:=Zau (i:=13) sc_law37.nd rfl (Or.inl rfl) (Zax Zb8 (pv 13) (ZaK (ZaX (xs:=fr1.drop 5) (by kernel_rfl))));generalize (lwS 9)=S_ at hF ⊢;refine hF pins s1 σ H1 D I ?_;refine ⟨_,hp,sl6 (by decide),λp3 h3=>?_⟩;have s3:=Same.new (o:=.lst ((fr1.drop 5).map V.str)) h3;refine ⟨p,p3,_,_,rfl,rfl,s3 _ _ e,Zad,sl6 (by decide),λp4 h4=>?_⟩;exact q p4 _ (s3.trans (Same.new h4)) Zad
theorem lw10 (kc:DkK K C) (M:MtAtX P w K mg base 38 C "say" ["self","row"] (Zi6 C c3)) (hr:Room 38 (lwX P w K mg base f cdv A outer s H E).A):PS (lwX P w K mg base f cdv A outer s H E) (lwS 10) (λD σ H=>∃ (a dx d o ox od tb a0:Addr) (ob:Obj) (ts:Ts) (ns:List Int) (p:Addr),σ[1]? = some (some (.ref a))/\σ[13]? = some (some (.ref p))/\Wd K C a dx d o ox od tb ob ts ns a0 H/\H p=some (.lst (fr1.map V.str))/\∀ p2 H',Same H H'->H' p2=some (.lst (fr2.map V.str))->D.nx (σ.set 12 (some (.ref p2))) H'):=λpins s1 σ H1 D I h=>by
 obtain ⟨a,dx,d,o,ox,od,tb,a0,ob,ts,ns,p,h1,h13,hw,hp,q⟩:=h;have nd2:(["row","desk"]:List Str).Nodup:=by decide +kernel
 have hF:PS (lwX P w K mg base f cdv A outer s H E) (lwS 10) _:=Zgk ["row","desk"] [none,some 1] (Zae dLaw) l37N (i:=12) sc_law37.nd rfl (Or.inl rfl) rfl (ZaH (pv 13)) (by decide +kernel) (λcl C s2 H2 ex=>pg_c 0 nd2) (λcl C s2 H2 ex=>Zaw) (λcl C' s2 H2 ex=>Zjz M kc.cls hr ZeP (pv 1) (Zaa (pv 0) Zac));generalize (lwS 10)=S_ at hF ⊢;refine hF pins s1 σ H1 D I ?_;have ep:([none,some 1]:List (Option Nat)).map (pick σ)=[none,some (.ref a)]:=by
  show [none,(σ[1]?).getD none]=_;rw [h1];rfl
 have e1:H1 p=some (.lst (fr9.map λq=>V.str q.1)):=by
  rw [hp];unfold fr1;rw [Yau];rfl
 refine ⟨_,h13,p,rfl,⟨_,SqL.of hp⟩,?_⟩;rw [ep];refine ZaZ (ms:=fr9) (λq=>V.str q.1) (λq=>V.str q.2) (SqL.of e1) (sl6 (by decide)) (λx hx H' Q' sm q'=>?_) λD2 H3 hD2 s3 eD2=>?_
 ·have hw':=hw.same sm;exact ⟨_,rfl,a,dx,_,rfl,hw'.dk.ob,rfl,_,rfl,Zow hw' x hx _ _ q'⟩
 ·refine q D2 H3 s3 ?_;rw [eD2];unfold fr2;rw [Yau];rfl
theorem Zom:∀ x∈fr2,PyData.strOk x=true:=by decide +kernel
theorem Zlr {X:Cx}{x:Str}{i:Nat} (hu:X.A.units+64<cLine) (hv:∀ p:Pos,PE X (.Name x p) (tVar i)) (es:List Expr) (p1 p2 p3 p4:Pos) :
  PS X (.Return (some (.Compare (.Name x p1) [.Eq] [.List es p2] p3)) p4) (λE σ H=>∃ (xs:List Str) (a:Addr),ZbW es=some xs/\σ[i]? = some (some (.ref a))/\H a=some (.lst (xs.map V.str))/\(∀ y∈xs,PyData.strOk y=true)/\xs.length<=900/\∀ H',E.rt (.bl true) H'):=λpins s σ H D I ⟨xs,a,hy,hs,ha,hk,hl,q⟩=>by
 refine Zal (Zbn (Zqd hu) (hv p1) (ZaK (ZaX hy)) (Zaq _)) pins s _ H D I ⟨_,hs,sl6 (by rw [Yaa];omega),λl hl2=>?_⟩;have s2:=Same.new (o:=.lst (xs.map V.str)) hl2;refine ⟨.list (xs.map PyData.str),.list (xs.map PyData.str),.lst (SqL.of (s2 _ _ ha)) (Zcv xs),.lst (SqL.of Zad) (Zcv xs),Za2 hk,Za2 hk,?_⟩;rw [ZeQ];exact q _
theorem lw11 (hr:Room 1 (lwX P w K mg base f cdv A outer s H E).A):PS (lwX P w K mg base f cdv A outer s H E) (lwS 11) (λD σ H=>∃ p,σ[12]? = some (some (.ref p))/\H p=some (.lst (fr2.map V.str))/\∀ H',D.rt (.bl true) H'):=λpins s1 σ H1 D I ⟨p,hp,e,q⟩=>by
 have hF:PS (lwX P w K mg base f cdv A outer s H E) (lwS 11) _:=Zlr (i:=12) hr.units (λp=>pv 12) _ _ _ _ _;generalize lwS 11=S_ at hF ⊢;exact hF pins s1 σ H1 D I ⟨fr2,p,by kernel_rfl,hp,e,Zom,by decide,q⟩
end
open PySem L2 PyProof.Rows
structure Lp (K:Yab) (C a dx d o ox od tb:Addr) (ob:Obj) (ts:Ts) (ns:List Int) (a0 hd ev:Addr) (zs:List Addr) (G:Hp):Prop where
 wd:Wd K C a dx d o ox od tb ob ts ns a0 G
 ev:G ev=some (.lst (zs.map V.ref))
 len:zs.length=209
 all:∀ z∈zs,EvD G z
 hd:G hd=none
section
variable {P:Program}{w:World}{K:Yab}{mg:Str->Option Value}{base:Heap}{C:Addr}{cs:List Addr}
variable {f:Addr}{cdv:Value}{A:Around}{outer:List Env}{s:Shared}{H:Hp}{E:XK}
def tBr (K:Yab) (C:Addr) (cs:List Addr):TS:=λD σ H=>∃ (a dx d o ox od tb:Addr) (ob:Obj) (ts:Ts) (ns:List Int) (a0 hd ev:Addr) (zs:List Addr) (G:Hp) (n j:Nat) (x:V) (o4 o8 o9 o10 o12 o13:Option V),σ = lσ a0 a o tb hd ev o4 (some x) o8 o9 o10 (some (.str (kdW.getD j ""))) o12 o13/\Lp K C a dx d o ox od tb ob ts ns a0 hd ev zs G/\Same G H/\Held H hd n/\n<=100/\j<7/\Refs cs (ZbX C cs) G a x (kdL.getD j 0) /\
 ∀ o4 o12 H',Same G H'->Held H' hd (n+1)->D.nx (lσ a0 a o tb hd ev o4 (some x) o8 o9 o10 (some (.str (kdW.getD j ""))) o12 o13) H'
theorem lbR (kc:DkK K C) (G3:FnAt P w K mg base 39 "_law_said" ["desk","row"] (Zd8 C cs (ZbX C cs))) (M:MtAt P w K mg base 1 C "names" ["self"] (Zct C)) (M2:MtAtX P w K mg base 38 C "say" ["self","row"] (Zco C (Zdt C))) (hr:Room 39 (lwX P w K mg base f cdv A outer s H E).A):PSs (lwX P w K mg base f cdv A outer s H E) [lbS 3,lbS 4,lbS 5,lbS 6,lbS 7,lbS 8,lbS 9] (tBr K C cs):=by
 have hr1:Room 1 (lwX P w K mg base f cdv A outer s H E).A:=hr.mono (by decide);have hr38:Room 38 (lwX P w K mg base f cdv A outer s H E).A:=hr.mono (by decide);have B3:=@lb3 P w K mg base C cs f cdv A outer s H E kc G3 M hr;have B4:=@lb4 P w K mg base C f cdv A outer s H E kc M hr1;have B5:=@lb5 P w K mg base f cdv A outer s H E hr1;have B6:=@lb6 P w K mg base C f cdv A outer s H E kc M2 hr38;have B7:=@lb7 P w K mg base f cdv A outer s H E hr1;have B8:=@lb8 P w K mg base f cdv A outer s H E;have B9:=@lb9 P w K mg base f cdv A outer s H E;generalize lbS 3=S3 at B3 ⊢;generalize lbS 4=S4 at B4 ⊢;generalize lbS 5=S5 at B5 ⊢;generalize lbS 6=S6 at B6 ⊢;generalize lbS 7=S7 at B7 ⊢;generalize lbS 8=S8 at B8 ⊢;generalize lbS 9=S9 at B9 ⊢;intro pins s1 σ H1 D I h;obtain ⟨a,dx,d,o,ox,od,tb,ob,ts,ns,a0,hd,ev,zs,G,n,j,x,o4,o8,o9,o10,o12,o13,rfl,lp,sm,hh,hn,hj,hrf,q⟩:=h;refine (Zab B3 (Zab B4 (Zab B5 (Zab B6 (Zab B7 (Zab B8 (Zaf B9))))))) pins s1 _ H1 D I ?_;clear B3 B4 B5 B6 B7 B8 B9 I;have w1:=lp.wd.same sm;refine ⟨a0,a,o,tb,hd,ev,dx,d,ox,od,ts,o4,o8,o9,o10,o12,o13,x,j,rfl,w1.dk,w1.ot,hj,hrf.same sm,λH2 s2=>?_⟩;have w2:=w1.same s2;refine ⟨a0,a,o,tb,hd,ev,dx,d,ts,o4,_,o8,o9,o10,_,o12,o13,rfl,w2.dk,w2.names,λp hp=>?_⟩;have s3:=Same.new (o:=.lst (tbN.map V.str)) hp;have e3:(upd H2 p (.lst (tbN.map V.str))) p=some (.lst (tbN.map V.str)):=Zad;have h2:=hh.same s2;have hGp:G p=none:=(sm.trans s2).free hp;have nph:p≠hd:=λz=>by
  obtain ⟨ls,hl,_⟩:=h2;rw [z,hl] at hp;cases hp
 generalize upd H2 p (.lst (tbN.map V.str))=H3 at s3 e3 ⊢;have h3:=h2.same s3;refine ⟨a0,a,o,tb,hd,ev,p,o4,_,o8,o9,o10,_,o13,rfl,e3,λH4 s4=>?_⟩;have w4:=(w2.same s3).same s4;refine ⟨a0,a,o,tb,hd,ev,dx,d,ox,od,ob,ts,ns,o4,_,o8,o9,o10,_,_,o13,rfl,w4,λo4' H5 s5=>?_⟩;have h5:=(h3.same s4).same s5;refine ⟨a0,a,o,tb,hd,ev,n,o4',_,o8,o9,o10,_,_,o13,rfl,h5,λH6 s6=>?_⟩;have h6:=h5.same s6;have e6:=s6 _ _ (s5 _ _ (s4 _ _ e3));have sG6:Same G H6:=((((sm.trans s2).trans s3).trans s4).trans s5).trans s6;obtain ⟨ls,hl,ln,_⟩:=h6;refine ⟨a0,a,o,tb,hd,ev,p,o4',_,o8,o9,o10,_,o13,rfl,e6,?_⟩;refine ⟨a0,a,o,tb,hd,ev,p,ls,o4',_,o8,o9,o10,_,o13,rfl,(Zai nph.symm).trans hl,by omega,?_⟩;refine q o4' _ _ ((sG6.upd hGp).upd lp.hd) ⟨ls ++ [p],Zad,by rw [Yak,YaI];omega,λp' hp'=>?_⟩;rw [List.getLast?_append] at hp';have hp':p=p':=by simpa using hp'
 subst hp';exact ⟨nph,(Zai nph).trans Zad⟩
def tB7 (K:Yab) (C:Addr):TS:=λD σ H=>∃ (a dx d o ox od tb:Addr) (ob:Obj) (ts:Ts) (ns:List Int) (a0 hd ev:Addr) (zs:List Addr) (G:Hp) (n k:Nat) (o4 o6 o8 o10 o11 o12 o13:Option V),σ = lσ a0 a o tb hd ev o4 o6 o8 (some (.int (k:Nat))) o10 o11 o12 o13/\Lp K C a dx d o ox od tb ob ts ns a0 hd ev zs G/\Same G H/\Held H hd n/\n<=100/\k<=100 /\
 ∀ o4 o6 o8 o9 o10 o11 o12 H',Same G H'->Held H' hd (n+1)->D.nx (lσ a0 a o tb hd ev o4 o6 o8 o9 o10 o11 o12 o13) H'
theorem lw7i (T:Blt mg) (kc:DkK K C) (G1:FnAt P w K mg base 1 "_law_cell" ["script","k"] (Zdx K)) (G2:FnAt P w K mg base 1 "_law_spoilt" ["cell"] Zh2) (G3:FnAt P w K mg base 39 "_law_said" ["desk","row"] (Zd8 C cs (ZbX C cs))) (M:MtAt P w K mg base 1 C "names" ["self"] (Zct C)) (M2:MtAtX P w K mg base 38 C "say" ["self","row"] (Zco C (Zdt C))) (hr:Room 39 (lwX P w K mg base f cdv A outer s H E).A):PSs (lwX P w K mg base f cdv A outer s H E) (forB (lwS 7)) (tB7 K C):=by
 have hr1:Room 1 (lwX P w K mg base f cdv A outer s H E).A:=hr.mono (by decide);have R:=@lbR P w K mg base C cs f cdv A outer s H E kc G3 M M2 hr;have B0:=@lb0 P w K mg base f cdv A outer s H E G1 hr1;have B1:=λ(Pj:V->Nat->Prop)=>@lb1 P w K mg base f cdv A outer s H E T Pj;have B2:=@lb2 P w K mg base f cdv A outer s H E T G2 hr1;have eB:forB (lwS 7)=[lbS 0,lbS 1,lbS 2,lbS 3,lbS 4,lbS 5,lbS 6,lbS 7,lbS 8,lbS 9]:=by kernel_rfl
 rw [eB];generalize lbS 0=S0 at B0 ⊢;generalize lbS 1=S1 at B1 ⊢;generalize lbS 2=S2 at B2 ⊢;generalize [lbS 3,lbS 4,lbS 5,lbS 6,lbS 7,lbS 8,lbS 9]=SS at R ⊢;intro pins s1 σ H1 D I h;obtain ⟨a,dx,d,o,ox,od,tb,ob,ts,ns,a0,hd,ev,zs,G,n,k,o4,o6,o8,o10,o11,o12,o13,rfl,lp,sm,hh,hn,hk,q⟩:=h;refine (Zab B0 (Zab (B1 λx j=>j<7/\Refs cs (ZbX C cs) G a x (kdL.getD j 0)) (Zab B2 R))) pins s1 _ H1 D I ?_;clear B0 B1 B2 R I;refine ⟨a0,a,o,tb,hd,ev,o4,o6,o8,o10,o11,o12,o13,k,ns,rfl,(lp.wd.same sm).sc,hk,λc=>?_⟩;refine ⟨a0,a,o,tb,hd,ev,o4,o6,o8,_,o11,o12,o13,c,zs,rfl,sm _ _ lp.ev,lp.len,λz hz=>?_,λx j hj=>?_⟩
 ·obtain ⟨x,j,h1,h2,h3⟩:=Zq3 (cs:=cs) lp.wd (lp.all z hz);exact ⟨x,j,sm _ _ h1,h2,h3⟩
 ·refine ⟨a0,a,o,tb,hd,ev,o4,_,o8,_,_,o12,o13,c,zs,rfl,sm _ _ lp.ev,lp.len,?_,λy H2 hy s2=>?_⟩
  ·exact ⟨a,dx,d,o,ox,od,tb,ob,ts,ns,a0,hd,ev,zs,G,n,j,x,o4,o8,_,_,o12,o13,rfl,lp,sm,hh,hn,hj.1,hj.2,λo4 o12 H' s' h'=>q o4 _ o8 _ _ _ o12 H' s' h'⟩
  ·have:=Zks (cs:=cs) lp.wd.dk lp.wd.rt (Zhs hy);exact ⟨a,dx,d,o,ox,od,tb,ob,ts,ns,a0,hd,ev,zs,G,n,4,.str y,o4,o8,_,_,o12,o13,rfl,lp,sm.trans s2,hh.same s2,hn,this.1,this.2,λo4 o12 H' s' h'=>q o4 _ o8 _ _ _ o12 H' s' h'⟩
theorem lw7 (T:Blt mg) (hmin:mg "min" = none) (kc:DkK K C) (G1:FnAt P w K mg base 1 "_law_cell" ["script","k"] (Zdx K)) (G2:FnAt P w K mg base 1 "_law_spoilt" ["cell"] Zh2) (G3:FnAt P w K mg base 39 "_law_said" ["desk","row"] (Zd8 C cs (ZbX C cs))) (M:MtAt P w K mg base 1 C "names" ["self"] (Zct C)) (M2:MtAtX P w K mg base 38 C "say" ["self","row"] (Zco C (Zdt C))) (hr:Room 39 (lwX P w K mg base f cdv A outer s H E).A):PS (lwX P w K mg base f cdv A outer s H E) (lwS 7) (λD σ H=>∃ (a dx d o ox od tb:Addr) (ob:Obj) (ts:Ts) (ns:List Int) (a0 hd ev:Addr) (zs:List Addr) (G:Hp) (o4 o6 o8 o9 o10 o11 o12 o13:Option V),σ = lσ a0 a o tb hd ev o4 o6 o8 o9 o10 o11 o12 o13/\Lp K C a dx d o ox od tb ob ts ns a0 hd ev zs G/\Same G H/\Held H hd 0/\∀ o4 o6 o8 o9 o10 o11 o12 H',Same G H'->D.nx (lσ a0 a o tb hd ev o4 o6 o8 o9 o10 o11 o12 o13) H'):=λpins s1 σ H1 D I h=>by
 obtain ⟨a,dx,d,o,ox,od,tb,ob,ts,ns,a0,hd,ev,zs,G,o4,o6,o8,o9,o10,o11,o12,o13,rfl,lp,sm,hh,q⟩:=h;have hb:=@lw7i P w K mg base C cs f cdv A outer s H E T kc G1 G2 G3 M M2 hr;have key:∀ (it:Expr) (body:List Stmt) (p1 p3:Pos) {wi:TI}{tb:TS},PI (lwX P w K mg base f cdv A outer s H E) (.Name "k" p1) it wi->PSs (lwX P w K mg base f cdv A outer s H E) body tb->(∀ x,foldedSetIterable it (lwX P w K mg base f cdv A outer s H E).env x=pure x)->PS (lwX P w K mg base f cdv A outer s H E) (.For (.Name "k" p1) it body [] p3) (tFor wi (ZaT 9) tb):=λit body p1 p3 wi tb hi hb hs=>Zcq PassesOwn.never rfl hi (Za3 (i:=9) sc_law37.nd rfl (Or.inl rfl)) hb hs;have hI:PI (lwX P w K mg base f cdv A outer s H E) (match lwS 7 with | .For t _ _ _ _=>t | _=>.Name "k" ⟨0,0,0,0⟩) (match lwS 7 with | .For _ i _ _ _=>i | _=>.Name "k" ⟨0,0,0,0⟩) _:=ZcI rfl T.rng (Zaa (pe_b (Zf2 rfl) T.max boot_max (Zaa Zag (Zaa (pe_b (Zk4 rfl) hmin boot_min (Zaa (pe_b Zao T.len boot_len (Zaa (pv 0) Zac)) (Zaa Zag Zac))) Zac))) Zac);have hF:PS (lwX P w K mg base f cdv A outer s H E) (lwS 7) _:=@key _ _ _ _ _ _ @hI @hb (by intro _;rfl);clear key hb hI;refine hF pins s1 _ H1 D I ?_;clear hF;refine ⟨_,rfl,a0,_,rfl,.inl (lp.wd.same sm).sc,_,_,rfl,_,_,rfl,?_⟩;rw [Yaa];have hb:∀ y:Int,y=(if (if (63:Int)<(ns.length:Int) then 63 else (ns.length:Int)) > 24 then (if (63:Int)<(ns.length:Int) then 63 else (ns.length:Int)) else 24)->0<=y/\y<=63:=λy hy=>by
  subst hy;split
  ·split at * <;> omega
  ·omega
 have hb:=hb _ rfl;generalize (if (if (63:Int)<(ns.length:Int) then 63 else (ns.length:Int)) > 24 then (if (63:Int)<(ns.length:Int) then 63 else (ns.length:Int)) else 24)=many at hb ⊢;refine ⟨many,rfl,by omega,by omega,ZdO (g:=ZaT 9) (tb:=tB7 K C) (λi σ H2=>∃ (o4 o6 o8 o9 o10 o11 o12:Option V),σ = lσ a0 a o tb hd ev o4 o6 o8 o9 o10 o11 o12 o13/\Same G H2/\Held H2 hd i) ⟨_,_,_,_,_,_,_,rfl,sm,hh⟩ ?_ (λσ H2 ⟨o4,o6,o8,o9,o10,o11,o12,es,s2,_⟩=>by rw [es];exact q o4 o6 o8 o9 o10 o11 o12 H2 s2)⟩;rintro i σ H2 hi ⟨o4,o6,o8,o9,o10,o11,o12,rfl,s2,h2⟩;refine ⟨a,dx,d,o,ox,od,tb,ob,ts,ns,a0,hd,ev,zs,G,i,i,o4,o6,o8,o10,o11,o12,o13,?_,lp,s2,h2,by omega,by omega,λo4 o6 o8 o9 o10 o11 o12 H' s' h'=>⟨o4,o6,o8,o9,o10,o11,o12,rfl,s',h'⟩⟩;show List.set _ _ _=_;rw [Int.zero_add];rfl
end
open PySem L2 PyProof.Rows
def Zlx (K:Yab):Sp:=λvs H Q _=>∃ (a:Addr) (ns:List Int),vs=[.ref a]/\SqL K H a (ns.map V.int)/\ns.length<=63/\∀ H',Q (.bl true) H'
section
variable {P:Program}{w:World}{K:Yab}{mg:Str->Option Value}{base:Heap}{C c3 c9:Addr}{cs:List Addr}
theorem Zqp (T:Blt mg) (hmin:mg "min" = none) (kc:DkK K C) (hmk:PySem.W.makesIn K C=true) (hkp:PySem.W.keepIn K (.ref C)=true) (hm:mg "Desk" = some (.ref C)) {f:Addr}{fd:FuncData} (F:Fun K "law" "law" dLaw f fd) (M0:MtAt P w K mg base 1 C "__init__" ["self"] (Zdz C)) (M1:MtAt P w K mg base 1 C "names" ["self"] (Zct C))
  (M2:MtAtX P w K mg base 38 C "say" ["self","row"] (ZgZ C (spRS c9 Zlu))) (M3:MtAtX P w K mg base 38 C "say" ["self","row"] (Zco C (Zdt C))) (M4:MtAtX P w K mg base 38 C "say" ["self","row"] (Zi6 C c3))
  (G1:FnAt P w K mg base 1 "_law_cell" ["script","k"] (Zdx K)) (G2:FnAt P w K mg base 1 "_law_spoilt" ["cell"] Zh2) (G3:FnAt P w K mg base 39 "_law_said" ["desk","row"] (Zd8 C cs (ZbX C cs))) (G4:FnAt P w K mg base 1 "_law_none" [] Zi9) (G5:FnAt P w K mg base 1 "_law_others" [] Zek):FnOk P w K mg base CX0 40 f fd ["script"] (Zlx K):=by
 refine F.ok sc_law37 (λvs H Q E h=>?_) (λcdv A outer s H vs Q E hr h=>?_)
 ·obtain ⟨a,ns,rfl,_⟩:=h;rfl
 ·obtain ⟨a0,ns,rfl,hS,hlen,q⟩:=h;have hr1:Room 1 (lwX P w K mg base f cdv A outer s H E).A:=hr.mono (by decide);have hr2:Room 2 (lwX P w K mg base f cdv A outer s H E).A:=hr.mono (by decide);have hr38:Room 38 (lwX P w K mg base f cdv A outer s H E).A:=hr.mono (by decide);have B0:=@lw0 P w K mg base C f cdv A outer s H E M0 hmk hkp hm hr2;have B1:=@lw1 P w K mg base C f cdv A outer s H E M0 hmk hkp hm hr2;have B2:=@lw2 P w K mg base f cdv A outer s H E;have B3:=@lw3 P w K mg base C c9 f cdv A outer s H E kc M2 hr38;have B4:=@lw4 P w K mg base f cdv A outer s H E;have B5:=@lw5 P w K mg base f cdv A outer s H E G4 G5 hr1;have B6:=@lw6 P w K mg base f cdv A outer s H E;have B7:=@lw7 P w K mg base C cs f cdv A outer s H E T hmin kc G1 G2 G3 M1 M3 hr;have B8:=@lw8 P w K mg base f cdv A outer s H E;have B9:=@lw9 P w K mg base f cdv A outer s H E;have B10:=@lw10 P w K mg base C c3 f cdv A outer s H E kc M4 hr38;have B11:=@lw11 P w K mg base f cdv A outer s H E hr1;have eB:ZaQ dLaw=[lwS 0,lwS 1,lwS 2,lwS 3,lwS 4,lwS 5,lwS 6,lwS 7,lwS 8,lwS 9,lwS 10,lwS 11]:=by kernel_rfl
  rw [eB];generalize lwS 0=S0 at B0 ⊢;generalize lwS 1=S1 at B1 ⊢;generalize lwS 2=S2 at B2 ⊢;generalize lwS 3=S3 at B3 ⊢;generalize lwS 4=S4 at B4 ⊢;generalize lwS 5=S5 at B5 ⊢;generalize lwS 6=S6 at B6 ⊢;generalize lwS 7=S7 at B7 ⊢;generalize lwS 8=S8 at B8 ⊢;generalize lwS 9=S9 at B9 ⊢;generalize lwS 10=S10 at B10 ⊢;generalize lwS 11=S11 at B11 ⊢;refine ⟨_,Zab B0 (Zab B1 (Zab B2 (Zab B3 (Zab B4 (Zab B5 (Zab B6 (Zab B7 (Zab B8 (Zab B9 (Zab B10 (Zaf B11))))))))))),?_⟩;clear B0 B1 B2 B3 B4 B5 B6 B7 B8 B9 B10 B11;intro a dx d H1 s1 hd0 hD o ox od H2 s2 hod hO tb htb;have ndo:d≠od:=λz=>by have:=hD.D;rw [z,hod] at this;cases this
  have hD2:=hD.same s2;have ntd:tb≠d:=λz=>by have:=hD2.D;rw [<- z,htb] at this;cases this
  have nto:tb≠od:=λz=>by have:=hO.D;rw [<- z,htb] at this;cases this
  have s3:=Same.new (o:=.dK tbK) htb;have e3:(upd H2 tb (.dK tbK)) tb=some (.dK tbK):=Zad;have htb0:H tb=none:=(s1.trans s2).free htb;generalize upd H2 tb (.dK tbK)=H3 at s3 e3 ⊢;refine ⟨H,a0,a,dx,d,o,ox,od,tb,rfl,(s1.trans s2).trans s3,hd0,htb0,ndo,ntd,nto,hD2.same s3,hO.same s3,e3,λob ts H4 o4 wi=>?_⟩;have w4:Wd K C a dx d o ox od tb ob ts ns a0 H4:=⟨wi.dk,wi.ot,wi.tb,wi.rt,wi.bd,wi.sm.seq hS⟩;clear s1 s2 s3 hD hO hD2 e3 wi htb hod hd0 htb0;intro hd hhd;have s5:=Same.new (o:=.lst []) hhd;have e5:(upd H4 hd (.lst [])) hd=some (.lst []):=Zad;generalize upd H4 hd (.lst [])=H5 at s5 e5 ⊢;intro ev zs H6 hev s6 e6 lz hz;have neh:ev≠hd:=λz=>by rw [z,e5] at hev;cases hev
  refine ⟨H5,a0,a,o,tb,hd,ev,o4,zs,rfl,s6,hev,e6,(by rw [s6 _ _ e5];intro z;cases z),by omega,hz,λo8 zs' H7 s7 k7 e7 lz' hz'=>?_⟩;have e7h:H7 hd=some (.lst []):=k7 _ _ neh.symm (s6 _ _ e5);have sG:Same H4 (λb=>if b=hd then none else H7 b):=λb x e=>by
   have nb:b≠hd:=λz=>by rw [z,hhd] at e;cases e
   show (if b=hd then none else H7 b)=_;rw [Ya6 nb];exact s7 _ _ (s5 _ _ e)
  have sG7:Same (λb=>if b=hd then none else H7 b) H7:=λb x e=>by
   have e:(if b=hd then none else H7 b)=some x:=e
   by_cases nb:b=hd
   ·rw [Ya7 nb] at e;cases e
   ·rw [Ya6 nb] at e;exact e
  have kG:∀ b x,b≠hd->H7 b=some x->(λb=>if b=hd then none else H7 b) b=some x:=λb x nb e=>by
   show (if b=hd then none else H7 b)=_;rw [Ya6 nb];exact e
  have lp:Lp K C a dx d o ox od tb ob ts ns a0 hd ev zs' (λb=>if b=hd then none else H7 b):=by
   refine ⟨w4.same sG,kG _ _ neh e7,by omega,λz hz2=>?_,Ya7 rfl⟩;rcases hz' z hz2 with ⟨y,j,h1,h2⟩ | ⟨x,dd,h1,h2,h3⟩
   ·exact .inl ⟨y,j,h1,kG _ _ (λe=>by rw [e,e7h] at h2;cases h2) h2⟩
   ·exact .inr ⟨x,dd,h1.move (λb o nb e=>kG b o (λz=>nb (by rw [z];simp)) e) (λ_ _=>by simp),h2,kG _ _ (λe=>by rw [e,e7h] at h3;cases h3) h3⟩
  generalize (λb=>if b=hd then none else H7 b)=G at lp sG7;refine ⟨a,dx,d,o,ox,od,tb,ob,ts,ns,a0,hd,ev,zs',G,o4,none,o8,none,none,none,none,none,rfl,lp,sG7,⟨[],e7h,rfl,λp hp=>by cases hp⟩,λo4 o6 o8 o9 o10 o11 o12 H8 s8=>?_⟩;have w8:=lp.wd.same s8;intro p hp;refine ⟨p,rfl,Zad,λp2 H9 s9 e9=>?_⟩;have w9:=(w8.same (Same.new hp)).same s9;refine ⟨a,dx,d,o,ox,od,tb,a0,ob,ts,ns,p2,rfl,rfl,w9,e9,λp3 H10 s10 e10=>?_⟩;exact ⟨p3,rfl,e10,λH'=>q H'⟩
end
open PySem L2 PyProof.Rows
theorem ZmC {K:Yab}{h:Heap}{mg:Str->Option Value}{x:Str}{st:Stmt}{ps:List Str}{f:Addr} (X:K.In h) (G:h.Ns mainGlobals mg) {od an:Option Addr}{sl:Array (Option Value)}{oc kV dc pm cd ct:Value}
  (a:PySem.W.nsIn K mainGlobals x=some (some (.ref f))) (l:K.lookup f=some ⟨oc,od,.func (PySem.W.fnOf x x (Zca st) (ZaQ st) (Zae st) .none kV dc pm an cd ct),sl⟩) (c:PySem.W.codeIn K cd x=true) (k:PySem.W.keepIn K (.ref f)=true)
  (b:∀ (kV doc pm:Value) (an:Option Addr) (cdv ct:Value) (us:List Value),us.length=ps.length->bindArgs (PySem.W.fnOf x x (Zca st) (ZaQ st) (Zae st) .none kV doc pm an cdv ct) ⟨us,[]⟩=pure (ps.zip us)):Zak K mg x st ps:=by
 have F:=Znk (st:=st) l c k;exact ⟨f,_,F,YaE X G a,F.binds b⟩
theorem Zrf {K:Yab}{h:Heap}{mg:Str->Option Value}{t1 t2 t3:Tok} (X:K.In h) (G:h.Ns mainGlobals mg) (e1:PySem.W.nsIn K mainGlobals "len" = some none) (e2:PySem.W.nsIn K mainGlobals "all" = some none) (e3:PySem.W.nsIn K mainGlobals "isinstance" = some none)
  (e4:PySem.W.nsIn K mainGlobals "range" = some none) (e5:PySem.W.nsIn K mainGlobals "int" = some none) (e6:PySem.W.nsIn K mainGlobals "bool" = some none) (e7:PySem.W.nsIn K mainGlobals "list" = some none) (e8:PySem.W.nsIn K mainGlobals "enumerate" = some none)
  (e9:PySem.W.nsIn K mainGlobals "abs" = some none) (e10:PySem.W.nsIn K mainGlobals "max" = some none) (e11:PySem.W.nsIn K mainGlobals "MOST_ROWS" = some (some (.int 6 t1))) (e12:PySem.W.nsIn K mainGlobals "MOST_PLACES" = some (some (.int 6 t2))) (e13:PySem.W.nsIn K mainGlobals "MOST_TO_A_SIDE" = some (some (.int 4 t3))):Blt mg :=
 ⟨YaB X G e1,YaB X G e2,YaB X G e3,YaB X G e4,YaB X G e5,YaB X G e6,YaB X G e7,YaB X G e8,YaB X G e9,YaB X G e10,
  ⟨_,YaE X G e11⟩,⟨_,YaE X G e12⟩,⟨_,YaE X G e13⟩⟩
theorem walk {l:PySem.W.OpenLaw}{q:Program}{loose:List Str}{XP:(Str->Option Value)->Heap->Prop}{YP:World->Heap->Prop}{d:DefRec}{K:Params->Yab} (hn:l.most=some 63) (hdf:d.params.defaults=[])
  (hY:∀ (w:World) (h:Heap),YP w h->(K w.params).In h)
  (F:∀ (w:World) (mg:Str->Option Value) (fa:Addr) (h:Heap),(K w.params).In h->h.Ns mainGlobals mg->mg d.name=some (.ref fa) ->
   ∃ fd:FuncData,(∀ (s:Shared) (u:Value),BindsTo s fd ⟨[u],[]⟩ [("script",u)])/\∀ base:Heap,(K w.params).In base->base.Ns mainGlobals mg->FnOk l.prog w (K w.params) mg base CX0 60 fa fd ["script"] (Zlx (K w.params))) :
  PySem.W.WalkO q loose XP YP l.row.toRowW d [] (λf vs=>PySem.call f vs) :=
 L2.Znw (n:=63) (k:=60) (x := "script") (CX:=λ_=>CX0) (sp:=λw=>Zlx (K w.params)) hn (by decide) hdf ⟨rfl,by decide,by decide,rfl⟩ hY F (λ_ _ a ns hl _ hS=>⟨a,ns,rfl,hS,hl,λ_=>rfl⟩) λ_ _ _ _ _ z=>z
open PySem L2 PyProof.Rows
theorem ZqC {K:Yab}{h:Heap}{mg:Str->Option Value}{S a0 a1 a2 a3 a4 a5 a6 a7 a8 a9 a10 a11:Addr} (X:K.In h) (G:h.Ns mainGlobals mg) (e:PySem.W.nsIn K mainGlobals "SeekError" = some (some (.ref S))) (e0:PySem.W.nsIn K mainGlobals "NoTable" = some (some (.ref a0))) (e1:PySem.W.nsIn K mainGlobals "NoCell" = some (some (.ref a1)))
  (e2:PySem.W.nsIn K mainGlobals "NoNumber" = some (some (.ref a2))) (e3:PySem.W.nsIn K mainGlobals "NoSize" = some (some (.ref a3))) (e4:PySem.W.nsIn K mainGlobals "NoStair" = some (some (.ref a4))) (e5:PySem.W.nsIn K mainGlobals "NoLook" = some (some (.ref a5)))
  (e6:PySem.W.nsIn K mainGlobals "NoPlace" = some (some (.ref a6))) (e7:PySem.W.nsIn K mainGlobals "NoFit" = some (some (.ref a7))) (e8:PySem.W.nsIn K mainGlobals "NoChange" = some (some (.ref a8))) (e9:PySem.W.nsIn K mainGlobals "NoText" = some (some (.ref a9)))
  (e10:PySem.W.nsIn K mainGlobals "NoName" = some (some (.ref a10))) (e11:PySem.W.nsIn K mainGlobals "NoRow" = some (some (.ref a11))):Nms mg S [a0,a1,a2,a3,a4,a5,a6,a7,a8,a9,a10,a11] :=
 ⟨rfl,YaE X G e,YaE X G e0,YaE X G e1,YaE X G e2,YaE X G e3,YaE X G e4,YaE X G e5,YaE X G e6,YaE X G e7,YaE X G e8,YaE X G e9,YaE X G e10,YaE X G e11⟩
theorem Zq4 {K:Yab}{S C a0 a1 a2 a3 a4 a5 a6 a7 a8 a9 a10 a11:Addr}{i:Nat} (k:ExcK K C) (sk:PySem.W.mroIn K C (.ref S)=some true) (kv:PySem.W.kitOne K (.ref C) (.type "ValueError")=some true)
  (k0:PySem.W.kitOne K (.ref C) (.ref a0)=some (decide (0=i))) (k1:PySem.W.kitOne K (.ref C) (.ref a1)=some (decide (1=i))) (k2:PySem.W.kitOne K (.ref C) (.ref a2)=some (decide (2=i))) (k3:PySem.W.kitOne K (.ref C) (.ref a3)=some (decide (3=i)))
  (k4:PySem.W.kitOne K (.ref C) (.ref a4)=some (decide (4=i))) (k5:PySem.W.kitOne K (.ref C) (.ref a5)=some (decide (5=i))) (k6:PySem.W.kitOne K (.ref C) (.ref a6)=some (decide (6=i))) (k7:PySem.W.kitOne K (.ref C) (.ref a7)=some (decide (7=i)))
  (k8:PySem.W.kitOne K (.ref C) (.ref a8)=some (decide (8=i))) (k9:PySem.W.kitOne K (.ref C) (.ref a9)=some (decide (9=i))) (k10:PySem.W.kitOne K (.ref C) (.ref a10)=some (decide (10=i))) (k11:PySem.W.kitOne K (.ref C) (.ref a11)=some (decide (11=i))) :
  Err K S [a0,a1,a2,a3,a4,a5,a6,a7,a8,a9,a10,a11] i C :=
 ⟨k,sk,kv,λj D h=>match j,h with
  | 0,h=>by cases h;exact k0
  | 1,h=>by cases h;exact k1
  | 2,h=>by cases h;exact k2
  | 3,h=>by cases h;exact k3
  | 4,h=>by cases h;exact k4
  | 5,h=>by cases h;exact k5
  | 6,h=>by cases h;exact k6
  | 7,h=>by cases h;exact k7
  | 8,h=>by cases h;exact k8
  | 9,h=>by cases h;exact k9
  | 10,h=>by cases h;exact k10
  | 11,h=>by cases h;exact k11
  |n+12,h=>by simp at h⟩
open PySem L2 PyProof.Rows
theorem ZoQ:figS=⟨#[48,49,50,51,52,53,54,55,56,57]⟩:=by
 have e:figS.cps.toList=[48,49,50,51,52,53,54,55,56,57]:=by decide +kernel
 have e2:figS.cps = #[48,49,50,51,52,53,54,55,56,57]:=Array.ext' e;generalize figS=f at *;cases f;simp only at e2;rw [e2]
theorem ZqZ {K:Yab}{h:Heap}{mg:Str->Option Value}{t} (X:K.In h) (G:h.Ns mainGlobals mg) (e:PySem.W.nsIn K mainGlobals "FIGURES" = some (some (.str ⟨#[48,49,50,51,52,53,54,55,56,57]⟩ t))):∃ t,mg "FIGURES" = some (.str figS t) :=
 ⟨t,by rw [ZoQ];exact YaE X G e⟩
open PySem L2 PyProof.Rows
def EsIs:List DictEntry->List (Str × Addr)->Prop
 | [],[]=>True
 |e :: es,x :: xs=>(∃ t,e.key=.str x.1 t)/\e.val=.ref x.2/\EsIs es xs
 |_,_=>False
def StIs:List Value->List Str->Prop
 | [],[]=>True
 |v :: vs,x :: xs=>(∃ t,v=.str x t)/\StIs vs xs
 |_,_=>False
theorem StIs.vals:∀ {vs:List Value}{xs:List Str},StIs vs xs->Vals (xs.map V.str) vs
 | [],[],_=>.nil
 |v :: vs,x :: xs,h=>.cons h.1 h.2.vals
theorem EsIs.find:∀ {es:List DictEntry}{fs:List (Str × Addr)},EsIs es fs->∀ x,(es.find? λe=>Value.isStrOf x e.key).map (·.val)=(fs.lookup x).map Value.ref
 | [],[],_,_=>rfl
 |e :: es,(y,a) :: fs,h,x=>by
  obtain ⟨⟨t,hk⟩,hv,hr⟩:=h;rw [List.find?_cons,List.lookup_cons,hk];have hb:Value.isStrOf x (Value.str y t)=(x == y):=by
   by_cases z:x=y
   ·subst z;simp [Value.isStrOf]
   ·rw [Ya1.mpr z];have:¬ y=x:=λq=>z q.symm;simp [Value.isStrOf,this]
  rw [hb];cases hxy:(x == y) with
  |true=>simp [hv]
  |false=>exact hr.find x
theorem Zpf {K:Yab}{w:World}{a:Addr}{es:Array DictEntry}{n:Nat}{fs:List (Str × Addr)} (l:K.lookup a=some ⟨.type "dict",none,.dict es n,#[]⟩) (k:PySem.W.KeysLit w.params es.toList) (lo:(a == sysModules)=false) (b:EsIs es.toList fs):TopD K w a fs :=
 ⟨es,n,l,k,lo,λx=>by
  unfold findBy;rw [<- Array.find?_toList]
  exact b.find x⟩
theorem Zcn {K:Yab}{a:Addr}{o:Obj}{its:Array Value}{n:Nat}{xs:List Str} (l:K.lookup a=some o) (c:o.cls=.type "tuple") (d:o.data=.seq its n) (z:its.size<=10) (v:StIs its.toList xs):∀ H,SqT K H a (xs.map V.str) :=
 λH=>.inr ⟨o,its,n,l,c,d,sl6 (by omega),v.vals⟩
theorem Zmx:formL=[(⟨#[116,97,98,108,101]⟩,[⟨#[78,65,77,69]⟩,⟨#[84,69,88,84]⟩]),(⟨#[99,101,108,108]⟩,[⟨#[78,65,77,69]⟩,⟨#[82]⟩,⟨#[67]⟩,⟨#[88]⟩]),(⟨#[100,114,111,112]⟩,[⟨#[78,65,77,69]⟩]),(⟨#[102,105,110,100]⟩,[⟨#[78,65,77,69]⟩,⟨#[88]⟩]),(⟨#[115,116,97,105,114]⟩,[⟨#[78,65,77,69]⟩,⟨#[88]⟩]),(⟨#[119,97,108,107]⟩,[⟨#[78,65,77,69]⟩,⟨#[88]⟩]),(⟨#[98,101,108,111,119]⟩,[⟨#[78,65,77,69]⟩,⟨#[88]⟩]),(⟨#[110,116,104]⟩,[⟨#[78,65,77,69]⟩,⟨#[75]⟩]),(⟨#[115,104,111,119]⟩,[⟨#[78,65,77,69]⟩]),(⟨#[108,111,111,107,115]⟩,[⟨#[82]⟩,⟨#[80]⟩])]:=by decide +kernel
theorem Zr5 {K:Yab}{w:World}{h:Heap}{mg:Str->Option Value}{a t0 t1 t2 t3 t4 t5 t6 t7 t8 t9:Addr} (X:K.In h) (G:h.Ns mainGlobals mg) (e:PySem.W.nsIn K mainGlobals "FORMS" = some (some (.ref a)))
  (d:TopD K w a [(⟨#[116,97,98,108,101]⟩,t0),(⟨#[99,101,108,108]⟩,t1),(⟨#[100,114,111,112]⟩,t2),(⟨#[102,105,110,100]⟩,t3),(⟨#[115,116,97,105,114]⟩,t4),(⟨#[119,97,108,107]⟩,t5),(⟨#[98,101,108,111,119]⟩,t6),(⟨#[110,116,104]⟩,t7),(⟨#[115,104,111,119]⟩,t8),(⟨#[108,111,111,107,115]⟩,t9)])
  (q0:∀ H,SqT K H t0 (([⟨#[78,65,77,69]⟩,⟨#[84,69,88,84]⟩]:List Str).map V.str))
  (q1:∀ H,SqT K H t1 (([⟨#[78,65,77,69]⟩,⟨#[82]⟩,⟨#[67]⟩,⟨#[88]⟩]:List Str).map V.str))
  (q2:∀ H,SqT K H t2 (([⟨#[78,65,77,69]⟩]:List Str).map V.str))
  (q3:∀ H,SqT K H t3 (([⟨#[78,65,77,69]⟩,⟨#[88]⟩]:List Str).map V.str))
  (q4:∀ H,SqT K H t4 (([⟨#[78,65,77,69]⟩,⟨#[88]⟩]:List Str).map V.str))
  (q5:∀ H,SqT K H t5 (([⟨#[78,65,77,69]⟩,⟨#[88]⟩]:List Str).map V.str))
  (q6:∀ H,SqT K H t6 (([⟨#[78,65,77,69]⟩,⟨#[88]⟩]:List Str).map V.str))
  (q7:∀ H,SqT K H t7 (([⟨#[78,65,77,69]⟩,⟨#[75]⟩]:List Str).map V.str))
  (q8:∀ H,SqT K H t8 (([⟨#[78,65,77,69]⟩]:List Str).map V.str))
  (q9:∀ H,SqT K H t9 (([⟨#[82]⟩,⟨#[80]⟩]:List Str).map V.str))
  : FmOk K w mg:=by
 refine ⟨a,_,YaE X G e,d,?_⟩;rw [Zmx];exact ⟨rfl,q0,rfl,q1,rfl,q2,rfl,q3,rfl,q4,rfl,q5,rfl,q6,rfl,q7,rfl,q8,rfl,q9,True.intro⟩
structure DkM (K:Yab) (mg:Str->Option Value) (C:Addr):Prop where
 c:DkK K C
 gl:mg "Desk" = some (.ref C)
 mks:PySem.W.makesIn K C=true
 kp:PySem.W.keepIn K (.ref C)=true
theorem Zq9 {K:Yab}{h:Heap}{mg:Str->Option Value}{C:Addr} (X:K.In h) (G:h.Ns mainGlobals mg) (aC:PySem.W.nsIn K mainGlobals "Desk" = some (some (.ref C)))
  (pg:PySem.W.plainGet K C Str.empty=true) (hd:PySem.W.hasDictIn K C=true) (po:PySem.W.plainOver K C=true) (sa:PySem.W.findIn K (.ref C) "__setattr__" = some (some (.builtin "object.__setattr__"))) (mk:PySem.W.makesIn K C=true) (kc:PySem.W.keepIn K (.ref C)=true)
  (n1:PySem.W.findIn K (.ref C) "tables" = some none):DkM K mg C:=⟨⟨⟨pg,hd,po,sa⟩,n1⟩,YaE X G aC,mk,kc⟩
theorem ZoG:lowS=⟨#[97,98,99,100,101,102,103,104,105,106,107,108,109,110,111,112,113,114,115,116,117,118,119,120,121,122]⟩:=by decide +kernel
theorem Zra {K:Yab}{h:Heap}{mg:Str->Option Value}{t1 t2 t3 t4:Tok} (X:K.In h) (G:h.Ns mainGlobals mg) (e1:PySem.W.nsIn K mainGlobals "SMALL_LETTERS" = some (some (.str ⟨#[97,98,99,100,101,102,103,104,105,106,107,108,109,110,111,112,113,114,115,116,117,118,119,120,121,122]⟩ t1))) (e2:PySem.W.nsIn K mainGlobals "MOST_LETTERS" = some (some (.int 8 t2))) (e3:PySem.W.nsIn K mainGlobals "MOST_FIGURES_OF_COUNT" = some (some (.int 2 t3))) (e4:PySem.W.nsIn K mainGlobals "MOST_FIGURES_OF_NUMBER" = some (some (.int 9 t4))):DkC mg :=
 ⟨⟨t1,by rw [ZoG];exact YaE X G e1⟩,⟨_,YaE X G e2⟩,⟨_,YaE X G e3⟩,⟨_,YaE X G e4⟩⟩
theorem Zmj:Mono Zlu:=λvs H Q Q' E i ⟨x,rows,h1,h2,h3,h4,q⟩=>⟨x,rows,h1,h2,h3,h4,λt prs H' a b c d e=>i _ _ (q t prs H' a b c d e)⟩
theorem ZoB {sp sp':Sp} (h:Mono sp) (h':Mono sp'):Mono (λvs H Q E=>sp vs H Q E\/sp' vs H Q E):=λvs H Q Q' E i z=>z.elim (λy=>.inl (h vs H Q Q' E i y)) λy=>.inr (h' vs H Q Q' E i y)
theorem ZoA {c:Addr}:Mono (Zg2 c):=λvs H Q Q' E i z=>z
theorem Zoz {c:Addr}:Mono (Zg1 c):=λvs H Q Q' E i z=>z
theorem Zkc {c:Addr}{sp:Sp} (h:Mono sp):Mono (spRS c sp):=λvs H Q Q' E i ⟨x,h1,h2,z⟩=>⟨x,h1,h2,z.elim .inl λ⟨a,b⟩=>.inr ⟨a,h _ _ Q Q' _ i b⟩⟩
open PySem L2 PyProof.Rows
theorem Zrg {l:PySem.W.OpenLaw}{w:World}{K:Yab}{mg:Str->Option Value}{fa C D S a0 a1 a2 a3 a4 a5 a6 a7 a8 a9 a10 a11:Addr} (hfa:mg "law" = some (.ref fa)) (T:Blt mg) (h_tuple:mg "tuple" = none) (h_reversed:mg "reversed" = none) (h_zip:mg "zip" = none) (h_min:mg "min" = none) (h_str:mg "str" = none) (h_sorted:mg "sorted" = none) (h_sum:mg "sum" = none) (h_ValueError:mg "ValueError" = none) (h_fig:∃ t,mg "FIGURES" = some (.str figS t)) (N:Nms mg S [a0,a1,a2,a3,a4,a5,a6,a7,a8,a9,a10,a11]) (kS:ExcK K S) (E1:Err K S [a0,a1,a2,a3,a4,a5,a6,a7,a8,a9,a10,a11] 1 a1) (E3:Err K S [a0,a1,a2,a3,a4,a5,a6,a7,a8,a9,a10,a11] 3 a3) (E6:Err K S [a0,a1,a2,a3,a4,a5,a6,a7,a8,a9,a10,a11] 6 a6) (E7:Err K S [a0,a1,a2,a3,a4,a5,a6,a7,a8,a9,a10,a11] 7 a7) (E9:Err K S [a0,a1,a2,a3,a4,a5,a6,a7,a8,a9,a10,a11] 9 a9) (E10:Err K S [a0,a1,a2,a3,a4,a5,a6,a7,a8,a9,a10,a11] 10 a10) (E11:Err K S [a0,a1,a2,a3,a4,a5,a6,a7,a8,a9,a10,a11] 11 a11) (zK:RkM K mg C) (zD:DkM K mg D) (zF:FmOk K w mg) (zC:DkC mg)
  (o_init:ZaA K D "__init__" "Desk.__init__" (ZaC Zb2 0) ["self"])
  (o_names:ZaA K D "names" "Desk.names" (ZaC Zb2 1) ["self"])
  (o_say:ZaA K D "say" "Desk.say" (ZaC Zb2 2) ["self","row"])
  (o_say_of_table:ZaA K D "say_of_table" "Desk.say_of_table" (ZaC Zb2 3) ["self","words"])
  (m_init:ZaA K C "__init__" "Reckoning.__init__" (ZaC Zat 0) ["self","r","p"])
  (m_left_between:ZaA K C "left_between" "Reckoning.left_between" (ZaC Zat 1) ["self","low","high"])
  (m_fewest:ZaA K C "fewest" "Reckoning.fewest" (ZaC Zat 2) ["self","left"])
  (m_looks_at:ZaA K C "looks_at" "Reckoning.looks_at" (ZaC Zat 3) ["self","left"])
  (m_fewest_through:ZaA K C "fewest_through" "Reckoning.fewest_through" (ZaC Zat 4) ["self","left","look"])
  (d_is_whole:Zak K mg "is_whole" ZeV ["thing"])
  (d_all_whole:Zak K mg "all_whole" ZbM ["things"])
  (d_never_falls:Zak K mg "never_falls" ZbT ["numbers"])
  (d_is_row:Zak K mg "is_row" ZkU ["thing"])
  (d_has_table_shape:Zak K mg "has_table_shape" ZfU ["thing"])
  (d_numbers_at_place:Zak K mg "numbers_at_place" Zdm ["table","place"])
  (d_is_sorted_both_ways:Zak K mg "is_sorted_both_ways" ZdQ ["table"])
  (d_is_table:Zak K mg "is_table" ZeW ["thing"])
  (d_is_cell_of_size:Zak K mg "is_cell_of_size" Ze1 ["rows","places","thing"])
  (d_is_cell:Zak K mg "is_cell" ZeY ["table","thing"])
  (d_need_table:Zak K mg "need_table" Zc0 ["thing"])
  (d_need_cell:Zak K mg "need_cell" ZcO ["table","thing"])
  (d_need_number:Zak K mg "need_number" ZcB ["thing"])
  (d_cells_of:Zak K mg "cells_of" ZhO ["table","x"])
  (d_how_many_less:Zak K mg "how_many_less" ZmD ["row","x"])
  (d_stair_of:Zak K mg "stair_of" ZhN ["table","x"])
  (d_is_stair:Zak K mg "is_stair" Zdk ["thing","rows","places"])
  (d_how_many_cells:Zak K mg "how_many_cells" Zo0 ["table"])
  (d_merged:Zak K mg "merged" ZeU ["table"])
  (d_need_place:Zak K mg "need_place" Zci ["table","thing"])
  (d_number_by:Zak K mg "number_by" ZcN ["table","k"])
  (d_count_less:Zak K mg "count_less" ZkV ["table","x"])
  (d_copy_of:Zak K mg "copy_of" ZeZ ["table"])
  (d_table_with:Zak K mg "table_with" ZoY ["table","cell","x"])
  (d_changed_table:Zak K mg "changed_table" Ze0 ["table","cell","x"])
  (d_is_side:Zak K mg "is_side" ZdS ["thing"])
  (d_need_size:Zak K mg "need_size" Zcb ["r","p"])
  (d_is_at_no_row_above:Zak K mg "is_at_no_row_above" ZhP ["low","high"])
  (d_need_stairs:Zak K mg "need_stairs" ZcA ["r","p","low","high"])
  (d_is_left_open:Zak K mg "is_left_open" ZdR ["low","high","cell"])
  (d_bits_of_cells:Zak K mg "bits_of_cells" ZgF ["r","p"])
  (d_left_by_less:Zak K mg "left_by_less" Ze2 ["bits","cell"])
  (d_left_by_greater:Zak K mg "left_by_greater" ZmE ["bits","cell"])
  (d_looks_left:Zak K mg "looks_left" Zc1 ["r","p","low","high"])
  (d_fewest_looks:Zak K mg "fewest_looks" ZdT ["r","p"])
  (d_writes_count:Zak K mg "writes_count" ZeS ["word"])
  (d_writes_number:Zak K mg "writes_number" ZeR ["word"])
  (d_show_row:Zak K mg "show_row" Zdj ["row"])
  (d_show_table:Zak K mg "show_table" Zcg ["table"])
  (d_read_row:Zak K mg "read_row" ZbR ["line"])
  (d_read_table:Zak K mg "read_table" Zbd ["text"])
  (d_walk_for:Zak K mg "walk_for" ZoZ ["table","x"])
  (d_is_name:Zak K mg "is_name" ZeX ["word"])
  (d_is_short_count:Zak K mg "is_short_count" dShC ["word"])
  (d_is_short_number:Zak K mg "is_short_number" dShN ["word"])
  (d_is_written_as:Zak K mg "is_written_as" ZoX ["kind","word"])
  (d_split_row:Zak K mg "split_row" ZdP ["row"])
  (d_has_form:Zak K mg "has_form" Zdl ["words"])
  (d_words_of:Zak K mg "words_of" Zdi ["row"])
  (d_read_slashed:Zak K mg "read_slashed" ZeT ["text"])
  (d_show_cells:Zak K mg "show_cells" Zch ["cells"])
  (d_show_found:Zak K mg "show_found" ZcZ ["cells"])
  (d_answer_of:Zak K mg "answer_of" Ze3 ["table","first","x"])
  (d__law_cell:Zak K mg "_law_cell" ZkT ["script","k"])
  (d__law_said:Zak K mg "_law_said" ZkS ["desk","row"])
  (d__law_none:Zak K mg "_law_none" ZgE [])
  (d__law_others:Zak K mg "_law_others" ZbS [])
  (d__law_spoilt:Zak K mg "_law_spoilt" Zcz ["cell"])
  (d_law:Zak K mg "law" dLaw ["script"])
  : ∃ fd:FuncData,(∀ (s:Shared) (v:Value),BindsTo s fd ⟨[v],[]⟩ [("script",v)])/\∀ base:Heap,K.In base->base.Ns mainGlobals mg->FnOk l.prog w K mg base CX0 60 fa fd ["script"] (Zlx K):=by
 obtain ⟨f,fd,F,hm,hb⟩:=d_law;have e:=hfa.symm.trans hm;cases e;refine ⟨fd,?_,λbase _ _=>?_⟩
 ·obtain ⟨oc,od,kV,doc,pm,an,cdv,ct,osl,rfl,lk,hcd⟩:=F.ex;exact λs v=>.of_eq rfl
 ·have g_is_whole:=Zih (P:=l.prog) (w:=w) (base:=base) T d_is_whole;have g_all_whole:=Zgu T d_all_whole g_is_whole;have g_allT:=ZfB T d_all_whole g_is_whole;have g_never_falls:=ZrP (P:=l.prog) (w:=w) (base:=base) T d_never_falls;have g_is_row:=Zmb T d_is_row g_all_whole;have g_has_table_shape:=Zl6 T d_has_table_shape g_is_row;have g_numbers_at_place:=Zil (P:=l.prog) (w:=w) (base:=base) d_numbers_at_place;have g_is_sorted_both_ways:=ZjK T d_is_sorted_both_ways g_never_falls g_numbers_at_place;have g_is_table:=Zii d_is_table g_has_table_shape g_is_sorted_both_ways;have g_is_cell_of_size:=ZjW T h_tuple d_is_cell_of_size g_allT;have g_szX:=Zqg T h_tuple d_is_cell_of_size g_allT;have g_is_cell:=ZjR T d_is_cell g_is_cell_of_size;have g_isCX:=Zop T d_is_cell g_szX;have g_need_table:=Zfx d_need_table g_is_table;have g_need_cell:=Zgt d_need_cell g_is_cell;have g_ncX:=Zqn E1.k N.n1 d_need_cell g_isCX;have g_need_number:=ZeA d_need_number g_is_whole;have g_cells_of:=Zme T d_cells_of g_need_table g_need_number;have g_how_many_less:=Zoo (P:=l.prog) (w:=w) (base:=base) T d_how_many_less;have g_stair_of:=Zl3 d_stair_of g_need_table g_need_number g_how_many_less;have g_is_stair:=Zij T h_reversed d_is_stair g_all_whole g_never_falls;have g_how_many_cells:=Zon (P:=l.prog) (w:=w) (base:=base) T d_how_many_cells;have g_merged:=ZjO T h_sorted d_merged g_need_table;have g_need_place:=Zfy d_need_place g_is_whole g_how_many_cells;have g_plX:=Zql E6.k N.n6 d_need_place g_is_whole g_how_many_cells;have g_number_by:=Zgr d_number_by g_need_table g_need_place g_merged;have g_nbX:=Zqo d_number_by g_need_table g_plX;have g_count_less:=Zmd h_sum d_count_less g_stair_of;have g_copy_of:=ZjV (P:=l.prog) (w:=w) (base:=base) T d_copy_of;have g_table_with:=Zod d_table_with g_copy_of;have g_changed_table:=Zqs E7.k N.n7 d_changed_table g_need_cell g_ncX g_need_number g_table_with g_is_table;have g_is_side:=ZjP T d_is_side g_is_whole;have g_sideN:=Zl5 T d_is_side g_is_whole;have g_need_size:=Zgs d_need_size g_is_side;have g_nsX:=Zqm E3.k N.n3 d_need_size g_sideN;have g_is_at_no_row_above:=Zmf (P:=l.prog) (w:=w) (base:=base) T h_zip d_is_at_no_row_above;have g_need_stairs:=Zez d_need_stairs g_is_stair g_is_at_no_row_above;have g_is_left_open:=ZfA (P:=l.prog) (w:=w) (base:=base) d_is_left_open;have g_bits_of_cells:=ZjY (P:=l.prog) (w:=w) (base:=base) T d_bits_of_cells;have g_left_by_less:=ZjX (P:=l.prog) (w:=w) (base:=base) h_sum d_left_by_less;have g_left_by_greater:=Zoq (P:=l.prog) (w:=w) (base:=base) h_sum d_left_by_greater;have g_rInit:=Zl7 zK.c m_init g_bits_of_cells g_left_by_less g_left_by_greater;have g_leftB:=Zl9 h_sum zK.c m_left_between g_is_left_open;have g_looksAt:=Zig (P:=l.prog) (w:=w) (base:=base) (mg:=mg) zK.c m_looks_at;have g_fewest:=ZjT T h_min zK.c m_fewest m_fewest_through g_looksAt;have g_looks_left:=Zfz zK d_looks_left g_need_size g_need_stairs g_rInit g_leftB g_fewest;have g_fewest_looks:=Zik d_fewest_looks g_need_size g_looks_left;have g_fwX:=Zqr d_fewest_looks g_nsX;have g_fw:=ZrR g_fewest_looks g_fwX;have g_writes_count:=Zie (P:=l.prog) (w:=w) (base:=base) T h_fig d_writes_count;have g_writes_number:=Zgn d_writes_number g_writes_count;have g_show_row:=Zif (P:=l.prog) (w:=w) (base:=base) h_str d_show_row;have g_show_table:=Zfw d_show_table g_need_table g_show_row;have g_read_row:=Zgq T d_read_row g_writes_number;have g_rrX:=Zgp T E9.k N.n9 d_read_row g_writes_number;have g_read_table:=Zey T h_str d_read_table g_read_row g_is_table;have g_rtX2:=Zd1 T h_str E9.k N.n9 d_read_table g_read_row g_rrX;have g_rtX3:=Zd0 T h_str E9.k N.n9 d_read_table g_read_row g_is_table;have g_walk_for:=Zoe T d_walk_for g_need_table g_need_number;have g_is_name:=ZjQ (P:=l.prog) (w:=w) (base:=base) T zC d_is_name;have g_is_short_count:=Zqj T zC d_is_short_count g_writes_count;have g_is_short_number:=Zqi T zC d_is_short_number g_writes_number;have g_is_written_as:=Zoc d_is_written_as g_is_name g_is_short_number g_is_short_count;have g_split_row:=Zl4 (P:=l.prog) (w:=w) (base:=base) d_split_row;have g_has_form:=ZrQ T h_zip zF d_has_form g_is_written_as;have g_words_of:=ZrO T h_str d_words_of g_split_row g_has_form;have g_woX:=Zqf T h_str E11.k N.n11 d_words_of g_split_row g_has_form;have g_read_slashed:=Zqk E9.k N.n9 d_read_slashed g_read_table.toX;have g_rsX:=Zqk E9.k N.n9 d_read_slashed (g_rtX2.or g_rtX3);have g_show_cells:=Zoh (P:=l.prog) (w:=w) (base:=base) d_show_cells;have g_show_found:=Zqh d_show_found g_show_cells;have g_answer_of:=Zqt h_str d_answer_of g_show_found g_cells_of g_show_row g_stair_of g_show_cells g_walk_for g_count_less g_number_by;have g_ansX:=Zor h_str d_answer_of g_nbX;have g_dInit:=Zmc (P:=l.prog) (w:=w) (base:=base) (mg:=mg) zD.c o_init;have g_names:=Zl8 (P:=l.prog) (w:=w) (base:=base) h_sorted zD.c o_names;have g_sot1:=Zog zD.c o_say_of_table g_show_table;have g_sot2:=ZjJ T zD.c o_say_of_table g_answer_of.toX;have g_sot2X:=ZjJ T zD.c o_say_of_table g_ansX;have g_sot3:=Zof T zD.c o_say_of_table g_changed_table;have g_say1:=Zoj o_say g_woX;have g_say2:=Zoi zD.c E10.k N.n10 o_say g_words_of;have g_say3X:=Zgo zD.c o_say g_words_of (g_sot3.or g_sot2X);have g_say4X:=ZjM T h_str o_say g_words_of (g_fwX.mono (by decide));have g_say5X:=ZjL (Zkc (ZoB ZoA Zoz)) zD.c o_say g_words_of g_rsX;have g_sayX:MtAtX l.prog w K mg base 38 D "say" ["self","row"] (ZbX D [a0,a1,a2,a3,a4,a5,a6,a7,a8,a9,a10,a11]):=g_say1.or (g_say2.or (g_say3X.or (g_say4X.or g_say5X)));have g_sayShow:=Zgo zD.c o_say g_words_of g_sot1;have g_sayPut:=ZjL (Zkc Zmj) zD.c o_say g_words_of g_read_slashed;have g_sayG:=(Zgo zD.c o_say g_words_of g_sot2).or (ZjM T h_str o_say g_words_of g_fw);have g__law_cell:=Zma (P:=l.prog) (w:=w) (base:=base) T d__law_cell;have g__law_said:=Zok T h_ValueError N kS zD.c (λj hj=>match j,hj with | 0,_=>E1 | 1,_=>E7 | 2,_=>E10 | 3,_=>E6 | 4,_=>E11 | 5,_=>E3 | 6,_=>E9) d__law_said g_sayX;have g__law_none:=Zol (P:=l.prog) (w:=w) (base:=base) d__law_none;have g__law_others:=ZjN (P:=l.prog) (w:=w) (base:=base) d__law_others;have g__law_spoilt:=ZjI (P:=l.prog) (w:=w) (base:=base) T d__law_spoilt;exact FnOk.mono (Zqp T h_min zD.c zD.mks zD.kp zD.gl F g_dInit g_names g_sayPut g_sayShow g_sayG g__law_cell g__law_spoilt g__law_said g__law_none g__law_others) (by decide)
end Seek
namespace PySem.W.Fast
def tw16437729861808443880:=()
def tw18135212546847734519:=()
def tw13898001029432637362:=()
def tw9618533026943752757:=()
def tw3128277750361419262:=()
def tw2605763585588583116:=()
def tw9101140362548163188:=()
def tw121406276078401195:=()
def tw14280006612066350702:=()
def tw8012235361204339009:=()
def tw8051981720159959227:=()
def tw9189279796850100681:=()
def tw6643627154027313300:=()
def tw2998731132951407655:=()
def tw8489623104291183956:=()
def tw8638266195291477318:=()
def tw857130571137923381:=()
def tw18042457851145871651:=()
def tw2041486797867953898:=()
def tw17027315381148112363:=()
def tw15594578551647862327:=()
def tw5641701741315396501:=()
def tw15457749082468943987:=()
def tw6298904460302604475:=()
def tw6923044053828521840:=()
def tw10885656624947036649:=()
def tw300071876233703091:=()
def tw5379499434013028307:=()
def tw13664245313397187412:=()
def tw16757921759079499859:=()
def tw17576335903393107990:=()
def tw13131942677915624341:=()
def tw10805396357942846178:=()
def tw17526662020983064204:=()
def tw6852606042544456537:=()
def tw18168852174971680814:=()
def tw6500990477060305850:=()
def tw8854283409853618144:=()
def tw11801177725323421286:=()
def tw8429025664732681201:=()
def tw16848312212423224550:=()
def tw10757131789088735908:=()
def tw9059047569228241442:=()
def tw1515795809808965493:=()
def tw17119943693145539093:=()
def tw4644447023776951512:=()
def tw1341381379331755043:=()
def tw15705723896326593895:=()
def tw14637602812082399925:=()
def tw1388651957194921485:=()
def tw14778753217434459390:=()
def tw540940766029933601:=()
def tw7255066637547874516:=()
def tw17538541362233994834:=()
def tw5124272371401182013:=()
def tw9659552482852121278:=()
def tw7002948097927382565:=()
def tw6916661837033149221:=()
def tw17636873001116252132:=()
def tw8821346914376908364:=()
def tw1662167366129252509:=()
def tw9222070967676124855:=()
def tw10187110704478677512:=()
def tw14596310212404655033:=()
def tw2621993097700233852:=()
def tw17276624907205097328:=()
def tw10593945783889460561:=()
def tw2125474283875473377:=()
def tw15118226798310720338:=()
def tw15933158864707336650:=()
def tw10907593742880215391:=()
def tw12440065723223027100:=()
def tw2659514450572624422:=()
def tw8425530339730772696:=()
def tw14741274941134446505:=()
def tw14004399812502547721:=()
def tw5317073446861590983:=()
def tw12674836073794584608:=()
def tw220854423545918206:=()
def tw1450063033416700591:=()
def tw8892378323284831490:=()
def tw15063285604919941347:=()
def tw13881377816193988470:=()
def tw6208044330708490620:=()
def tw12437804495873685207:=()
def tw532426935412229207:=()
def tw16669912644205240903:=()
def tw17777304115232281839:=()
def tw5804656050533204913:=()
def tw687370138003088682:=()
def tw11776703648645959386:=()
def tw13357163074045892592:=()
def tw15362307211574849540:=()
def tw4934312740240596197:=()
def tw17418206565173407308:=()
def tw13089946991721821196:=()
def tw9352360607816508704:=()
end PySem.W.Fast
open PySem PySem.W PyProof.Rows
theorem PySem.Challenge.cw_stairseek_k37_rows_that_are_none_holds : PySem.Challenge.rw_stairseek_k37_rows_that_are_none.Holds := by
 w_on;o_law;k_head;(case hw=>w_witness2)
 k_fill
 refine Seek.walk (l:=PySem.Challenge.rw_stairseek_k37_rows_that_are_none) rfl rfl (λw h Y=>PySem.W.kIn_of Y) ?F
 case F =>
  intro w mg fa h KX G hmg
  refine' Seek.Zrg hmg ?T ?_ ?_ ?_ ?_ ?_ ?_ ?_ ?_ ?x_fig ?zN ?zS ?_ ?_ ?_ ?_ ?_ ?_ ?_ ?zK ?zD ?zF ?zC ?_ ?_ ?_ ?_ ?_ ?_ ?_ ?_ ?_ ?_ ?_ ?_ ?_ ?_ ?_ ?_ ?_ ?_ ?_ ?_ ?_ ?_ ?_ ?_ ?_ ?_ ?_ ?_ ?_ ?_ ?_ ?_ ?_ ?_ ?_ ?_ ?_ ?_ ?_ ?_ ?_ ?_ ?_ ?_ ?_ ?_ ?_ ?_ ?_ ?_ ?_ ?_ ?_ ?_ ?_ ?_ ?_ ?_ ?_ ?_ ?_ ?_ ?_ ?_ ?_ ?_ ?_ ?_
  case T =>
   refine' Seek.Zrf KX G ?e1 ?e2 ?e3 ?e4 ?e5 ?e6 ?e7 ?e8 ?e9 ?e10 ?e11 ?e12 ?e13
   (case e1=>k_is);(case e2=>k_is);(case e3=>k_is);(case e4=>k_is);(case e5=>k_is);(case e6=>k_is);(case e7=>k_is);(case e8=>k_is);(case e9=>k_is);(case e10=>k_is);(case e11=>k_is);(case e12=>k_is);(case e13=>k_is)
  case x_fig =>
   refine' Seek.ZqZ KX G ?e
   (case e=>k_is)
  case zN =>
   refine' Seek.ZqC KX G ?e ?e0 ?e1 ?e2 ?e3 ?e4 ?e5 ?e6 ?e7 ?e8 ?e9 ?e10 ?e11
   (case e=>k_is);(case e0=>k_is);(case e1=>k_is);(case e2=>k_is);(case e3=>k_is);(case e4=>k_is);(case e5=>k_is);(case e6=>k_is);(case e7=>k_is);(case e8=>k_is);(case e9=>k_is);(case e10=>k_is);(case e11=>k_is)
  case zS =>
   refine' L2.ExcK.mk ?exc ?ga ?gt ?cl ?ob ?bx
   (case exc=>k_exc);(case ga=>k_is);(case gt=>k_is);(case cl=>k_is);(case ob=>k_is);(case bx=>k_is)
  case zK =>
   refine' Seek.ZpQ KX G ?aC ?pg ?hd ?po ?sa ?mk ?kc ?n1 ?n2 ?n3
   (case aC=>k_is);(case pg=>k_is);(case hd=>k_is);(case po=>k_is);(case sa=>k_is);(case mk=>k_is);(case kc=>k_is);(case n1=>k_is);(case n2=>k_is);(case n3=>k_is)
  case zD =>
   refine' Seek.Zq9 KX G ?aC ?pg ?hd ?po ?sa ?mk ?kc ?n1
   (case aC=>k_is);(case pg=>k_is);(case hd=>k_is);(case po=>k_is);(case sa=>k_is);(case mk=>k_is);(case kc=>k_is);(case n1=>k_is)
  case zF =>
   refine' Seek.Zr5 KX G ?e (Seek.Zpf ?l ?k ?lo ?b) (Seek.Zcn ?l0 ?c0 ?d0 ?z0 ?v0) (Seek.Zcn ?l1 ?c1 ?d1 ?z1 ?v1) (Seek.Zcn ?l2 ?c2 ?d2 ?z2 ?v2) (Seek.Zcn ?l3 ?c3 ?d3 ?z3 ?v3) (Seek.Zcn ?l4 ?c4 ?d4 ?z4 ?v4) (Seek.Zcn ?l5 ?c5 ?d5 ?z5 ?v5) (Seek.Zcn ?l6 ?c6 ?d6 ?z6 ?v6) (Seek.Zcn ?l7 ?c7 ?d7 ?z7 ?v7) (Seek.Zcn ?l8 ?c8 ?d8 ?z8 ?v8) (Seek.Zcn ?l9 ?c9 ?d9 ?z9 ?v9)
   (case e=>k_is);(case l=>k_is);(case k=>k_keys);(case lo=>decide);(case b=>exact ⟨⟨_,rfl⟩,rfl,⟨_,rfl⟩,rfl,⟨_,rfl⟩,rfl,⟨_,rfl⟩,rfl,⟨_,rfl⟩,rfl,⟨_,rfl⟩,rfl,⟨_,rfl⟩,rfl,⟨_,rfl⟩,rfl,⟨_,rfl⟩,rfl,⟨_,rfl⟩,rfl,True.intro⟩)
   (case l0=>k_is);(case c0=>rfl);(case d0=>rfl);(case z0=>decide);(case v0=>exact ⟨⟨_,rfl⟩,⟨_,rfl⟩,True.intro⟩)
   (case l1=>k_is);(case c1=>rfl);(case d1=>rfl);(case z1=>decide);(case v1=>exact ⟨⟨_,rfl⟩,⟨_,rfl⟩,⟨_,rfl⟩,⟨_,rfl⟩,True.intro⟩)
   (case l2=>k_is);(case c2=>rfl);(case d2=>rfl);(case z2=>decide);(case v2=>exact ⟨⟨_,rfl⟩,True.intro⟩)
   (case l3=>k_is);(case c3=>rfl);(case d3=>rfl);(case z3=>decide);(case v3=>exact ⟨⟨_,rfl⟩,⟨_,rfl⟩,True.intro⟩)
   (case l4=>k_is);(case c4=>rfl);(case d4=>rfl);(case z4=>decide);(case v4=>exact ⟨⟨_,rfl⟩,⟨_,rfl⟩,True.intro⟩)
   (case l5=>k_is);(case c5=>rfl);(case d5=>rfl);(case z5=>decide);(case v5=>exact ⟨⟨_,rfl⟩,⟨_,rfl⟩,True.intro⟩)
   (case l6=>k_is);(case c6=>rfl);(case d6=>rfl);(case z6=>decide);(case v6=>exact ⟨⟨_,rfl⟩,⟨_,rfl⟩,True.intro⟩)
   (case l7=>k_is);(case c7=>rfl);(case d7=>rfl);(case z7=>decide);(case v7=>exact ⟨⟨_,rfl⟩,⟨_,rfl⟩,True.intro⟩)
   (case l8=>k_is);(case c8=>rfl);(case d8=>rfl);(case z8=>decide);(case v8=>exact ⟨⟨_,rfl⟩,True.intro⟩)
   (case l9=>k_is);(case c9=>rfl);(case d9=>rfl);(case z9=>decide);(case v9=>exact ⟨⟨_,rfl⟩,⟨_,rfl⟩,True.intro⟩)
  case zC =>
   refine' Seek.Zra KX G ?e1 ?e2 ?e3 ?e4
   (case e1=>k_is);(case e2=>k_is);(case e3=>k_is);(case e4=>k_is)
  all_goals first
   | (refine' Seek.ZmC KX G ?a ?l ?c ?k ?b;(case a=>k_is);(case l=>k_is);(case c=>k_is);(case k=>k_is);(case b=>first | (exact λ_ _ _ _ _ _ us hl=>match us,hl with | [],_=>rfl) | (exact λ_ _ _ _ _ _ us hl=>match us,hl with | [_],_=>rfl) | (exact λ_ _ _ _ _ _ us hl=>match us,hl with | [_,_],_=>rfl) | (exact λ_ _ _ _ _ _ us hl=>match us,hl with | [_,_,_],_=>rfl) | (exact λ_ _ _ _ _ _ us hl=>match us,hl with | [_,_,_,_],_=>rfl)))
   | (refine' PySem.W.mg_none_of KX G ?e;(case e=>k_is))
   | (refine' L2.Zin ?a ?i ?l ?c ?k ?b;(case a=>k_is);(case i=>k_is);(case l=>k_is);(case c=>k_is);(case k=>k_is);(case b=>first | (exact λ_ _ _ _ _ _ us hl=>match us,hl with | [],_=>rfl) | (exact λ_ _ _ _ _ _ us hl=>match us,hl with | [_],_=>rfl) | (exact λ_ _ _ _ _ _ us hl=>match us,hl with | [_,_],_=>rfl) | (exact λ_ _ _ _ _ _ us hl=>match us,hl with | [_,_,_],_=>rfl) | (exact λ_ _ _ _ _ _ us hl=>match us,hl with | [_,_,_,_],_=>rfl)))
   | (refine' Seek.Zq4 (L2.ExcK.mk ?exc ?ga ?gt ?cl ?ob ?bx) ?sk ?kv ?k0 ?k1 ?k2 ?k3 ?k4 ?k5 ?k6 ?k7 ?k8 ?k9 ?k10 ?k11;(case exc=>k_exc);(case ga=>k_is);(case gt=>k_is);(case cl=>k_is);(case ob=>k_is);(case bx=>k_is);(case sk=>k_is);(case kv=>kit_is);(case k0=>kit_is);(case k1=>kit_is);(case k2=>kit_is);(case k3=>kit_is);(case k4=>kit_is);(case k5=>kit_is);(case k6=>kit_is);(case k7=>kit_is);(case k8=>kit_is);(case k9=>kit_is);(case k10=>kit_is);(case k11=>kit_is))