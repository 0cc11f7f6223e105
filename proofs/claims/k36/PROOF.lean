import PyProof.Rows.All
import Wide.All
import OpenK.AllK
import Wide.FinOn
import Lean
import PyProof.EqAt
import PyProof.EqKinds
import PyProof.TupleCall
import PySem.Challenge.RW_stairseek_k36_rows_of_a_desk
set_option Elab.async false
set_option linter.all false
set_option maxRecDepth 100000
set_option maxHeartbeats 0
open Lean in
def Qk(m:Name):List String:=match m with
 |.str .anonymous s=>
  let c:=(s.toList.headD 'a').toNat
  if c<192||c>383 then [] else
  let t:=match (c-192)/16 with
  |0=>"
À 
Á fao D 0 vs H Q E h ? %5 f gv A ou s H vs Q E hr h ? %11 /4
Â 
Ã some 0 /1
Ä FnAt P w K mg base 0 1 2 3 /9
Å f gv A ou s H vs Q E hr h ? %11
Æ List 0 /1
Ç 
È 
É Inv X pins σ 0 1 /5
Ê .ref 0 /1
Ë wpAny model X.prog X.w /2 X.A 0 1 X.xe 2 /6
Ì WU 0 1 ZJ 2 /1 3 rfl 4 Â _ _ _ _ _ 5 %5 _ _ _ _ _ 6 %5 _ _ _ _ _ 7 %5 /10
Í 
Î .bl decide 0 kdL.getD j #0 /2 != /1 /1
Ï upd 0 1 .lst 2 /1 /3
Àa ç 0 /1 H' 1 /1 Ù 2 /1 != Ŕ 1 H' /2 !-> !->
Áa FnOk X.prog X.w X.K X.mg X.base CX k f fd ps sp /11
Âa MtAtX P w K mg base #10 C ~say_of_table ~self ~words [2 0 /10
Ãa 0 H I.tok _ /1 Ņ Z /1 q <5
Äa PySem.W.kia_one 0 I.kIn 1 e z 2 %1 h /6
Åa pe_t XI T.int boot_int pa1 pix ZY ó ZB /3 /1 /4
Æa ns.map V.int /1
Ça compEnvC scope cl P2.objs.size X.env /4
Èa U2 0 WV #0 /1 1 te σ0 H1 Q /7
Éa Calls.callWith_builtin 0 Calls.evalArgs_plain 1 /1 /2
Êa pix ZY ó ZB /3
Ëa hb pins s1 σ H1 0 I1 q1 /7
Ìa _ Z _ _ Z Z _ Z 0 <9
Ía IJ 0 j V.int Ý #2 j !^ /1 /1 %1 1 2 j ks v b hj H1 s1 hb H2 Q2 s2 q2 ? %12 j ks v b hj H1 s1 hb H2 Q2 s2 q2 ? %12 D H' hD sm hDl ? %5 /7
Îa forIn l 0 StrLaws.occBody s sub hi 1 /4 /3
Ïa 0 NameKind.free !== env.scope.kind .function !== !&& env.kindOf n /1 Ã .cell /1 !== !&&
Àb _ Z _ _ Z Z 0 _ _ Z Z Ç Z _ Z ite2 _ ? %1 _ 1 %1 /2 <16
Áb ZT.mp 0 /1
Âb ċ Key V /2
Ãb lessN x p ^2 /2
Äb x y H Q 0 %4
Åb E Ê 0 /1 none H' /3
Æb FnAtX.of D 0 ę Å /4
Çb û CX0 0 1 ZJ 2 /1 3 4 /6 ^nox
Èb SqL K H 0 1 /4
Éb û 0 N qual scope 1 outer /6
Êb ô Ý fw 0 W3 1 m /2 /2 /1 /1
Ëb UD prs x prs.length /3
Ìb UH Ü rfl /2
Íb ĩ 0 /1 Value.none !== true !=
Îb Room 0 1 ^A /2
Ïb ~row [1
Àc List.mem_range.mp 0 /1
Ác I2.cell x c e2 x c e /3 /3
Âc b o e hsb1.extBut b o WF WT W8 e /1 hC /2 /1 WD _ 0 /2 /4 %3
Ãc i m σ H m 0 i !- != i 0 !≤ Pv i σ H /3 !∧ !∧ %4
Äc Ľ s2 /1
Åc Ļ ? /1
Æc Nat.le_succ _ /1
Çc x.cps.toList.takeWhile c c #45 !== %1 /1
Èc ha pos pins s σ H _ I h /8
Éc σ' H' p' 0 ůa !- À Z hlt p' <5 %3
Êc thn tkn 0 1 /2 2 /2
Ëc ń WT 0 1 /2 X1 _ /1 /2
Ìc I.sqT_ne hq hf 0 Í /2 /2
Íc 0 ^objs.size
Îc z ? %1
Ïc .dT kvs /1
Àd s1.extBut _ _ 0 1 /4
Ád I.base.keep b o e n hb hx /6
Âd .BoolOp 0 1 pos /3
Ãd ąa 0 /1 #32 [1 !++
Äd n σ H Q 0 %4
Åd ďa td σ H x H1 0 %2 /3 /1
Æd V.str 0 /1
Çd wpAny_isInstance 0 isSubtype_tuple_tuple ? /3
Èd MY lk hcd S len A outer s H vs Q E hr hsp 0 %9 /5
Éd K.In s.heap /1
Êd é ~read_table SA ~text [1 /3
Ëd ExcK K 0 /2
Ìd ūb 0 x H2 y ? %3 /2
Íd PySem.W.hasDictIn K C /2
Îd _ Z _ 0 _ _ Z 1 2 _ Z 3 <12
Ïd pln T Ü /2
Àe ő _ 0 Z /3
Áe Y6 K C ~left_between ~Reckoning.left_between WQ YW #1 /2 İb /6
Âe Ê C /1
Ãe _ Z _ Z t c prs i j Z hT hg hc hi hj H1 s1 şc Z x Z ? /4 %2 <16
Äe _ Z p _ #1 _ Z Z ťc 0 _ Z a C dx _ _ Z d1.ob kc.cls kc.nt Z d 1 Z g _ Z ? <29
Åe List.length_pos_iff.mpr 0 /1
Æe UE 0 1 2 U0 _ /1 /4
Çe 0 ^Nodup
Èe pix ZY 0 1 /3
Ée Àa H1 D 0 /3
Êe ū .bl 0 /1 /1
Ëe Inv 0 1 σ H s /5
Ìe i ys H' hi q 0 %5
Íe ZA Şb 0 rfl ? /3 /1
Îe Heap.get?_push_ne _ _ _ 0 /4
Ïe W i 0 ys σ' H' /5
"
  |1=>"
Ð lwX P w K mg base f gv A ou s H E /12
Ñ model X.prog X.w /2
Ò X.comp N' scope cl 0 s2 H2 1 /7
Ó .int 0 Nat : /1
Ô Or.inl rfl /1
Õ starEach 0 X.env /2
Ö _ _ _ _ _ 0 %5
Ø Str.ofString 0 /1
Ù Ã .lst 0 /1 /1
Ú Ã Ê 0 /1 /1
Û 
Ü pv #0 /1
Ý 0 Nat : Int :
Þ 0 Int :
ß pa1 pv 0 /1 /1
Ða ~self ~left [2
Ña Rk 0 C a dx db dl dk o p 1 qs 2 /12
Òa he pins s σ H _ I h /7
Óa b hb ? %2
Ôa Ġ pe_b NZ rfl /1 hsum boot_sum pa1 Ì ~other ~bits ~cell [3 none Ã #0 /1 Ã #1 /1 [3 0 ~bits ~cell [2 N9 Ü /1 ň X5 PW.pt U6 pcm 1 pix ixT K /1 Ü ZB /3 ü ixT K /1 #2 /2 /3 UO pcm 1 pix ixT K /1 Ü ZB /3 ü ixT K /1 #2 /2 /3 /1 /2 /1 /1 XS hu1 ó Ü Ÿ /4 /8 /1 /4 /1
Õa _ _ False %2
Öa Sum.inr n /1
Øa ho pins s2 σ H2 x y v u _ I2 r1 r2 q2 /13
Ùa PN lnX P w K mg base f gv A ou s H E /12 ÿ YV 0 /2 _ /3
Úa ~table ~cell ~x [3
Ûa s.heap.push 0 /1
Üa s3.heap.push ê ~slice .fields 0 /1 /2 /1
Ýa pe_f 0 1 ZF 2 ß 3 /1 /2 /3
Þa te 0 H4 y H5 H5 D /1 Ù ys /1 != ys.length sizeLine !< 1 !∧ !∧ %2 /3
ßa CompOk X.env.scope scope X.N N' ix /5
Ðb _ Z _ ~str _ true Z ĉ _ /1 0 _ Z iteF 1 /1 <12
Ñb Y6 K C ~fewest ~Reckoning.fewest WQ YW #2 /2 Ða /6
Òb Str.join ű 0 /1 1 /2
Ób .Compare a op [1 b [1 pos /4
Ôb hg cl P2.objs.size s2 H2 fp _ s5 σ3 H5 x u _ I5' r5 step x H5 y5 /3 /15
Õb qs.map 0 /1
Öb b o hb e eb b o hb e /4 %4
Øb ā field Ê 0 /1 1 /2 _ !>>= _ /2
Ùb I5.pinned stat fr5 /1 T.obj _ _ st5 /3 /2
Úb scope.names.lookup 0 /1
Ûb PySem.W.instObj C s.heap.objs.size /2
Üb Nat Ť St /1 !->
Ýb .Subscript 0 1 2 /3
Þb PS à agS 0 /1 1 /3
ßb pe_b 0 hso boot_sorted 1 /4
Ðc Q ô 0 /1 H /2
Ñc DN P w 0 1 kvs /5
Òc _ Z _ Z _ Z t c prs i j x Z ëa s1 /1 VI hg /1 s1 _ _ hc /3 hi À t' prs' H2 ht' hq hnd s2 hT2 hrows ? %9 <19
Óc DGet 0 d kV Öa /1 Ú t /1 /4
Ôc ZQ ? /1
Õc cs.map 0 /1
Öc Turn P w K tg 0 it [1 it i h 1 %2 /8
Øc å 0 Q E s /4
Ùc v s1 h1 thn h1 itv s2 h2 ? %3 /2 %3
Úc D.rt Ĩ H' /2
Ûc wpAny_execs_cons thn 0 f s1 q ? %3 /2 /1
Üc Builtin.Str.occurrences 0 1 #0 2 #1 /5 ^isEmpty
Ýc ~low ~high ~cell [3
Þc ě ~str /1
ßc h pins s σ H 0 I 1 /7
Ðd SqL X.K H 0 1 /4
Ñd shS prs /1
Òd Çb N 0 st cdv outer /5
Ód Œ a ta /2
Ôd ė m ŀ pos /3
Õd Òb 0 1 /2 ^cps.toList.length
Öd PIfs Ăa ifs tc /3
Ød tOp r ta tb /3
Ùd .Tuple es k1 ps /3
Úd List.mem_iff_getElem?.mp hp /1
Ûd _ Z _ Z p _ #2 _ Z Z sqo hp /1 0 _ _ Z XM À /1 l1 _ Z p _ #3 _ Z Z sqo hp /1 1 _ _ Z XM À /1 l2 len2 q2 hq2 ? %2 <34
Üd List.mem_filter.mp 0 /1
Ýd Ć #1 /1
Þd WF WT W8 e /1 I.ok.cab x c hfn hc /4 /2 /1
ßd _ H9 H9 Ï H8 s2.heap.objs.size Ħb /3 != %2
Ðe wpAny_attempt 0 /1
Ñe ķa H s.heap 0 1 /4
Òe ~desk ~cell ~known ~asked [4
Óe _ Z 0 1 <4
Ôe Ņ Z /1
Õe Vals xs its /2
Öe L D2 _ _ Z Z hL4 eD ? ? <10
Øe f2 b hb /2
Ùe Þ k /1
Úe ø z.length /1
Ûe ü ZY #2 /2
Üe Row H a ns /3
Ýe Ä #1 ~how_many_cells Ŏ spMany /4
Þe _ Z a dx _ Z 0 Z _ Z _ Z _ _ 1 _ Z Z sqt 2 /1 Z _ _ Z Z ã RF _ /1 RF _ /1 /2 ? <26
ße m.testBit i /1
"
  |2=>"
à agX P w K mg base f gv A ou s H E /12
á PySem.W.nsIn K mainGlobals 0 /3 Ã 1 /1 !=
â ZF pv 0 /1 pa1 1 /1 /2
ã 0 1 <2
ä FnScope 0 1 ZJ 2 /1 /3
å wpAny model prog w /2 A 0 1 2 3 /6
æ Æ Z1 Obj !× /1
ç Same 0 H' /2
è decide 0 /1
é ZK K mg 0 1 2 /5
ê 
ë _ 0 ? <3
ì wpAny model 0 w /2 A 1 2 E 3 /6
í eval 0 X.env /2
î 0 ^length
ï ZG ZZ pcm WH 0 ZR /3 1 W0 /3 ZG ZZ pcm WH 0 ZR /3 2 W0 /3 3 /2 /2
àa ī #40 ~_law_asked_good č spAG P w C /3 /4
áa codeAny_compStart_list loop _ rfl /2 T.self X.A #0 _ _ _ T.keep _ _ _ st2 b hb o e old b o e /3 %4 /5 loop _ rfl /2 /7 /2
âa X5 PW.pt U6 pcm 0 pix ixT K /1 Ü ZB /3 1 /3 UO pcm 0 pix ixT K /1 Ü ZB /3 2 /3 /1 /2 /1 /1
ãa OpR X binaryOp 0 /1 1 /3
äa seqObj ~list 0 1 /3
åa Y6 K 0 ~say ~Desk.say WQ U8 #2 /2 ~self ~row [2 /6
æa σ H Q ta σ H x H1 0 %2 /3 %3
ça Sum.inr 0 /1
èa X.calm true !=
éa ss.map x V.sT x n /2 %1 /1
êa wpAny_holding 0 /1
ëa hT.same 0 /1
ìa StrLaws.occBody s sub hi 0 a st /6
ía occurrences x 0 #0 x.length 1 /5
îa upd H4 ak .dT putK akv Sum.inl Þ r /1 /1 Sum.inl Þ p /1 /1 [2 ô Þ z /1 #1 !+ /1 /3 /1 /3
ïa Ä #6 ~need_table Ę spNeedTable /4
àb partsBetween z occurrences z y #0 z.length limitOf z k /2 /5 y.length /3
áb nm wt 0 t t0 F prs qs i j x 1 cg F /1 hm 2 hrows ht0 hq0 hnd2 s15.free hF /1 e6 lgx hi hj 3 <25
âb Z1 Obj !×
ãb Æ Z1 /1
äb Or.inr rfl /1
åb Heap.get?_update_self _ 0 Obj.isFreed_of_fields Obj.data_mapFields 1 _ /2 /1 /3
æb HOk P w H h /4
çb relabel scope X.env /2
èb Ï H2 s2.heap.objs.size [0 /3
éb FnAtN.of D 0 n vs H Q E h ? %6 f gv A ou s H vs n0 Q E hr h ? %12 /4
êb Æ Env /1
ëb ~table ~first ~x [3
ìb Ė ã 0 1 /2 /1
íb c i v n m ts 0 o8 o9 o10 Z hn hm hi 1 2 3 <17
îb ite2 _ ? %1 _ ? %1 /2
ïb thn hi pins 0 σ 1 _ 2 3 /7 4 /2
àc pe_b 0 T.len boot_len 1 /4
ác Ä #1 ~_law_cells ~cells [1 spShF /4
âc İ #1 ~looks_at Ða spLooksAt C /1 /4
ãc İ #1 ~names ~self [1 spNames C /1 /4
äc A.deeper envOfC 0 1 s.heap.objs.size f 2 /5 /1
åc KV kvs vs /2
æc X.s₀.heap.get? b /1
çc call_meetsIn PySem.F.slot_dict_get dd.typeIs PySem.F.entry_dict_get PySem.F.args_dict_get_3 _ _ _ /3 0 1 /6
èc Ŕ 0 Ï H 0 1 /3 /2
éc ß #1 /1
êc hb pins s1 σ H1 n1 _ h1 I1 q1 /9
ëc ő i m ys σ' H' m 0 i !- != i 0 !≤ 1 2 !∧ !∧ !∧ %5 3 ? /3
ìc .dict es ep /2
íc _ Z _ Z 0 _ Z Ė 1 /1 _ _ Z Z _ Z ? <15
îc ts.map 0 /1
ïc RowW x ć ~cell /1 n ĭ i /1 ĭ j /1 ZM k /1 [5 /2
àd NestKey M s.heap 0 1 /4
ád _ _ _ H _ I h 0 %7
âd wpAny_setField_rec 0 Í 1 /3
ãd I.base.there b o e hx /4
äd Ã x /1
åd _ Z _ Z tb n Ėb Z W.l.same s1 /1 ^g _ _ Z Z hpos L _ _ _ Z Z ťc hat ? <23
æd ĭ lessN x Ůa /2 /1
çd Q7 V.int n è n x !< /1 %1 V.int 0 Ĭb m hm H' Q' sm q' ? %6 m hm _ H' Q' sm q' ? %7 1 /8
èd c hc 0 %2
éd TyOf K H 0 Ŀa 1 /1 /4
êd vs ĉ x /1 [1 !=
ëd _ Z x Z hl hf p H1 hp s1 e1 ? %5 <7
ìd hf b hb /2 ^1
íd ĉ x /1
îd Ĉ VH į Ü V6 T.list boot_list /2 /2 /2
ïd bs.map Value.bool /1
àe ZA ? /1
áe x c e ? %3
âe kvs.any Ľa /1
ãe Data.cell v /1
äe relabel scope env /2
åe KT H kvs xs /3
æe strIterType z /1
çe letOwnedTupleGo tg Ê it /1 u /3
èe mirror_perm _ _ _ _ /4
ée Z9 Int /1
êe _ Z a C dx 0 Z 1 kc.cls 2 3 ? <12
ëe pins s σ H n D hn I q 0 %9
ìe ďa ty σ H y H1 td σ H1 x H2 0 %2 /3 %2 /3 /1
íe 0 ^isSome
îe 0 _ 1 Â Â <5
ïe ô i /1
"
  |3=>"
ð 
ñ 0 ^cps.toList
ò cgX P w K mg base f gv A ou s H E /12
ó pv #1 /1
ô .int 0 /1
õ congrArg List.length 0 /2
ö 
ø 0 sizeLine !≤
ù Æ Str /1
ú 
û cxOf 0 P w K mg base 1 2 3 f 4 A 5 s H E /16
ü pix 0 pv 1 /1 ZB /3
ý .ListComp elt 0 iter 1 #0 <4 [1 scope pos /4
þ model prog w /2
ÿ 
ða T.done 0 rfl rfl rfl hc i 1 s3 σ3 H3 2 I3 stat fr3 /1 st3 stop /15
ña setR ð i j x /4
òa Ë 0 EP X pins σ Q /4 1 /3
óa T.keep _ _ _ 0 b hb o e 1 %4 /5
ôa wpAny_passesOwn hp thn 0 1 /2 /2
õa ~desk ~tables ~name ~k [4
öa .bl false /1
øa _ Z b _ 0 _ Z Z sqt s2 _ _ hb /3 /1 1 _ Z c _ 0 _ Z Z sqt 2 /1 1 _ _ Z Z _ Z ? <27
ùa Builtin.Str.occurrences z y #0 z.length z.length #1 !+ /5
úa wpAny 0 1 2 Q E s /6
ûa Blt mg /1
üa ë ZG pifF PW.pt U6 WO WP Ĉ VH â #2 V6 htup boot_tuple /2 /2 /2 /1 /1 U6 pcm SJ pln T pv #2 /1 /2 ZB /3 UO ŭ G ß #2 /1 /2 /1 /2 /2 /1 /1 Ġ VT XN o_le o_lt ZB ü VF #2 /2 Ü /5 VG XN o_le o_lt ZB ü VF #2 /2 ó /5 /1 /2 /1 /2 /1
ýa ZF 0 ß 1 /1 /2
þa env s1 env newEnv ZJ st /1 s.heap.objs.size _ cellsFrom Ć #1 /1 ZJ st /1 ^names [0 /3 _ _ _ none _ /9 != InCallC s env.locals bindL env.kindOf ps.zip us /1 _ none %1 /3 env.cells bindC env.kindOf ps.zip us /1 _ none %1 /3 s1 /6 !∧ %2
ÿa V0 p Ŷ p ^1 /1 %1 p 0 %1 1 sl6 2 /1 p hp H' Q' sm q' ? %6 D H' hD sm hDl ? %5 /6
ðb sc.names.lookup x /1
ñb Ä #5 ~is_table Ę spIsTable /4
òb I.hok.fresh 0 /1
ób PySem.mem_of_lookup 0 /1
ôb rows.map rowS /1
õb Ė ő Z _ sqo 0 /1 /3 /1
öb DG X.prog X.w 0 a n kvs /6
øb Txt.slice x Ã 0 /1 none /3
ùb ZA ZQ ZA 0 /1 /1 /1
úb Fli X.prog X.w X.stack 0 1 e 2 3 H' s' /10
ûb W3 #16 m /2
üb V.str ~find /1 ĉ ~stair /1 ĉ ~walk /1 ĉ ~below /1 ĉ ~nth /1 ĉ ~show /1 [6
ýb ix.map pick σ /1 /1
þb ha pins s σ H n _ hn I h /9
ÿb dsc hf f _ n #1 !+ 0 1 À À 2 À 3 p' m q' a b c d e g k p' m q' a À À d e g /9 %9 /12
ðc i Ŷ TN qs i /2 /1 %1
ñc bootBuiltins x /1
òc wpAny_forIn_list _ rest r s' r ^1 none != 0 !∧ %3 _ ? ? _ _ 1 /8
óc i h h' st k k z Í _ st.hz /4 k TI Í _ st.hTI /4 0 st.h1.at o q k i1 Í o q /4 %2 /1 st.h2.at o q k i2 Í o q /4 %2 /1 st.nd <6 %5
ôc Ã v /1
õc Room k 0 /2
öc hbody f cdv A outer s H vs Q E hr 0 /11
øc .local
ùc wpAny_standAt ZA 0 /1 /1
úc Ża Ża I.base.free b o e hx ? %4 I.base.tups I.base.frzs I.base.tbls <7
ûc ~thing ~rows ~places [3
üc å letOwnedTupleGo target it v /3 _ s₁' å assign target env v /3 _ s₂ å forIn ifs true c r 0 %2 /3 ok s₃ 1 %2 2 s₂ /4 %2 2 s₁' /4 %2 2 s₁ /4
ýc ċ 0 Z1 Z0 !× /2
þc Ŀ 0 Pv ůa /1 1 x H' y ? %3 <4 /1
ÿc ŧa b /1 Ã u /1 != İa b /1 Ã u /1 != !->
ðd Ţ ~BaseException.__getattribute__ /1
ñd r hr H' Q' sm q' Řc rowS r /1 r 0 IE 1 /1 p' H'' hp' s'' hR q' p' H'' hp' s'' hR /5 %5 /5 %6
òd _ _ q WD _ q /2 %3
ód Obj.data_mapDictKeys hd _ /2
ôd WM X.prog X.w /2
õd YU X G 0 /3
öd 0 ^A.units cLine !<
ød s5 _ _ s4 _ _ 0 /3 /3
ùd putT ts 0 t' prs' /4
úd ŀa s1 H1 I1 q1 0 /5
ûd YF PySem.F.plainAttrs_str PySem.F.slot_str_join PySem.F.type_str_join TZ ZR 0 /6
üd đ none none 0 none none none /6
ýd Inv Ò C fp /2 [0 σ3 H3 s4 /5
þd MtAt.of D 0 ę Å /4
ÿd seqEpoch_at q6 rfl ZA listUpdate_at q6 rfl ? WW _ /1 hlen _ hp /2 /5 /1 /3
ðe ys H' q 0 %3
ñe ļa F.slot_zip_next ty F.entry_zip_next 0 F.args_zip_next_1 _ /1 /5
òe Pm vs.length p /2
óe Ê _ /1 _ 0 Z q _ I.fresh /2 <5
ôe Ŀ rfl /1
õe á 0 Ú 1 /1 /2
öe PySem.W.plainOver K C /2
øe s3 _ _ 0 /3
ùe PEN X 0 1 /3
úe œa s1.heap.objs.size /1
ûe List.drop_eq_nil_of_le 0 /1
üe strSliceIndices 0 1 2 x.length /4
ýe Ňb VT 0 VG 1 /1 /2 /1
þe PySem.W.isFn K Ê f /1 /2
ÿe Gl X x /2
"
  |4=>"
Ā FnAtX P w K mg base 0 1 2 3 /9
ā wpAny _ _ 0 _ _ 1 /6
Ă 
ă pix ZY pv 0 /1 1 /3
Ą Str Z9 Z0 /1 !->
ą s.heap.get? 0 /1 Ã 1 /1 !=
Ć s.heap.objs.size 0 !+
ć 0 Str :
Ĉ pe_b 0 T.isinst boot_isinstance 1 /4
ĉ .str 0 /1
Ċ Æ Int /1
ċ Æ 0 1 !× /1
Č MtAtX 0 w K mg base #38 1 ~say ~self ~row [2 2 /10
č ~desk ~tables ~cell [3
Ď DeskAt 0 C a dx d 1 /6
ď ok.mod ok.kind ok.glob ok.blt ok.above ok.inj ok.has ok.cab 0 ok.frames ok.stk ok.exf ok.bs ok.bsz ok.noex ok.exfs ok.funs ok.frf <18
Āa codeAny_mono 0 res s' hq ? %3 /2
āa T.item 0 rfl rfl rfl hc i 1 s3 σ3 H3 2 I3 stat fr3 /1 st3 go /15
Ăa Ò C ex /2
ăa upd upd 0 dx .own x /1 /3 x Ŧ [0 /1 /3
Ąa 0 _ Z sqt 1 /1 Z _ _ Z _ _ Z Z ? <13
ąa ñ Ø 0 /1 /1
Ća _ Z 0 Z Ņ 1 /1 2 <6
ća Y2 n.cps.toList /1
Ĉa codeAny model 0 w /2 1 .call Ê 2 /1 ã 3 [0 /2 /2 4 5 /5
ĉa Txt.replace 0 1 2 /3
Ċa ~r ~p ~low ~high [4
ċa ZN 0 pv 1 /1 ZB /3
Ča ZN WS ZN YM 0 ZB /3 1 /3
ča foldedSetIterable iter X.env x /3
Ďa pe_t UU hstr U3 0 /4
ďa σ H Q 0 %3
Āb upd 0 a Ŧ putF 1 Ê 2 /1 3 /3 /1 /3
āb î Ø 0 /1 /1
Ăb YK.mp 0 /1 ^1
ăb wpAny_Call_method m.base m.few m.line PySem.F.plainAttrs_dict 0 1 thn ıa 2 /2 /7
Ąb s3.extBut _ _ 0 s2.extBut _ _ 1 2 /4 /4
ąb Ĭ pos es /2
Ćb hn b hb hn b hb /2 hnf b hb /2 YOk.exfs b hb /2 Ė hb /1 x c e 0 %3 Ļ ń 1 Í /2 /1 <6 %3
ćb Ņ rfl /1
Ĉb Ŀa ~list /1
ĉb ë Ħ 0 1 2 /3 /1
Ċb putK kvs 0 1 /3
ċb ļ cc /1 ļ #6 /1 ļ rows /1 ļ wide /1 ļ kind /1 ļ first /1 Ú tb /1 0 1 2 3 o11 o12 [13
Čb PS ò cgS 0 /1 _ /3
čb Ä #2 ~all_whole ~things [1 0 /4
Ďb ø xs.length /1
ďb UX G hr UZ į Ü ZN UC ZN UC ZN UC 0 1 /3 ZR /3 2 /3 /2 /4
Āc _ Z Z _ _ Z Z 0 1 2 <10
āc ë ZL ZZ 0 1 W0 /3 /1 /1
Ăc ő Ãc xs.length /1 xs.length Í WW _ /1 h0 <4 ? /3
ăc İ 0 ~fewest_through Żb spThru C 1 /2 /4
Ąc k _ _ ĭa e /4
ąc UW Ł UP hr /1 /2
Ćc tBr P w C H0 a0 a dx d tb kn ak us us [0 !≠ %1 /12
ćc MtAtX P w K mg base 0 C m ps 1 /10
Ĉc kdL.getD j #0 /2
ĉc ZG 0 Ġ 1 /1 /2
Ċc spSd C cs œ ĉ x /1 [2 H Q E /6
ċc A outer s H us vs Q E hr e0 r q 0 %12
Čc Value.str 0 t /2
čc Ê e /1
Ďc .Name x 0 /2
ďc _ _ _ False %3
Ād Itl K a /2
ād Ú a /1 Ú tb /1 Ã Ó cc /1 /1 Ã .sT nm n /2 /1 Ú t /1 Ã Ó i /1 /1 Ã Ó j /1 /1 ļ x /1 Ã ĉ wt /1 /1 Ú F /1 o10 o11 [12
Ăd L.filter mrI w c /2 /1
ăd wpAny_fieldsOf e1 e3 ? /3
Ąd ã 0 À /2
ąd FnOk 0 w 1 mg base CX0 2 3 fd ~script [1 spLaw 1 /1 /11
Ćd È 0 WN U1 /1 /2
ćd Ý #2 0 !^ /1
Ĉd Nat.le_succ_of_le 0 /1
ĉd ëa 0 /1 ^sq
Ċd qs.set i 0 /2
ċd Row 0 nb Ůa /3
Čd te Ō u 0 /1 /1 H' Q' /3
čd ê ~tuple .seq 0 /1 /2
Ďd _ _ _ _ _ st h 0 %7
ďd IsPair 0 TO a b /4
Āe Nat.testBit_lt_two_pow 0 /1
āe HT.lexLt 0 1 /2
Ăe Txt.lstripChars 0 1 /2
ăe h 0 I.ok I.os I.bare úc ő 1 2 j y v' e1 e2 e3 ? %6 /3 3 I.free I.freeC Åc tracked 4 hs /2 5 <11 ő 6 hs 7 /3 /3
Ąe List.mem_append_left _ 0 /2
ąe h' z1 z2 z3 z4 z5 z6 z7 0 %8
Će NxI prog w i1 x B1 C1 /6
će Ğa vs.toArray /1
Ĉe codeAny þ A .compLoop ý target ifs /2 #0 it acc env /5 R s /5
ĉe z.sameBut hs cne y c 0 /3 /2
Ċe O.blt Ŭ 0 /1 Ŭ 1 /1 /2
ċe call_list_seq p 0 ho hc hd h' c' kp e fin its r' hz h' c' kp e /7 %4 1 /7
Če ĥa vs.length ps.length != !->
če X.A.units 0 !+ cLine !<
Ďe H' 0 /1 none !=
ďe 0 ns.length !<
"
  |5=>"
Đ Æ Key /1
đ Ú a /1 Ú tb /1 Ã Ó c /1 /1 Ã .sT nm n /2 /1 Ú t /1 Ã ĉ kd /1 /1 Ú nb /1 o7 0 1 2 3 4 5 [14
Ē pe_b V7 rfl /1 T.all boot_all pa1 Ì 0 1 2 3 4 pg_c #0 5 /2 Y0 6 /8 /1 /4
ē H 0 /1 none !=
Ĕ tabB prs /1 true !=
ĕ St6 P w C H0 a dx d tb kn ak n 0 ts us 1 /15
Ė .inl 0 /1
ė .Call .Attribute o 0 apos /3 1 [0 2 /4
Ę ~thing [1
ę vs H Q E h ? %5
Ě upd 0 1 .tup 2 /1 /3
ě mg 0 /1 none !=
Ĝ É H s /2
ĝ Æ V /1
Ğ Ò P2.objs.size fp /2
ğ PySem.W.fnOf 0 1 XF st /1 WI st /1 ZJ st /1 .none kV 2 pm an 3 ct /12
Đa ZZ WO WP Ĉ VH į Ü V6 hstr U3 /2 /2 /2 /1 /1 WG W0 /3
đa Heap.SameBut 0 s.heap 1 /3
Ēa Builtin.SmallTypes.nextOf Ê 0 /1 /1
ēa è 0 1 !≤ /1 è 1 2 !≤ /1 !&&
Ĕa H1 Q E s1 he Ŀ Ŀ Ė a dx d t ts x 0 n _ prs Z hd.same s1 /1 hw.l 1 hw.s Â Â hm p H2 hp s2 e2 2 %5 <19 /1 /1 /1 %5
ĕa Obj.mapSeq _ 0 Array Z0 /1 : %1 /1
Ėa A.under .builtin ~type.__call__ ã Ê C /1 0 !:: kw /2 /2 /1
ėa prs.length #6 !≤
Ęa valV kvs 0 /2
ęa U4 _ U4 _ XJ hb e /2 /2 /2
Ěa gTup K #2 V1 WV #0 /1 V1 WV #1 /1 gNil /2 /2 /3
ěa b hb 0 %2
Ĝa Same 0 Ï 1 2 3 /3 /2
ĝa Ï H4 L cs.map UG /1 Ê T1 /1 [1 !++ /3
Ğa ê ~list .seq 0 /1 /2
ğa wpAny_truthy_bool 0 /1
Đb äa acc.toList.toArray #0 /2
đb Heap.get?_update_self 0 1 2 /3
Ēb wpAny_typeNameOfWhole_keyiter j.typeIs ZQ 0 /1 /2
ēb Ê s.heap.objs.size /1 _ 0 Z 1 <5
Ĕb .Name y py /2
ĕb A.units 0 !+ cLine !<
Ėb kvs us /1
ėb ī #40 ~_law_refused_good č spRG P w C /3 /4
Ęb Ï H5 D ys y [1 !++ /3
ęb congrArg 0 1 /2
Ěb MtAtX.of D 0 ę Å /4
ěb ě ~sorted /1
Ĝb _ Z c _ 0 Ó 1 /1 Z Z sqt hC1 /1 Z _ _ Z Z _ Z ? <17
ĝb W3 n m /2
Ğb List.length_eq_zero_iff.mp 0 /1
ğb DS PassesOwn.never PW.pt RV pcm o_lt 0 pln T Ü /2 /3 PB pcm o_ge pv 1 /1 ZB /3 /1 /2 /1 Ħ Y9 YF X3 QI QH TC 2 pa1 US ýa 0 1 /2 /1 /1 /6 /1 3 4 /3 /3
Đc fin D H' hD sm 0 /5
đc WD _ WD _ 0 /2 /2
Ēc Œa Ê s.heap.objs.size /1 0 /2
ēc Array.getElem?_eq_getElem 0 /1
Ĕc .bl 0 /1 H 1 Z q <5
ĕc ps.zip us /1
Ėc b o e WD _ e /2 %3
ėc v H2 v .non != Ŕ x H2 /2 !∧ %2
Ęc hd.same s1 /1
ęc PI X tg iter wi /4
Ěc Ķ ~size e6 fin _ snw hp /1 /2 /3
ěc Ä #6 ~words_of Ïb spWO /4
Ĝc Y3 prs i /2
ĝc wpAny_specialOf 0 1 ? /3
Ğc _ Z 0 Z 1 2 <6
ğc Z9 Nat /1
Đd ő snw hD /1 ZI Í /3
đd PySem.W.WalkO q loose XP YP l.row.toRowW d [0 f vs PySem.call f vs /2 %2 /8
Ēd z e h1.trans z /1 /1 %1
ēd Ì 0 ~x [2 none Ã 1 /1 [2 2 3 Y7 4 /1 ň X5 pcm 5 Ü ó /3 /1 Ü /8
Ĕd col prs j /2
ĕd Ä #3 ~is_cell_of_size Ŗa 0 /4
Ėd xs.getD j Str.empty /2
ėd formL.lookup f /1
Ęd Pu te Ō u x /1 /1 H1 f x /1 /4
ęd sm.seq hq /1
Ěd úa Ñ X.A f .int i t /2 .int j u /2 /2 /3
ěd ą b o /2
Ĝd i h h' st k st.at o e k it Í o e /4 %2 /1 %5
ĝd I.base.slot b o e n hb hx /6
Ğd O.kle Ŭ 0 /1 Ŭ 1 /1 /2
ğd s1.free 0 /1
Đe ô mo #2 !% /1 ô mo #3 !% /1 ô #1 mo #4 !% !+ /1 ô ŷd /1 ô mo #7 !% #5 !/ /1 [5
đe Ä #2 ~writes_number ųa spWNA /4
Ēe Î #1 /1 Î #7 /1 Î #10 /1 [3
ēe Ã øc /1
Ĕe ø kvs.length /1
ĕe Ŀa ~StopIteration /1
Ėe ~row ~x [2
ėe Ģd Ē 0 none [1 1 2 Y7 3 /1 nd1 űb /7 /1
Ęe WF WT hex b hb /2 hC /2 /1
ęe Ŧd Ê p ^1 /1 [2
Ěe run X.A X.stack s2 H2 œ us !:: œ vs !:: 0 _ hr I2.env0 Ŭb rfl r /2 q2 /12
ěe _ Z 0 Z À À SB 1 2 ? ? /4 <7
Ĝe Ä #3 ~read_row ~line [1 spRRA /4
ĝe ~line [1
Ğe Ã Ó 0 /1 /1
ğe Î #1 /1 Î #7 /1 Î #10 /1 Î #6 /1 Î #11 /1 [5
"
  |6=>"
Ġ ZL ZU 0 /1 /1
ġ of_decide_eq_true 0 /1
Ģ a0 a1 a2 a3 a4 a5 a6 a7 a8 a9 a10 a11 [12
ģ Û Z0 Z2 /2
Ĥ Ã .tup 0 /1 /1
ĥ Ne.symm 0 /1
Ħ ZG 0 ZG 1 2 /2 /2
ħ ZO _ /1
Ĩ .bl true /1
ĩ Value.ref 0 /1
Ī envOfC qual scope s.heap.objs.size f cd /5
ī FnAtN P w K mg base 0 1 2 3 /9
Ĭ backTo 0 Õ 1 /1 /2
ĭ ZM 0 Nat : /1
Į ~table ~thing [2
į ZF 0 pa1 1 /1 /2
Ġa ô #2147483629 /1 ô #2147483587 /1 ô #2147483579 /1 ô #2147483563 /1 ô #2147483549 /1 ô #2147483543 /1 ô #2147483497 /1 [7
ġa ċ Str 0 /2
Ģa ns.getD 0 #0 /2
ģa attributeBase 0 1 X.env í 0 /1 /4
Ĥa Calls.spliced_cons 0 /1
ĥa sp vs H Q E /4
Ħa ê ~list .seq its.toArray n /2 /2
ħa I.tok _ /1
Ĩa Y5 _ rfl /2
ĩa ī #2 ~_law_name ~cell ~k [2 spLNameN /4
Īa Ä #1 ~is_whole Ę spIsWhole /4
īa WL 0 1 _ _ z 2 %3 /3
Ĭa wpAny_Call_Name_kw T6 I hg hm ? hdb /5 /1
ĭa Ė rfl /1
Įa ê 0 .fields 1 /1 /2
įa Y1 YG 0 /1 Y1 YG 1 /1 2 /2 /2
Ġb fs.lookup 0 /1
ġb _ Z p' ^2 _ 0 _ Z Z sqt 1 /1 2 _ Z _ _ Z Z _ Z ? <19
Ģb Nat.lt_succ_self _ /1
ģb MtAt X.prog X.w X.K X.mg X.base k C 0 ps sp /10
Ĥb y hy hf I.ok.has y ^1 K.fr y hy hf /3 /2 %3
ĥb Ŀa ~tuple /1
Ħb ys y [1 !++
ħb .none
Ĩb ļa F.slot_dict_keyiterator_next j.typeIs F.entry_dict_keyiterator_next ? F.args_dict_keyiterator_next_1 _ /1 /5
ĩb Ûa PySem.W.emptyDict /1
Īb 0 X.ex !∈ X.s₀.heap.objs.size 0 !≤ !∨
īb PySem.W.makesIn 0 C /2
Ĭb sl6 À /1
ĭb iteF 0 /1
Įb ms.map u /1
įb Calls.spliced_nil 0 /1
Ġc Nat Nat !×
ġc Ë í a /1 v s₁ Ë í b /1 u s₂ 0 %2 s₁ /3 %2 s /3
Ģc vs H Q E ĥa sp' vs H Q E /4 !∨ %4
ģc PySem.W.plainGet K C 0 /3
Ĥc q ã nl _ _ q.l /3 Ļ nl _ _ q.r p hp /2 /3 /1 /2 %1
ĥc İ 0 ~fewest Ða spFew C 1 /2 /4
Ħc ZN WS ċa YM 0 /2 1 /3
ħc ſa 0 d putK kvs ts /1 Öa 1 /3 /3
Ĩc ns.map PyData.int /1
ĩc ċ Đ V /2
Īc q' _ ŵ /2
īc Txt.startswith 0 1 /2
Ĭc wpAny _ X.A assign Ĕb X.env Ê L /1 /3 _ _ s4 /6
ĭc o e k _ o ĥ 0 /1 ĥ 1 /1 2 e /6 %2
Įc DkP P w n 0 d 1 /6
įc HOk X.prog X.w 0 1 /4
Ġd D.nx σ 0 /2
ġd PS X .Assign 0 [1 1 2 /3 tAsg 3 WV i /1 /2 /3
Ģd WO WP 0 /1 /1
ģd W3 0 m msum 0 1 /2 !&&& /2
Ĥd RH X.env.scope x /2
ĥd Zd z TI TO i1 i2 /5
Ħd wpAny_newObj_type ? 0 /2
ħd Same H' H'' /2
Ĩd ż Ç /1
ĩd _ Z tb n Ėb us.map 0 /1 Z 1 2 3 L ss hL hp hs ? %5 <11
Īd #10 #50 !^
īd PG Ăa tg g /3
Ĭd prs.length i !≤ ĺ j !≤ !∨
ĭd ps.map q Ŷ q ^2 /1 %1 /1
Įd PySem.W.hideAll s1.heap e T frs l /1 !:: !:: /2
įd PySem.W.fnOf name qual params body scope dV kV doc pm an cdv ct /12
Ġe atKey xs k /2
ġe Ęa k /1
Ģe È 0 WN į U9 1 /2 /1 /2
ģe ø vs.length /1
Ĥe Ã true /1
"
  |7=>"
İ MtAt P w K mg base 0 C 1 2 3 /10
ı PySem.W.findIn K Ê C /1 0 /3
Ĳ X.fn 0 /1 true != X.env.scope.names.lookup 0 /1 Ã .local /1 != !∨
ĳ Ä #40 ~_law_size_good ~desk ~cell ~known ~asked [4 spSG P w C /3 /4
Ĵ List.range 0 /1
ĵ PySem.W.kitOne K Ê C /1 Ê 0 /1 /3
Ķ iteT _ Z len2 p hp F p true 0 Z Z snw hp _ _ 1 /4 ZI 2 <9 %2 <4 /1
ķ OpR X compareOp 0 /1 1 /3
ĸ YI X .builtin 0 /1 xs H Q 1 %3 /3
Ĺ pe_f 0 1 pa1 Ü /1 /3
ĺ w0 prs /1
Ļ p hp 0 %2
ļ Ã ô 0 /1 /1
Ľ s1.trans 0 /1
ľ Tab H t prs /3
Ŀ .inr 0 /1
İa h'.get? 0 /1
ıa ho pins s σ H _ I h /7
Ĳa prs.length ĺ !*
ĳa callWith pos f first Ĭ pos 0 /2 Ŵ pos /1 /5
Ĵa I.ok.hd hc /1
ĵa Heap.SameBut 0 1 2 /3
Ķa pv #2 /1
ķa ObjOk X.prog X.w 0 1 2 3 /6
ĸa YB I q Í /3
Ĺa Refs cs spRf C cs /2 H a ĉ 0 /1 1 /6
ĺa codeAny_call_function hr.depth KX _ _ lk /3 rfl S.co S.gen rfl PySem.W.codeRec_of KX hcd /2 0 /8
Ļa wpAny_call_entry slot_list_sort ő _ hoL Z /3 entry_list_sort list_sort_treeK strKind_oneLt hoL hS.keysOf v₁ v₂ rest e keyKind_strs 0 /1 %4 À st' a1 a2 ë Z /1 %3 /6 args_list_sort _ /1 /5
ļa wpAny_call_entry 0 1 2 3 4 /5
Ľa kv è kv ^1 k != /1 %1
ľa I1.fpOk 0 I1.hok.fresh 0 /1 /2
Ŀa .type 0 /1
İb ~self ~low ~high [3
ıb Same 0 Ě 0 1 2 /3 /2
Ĳb Ď H ts /2
ĳb I.list hq /1
Ĵb 0 prs.length !<
ĵb apos.endLine cpos.line !== true !=
Ķb 0 false !=
ķb Ä #2 ~_law_table ~cell ~most [2 spTab34 /4
ĸb Ä #40 ~_law_cell_good č spCG P w C /3 /4
Ĺb Ä #1 ~_law_mixed ~cell ~k [2 spMixed /4
ĺb 0 Ã .cell /1 != 0 Ã .free /1 != !∨
Ļb Ä #1 ~_law_cell ~script ~k [2 spLCell K /1 /4
ļb Ä 0 ~_law_looks ~cells ~known [2 spLk P w 1 /3 /4
Ľb H' D /1 Ù ys /1 !=
ľb ĉb Y9 0 /1 Y9 pe_f G2 ż Ç /1 ß 1 /1 /3 /1 2 /3
Ŀb _ 0 1 Z _ Z 2 <7
İc Û 0 Z2 /2
ıc PySem.W.mroIn K C 0 /3
Ĳc w hw ? %2
ĳc X.env.scope.kind .class !== X.env.scope.kind .module !== X.env.locals X.env.globals !!= !&& !||
Ĵc Txt.splitMax 0 1 2 /3
ĵc H5 s5 s5 _ _ 0 /3 ? 1 ůa !- À Z hlt _ _ set2 %2 2 ZI ? <10 %2
Ķc Cell H c i j /4
ķc Nat.toDigits #10 0 /2
ĸc KA PySem.F.slot_dict_getitem.lookup hs thn ıa 0 /2 /3
Ĺc wpAny_execs_nil 0 /1
ĺc hfB 0 /1 true !=
Ļc ūb q PySem.W.cellsFrom_some _ _ _ Ė q /1 /4 /2
ļc K w.params /1
Ľc standAt apos.atName /1
ľc f ~table !≠
Ŀc I2.hok.laid old ħ WW _ /1 [0 #0 .nil hacc <5 /3
İd öa .non [2
ıd Tab 0 t prs /3
Ĳd Ż H ts us /3
ĳd W9.mp 0 /1
Ĵd L hL ? %2
ĵd z hz ? %2
Ķd Ķb Š /1
ķd d hd hw d NW d hd /2 /2 %2
ĸd List.getElem?_append_left 0 /1
Ĺd i ys H' _ q 0 %5
ĺd I.tuple hq /1
Ļd pins s σ H Q I h 0 %7
ļd Ė hT.r p0 hm0 /2 ^sq /1
Ľd K.lookup 0 /1
ľd σ.set i 0 /2
Ŀd ç H /1
"
  |8=>"
ŀ e es !::
Ł Nat.le_add_right _ _ /2
ł sgX P w K mg base f gv A ou s H E /12
Ń ZT.mpr 0 1 Z <3 /1
ń absurd 0 1 /2
Ņ ã _ 0 /2
ņ 0 I.os I.bare I.base I.loc I.cell I.free I.freeC 1 I.hok I.len <11
Ň .Call .Name 0 p /2 1 [0 pos /4
ň pg_c #0 nd1 /2
ŉ thn ha pins s σ H 0 I h /7 1 /2
Ŋ FnAtT P w K mg base #2 ~_law_shown ~table [1 spShown /9
ŋ X.env.scope.names.lookup 0 /1
Ō σ0.set #0 Ã 0 /1 /2
ō Txt.split 0 1 /2
Ŏ ~table [1
ŏ YF F.plainAttrs_str F.slot_str_split F.type_str_split QE Ü pa1 ZR /1 /6
ŀa thn ho pins 0 σ 1 _ 2 3 /7 4 /2
Ła Array Nat /1
ła ZL XQ XL hk ZR hm /4 /1
Ńa ObjOk P w H h 0 1 /6
ńa Same H 0 /2
Ņa lσ a0 a tb kn ak i c v 0 1 o10 /11
ņa qs.map q Ŷ q ^1 /1 %1 /1
Ňa swapsWith 0 1 pos.line X.env /4
ňa VB PassesOwn.never rfl 0 1 2 /5
ŉa r s' r .ok .ret .bool true /1 /1 /1 != OldK s₁.heap s'.heap /2 s'.os s₁.os != AllBare s'.gens /1 !∧ !∧ !∧ %2
Ŋa ite2 h1 ? %1 h1 ? %1 /2
ŋa Æ Đ /1
Ōa Calls.call_function_entry kind_sorted plain_sorted entry_sorted args_sorted1 _ /1 ? /5
ōa wpAny_nameGoes_keeps hl hn hp h' v' hn' hs' _ H8 I9.gone hN hi hml hn' hs' /5 q <4 %4 /4
Ŏa _ Z t prs Z hT 0 1 H1 s1 2 %2 <9
ŏa Ag H a tb t nb c nm n kd prs x 0 /12
ŀb List.mem_or_eq_of_mem_set 0 /1
Łb IsPair 0 TI Ê i1 /1 Ê i2 /1 /4
łb SqT K H 0 1 /4
Ńb ċ κ V /2
ńb wpAny_Call_method_late hbase 0 hline rfl thn 1 2 /2 /5
Ņb Binds 0 fd ps 1 /4
ņb seqObj ~tuple vs.toArray #0 /3
Ňb ë Ġ 0 /1 /1
ňb VL rfl T.rng 0 /3
ŉb Q .bl 0 /1 H /2
Ŋb Loc X.env.scope 0 /2
ŋb σ2 H2 tb 0 σ2 H2 /3 %2
Ōb σ0.set #0 0 /2
ōb List.getElem?_eq_none 0 /1
Ŏb behindInMarks op b /2
ŏb Nw H0 d tb kn ak /5
ŀc zq5 s.heap l1 l2 /3
Łc kvs ts /1
łc YF F.plainAttrs_str F.slot_str_startswith F.type_str_startswith AA Ü pa1 ZR /1 /6
Ńc g 0 σ 1 σ2 H2 tb 2 n σ2 H2 /4 %2 /4
ńc Z _ Z a Z Ņ sqo 0 /1 /1 Zc 1 c Ó 2 /1 %1 c Ó 3 /1 %1 c V.str SG c ^2 /1 /1 %1 sqo 0 /1 4 À c h H' Q' sm q' ? %6 D H2 hD s2 hDl ? %5 /9 <7
Ņc YF F.plainAttrs_str F.slot_str_join F.type_str_join TZ ZR pa1 Ì Ïb none [1 0 Ŏ Y7 Ü /1 ň Y0 1 /8 /1 /6
ņc ~table ~place [2
Ňc ë ZG È #2 0 /2 ï 1 WG 2 3 /4 /2 /1
ňc å eval elt env /2 x s₄ å call Ţ ~list.append /1 acc x [2 /2 _ s₅ 0 %2 1 s₄ /4 %2 1 s₃ /4
ŉc ~self ~r ~p [3
Ŋc Ė Þ m /1 /1
ŋc Ňa value Ã Ýb o i pos' /3 /1 /2
Ōc PA X ŀ t /3
ōc Sum.inl Þ 0 /1 /1
Ŏc Ä #1 ~_law_number ~table ~cell [2 spLNum /4
ŏc I1.hok.fresh ħ /1
ŀd q H' sm /2
Łd q H1 s1 /2
łd Y4 hg /1
Ńd a b a.cps.toList b.cps.toList !≤ %2
ńd wpAny_call Āa run X.A X.stack s1 H1 us vs Q _ hr I1.env0 r q /12 /1 /1
Ņd NB ú g.len q hq /2 g4 /2 hb q hq /2 /2
ņd rowS Ų Þ Ãb /1 /1 /1
Ňd đ o8 0 ļ x /1 o11 o12 1 /6
ňd XS hu Ìb Êa Ÿ /4
ŉd WL 0 1 _ _ e e %3 /3
Ŋd UL N vs /2
ŋd Ň x ŀ /2
Ōd őa kvs /1
ōd bs.map V.bl /1
Ŏd V4 w.cps.toList /1
ŏd env.cells.lookup 0 /1
"
  |9=>"
Ő False.elim 0 /1
ő 0 1 2 <3
Œ PE X 0 1 /3
œ Ê a /1
Ŕ Q Ê 0 /1 1 /2
ŕ List.replicate 0 1 /2
Ŗ _ Z a C dx _ _ Z 0 kc.cls kc.nt Z _ Z p _ #1 _ Z Z sqo 1 /1 2 d _ Z 3 4 <27
ŗ rgX P w K mg base f gv A ou s H E /12
Ř ć ~find /1 ~stair ~walk ~below [4
ř acc s₃ Ë newFunctionEnv scope X.env.globals cl [0 X.env.qual none .none Ã X.env /1 /8 cenv s₄ codeAny Ñ X.A .compStart ý tg 0 /2 #0 itv acc 1 /5 RR acc 2 /2 s₄ /5 %2 s₃ /3 %2
Ś cs.getD 0 #0 /2
ś Y6 K C ~fewest_through ~Reckoning.fewest_through WQ YW #4 /2 ~self ~left ~look [3 /6
Ŝ Y6 K 0 ~say_of_table ~Desk.say_of_table WQ U8 #3 /2 ~self ~words [2 /6
ŝ pure ForInStep.yield 0 /1 /1
Ş pa1 Ü /1
ş ä 0 [1 0 [1 1 /3
Őa RelV 0 u /2
őa .frz o .dT 0 /1 /2
Œa EP X pins σ Q 0 1 /6
œa H1 0 /1 none !=
Ŕa codeAny Ñ X.A .compLoop ý tg 0 /2 #0 Ê it /1 Ê s2.heap.objs.size /1 Ça /5 RR Ê s2.heap.objs.size /1 1 /2 s₃ /5
ŕa b 0 !≠ H b /1 ţ != H' b /1 ţ != !-> !->
Ŗa ~rows ~places ~thing [3
ŗa s1.heap.objs.size s1.heap.objs.size [1 _ _ 0 Z 1 2 _ Ĩa Z Z <4 Óa 3 <11
Řa ú ZP 0 /1 1 /2
řa dgX P w K mg base f gv A ou s H E /12
Śa post_val_or_str ã WB Txt.slice_le z _ _ /3 hz /2 fin /2 /1
śa î ĭ 0 /1 /1 #640 !≤
Ŝa Vals 0 us /2
ŝa Nat.pow_le_pow_right Ç 0 /2
Şa sm.trans 0 /1
şa FpOk X pins 0 b /4
Őb x ~__name__ !≠
őb Inv 0 1 σ' H' s' /5
Œb ļa F.slot_tuple_iterator_next q.typeIs F.entry_tuple_iterator_next ? F.args_tuple_iterator_next_1 _ /1 /5
œb cl.lookup x /1
Ŕb s.heap.update 0 1 /2
ŕb Fair key N cmp s /4
Ŗb b o e e0.bs b o e /3 ^1 %3
ŗb PS X .Assign Ýb o i pos' /3 [1 value pos /3 0 /3
Řb upd H2 db őa YZ p r p !* /2 /1 /3
řb PW.pt U6 0 UO 1 /1 /2 /1
Śb Ŷ p ^1 /1
śb Calls.Constant_str 0 /1
Ŝb wpAny_typeNameOf_keyiter j.typeIs ZQ 0 /1 /2
ŝb g.len p hp /2
Şb wpAny_seqItems 0 1 2 /3
şb Ó r /1 Ó p /1 [2
Őc hc pins s σ H _ I h /7
őc frs X.stack /1
Œc Builtin.Str.partsBetween z ùa y.length /3
œc pure false /1
Ŕc PS ł sgS 0 /1 _ /3
ŕc pv #4 /1
Ŗc Ï H1 0 [0 /3
ŗc ite2 h2 ? %1 h2 ? %1 /2
Řc _ Z 0 1 Z 2 3 4 <8
řc WL 0 1 _ _ h' h'.elim %3 /3
Śc .bool true /1
śc ā 0 _ !>>= 1 /2
Ŝc Éa rfl Ĥa thn he pins s1 σ H1 _ I1 q1 /7 0 /2 /1 /2
ŝc ne_true_of_eq_false 0 /1
Şc binT ha hb I h v u s2 x y H2 I2 rx ry q ho pins s2 σ H2 x y v u Q I2 rx ry q /13 %10 /5
şc _ 0 1 2 3 <5
Őd assignEach 0 X.env /2
őd ŧa 0 /1 ţ !=
Œd p hp H' Q' sm q' 0 %6
œd Ķb 0 ć ~__classdict__ /1 !== /1
Ŕd x vs H Q 0 %4
ŕd Ĉa P A f us CR ũc 0 P w H s Q E /8 s /6
Ŗd pn W R hR ZL P1 O8 M kc.cls hr hR Ü éc /6 OL Ķa ZB NX /3 /2 /1 %4
ŗd 0 1 Z sqo 2 /1 3 <5
Řd .int 0 t /2
řd _ true %1
Śd kdW.getD j ~ /2
śd ċ Nat 0 /2
Ŝd t σ H Q /3
ŝd wpAny_rule 0 /1
Şd exec_Assign_Name_used _ _ _ _ hsw /5
şd J H1 U2 J g tc 0 ýb H1 Q /7 %2
"
  |10=>"
Š x ć ~__debug__ /1 !==
š Æ Z0 /1
Ţ .builtin 0 /1
ţ Ã o /1
Ť Û 0 Hp /2
ť X.env.cells.lookup x /1
Ŧ .ins C dx 0 /3
ŧ call_meets F.slot_str_split typeIs_str _ _ _ /3 F.entry_str_split 0 1 2 /6
Ũ PySem.W.keepIn 0 Ê 1 /1 /2
ũ 0 Nat :
Ū YF F.plainAttrs_str F.slot_str_join F.type_str_join TZ ZR pa1 Ì 0 1 2 3 [1 Y7 Ü /1 4 Y0 5 /8 /1 /6
ū ç H /1 Q 0 H' /2 !->
Ŭ kk key p 0 /3
ŭ WO WP pe_f 0 hr 1 /3 /1 /1
Ů Ā #39 ~_law_said ~desk ~row [2 spSd C cs /2 /4
ů Call_ XH I hg hm 0 PyProof.Rows.callWith_type1 thn ha pos pins s σ H _ I h /8 1 /2 2 3 /3 /5 /1
Ša ~r ~p [2
ša ZZ pcm 0 1 2 /3 3 W0 /3
Ţa Ä #2 ~need_number Ę spNeedNumber /4
ţa eight.map e V.str e ^1 /1 %1 /1
Ťa hi pins s σ H _ I h /7
ťa UE X7 hu /1 pv 0 /1 WN į U9 1 /2 /1 U0 _ /1 /4
Ŧa Æ Nat /1
ŧa h.get? 0 /1
Ũa WM P w /2
ũa upd H2 s2.heap.objs.size .lst [0 /1 0 /4
Ūa SqL K 0 a xs /4
ūa FnOk P w K mg base 0 1 f fd ps sp /11
Ŭa Û Hp VK /2
ŭa Txt.join 0 1 /2
Ůa WJ prs /1
ůa i #1 !+
Šb ďa t σ H 0 /3 /1
šb H' s' he H' s2.trans s' /1 /2 %2
Ţb ~cell ~k ~letters ~word ~j ~at ~other ~some [8
ţb Ţ ~object.__class__ /1
Ťb hl j x v n1 e7 kx.elim z Ŀ Ė z /1 /1 %1 z Ŀ Ŀ z /1 /1 %1 /2 /6
ťb é ~_law_looks SR ~cells ~known [2 /3
Ŧb iteT 0 /1
ŧb ZH rfl /1
Ũb putT 0 1 t prs /4
ũb WN ZF 0 ZF 0 1 /2 /2 /1
Ūb mg 0 /1 Ú 1 /1 !=
ūb Ŀ ã 0 1 /2 /1
Ŭb .cons 0 1 /2
ŭb .dK kvs /1
Ůb UA prs x /2
ůb .head _ /1
Šc Æ Z7 /1
šc ć ~table /1 n t [3
Ţc base.Ns mainGlobals mg /2
ţc DkK K C /2
Ťc #116 #97 #98 #108 #101 #32 [6
ťc sqo e1 /1
Ŧc ø i.length j.length !+ /1
ŧc q.elim d A outer s H us vs Q E hr e0 r /11 d' A outer s H us vs Q E hr e0 r /11 /2
Ũc List.zipWith wrB ks ws /3
ũc CXW P w /2
Ūc DO c V.bl ēa 0 c 1 /3 /1 %1 hl c hc H' Q' sm q' _ Z _ _ Z Z ? <7 %6 D H1 hD s1 hDl ? %5 /4
ūc ā spliced 0 Ĭ 1 2 /2 !:: /1 3 /2
Ŭc List.foldl x1 x2 x1 x2 !++ %2 0 ŕ 1 its.toArray /2 /3
ŭc m' m !< W ůa m' 0 1 2 /5 !∧
Ůc BindsTo s 0 ã 1 [0 /2 2 /4
ůc e he ã 0 h.T e 1 /2 ^2 /2 %2
Šd T.obj _ _ st5 b hb /5
šd h.IsListIter 0 1 i /3
Ţd tupleKind_room_in1 hu /1
ţd wpAny_Call_Name_kw XH I 0 1 2 ? 3 4 /7 /1
Ťd _ _ b ūb o 0 /2 Z űc hb /1 ME hj1 /1 ^symm <7
ťd Ê b /1
Ŧd Ó i /1
ŧd pcm WH ċa WS #6 /2 ZB /3
Ũd n.cps.toList #32 0 !:: !++
ũd YA.mp 0 /1
Ūd hl pins s σ H _ I h /7
ūd .Slice lo hi none p2 /4
Ŭd keyN m /1
ŭd HT.sIx xs.length 0 1 /3
Ůd _ _ _ _ _ _ _ q 0 %8
ůd ô #0 ũ i /1 !+ /1 ô #0 ũ j /1 !+ /1 [2
"
  |_=>"
Ű PySem.W.kitOne 0 1 2 /3
ű 0 <1
Ų prs.map p 0 %1 /1
ų _ Z Z _ Z ? <6
Ŵ backToKw 0 keywordEach [0 X.env /2 /2
ŵ srf _ /1
Ŷ V.ref 0 /1
ŷ VB PassesOwn.never rfl 0 1 ZL Y9 YF X3 PySem.F.slot_list_extend PySem.F.type_list_extend NU 2 ZF 3 U1 /2 /6 /1 /1 /5
Ÿ _ _ rfl %2
Ź List.map_congr_left 0 /1
ź I.sq_ne 0 hf 1 Í /2 /2
Ż W6 P w C 0 a dx d tb n 1 2 /11
ż hr.mono 0 /1
Ž ī #40 ~_law_drop_good ~desk ~tables ~name ~k [4 spDG P w C /3 /4
ž ~table ~x [2
ſ 0 sysModules !== false !=
Űa Cg a tb t F 0 n i j nm wt x 1 /12
űa Ø toString 0 /1 /1
Ųa Env0 P w K mg base 0 outer s H /9
ųa ~word [1
Ŵa D σ H tv σ H v H1 td σ H1 x H2 ty σ H2 y H3 0 %2 /3 %2 /3 %2 /3 %3
ŵa .Constant ĉ 0 /1 1 2 /3
Ŷa wpAny_newObj_type wpAny_newFunctionEnv K.nocell 0 h1 hns1 hsb1 ? %3 K.kind /4 /1
ŷa h.Ns mainGlobals mg /2
Ÿa Ah H a tb t nb c nm n kd prs 0 1 /12
Źa WF WT W8 e /1 I.ok.above /2 /1
źa IsZip 0 z TI TO 1 /5
Ża b o e n hb hx ? %6
ża ı ~__setattr__ /1 Ã Ã Ţ ~object.__setattr__ /1 /1 /1 !=
Ža wpAny_Assign_Subscript thn hv pins s σ H _ I h /7 0 /2 hs /2
ža ő _ Z 0 /3
ſa upd 0 1 .dK 2 /1 /3
Űb i opnB ls hs i p !/ i p !% /4 %1
űb Ĺ G hr /2
Ųb KeyOrd.kle_refl _ /1
ųb ã 0 ? /2
Ŵb H a /1 Ã Ŧ 0 /1 /1 !=
ŵb pe_b PZ rfl /1 T.max boot_max 0 /4
Ŷb pln T pix ZY Ü ZB /3 /2
ŷb ċ ŋa V /2
Ÿb fw p allL r p /2 /2
Źb ĥ n1 /1 ĥ n2 /1 ĥ n3 /1 ĥ n4 /1 n5 n6 n7 n8 n9 n10 ź hq z /2 ź hq TO /2 ź hq i1 /2 ź hq i2 /2 ź hq2 z /2 ź hq2 TO /2 ź hq2 i1 /2 ź hq2 i2 /2 <18
źb σ _ TY I3 0 hs' 1 new.ok /5 q3 _ c hc ZP hc /1 %2 ő _ ZI 2 /3 /3 <4
Żb ~self ~left ~look [3
żb Č P C spOk C Ś #9 /1 /2 /3
Žb V.int 0 /1
žb ć 0 /1 ~find !≠ ć 0 /1 ~stair !≠ 1 !∧ !∧
ſb hR pins σ 0 1 e' cls H' s' 2 Fl rr /11
Űc _ Z _ 0 1 2 3 Z 4 5 6 <11
űc s2 _ _ 0 /3
Ųc s1 _ _ 0 /3
ųc Ú a /1 Ú tb /1 Ã Ó c /1 /1 Ú L /1 0 1 2 none none [9
Ŵc swapsWith ý tg 0 /2 Ã Ĕb /1 spos.line X.env /4
ŵc UW Nat.add_le_add_left Ç 0 #64 !≤ : _ /2 r.units /2
Ŷc Room 0 _ /2
ŷc ía 0 x.length #1 !+ /2
Ÿc Ĉ RC K /1 â #3 0 /2 /2
Źc σ H R ta σ H vs H1 0 %2 /3 %3
źc Heap.get?_update_other 0 1 ĥ hb /1 /3
Żc pv #3 /1
żc L6 P w 0 tb n us /6
Žc ć ~find /1 ~stair ~walk ~below ~nth [5
žc i ys H' ç H1 /1 Ľb 0 !∧ !∧ %3
ſc ks.map kV /1
Űd é ~_law_said RN ~desk ~row [2 /3
űd î ZM 0 /1 /1 #640 !≤
Ųd s2.trans s3 /1
ųd ýa Ü #1 /2
Ŵd p thr #4 ûb p ^1 /3 %1
ŵd Ċb k v /2
Ŷd cls _ H' R σ cls H' /3 %3
ŷd mo #1000000000000 !%
Ÿd WA hi /1
Źd œa D /1
źd Ōb ļ lo i !+ /1 /1
Żd _ z z %2
żd PySem.W.kia_one JE kC /1 I.kIn KM I he /2 hk z 0 %1 tk Ĕc b I.tok tk /1 /2 %1 /6
Žd i h st b hb 0 %5
žd tupleKind Ũa /1
ſd hidT s₁.heap H /2
"
  match t.splitOn ("
"++s++" ") with
  |_::r::_=>((r.splitOn "
").headD "").splitOn " "
  |_=>[]
 |_=>[]
open Lean in
def Qn(s:String)(a:Array Syntax):Syntax:=mkNode ("Lean.Parser.Term."++s).toName a
open Lean in
def Qd(x:Array Syntax)(l:List String):Syntax:=Id.run do
 let mut k:Array Syntax:=#[]
 let A:=mkAtom
 let N:=@mkNullNode
 let q:=Qn "hygienicLParen" #[A "(",mkNode `hygieneInfo #[mkIdent .anonymous]]
 for t in l do
  let r:=String.ofList (t.toList.drop 1)
  let n:=r.toNat?.getD 0
  let p:=k.size-n
  let m:=k.extract p k.size
  let y:=k.getD (k.size-1) .missing
  let z:=k.getD (k.size-2) .missing
  let i:=mkIdent r.toName
  let S:=N (mkSepArray m (A ","))
  k:=match t.toList.headD ' ' with
  |'/'=>(k.extract 0 (p-1)).push (Qn "app" #[k.getD (p-1) .missing,N m])
  |'<'=>(k.extract 0 p).push (Qn "anonymousCtor" #[A "⟨",S,A "⟩"])
  |'['=>(k.extract 0 p).push (mkNode `«term[_]» #[A "[",S,A "]"])
  |'%'=>(k.extract 0 (p-1)).push (Qn "fun" #[A "fun",Qn "basicFun" #[N (k.extract (p-1) (k.size-1)),N #[],A "=>",y]])
  |'-'=>k.pop.push (Qn "namedArgument" #[A "(",i,A ":=",y,A ")"])
  |'!'=>k.pop.pop.push (if r=="->" then Qn "arrow" #[z,A r,y] else mkNode (.mkSimple ("term_"++r++"_")) #[z,A r,y])
  |':'=>k.pop.pop.push (Qn "typeAscription" #[q,z,A ":",N #[y],A ")"])
  |'^'=>k.pop.push (Qn "proj" #[Qn "paren" #[q,y,A ")"],A ".",if r.isNat then mkNode `fieldIdx #[A r] else i])
  |'.'=>k.push (Qn "dotIdent" #[A ".",i])
  |'@'=>k.push (Qn "explicit" #[A "@",i])
  |'#'=>k.push (Syntax.mkNumLit r)
  |'~'=>k.push (Syntax.mkStrLit r)
  |'?'=>k.push (Qn "syntheticHole" #[A "?",A "_"])
  |c=>k.push (if t=="_" then Qn "hole" #[A "_"] else if c.isDigit then x.getD (c.toNat-48) .missing else mkIdent t.toName)
 return k.getD 0 .missing
set_option hygiene false
open Lean in
local macro_rules
|`($n:ident)=>match Qk n.getId with
 |[]=>Macro.throwUnsupported
 |[""]=>match n.getId with
  |`À=>`(by omega)
  |`Â=>`(by decide +kernel)
  |`Ç=>`(by decide)
  |`Í=>`(by simp)
  |`ð=>`(prs.map (·.2))
  |_=>Macro.throwUnsupported
 |l=>pure (Qd #[] l)
open Lean in
local macro_rules
|`($n:ident $x*)=>match Qk n.getId with
 |[]=>Macro.throwUnsupported
 |[""]=>
  let o i:=x.getD i ⟨n.raw⟩
  let a:=o 0;let b:=o 1;let c:=o 2;let d:=o 3;let e:=o 4;let f:=o 5;let g:=o 6;let h:=o 7
  match n.getId with
  |`È=>`(ZV (i:=$a) nd rfl (Or.inl rfl) $b)
  |`Û=>`($a->$b->Prop)
  |`ê=>`({ cls:=.type $a,data:=$b })
  |`ö=>`(⟨_,Z,p,_,0,_,Z,Z,sqo $a,WE (i:=0) rfl,Z,_,Z,?_⟩)
  |`ú=>`(by rw [$a:term];exact $b)
  |`ÿ=>`((WI $a).getD $b (.Pass ⟨0,0,0,0⟩))
  |`Ă=>`(∀(f:Z1) (cdv:Z0) (A:Z4) (outer:Æ Env) (s:Z2) (H:Hp) (vs:Æ V) (Q:VK) (E:XK),Room k (A.deeper (envOfC $a (ZJ st) s.heap.objs.size f cdv))->sp vs H Q E -> ∃t,PSs $b (WI st) t/\t { nx:=λ_ H'=>Q .non H',rt:=Q } (UL N vs) H)
  |_=>Macro.throwUnsupported
 |l=>pure (Qd (x.map (·.raw)) l)
local macro_rules
|`(tactic|omega)=>`(tactic|first|lia|omega +splitDisjunctions)
set_option hygiene true
universe u
theorem Z{α:Sort u}{a:α}:a=a:=rfl
noncomputable abbrev Z0:=PySem.Value
noncomputable abbrev Z1:=PySem.Addr
noncomputable abbrev Z2:=PySem.Shared
noncomputable abbrev Z3:=PySem.Program
noncomputable abbrev Z4:=PySem.Around
noncomputable abbrev Z5:=PySem.World
noncomputable abbrev Z6:=PySem.Stmt
noncomputable abbrev Z7:=PySem.Expr
noncomputable abbrev Z8:=PySem.Heap
noncomputable abbrev Z9:=Option
noncomputable abbrev ZD:=@List.length_map
noncomputable abbrev ZC:=@PySem.W.Frag
noncomputable abbrev WA:=@List.getElem?_eq_getElem
noncomputable abbrev WD:=@PySem.Heap.get?_push_of_some
noncomputable abbrev WC:=@Option.some.inj
noncomputable abbrev ZX:=@List.getElem?_map
noncomputable abbrev ZO:=@Nat.le_refl
noncomputable abbrev W2:=@List.map_append
noncomputable abbrev YK:=@List.getElem?_eq_some_iff
noncomputable abbrev YT:=@Bool.and_eq_true
noncomputable abbrev WK:=@List.length_append
noncomputable abbrev W8:=@PySem.Heap.lt_size
noncomputable abbrev WZ:=@List.size_toArray
noncomputable abbrev WT:=@Nat.lt_of_lt_of_le
noncomputable abbrev Y5:=@PySem.Heap.get?_push_size
noncomputable abbrev WF:=@Nat.ne_of_lt
noncomputable abbrev YS:=@Bool.false_ne_true
noncomputable abbrev ZT:=@List.mem_map
noncomputable abbrev UV:=@List.mem_cons_of_mem
noncomputable abbrev WY:=@List.getD_eq_getElem?_getD
noncomputable abbrev W7:=@List.map_map
noncomputable abbrev YR:=@Int.toNat_natCast
noncomputable abbrev Y8:=@List.map_cons
noncomputable abbrev YH:=@List.not_mem_nil
noncomputable abbrev WB:=@Nat.le_trans
noncomputable abbrev U4:=@List.mem_append_right
noncomputable abbrev XT:=@PySem.W.mg_none_of
noncomputable abbrev YL:=@List.length_cons
noncomputable abbrev U5:=@Array.length_toList
noncomputable abbrev YU:=@PySem.W.mg_of
noncomputable abbrev W9:=@List.mem_cons
noncomputable abbrev YA:=@List.mem_append
noncomputable abbrev WW:=@Nat.zero_le
noncomputable abbrev VP:=@List.length_singleton
noncomputable abbrev V3:=@List.mem_singleton
noncomputable abbrev QJ:=@List.length_set
noncomputable abbrev YE:=@List.getElem_mem
noncomputable abbrev XB:=@List.mem_cons_self
noncomputable abbrev TF:=@decide_eq_true_iff
noncomputable abbrev UK:=@List.all_eq_true
noncomputable abbrev UF:=@List.mem_of_getElem?
noncomputable abbrev VO:=@List.length_take
noncomputable abbrev X3:=@PySem.F.plainAttrs_list
noncomputable abbrev QI:=@PySem.F.slot_list_append
noncomputable abbrev QH:=@PySem.F.type_list_append
noncomputable abbrev UW:=@Nat.lt_of_le_of_lt
noncomputable abbrev RG:=@PySem.Heap.SameBut.update
noncomputable abbrev VQ:=@beq_eq_false_iff_ne
noncomputable abbrev ZA:=@PySem.wpAny_bind
noncomputable abbrev ZS:=@decide_eq_true
noncomputable abbrev ZW:=@decide_eq_false
noncomputable abbrev ZE:=@if_neg
noncomputable abbrev ZH:=@if_pos
noncomputable abbrev ZQ:=@PySem.wpAny_pure
noncomputable abbrev WL:=@PySem.wpAny_mono
noncomputable abbrev VC:=@List.nodup_cons
noncomputable abbrev XA:=@decide_eq_decide
noncomputable abbrev RF:=@Int.natCast_nonneg
noncomputable abbrev SE:=@Array.getElem?_toList
noncomputable abbrev O3:=@Int.emod_lt_of_pos
noncomputable abbrev X9:=@Nat.mod_lt
noncomputable abbrev X2:=@List.length_filter_le
noncomputable abbrev QG:=@List.take_of_length_le
noncomputable abbrev X1:=@Nat.lt_irrefl
namespace L2
open PySem PySem.Spec PyProof.Rows
noncomputable abbrev Key:=Sum Int Str
noncomputable def RK:Key->Z0->Bool
 | .inl k,v=>Value.isInt k v
 | .inr x,v=>Value.isStrOf x v
noncomputable def keyH(w:Z5):Key->Int
 | .inl k=>hashInt k
 | .inr x=>hashStr w x
theorem TD:∀{k:Key}{v:Z0},RK k v=true->(∃i t,k=Sum.inl i/\v=Value.int i t)\/(∃x t,k=ça x/\v=Čc x)
 | .inl i,v=>λh=>by
  obtain⟨t,e⟩:=Value.isInt_shape (k:=i) (v:=v) h;exact Ė ⟨i,t,Z,e⟩
 | .inr x,v=>λh=>by
  obtain⟨t,e⟩:=Value.isStrOf_shape (x:=x) (v:=v) h;exact Ŀ ⟨x,t,Z,e⟩
theorem Iu(i:Int)(t:Tok):RK (Ė i) (Řd i)=true:=by simp[RK,Value.isInt]
theorem Jt(x:Str)(t:Tok):RK (Ŀ x) (.str x t)=true:=by simp[RK,Value.isStrOf]
theorem Vj(a b:Int):è ((Sum.inl a:Key)=Sum.inl b)=(a==b):=by
 by_cases e:a=b
 ·subst e;simp
 ·have h:¬(Sum.inl a:Key)=Sum.inl b:=λq=>e (Sum.inl.inj q);rw[ZW h];exact(VQ.mpr e).symm
theorem Vm(a b:Str):è ((ça a:Key)=ça b)=è (a=b):=by
 by_cases e:a=b
 ·subst e;simp
 ·have h:¬(ça a:Key)=ça b:=λq=>e (Sum.inr.inj q);rw[ZW h,ZW e]
theorem Vk(a:Int)(b:Str):è ((Sum.inl a:Key)=ça b)=false:=ZW (λq=>nomatch q)
theorem Vl(a:Str)(b:Int):è ((ça a:Key)=Sum.inl b)=false:=ZW (λq=>nomatch q)
noncomputable def WM(prog:Z3)(w:Z5):PySem.KeyKind prog w Key where
 is:=RK
 hash:=keyH w
 inj:=λv a b ha hb=>by
  rcases TD ha with⟨i,t,rfl,rfl⟩ | ⟨x,t,rfl,rfl⟩
  ·rcases TD hb with⟨j,u,rfl,e⟩ | ⟨y,u,rfl,e⟩
   ·injection e with e1 _;rw[e1]
   ·exact nomatch e
  ·rcases TD hb with⟨j,u,rfl,e⟩ | ⟨y,u,rfl,e⟩
   ·exact nomatch e
   ·injection e with e1 _;rw[e1]
 byValue:=λk v h=>by
  rcases TD h with⟨i,t,rfl,rfl⟩ | ⟨x,t,rfl,rfl⟩<;>rfl
 pyHash:=λhv h=>by
  rcases TD hv with⟨i,t,rfl,rfl⟩ | ⟨x,t,rfl,rfl⟩
  ·exact wpAny_pyHash_int h
  ·exact wpAny_pyHash_str h
 eqBool:=λhu hv h=>by
  rcases TD hu with⟨i,t,rfl,rfl⟩ | ⟨x,t,rfl,rfl⟩
  ·rcases TD hv with⟨j,u,rfl,rfl⟩ | ⟨y,u,rfl,rfl⟩
   ·rw[Vj]at h;exact wpAny_eqBool_int h
   ·rw[Vk]at h;exact SeqAt.EqAt.int_str i t y u _ _ _ _ h
  ·rcases TD hv with⟨j,u,rfl,rfl⟩ | ⟨y,u,rfl,rfl⟩
   ·rw[Vl]at h;exact SeqAt.EqAt.str_int x t j u _ _ _ _ h
   ·rw[Vm]at h;exact wpAny_eqBool_str h
 «strs»:=λk x t v h=>by
  rcases TD h with⟨i,u,rfl,e⟩ | ⟨y,u,rfl,e⟩
  ·exact nomatch e
  ·injection e with e1 _;subst e1;cases v<;>rfl
theorem Dr(prog:Z3)(w:Z5)(i:Int)(t:Tok):(WM prog w).is (Ė i) (Řd i)=true:=Iu i t
theorem Ds(prog:Z3)(w:Z5)(x:Str)(t:Tok):(WM prog w).is (Ŀ x) (.str x t)=true:=Jt x t
open PySem PySem.Spec PyProof.Rows
inductive V where
 |non | bl (b:Bool) | int (i:Int) | str (x:Str) | byt (b:Array UInt8) | sT (x:Str) (n:Nat) | ref (a:Z1) | ty (n:String)
 deriving DecidableEq
noncomputable def V.pl:V->Bool
 | .sT _ _=>false
 |_=>true
noncomputable def RelV:Û V Z0
 | .non,u=>u=Value.none
 | .bl b,u=>u=Value.bool b
 | .int i,u=>∃t,u=Value.int i t
 | .str x,u=>∃t,u=Čc x
 | .byt b,u=>∃t,u=Value.bytes b t
 | .sT x n,u=>∃t,u=Čc x/\1<=t/\t<n
 | .ref a,u=>u=ĩ a
 | .ty n,u=>u=Value.type n
noncomputable abbrev Vals:Û ĝ š:=Paired RelV
theorem Vals.length{xs:ĝ}{us:š}(r:Ŝa xs):xs.length=us.length:=Paired.length r
theorem Vals.get:∀{xs:ĝ}{us:š}{i:Nat}{x:V},Ŝa xs->xs[i]?=äd->∃u,us[i]?=Ã u/\Őa x
 |_,_,_,_,.nil=>λe=>by simp at e
 |_,_,0,_,.cons r _=>λe=>by simp at e;subst e;exact ža r
 |_,_,i+1,x,.cons _ t=>λe=>by
  obtain⟨u,h1,h2⟩:=Vals.get (i:=i) (x:=x) t (by simpa using e);exact ő u (by simpa using h1) h2
theorem Vals.set{x:V}{u:Z0}(r:Őa x):∀{xs:ĝ}{us:š} (i:Nat),Ŝa xs->Vals (xs.set i x) (us.set i u)
 |_,_,_,.nil=>.nil
 |_,_,0,.cons _ t=>Ŭb r t
 |_,_,i+1,.cons q t=>Ŭb q (Vals.set r i t)
theorem Vals.append:∀{xs ys:ĝ}{us ws:š},Ŝa xs->Vals ys ws->Vals (xs++ys) (us++ws)
 |_,_,_,_,.nil=>λs=>s
 |_,_,_,_,.cons r t=>λs=>Ŭb r (Vals.append t s)
theorem Vals.take:∀{xs:ĝ}{us:š} (n:Nat),Ŝa xs->Vals (xs.take n) (us.take n)
 |_,_,0,_=>.nil
 |_,_,_+1,.nil=>.nil
 |_,_,n+1,.cons r t=>Ŭb r (Vals.take n t)
theorem Vals.drop:∀{xs:ĝ}{us:š} (n:Nat),Ŝa xs->Vals (xs.drop n) (us.drop n)
 |_,_,0,r=>r
 |_,_,_+1,.nil=>.nil
 |_,_,n+1,.cons _ t=>Vals.drop n t
noncomputable def RelO:Û (Z9 V) (Z9 Z0)
 |some v,some u=>Őa v
 |none,none=>True
 |_,_=>False
noncomputable def KV{κ:Type}:Û Ńb (ċ κ Z0):=Paired λ(p:κ×V) (q:κ×Z0)=>p.1=q.1/\RelV p.2 q.2
noncomputable def kV:Key->V
 | .inl i=>ïe
 | .inr x=>íd
inductive HO where
 |lst (xs:ĝ)
 |tup (xs:ĝ)
 |dK (kvs:Âb) | dT (kvs:ĩc)
 |set (S:Int->Bool) (n:Nat)
 |ins (C dx:Z1) (fs:ġa V)
 |own (x:Z1)
 |xd (fs:ġa V)
 |met (f x:Z1)
 |rng (lo hi:Int)
 |frz (o:Obj) (u:HO)
 |tbl (ps:Array Z0)
 |ext (φ:Z8->Prop)
noncomputable abbrev Hp:=Z1->Z9 HO
noncomputable def upd(H:Hp)(a:Z1)(o:HO):Hp:=λb=>if b=a then ţ else H b
theorem ZI{H:Hp}{a:Z1}{o:HO}:upd H a o a=ţ:=by unfold upd;rw[ŧb]
theorem ZP{H:Hp}{a b:Z1}{o:HO}(h:b≠a):upd H a o b=H b:=by unfold upd;rw[ZE h]
theorem XY{H:Hp}{a b:Z1}{o u:HO}(h:H a=ţ)(h':H b=Ã u)(d:o≠u):a≠b:=by
 intro e;subst e;rw[h]at h';exact d (WC h')
theorem WX{H:Hp}{a b:Z1}{o:HO}(h:H a=ţ)(h':ē b):a≠b:=by
 intro e;subst e;rw[h]at h';cases h'
section
variable (P:Z3) (w:Z5)
noncomputable def ObjOk(H:Hp)(h:Z8)(a:Z1):HO->Prop
 | .lst xs=>Ďb/\∃(its:š) (n:Nat),Õe/\ŧa a=Ã Ħa
 | .tup xs=>Ďb/\∃its:š,Õe/\IsTup h a its.toArray
 | .dK kvs=>Ĕe/\ſ a/\∃vs,åc/\h.DictOf Ũa a vs
 | .dT kvs=>Ĕe/\ſ a/\∃xs:ýc Đ, Paired (λ(p:List Key×V) (q:List Key×Z1×Z0)=>p.1=q.1/\H q.2.1=Ĥ (p.1.map kV)/\RelV p.2 q.2.2) kvs xs /\ ∃o es ep,őd a/\o.ExactDict/\o.data=ìc/\es.toList=xs.map (entryOfKey žd)/\Çe (xs.map (·.1))
 | .set S n=>h.SetOf (intKind P w) a S n
 | .ins C dx fs=>H dx=Ã (.own a)/\fs.length<=1000/\dx≠a/\ŧa a=Ã (PySem.W.instObj C dx) /\ ∃mA,h.Ns1 dx mA/\(∀f,RelO (Ġb f) (mA f))/\PySem.Within mA (fs.map (·.1))
 | .own _=>∃o,őd a
 | .xd fs=>∃mA,h.Ns1 a mA/\∀f,RelO (Ġb f) (mA f)
 | .rng lo hi=>∃t u v,ŧa a=Ã (Įa "range" #[Řd lo,.int hi u,.int 1 v])
 | .frz o u=>őd a/\ObjOk H h a u
 | .tbl ps=>ŧa a=Ã { cls:=ħb,data:=.fields ps }
 | .met f x=>ŧa a=Ã (PySem.W.methodObj (Ê f) (Ê x))
 | .ext φ=>φ h/\(∃o,őd a)/\∀h1 h2:Z8,φ h1->(∀o,h1.get? a=ţ->h2.get? a=ţ)->φ h2
noncomputable def HOk(H:Hp)(h:Z8):Prop:=∀a o,H a=ţ->Ńa a o
end
section
variable {P:Z3}{w:Z5}{H H':Hp}{h h':Z8}{a:Z1}{o:HO}
theorem ObjOk.lt(x:Ńa a o):a<h.objs.size:=by
 cases o with
 |lst xs=>obtain⟨_,_,_,_,e⟩:=x;exact W8 e
 |tup xs=>obtain⟨_,_,_,p⟩:=x;exact p.lt
 |dK kvs=>obtain⟨_,_,_,_,o,_,_,e,_⟩:=x;exact W8 e
 |dT kvs=>obtain⟨_,_,_,_,o,_,_,e,_⟩:=x;exact W8 e
 |set S n=>obtain⟨o,_,_,_,e,_⟩:=x;exact W8 e
 |ins C dx fs=>obtain⟨_,_,_,e,_⟩:=x;exact W8 e
 |own y=>obtain⟨_,e⟩:=x;exact W8 e
 |xd fs=>obtain⟨_,⟨_,_,_,e,_⟩,_⟩:=x;exact W8 e
 |rng lo hi=>obtain⟨_,_,_,e⟩:=x;exact W8 e
 |frz ob u=>obtain⟨e,_⟩:=x;exact W8 e
 |tbl ps=>exact W8 (show ŧa a=Ã _ from x)
 |met f y=>exact W8 (show ŧa a=Ã _ from x)
 |ext φ=>obtain⟨_,⟨_,e⟩,_⟩:=x;exact W8 e
theorem Paired.mapP{α β:Type}{F G:Û α β}:∀{l₁:Æ α}{l₂:Æ β},Paired F l₁ l₂->(∀a b,F a b->G a b)->Paired G l₁ l₂
 |_,_,.nil=>λ_=>.nil
 |_,_,.cons r t=>λf=>Ŭb (f _ _ r) (Paired.mapP t f)
theorem ObjOk.stay(x:Ńa a o)(k:∀b u,(b=a\/H b=Ã (.own a))->ÿc)
  (ho:∀b,H b=Ã (.own a)->H' b=Ã (.own a)) (ht:∀b xs,H b=Ĥ xs->H' b=Ĥ xs):ObjOk P w H' h' a o:=by
 induction o with
 |lst xs=>obtain⟨z,its,n,r,e⟩:=x;exact⟨z,its,n,r,Ąc⟩
 |tup xs=>obtain⟨z,its,r,ob,e,c⟩:=x;exact⟨z,its,r,ob,Ąc,c⟩
 |dK kvs=>obtain⟨z,y,vs,r,ob,es,ep,e,c⟩:=x;exact⟨z,y,vs,r,ob,es,ep,Ąc,c⟩
 |dT kvs =>
  obtain⟨z,y,xs,r,ob,es,ep,e,c⟩:=x;exact⟨z,y,xs,Paired.mapP r λp q z=>ő z.1 (ht _ _ z.2.1) z.2.2,ob,es,ep,Ąc,c⟩
 |set S n=>obtain⟨ob,es,ep,t,e,c⟩:=x;exact⟨ob,es,ep,t,Ąc,c⟩
 |ins C dx fs =>
  obtain⟨d,z,ne,e,mA,⟨od,es,ep,e2,c⟩,r⟩:=x;exact⟨ho _ d,z,ne,Ąc,mA,⟨od,es,ep,k _ _ (Ŀ d) e2,c⟩,r⟩
 |own y=>obtain⟨ob,e⟩:=x;exact ã ob Ąc
 |xd fs=>obtain⟨mA,⟨od,es,ep,e,c⟩,r⟩:=x;exact ő mA ⟨od,es,ep,Ąc,c⟩ r
 |rng lo hi=>obtain⟨t,u,v,e⟩:=x;exact⟨t,u,v,Ąc⟩
 |frz ob u ih=>obtain⟨e,q⟩:=x;exact ã Ąc (ih q)
 |tbl ps =>
  have e:ŧa a=Ã { cls:=ħb,data:=.fields ps }:=x;show İa a=Ã { cls:=ħb,data:=.fields ps };exact k a _ ĭa e
 |met f y =>
  have e:ŧa a=Ã (PySem.W.methodObj (Ê f) (Ê y)):=x;show İa a=Ã (PySem.W.methodObj (Ê f) (Ê y));exact k a _ ĭa e
 |ext φ=>obtain⟨p,⟨o,e⟩,st⟩:=x;exact ő (st _ _ p λo q=>k _ _ ĭa q) (ã o Ąc) st
theorem HOk.lt(x:æb)(e:H a=ţ):a<h.objs.size:=(x a o e).lt
theorem HOk.fresh(x:æb)(e:h.objs.size<=a):ē a:=by
 cases q:H a with
 |none=>rfl
 |some u=>exact Ëc (x.lt q) e
theorem HOk.kept(x:æb)(k:∀b u,ÿc):HOk P w H h':=λa o e => (x a o e).stay (λb u _ q=>k b u q) (λ_ q=>q) λ_ _ q=>q
theorem HOk.laid(x:æb)(k:∀b u,ÿc)(hp:h.objs.size<=a)(new:ObjOk P w (upd H a o) h' a o):HOk P w (upd H a o) h':=λb u e=>by
 have hn:=x.fresh hp
 by_cases hb:b=a
 ·subst hb;rw[ZI]at e;cases e;exact new
 ·rw[ZP hb]at e;exact(x b u e).stay (λc v _ q=>k c v q) (λc q=>Řa (WX q hn) q) λc xs q=>Řa (WX q hn) q
end
noncomputable def Rd(H:Hp)(a:Z1)(u:HO):Prop:=H a=Ã u\/∃o,H a=Ã (.frz o u)
theorem Rd.ok{P:Z3}{w:Z5}{H:Hp}{h:Z8}{a:Z1}{u:HO}(r:Rd H a u)(x:æb):Ńa a u:=by
 rcases r with r | ⟨o,r⟩
 ·exact x a u r
 ·obtain⟨_,q⟩:=x a _ r;exact q
noncomputable def Mut:Z9 HO->Prop
 |some (.lst _)=>True
 |some (.dK _)=>True
 |some (.dT _)=>True
 |some (.set _ _)=>True
 |some (.ins _ _ _)=>True
 |some (.ext _)=>True
 |_=>False
section
variable {P:Z3}{w:Z5}{H:Hp}{h h':Z8}{x e:Z1}{o':HO}
theorem HOk.write(ok:æb)(mu:Mut (H x))(he:e=x\/H e=Ã (.own x))(k:∀b u,b≠e->ÿc)(heo:∃u,İa e=Ã u)
  (new:ObjOk P w (upd H x o') h' x o'):HOk P w (upd H x o') h':=λb u q=>by
 have nown:∀c y,H c=Ã (.own y)->c≠x:=λc y r z=>by subst z;rw[r]at mu;exact mu
 have ntup:∀c xs,H c=Ĥ xs->c≠x:=λc xs r z=>by subst z;rw[r]at mu;exact mu
 by_cases hb:b=x
 ·subst hb;rw[ZI]at q;cases q;exact new
 ·rw[ZP hb]at q
  by_cases hbe:b=e
  ·have q':H b=Ã (.own x):=by
    rcases he with z | z
    ·exact ń (hbe.trans z) hb
    ·rw[hbe];exact z
   rw[q]at q';cases q';obtain⟨v,hv⟩:=heo;exact ã v (by rw[hbe];exact hv)
  ·refine(ok b u q).stay (λc v hc r=>k c v ?_ r) (λc r=>Řa (nown c b r) r) λc xs r=>Řa (ntup c xs r) r
   rcases hc with rfl | hc
   ·exact hbe
   ·rintro rfl;rcases he with z | z
    ·exact nown c b hc z
    ·rw[hc]at z;cases z;exact hb rfl
end
structure Un(fs ex:ãb)(H H':Hp)(h h':Z8):Prop where
 keep:∀b o,őd b->ē b->b∉fs->b∉ex->İa b=ţ
 slot:∀b o,őd b->ē b->b∈fs->b∉ex->∃sl,İa b=Ã { o with slots:=sl }
 free:∀b o,őd b->ē b->b∉ex->Ďe b
 there:∀b o,őd b->b∉ex->∃o',İa b=Ã o'
 tups:∀b xs,H b=Ĥ xs->H' b=Ĥ xs
 frzs:∀b o u,H b=Ã (.frz o u)->H' b=Ã (.frz o u)
 tbls:∀b ps,H b=Ã (.tbl ps)->∃more,H' b=Ã (.tbl (ps++more))
section
variable {fs fs' ex ex':ãb}{H H1 H2:Hp}{h h1 h2 h':Z8}{a x e:Z1}{o:HO}
theorem Un.any(u:Un fs ex H H1 h h1){b:Z1}{ob:Obj}(q:ŧa b=Ã ob)(n:ē b)(hx:b∉ex):∃sl,h1.get? b=Ã { ob with slots:=sl }:=by
 by_cases hb:b∈fs
 ·exact u.slot b ob q n hb hx
 ·exact ã ob.slots (u.keep b ob q n hb hx)
theorem Un.kept(k:∀b u,ÿc):Un fs ex H H h h' :=
 ⟨λb ob q _ _ _=>k b ob q,λb ob q _ _ _=>ã ob.slots (k b ob q),λ_ _ _ n _=>n,λb ob q _=>ã ob (k b ob q),λ_ _ q=>q,λ_ _ _ q=>q,λ_ ps q=>ã #[] (by rw[q];simp)⟩
theorem Un.refl:Un fs ex H H h h:=Un.kept λ_ _ q=>q
theorem Un.laid(k:∀b u,ÿc)(hp:h.objs.size<=a)(hn:ē a):Un fs ex H (upd H a o) h h' where
 keep:=λb u q _ _ _=>k b u q
 slot:=λb u q _ _ _=>ã u.slots (k b u q)
 free:=λb u q n _=>Řa (WF (WT (W8 q) hp)) n
 there:=λb u q _=>ã u (k b u q)
 tups:=λb xs q=>Řa (WX q hn) q
 frzs:=λb u xs q=>Řa (WX q hn) q
 tbls:=λb ps q=>ã #[] (by rw[ZP (WX q hn),q];simp)
theorem Un.write(mu:Mut (H x))(he:e=x\/H e=Ã (.own x))(k:∀b u,b≠e->ÿc)(heo:∃u,İa e=Ã u):Un fs ex H (upd H x o) h h':=by
 have hx:∀b,ē b->b≠x:=λb n z=>by subst z;rw[n]at mu;exact mu
 have hb:∀b,ē b->b≠e:=λb n z=>by
  subst z;rcases he with r | r
  ·exact hx b n r
  ·rw[n]at r;cases r
 have hm:∀b u,H b=Ã u->¬Mut (Ã u)->b≠x:=λb u q nm z=>by subst z;rw[q]at mu;exact nm mu
 refine⟨λb u q n _ _=>k b u (hb b n) q,λb u q n _ _=>ã u.slots (k b u (hb b n) q),λb u q n _=>Řa (hx b n) n,λb u q _=>?_, λb xs q=>Řa (hm b _ q λz=>z) q,λb u xs q=>Řa (hm b _ q λz=>z) q,λb ps q=>ã #[] (by rw[ZP (hm b _ q λz=>z),q];simp)⟩
 by_cases hbe:b=e
 ·subst hbe;exact heo
 ·exact ã u (k b u hbe q)
theorem Un.mono(u:Un fs ex H H1 h h1)(hs:∀b∈fs,b∈fs')(hx:∀b∈ex,b∈ex'):Un fs' ex' H H1 h h1 :=
 ⟨λb ob q n hb he=>u.keep b ob q n (λz=>hb (hs b z)) λz=>he (hx b z),λ_ _ q n _ he=>u.any q n λz=>he (hx _ z),λb ob q n he=>u.free b ob q n λz=>he (hx b z),λb ob q he=>u.there b ob q λz=>he (hx b z),u.tups,u.frzs,u.tbls⟩
end
noncomputable def trk(h:Z8)(H:Hp):ãb:=(Ĵ h.objs.size).filter λa=>íe (H a)
noncomputable def hidT(h:Z8)(H:Hp):Z8:=PySem.W.hideAll h (trk h H)
theorem Ip(h:Z8)(H:Hp):Íc (hidT h H)=h.objs.size:=PySem.W.hideAll_size _ _
theorem Nd{h:Z8}{H:Hp}{b:Z1}{o:Obj}(e:őd b)(n:ē b):(hidT h H).get? b=ţ :=
 PySem.W.hideAll_get _ e λhm=>by
  have q:íe (H b)=true:=(Üd hm).2;rw[n]at q;simp at q
theorem Sk{h:Z8}{H:Hp}{b:Z1}{o:Obj}(e:(hidT h H).get? b=ţ):őd b/\ē b:=by
 have e':őd b:=PySem.W.of_hideAll (trk h H) e;refine ųb e';cases q:H b with
 |none=>rfl
 |some x =>
  have hm:b∈trk h H:=List.mem_filter.mpr (ã (List.mem_range.mpr (W8 e')) (by simp[q]));have z:(hidT h H).get? b=none:=PySem.W.hideAll_none (trk h H) hm;rw[z]at e;cases e
noncomputable def Xs(g h:Z8)(L:Z1):æ:=(Ĵ h.objs.size).filterMap λa=>if a=L\/íe (g.get? a)=true then none else(ŧa a).map λo=>(a,o)
noncomputable def rest(g h:Z8)(L d:Z1):æ:=(Xs g h L).filter λp=>è (p.1≠d)
open PySem PySem.Spec PyProof.Rows
structure Mod(K:ZC)(mg:Ą)(base:Z8):Prop where
 kin:K.In base
 glob:Ţc
 blt:∃mb,base.Ns builtinsNs mb/\∀x:Str,Őb -> mb x=ñc
 nolimit:base.NoLimit
structure Cx where
 prog:Z3
 w:Z5
 K:ZC
 mg:Ą
 base:Z8
 A:Z4
 N:ù
 s₀:Z2
 H₀:Hp
 env:Env
 outer:êb
 stack:êb
 ex:ãb
 fn:Str->Bool
 calm:Bool
 pn:æ
 xe:ģ
noncomputable def frs(l:êb):ãb:=l.filterMap (·.frame)
noncomputable abbrev Cx.fs(X:Cx):ãb:=frs X.outer
noncomputable def RH(sc:Scope)(x:Str):Prop:=ðb=ēe\/ĺb ðb
noncomputable def Loc(sc:Scope)(x:Str):Prop:=ðb=ēe\/ðb=Ã .cell
noncomputable def Look(env:Env)(h:Z8)(m:Ą)(x:Str)(u:Z0):Prop :=
 (env.kindOf x=ēe/\m x=Ã u)\/((ĺb (env.kindOf x))/\∃c,ŏd x=Ã c/\h.IsCell c (Ã u))
structure Cx.Ok(X:Cx):Prop where
 mod:Mod X.K X.mg X.base
 kind:X.env.scope.kind=.function
 glob:X.env.globals=mainGlobals
 blt:X.env.builtins=builtinsNs
 above:X.s₀.heap.objs.size<=X.env.locals
 inj:∀x y c,ť=Ã c->X.env.cells.lookup y=Ã c->x=y
 has:∀x,(ĺb (X.env.kindOf x))->∃c,ť=Ã c
 cab:∀x c,X.fn x=true->ť=Ã c->X.s₀.heap.objs.size<=c
 hd:èa->X.A.handled=none
 frames:X.A.frames=Ã X.stack
 stk:X.stack=X.outer\/(X.stack=X.env::X.outer/\X.env.frame=Ã X.env.locals)
 exf:∀b∈X.ex,b≠X.env.locals/\∀x c,ť=Ã c->c≠b
 bs:∀b o,X.base.get? b=ţ->æc=ţ/\X.H₀ b=none
 bsz:X.base.objs.size<=X.s₀.heap.objs.size
 noex:∀b o,X.base.get? b=ţ->b∉X.ex
 exfs:∀b∈X.ex,b∉X.fs
 funs:X.s₀.heap.FunFrames X.base X.outer
 frf:∀b∈X.fs,X.H₀ b=none
structure Inv(X:Cx)(pins:æ)(σ:Æ (Z9 V))(H:Hp)(s:Z2):Prop where
 ok:X.Ok
 os:s.os=X.s₀.os
 bare:AllBare s.gens
 base:Un X.fs X.ex X.H₀ H X.s₀.heap s.heap
 loc:∃m,s.heap.Ns X.env.locals m/\∀(i:Nat) (x:Str) (v:V),X.N[i]?=äd->σ[i]?=Ã ôc->Ĥd->∃u,Őa v/\Look X.env s.heap m x u
 cell:∀x c,ť=Ã c->∃v,s.heap.IsCell c v
 free:ē X.env.locals
 freeC:∀x c,ť=Ã c->ē c
 pin:∀p∈X.pn++pins,ą p.1 p.2/\ē p.1/\p.1≠X.env.locals/\p.1∉X.fs/\∀v,p.2.data≠.cell v
 hok:įc H s.heap
 len:σ.length=X.N.length
section
variable {X:Cx}{pins:Æ âb}{σ:Æ (Z9 V)}{H H':Hp}{s:Z2}{h':Z8}
theorem Cx.Ok.nofr(ok:X.Ok){b:Z1}{o:Obj}(e:X.base.get? b=ţ):b∉X.fs:=λhb=>by
 have:=(ok.funs.mem hb).1;rw[e]at this;cases this
theorem Inv.bs(I:Ĝ):∀b o,X.base.get? b=ţ->ěd/\ē b:=λb o e => ã (I.base.keep b o (I.ok.bs b o e).1 (I.ok.bs b o e).2 (I.ok.nofr e) (I.ok.noex b o e)) (I.base.free b o (I.ok.bs b o e).1 (I.ok.bs b o e).2 (I.ok.noex b o e))
theorem Inv.bk(I:Ĝ):∀b o,X.base.get? b=ţ->ěd:=λb o e=>(I.bs b o e).1
theorem Inv.mod(I:Ĝ):Mod X.K X.mg X.base:=I.ok.mod
theorem Inv.kIn(I:Ĝ):X.K.In s.heap:=I.ok.mod.kin.keeps I.bk
theorem Inv.fr(I:Ĝ):∃m,Fr X.base X.env.locals s.heap m :=
 let ⟨m,hn,_⟩:=I.loc
 ⟨m,hn,I.bk,WB I.ok.bsz I.ok.above⟩
theorem Inv.lt(I:Ĝ):X.env.locals<s.heap.objs.size:=let ⟨_,hn,_⟩:=I.loc;hn.lt
theorem Inv.sz(I:Ĝ):X.s₀.heap.objs.size<=s.heap.objs.size:=WB I.ok.above (Nat.le_of_lt I.lt)
theorem Inv.nofs(I:Ĝ){a:Z1}(h:s.heap.objs.size<=a):a∉X.fs:=λhb=>by
 obtain⟨_,o,ho,_⟩:=I.ok.funs.mem hb;exact Ëc (W8 ho) (WB I.sz h)
theorem Inv.cne(I:Ĝ):∀x c,ť=Ã c->c≠X.env.locals:=λx c e z=>by
 obtain⟨v,o,ho,hd⟩:=I.cell x c e;obtain⟨m,⟨o',es,ep,ho',hd',_⟩,_⟩:=I.loc;rw[z,ho']at ho;cases ho;rw[hd']at hd;cases hd
theorem Inv.funs(I:Ĝ):s.heap.FunFrames X.base X.outer:=by
 have all:∀(l:êb),(∀b∈frs l,b∈X.fs)->X.s₀.heap.FunFrames X.base l->s.heap.FunFrames X.base l:=by
  intro l
  induction l with
  |nil=>intro _ _;trivial
  |cons env r ih =>
   intro hs hl;obtain⟨hk,⟨L,o,hf,hn,ho,hd⟩,hr⟩:=hl;have hL:L∈X.fs:=hs L (by unfold frs;rw[List.filterMap_cons,hf];exact XB);obtain⟨sl,e⟩:=I.base.slot L o ho (I.ok.frf L hL) hL λz=>I.ok.exfs L z hL;exact ő hk ⟨L,_,hf,hn,e,hd⟩ (ih (ěa (hs b (by unfold frs;rw[List.filterMap_cons,hf];exact UV _ hb))) hr)
 exact all X.outer (λ_ hb=>hb) I.ok.funs
theorem Inv.stack(I:Ĝ):s.heap.FunFrames X.base X.stack:=by
 rcases I.ok.stk with e | ⟨e,hf⟩
 ·rw[e];exact I.funs
 ·rw[e];obtain⟨m,hn,_⟩:=I.loc;refine .cons (by rw[I.ok.kind];decide) hf hn ?_ I.funs;exact Heap.get?_none_of_le (WB I.ok.bsz I.ok.above)
theorem Inv.stkSub(I:Ĝ):∀b∈őc,b∈X.env.locals::X.fs:=ěa (by
 rcases I.ok.stk with e | ⟨e,hf⟩
 ·rw[e]at hb;exact UV _ hb
 ·rw[e]at hb;unfold frs at hb;rw[List.filterMap_cons,hf]at hb;exact hb)
theorem Inv.stkFree(I:Ĝ):∀b∈őc,ē b:=ěa (by
 rcases ĳd (I.stkSub b hb)with e | hb
 ·rw[e];exact I.free
 ·obtain⟨_,o,ho,_⟩:=I.ok.funs.mem hb;exact I.base.free b o ho (I.ok.frf b hb) λz=>I.ok.exfs b z hb)
theorem Inv.step{g':Array GenState}{t':Nat}{d':Drawn}{ch:ãb}(I:Ĝ)
  (hch:∀b∈ch,(Īb b)/\b≠X.env.locals/\(∀x c,ť=Ã c->c≠b)/\∀p∈X.pn++pins,p.1≠b)
  (keep:∀b o,b≠X.env.locals->b∉X.fs->b∉ch->ěd->ē b->İa b=ţ)
  (slot:∀b o,b≠X.env.locals->b∈X.fs->b∉ch->ěd->ē b->∃sl,İa b=Ã { o with slots:=sl }) (free:∀b o,b∉ch->ěd->ē b->Ďe b)
  (there:∀b o,b∉ch->ěd->∃o',İa b=Ã o')
  (tups:∀b xs,H b=Ĥ xs->H' b=Ĥ xs) (frzs:∀b o u,H b=Ã (.frz o u)->H' b=Ã (.frz o u)) (tbls:∀b ps,H b=Ã (.tbl ps)->∃more,H' b=Ã (.tbl (ps++more)))
  (ns:∀m,s.heap.Ns X.env.locals m->h'.Ns X.env.locals m) (hok:įc H' h') (hg:AllBare g') :
  É H' { s with heap:=h',gens:=g',drawn:=d',toks:=t' }:=by
 have neL:∀b o,æc=ţ->b≠X.env.locals:=λb o e=>Źa;have neC:∀b o,æc=ţ->b∉X.ex->b∉ch:=λb o e hx hb=>by
  rcases(hch b hb).1 with z | z
  ·exact hx z
  ·exact Ëc (W8 e) z
 have cellK:∀x c,ť=Ã c->∀v,s.heap.IsCell c v->h'.IsCell c v:=λx c e v ⟨o,ho,hd⟩=>by
  have nch:c∉ch:=λz=>(hch c z).2.2.1 x c e rfl
  by_cases hc:c∈X.fs
  ·obtain⟨sl,q⟩:=slot c o (I.cne x c e) hc nch ho (I.freeC x c e);exact ő _ q hd
  ·exact ő o (keep c o (I.cne x c e) hc nch ho (I.freeC x c e)) hd
 refine⟨I.ok,I.os,hg,⟨Ża,Ża,λb o e n hx=>?_,λb o e hx=>?_,λb xs e=>tups b xs (I.base.tups b xs e),λb o xs e=>frzs b o xs (I.base.frzs b o xs e),λb ps e=>?_⟩,?_,áe,?_,áe,Åc,hok,I.len⟩
 ·exact keep b o (neL b o e) hb (neC b o e hx) Ád (I.base.free b o e n hx)
 ·obtain⟨sl,e1⟩:=ĝd;obtain⟨sl',e2⟩:=slot b _ (neL b o e) hb (neC b o e hx) e1 (I.base.free b o e n hx);exact ã sl' e2
 ·obtain⟨o',e1⟩:=ãd;exact free b o' (neC b o e hx) e1 (I.base.free b o e n hx)
 ·obtain⟨o',e1⟩:=ãd;exact there b o' (neC b o e hx) e1
 ·obtain⟨m1,e1⟩:=I.base.tbls b ps e;obtain⟨m2,e2⟩:=tbls b _ e1;exact ã (m1++m2) (by rw[e2,Array.append_assoc])
 ·obtain⟨m,hn,hl⟩:=I.loc;refine ő m (ns m hn) (λi x v e1 e2 e3=>?_);obtain⟨u,r,l⟩:=hl i x v e1 e2 e3;refine ő u r ?_;rcases l with l | ⟨k,c,e,z⟩
  ·exact Ė l
  ·exact Ŀ ⟨k,c,e,cellK x c e _ z⟩
 ·obtain⟨v,z⟩:=I.cell x c e;exact ã v (cellK x c e v z)
 ·obtain⟨m,⟨o,_,_,ho,_⟩,_⟩:=I.loc;exact free _ o (λz=>(hch _ z).2.1 rfl) ho I.free
 ·obtain⟨v,o,ho,hd⟩:=I.cell x c e;exact free c o (λz=>(hch c z).2.2.1 x c e rfl) ho (I.freeC x c e)
 ·obtain⟨e,n,ne,nf,d⟩:=I.pin p hp;have nch:p.1∉ch:=λz=>(hch p.1 z).2.2.2 p hp rfl;exact⟨keep p.1 p.2 ne nf nch e n,free p.1 p.2 nch e n,ne,nf,d⟩
theorem Inv.un{t':Nat}(I:Ĝ)(u:Un X.fs [] H H' s.heap h')(hok:įc H' h'):É H' { s with heap:=h',toks:=t' }:=by
 obtain⟨m,⟨o,es,ep,ho,r⟩,_⟩:=id I.loc;obtain⟨sl,hL⟩:=u.any ho I.free Í;exact I.step (g':=s.gens) (d':=s.drawn) (ch:=[]) (λ_ z=>nomatch z) (λb o _ hb _ e n=>u.keep b o e n hb Í) (λb o _ hb _ e n=>u.slot b o e n hb Í) (λb o _ e n=>u.free b o e n Í) (λb o _ e=>u.there b o e Í) u.tups u.frzs u.tbls (λm' hm=>by
  obtain⟨o',es',ep',ho',r'⟩:=hm;rw[ho]at ho';cases ho'
  exact şc es' ep' hL r') hok I.bare
theorem Inv.call{g':Array GenState}{t':Nat}{d':Drawn}{ch:ãb}(I:Ĝ)(u:Un őc ch H H' s.heap h')(hok:įc H' h')(hg:AllBare g')
  (hch:∀b∈ch,(Īb b)/\b≠X.env.locals/\(∀x c,ť=Ã c->c≠b)/\∀p∈X.pn++pins,p.1≠b) :
  É H' { s with heap:=h',gens:=g',drawn:=d',toks:=t' }:=by
 obtain⟨m,⟨o,es,ep,ho,r⟩,_⟩:=id I.loc;obtain⟨sl,hL⟩:=u.any ho I.free λz=>(hch _ z).2.1 rfl;exact I.step (ch:=ch) hch (λb o hL hb hc e n=>u.keep b o e n (λz=>(ĳd (I.stkSub b z)).elim hL hb) hc) (λb o _ _ hc e n=>u.any e n hc) (λb o hc e n=>u.free b o e n hc) (λb o hc e=>u.there b o e hc) u.tups u.frzs u.tbls (λm' hm=>by
  obtain⟨o',es',ep',ho',r'⟩:=hm;rw[ho]at ho';cases ho'
  exact şc es' ep' hL r') hok hg
theorem Inv.turned{t':Nat}{it:Z1}(I:Ĝ)(k:∀b o,b≠it->ěd->İa b=ţ)(hn:ē it)(hL:it≠X.env.locals)
  (h1:Īb it) (h2:∀x c,ť=Ã c->c≠it) (h3:∀p∈X.pn++pins,p.1≠it):É H { s with heap:=h',toks:=t' }:=by
 have nit:∀b u,H b=Ã u->b≠it:=λb u e z=>by rw[z,hn]at e;cases e
 refine I.step (g':=s.gens) (d':=s.drawn) (ch:=[it]) Óa (λb o _ _ hc e _=>k b o (λz=>hc (by simp[z])) e) (λb o _ _ hc e _=>ã o.slots (k b o (λz=>hc (by simp[z])) e)) (λ_ _ _ _ n=>n) (λb o hc e=>ã o (k b o (λz=>hc (by simp[z])) e)) (λ_ _ e=>e) (λ_ _ _ e=>e) (λb ps e=>ã #[] (by rw[e];simp)) (λm hm=>?_) (λb u e=>?_) I.bare
 ·have e:b=it:=by simpa using hb
  subst e;exact⟨h1,hL,h2,h3⟩
 ·obtain⟨o,es,ep,ho,r⟩:=hm;exact⟨o,es,ep,k _ o (ĥ hL) ho,r⟩
 ·refine(I.hok b u e).stay (λc v hc q=>k c v ?_ q) (λ_ q=>q) λ_ _ q=>q;rcases hc with z | z
  ·rw[z];exact nit b u e
  ·exact nit c _ z
theorem Inv.tok(I:Ĝ)(t:Nat):É H { s with toks:=t }:=I.un (h':=s.heap) (t':=t) Un.refl I.hok
theorem Inv.kept{t':Nat}(I:Ĝ)(k:∀b u,ą b u->İa b=Ã u):É H { s with heap:=h',toks:=t' }:=I.un (Un.kept k) (I.hok.kept k)
theorem Inv.laid{a:Z1}{o:HO}{t':Nat}(I:Ĝ)(k:∀b u,ą b u->İa b=Ã u)(hp:s.heap.objs.size<=a)(new:ķa (upd H a o) h' a o) :
  É (upd H a o) { s with heap:=h',toks:=t' }:=I.un (Un.laid k hp (òb hp)) (I.hok.laid k hp new)
theorem Inv.write{x e:Z1}{o:HO}{t':Nat}(I:Ĝ)(mu:Mut (H x))(he:e=x\/H e=Ã (.own x))(k:∀b u,b≠e->ą b u->İa b=Ã u)(heo:∃u,İa e=Ã u)
  (new:ķa (upd H x o) h' x o):É (upd H x o) { s with heap:=h',toks:=t' }:=I.un (Un.write mu he k heo) (I.hok.write mu he k heo new)
theorem Inv.pins_of{pins':æ}(I:Ĝ)(h:∀p∈pins',ą p.1 p.2/\ē p.1/\p.1≠X.env.locals/\p.1∉X.fs/\∀v,p.2.data≠.cell v):Ëe X pins' :=
 ņ I.ok (Ļ ((ũd hp).elim (λz=>I.pin p (Ąe z)) (h p)))
theorem JH{N:ù}(hN:N.Nodup){i j:Nat}{x:Str}(a:N[i]?=äd)(b:N[j]?=äd):i=j:=by
 obtain⟨h1,e1⟩:=YK.mp a;obtain⟨h2,e2⟩:=YK.mp b;exact(List.getElem_inj hN).mp (e1.trans e2.symm)
theorem MN{M:Model}{A:Z4}{E:ģ}{i:Nat}{x:Str}{v:V}{u:Z0}{Q:İc Unit}(I:Ĝ)(hN:X.N.Nodup)(hi:X.N[i]?=äd)(hx:Ŋb x)(r:Őa v)
  (h:∀s',Inv X pins (ľd ôc) H s'->(∃a,đa a s'.heap/\(a=X.env.locals\/ť=Ã a))->Q () s') (hf:Ĳ x:=by first | exact ĭa | exact ôe | assumption):úa M A (storeName X.env x u):=by
 obtain⟨m,hn,hl⟩:=id I.loc;have hcls:Ķb ĳc:=by rw[I.ok.kind];rfl
 have hiσ:i<σ.length:=by rw[I.len];exact Ăb hi
 have cne:=I.cne;have tracked:∀{a:Z1}{h':Z8},(∃o,ą a o/\ē a)->đa a h'->įc H h':=λ{a h'} ha hs b ob e=>by
  obtain⟨_,_,hfree⟩:=ha;refine(I.hok b ob e).stay (λc w' hc q=>(hs.2 c ?_).trans q) (λ_ q=>q) λ_ _ q=>q;rintro rfl;rcases hc with rfl | hc
  ·rw[hfree]at e;cases e
  ·rw[hfree]at hc;cases hc
 rcases hx with hk | hk
 ·refine wpAny_storeName_local hk hn (λh' hn' hs=>?_) hcls;obtain⟨oL,_,_,hoL,_⟩:=id hn;refine ăe _ _ hn' (λy c e=>?_) (ő oL hoL I.free) (by simpa using I.len) _ ĭa
  ·exact(hs.2 b Źa).trans Ád
  ·obtain⟨sl,e1⟩:=ĝd;exact ã sl ((hs.2 b Źa).trans e1)
  ·obtain⟨o',e1⟩:=ãd;exact ã o' ((hs.2 b Źa).trans e1)
  ·by_cases hj:j=i
   ·subst hj;rw[hi]at e1;cases e1;rw[List.getElem?_set_self hiσ]at e2;cases e2;exact ő u r (ìb hk Í)
   ·rw[List.getElem?_set_ne (ĥ hj)]at e2;obtain⟨u',r',q⟩:=hl j y v' e1 e2 e3;refine ő u' r' ?_;rcases q with⟨k,e⟩ | ⟨k,c,e,z⟩
    ·refine ìb k ?_;have:y≠x:=λe=>hj (JH hN e1 (e▸hi));simp[this,e]
    ·exact Ŀ ⟨k,c,e,ĉe e⟩
  ·obtain⟨w',z⟩:=I.cell y c e;exact ã w' (ĉe e)
  ·obtain⟨e,n,ne,nf,d⟩:=I.pin p hp;exact⟨(hs.2 p.1 ne).trans e,n,ne,nf,d⟩
 ·have hfn:X.fn x=true:=by
   rcases hf with z | z
   ·exact z
   ·rw[z]at hk;cases hk
  obtain⟨c,hc⟩:=I.ok.has x (Ė hk);obtain⟨w',z⟩:=I.cell x c hc;refine wpAny_storeName_cell I.ok.kind hk hc z (λh' hc' hs=>?_);obtain⟨oc,hoc,hocd⟩:=id z;refine ăe { s with heap:=h' } m (hn.sameBut hs (ĥ (cne x c hc))) (λy c' e=>?_) (ő oc hoc (I.freeC x c hc)) (by simpa using I.len) c (Ŀ hc)
  ·exact(hs.2 b Þd).trans Ád
  ·obtain⟨sl,e1⟩:=ĝd;exact ã sl ((hs.2 b Þd).trans e1)
  ·obtain⟨o',e1⟩:=ãd;exact ã o' ((hs.2 b Þd).trans e1)
  ·by_cases hj:j=i
   ·subst hj;rw[hi]at e1;cases e1;rw[List.getElem?_set_self hiσ]at e2;cases e2;exact ő u r (Ŀ ⟨Ė hk,c,hc,hc'⟩)
   ·rw[List.getElem?_set_ne (ĥ hj)]at e2;obtain⟨u',r',q⟩:=hl j y v' e1 e2 e3;refine ő u' r' ?_;rcases q with q | ⟨k,c',e,z'⟩
    ·exact Ė q
    ·refine Ŀ ⟨k,c',e,z'.sameBut hs ?_⟩;rintro rfl;exact hj (JH hN e1 (I.ok.inj _ _ _ e hc▸hi))
  ·by_cases hcc:c'=c
   ·subst hcc;exact Ņ hc'
   ·obtain⟨w2,z2⟩:=I.cell y c' e;exact ã w2 (z2.sameBut hs hcc)
  ·obtain⟨e,n,ne,nf,d⟩:=I.pin p hp;refine⟨(hs.2 p.1 ?_).trans e,n,ne,nf,d⟩;intro q;rw[q,hoc]at e;have q':oc=p.2:=WC e;exact d w' (by rw[<- q'];exact hocd)
theorem SX{M:Model}{A:Z4}{E:ģ}{i:Nat}{x:Str}{v:V}{u:Z0}{Q:İc Unit}(I:Ĝ)(hN:X.N.Nodup)(hi:X.N[i]?=äd)(hx:Ŋb x)(r:Őa v)
  (h:∀s',Inv X pins (ľd ôc) H s'->Q () s') (hf:Ĳ x:=by first | exact ĭa | exact ôe | assumption):úa M A (storeName X.env x u) :=
 MN I hN hi hx r (λs' I' _=>h s' I') hf
theorem Inv.call'{s':Z2}{ch:ãb}(I:Ĝ)(ho:s'.os=s.os)(u:Un őc ch H H' s.heap s'.heap)(hok:įc H' s'.heap)(hg:AllBare s'.gens)
  (hch:∀b∈ch,(Īb b)/\b≠X.env.locals/\(∀x c,ť=Ã c->c≠b)/\∀p∈X.pn++pins,p.1≠b):É H' s':=by
 obtain⟨h',g',d',t',o'⟩:=s';have e:o'=s.os:=ho;subst e;exact I.call (g':=g') (t':=t') (d':=d') u hok hg hch
end
noncomputable abbrev XK:=Z0->Ť (Z9 Z1)
noncomputable abbrev St:=Æ (Z9 V)
noncomputable abbrev VK:=Ť V
noncomputable abbrev TE:=St->Ŭa
noncomputable abbrev TT:=St->Û Hp (Ť Bool)
noncomputable abbrev TA:=St->Û Hp (Ť ĝ)
structure Ends where
 nx:Ť St
 rt:VK
 bk:Ť St:=Õa
 ct:Ť St:=Õa
noncomputable abbrev TS:=Ends->Ť St
inductive EP(X:Cx)(pins:æ)(σ:St)(Q:VK)(u:Z0)(s':Z2):Prop
 |mk (v:V) (H':Hp) (I:É H' s') (r:Őa v) (q:Q v H'):Œa u s'
inductive TP(X:Cx)(pins:æ)(σ:St)(Q:Ť Bool)(b:Bool)(s':Z2):Prop
 |mk (H':Hp) (I:É H' s') (q:Q b H'):TP X pins σ Q b s'
inductive AP(X:Cx)(pins:æ)(σ:St)(Q:Ť ĝ)(us:š)(s':Z2):Prop
 |mk (vs:ĝ) (H':Hp) (I:É H' s') (r:Ŝa vs) (q:Q vs H'):AP X pins σ Q us s'
inductive GP(X:Cx)(pins:æ)(Q:Ť St)(s':Z2):Prop
 |mk (σ':St) (H':Hp) (I:őb X pins) (q:Q σ' H'):GP X pins Q s'
inductive RP(X:Cx)(pins:æ)(Q:VK)(u:Z0)(s':Z2):Prop
 |mk (v:V) (σ':St) (H':Hp) (I:őb X pins) (r:Őa v) (q:Q v H'):RP X pins Q u s'
noncomputable def SP(X:Cx)(pins:æ)(D:Ends)(f:Flow)(s':Z2):Prop :=
 match f with
 | .next=>GP X pins D.nx s'
 | .brk=>GP X pins D.bk s'
 | .cont=>GP X pins D.ct s'
 | .ret u=>RP X pins D.rt u s'
noncomputable def PE(X:Cx)(e:Z7)(t:TE):Prop :=
 ∀(pins:æ) (s:Z2) (σ:St) (H:Hp) (Q:VK),Ĝ->Ŝd->òa (í e) s
noncomputable def PT(X:Cx)(e:Z7)(t:TT):Prop :=
 ∀(pins:æ) (s:Z2) (σ:St) (H:Hp) (Q:Ť Bool),Ĝ->Ŝd->Ë (isTrue e X.env (í e)) (TP X pins σ Q) s
noncomputable def PW(X:Cx)(e:Z7)(t:TT):Prop :=
 ∀(whole:Sem Z0) (pins:æ) (s:Z2) (σ:St) (H:Hp) (Q:Ť Bool),Ĝ->Ŝd->Ë (isTrue e X.env whole) (TP X pins σ Q) s
theorem PW.pt{X:Cx}{e:Z7}{t:TT}(h:PW X e t):PT X e t:=h _
noncomputable def PA(X:Cx)(es:Šc)(t:TA):Prop :=
 ∀(pos:Pos) (pins:æ) (s:Z2) (σ:St) (H:Hp) (Q:Ť ĝ),Ĝ->Ŝd->Ë (spliced ąb) (AP X pins σ Q) s
noncomputable def PS(X:Cx)(st:Z6)(t:TS):Prop :=
 ∀(pins:æ) (s:Z2) (σ:St) (H:Hp) (D:Ends),Ĝ->t D σ H->Ë (exec st X.env) (SP X pins D) s
noncomputable def PSs(X:Cx)(st:Æ Z6)(t:TS):Prop :=
 ∀(pins:æ) (s:Z2) (σ:St) (H:Hp) (D:Ends),Ĝ->t D σ H->Ë (execs st X.env) (SP X pins D) s
theorem thn{α:Type}{t:Sem α}{Q Q':İc α}{M:Model}{A:Z4}{E:ģ}{s:Z2}(h:úa M A t)(hQ:∀a s,Q a s->Q' a s):wpAny M A t Q' E s:=WL h hQ λ_ _ x=>x
open PySem PySem.Spec PyProof.Rows
section
variable {X:Cx}
theorem bin{a b:Z7}{ta tb:TE}(ha:Ód)(hb:Œ b tb){pins:æ}{s:Z2}{σ:St}{H:Hp}{R:V->Ť V}(I:Ĝ)(h:ta σ H λx H1=>tb σ H1 λy H2=>R x y H2)
  {α:Type}{Q:İc α}{f:Z0->Z0->Sem α}
  (hf:∀v u s2 x y H2,É H2 s2->RelV x v->Őa y->R x y H2->Ë (f v u) Q s2) :
  ġc (Ë (f v u) Q s₂):=by
 refine ŉ _ (λv s1 ⟨x,H1,I1,r1,q1⟩=>?_);refine thn (Ëa _) λu s2 ⟨y,H2,I2,r2,q2⟩=>?_;exact hf v u s2 x y H2 I2 r1 r2 q2
inductive TVar(i:Nat)(σ:St)(H:Hp)(Q:VK):Prop
 |mk (v:V) (h:σ[i]?=Ã ôc) (q:Q v H):TVar i σ H Q
noncomputable def tVar(i:Nat):TE:=ďa (TVar i σ H Q)
noncomputable def tC(v:V):TE:=λ_ H Q=>Q v H
theorem K7{i:Nat}{x:Str}{pos:Pos}(hN:X.N[i]?=äd)(hv:Ĥd)(hd:Ķd:=by decide) (hcd:œd x:=by decide):Œ (Ďc pos) (tVar i):=by
 intro pins s σ H Q I h;obtain⟨v,e,h⟩:=h;obtain⟨m,hn,hl⟩:=I.loc;obtain⟨u,r,l⟩:=hl i x v hN e hv;have fin:Œa u s:=⟨v,H,I,r,h⟩;rcases l with⟨hk,hm⟩ | ⟨hk,c,hc,hcell⟩
 ·exact wpAny_Name (wpAny_loadName_local I.ok.kind hk hn hm fin) hd
 ·rcases hk with hk | hk
  ·exact wpAny_Name (wpAny_loadName_cell I.ok.kind hk hc hcell fin) hd
  ·exact wpAny_Name (wpAny_loadName_free I.ok.kind hk hc hcell fin hcd) hd
theorem ZB{i j pos}:Œ (.Constant ïe j pos) (tC ïe):=ád (wpAny_Constant_int ⟨ïe,H,ħa,Ôe,h⟩)
theorem U9{b j pos}:Œ (.Constant (.bool b) j pos) (tC (.bl b)):=ád (Constant_bool ⟨.bl b,H,I,Z,h⟩)
theorem F8{j pos}:Œ (.Constant ħb j pos) (tC .non):=ád (Constant_none ⟨.non,H,I,Z,h⟩)
theorem ZR{x j pos}:Œ (ŵa x j pos) (tC íd):=ád (śb ⟨íd,H,ħa,Ôe,h⟩)
noncomputable def Gl(X:Cx)(x:Str):Prop:=X.env.kindOf x=Ã .globalImplicit
theorem T6{E:ģ}{pins:æ}{s:Z2}{σ:St}{H:Hp}{x:Str}{u:Z0}{pos:Pos}{Q:ģ}(I:Ĝ)(hg:ÿe)(hm:X.mg x=Ã u)(h:Q u s)
  (hd:Ķd:=by decide):úa Ñ X.A (í (Ďc pos)) :=
 Calls.Name_function_global I.ok.kind hg (Calls.loadGlobal_global (by rw[I.ok.glob];exact I.mod.glob.keeps I.bk) hm h) hd
theorem XH{E:ģ}{pins:æ}{s:Z2}{σ:St}{H:Hp}{x:Str}{u:Z0}{pos:Pos}{Q:ģ}(I:Ĝ)(hg:ÿe)(hm:X.mg x=none)(hv:ñc=Ã u)(h:Q u s)
  (hn:Őb := by decide) (hd:Ķd:=by decide):úa Ñ X.A (í (Ďc pos)):=by
 obtain⟨mb,h1,h2⟩:=I.mod.blt;exact Calls.Name_function_global I.ok.kind hg (Calls.loadGlobal_builtin (by rw[I.ok.glob];exact I.mod.glob.keeps I.bk) hm (by rw[I.ok.blt];exact h1.keeps I.bk) ((h2 x hn).trans hv) h) hd
theorem YX{x:Str}{v:V}{u:Z0}{pos:Pos}(hg:ÿe)(hm:X.mg x=Ã u)(r:Őa v)(hd:Ķd:=by decide):Œ (Ďc pos) (tC v) :=
 ád (T6 I hg hm ⟨v,H,I,r,h⟩ hd)
theorem Qz{x:Str}{v:V}{u:Z0}{pos:Pos}(hg:ÿe)(hm:X.mg x=none)(hv:ñc=Ã u)(r:Őa v)(hn:Őb := by decide) (hd:Ķd:=by decide):Œ (Ďc pos) (tC v) :=
 ád (XH I hg hm hv ⟨v,H,I,r,h⟩ hn hd)
variable {a b:Z7}{ta tb:TE}{pos:Pos}
noncomputable def PC(X:Cx)(op:CmpOp)(a b:Z7)(t:TE):Prop :=
 ∀(pins:æ) (s:Z2) (σ:St) (H:Hp) (Q:VK),Ĝ->Ŝd -> ġc (òa (compareOp op v u) s₂)
theorem Lp(b:Z7){op:CmpOp}(h:op≠.In)(h2:op≠.NotIn):Ŏb=false:=by
 have e1:Ķb (op==CmpOp.In):=by cases op<;>first | rfl | exact ń rfl h
 have e2:Ķb (op==CmpOp.NotIn):=by cases op<;>first | rfl | exact ń rfl h2
 cases b<;>simp[behindInMarks,e1,e2]
inductive IsB(x:V)(H:Hp)(Q:Ť Bool):Prop
 |mk (k:Bool) (e:x=.bl k) (q:Q k H):IsB x H Q
noncomputable def tB(t:TE):TT:=Šb (λx H1=>IsB x H1 Q)
theorem P3{op:CmpOp}{t:TE}(h:PC X op a b t)(h1:Ŏb=false:=by first | exact Lp _ Ç Ç | rfl):PT X Ób (tB t):=by
 intro pins s σ H Q I hw;refine wpAny_isTrue_Compare1 (thn (ßc _ hw) λv s1 h1=>thn h1 λu s2 h2=>thn h2 λc s3 ⟨x,H1,I1,r1,q1⟩=>?_) h1;obtain⟨d,rfl,q⟩:=q1;cases r1;exact ğa (ő H1 I1 q)
theorem WP{e:Z7}{t:TE}(h:Œ e t)(he:∀whole,isTrue e X.env whole=(do let v <- whole;standAt e.pos;holding [v] (truthy v)):=by intro _;rfl):PT X e (tB t):=by
 intro pins s σ H Q I hw;refine isTrue_plain (thn (ßc _ hw) λv s1 ⟨x,H1,I1,r1,q1⟩=>?_) (he _);obtain⟨d,rfl,q⟩:=q1;cases r1;exact ğa (ő H1 I1 q)
variable {tA tB':TT}{rest:Šc}
noncomputable def tAnd(t u:TT):TT:=Šb (λc H1=>if c=true then u σ H1 Q else Q false H1)
noncomputable def tOr(t u:TT):TT:=Šb (λc H1=>if c=true then Q true H1 else u σ H1 Q)
noncomputable def tNot(t:TT):TT:=Šb (λc H1=>Q (! c) H1)
theorem PB(ha:PT X a tA):PW X (Âd .And [a]) tA:=by
 intro wh pins s σ H Q I h;refine isTrue_and (ŉ Q (λc s1 e=>?_));cases c with
 |true=>exact isTrue_and_nil e
 |false=>exact e
theorem UO(ha:PT X a tA):PW X (Âd .Or [a]) tA:=by
 intro wh pins s σ H Q I h;refine isTrue_or (ŉ Q (λc s1 e=>?_));cases c with
 |false=>exact isTrue_or_nil e
 |true=>exact e
theorem RV(ha:PT X a tA)(hb:PW X (Âd .And (b::rest)) tB'):PW X (Âd .And (a::b::rest)) (tAnd tA tB'):=by
 intro wh pins s σ H Q I h;refine isTrue_and (ŉ _ (λc s1 ⟨H1,I1,q1⟩=>?_));cases c with
 |true=>exact hb wh pins s1 σ H1 Q I1 q1
 |false=>exact ő H1 I1 q1
theorem U6(ha:PT X a tA)(hb:PW X (Âd .Or (b::rest)) tB'):PW X (Âd .Or (a::b::rest)) (tOr tA tB'):=by
 intro wh pins s σ H Q I h;refine isTrue_or (ŉ _ (λc s1 ⟨H1,I1,q1⟩=>?_));cases c with
 |true=>exact ő H1 I1 q1
 |false=>exact hb wh pins s1 σ H1 Q I1 q1
theorem WO(ha:PT X a tA):PT X (.UnaryOp .Not a pos) (tNot tA):=by
 intro pins s σ H Q I h;exact isTrue_not (ŉ (λc H1=>Q (! c) H1) (λ_ _ ⟨a,b,c⟩=>ő a b c))
inductive AndI(t:TE)(σ:St)(Q:VK)(x:V)(H:Hp):Prop
 |mk (c:Bool) (e:x=.bl c) (q:if c=true then Ŝd else Q öa H):AndI t σ Q x H
inductive OrI(t:TE)(σ:St)(Q:VK)(x:V)(H:Hp):Prop
 |mk (c:Bool) (e:x=.bl c) (q:if c=true then Q Ĩ H else Ŝd):OrI t σ Q x H
noncomputable def Wf(ta tb:TE):TE:=æa (AndI tb σ Q x H1)
noncomputable def tOrV(ta tb:TE):TE:=æa (OrI tb σ Q x H1)
noncomputable def Wq(ta:TE):TE:=æa (∃c,x=.bl c/\Q (.bl (! c)) H1)
theorem VG{op}{t:TE}(h:Œ a t):Œ (Âd op [a]) t:=λpins s σ H Q I hw=>BoolOp_one (ßc Q hw)
theorem VT(ha:Ód)(hb:Œ (Âd .And (b::rest)) tb):Œ (Âd .And (a::b::rest)) (Wf ta tb):=by
 intro pins s σ H Q I h;refine BoolOp_and (ŉ _ (λv s1 ⟨x,H1,I1,r1,q1⟩=>?_));obtain⟨c,rfl,q1⟩:=q1;cases r1;refine ğa ?_;cases c with
 |true=>exact Ëa Q
 |false=>exact⟨öa,H1,I1,Z,q1⟩
theorem GQ(ha:Ód)(hb:Œ (Âd .Or (b::rest)) tb):Œ (Âd .Or (a::b::rest)) (tOrV ta tb):=by
 intro pins s σ H Q I h;refine BoolOp_or (ŉ _ (λv s1 ⟨x,H1,I1,r1,q1⟩=>?_));obtain⟨c,rfl,q1⟩:=q1;cases r1;refine ğa ?_;cases c with
 |false=>exact Ëa Q
 |true=>exact⟨Ĩ,H1,I1,Z,q1⟩
theorem Tw(ha:Ód):Œ (.UnaryOp .Not a pos) (Wq ta):=by
 intro pins s σ H Q I h;refine UnaryOp_ (ŉ _ (λv s1 ⟨x,H1,I1,r1,q1⟩=>?_));obtain⟨c,rfl,q1⟩:=q1;cases r1;exact not_of (ğa ⟨.bl (! c),H1,I1,Z,q1⟩)
noncomputable def tIf(t:TT)(ta tb:TE):TE:=Šb (λc H1=>if c=true then ta σ H1 Q else tb σ H1 Q)
theorem Li{c:Z7}(hc:PT X c tA)(ha:Ód)(hb:Œ b tb):Œ (.IfExp c a b pos) (tIf tA ta tb):=by
 intro pins s σ H Q I h;refine wpAny_IfExp (thn Őc λd s1 ⟨H1,I1,q1⟩=>?_);cases d with
 |true=>exact ha pins s1 σ H1 Q I1 q1
 |false=>exact Ëa Q
end
open PySem PySem.Spec PyProof.Rows
noncomputable def SqL(K:ZC)(H:Hp)(a:Z1)(xs:ĝ):Prop :=
 Rd H a (.lst xs) \/ ∃(o:Obj) (its:Array Z0) (n:Nat),Ľd a=ţ/\o.cls=Ĉb /\ o.dict=none/\o.data=.seq its n/\ø its.size/\Vals xs its.toList/\xs.all V.pl=true
noncomputable def SqT(K:ZC)(H:Hp)(a:Z1)(xs:ĝ):Prop :=
 Rd H a (.tup xs) \/ ∃(o:Obj) (its:Array Z0) (n:Nat),Ľd a=ţ/\o.cls=ĥb /\ o.data=.seq its n/\ø its.size/\Vals xs its.toList/\xs.all V.pl=true
noncomputable def absV:Z0->Z9 V
 | .none=>Ã .non
 | .bool b=>Ã (.bl b)
 | .int i _=>ļ i
 | .str x _=>Ã íd
 | .bytes b _=>Ã (.byt b)
 | .ref a=>Ú a
 | .type n=>Ã (.ty n)
 |_=>none
theorem RelV.abs{x:V}{u:Z0}(r:Őa x)(hp:x.pl=true):absV u=äd:=by
 cases x with
 |non=>cases r;rfl
 |bl _=>cases r;rfl
 |int _=>obtain⟨t,rfl⟩:=r;rfl
 |str _=>obtain⟨t,rfl⟩:=r;rfl
 |byt _=>obtain⟨t,rfl⟩:=r;rfl
 |sT _ _=>exact ń hp (by simp[V.pl])
 |ref _=>cases r;rfl
 |ty _=>cases r;rfl
theorem RelV.inj{x y:V}{u:Z0}(r:Őa x)(q:Őa y)(hx:x.pl=true)(hy:y.pl=true):x=y:=WC ((r.abs hx).symm.trans (q.abs hy))
theorem Vals.inj:∀{xs ys:ĝ}{us:š},Ŝa xs->Ŝa ys->xs.all V.pl=true->ys.all V.pl=true->xs=ys
 |_,_,_,.nil,.nil=>Ÿ
 |_,_,_,.cons r t,.cons r' t'=>λh h'=>by
  rw[List.all_cons,YT]at h h';rw[r.inj r' h.1 h'.1,Vals.inj t t' h.2 h'.2]
section
variable {X:Cx}{pins:Æ âb}{σ:St}{H:Hp}{s:Z2}{a:Z1}{xs ys:ĝ}
theorem sqo{K:ZC}(h:H a=Ù xs):Ūa H:=Ė (Ė h)
theorem sqt{K:ZC}(h:H a=Ĥ xs):łb a xs:=Ė (Ė h)
theorem Inv.list(I:Ĝ)(h:Ðd a xs):∃its:š,Õe/\PlainL s.heap a its.toArray/\Ďb:=by
 rcases h with h | ⟨o,its,n,hk,hc,hd,hs,hz,r,_⟩
 ·obtain⟨z,its,n,r,e⟩:=h.ok I.hok;exact⟨its,r,⟨_,n,e,Z,Z,Z⟩,z⟩
 ·refine⟨its.toList,r,⟨o,n,I.kIn a o hk,hc,hd,by simpa using hs⟩,?_⟩;have e:=r.length;simp only[U5]at e;omega
theorem Inv.tuple(I:Ĝ)(h:SqT X.K H a xs):∃its:š,Õe/\IsTup s.heap a its.toArray/\Ďb:=by
 rcases h with h | ⟨o,its,n,hk,hc,hs,hz,r,_⟩
 ·obtain⟨z,its,r,p⟩:=h.ok I.hok;exact⟨its,r,p,z⟩
 ·refine⟨its.toList,r,⟨o,I.kIn a o hk,hc,n,by simpa using hs⟩,?_⟩;have e:=r.length;simp only[U5]at e;omega
theorem Inv.list_inj(I:Ĝ)(h:Ðd a xs)(h':Ðd a ys):xs=ys:=by
 have no:∀{u:HO}{o:Obj},X.K.lookup a=ţ->Rd H a u->False:=λ{u o} hk hr=>by
  have e:=(I.bs a o (I.ok.mod.kin a o hk)).2;rcases hr with hr | ⟨_,hr⟩<;>(rw[e]at hr;cases hr)
 rcases h with h | ⟨o,its,n,e,c,nd,e2,z,r,p⟩
 ·rcases h' with h' | ⟨o',its',n',e',c',nd',e2',z',r',p'⟩
  ·rcases h with h | ⟨o,h⟩<;>rcases h' with h' | ⟨o',h'⟩<;>(rw[h]at h';cases h'<;>rfl)
  ·exact(no e' h).elim
 ·rcases h' with h' | ⟨o',its',n',e',c',nd',e2',z',r',p'⟩
  ·exact(no e h').elim
  ·rw[e]at e';cases e';rw[e2]at e2';cases e2';exact r.inj r' p p'
theorem Inv.tuple_inj(I:Ĝ)(h:SqT X.K H a xs)(h':SqT X.K H a ys):xs=ys:=by
 have no:∀{u:HO}{o:Obj},X.K.lookup a=ţ->Rd H a u->False:=λ{u o} hk hr=>by
  have e:=(I.bs a o (I.ok.mod.kin a o hk)).2;rcases hr with hr | ⟨_,hr⟩<;>(rw[e]at hr;cases hr)
 rcases h with h | ⟨o,its,n,e,c,e2,z,r,p⟩
 ·rcases h' with h' | ⟨o',its',n',e',c',e2',z',r',p'⟩
  ·rcases h with h | ⟨o,h⟩<;>rcases h' with h' | ⟨o',h'⟩<;>(rw[h]at h';cases h'<;>rfl)
  ·exact(no e' h).elim
 ·rcases h' with h' | ⟨o',its',n',e',c',e2',z',r',p'⟩
  ·exact(no e h').elim
  ·rw[e]at e';cases e';rw[e2]at e2';cases e2';exact r.inj r' p p'
end
noncomputable abbrev Cx.wish(X:Cx)(E:ģ):Cx:={ X with xe:=E }
noncomputable abbrev Cx.nox(X:Cx):Cx:=X.wish Õa
theorem Cx.Ok.wish{X:Cx}(ok:X.Ok)(E:ģ):(X.wish E).Ok :=
 ď ok.hd
theorem Cx.Ok.unwish{X:Cx}{E:ģ}(ok:(X.wish E).Ok):X.Ok :=
 ď ok.hd
section
variable {X:Cx}{pins:Æ âb}{σ:St}{H:Hp}{s:Z2}{E:ģ}
theorem Inv.wish(I:Ĝ)(E:ģ):Ëe (X.wish E) pins:=ņ (I.ok.wish E) I.pin
theorem Inv.unwish(I:Ëe (X.wish E) pins):Ĝ:=ņ I.ok.unwish I.pin
theorem SP.unwish{D:Ends}{f:Flow}{s':Z2}(h:SP (X.wish E) pins D f s'):SP X pins D f s':=by
 cases f with
 |next=>obtain⟨σ',H',I,q⟩:=h;exact⟨σ',H',I.unwish,q⟩
 |brk=>obtain⟨σ',H',I,q⟩:=h;exact⟨σ',H',I.unwish,q⟩
 |cont=>obtain⟨σ',H',I,q⟩:=h;exact⟨σ',H',I.unwish,q⟩
 |ret u=>obtain⟨v,σ',H',I,r,q⟩:=h;exact⟨v,σ',H',I.unwish,r,q⟩
theorem PSs.nox{st:Æ Z6}{t:TS}(h:PSs X.nox st t):PSs X st t:=λpins s σ H D I hw => īa (h pins s σ H D (I.wish _) hw) (λ_ _ q=>q.unwish) (Ő z)
end
section
variable {X:Cx}{st:Z6}{rest:Æ Z6}{t u:TS}{e:Z7}{te:TE}{pos:Pos}
noncomputable def OF:TS:=λD σ H=>Ġd H
noncomputable def tSeq(t u:TS):TS:=λD σ H=>t { D with nx:=u D } σ H
theorem W0:PSs X [] OF:=λ_ _ σ H _ I h=>Ĺc ⟨σ,H,I,h⟩
theorem ZG(h1:PS X st t)(h2:PSs X rest u):PSs X (st::rest) (tSeq t u):=by
 intro pins s σ H D I h;refine Ûc (h1 pins s σ H { D with nx:=u D } I h);cases f with
 |next =>
  obtain⟨σ',H',I',q⟩:=q;exact h2 pins s1 σ' H' D I' q
 |ret v=>exact q
 |brk=>exact q
 |cont=>exact q
theorem ZL(h1:PS X st t):PSs X [st] t:=by
 intro pins s σ H D I h;refine Ûc (h1 pins s σ H D I h);cases f with
 |next=>exact Ĺc q
 |ret v=>exact q
 |brk=>exact q
 |cont=>exact q
noncomputable def Xe:TS:=λD σ H=>D.bk σ H
theorem No:PS X (.Break pos) Xe:=λ_ _ σ H _ I h=>wpAny_Break ⟨σ,H,I,h⟩
theorem Inv.quiet{pins:æ}{σ:St}{H:Hp}{s:Z2}(I:Ĝ):interactive X.env=false:=by simp[interactive,I.ok.kind]
noncomputable def Wi(te:TE):TS:=λD σ H=>te σ H λ_ H1=>Ġd H1
theorem Y9(he:Œ e te)(hs:Ňa e none=œc:=by rfl):PS X (.Expr e pos) (Wi te):=by
 intro pins s σ H D I h;exact wpAny_Expr_any (thn Òa λv s1 ⟨x,H1,I1,r1,q1⟩=>⟨σ,H1,I1,q1⟩) I.quiet hs
noncomputable def tRet(te:TE):TS:=λD σ H=>te σ H D.rt
theorem ZU(he:Œ e te):PS X (.Return (Ã e) pos) (tRet te):=by
 intro pins s σ H D I h;exact wpAny_Return_some (thn Òa λv s1 ⟨x,H1,I1,r1,q1⟩=>⟨x,σ,H1,I1,r1,q1⟩)
noncomputable def tIfS(c:TT)(t u:TS):TS:=λD σ H=>c σ H λb H1=>if b=true then t D σ H1 else u D σ H1
theorem ZZ{c:Z7}{a b:Æ Z6}{tc:TT}(hc:PT X c tc)(ha:PSs X a t)(hb:PSs X b u):PS X (.If c a b pos) (tIfS tc t u):=by
 intro pins s σ H D I h;refine wpAny_If (thn Őc λd s1 ⟨H1,I1,q1⟩=>?_);cases d with
 |true=>exact ha pins s1 σ H1 D I1 q1
 |false=>exact Ëa D
noncomputable def FK:TS:=ďc
theorem WG{sts:Æ Z6}:PSs X sts FK:=λ_ _ _ _ _ _ h=>h.elim
end
noncomputable abbrev TG:=V->St->Û Hp (Ť St)
noncomputable abbrev TGs:=ĝ->St->Û Hp (Ť St)
noncomputable def PG(X:Cx)(target:Z7)(t:TG):Prop :=
 ∀(pins:æ) (s:Z2) (σ:St) (H:Hp) (v:V) (u:Z0) (Q:Ť St),Ĝ->Őa v->t v σ H Q -> Ë (assign target X.env u) (λ_ s'=>GP X pins Q s') s
noncomputable def PGs(X:Cx)(ts:Šc)(t:TGs):Prop :=
 ∀(pins:æ) (s:Z2) (σ:St) (H:Hp) (vs:ĝ) (us:š) (Q:Ť St),Ĝ->Ŝa vs->t vs σ H Q -> Ë (assignInOrder ((Őd ts).map (·.2)) us) (λ_ s'=>GP X pins Q s') s
noncomputable abbrev TSet:=V->V->V->Û Hp (Hp->Prop)
noncomputable def PSet(X:Cx)(t:TSet):Prop :=
 ∀(pins:æ) (s:Z2) (σ:St) (H:Hp) (o i v:V) (ov iv u:Z0) (Q:Hp->Prop),Ĝ->RelV o ov->RelV i iv->Őa v->t o i v H Q -> Ë (setItem ov iv u) (λ_ s'=>∃H',É H' s'/\Q H') s
noncomputable abbrev TIp:=V->V->Ŭa
noncomputable def PIp(X:Cx)(op:Operator)(t:TIp):Prop :=
 ∀(pins:æ) (s:Z2) (σ:St) (H:Hp) (x y:V) (v u:Z0) (Q:VK),Ĝ->RelV x v->Őa y->t x y H Q -> òa (inplaceOp op v u) s
section
variable {X:Cx}{pos:Pos}
noncomputable def WV(i:Nat):TG:=λv σ H Q=>Q (ľd ôc) H
theorem YQ{i:Nat}{x:Str}(hN:X.N.Nodup)(hi:X.N[i]?=äd)(hx:Ŋb x)(hf:Ĳ x:=by first | exact ĭa | exact ôe | assumption):PG X (Ďc pos) (WV i):=by
 intro pins s σ H v u Q I r h;exact wpAny_assign_Name (SX I hN hi hx r (λs' I'=>⟨_,H,I',h⟩) hf)
noncomputable def gNil:TGs:=λvs σ H Q=>vs=[]/\Q σ H
inductive GCons(t:TG)(u:TGs)(vs:ĝ)(σ:St)(H:Hp)(Q:Ť St):Prop
 |mk (v:V) (r:ĝ) (h:vs=v::r) (q:t v σ H λσ' H'=>u r σ' H' Q):GCons t u vs σ H Q
noncomputable def V1(t:TG)(u:TGs):TGs:=λvs σ H Q=>GCons t u vs σ H Q
theorem P9:PGs X [] gNil:=by
 intro pins s σ H vs us Q I r h;obtain⟨e,h⟩:=h;subst e;cases r;exact assignInOrder_nil ⟨σ,H,I,h⟩
theorem XO{e:Z7}{es:Šc}{t:TG}{u:TGs}(h1:PG X e t)(h2:PGs X es u)
  (hs:(Őd ŀ).map (·.2)=assign e X.env::(Őd es).map (·.2):=by rfl):PGs X ŀ (V1 t u):=by
 intro pins s σ H vs us Q I r h;obtain⟨v,vr,e1,h⟩:=h;subst e1;cases r with
 |cons r rr =>
  rw[hs];refine assignInOrder_cons (thn (h1 pins s σ H _ _ _ I r h) λ_ s1 ⟨σ1,H1,I1,q1⟩=>?_);exact h2 pins s1 σ1 H1 _ _ Q I1 rr q1
inductive GTup(K:ZC)(n:Nat)(t:TGs)(v:V)(σ:St)(H:Hp)(Q:Ť St):Prop
 |mk (a:Z1) (xs:ĝ) (h1:v=œ) (h2:łb a xs) (h3:xs.length=n) (q:t xs σ H Q):GTup K n t v σ H Q
noncomputable def gTup(K:ZC)(n:Nat)(t:TGs):TG:=λv σ H Q=>GTup K n t v σ H Q
theorem P0{es:Šc}{k:Nat}{t:TGs}{n:Nat}(hc:èa)(h:PGs X es t)
  (hn:î (Őd es)=n:=by rfl) (hst:(Őd es).findIdx? (·.1)=none:=by rfl):PG X (.Tuple es k pos) (gTup X.K n t):=by
 intro pins s σ H v u Q I r hw;obtain⟨a,xs,e1,hq,hl,hw⟩:=hw;subst e1;cases r;obtain⟨its,rv,ht,hz⟩:=ĺd;refine assign_Tuple_tuple Ĵa ht (by simp[hn,<- hl,rv.length]) hst λh' hx=>?_;have I1:É H { s with heap:=h' }:=I.kept (t':=s.toks) λb o e=>hx b o (WF (W8 e)) e;exact h pins _ σ H xs _ Q I1 (by simpa using rv) hw
noncomputable def gSub(to ti:TE)(t:TSet):TG:=λv σ H Q=>to σ H λo H1=>ti σ H1 λi H2=>t o i v H2 λH3=>Q σ H3
theorem OL{o i:Z7}{to ti:TE}{t:TSet}(ho:Œ o to)(hi:Œ i ti)(hs:PSet X t)
  (ha:∀v,assign (Ýb o i pos) X.env v=(do
   let ov <- holding [v] (í o)
   let iv <- holding [v,ov] (í i)
   standAt pos
   holding [v,ov,iv] (setItem ov iv v)
   release [v,ov,iv] []):=by intro _;rfl):PG X (Ýb o i pos) (gSub to ti t):=by
 intro pins s σ H v u Q I r h;rw[ha];refine ZA (êa (thn ıa λov s1 ⟨x,H1,I1,r1,q1⟩=>?_));refine ZA (êa (ïb s1 H1 I1 q1 (λiv s2 ⟨y,H2,I2,r2,q2⟩=>?_)));refine ZA (ùc (êa (thn (hs pins s2 σ H2 x y v ov iv u _ I2 r1 r2 r q2) λ_ s3 ⟨H3,I3,q3⟩=>?_)));exact wpAny_release ⟨σ,H3,I3,q3⟩
noncomputable def tAsg(te:TE)(g:TG):TS:=λD σ H=>te σ H λx H1=>g x σ H1 D.nx
theorem P1{tg e:Z7}{te:TE}{g:TG}(he:Œ e te)(hg:PG X tg g)(hs:swapsWithSole [tg] e pos.line X.env=œc:=by rfl)(hw:swappedStores [tg] e X.env=pure none:=by rfl)
  (h1:(Őd [tg]).map (·.2)=[assign tg X.env]:=by rfl):PS X (.Assign [tg] e pos) (tAsg te g):=by
 intro pins s σ H D I h;refine wpAny_Assign_stores (thn Òa λv s1 ⟨x,H1,I1,r1,q1⟩=>?_) hs hw;rw[h1];exact thn (hg pins s1 σ H1 x v _ I1 r1 q1) λ_ s2 q=>q
theorem ZV{i:Nat}{x:Str}{e:Z7}{te:TE}{pos':Pos}(hN:X.N.Nodup)(hi:X.N[i]?=äd)(hx:Ŋb x)(he:Œ e te)(hs:Ňa e (Ã (Ďc pos'))=œc:=by rfl)(hf:Ĳ x:=by first | exact ĭa | exact ôe | assumption) :
  ġd (Ďc pos') e pos te:=by
 intro pins s σ H D I h;refine wpAny_Assign_Name (thn Òa λv s1 ⟨y,H1,I1,r1,q1⟩=>?_) hs;exact SX I1 hN hi hx r1 (λs2 I2=>⟨_,H1,I2,q1⟩) hf
noncomputable def tPar(i j:Nat)(ta:TA):TS:=λD σ H=>ta σ H λvs H1=>∃v w,vs=[v,w]/\D.nx ((ľd ôc).set j (Ã w)) H1
theorem K1{i j:Nat}{x y:Str}{a b:Z7}{ta:TA}{px py pt:Pos}{kt k2 pt2}(hc:èa)(hN:X.N.Nodup)(hi:X.N[i]?=äd)(hj:X.N[j]?=Ã y)(hij:i≠j)
  (hx:ŋ x=ēe) (hy:ŋ y=ēe) (ha:PA X [a,b] ta)
  (hw:swappedStores [.Tuple [Ďc px,Ĕb] kt pt] (.Tuple [a,b] k2 pt2) X.env=pure (Ã [x,y]))
  (hs:swapsWithSole [.Tuple [Ďc px,Ĕb] kt pt] (.Tuple [a,b] k2 pt2) pos.line X.env=œc:=by rfl) :
  PS X (.Assign [.Tuple [Ďc px,Ĕb] kt pt] (.Tuple [a,b] k2 pt2) pos) (tPar i j ta):=by
 intro pins s σ H D I h;rw[exec_Assign_arm];refine ZA (wpAny_standAt ?_);rw[hs];refine ZA Ôc;rw[ZE Ç];refine ZA (Tuple_ (thn (ha _ pins s σ H _ I h) λus s1 ⟨vs,H1,I1,r1,q1⟩=>?_));obtain⟨v,w,e1,q1⟩:=q1;subst e1;obtain⟨u1,u2,rfl,rv,rw'⟩:∃u1 u2,us=[u1,u2]/\RelV v u1/\RelV w u2:=by
  cases r1 with
  |cons p q =>
   cases q with
   |cons p' q' =>
    cases q';exact şc _ Z p p'
 refine Ħd (by show ø 2;decide);have I2:É H1 { s1 with heap:=s1.heap.push (čd [u1,u2].toArray) }:=I1.kept (t':=s1.toks) Ėc;rw[hw];refine ZA Ôc;show wpAny Ñ X.A (do rule "assign.swapped-stores"; let items <- unpackItems (Ê s1.heap.objs.size) 2 none;assignInOrder [λv=>bindName X.env y v,λv=>bindName X.env x v] items.reverse;pure Flow.next) _ _ _;refine ZA (ŝd (ZA (unpackItems_tuple (items:=#[u1,u2]) Ĵa (IsTup.new s1.heap _) λh' hx'=>?_)));have I3:=I2.kept (h':=h') (t':=s1.toks) λb o e=>hx' b o (WF (W8 e)) e;show ā (assignInOrder [λv=>bindName X.env y v,λv=>bindName X.env x v] [u2,u1] >>= λ_=>pure Flow.next) _;refine ZA (assignInOrder_cons (wpAny_bindName (SX I3 hN hj (Ė hy) rw' (λs2 I4=>?_) (Ŀ hy))));refine assignInOrder_cons (wpAny_bindName (SX I4 hN hi (Ė hx) rv (λs3 I5=>assignInOrder_nil Ôc) (Ŀ hx)));rw[List.set_comm _ _ (ĥ hij)]at I5;exact⟨_,H1,I5,q1⟩
noncomputable def tAug(i:Nat)(te:TE)(ti:TIp):TS:=λD σ H=>∃x,σ[i]?=Ã äd/\te σ H λy H1=>ti x y H1 λz H2=>D.nx (ľd (Ã z)) H2
theorem LZ{i:Nat}{x:Str}{e:Z7}{te:TE}{op:Operator}{ti:TIp}{pos':Pos}(hN:X.N.Nodup)(hi:X.N[i]?=äd)(hx:Ŋb x)(he:Œ e te)(ho:PIp X op ti)(hf:Ĳ x:=by first | exact ĭa | exact ôe | assumption) :
  PS X (.AugAssign (Ďc pos') op e pos) (tAug i te ti):=by
 intro pins s σ H D I h;obtain⟨v,e1,h⟩:=h;obtain⟨m,hn,hl⟩:=I.loc;have vis:Ĥd:=by rcases hx with k | k;exact Ė k;exact Ŀ (Ė k)
 obtain⟨u,r,l⟩:=hl i x v hi e1 vis;refine wpAny_AugAssign_Name ?_;have go:Ë (í e) (λw s₂=>Ë (inplaceOp op u w) (λr s₃=>Ë (storeName X.env x r) (λ_=>SP X pins D .next) s₃) s₂) s:=by
  refine thn Òa λw s1 ⟨y,H1,I1,r1,q1⟩=>?_;refine thn (ho pins s1 σ H1 v y u w _ I1 r r1 q1) λz s2 ⟨zv,H2,I2,r2,q2⟩=>?_;exact SX I2 hN hi hx r2 (λs3 I3=>⟨_,H2,I3,q2⟩) hf
 rcases l with⟨hk,hm⟩ | ⟨hk,c,hc,hcell⟩
 ·exact wpAny_loadName_local I.ok.kind hk hn hm go
 ·rcases hk with hk | hk
  ·exact wpAny_loadName_cell I.ok.kind hk hc hcell go
  ·rcases hx with k | k
   ·have:ŋ x=Ã .free:=hk;rw[k]at this;cases this
   ·have:ŋ x=Ã .free:=hk;rw[k]at this;cases this
noncomputable def ipI(f:Int->Int->Int):TIp:=Äb (∃i j,x=ïe/\y=ô j/\Ðc (f i j))
theorem Vf:PIp X .Add (ipI λi j=>i+j):=by
 intro pins s σ H x y v u Q I r1 r2 h;obtain⟨i,j,e1,e2,q⟩:=h;subst e1;subst e2;obtain⟨t,rfl⟩:=r1;obtain⟨t',rfl⟩:=r2;exact iadd_int (Ãa (ô _))
theorem Vg:PIp X .Sub (ipI λi j=>i-j):=by
 intro pins s σ H x y v u Q I r1 r2 h;obtain⟨i,j,e1,e2,q⟩:=h;subst e1;subst e2;obtain⟨t,rfl⟩:=r1;obtain⟨t',rfl⟩:=r2;exact isub_int (Ãa (ô _))
inductive tWhile(c:TT)(tb:TS)(D:Ends)(σ:L2.St)(H:Hp):Prop
 |mk (W:Üb) (h0:(∃m,W m σ H)) (h1:∀m σ H,W m σ H -> c σ H λb H1=>if b=true then ∃N:Ť St,(∀σ' H',N σ' H'->∃m',m'<m/\W m' σ' H')/\tb { D with nx:=N,ct:=N,bk:=D.nx } σ H1 else Ġd H1)
theorem DS{c:Z7}{body:Æ Z6}{tc:TT}{tb:TS}(hp:PassesOwn Ñ X.A X.env X.xe)(hc:PT X c tc)(hb:PSs X body tb):PS X (.While c body [] pos) (tWhile tc tb):=by
 intro pins s σ H D I h;obtain⟨W,⟨m0,w0⟩,turn⟩:=h;refine wpAny_While (codeAny_whileLoop (λn s'=>∃σ' H',őb X pins/\W n σ' H') ?_ m0 ⟨σ,H,I,w0⟩);rintro n s1 ⟨σ1,H1,I1,w1⟩;refine ôa (hc pins s1 σ1 H1 _ I1 (turn n σ1 H1 w1)) (λb s2 ⟨H2,I2,q2⟩=>?_);cases b with
 |true =>
  obtain⟨N,hN,q2⟩:=q2;rw[ŧb];refine ôa (hb pins s2 σ1 H2 _ I2 q2) (λf s3 q3=>?_);cases f with
  |next =>
   obtain⟨σ3,H3,I3,n3⟩:=q3;obtain⟨m',hm,w3⟩:=hN σ3 H3 n3;exact⟨m',hm,σ3,H3,I3,w3⟩
  |cont =>
   obtain⟨σ3,H3,I3,n3⟩:=q3;obtain⟨m',hm,w3⟩:=hN σ3 H3 n3;exact⟨m',hm,σ3,H3,I3,w3⟩
  |brk=>exact q3
  |ret v=>exact q3
 |false =>
  rw[ZE YS];exact Ĺc ⟨σ1,H2,I2,q2⟩
end
structure It where
 go:Ť Nat
 yld:Nat->Hp->Ť V
 stop:Ť Nat
noncomputable def FpOk(X:Cx)(pins:æ)(H:Hp)(b:Z1):Prop :=
 ē b/\b≠X.env.locals/\b∉X.fs/\(Īb b)/\(∀x c,ť=Ã c->c≠b)/\∀p∈X.pn++pins,p.1≠b
theorem Inv.fpOk{X:Cx}{pins:æ}{σ:St}{H H':Hp}{s:Z2}{b:Z1}(I:Ĝ)(hb:s.heap.objs.size<=b)(hn:Ďe b):şa H':=by
 refine⟨hn,Nat.ne_of_gt (WT I.lt hb),I.nofs hb,Ŀ (WB I.sz hb),λx c e z=>?_,λp hp z=>?_⟩
 ·obtain⟨v,q⟩:=I.cell x c e;exact Ëc q.lt (by rw[z];exact hb)
 ·exact Ëc (W8 (I.pin p hp).1) (by rw[z];exact hb)
structure Turn(P:Z3)(w:Z5)(K:ZC)(tg:Z7)(J:It)(fp:ãb)(it:Z1)(tn:Û Nat Z8):Prop where
 mem:it∈fp
 obj:∀i h,tn i h->∀b∈fp,∃o,őd b/\∀v,o.data≠.cell v
 keep:∀i h h',tn i h->(∀b∈fp,∀o,őd b->İa b=ţ)->tn i h'
 item:∀(X:Cx),X.prog=P->X.w=w->X.K=K->èa->∀(i:Nat) (pins:æ) (s:Z2) (σ:St) (H:Hp) (E:ģ),Ĝ->(∀b∈fp,şa H)->tn i s.heap->J.go i H -> wpAny (model P w) X.A (pyNext (Ê it)) (λr s1=>∃u,r=Ã u /\ wpAny (model P w) X.A çe (λ_ s2=>∃x H',É H' s2/\Őa x/\J.yld i H x H'/\tn ůa s2.heap/\∀b∈fp,Ďe b) E s1) E s
 done:∀(X:Cx),X.prog=P->X.w=w->X.K=K->èa->∀(i:Nat) (pins:æ) (s:Z2) (σ:St) (H:Hp) (E:ģ),Ĝ->(∀b∈fp,şa H)->tn i s.heap->J.stop i H -> wpAny (model P w) X.A (pyNext (Ê it)) (λr s1=>r=none/\É H s1) E s
 self:∀(A:Z4) (i:Nat) (s:Z2) (Q:ģ) (E:ģ),tn i s.heap->Ŕ it s->ì P (pyIter (Ê it)) Q s
noncomputable abbrev TI:=St->Û Hp (Ť It)
noncomputable def PIE(X:Cx)(pins:æ)(σ:St)(tg:Z7)(R:Ť It)(itv:Z0)(s2:Z2):Prop :=
 ∃(it:Z1) (fp:ãb) (tn:Û Nat Z8) (J:It) (H':Hp),itv=Ê it/\É H' s2/\Turn X.prog X.w X.K tg J fp it tn/\tn 0 s2.heap/\(∀b∈fp,şa H')/\R J H'
noncomputable def PI(X:Cx)(tg iter:Z7)(wi:TI):Prop :=
 ∀(pins:æ) (s:Z2) (σ:St) (H:Hp) (R:Ť It),Ĝ->wi σ H R -> Ë (í iter) (λv s1=>Ë (pyIter v) (PIE X pins σ tg R) s1) s
theorem QN{M:Model}{A:Z4}{E:ģ}{s:Z2}{tg:Z7}{it:Z1}{u:Z0}{o:Obj}{n:String}{vs:Array Z0}{Q:İc Unit}(ho:ą it o)(hc:o.cls=Ŀa n)(hd:o.data=.fields vs)
  (hn:["enumerate","zip","dict_itemiterator","dict_reverseitemiterator","odict_iterator","itertools.zip_longest","itertools.pairwise"].contains n=false) (hQ:Q () s):úa M A çe:=by
 unfold letOwnedTupleGo;cases tg<;>first
  |exact ZQ hQ
  | (cases u<;>first
    |exact ZQ hQ
    | (refine ZA (wpAny_load ho ?_)
       rw[hc,hd];show úa M A (if(["enumerate","zip","dict_itemiterator","dict_reverseitemiterator","odict_iterator","itertools.zip_longest","itertools.pairwise"].contains n&&vs[0]?==Ã (rawInt _))=true then _ else _);rw[ZE (by intro h;rw[hn,Bool.false_and]at h;cases h)]
       exact ZQ hQ))
noncomputable def Itl(K:ZC)(a:Z1):It :=
 ő (λi H=>∃xs x,Ūa H/\xs[i]?=äd) (λi H x H'=>H'=H/\∀xs,Ūa H->xs[i]?=äd) (λi H=>∃xs,Ūa H/\xs.length<=i)
noncomputable def Itt(K:ZC)(a:Z1):It :=
 ő (λi H=>∃xs x,łb a xs/\xs[i]?=äd) (λi H x H'=>H'=H/\∀xs,łb a xs->xs[i]?=äd) (λi H=>∃xs,łb a xs/\xs.length<=i)
noncomputable def Itr(lo:Int)(n:Nat):It:=ő (λi _=>i<n) (λi H x H'=>H'=H/\x=ô (lo+i)) (λi _=>n<=i)
theorem Gf{P:Z3}{w:Z5}{K:ZC}{tg:Z7}(a it:Z1):Öc Ād (šd it a) where
 mem:=Í
 obj:=Žd (by
  have e:b=it:=by simpa using hb
  subst e;obtain⟨o,e,c,d⟩:=st;exact ő o e (λv z=>by rw[d]at z;cases z))
 keep:=Ĝd
 item:=by
  intro X hP hw hK hc i pins s σ H E I hf st hg;subst hP hw hK;obtain⟨xs,x,hq,hx⟩:=hg;obtain⟨its,rv,p,hz⟩:=ĳb;obtain⟨u,hu,ru⟩:=rv.get hx;obtain⟨f0,f1,f2,f3,f4,f5⟩:=hf it Í;refine wpAny_pyNext_list_item st p.isList (x:=u) (by simpa using hu) λh' st' sb=>?_;have I1:É H { s with heap:=h' }:=I.turned (t':=s.toks) (λb o hb e=>(sb.2 b hb).trans e) f0 f1 f3 f4 f5;obtain⟨o,e,c,d⟩:=id st';exact ő u Z (QN (s:={ s with heap:=h' }) e c d Ç ⟨x,H,I1,ru,ã Z (λys hy=>ú (I.list_inj hy hq) hx),st',ěa ìd⟩)
 done:=by
  intro X hP hw hK hc i pins s σ H E I hf st hg;subst hP hw hK;obtain⟨xs,hq,hx⟩:=hg;obtain⟨its,rv,p,hz⟩:=ĳb;obtain⟨f0,f1,f2,f3,f4,f5⟩:=hf it Í;have hl:=rv.length;exact wpAny_pyNext_list_end Ĵa st p.isList (by simp;omega) λh' eb=>ã Z (I.turned (t':=s.toks) Öb f0 f1 f3 f4 f5)
 self:=Ďd (wpAny_pyIter_listiter st h)
theorem Fu{P:Z3}{w:Z5}{K:ZC}{tg:Z7}(a it:Z1):Öc (Itt K a) (h.IsTupleIter it a i) where
 mem:=Í
 obj:=Žd (by
  have e:b=it:=by simpa using hb
  subst e;obtain⟨o,e,c,d⟩:=st;exact ő o e (λv z=>by rw[d]at z;cases z))
 keep:=Ĝd
 item:=by
  intro X hP hw hK hc i pins s σ H E I hf st hg;subst hP hw hK;obtain⟨xs,x,hq,hx⟩:=hg;obtain⟨its,rv,p,hz⟩:=ĺd;obtain⟨u,hu,ru⟩:=rv.get hx;obtain⟨f0,f1,f2,f3,f4,f5⟩:=hf it Í;refine wpAny_pyNext_tuple_item st (show s.heap.IsTuple a its.toArray from p) (x:=u) (by simpa using hu) λh' st' sb=>?_;have I1:É H { s with heap:=h' }:=I.turned (t':=s.toks) (λb o hb e=>(sb.2 b hb).trans e) f0 f1 f3 f4 f5;obtain⟨o,e,c,d⟩:=id st';exact ő u Z (QN (s:={ s with heap:=h' }) e c d Ç ⟨x,H,I1,ru,ã Z (λys hy=>ú (I.tuple_inj hy hq) hx),st',ěa ìd⟩)
 done:=by
  intro X hP hw hK hc i pins s σ H E I hf st hg;subst hP hw hK;obtain⟨xs,hq,hx⟩:=hg;obtain⟨its,rv,p,hz⟩:=ĺd;obtain⟨f0,f1,f2,f3,f4,f5⟩:=hf it Í;have hl:=rv.length;exact wpAny_pyNext_tuple_end Ĵa st (show s.heap.IsTuple a its.toArray from p) (by simp;omega) λh' eb=>ã Z (I.turned (t':=s.toks) Öb f0 f1 f3 f4 f5)
 self:=Ďd (wpAny_pyIter_tupleiter st h)
theorem Ft{P:Z3}{w:Z5}{K:ZC}{tg:Z7}(it:Z1)(lo:Int)(n:Nat):Öc (Itr lo n) (IsRangeIter h it (lo+ũ i*1) (Þ n-ũ i) 1) where
 mem:=Í
 obj:=Žd (by
  have e:b=it:=by simpa using hb
  subst e;exact ő _ st (λv z=>by
   have z':Data.fields _=ãe:=z
   cases z'))
 keep:=λi h h' st k=>k it Í _ st
 item:=by
  intro X hP hw hK hc i pins s σ H E I hf st hg;subst hP hw hK;obtain⟨f0,f1,f2,f3,f4,f5⟩:=hf it Í;have W:=Walks.range (prog:=X.prog) (w:=X.w) Ĵa it lo 1 n;refine W.item i s _ _ hg st λv h' tk hv st' kk=>?_;obtain⟨t,rfl⟩:=hv;have I1:É H { s with heap:=h',toks:=tk }:=I.turned (λb o hb e=>kk b o (by simpa using hb) e) f0 f1 f3 f4 f5;refine ža (QN (s:={ s with heap:=h',toks:=tk }) (n := "range_iterator") st' rfl rfl Ç ⟨ô (lo+i),H,I1,ųb t,ã Z Z,st',ěa ìd⟩);rw[Int.mul_one]
 done:=by
  intro X hP hw hK hc i pins s σ H E I hf st hg;subst hP hw hK;obtain⟨f0,f1,f2,f3,f4,f5⟩:=hf it Í;exact wpAny_pyNext_range_end Ĵa st (by have:n<=i:=hg;omega) λh' eb=>ã Z (I.turned (t':=s.toks) Öb f0 f1 f3 f4 f5)
 self:=Ďd (wpAny_pyIter_rangeiter st h)
open PySem PySem.Spec PyProof.Rows
section
variable {X:Cx}{tg:Z7}
noncomputable def L3(K:ZC)(tl:TE):TI:=λσ H R=>tl σ H λx H1=>∃a,x=œ/\(∃xs,Ūa H1)/\R Ād H1
noncomputable def iTup(K:ZC)(tl:TE):TI:=λσ H R=>tl σ H λx H1=>∃a,x=œ/\(∃xs,SqT K H1 a xs)/\R (Itt K a) H1
theorem Y7{l:Z7}{tl:TE}(hl:Œ l tl):PI X tg l (L3 X.K tl):=by
 intro pins s σ H R I h;refine thn Ūd λv s1 ⟨x,H1,I1,r1,q1⟩=>?_;obtain⟨a,e,⟨xs,hq⟩,q⟩:=q1;subst e;cases r1;obtain⟨its,rv,p,hz⟩:=I1.list hq;refine wpAny_pyIter_list p.isList ?_;refine ŗa H1 (I1.kept (t':=s1.toks) Ėc) (Gf a _) q;have e:b=s1.heap.objs.size:=by simpa using hb
 subst e;exact ľa ħ
theorem OM{l:Z7}{tl:TE}(hl:Œ l tl):PI X tg l (iTup X.K tl):=by
 intro pins s σ H R I h;refine thn Ūd λv s1 ⟨x,H1,I1,r1,q1⟩=>?_;obtain⟨a,e,⟨xs,hq⟩,q⟩:=q1;subst e;cases r1;obtain⟨its,rv,p,hz⟩:=I1.tuple hq;refine wpAny_pyIter_tuple (show s1.heap.IsTuple a its.toArray from p) ?_;refine ŗa H1 (I1.kept (t':=s1.toks) Ėc) (Fu a _) q;have e:b=s1.heap.objs.size:=by simpa using hb
 subst e;exact ľa ħ
theorem DV{pins:æ}{σ:St}{H:Hp}{s:Z2}{R:Ť It}{E:ģ}{lo hi:Int}{t u v:Tok}{tk:Nat}(I:Ĝ)(h1:-(2 ^ 62)<=lo)(h2:lo<2 ^ 62)(h3:-(2 ^ 62)<=hi)(h4:hi<2 ^ 62)
  (q:R (Itr lo (hi-lo).toNat) H):wpAny Ñ X.A (pyIter (Ê s.heap.objs.size)) (PIE X pins σ tg R) E { s with heap:=Ûa (Įa "range" #[Řd lo,.int hi u,.int 1 v]),toks:=tk }:=by
 refine wpAny_pyIter_range (IsRange.new ..) (small_one h1 h2 h3 h4) ?_;have I1:É H { s with heap:=Ûa (Įa "range" #[Řd lo,.int hi u,.int 1 v]),toks:=tk }:=I.kept Ėc;refine⟨Íc (Ûa (Įa "range" #[Řd lo,.int hi u,.int 1 v])),[Íc (Ûa (Įa "range" #[Řd lo,.int hi u,.int 1 v]))],_,_,H,Z, I1.kept (t':=tk) Ėc,Ft _ lo (hi-lo).toNat,?_,Óa,q⟩
 ·have e1:lo+Ý 0*1=lo:=Í
  have e2:Ý (hi-lo).toNat-Ý 0=Builtin.Range.rangeSize lo hi 1:=by rw[rangeSize_one];split<;>omega
  show IsRangeIter _ _ (lo+Ý 0*1) (Ý (hi-lo).toNat-Ý 0) 1;rw[e1,e2];exact Ĩa
 ·have e:b=Íc (Ûa (Įa "range" #[Řd lo,.int hi u,.int 1 v])):=by simpa using hb
  subst e;exact ľa ħ
noncomputable def Ww(ta:TA):TI:=Źc (∃j:Int,vs=[ô j]/\-(2 ^ 62)<=j/\j<2 ^ 62/\R (Itr 0 j.toNat) H1)
noncomputable def Wx(ta:TA):TI:=Źc (∃i j:Int,vs=[ïe,ô j]/\(-(2 ^ 62)<=i/\i<2 ^ 62/\-(2 ^ 62)<=j/\j<2 ^ 62)/\R (Itr i (j-i).toNat) H1)
theorem VL{a:Z7}{ta:TA}{p pos:Pos}(hg:Gl X "range") (hm:X.mg "range" = none) (ha:PA X [a] ta) (hs:Õ [a]=[(false,í a)]:=by rfl):PI X tg (Ň "range" [a]) (Ww ta):=by
 intro pins s σ H R I h;refine ů boot_range (λus s1 ⟨vs,H1,I1,r1,q1⟩=>?_) hs rfl;obtain⟨j,e,q1,q2,q⟩:=q1;subst e;cases r1 with
 |cons r rr =>
  cases rr;obtain⟨t,rfl⟩:=r;exact call_range_1 (DV I1 À À q1 q2 (by simpa using q))
theorem AD{a b:Z7}{ta:TA}{p pos:Pos}(hg:Gl X "range") (hm:X.mg "range" = none) (ha:PA X [a,b] ta) (hs:Õ [a,b]=[(false,í a),(false,í b)]:=by rfl) (hs2:Õ [b]=[(false,í b)]:=by rfl) :
  PI X tg (Ň "range" [a,b]) (Wx ta):=by
 intro pins s σ H R I h;refine ů boot_range (λus s1 ⟨vs,H1,I1,r1,q1⟩=>?_) (by rw[hs,hs2]) (by rw[hs2];rfl);obtain⟨i,j,e,⟨q1,q2,q3,q4⟩,q⟩:=q1;subst e;cases r1 with
 |cons r rr =>
  cases rr with
  |cons r' rr =>
   cases rr;obtain⟨t,rfl⟩:=r;obtain⟨t',rfl⟩:=r';exact call_range_2 (DV I1 q1 q2 q3 q4 q)
noncomputable def tFor(wi:TI)(g:TG)(tb:TS):TS:=λD σ H=>wi σ H λJ H1=>∃W:Nat->Üb,(∃m,W 0 m σ H1)/\∀i m σ H,W i m σ H -> (J.stop i H/\Ġd H)\/(J.go i H/\∃N:Ť St,(∀σ' H',N σ' H'->∃m',m'<m/\W ůa m' σ' H')/\∀x H',J.yld i H x H'->g x σ H' (ŋb { D with nx:=N,ct:=N,bk:=D.nx }))
noncomputable def RU(fp:ãb)(h:Z8):æ:=fp.filterMap λb=>(ŧa b).map λo=>(b,o)
theorem XJ{fp:ãb}{h:Z8}{b:Z1}{o:Obj}(hb:b∈fp)(e:őd b):(b,o)∈RU fp h:=List.mem_filterMap.mpr (ő b hb (by rw[e];rfl))
theorem Jf{fp:ãb}{h:Z8}{p:Z1×Obj}(hp:p∈RU fp h):p.1∈fp/\ŧa p.1=Ã p.2:=by
 obtain⟨b,hb,e⟩:=List.mem_filterMap.mp hp;cases q:ŧa b with
 |none=>rw[q]at e;cases e
 |some o =>
  rw[q]at e;have e':(b,o)=p:=WC e;subst e';exact ã hb q
theorem Inv.pinned{pins:æ}{σ:St}{H:Hp}{s:Z2}{fp:ãb}(I:Ĝ)(hf:∀b∈fp,şa H)(ho:∀b∈fp,∃o,ěd/\∀v,o.data≠.cell v):Ëe X (pins++RU fp s.heap) :=
 I.pins_of (Ļ ((ũd hp).elim (λz=>I.pin p (U4 _ z)) λz=>by
  obtain⟨hb,e⟩:=Jf z;obtain⟨f0,f1,f2,_⟩:=hf p.1 hb;obtain⟨o,e',d⟩:=ho p.1 hb;rw[e]at e';cases e';exact⟨e,f0,f1,f2,d⟩))
theorem Inv.unpinned{pins pl:æ}{σ:St}{H:Hp}{s:Z2}(I:Ëe X (pins++pl)):Ĝ:=I.pins_of (Ļ (I.pin p (U4 _ (Ąe hp))))
theorem VB{iter:Z7}{body:Æ Z6}{wi:TI}{g:TG}{tb:TS}{pos:Pos}(hp:PassesOwn Ñ X.A X.env X.xe)(hc:èa)(hi:ęc)(hg:PG X tg g)(hb:PSs X body tb)
  (hs:∀x,ča=pure x:=by intro _;rfl):PS X (.For tg iter body [] pos) (tFor wi g tb):=by
 intro pins s σ H D I h;refine wpAny_For (thn Ťa Ùc) hs;obtain⟨it,fp,tn,J,H2,e,I2,T,st2,f2,W,⟨m0,w0⟩,turn⟩:=h2;subst e;have stat:∀{H':Hp},(∀b∈fp,Ďe b)->∀b∈fp,şa H':=λhn b hb=>ã (hn b hb) (Øe).2;refine codeAny_forLoop_any (λn s'=>∃i σ' H',őb X pins/\tn i s'.heap/\(∀b∈fp,Ďe b)/\W i n σ' H') ?_ m0 ⟨0,σ,H2,I2,st2,ěa (Øe).1,w0⟩;rintro n s3 ⟨i,σ3,H3,I3,st3,fr3,w3⟩;rcases turn i n σ3 H3 w3 with⟨stop,qn⟩ | ⟨go,N,hN,step⟩
 ·refine ôa (ða X pins X.xe) (λr s4 ⟨hr,I4⟩=>?_);subst hr;exact Ĺc ⟨σ3,H3,I4,qn⟩
 ·refine ôa (āa X pins X.xe) (λr s4 ⟨u,hr,h4⟩=>?_);subst hr;refine ôa h4 (λ_ s5 ⟨x,H5,I5,r5,y5,st5,fr5⟩=>?_);have I5':=Ùb;refine ôa (hg _ s5 σ3 H5 x u _ I5' r5 (step x H5 y5)) (λ_ s6 ⟨σ6,H6,I6,q6⟩=>?_);refine ôa (hb _ s6 σ6 H6 _ I6 q6) (λf s7 q7=>?_);have again:∀{σ7:St}{H7:Hp},Inv X (pins++RU fp s5.heap) σ7 H7 s7->N σ7 H7->∃m,m<n/\∃i σ' H',Inv X pins σ' H' s7/\tn i s7.heap/\(∀b∈fp,Ďe b)/\W i m σ' H':=λ{σ7 H7} I7 n7=>by
   obtain⟨m',hm,w7⟩:=hN σ7 H7 n7;refine⟨m',hm,ůa,σ7,H7,I7.unpinned,óa st5 (I7.pin (b,o) ęa).1,Óa,w7⟩;obtain⟨o,e,d⟩:=Šd;exact(I7.pin (b,o) ęa).2.1
  cases f with
  |next=>obtain⟨σ7,H7,I7,n7⟩:=q7;exact again I7 n7
  |cont=>obtain⟨σ7,H7,I7,n7⟩:=q7;exact again I7 n7
  |brk=>obtain⟨σ7,H7,I7,q7⟩:=q7;exact⟨σ7,H7,I7.unpinned,q7⟩
  |ret v=>obtain⟨x7,σ7,H7,I7,r7,q7⟩:=q7;exact⟨x7,σ7,H7,I7.unpinned,r7,q7⟩
end
theorem JA{K:ZC}{a:Z1}{xs:ĝ}{g:TG}{tb:TS}{D:Ends}{σ:St}{H:Hp}(Pv:Üb)(h0:Pv 0 σ H)(hl:∀i σ H,i<=xs.length->Pv i σ H->Ūa H)
  (hs:∀i x σ H,xs[i]?=äd->Pv i σ H->g x σ H (ŋb { D with nx:=Pv ůa,ct:=Pv ůa,bk:=D.nx })) (hd:∀σ H,Pv xs.length σ H->Ġd H) :
  ∃W:Nat->Üb,(∃m,W 0 m σ H)/\∀i m σ H,W i m σ H -> ((Ād).stop i H/\Ġd H)\/((Ād).go i H/\∃N:Ť St,(∀σ' H',N σ' H'->∃m',m'<m/\W ůa m' σ' H')/\∀x H',(Ād).yld i H x H'->g x σ H' (ŋb { D with nx:=N,ct:=N,bk:=D.nx })):=by
 refine Ăc;rintro i m σ H ⟨rfl,hi,p⟩;have q:=hl i σ H hi p
 by_cases hlt:i<xs.length
 ·refine þc ⟨xs,xs[i],q,by simp[hlt]⟩ (Éc xs.length);obtain⟨e,y⟩:=y;subst e;exact hs i x σ _ (y xs q) p
 ·have e:i=xs.length:=À
  subst e;exact ìb (ő xs q ħ) (hd σ H p)
theorem Rh{K:ZC}{a:Z1}{xs:ĝ}{g:TG}{tb:TS}{D:Ends}{σ:St}{H:Hp}(Pv:Üb)(h0:Pv 0 σ H)(hl:∀i σ H,i<=xs.length->Pv i σ H->łb a xs)
  (hs:∀i x σ H,xs[i]?=äd->Pv i σ H->g x σ H (ŋb { D with nx:=Pv ůa,ct:=Pv ůa,bk:=D.nx })) (hd:∀σ H,Pv xs.length σ H->Ġd H) :
  ∃W:Nat->Üb,(∃m,W 0 m σ H)/\∀i m σ H,W i m σ H -> ((Itt K a).stop i H/\Ġd H)\/((Itt K a).go i H/\∃N:Ť St,(∀σ' H',N σ' H'->∃m',m'<m/\W ůa m' σ' H')/\∀x H',(Itt K a).yld i H x H'->g x σ H' (ŋb { D with nx:=N,ct:=N,bk:=D.nx })):=by
 refine Ăc;rintro i m σ H ⟨rfl,hi,p⟩;have q:=hl i σ H hi p
 by_cases hlt:i<xs.length
 ·refine þc ⟨xs,xs[i],q,by simp[hlt]⟩ (Éc xs.length);obtain⟨e,y⟩:=y;subst e;exact hs i x σ _ (y xs q) p
 ·have e:i=xs.length:=À
  subst e;exact ìb (ő xs q ħ) (hd σ H p)
theorem SB{lo:Int}{n:Nat}{g:TG}{tb:TS}{D:Ends}{σ:St}{H:Hp}(Pv:Üb)(h0:Pv 0 σ H)
  (hs:∀i σ H,i<n->Pv i σ H->g (ô (lo+i)) σ H (ŋb { D with nx:=Pv ůa,ct:=Pv ůa,bk:=D.nx })) (hd:∀σ H,Pv n σ H->Ġd H) :
  ∃W:Nat->Üb,(∃m,W 0 m σ H)/\∀i m σ H,W i m σ H -> ((Itr lo n).stop i H/\Ġd H)\/((Itr lo n).go i H/\∃N:Ť St,(∀σ' H',N σ' H'->∃m',m'<m/\W ůa m' σ' H')/\∀x H',(Itr lo n).yld i H x H'->g x σ H' (ŋb { D with nx:=N,ct:=N,bk:=D.nx })):=by
 refine ő (Ãc n) ⟨n,Í,WW _,h0⟩ ?_;rintro i m σ H ⟨rfl,hi,p⟩
 by_cases hlt:i<n
 ·refine þc hlt (Éc n);obtain⟨e,y⟩:=y;subst e y;exact hs i σ _ hlt p
 ·have e:i=n:=À
  subst e;exact ìb ħ (hd σ H p)
open PySem PySem.Spec PyProof.Rows
noncomputable abbrev R2:=V->V->Ŭa
noncomputable def OpR(X:Cx)(f:Z0->Z0->Sem Z0)(r:R2):Prop :=
 ∀(pins:æ) (s:Z2) (σ:St) (H:Hp) (x y:V) (v u:Z0) (Q:VK),Ĝ->RelV x v->Őa y->r x y H Q -> òa (f v u) s
noncomputable def MR(X:Cx)(f:Z0->Sem Z0)(r:V->Ŭa):Prop :=
 ∀(pins:æ) (s:Z2) (σ:St) (H:Hp) (x:V) (v:Z0) (Q:VK),Ĝ->RelV x v->r x H Q -> òa (f v) s
noncomputable def YI(X:Cx)(f:Z0)(r:ĝ->Ŭa):Prop :=
 ∀(pins:æ) (s:Z2) (σ:St) (H:Hp) (xs:ĝ) (us:š) (Q:VK),Ĝ->Ŝa xs->r xs H Q -> òa (call f us) s
noncomputable def TruR(X:Cx)(r:V->Û Hp (Ť Bool)):Prop :=
 ∀(pins:æ) (s:Z2) (σ:St) (H:Hp) (x:V) (v:Z0) (Q:Ť Bool),Ĝ->RelV x v->r x H Q -> Ë (truthy v) (TP X pins σ Q) s
noncomputable def tOp(r:R2)(ta tb:TE):TE:=æa (tb σ H1 λy H2=>r x y H2 Q)
noncomputable def tUn(r:V->Ŭa)(ta:TE):TE:=æa (r x H1 Q)
noncomputable def rI(C:Û Int Int)(g:Int->Int->V):R2:=Äb (∃i j,x=ïe/\y=ô j/\C i j/\Q (g i j) H)
noncomputable def rI0(g:Int->Int->V):R2:=Äb (∃i j,x=ïe/\y=ô j/\Q (g i j) H)
noncomputable def rU(g:Int->V):V->Ŭa:=λx H Q=>∃i,x=ïe/\Q (g i) H
section
variable {X:Cx}{a b c:Z7}{ta tb tc:TE}{pos:Pos}
theorem binT(ha:Ód)(hb:Œ b tb){pins:æ}{s:Z2}{σ:St}{H:Hp}{R:V->Ť V}(I:Ĝ)
  (h:ta σ H λx H1=>tb σ H1 λy H2=>R x y H2) {Q:ģ}{f:Z0->Z0->Sem Z0}
  (hf:∀v u s2 x y H2,É H2 s2->RelV x v->Őa y->R x y H2->Ë (f v u) Q s2) :
  ġc (Ë (f v u) Q s₂):=by
 refine ŉ _ (λv s1 ⟨x,H1,I1,r1,q1⟩=>?_);refine thn (Ëa _) λu s2 ⟨y,H2,I2,r2,q2⟩=>?_;exact hf v u s2 x y H2 I2 r1 r2 q2
theorem ZN{op:Operator}{r:R2}(ho:ãa op r)(ha:Ód)(hb:Œ b tb):Œ (.BinOp a op b pos) Ød:=by
 intro pins s σ H Q I h;exact wpAny_BinOp Şc
theorem SK{op:UnaryOp}{r:V->Ŭa}(ho:MR X (unaryOp op) r)(ha:Ód):Œ (.UnaryOp op a pos) (tUn r ta):=by
 intro pins s σ H Q I h;exact UnaryOp_ (ŉ _ (λv s1 ⟨x,H1,I1,r1,q1⟩=>ho pins s1 σ H1 x v Q I1 r1 q1))
theorem opI{f:Z0->Z0->Sem Z0}{C:Û Int Int}{g:Int->Int->Int}
  (rule:∀(i j:Int) (t u:Tok) (s:Z2) (Q:ģ) (E:ģ),C i j->Q (.int (g i j) s.toks) { s with toks:=s.toks+1 }->Ěd) :
  OpR X f (rI C λi j=>ô (g i j)):=by
 intro pins s σ H x y v u Q I rx ry h;obtain⟨i,j,rfl,rfl,hc,q⟩:=h;obtain⟨t,rfl⟩:=rx;obtain⟨t',rfl⟩:=ry;exact rule i j t t' s _ _ hc (Ãa (ô (g i j)))
theorem opI0{f:Z0->Z0->Sem Z0}{g:Int->Int->Int}
  (rule:∀(i j:Int) (t u:Tok) (s:Z2) (Q:ģ) (E:ģ),Q (.int (g i j) s.toks) { s with toks:=s.toks+1 }->Ěd) :
  OpR X f (rI0 λi j=>ô (g i j)):=by
 intro pins s σ H x y v u Q I rx ry h;obtain⟨i,j,rfl,rfl,q⟩:=h;obtain⟨t,rfl⟩:=rx;obtain⟨t',rfl⟩:=ry;exact rule i j t t' s _ _ (Ãa (ô (g i j)))
theorem opB0{f:Z0->Z0->Sem Z0}{g:Int->Int->Bool}
  (rule:∀(i j:Int) (t u:Tok) (s:Z2) (Q:ģ) (E:ģ),Q (.bool (g i j)) s->Ěd) :
  OpR X f (rI0 λi j=>.bl (g i j)):=by
 intro pins s σ H x y v u Q I rx ry h;obtain⟨i,j,rfl,rfl,q⟩:=h;obtain⟨t,rfl⟩:=rx;obtain⟨t',rfl⟩:=ry;exact rule i j t t' s _ _ (Ĕc (g i j) I)
noncomputable def CDiv(i j:Int):Prop:=0<j/\j<1073741824
noncomputable def CPow(i j:Int):Prop:=0<=j/\j<=1000000/\i.natAbs<2 ^ 64
noncomputable def CMul(i j:Int):Prop:=(-(2 ^ 64)<i/\i<2 ^ 64)\/(-(2 ^ 64)<j/\j<2 ^ 64)
theorem CMul.ok{i j:Int}(h:CMul i j):IntMulOk i j:=by
 rcases h with⟨h1,h2⟩ | ⟨h1,h2⟩
 ·exact .of_left (intBits_le_64 h1 h2)
 ·exact .of_right (intBits_le_64 h1 h2)
theorem Uz:ãa .Add (rI0 λi j=>ô (i+j)):=opI0 (Ůd (add_int q))
theorem F7:ãa .Sub (rI0 λi j=>ô (i-j)):=opI0 (Ůd (sub_int q))
theorem Tr:ãa .Mult (rI CMul λi j=>ô (i*j)):=opI λ_ _ _ _ _ _ _ hc q=>mul_int q hc.ok
theorem Oh:ãa .FloorDiv (rI CDiv λi j=>ô (i/j)):=opI λi j _ _ _ _ _ hc q=>by
 have h1:Þ 0<j:=hc.1;have h2:j<1073741824:=hc.2;exact floordiv_int À (ú (Int.fdiv_eq_ediv_of_nonneg i À) q) (Ė (PyProof.noPylong_small À))
theorem Tq:ãa .Mod (rI (λ_ j=>0<j) λi j=>ô (i%j)):=opI λi j _ _ _ _ _ hc q=>by
 have h1:Þ 0<j:=hc;exact mod_int' À (ú (Int.fmod_eq_emod_of_nonneg i À) q)
theorem Tt:ãa .Pow (rI CPow λi j=>ô (i ^ j.toNat)):=opI λ_ _ _ _ _ _ _ hc q=>pow_int_small hc.1 hc.2.1 hc.2.2 q
theorem Rn:OpR X (inplaceOp .Add) (rI0 λi j=>ô (i+j)):=opI0 (Ůd (iadd_int q))
theorem unI{f:Z0->Sem Z0}{g:Int->Int}
  (rule:∀(i:Int) (t:Tok) (s:Z2) (Q:ģ) (E:ģ),Q (.int (g i) s.toks) { s with toks:=s.toks+1 }->úa Ñ X.A (f (Řd i))) :
  MR X f (rU λi=>ô (g i)):=by
 intro pins s σ H x v Q I rx h;obtain⟨i,rfl,q⟩:=h;obtain⟨t,rfl⟩:=rx;exact rule i t s _ _ (Ãa (ô (g i)))
theorem Xq:MR X (unaryOp .USub) (rU λi=>ô (-i)):=unI λ_ _ _ _ _ q=>neg_int q
end
noncomputable def scal:V->V->Bool
 | .non,.non=>true | .non,.int _=>true | .int _,.non=>true | .non,.bl _=>true | .bl _,.non=>true | .non,.str _=>true | .str _,.non=>true
 | .int _,.int _=>true | .bl _,.bl _=>true | .str _,.str _=>true | .byt _,.byt _=>true
 | .int _,.str _=>true | .str _,.int _=>true | .bl _,.str _=>true | .str _,.bl _=>true
 |_,_=>false
noncomputable def rEq:R2:=Äb (scal x y=true/\ŉb (è (x=y)))
noncomputable def rNe:R2:=Äb (scal x y=true/\ŉb (! è (x=y)))
theorem FY{i j:Int}:è (Žb i=Žb j)=(i==j):=by
 rw[Bool.eq_iff_iff];simp
theorem FO{i j:Bool}:è (V.bl i=V.bl j)=(i==j):=by
 rw[Bool.eq_iff_iff];simp
theorem FZ{i j:Str}:è (Æd i=Æd j)=(i==j):=by
 rw[Bool.eq_iff_iff];simp
theorem FX{i j:Array UInt8}:è (V.byt i=V.byt j)=(i.toList==j.toList):=by
 rw[Bool.eq_iff_iff];cases i;cases j;simp
section
variable {X:Cx}{a b c:Z7}{ta tb tc:TE}{pos:Pos}
theorem YB{pins:æ}{σ:St}{H:Hp}{s:Z2}{Q:VK}{k k':Bool}(I:Ĝ)(q:ŉb k)(e:k=k'):Œa (.bool k') s:=by
 subst e;exact Ĕc k I
theorem WH:ķ .Eq rEq:=by
 intro pins s σ H x y v u Q I rx ry h;obtain⟨hs,q⟩:=h;cases x with
 |non =>
  cases rx;cases y with
  |non=>cases ry;exact PySem.EqNone.eq_none_none ĸa
  |bl j=>cases ry;exact PySem.EqNone.eq_none_bool ĸa
  |int j=>obtain⟨t',rfl⟩:=ry;exact PySem.EqNone.eq_none_int ĸa
  |str j=>obtain⟨t',rfl⟩:=ry;exact PySem.EqNone.eq_none_str ĸa
  |_=>exact ń (show false=true from hs) YS
 |bl i =>
  cases rx;cases y with
  |non=>cases ry;exact PySem.EqNone.eq_bool_none ĸa
  |bl j=>cases ry;exact eq_bool (YB I q FO)
  |str j=>obtain⟨t',rfl⟩:=ry;exact PySem.EqMixed.eq_bool_str ĸa
  |_=>exact ń (show false=true from hs) YS
 |int i =>
  obtain⟨t,rfl⟩:=rx;cases y with
  |non=>cases ry;exact PySem.EqNone.eq_int_none ĸa
  |int j=>obtain⟨t',rfl⟩:=ry;exact eq_int (YB I q FY)
  |str j=>obtain⟨t',rfl⟩:=ry;exact PySem.EqMixed.eq_int_str ĸa
  |_=>exact ń (show false=true from hs) YS
 |str i =>
  obtain⟨t,rfl⟩:=rx;cases y with
  |non=>cases ry;exact PySem.EqNone.eq_str_none ĸa
  |bl j=>cases ry;exact PySem.EqMixed.eq_str_bool ĸa
  |int j=>obtain⟨t',rfl⟩:=ry;exact PySem.EqMixed.eq_str_int ĸa
  |str j=>obtain⟨t',rfl⟩:=ry;exact eq_str (YB I q FZ)
  |_=>exact ń (show false=true from hs) YS
 |byt i =>
  obtain⟨t,rfl⟩:=rx;cases y with
  |byt j=>obtain⟨t',rfl⟩:=ry;exact PySem.W.eq_bytes (YB I q FX)
  |_=>exact ń (show false=true from hs) YS
 |_=>cases y<;>exact ń (show false=true from hs) YS
theorem SJ:ķ .NotEq rNe:=by
 intro pins s σ H x y v u Q I rx ry h;obtain⟨hs,q⟩:=h;cases x with
 |non =>
  cases rx;cases y with
  |non=>cases ry;exact PySem.EqNone.ne_none_none ĸa
  |bl j=>cases ry;exact PySem.EqNone.ne_none_bool ĸa
  |int j=>obtain⟨t',rfl⟩:=ry;exact PySem.EqNone.ne_none_int ĸa
  |str j=>obtain⟨t',rfl⟩:=ry;exact PySem.EqNone.ne_none_str ĸa
  |_=>exact ń (show false=true from hs) YS
 |bl i =>
  cases rx;cases y with
  |non=>cases ry;exact PySem.EqNone.ne_bool_none ĸa
  |bl j=>cases ry;exact ne_bool (YB I q (ęb not FO))
  |str j=>obtain⟨t',rfl⟩:=ry;exact PySem.EqMixed.ne_bool_str ĸa
  |_=>exact ń (show false=true from hs) YS
 |int i =>
  obtain⟨t,rfl⟩:=rx;cases y with
  |non=>cases ry;exact PySem.EqNone.ne_int_none ĸa
  |int j=>obtain⟨t',rfl⟩:=ry;exact ne_int (YB I q (ęb not FY))
  |str j=>obtain⟨t',rfl⟩:=ry;exact PySem.EqMixed.ne_int_str ĸa
  |_=>exact ń (show false=true from hs) YS
 |str i =>
  obtain⟨t,rfl⟩:=rx;cases y with
  |non=>cases ry;exact PySem.EqNone.ne_str_none ĸa
  |bl j=>cases ry;exact PySem.EqMixed.ne_str_bool ĸa
  |int j=>obtain⟨t',rfl⟩:=ry;exact PySem.EqMixed.ne_str_int ĸa
  |str j=>obtain⟨t',rfl⟩:=ry;exact ne_str (YB I q (ęb not FZ))
  |_=>exact ń (show false=true from hs) YS
 |byt i =>
  obtain⟨t,rfl⟩:=rx;cases y with
  |byt j=>obtain⟨t',rfl⟩:=ry;exact PySem.W.ne_bytes (YB I q (ęb not FX))
  |_=>exact ń (show false=true from hs) YS
 |_=>cases y<;>exact ń (show false=true from hs) YS
theorem GO:ķ .Lt (rI0 λi j=>.bl (è (i<j))):=opB0 (Ůd (lt_int q))
theorem TK:ķ .LtE (rI0 λi j=>.bl (è (i<=j))):=opB0 (Ůd (le_int q))
theorem Yh:ķ .Gt (rI0 λi j=>.bl (è (j<i))):=opB0 (Ůd (gt_int q))
theorem Yg:ķ .GtE (rI0 λi j=>.bl (è (j<=i))):=opB0 (Ůd (ge_int q))
theorem JS:ķ .In (Äb (∃i j,x=ĉ i/\y=ĉ j/\ŉb (! Üc j i j.length))):=by
 intro pins s σ H x y v u Q I rx ry h;obtain⟨i,j,rfl,rfl,q⟩:=h;obtain⟨t,rfl⟩:=rx;obtain⟨t',rfl⟩:=ry;exact in_str (YB I q rfl)
theorem U0(b:Z7){op:CmpOp}(h:op≠.In:=by decide)(h2:op≠.NotIn:=by decide):Ŏb=false:=by
 have e1:Ķb (op==CmpOp.In):=by cases op<;>first | rfl | exact ń rfl h
 have e2:Ķb (op==CmpOp.NotIn):=by cases op<;>first | rfl | exact ń rfl h2
 cases b<;>simp[behindInMarks,e1,e2]
theorem UE{op:CmpOp}{r:R2}(ho:ķ op r)(ha:Ód)(hb:Œ b tb)(hm:Ŏb=false):Œ Ób Ød:=by
 intro pins s σ H Q I h;exact wpAny_Compare1 Şc hm
noncomputable def QO(t:TE):TT:=Šb (λx H'=>IsB x H' Q)
theorem D8{op:CmpOp}{r:R2}(ho:ķ op r)(ha:Ód)(hb:Œ b tb)(hm:Ŏb=false):PT X Ób (QO Ød):=by
 intro pins s σ H Q I h;refine wpAny_isTrue_Compare1 (ŉ _ (λv s1 ⟨x,H1,I1,r1,q1⟩=>thn (Ëa _) λu s2 ⟨y,H2,I2,r2,q2⟩ => thn Øa λc s3 ⟨z,H3,I3,r3,k,e,q3⟩=>?_)) hm
 subst e;cases r3;exact ğa (ő H3 I3 q3)
noncomputable def FJ(r r':R2)(ta tb tc:TE):TE:=æa (tb σ H1 λy H2=>r x y H2 λz H3=>∃k,z=.bl k /\ (if k=true then tc σ H3 λw' H4=>r' y w' H4 Q else Q öa H3))
theorem XN{op op':CmpOp}{r r':R2}(ho:ķ op r)(ho':ķ op' r')(ha:Ód)(hb:Œ b tb)(hc:Œ c tc)
  (hm:lastMarks [op,op'] [b,c]=false:=by with_unfolding_all rfl):Œ (.Compare a [op,op'] [b,c] pos) (FJ r r' ta tb tc):=by
 intro pins s σ H Q I h;refine Compare_chain (ŉ _ (λv s1 ⟨x,H1,I1,r1,q1⟩=>chain_link (thn (Ëa _) λu s2 ⟨y,H2,I2,r2,q2⟩ => thn Øa λd s3 ⟨z,H3,I3,r3,k,e,q3⟩=>?_))) hm
 subst e;cases r3;refine ğa ?_;cases k with
 |false=>exact ite_ff ⟨öa,H3,I3,Z,q3⟩
 |true=>exact ite_tt (chain_last (thn (hc pins s3 σ H3 _ I3 q3) λw' s4 ⟨z',H4,I4,r4,q4⟩=>ho' pins s4 σ H4 y z' u w' Q I4 r2 r4 q4))
theorem PV{op op':CmpOp}{r r':R2}(ho:ķ op r)(ho':ķ op' r')(ha:Ód)(hb:Œ b tb)(hc:Œ c tc)
  (hm:lastMarks [op,op'] [b,c]=false:=by with_unfolding_all rfl):PT X (.Compare a [op,op'] [b,c] pos) (QO (FJ r r' ta tb tc)):=by
 intro pins s σ H Q I h;refine isTrue_chain (ŉ _ (λv s1 ⟨x,H1,I1,r1,q1⟩=>test_link (thn (Ëa _) λu s2 ⟨y,H2,I2,r2,q2⟩ => thn Øa λd s3 ⟨z,H3,I3,r3,k,e,q3⟩=>?_))) hm
 subst e;cases r3;refine ğa ?_;cases k with
 |false =>
  obtain⟨k',e',q'⟩:=q3;cases e';exact ite_ff (ő H3 I3 q')
 |true =>
  refine ite_tt (test_last (thn (hc pins s3 σ H3 _ I3 q3) λw' s4 ⟨z',H4,I4,r4,q4⟩=>thn (ho' pins s4 σ H4 y z' u w' _ I4 r2 r4 q4) λd' s5 ⟨z2,H5,I5,r5,k2,e2,q5⟩=>?_));subst e2;cases r5;exact ğa (ő H5 I5 q5)
noncomputable def TruV(K:ZC)(x:V)(H:Hp)(k:Bool):Prop :=
 match x with
 | .non=>k=false
 | .bl b=>k=b
 | .int i=>k=(i != 0)
 | .str y=>ø y.length/\k=(Þ y.length != 0)
 | .byt y=>ø y.size/\k=(Þ y.size != 0)
 | .ref p=>(∃xs,Èb p xs/\k = ! xs.isEmpty)\/(∃xs,łb p xs/\k = ! xs.isEmpty)\/∃kvs,H p=Ã ŭb/\k = ! kvs.isEmpty
 |_=>False
theorem Fz{κ:Type}{kvs:Ńb}{vs:ċ κ Z0}(r:åc):(! vs.isEmpty) = ! kvs.isEmpty:=by
 cases r<;>rfl
theorem AT{xs:ĝ}{its:š}(r:Õe):(! its.toArray.isEmpty) = ! xs.isEmpty:=by
 cases r<;>simp
theorem TV:ũ sizeLine<2 ^ 63:=by rw[sizeLine_eq];decide
theorem Xp:TruR X (λx H Q=>∃k,TruV X.K x H k/\Q k H):=by
 intro pins s σ H x v Q I rx h;obtain⟨k,e,q⟩:=h;have hl:=TV;have hs:sizeLine=16777216:=sizeLine_eq;cases x with
 |non =>
  cases rx;have e':k=false:=e;subst e';exact truthy_none (ő H I q)
 |bl b =>
  cases rx;have e':k=b:=e;subst e';exact ğa (ő H I q)
 |int i =>
  obtain⟨t,rfl⟩:=rx;have e':k=(i != 0):=e;subst e';exact PySem.P.truthy_int (ő H I q)
 |str y =>
  obtain⟨t,rfl⟩:=rx;obtain⟨hy,e'⟩:ø y.length/\k=(Þ y.length != 0):=e;subst e';exact PySem.P.truthy_str À (ő H ħa q)
 |byt y =>
  obtain⟨t,rfl⟩:=rx;obtain⟨hy,e'⟩:ø y.size/\k=(Þ y.size != 0):=e;subst e';exact PySem.W.truthy_bytes À (ő H ħa q)
 |ref p =>
  cases rx;have e':(∃xs,Ðd p xs/\k = ! xs.isEmpty)\/(∃xs,SqT X.K H p xs/\k = ! xs.isEmpty)\/∃kvs,H p=Ã ŭb/\k = ! kvs.isEmpty:=e;rcases e' with⟨xs,hx,e'⟩ | ⟨xs,hx,e'⟩ | ⟨kvs,hx,e'⟩
  ·subst e';obtain⟨its,r,pl,hz⟩:=I.list hx;have hlen:=r.length;exact wpAny_truthy_list pl.isList (by simp only[WZ];omega) (ő H ħa (ú (AT r) q))
  ·subst e';obtain⟨its,r,pl,hz⟩:=I.tuple hx;have hlen:=r.length;exact truthy_tuple pl (by simp only[WZ];omega) (ő H ħa (ú (AT r) q))
  ·subst e';obtain⟨hz,hS,vs,r,m⟩:Ĕe/\ſ p/\∃vs,åc/\s.heap.DictOf ôd p vs:=I.hok p _ hx;have hlen:kvs.length=vs.length:=Paired.length r;exact wpAny_truthy_dict hS m À (ő H ħa (ú (Fz r) q))
 |_=>exact(show False from e).elim
theorem Nq(ha:Ód)(he:∀whole,isTrue a X.env whole=(do let v <- whole;standAt a.pos;holding [v] (truthy v))) :
  PT X a (ďa (ta σ H λx H'=>∃k,TruV X.K x H' k/\Q k H')):=by
 intro pins s σ H Q I h;exact isTrue_plain (ŉ _ (λv s1 ⟨x,H1,I1,r1,q1⟩=>Xp pins s1 σ H1 x v Q I1 r1 q1)) (he _)
theorem UC:ãa .Add (Äb (∃i j,x=ĉ i/\y=ĉ j/\Ŧc/\Q (ĉ (i++j)) H)):=by
 intro pins s σ H x y v u Q I rx ry h;obtain⟨i,j,rfl,rfl,hz,q⟩:=h;obtain⟨t,rfl⟩:=rx;obtain⟨t',rfl⟩:=ry;exact add_str (λt' tk=>Ãa (ĉ (i++j))) hz
theorem RI{x:V}{us:š}(r:Ŝa [x]):∃u,us=[u]/\Őa x:=by
 cases r with
 |cons r1 r2=>cases r2;exact ža r1
theorem GJ{x y:V}{us:š}(r:Ŝa [x,y]):∃u w',us=[u,w']/\Őa x/\RelV y w':=by
 cases r with
 |cons r1 r2 =>
  cases r2 with
  |cons r3 r4=>cases r4;exact şc _ Z r1 r3
theorem Op:ĸ "abs" (∃i,xs=[ïe]/\Ðc (if i<0 then -i else i)):=by
 intro pins s σ H xs us Q I r h;obtain⟨i,rfl,q⟩:=h;obtain⟨u,rfl,t,rfl⟩:=RI r;exact call_abs_int λu tk=>Ãa (ô (if i<0 then -i else i))
theorem PZ(hc:èa):ĸ "max" (∃i j,xs=[ïe,ô j]/\Ðc (if j>i then j else i)):=by
 intro pins s σ H xs us Q I r h;obtain⟨i,j,rfl,q⟩:=h;obtain⟨u,w',rfl,⟨t,rfl⟩,⟨t',rfl⟩⟩:=GJ r;refine max_two_ints Ĵa λh' tk k=>şc H (I.kept k) ?_ q
 by_cases hj:j>i
 ·rw[ZH hj,ZH hj];exact Ôe
 ·rw[ZE hj,ZE hj];exact Ôe
theorem JY(hc:èa):ĸ "min" (∃i j,xs=[ïe,ô j]/\Ðc (if j<i then j else i)):=by
 intro pins s σ H xs us Q I r h;obtain⟨i,j,rfl,q⟩:=h;obtain⟨u,w',rfl,⟨t,rfl⟩,⟨t',rfl⟩⟩:=GJ r;refine min_two_ints Ĵa λh' tk k=>şc H (I.kept k) ?_ q
 by_cases hj:j<i
 ·rw[ZH hj,ZH hj];exact Ôe
 ·rw[ZE hj,ZE hj];exact Ôe
end
open PySem PySem.Spec PyProof.Rows
structure ObjM(h:Z8)(x dx C:Z1)(mA:Ą):Prop where
 obj:ŧa x=Ã (PySem.W.instObj C dx)
 ns:h.Ns1 dx mA
 ne:dx≠x
theorem Jx{h:Z8}{dx:Z1}{mA:Ą}(n:h.Ns1 dx mA):∃od,ŧa dx=Ã od/\∀name,PySem.W.lookIn name od=Ã (mA name):=by
 obtain⟨o,es,ep,ho,hd,hk,_,hm⟩:=n;refine ő o ho (λname=>?_);have e:=hm name;unfold nsFind findBy at e;rw[<- Array.find?_toList]at e;unfold PySem.W.lookIn;rw[hd];dsimp only;split
 ·rename_i y q
  rw[q]at e;exact ęb some e
 ·rename_i q
  rw[q]at e;have a:es.toList.any (·.refKey)=false:=by
   rw[List.any_eq_false];intro y hy;obtain⟨z,t,hkey⟩:=hk y (Array.mem_toList_iff.mp hy);simp[DictEntry.refKey,hkey]
  have a':¬es.toList.any (·.refKey)=true:=by rw[a];exact YS
  rw[ZE a'];exact ęb some e
theorem ObjM.look{h:Z8}{x dx C:Z1}{mA:Ą}(I:ObjM h x dx C mA):∃od,PySem.W.InstAt h x (PySem.W.instObj C dx) C (Ã od)/\∀name,PySem.W.lookIn name od=Ã (mA name) :=
 let ⟨od,ho,hl⟩:=Jx I.ns
 ő od ⟨I.obj,Z,Z,ho⟩ hl
section
variable {prog:Z3}{w:Z5}{A:Z4}{E:ģ}{s:Z2}{K:ZC}{x dx C f:Z1}{mA:Ą}{name:Str}{v:Z0}
theorem Rl{expr:Bool}{Q:ģ}(X:Éd)(I:ObjM s.heap x dx C mA)(hg:ģc name=true)(hh:Íd=true)
  (ha:ı name=Ã none) (hv:mA name=ôc) (hv':PySem.W.handedIn v=true) (h:Q v { s with toks:=s.toks+1 }) :
  Øc (getAttr (Ê x) name expr):=by
 obtain⟨od,J,hl⟩:=I.look;exact PySem.W.get_value X J (PySem.W.plainGet_of hg).1 (PySem.W.findObj_own hh ha rfl (by rw[hl,hv])) hv' h
theorem Oz{pl:Sem Bool}{Q:İc (Z0×š)}(X:Éd)(I:ObjM s.heap x dx C mA)(hg:ģc name=true)
  (hf:ı name=Ã (Ú f)) (ht:þe=true) (hv:mA name=none) (h:Q (Ê f,[Ê x]) s) :
  Øc (getMethod (Ê x) name pl):=by
 obtain⟨od,J,hl⟩:=I.look;exact PySem.W.method_fn X J (PySem.W.plainGet_of hg).1 (PySem.W.plainGet_of hg).2 hf (beq_iff_eq.mp ht) (by show(PySem.W.lookIn name od).map (·.isSome)=Ã false;rw[hl,hv];rfl) h
theorem Qk{ns:ù}{Q:İc Unit}(X:Éd)(I:ObjM s.heap x dx C mA)
  (hs:ża) (hp:öe=true) (ht:PySem.W.takerIn K C name=Ã none) (hh:Íd=true)
  (hw:PySem.Within mA ns) (hsz:ø ns.length)
  (h:∀h',ObjM h' x dx C (λy=>if y=name then ôc else mA y)->đa dx h'->Q () { s with heap:=h',toks:=s.toks+2 }) :
  Øc (setAttr (Ê x) name v):=by
 obtain⟨od,J,hl⟩:=I.look;refine PySem.W.set_plain X J hs (PySem.W.osa_open (s:={ s with toks:=s.toks+1 }) (r:=none) X J hp ht λb=>?_);obtain⟨cd,hc,hd'⟩:=PySem.W.any_some hh;have hx:ą x ⟨Âe,Ã dx,.plain,#[]⟩:=I.obj;refine ùb (ZA (wpAny_loadPart hx (ZA (PySem.W.Looks.here (s:={ s with toks:=s.toks+1 }) (PySem.W.looks_clsIn X hc) ?_))));rw[hd'];refine ZQ (a:=Ã dx) (ùb ?_);refine wpAny_nsSet1 (s:={ s with toks:=s.toks+1 }) I.ns λh' hn2 hs2=>?_;obtain⟨oD,esD,epD,hoD,hdD,hcD⟩:=hn2.count (PySem.Within.cons name v hw);refine ZA (wpAny_lookBehind hoD (by rw[hdD];exact pastItsLine_dict (WB hcD (by rw[YL];omega))) ?_);exact ZQ (h _ (ő ((hs2.2 _ (ĥ I.ne)).trans I.obj) hn2 I.ne) hs2)
theorem Ll{R:İc Result}{vs:š}{kw:ġa Z0}(X:Éd)(hm:īb K=true)
  (hi:ı "__init__" = Ã (Ú f)) (hf:PySem.W.typeIn K (Ê f)=Ã (Ŀa "function"))
  (h:codeAny þ (Ėa vs) (.call (Ê f) (ã (Ê Ýd::vs) kw)) (PySem.W.InitBack Ýd R) { s with heap:=(ĩb).push Ûb }) :
  codeAny þ A (.call Âe (ã vs kw)) R s:=by
 obtain⟨hh,g,d,t,os⟩:=s;exact PySem.W.make_core (PySem.W.makes_of X hm) (PySem.W.looks_findIn X hi) (λself=>PySem.W.bind_fn X self hf) ĭa h
end
noncomputable def putF(f:Str)(v:V):ġa V->ġa V
 | []=>[(f,v)]
 | (g,x)::r=>if g=f then(g,v)::r else(g,x)::putF f v r
theorem AW(f g:Str)(v:V):∀fs:ġa V,(putF f v fs).lookup g=if g=f then ôc else Ġb g
 | []=>by
  show List.lookup g [(f,v)]=_
  by_cases h:g=f
  ·have hb:(g==f)=true:=beq_iff_eq.mpr h;simp only[List.lookup,hb,ZH h]
  ·have hb:Ķb (g==f):=VQ.mpr h;simp only[List.lookup,hb,ZE h]
 | (k,x)::r=>by
  have ih:=AW f g v r;rw[show putF f v ((k,x)::r)=(if k=f then(k,v)::r else(k,x)::putF f v r) from rfl]
  by_cases hk:k=f
  ·rw[ZH hk]
   by_cases h:g=k
   ·have hb:(g==k)=true:=beq_iff_eq.mpr h;simp only[List.lookup,hb,ZH (h.trans hk)]
   ·have hb:Ķb (g==k):=VQ.mpr h;simp only[List.lookup,hb,ZE (λe:g=f=>h (e.trans hk.symm))]
  ·rw[ZE hk]
   by_cases h:g=k
   ·have hb:(g==k)=true:=beq_iff_eq.mpr h;simp only[List.lookup,hb,ZE (λe:g=f=>hk (h.symm.trans e))]
   ·have hb:Ķb (g==k):=VQ.mpr h;simp only[List.lookup,hb];exact ih
theorem JQ(f:Str)(v:V):∀fs:ġa V,f∈(putF f v fs).map (·.1)/\∀g,g∈fs.map (·.1)->g∈(putF f v fs).map (·.1)
 | []=>ã (by simp[putF]) (λg h=>by simp at h)
 | (k,x)::r=>by
  obtain⟨i1,i2⟩:=JQ f v r;rw[show putF f v ((k,x)::r)=(if k=f then(k,v)::r else(k,x)::putF f v r) from rfl]
  by_cases hk:k=f
  ·rw[ZH hk];subst hk;exact ã Í (λg h=>by simpa using h)
  ·rw[ZE hk];refine ã ?_ (λg h=>?_)
   ·rw[Y8];exact UV _ i1
   ·rw[Y8]at h ⊢;rcases ĳd h with e | e
    ·exact W9.mpr (Ė e)
    ·exact UV _ (i2 g e)
theorem AV(f:Str)(v:V):∀fs:ġa V,î (putF f v fs)<=fs.length+1
 | []=>by simp[putF]
 | (k,x)::r=>by
  have ih:=AV f v r;rw[show putF f v ((k,x)::r)=(if k=f then(k,v)::r else(k,x)::putF f v r) from rfl]
  by_cases hk:k=f
  ·rw[ZH hk,YL,YL];omega
  ·rw[ZE hk,YL,YL];omega
theorem RelO.some_of{v:V}{o:Z9 Z0}(r:RelO ôc o):∃u,o=Ã u/\Őa v:=by
 cases o with
 |none=>exact(show False from r).elim
 |some u=>exact ő u Z r
theorem RelO.none_of{o:Z9 Z0}(r:RelO none o):o=none:=by
 cases o with
 |none=>rfl
 |some u=>exact(show False from r).elim
theorem Io{v:V}{u:Z0}(r:Őa v):PySem.W.handedIn u=true:=by
 cases v with
 |non=>cases(show u=Value.none from r);rfl
 |bl b=>cases(show u=Value.bool b from r);rfl
 |int i=>obtain⟨t,e⟩:=(show ∃t,u=Value.int i t from r);cases e;rfl
 |str x=>obtain⟨t,e⟩:=(show ∃t,u=Čc x from r);cases e;rfl
 |byt b=>obtain⟨t,e⟩:=(show ∃t,u=Value.bytes b t from r);cases e;rfl
 |sT x n=>obtain⟨t,e,_⟩:=(show ∃t,u=Čc x/\1<=t/\t<n from r);cases e;rfl
 |ref a=>cases(show u=ĩ a from r);rfl
 |ty n=>cases(show u=Value.type n from r);rfl
section
variable {P:Z3}{w:Z5}{H H':Hp}{h h':Z8}{a C dx:Z1}{fs fs':Æ (Str × V)}
theorem NE(hok:æb)(e:Ŵb fs):∃mA,ObjM h a dx C mA/\(∀f,RelO (Ġb f) (mA f))/\PySem.Within mA (fs.map (·.1))/\fs.length<=1000/\H dx=Ã (.own a):=by
 obtain⟨d,z,ne,ob,mA,n,r,q⟩:=(show Ńa a (Ŧ fs) from hok a _ e);exact⟨mA,ő ob n ne,r,q,z,d⟩
end
structure Cls(K:ZC)(C:Z1):Prop where
 pg:ģc Str.empty=true
 hd:Íd=true
 po:öe=true
 sa:ża
theorem Cls.get{K:ZC}{C:Z1}(c:Cls K C)(f:Str):ģc f=true:=c.pg
noncomputable def NoAttr(K:ZC)(C:Z1)(f:Str):Prop:=ı f=Ã none
theorem NoAttr.taker{K:ZC}{C:Z1}{f:Str}(n:NoAttr K C f):PySem.W.takerIn K C f=Ã none:=by
 unfold PySem.W.takerIn;rw[show ı f=Ã none from n];rfl
structure Meth(K:ZC)(C:Z1)(m:Str)(f:Z1):Prop where
 at_:ı m=Ã (Ú f)
 fn:þe=true
 kp:Ũ K f=true
section
variable {X:Cx}{pins:Æ âb}{σ:St}{H:Hp}{s:Z2}{a C dx:Z1}{fs:Æ (Str × V)}{f:Str}{v:V}{A:Z4}{E:ģ}
theorem Fy{b:Bool}{Q:ģ}(I:Ĝ)(e:Ŵb fs)(c:Cls X.K C)(n:NoAttr X.K C f)(l:Ġb f=ôc)
  (h:∀u s',É H s'->Őa v->Q u s'):úa Ñ A (getAttr œ f b):=by
 obtain⟨mA,O,r,_,_,_⟩:=NE I.hok e;obtain⟨u,hu,ru⟩:=RelO.some_of (v:=v) (o:=mA f) (by rw[<- l];exact r f);exact Rl I.kIn O (c.get f) c.hd n hu (Io ru) (h u _ ħa ru)
theorem MK{m:Str}{g:Z1}{pl:Sem Bool}{Q:İc (Z0×š)}(I:Ĝ)(e:Ŵb fs)(c:Cls X.K C)(k:Meth X.K C m g)(l:Ġb m=none)
  (h:Q (Ê g,[œ]) s):úa Ñ A (getMethod œ m pl):=by
 obtain⟨mA,O,r,_,_,_⟩:=NE I.hok e;have hn:mA m=none:=RelO.none_of (by rw[<- l];exact r m);exact Oz I.kIn O (c.get m) k.at_ k.fn hn h
theorem Fp{y:V}{u:Z0}{Q:İc Unit}(I:Ĝ)(e:Ŵb fs)(c:Cls X.K C)(n:NoAttr X.K C f)(hl:fs.length<1000)(ry:Őa y)
  (h:∀s',É (upd H a (Ŧ (putF f y fs))) s'->Q () s'):úa Ñ A (setAttr œ f u):=by
 obtain⟨mA,O,r,wi,_,ho⟩:=NE I.hok e;have hz:ø (î (fs.map (·.1))):=by rw[ZD,sizeLine_eq];omega
 refine Qk I.kIn O c.sa c.po n.taker c.hd wi hz λh' O' sb=>h _ ?_;have hd:∃o,İa dx=ţ:=let ⟨o,_,_,e',_⟩:=O'.ns;ã o e';refine I.write (x:=a) (e:=dx) (by rw[e];exact True.intro) (Ŀ ho) (λb q hb z=>(sb.2 b hb).trans z) hd ?_;refine⟨Řa O.ne ho,?_,O.ne,O'.obj,_,O'.ns,λg=>?_,λg hg=>?_⟩
 ·have:=AV f y fs;omega
 ·show RelO ((putF f y fs).lookup g) (if g=f then Ã u else mA g);rw[AW]
  by_cases q:g=f
  ·rw[ZH q,ZH q];exact ry
  ·rw[ZE q,ZE q];exact r g
 ·by_cases q:g=f
  ·rw[q];exact(JQ f y fs).1
  ·refine(JQ f y fs).2 g (wi g λz=>hg ?_);show(if g=f then Ã u else mA g)=none;rw[ZE q];exact z
theorem Inv.made(I:Ĝ):É (upd (upd H s.heap.objs.size (.own Ýd)) Ýd (.ins C s.heap.objs.size [])) { s with heap:=(ĩb).push Ûb }:=by
 have e1:(ĩb).get? s.heap.objs.size=Ã PySem.W.emptyDict:=Y5 s.heap rfl;have e2:((ĩb).push Ûb).get? Ýd=Ã Ûb:=by
  have:=Y5 ĩb (o:=Ûb) rfl
  rwa[Heap.size_push]at this
 have e3:(ĩb).Ns s.heap.objs.size (λ_=>none):=⟨PySem.W.emptyDict,#[],_,e1,Z,(λe he=>ń he Í),λ_=>rfl⟩;have I1:=I.laid (a:=s.heap.objs.size) (o:=.own Ýd) (h':=ĩb) (t':=s.toks) (λb u q=>WD _ q) ħ (Ņ e1);refine I1.laid (a:=Ýd) (o:=.ins C s.heap.objs.size []) (t':=s.toks) (λb u q=>WD _ q) (Nat.le_of_eq (Heap.size_push _ _)) ?_;have ne:s.heap.objs.size≠Ýd:=WF Ģb;refine⟨by rw[ZP ne,ZI],WW _,ne,e2,λ_=>none,(Heap.Ns1.of_empty e3).at λo q=>WD _ q,λ_=>True.intro,λy hy=>ń rfl hy⟩
theorem Qb{prog:Z3}{w:Z5}{env:Env}{e:Z7}{f:Str}{pos:Pos}{s:Z2}{Q:ģ}(hb:attributeBase e f env (eval e env)=eval e env)
  (h:å (eval e env) (λo s₁=>å (getAttr o f true) Q E s₁) E s):Øc (eval (.Attribute e f pos) env) :=
 Attribute_any_ h (by rw[arm_eval_Attribute,hb])
end
noncomputable def tFld(K:ZC)(ta:TE)(f:Str):TE:=æa (∃a C dx fs v,x=œ/\H1 a=Ã (Ŧ fs)/\Cls K C/\NoAttr K C f/\Ġb f=ôc/\Q v H1)
noncomputable def sFld(K:ZC)(ta tv:TE)(f:Str):TS:=λD σ H=>tv σ H λy H1=>ta σ H1 λx H2=>∃a C dx fs,x=œ/\H2 a=Ã (Ŧ fs)/\Cls K C/\NoAttr K C f/\fs.length<1000 /\ Ġd (upd H2 a (Ŧ (putF f y fs)))
section
variable {X:Cx}{o e value:Z7}{f:Str}{pos pos' tpos:Pos}{ta tv:TE}
theorem UH(he:Œ e ta)(hb:ģa e f=í e):Œ (.Attribute e f pos) (tFld X.K ta f):=by
 intro pins s σ H Q I h;refine Qb hb (thn Òa λu s1 ⟨x,H1,I1,rx,a,C,dx,fs,v,ex,ea,c,n,l,q⟩=>?_);subst ex;obtain rfl:u=ĩ a:=rx;exact Fy I1 ea c n l λu' s2 I2 ru=>⟨v,H1,I2,ru,q⟩
theorem OO(ha:Œ o ta)(hv:Œ value tv)(hs:Ňa value (Ã (.Attribute o f pos'))=œc):PS X (.Assign [.Attribute o f pos'] value pos) (sFld X.K ta tv f):=by
 intro pins s σ H D I h;refine plainObj_wpAny_Assign_Attribute (thn (hv pins s σ H _ I h) λu s1 ⟨y,H1,I1,ry,q⟩=>thn (ha pins s1 σ H1 _ I1 q) λov s2 ⟨x,H2,I2,rx,a,C,dx,fs,ex,ea,c,n,l,q2⟩=>?_) hs;subst ex;obtain rfl:ov=ĩ a:=rx;exact Fp I2 ea c n l ry λs3 I3=>⟨σ,_,I3,q2⟩
end
section
variable {X:Cx}{pins:Æ âb}{σ:St}{H:Hp}{s:Z2}{A:Z4}{E:ģ}{Q:ģ}{c:Z0}{b:Bool}
inductive TyOf(K:ZC)(H:Hp):Û V Z0 where
 |non:éd .non "NoneType"
 |bl (x:Bool):éd (.bl x) "bool"
 |int (i:Int):éd ïe "int"
 |str (x:Str):éd íd "str"
 |sT (x:Str) (n:Nat):éd (.sT x n) "str"
 |lst {a:Z1}{xs:ĝ} (e:H a=Ù xs):TyOf K H œ Ĉb
 |frz {a:Z1}{o:Obj}{xs:ĝ} (e:H a=Ã (.frz o (.lst xs))):TyOf K H œ Ĉb
 |tup {a:Z1}{xs:ĝ} (e:H a=Ĥ xs):TyOf K H œ ĥb
 |dK {a:Z1}{kvs:Âb} (e:H a=Ã ŭb):éd œ "dict"
 |dT {a:Z1}{kvs:ĩc} (e:H a=Ã Ïc):éd œ "dict"
 |ins {a C dx:Z1}{fs:ġa V} (e:Ŵb fs) (cl:Cls K C) (ha:ı "__class__" = Ã (Ã ţb))
   (hn:PySem.W.specialIn K ţb "__get__" = Ã (Ã (Ţ "getset_descriptor.__get__"))) (htk:PySem.W.takesIn K ţb=Ĥe)
   (hm:ıc (Ŀa "object")=Ĥe):TyOf K H œ Âe
theorem Iq{x:V}{u t:Z0}(I:Ĝ)(rx:Őa x)(ty:TyOf X.K H x t)(e:Ű X.K t c=Ã b)(h:∀tk,Q (.bool b) { s with toks:=tk }) :
  úa Ñ A (call (Ţ "isinstance") [u,c]):=by
 cases ty with
 |non=>cases(show u=Value.none from rx);exact Äa PySem.W.kitx_none True.intro (nomatch z)
 |bl y=>cases(show u=Value.bool y from rx);exact Äa PySem.W.kitx_bool True.intro (nomatch z)
 |int i=>obtain⟨t,q⟩:=(show ∃t,u=Value.int i t from rx);cases q;exact Äa PySem.W.kitx_int True.intro (nomatch z)
 |str y=>obtain⟨t,q⟩:=(show ∃t,u=Čc y from rx);cases q;exact Äa PySem.W.kitx_str True.intro (nomatch z)
 |sT y n=>obtain⟨t,q,_⟩:=(show ∃t,u=Čc y/\1<=t/\t<n from rx);cases q;exact Äa PySem.W.kitx_str True.intro (nomatch z)
 | @lst a xs ea =>
  cases(show u=ĩ a from rx);obtain⟨_,_,n,_,h1⟩:=(show Ñe a (.lst xs) from I.hok a _ ea);exact Äa PySem.W.kitx_list (Àe h1) (nomatch z)
 | @frz a ob xs ea =>
  cases(show u=ĩ a from rx);obtain⟨_,_,_,n,_,h1⟩:=(show Ñe a (.frz ob (.lst xs)) from I.hok a _ ea);exact Äa PySem.W.kitx_list (Àe h1) (nomatch z)
 | @tup a xs ea =>
  cases(show u=ĩ a from rx);obtain⟨_,_,_,p⟩:=(show Ñe a (.tup xs) from I.hok a _ ea);obtain⟨o,h1,h2,_⟩:=p;exact Äa PySem.W.kitx_tuple (ő o h1 h2) (nomatch z)
 | @dK a kvs ea =>
  cases(show u=ĩ a from rx);obtain⟨_,_,vs,_,p⟩:=(show Ñe a ŭb from I.hok a _ ea);obtain⟨o,es,ep,h1,h2,_⟩:=p;exact Äa PySem.W.kitx_dict (ő o h1 h2.1) (nomatch z)
 | @dT a kvs ea =>
  cases(show u=ĩ a from rx);obtain⟨_,_,xs,_,o,es,ep,h1,h2,_⟩:=(show Ñe a Ïc from I.hok a _ ea);exact Äa PySem.W.kitx_dict (ő o h1 h2.1) (nomatch z)
 | @ins a C dx fs ea cl ha hn htk hm =>
  cases(show u=ĩ a from rx);obtain⟨mA,O,_⟩:=NE I.hok ea;obtain⟨od,J,_⟩:=O.look;exact Äa (PySem.W.kitx_own (cl.get _) cl.hd ha hn htk hm) J (nomatch z)
end
open PySem PySem.Spec PyProof.Rows
structure Room(k:Nat)(A:Z4):Prop where
 hd:A.handled=none
 dp:A.depth+3*k+5<recursionLimit
 un:A.units+16*k+200<cLine
 gd:A.guards=Ã []
theorem Room.mono{j k:Nat}{A:Z4}(r:õc A)(h:j<=k):Room j A:=⟨r.hd,by have:=r.dp;omega,by have:=r.un;omega,r.gd⟩
theorem Room.deeper{k:Nat}{A:Z4}(r:Room (k+1) A)(env:Env):õc (A.deeper env) :=
 ⟨r.hd,by have:=r.dp;show A.depth+1+3*k+5<_;omega,by have:=r.un;show A.units+3+16*k+200<_;omega,r.gd⟩
theorem Eb{A:Z4}{C:Z1}{us:š}{kw:ġa Z0}:(Ėa us).depth=A.depth+1:=by
 first | rfl | simp[Around.under,Code.weight,Code.isCreation,Code.isGuard,Code.isCaller,Code.frames,Code.isFrame,guardIds]
theorem Ec{A:Z4}{C:Z1}{us:š}{kw:ġa Z0}:(Ėa us).units=A.units+1:=by
 first | rfl | simp[Around.under,Code.cUnits,Code.frames,Code.isFrame]
theorem Room.make{k:Nat}{A:Z4}(r:Room (k+1) A)(C:Z1)(us:š)(kw:ġa Z0):õc (Ėa us) :=
 ⟨r.hd,by have:=r.dp;rw[Eb];omega,by have:=r.un;rw[Ec];omega,by first | exact r.gd | (rw[<- r.gd];rfl) | (simp only[Around.under];rw[r.gd];rfl)⟩
theorem Room.depth{k:Nat}{A:Z4}(r:õc A):A.depth<recursionLimit:=by have:=r.dp;omega
theorem Room.units{k:Nat}{A:Z4}(r:õc A):ĕb 64:=by have:=r.un;omega
noncomputable def tNil:TA:=λ_ H Q=>Q [] H
noncomputable def TH(ta:TE)(tr:TA):TA:=æa (tr σ H1 λxs H2=>Q (x::xs) H2)
section
variable {X:Cx}{e:Z7}{es:Šc}{te:TE}{t:TA}{pos:Pos}
theorem U1:PA X [] tNil:=λ_ _ _ _ H Q I h=>įb ⟨[],H,I,.nil,h⟩
theorem ZF(ha:Œ e te)(hr:PA X es t)(hs:Õ ŀ=(false,í e)::Õ es:=by rfl):PA X ŀ (TH te t):=by
 intro pos pins s σ H Q I h;rw[hs];show ā (spliced ((false,í e)::ąb)) s;refine Ĥa (ŉ _ (λu s1 ⟨x,H1,I1,r1,q1⟩=>?_));exact thn (hr pos pins s1 σ H1 _ I1 q1) λus s2 ⟨xs,H2,I2,r2,q2⟩=>⟨x::xs,H2,I2,Ŭb r1 r2,q2⟩
noncomputable def tTup(t:TA):TE:=Šb (λxs H1=>Ďb/\∀p,œa p->Ŕ p (Ě H1 p xs))
noncomputable def tLst(t:TA):TE:=Šb (λxs H1=>Ďb/\∀p,œa p->Ŕ p (Ï H1 p xs))
theorem US{x1}(h:PA X es t):Œ (.Tuple es x1 pos) (tTup t):=by
 intro pins s σ H Q I hq;refine wpAny_Tuple_spliced (thn (h pos pins s σ H _ I hq) λus s1 ⟨xs,H1,I1,r,z,q⟩=>ųb (by rw[<- r.length];exact z));have hf:úe:=ŏc;refine⟨Ê s1.heap.objs.size,Ě H1 s1.heap.objs.size xs,I1.laid (t':=s1.toks) (λb u e=>WD _ e) ħ ?_,Z,q _ hf⟩;exact⟨z,us,r,şc Ĩa Z _ Z⟩
theorem WN(h:PA X es t):Œ (.List es pos) (tLst t):=by
 intro pins s σ H Q I hq;refine wpAny_List_spliced (thn (h pos pins s σ H _ I hq) λus s1 ⟨xs,H1,I1,r,z,q⟩=>ųb (by rw[<- r.length];exact z));have hf:úe:=ŏc;refine⟨Ê s1.heap.objs.size,Ï H1 s1.heap.objs.size xs,I1.laid (t':=s1.toks) (λb u e=>WD _ e) ħ ?_,Z,q _ hf⟩;exact⟨z,us,0,r,Ĩa⟩
end
noncomputable abbrev Sp:=ĝ->Hp->Û VK XK
noncomputable abbrev CXT:=êb->Hp->Z2->XK->ģ
structure Env0(P:Z3)(w:Z5)(K:ZC)(mg:Ą)(base:Z8)(A:Z4)(outer:êb)(s:Z2)(H:Hp):Prop where
 frames:A.frames=Ã outer
 mod:Mod K mg base
 bs:∀b o,base.get? b=ţ->ěd/\ē b
 bsz:base.objs.size<=s.heap.objs.size
 funs:s.heap.FunFrames base outer
 frf:∀b∈frs outer,ē b
 hok:HOk P w H s.heap
 bare:AllBare s.gens
noncomputable def CE(outer:êb)(P:Z3)(w:Z5)(H:Hp)(s:Z2)(Q:VK)(u:Z0)(s':Z2):Prop :=
 ∃v H',s'.os=s.os/\AllBare s'.gens/\Un (frs outer) [] H H' s.heap s'.heap/\HOk P w H' s'.heap/\Őa v/\Q v H'
noncomputable def CR(CX:CXT)(outer:êb)(P:Z3)(w:Z5)(H:Hp)(s:Z2)(Q:VK)(E:XK)(r:Result)(s':Z2):Prop :=
 match r with
 | .ok (.ret u)=>CE outer P w H s Q u s'
 | .ok _=>False
 | .error e=>CX outer H s E e s'
structure FnOk(P:Z3)(w:Z5)(K:ZC)(mg:Ą)(base:Z8)(CX:CXT)(k:Nat)(f:Z1)(fd:FuncData)(ps:ù)(sp:Sp):Prop where
 len:∀vs H Q E,Če
 run:∀(A:Z4) (outer:êb) (s:Z2) (H:Hp) (args:Args) (us:š) (vs:ĝ) (Q:VK) (E:XK),õc A->Ųa A->BindsTo s fd args ĕc->Ŝa vs->ĥa -> codeAny (model P w) A (.call (Ê f) args) (CR CX outer P w H s Q E) s
theorem FnOk.mono{P:Z3}{w:Z5}{K:ZC}{mg:Ą}{base:Z8}{CX:CXT}{j k:Nat}{f:Z1}{fd:FuncData}{ps:ù}{sp:Sp}(F:ūa CX j)(h:j<=k) :
  ūa CX k:=ã F.len (λA outer s H args us vs Q E hr=>F.run A outer s H args us vs Q E (ż h))
theorem Env0.make{P:Z3}{w:Z5}{K:ZC}{mg:Ą}{base:Z8}{A:Z4}{outer:êb}{s:Z2}{H:Hp}(e:Ųa A)(C:Z1)(us:š)(kw:ġa Z0) :
  Ųa (Ėa us):=⟨by first | exact e.frames | (simpa [Around.under,Code.envs,Code.isFrame,pushEnvs]using e.frames),e.mod,e.bs,e.bsz,e.funs,e.frf,e.hok,e.bare⟩
section
variable {X:Cx}{pins:Æ âb}{σ:St}{H:Hp}{s s':Z2}
theorem Inv.env0(I:Ĝ):Env0 X.prog X.w X.K X.mg X.base X.A X.stack s H :=
 ⟨I.ok.frames,I.ok.mod,I.bs,WB I.ok.bsz I.sz,I.stack,I.stkFree,I.hok,I.bare⟩
theorem Inv.after{Q:VK}{u:Z0}(I:Ĝ)(h:CE X.stack X.prog X.w H s Q u s'):Œa u s':=by
 obtain⟨v,H',os,bare,un,hok,r,q⟩:=h;obtain⟨hh,g,d,t,os'⟩:=s';obtain rfl:os'=s.os:=os;exact⟨v,H',I.call (h':=hh) (g':=g) (d':=d) (t':=t) (ch:=[]) un hok bare (λb z=>ń z Í),r,q⟩
end
noncomputable def LA(sp:Sp)(dvs:ĝ)(E:XK)(t:TA):TE:=Šb (λvs H1=>sp (vs++dvs) H1 Q E)
noncomputable def OE(C:Z1)(m:Str)(sp:Sp)(dvs:ĝ)(E:XK)(ta:TE)(t:TA):TE:=æa (∃a dx fs,x=œ/\H1 a=Ã (Ŧ fs)/\Ġb m=none /\ t σ H1 λvs H2=>sp (x::(vs++dvs)) H2 Q E)
noncomputable def OH(C:Z1)(sp:Sp)(dvs:ĝ)(E:XK)(t:TA):TE:=Šb (λvs H1=>∀x dx,œa x->œa dx->dx≠x -> sp (Ê x::(vs++dvs)) (ăa H1) ėc E)
noncomputable def Binds(K:ZC)(fd:FuncData)(ps:ù)(ds:š):Prop :=
 ∀(s:Z2) (us:š),Éd->î (us++ds)=ps.length->Ůc fd us (ps.zip (us++ds))
theorem Binds.all{K:ZC}{fd:FuncData}{ps:ù}(h:∀us:š,us.length=ps.length->bindArgs fd (ã us [])=pure ĕc):Ņb K []:=λs us _ hl=>by
 rw[List.append_nil]at hl ⊢;exact .of_eq (h us hl)
noncomputable def TQ(CX:CXT)(X:Cx)(E:XK):Prop:=∀(pins:æ) (σ:St) (H:Hp) (s:Z2) (e:Z0) (s':Z2),Ĝ->CX X.stack H s E e s'->X.xe e s'
section
variable {X:Cx}{CX:CXT}{k:Nat}{f C:Z1}{fd:FuncData}{ps:ù}{sp:Sp}{dvs:ĝ}{ds:š}{E:XK}{x m:Str}{p pos apos:Pos}{e o:Z7}{es:Šc}{ta:TE}{t:TA}
theorem K2{pins:æ}{σ:St}{H:Hp}{s:Z2}{Q:VK}{us:š}{vs:ĝ}(F:Áa)(hr:õc X.A)(hb:Ņb X.K ds)(hd:Vals dvs ds)(hx:TQ CX X E)
  (I:Ĝ) (r:Ŝa vs) (h:sp (vs++dvs) H Q E):òa (call (Ê f) us) s:=by
 have r2:Vals (vs++dvs) (us++ds):=r.append hd;have hl:î (us++ds)=ps.length:=by rw[<- r2.length];exact F.len _ _ _ _ h
 refine wpAny_call (codeAny_mono (F.run X.A X.stack s H (ã us []) (us++ds) (vs++dvs) Q E hr I.env0 (hb s us I.kIn hl) r2 h) λr s' hq=>?_);cases r with
 |error e=>exact hx pins σ H s e s' I hq
 |ok fl =>
  cases fl with
  |ret u=>exact I.after hq
  |next=>exact Ő hq
  |brk=>exact Ő hq
  |cont=>exact Ő hq
theorem Pa(F:Áa)(hr:õc X.A)(hg:ÿe)(hm:X.mg x=Ú f)(hk:Ũ X.K f=true)(hb:Ņb X.K ds)(hd:Vals dvs ds)(hx:TQ CX X E)
  (ha:Ōc) (hdb:Ķd:=by decide) (he:Õ ŀ=(false,í e)::Õ es:=by rfl) (hpl:(ąb).any (·.1)=false:=by rfl) :
  Œ ŋd (LA sp dvs E t):=by
 intro pins s σ H Q I h;refine Ĭa;refine PySem.W.callWith_K (h₀:=X.base) I.ok.mod.kin hk (thn Èc λus s1 ⟨vs,H1,I1,r,q⟩=>ųb I1.kIn) he hpl;exact K2 F hr hb hd hx I1 r q
theorem Pf{pl:Sem Bool}(he:Œ o ta)(c:Cls X.K C)(hm:Meth X.K C m f)(F:Áa)(hr:õc X.A)(hb:Ņb X.K ds)(hd:Vals dvs ds)(hx:TQ CX X E)(ha:Ōc)
  (hst:Õ ŀ=(false,í e)::Õ es:=by rfl) (hpl:(ąb).any (·.1)=false:=by rfl)
  (ht:í Ôd=(do
   let ov <- í o
   Ľc
   let (f,first) <- holding [ov] (getMethod ov m pl)
   ĳa ŀ):=by rfl) :
  Œ Ôd (OE C m sp dvs E ta t):=by
 intro pins s σ H Q I h;refine PySem.W.methodCall_KW (pl:=pl) (thn Òa λu s1 ⟨x,H1,I1,rx,a,dx,fs,ex,ea,l,q⟩=>?_) ht;subst ex;obtain rfl:u=ĩ a:=rx;refine MK I1 ea c hm l ?_;refine PySem.W.callWith_K (first:=[œ]) (h₀:=X.base) I.ok.mod.kin hm.kp (thn (ha pos pins s1 σ H1 _ I1 q) λus s2 ⟨vs,H2,I2,r,q2⟩=>ųb I2.kIn) hst hpl;exact K2 (us:=œ::us) (vs:=œ::vs) F hr hb hd hx I2 (Ŭb rfl r) q2
theorem Nl{pl:Sem Bool}(he:Œ o ta)(c:Cls X.K C)(hm:Meth X.K C m f)(F:Áa)(hr:õc X.A)(hb:Ņb X.K ds)(hd:Vals dvs ds)(hx:TQ CX X E)
  (ht:í (ė m [] pos)=(do
   let ov <- í o
   Ľc
   let (f,first) <- holding [ov] (getMethod ov m pl)
   ĳa []):=by rfl) :
  Œ (ė m [] pos) (OE C m sp dvs E ta tNil):=by
 intro pins s σ H Q I h;refine PySem.W.methodCall_KW (pl:=pl) (thn Òa λu s1 ⟨x,H1,I1,rx,a,dx,fs,ex,ea,l,q⟩=>?_) ht;subst ex;obtain rfl:u=ĩ a:=rx;refine MK I1 ea c hm l ?_;exact PySem.W.callWith_K0 (first:=[œ]) I1.kIn hm.kp (K2 (us:=[œ]) (vs:=[œ]) F hr hb hd hx I1 (Ŭb rfl .nil) q)
structure Mk(K:ZC)(C f:Z1):Prop where
 makes:īb K=true
 init:ı "__init__" = Ã (Ú f)
 fn:þe=true
 kp:Ũ K C=true
theorem DZ{pins:æ}{σ:St}{H:Hp}{s:Z2}{Q:VK}{us:š}{vs:ĝ}(M:Mk X.K C f)(F:Áa)(hr:Room (k+1) X.A)(hb:Ņb X.K ds)(hd:Vals dvs ds)
  (hx:TQ CX X E) (I:Ĝ) (r:Ŝa vs)
  (h:∀x dx,ē x->ē dx->dx≠x->sp (Ê x::(vs++dvs)) (ăa H) ėc E) :
  òa (call Âe us) s:=by
 have hq:=h Ýd s.heap.objs.size (òb Æc) (òb ħ) (WF Ģb);have I2:=Inv.made (C:=C) I;have r2:Vals (Ŷ Ýd::(vs++dvs)) (ĩ Ýd::(us++ds)):=Ŭb rfl (r.append hd);have hl:î (ĩ Ýd::us++ds)=ps.length:=by
  have e:=r2.length;rw[F.len _ _ _ _ hq]at e;exact e.symm
 refine wpAny_call (Ll (f:=f) I.kIn M.makes M.init (beq_iff_eq.mp M.fn) (codeAny_mono (F.run _ X.stack _ _ (ã (ĩ Ýd::us) []) (ĩ Ýd::(us++ds)) _ _ E (hr.make C us []) (I2.env0.make C us []) (hb _ (ĩ Ýd::us) I2.kIn hl) r2 hq) λr s' hq'=>?_))
 cases r with
 |error e=>exact hx pins σ _ _ e s' I2 hq'
 |ok fl =>
  cases fl with
  |ret u =>
   obtain⟨v,H',I3,rv,ev,q3⟩:=I2.after hq';subst ev;exact ã rv ⟨Ŷ Ýd,H',I3,Z,q3⟩
  |next=>exact Ő hq'
  |brk=>exact Ő hq'
  |cont=>exact Ő hq'
theorem Pe(M:Mk X.K C f)(F:Áa)(hr:Room (k+1) X.A)(hg:ÿe)(hm:X.mg x=Ú C)(hb:Ņb X.K ds)(hd:Vals dvs ds)(hx:TQ CX X E)
  (ha:Ōc) (hdb:Ķd:=by decide) (he:Õ ŀ=(false,í e)::Õ es:=by rfl) (hpl:(ąb).any (·.1)=false:=by rfl) :
  Œ ŋd (OH C sp dvs E t):=by
 intro pins s σ H Q I h;refine Ĭa;refine PySem.W.callWith_K (h₀:=X.base) I.ok.mod.kin M.kp (thn Èc λus s1 ⟨vs,H1,I1,r,q⟩=>ųb I1.kIn) he hpl;exact DZ M F hr hb hd hx I1 r q
theorem Lj(M:Mk X.K C f)(F:Áa)(hr:Room (k+1) X.A)(hg:ÿe)(hm:X.mg x=Ú C)(hb:Ņb X.K ds)(hd:Vals dvs ds)(hx:TQ CX X E)
  (hdb:Ķd:=by decide):Œ (Ň x []) (OH C sp dvs E tNil):=by
 intro pins s σ H Q I h;refine Ĭa;exact PySem.W.callWith_K0 I.kIn M.kp (DZ (us:=[]) M F hr hb hd hx I .nil h)
end
section
variable {X:Cx}{CX:CXT}{k:Nat}{f C:Z1}{fd:FuncData}{ps ks:ù}{sp:Sp}{E:XK}{x m:Str}{p pos apos kpos:Pos}{e o:Z7}{es:Šc}{kws:Æ Keyword}{te ta:TE}{t tk:TA}{nm:Z9 Str}
variable {g:š->š->š}{gV:ĝ->ĝ->ĝ}
end
structure FnScope(N P:ù)(sc:Scope):Prop where
 kind:sc.kind=.function
 co:sc.isCoroutine=false
 gen:sc.isGenerator=false
 nd:N.Nodup
 pre:N.take P.length=P
 par:∀x∈P,ðb=ēe\/ðb=Ã .cell
 nofree:∀y∈sc.names,y.2≠.free
theorem BL{kindOf:Str->Z9 NameKind}{x:Str}:∀{binds:ġa Z0}{m:Ą},(∀v,(x,v)∉binds)->bindL kindOf binds m x=m x
 | [],_=>λ_=>rfl
 | (n,v)::r,m=>λh=>by
  unfold bindL;rw[BL λw hw=>h w (UV _ hw)];split
  ·have:x≠n:=by rintro rfl;exact h v XB
   simp[this]
  ·rfl
theorem BJ{kindOf:Str->Z9 NameKind}{x:Str}:∀{binds:ġa Z0}{m:Ą},(∀v,(x,v)∉binds)->bindC kindOf binds m x=m x
 | [],_=>λ_=>rfl
 | (n,v)::r,m=>λh=>by
  unfold bindC;rw[BJ λw hw=>h w (UV _ hw)];split
  ·rfl
  ·have:x≠n:=by rintro rfl;exact h v XB
   simp[this]
theorem BK{kindOf:Str->Z9 NameKind}{x:Str}{v:Z0}:∀{P:ù}{vs:š}{i:Nat}{m:Ą},P.Nodup->P[i]?=äd->vs[i]?=ôc->kindOf x=ēe -> bindL kindOf (P.zip vs) m x=ôc
 | [],_,_,_=>λ_ h _ _=>by simp at h
 |_::_,[],_,_=>λ_ _ h _=>by simp at h
 |p::P,w::vs,0,m=>λnd h1 h2 hk=>by
  simp at h1 h2;subst h1;subst h2;show bindL kindOf ((p,w)::P.zip vs) m p=_;unfold bindL;rw[BL λv hv=>(VC.mp nd).1 (List.of_mem_zip hv).1,ZH hk];simp
 |p::P,w::vs,i+1,m=>λnd h1 h2 hk=>by
  show bindL kindOf ((p,w)::P.zip vs) m x=_;unfold bindL;exact BK (i:=i) (VC.mp nd).2 (by simpa using h1) (by simpa using h2) hk
theorem BI{kindOf:Str->Z9 NameKind}{x:Str}{v:Z0}:∀{P:ù}{vs:š}{i:Nat}{m:Ą},P.Nodup->P[i]?=äd->vs[i]?=ôc->kindOf x≠ēe -> bindC kindOf (P.zip vs) m x=ôc
 | [],_,_,_=>λ_ h _ _=>by simp at h
 |_::_,[],_,_=>λ_ _ h _=>by simp at h
 |p::P,w::vs,0,m=>λnd h1 h2 hk=>by
  simp at h1 h2;subst h1;subst h2;show bindC kindOf ((p,w)::P.zip vs) m p=_;unfold bindC;rw[BJ λv hv=>(VC.mp nd).1 (List.of_mem_zip hv).1,ZE hk];simp
 |p::P,w::vs,i+1,m=>λnd h1 h2 hk=>by
  show bindC kindOf ((p,w)::P.zip vs) m x=_;unfold bindC;exact BI (i:=i) (VC.mp nd).2 (by simpa using h1) (by simpa using h2) hk
noncomputable def UL(N:ù)(vs:ĝ):St:=vs.map some++ŕ (N.length-vs.length) none
noncomputable def cxOf(CX:CXT)(P:Z3)(w:Z5)(K:ZC)(mg:Ą)(base:Z8)(N:ù)(qual:Str)(scope:Scope)(f:Z1)(cd:Z0)(A:Z4)(outer:êb)(s:Z2)(H:Hp)(E:XK):Cx where
 prog:=P
 w:=w
 K:=K
 mg:=mg
 base:=base
 A:=A.deeper Ī
 N:=N
 s₀:=s
 H₀:=H
 env:=Ī
 outer:=outer
 stack:=Ī::outer
 ex:=[]
 calm:=true
 fn:=řd
 pn:=[]
 xe:=λe s'=>wpAny (model P w) (A.deeper Ī) (leaving Ī e) (λ_ s''=>CX outer H s E e s'') (λe' s''=>CX outer H s E e' s'') s'
theorem DJ{sc:Scope}{n:Nat}{x:Str}(h:ðb=Ã .cell):∃c,(cellsFrom n sc.names []).lookup x=Ã c:=by
 have q:=PySem.W.cellsFrom_some sc.names n [] (Ė h);exact Option.isSome_iff_exists.mp q
theorem JO{CX:CXT}{P:Z3}{w:Z5}{K:ZC}{mg:Ą}{base:Z8}{N ps:ù}{qual:Str}{scope:Scope}{f:Z1}{cd:Z0}{A:Z4}{outer:êb}{s s1:Z2}{H:Hp}{E:XK}{us:š}{vs:ĝ}
  (S:FnScope N ps scope) (hd:A.handled=none) (e0:Ųa A) (hl:vs.length=ps.length) (r:Ŝa vs)
  (x:InCallC s s.heap.objs.size (bindL (Ī).kindOf ĕc λ_=>none) (cellsFrom Ýd scope.names []) (bindC (Ī).kindOf ĕc λ_=>none) s1) :
  Inv (Éb CX cd) [] Ŋd H s1:=by
 have hpl:ps.length<=N.length:=by have:=õ S.pre;rw[VO]at this;omega
 obtain⟨h1,tk,rfl,hk⟩:=x.done;have noA:∀b:Z1,b∉(Éb CX cd).ex:=λb z=>ń (show b∈([]:ãb) from z) Í;refine⟨⟨e0.mod,S.kind,Z,Z,ħ,λy z c h1 h2=>?_,λy hy=>?_,λy c _ h=>?_,λ_=>hd,Around.frames_deeper e0.frames,ūb Z Z,λb z=>ń z (noA b),e0.bs,e0.bsz,λb _ _=>noA b,λb z=>ń z (noA b),e0.funs,e0.frf⟩, rfl,e0.bare,Un.kept hk,ő _ x.toInCall.ns (λi y v h1 h2 h3=>?_),λy c h=>Ņ (x.cell y c h),e0.hok.fresh ħ,λy c h=>?_,Ļ (ń (show p∈([]:æ) from hp) Í),e0.hok.kept hk,?_⟩
 ·exact name_of_addr x.apart (ób h1) (ób h2)
 ·have hy:ĺb (Úb y):=hy;rcases hy with hy | hy
  ·exact DJ hy
  ·exact ń rfl (S.nofree _ (ób hy))
 ·exact Nat.le_of_lt (x.above y c (ób h))
 ·have hi:i<vs.length:=by
   unfold UL at h2
   by_cases hi:i<vs.length
   ·exact hi
   ·rw[List.getElem?_append_right (by simpa using hi)]at h2;rw[List.getElem?_replicate]at h2;split at h2<;>cases h2
  have ha:vs[i]?=ôc:=by
   unfold UL at h2;rw[ĸd (by simpa using hi),ZX]at h2;cases e:vs[i]? with
   |none=>rw[e]at h2;cases h2
   |some a=>rw[e]at h2;cases h2;rfl
  obtain⟨u,hu,rv⟩:=r.get ha;have hp:ps[i]?=Ã y:=by
   rw[<- S.pre,List.getElem?_take_of_lt À];exact h1
  have ndP:ps.Nodup:=by rw[<- S.pre];exact S.nd.sublist (List.take_sublist _ _)
  refine ő u rv ?_;rcases S.par y (UF hp)with k | k
  ·exact ìb k (BK ndP hp hu k)
  ·obtain⟨c,e⟩:=DJ (n:=Ýd) k;refine Ŀ ⟨Ė k,c,e,?_⟩;have q:=x.cell y c e;rw[BI ndP hp hu (by show Úb y≠_;rw[k];decide)]at q;exact q
 ·exact e0.hok.fresh (Nat.le_of_lt (x.above y c (ób h)))
 ·unfold UL;show _=N.length;rw[WK,ZD,List.length_replicate];omega
theorem MY{CX:CXT}{P:Z3}{w:Z5}{K:ZC}{mg:Ą}{base:Z8}{k:Nat}{f:Z1}{name qual:Str}{params:Arguments}{body:Æ Z6}{scope:Scope}{dV kV doc pm cdv ct oc:Z0}{an od:Z9 Z1}
  {osl:Array (Z9 Z0)}{N ps:ù}{sp:Sp} (lk:Ľd f=Ã ⟨oc,od,.func įd,osl⟩) (hcd:PySem.W.codeIn K cdv qual=true) (S:FnScope N ps scope)
  (len:∀vs H Q E,Če)
  (hbody:∀(A:Z4) (outer:êb) (s:Z2) (H:Hp) (vs:ĝ) (Q:VK) (E:XK),õc (äc qual scope cdv)->ĥa -> ∃t,PSs (Éb CX cdv) body t/\t { nx:=λ_ H'=>Q .non H',rt:=Q } Ŋd H) :
  FnOk P w K mg base CX (k+1) f įd ps sp:=by
 refine ã len (λA outer s H args us vs Q E hr e0 hb r hsp=>?_);have hl:=len _ _ _ _ hsp;have KX:Éd:=e0.mod.kin.keeps Ŗb;have lim:s.heap.NoLimit:=e0.mod.nolimit.keeps Ŗb;have hkind:∀y∈ĕc,Úb y.1=ēe\/(Úb y.1=Ã .cell/\íe ((cellsFrom Ýd scope.names []).lookup y.1)=true):=λ⟨n,v⟩ hy=>by
  rcases S.par n (List.of_mem_zip hy).1 with q | q
  ·exact Ė q
  ·exact Ļc
 refine ĺa (hb _ _ _ _ ?_);refine wpAny_newFunctionEnv_cells S.kind hkind λenv he s1 x=>?_;subst he;refine ã (lim.keeps x.toInCall.keep) (codeAny_func ?_);obtain⟨t,ht,hq⟩:=hbody A outer s H vs Q E (hr.deeper _) hsp;have I:Inv (Éb CX cdv) [] Ŋd H s1:=JO S hr.hd e0 hl r x;refine WL (ht [] s1 Ŋd H _ I hq) (λfl s' hs=>?_) λe s' hs=>hs;have fin:∀{σ':St}{H':Hp}{v:V}{u:Z0},őb (Éb CX cdv) []->Őa v->Q v H'->CE outer P w H s Q u s' :=
  λ{σ' H' v u} J rv q=>⟨v,H',J.os,J.bare,J.base,J.hok,rv,q⟩
 cases fl with
 |ret u =>
  obtain⟨v,σ',H',J,rv,q⟩:=hs;exact fin J rv q
 |next =>
  obtain⟨σ',H',J,q⟩:=hs;exact fin (v:=V.non) (u:=Value.none) J rfl q
 |brk =>
  obtain⟨_,_,_,q⟩:=hs;exact Ő q
 |cont =>
  obtain⟨_,_,_,q⟩:=hs;exact Ő q
open PySem PySem.Spec PyProof.Rows
section
variable {X:Cx}{x:Str}{p pos:Pos}{e:Z7}{es:Šc}{t:TA}{id T:String}{r:ĝ->Ŭa}
noncomputable def tCB(r:ĝ->Ŭa)(t:TA):TE:=Šb (λvs H1=>r vs H1 Q)
theorem Lf(hc:YI X (Ţ id) r)(hg:ÿe)(hm:X.mg x=none)(hv:ñc=Ã (Ţ id))(ha:Ōc)(hn:Őb := by decide) (hdb:Ķd:=by decide)
  (he:Õ ŀ=(false,í e)::Õ es:=by rfl) (hpl:(ąb).any (·.1)=false:=by rfl):Œ ŋd (tCB r t):=by
 intro pins s σ H Q I h;refine ţd hg hm hv hn hdb;exact PyProof.Rows.callWith_builtin1 (thn Èc λus s1 ⟨vs,H1,I1,r1,q1⟩=>hc pins s1 σ H1 vs us Q I1 r1 q1) he hpl
theorem Fe(hc:YI X (Ŀa T) r)(hg:ÿe)(hm:X.mg x=none)(hv:ñc=Ã (Ŀa T))(ha:Ōc)(hn:Őb := by decide) (hdb:Ķd:=by decide)
  (he:Õ ŀ=(false,í e)::Õ es:=by rfl) (hpl:(ąb).any (·.1)=false:=by rfl):Œ ŋd (tCB r t):=by
 intro pins s σ H Q I h;refine ţd hg hm hv hn hdb;exact PyProof.Rows.callWith_type1 (thn Èc λus s1 ⟨vs,H1,I1,r1,q1⟩=>hc pins s1 σ H1 vs us Q I1 r1 q1) he hpl
end
end L2
namespace HT
open PySem PyProof.Rows
noncomputable def lexLt:Ċ->Ċ->Bool
 | [],[]=>false
 | [],_::_=>true
 |_::_,[]=>false
 |x::xs,y::ys=>if x=y then lexLt xs ys else è (x<y)
theorem lexLt_cons(x y:Int)(xs ys:Ċ):lexLt (x::xs) (y::ys)=if x=y then lexLt xs ys else è (x<y):=rfl
theorem lexLt_nil_nil:lexLt [] []=false:=rfl
theorem lexLt_nil_cons(y:Int)(ys:Ċ):lexLt [] (y::ys)=true:=rfl
theorem lexLt_cons_nil(x:Int)(xs:Ċ):lexLt (x::xs) []=false:=rfl
section
open PySem.SeqAt
open PySem.AutoSeq1 (wpAny_loadPart')
open PySem.MeetsSeq PySem.MeetsSeq2 PySem.MeetsSeq3
end
section
variable {prog:Z3}{w:Z5}{A:Z4}{E:ģ}{s:Z2}
noncomputable def sIx(n d:Nat):ée->Nat
 |none=>d
 |some v=>if v<0 then(v+Þ n).toNat else min v.toNat n
theorem sIx_none(n d:Nat):sIx n d none=d:=rfl
theorem sIx_nat(n d k:Nat):sIx n d (Ã Ùe)=min k n:=by
 show(if Ùe<0 then(Ùe+Þ n).toNat else min (k:Int).toNat n)=min k n;rw[ZE À,YR]
end
end HT
namespace L2
open PySem PySem.Spec PyProof.Rows
noncomputable abbrev TO:=St->Û Hp (Ť ée)
noncomputable def PO(X:Cx)(e:Z9 Z7)(t:TO):Prop :=
 ∀(pins:æ) (s:Z2) (σ:St) (H:Hp) (Q:Ť ée),Ĝ->Ŝd -> Ë (evalPart e X.env) (λu s'=>∃o H',É H' s'/\IsPart u o/\Q o H') s
noncomputable def Qp:TO:=λ_ H Q=>Q none H
noncomputable def Wr(t:TE):TO:=Šb (λx H1=>∃i,x=ïe/\Q (Ã i) H1)
section
variable {X:Cx}{e:Z7}{te:TE}{lo hi:Z9 Z7}{tl th:TO}{pos p2:Pos}
theorem Q0:PO X none Qp:=by
 intro pins s σ H Q I h;rw[evalPart_none];exact ZQ ⟨none,H,I,ħb,h⟩
theorem RA(h:Œ e te):PO X (Ã e) (Wr te):=by
 intro pins s σ H Q I hw;rw[evalPart_some];refine thn (ßc _ hw) λu s1 ⟨x,H1,I1,r1,q1⟩=>?_;obtain⟨i,rfl,q⟩:=q1;obtain⟨t,rfl⟩:=r1;exact⟨Ã i,H1,I1,Řd i,q⟩
noncomputable def SlR(X:Cx)(r:V->ée->ée->Ŭa):Prop :=
 ∀(pins:æ) (s:Z2) (σ:St) (H:Hp) (x:V) (v vl vu:Z0) (lo hi:ée) (sl:Z1) (Q:VK),Ĝ->RelV x v->s.heap.IsSliceOf sl vl vu ħb->IsPart vl lo->IsPart vu hi->r x lo hi H Q -> ∃T id,typeLookup (Ŀa T) "__getitem__" = pure (Ã (Ţ id))/\s.TypeIs v T/\òa (getItem v (Ê sl)) s
noncomputable def tSl(r:V->ée->ée->Ŭa)(te:TE)(tl th:TO):TE:=ďa (te σ H λx H1=>tl σ H1 λl H2=>th σ H2 λu H3=>r x l u H3 Q)
theorem BA{r:V->ée->ée->Ŭa}(hr:SlR X r)(he:Œ e te)(hl:PO X lo tl)(hu:PO X hi th):Œ (Ýb e ūd pos) (tSl r te tl th):=by
 intro pins s σ H Q I h;refine Subscript_ (thn Òa λv s1 ⟨x,H1,I1,r1,q1⟩=>?_);refine wpAny_Slice (thn (hl pins s1 σ H1 _ I1 q1) λvl s2 ⟨l,H2,I2,pl,q2⟩=>thn (hu pins s2 σ H2 _ I2 q2) λvu s3 ⟨u,H3,I3,pu,q3⟩=>?_);rw[evalPart_none];refine Ôc;have I4:É H3 { s3 with heap:=Üa #[vl,vu,ħb] }:=I3.kept (t':=s3.toks) λb ob q=>WD _ q;obtain⟨T,id,hT,ht,hg⟩:=hr pins { s3 with heap:=Üa #[vl,vu,ħb] } σ H3 x v vl vu l u s3.heap.objs.size Q I4 r1 (Heap.IsSliceOf.new ..) pl pu q3;show òa (subscriptTail e ūd v (Ê s3.heap.objs.size)) { s3 with heap:=Üa #[vl,vu,ħb] };exact tail_any (ops:=[Ê s3.heap.objs.size,v]) ht hT hg (by with_unfolding_all rfl)
noncomputable def cutV(xs:ĝ)(lo hi:ée):ĝ:=(xs.drop (ŭd 0 lo)).take (ŭd xs.length hi-ŭd 0 lo)
theorem Ch(xs:ĝ)(lo hi:ée):î (cutV xs lo hi)<=xs.length:=by
 unfold cutV;rw[VO,List.length_drop];omega
end
open PySem PySem.Spec PyProof.Rows
noncomputable def ixN(n:Nat)(i:Int):ğc:=if 0<=i then(if i<n then Ã i.toNat else none)else if -(n:Int)<=i then Ã (i+n).toNat else none
noncomputable def atI{α:Type}(xs:Æ α)(i:Int):Z9 α:=(ixN xs.length i).bind λj=>xs[j]?
theorem ER{n:Nat}{i:Int}{j:Nat}(h:ixN n i=Ã j):seqIndex? i n=Ã j/\j<n/\-(n:Int)<=i/\i<n:=by
 unfold ixN at h
 by_cases h0:0<=i
 ·rw[ZH h0]at h
  by_cases h1:i<n
  ·rw[ZH h1]at h;have e:i.toNat=j:=WC h;exact⟨by rw[seqIndex_of h0 h1,e],À,À,h1⟩
  ·rw[ZE h1]at h;cases h
 ·rw[ZE h0]at h
  by_cases h1:-(n:Int)<=i
  ·rw[ZH h1]at h;have e:(i+n).toNat=j:=WC h;exact⟨by rw[seqIndex_neg À h1,e],À,h1,À⟩
  ·rw[ZE h1]at h;cases h
theorem OZ{α:Type}{xs:Æ α}{i:Int}{v:α}(h:atI xs i=ôc):∃j,seqIndex? i xs.length=Ã j/\xs[j]?=ôc/\j<xs.length/\-(xs.length:Int)<=i/\i<xs.length:=by
 unfold atI at h;cases e:ixN xs.length i with
 |none=>rw[e]at h;cases h
 |some j =>
  rw[e]at h;obtain⟨h1,h2,h3,h4⟩:=ER e;exact⟨j,h1,h,h2,h3,h4⟩
theorem UM{α:Type}{xs:Æ α}{j:Nat}{v:α}(h:xs[j]?=ôc):atI xs (Þ j)=ôc:=by
 have hj:j<xs.length:=Ăb h;have e:ixN xs.length (Þ j)=Ã j:=by
  unfold ixN;rw[ZH À,ZH À];simp
 unfold atI;rw[e];exact h
noncomputable def OY(b:Z7):Prop:=∀o i,subscripted b false o i=operate [o,i] (getItem o i)
noncomputable def IxR(X:Cx)(r:R2):Prop :=
 ∀(value slice:Z7) (pins:æ) (s:Z2) (σ:St) (H:Hp) (x y:V) (v u:Z0) (Q:VK),Ĝ->RelV x v->Őa y->r x y H Q -> subscripted slice false v u=operate [v,u] (getItem v u)->òa (subscriptTail value slice v u) s
noncomputable def MtR(X:Cx)(id:String)(r:V->ĝ->Ŭa):Prop :=
 ∀(pins:æ) (s:Z2) (σ:St) (H:Hp) (x:V) (xs:ĝ) (v:Z0) (us:š) (Q:VK),Ĝ->RelV x v->Ŝa xs->r x xs H Q -> òa (call (Ţ id) (v::us)) s
section
variable {X:Cx}{a b:Z7}{ta tb:TE}{pos:Pos}
theorem Yi{r:R2}(hr:IxR X r)(ha:Ód)(hb:Œ b tb)(hs:OY b):Œ (Ýb a b pos) Ød:=by
 intro pins s σ H Q I h;exact Subscript_ (binT ha hb I h λv u s2 x y H2 I2 rx ry q=>hr a b pins s2 σ H2 x y v u Q I2 rx ry q (hs _ _))
inductive RIxL(K:ZC)(x y:V)(H:Hp)(Q:VK):Prop
 |mk (p:Z1) (xs:ĝ) (i:Int) (v:V) (h1:x=Ê p) (h2:y=ïe) (h3:Èb p xs) (h4:atI xs i=ôc) (q:Q v H):RIxL K x y H Q
noncomputable def rIxL(K:ZC):R2:=Äb (RIxL K x y H Q)
inductive RIxT(K:ZC)(x y:V)(H:Hp)(Q:VK):Prop
 |mk (p:Z1) (xs:ĝ) (i:Int) (v:V) (h1:x=Ê p) (h2:y=ïe) (h3:łb p xs) (h4:atI xs i=ôc) (q:Q v H):RIxT K x y H Q
noncomputable def rIxT(K:ZC):R2:=Äb (RIxT K x y H Q)
noncomputable def rIxS:R2:=Äb (∃z i c,x=ĉ z/\y=ïe/\Úe/\atI z.cps.toList i=Ã c/\Q (ĉ (ű #[c])) H)
theorem ZY:IxR X (rIxL X.K):=by
 intro value slice pins s σ H x y v u Q I rx ry h hs;obtain⟨p,xs,i,z,rfl,rfl,hq,he,q⟩:=h;cases rx;obtain⟨t,rfl⟩:=ry;obtain⟨its,r,pl,hz⟩:=ĳb;obtain⟨j,h1,h2,h3,h4,h5⟩:=OZ he;obtain⟨w,ew,rw'⟩:=r.get h2;have hl:=r.length;have hn:=TV;have fin:Œa w s:=⟨z,H,I,rw',q⟩
 by_cases h0:0<=i
 ·have hj:i.toNat=j:=by
   rw[seqIndex_of h0 h5]at h1;exact WC h1
  exact item_listR pl.isList h0 À (by rw[hj];simpa using ew) fin hs
 ·have hj:(i+Þ its.toArray.size).toNat=j:=by
   rw[seqIndex_neg À h4]at h1;rw[WZ,<- hl];exact WC h1
  exact subscriptTail_builtinR (x:=w) pl.isList.typeIs slot_list_getitem.lookup (wpAny_getItem_list_neg (Q:=λr s'=>r=w/\Œa r s') pl.isList À (by rw[WZ]<;>omega) À (by rw[hj];simpa using ew) (ã Z fin)) hs
theorem VF:IxR X (rIxT X.K):=by
 intro value slice pins s σ H x y v u Q I rx ry h hs;obtain⟨p,xs,i,z,rfl,rfl,hq,he,q⟩:=h;cases rx;obtain⟨t,rfl⟩:=ry;obtain⟨its,r,pl,hz⟩:=ĺd;obtain⟨j,h1,h2,h3,h4,h5⟩:=OZ he;obtain⟨w,ew,rw'⟩:=r.get h2;have hl:=r.length;have hn:=TV;have fin:Œa w s:=⟨z,H,I,rw',q⟩;exact subscriptTail_builtinR (x:=w) pl.typeIs slot_tuple_getitem.lookup (getItem_tuple (j:=j) (Q:=λr s'=>r=w/\Œa r s') pl À À (by rw[WZ,<- hl];exact h1) (by simpa using ew) (ã Z fin)) hs
theorem FU:IxR X rIxS:=by
 intro value slice pins s σ H x y v u Q I rx ry h hs;obtain⟨z,i,c,rfl,rfl,hz,he,q⟩:=h;obtain⟨t,rfl⟩:=rx;obtain⟨t',rfl⟩:=ry;obtain⟨j,h1,h2,h3,h4,h5⟩:=OZ he;have hl:z.cps.toList.length=z.length:=by simp[Str.length]
 rw[hl]at h1 h4 h5;have hn:=TV;exact tail_any (typeIs_str s z t) slot_str_getitem.lookup (getItem_str (c:=c) (by
  have e1:è (i < -(2 ^ 63:Int))=false:=ZW À;have e2:è (i≥2 ^ 63)=false:=ZW À
  rw[e1,e2,Bool.or_false]) (by rw[h1];simpa using h2) (Ãa (ĉ (ű #[c])))) hs
theorem Ed(its:š)(n j:Nat)(u:Z0):Obj.mapSeq (·.setIfInBounds j u) Ħa=ê "list" (.seq (its.set j u).toArray n):=by
 simp[Obj.mapSeq]
theorem Inv.lst{pins:æ}{σ:St}{H:Hp}{s:Z2}{p:Z1}{xs:ĝ}(I:Ĝ)(h:H p=Ù xs) :
  ∃(its:š) (n:Nat),Õe/\ą p Ħa/\Ďb:=by
 obtain⟨z,its,n,r,e⟩:=I.hok p _ h;exact⟨its,n,r,e,z⟩
theorem Inv.lstUpd{pins:æ}{σ:St}{H:Hp}{s:Z2}{p:Z1}{xs ys:ĝ}{its its':š}{n n':Nat}{f:Obj->Obj}(I:Ĝ)(h:H p=Ù xs)
  (ho:ą p Ħa) (hf:f Ħa=ê "list" (.seq its'.toArray n')) (r:Vals ys its') (hz:ø ys.length) (t:Nat) :
  É (Ï H p ys) { s with heap:=Ŕb p f,toks:=t }:=by
 have e:(Ŕb p f).get? p=Ã (ê "list" (.seq its'.toArray n')):=by
  rw[đb f ho (by rw[hf]<;>rfl),hf]
 refine I.write (x:=p) (e:=p) (by rw[h];trivial) ĭa (λb u hb q=>(źc _ _).trans q) (Ņ e) ?_;exact⟨hz,its',n',r,e⟩
noncomputable def Yu:V->V->V->Û Hp (Hp->Prop):=λo i v H Q=>∃p xs k j,o=Ê p/\i=ô k/\H p=Ù xs/\ixN xs.length k=Ã j/\Q (Ï H p (xs.set j v))
theorem NX:PSet X Yu:=by
 intro pins s σ H o i v ov iv u Q I ro ri rv h;obtain⟨p,xs,k,j,rfl,rfl,hp,hj,q⟩:=h;cases ro;obtain⟨t,rfl⟩:=ri;obtain⟨its,n,r,ho,hz⟩:=I.lst hp;obtain⟨h1,h2,h3,h4⟩:=ER hj;have hl:=r.length;have hn:=TV;have I':É (Ï H p (xs.set j v)) { s with heap:=Ŕb p (Obj.mapSeq (·.setIfInBounds j u)) } :=
  I.lstUpd hp ho (Ed its n j u) (r.set rv j) (by rw[QJ];exact hz) s.toks
 by_cases h0:0<=k
 ·have hk:k.toNat=j:=by
   rw[seqIndex_of h0 h4]at h1;exact WC h1
  exact PySem.W.ki_setAt ho h0 À (by rw[WZ,<- hl];exact h4) (by rw[hk];exact ő _ I' q)
 ·have hk:(k+Þ its.toArray.size).toNat=j:=by
   rw[seqIndex_neg À h3]at h1;rw[WZ,<- hl];exact WC h1
  exact PySem.W.ki_setBack ho À (by rw[WZ,<- hl];exact h3) À (by rw[hk];exact ő _ I' q)
theorem Cm(lo hi:ée)(n:Nat):(sliceBounds lo hi none n).1=Ý (HT.sIx n 0 lo)/\(sliceBounds lo hi none n).2.1=Ý (HT.sIx n n hi)/\(sliceBounds lo hi none n).2.2=1:=by
 refine ő ?_ ?_ Z
 ·cases lo with
  |none=>simp[sliceBounds,HT.sIx]
  |some i =>
   simp only[sliceBounds,HT.sIx,Option.getD_none,show Þ 1>0 by decide,if_true]
   by_cases h:i<0
   ·simp only[h,if_true]<;>omega
   ·simp only[h,if_false]<;>omega
 ·cases hi with
  |none=>simp[sliceBounds,HT.sIx]
  |some i =>
   simp only[sliceBounds,HT.sIx,Option.getD_none,show Þ 1>0 by decide,if_true]
   by_cases h:i<0
   ·simp only[h,if_true]<;>omega
   ·simp only[h,if_false]<;>omega
theorem Bb(its:š)(lo hi:ée):slicePick its.toArray lo hi none=((its.drop (HT.sIx its.length 0 lo)).take (HT.sIx its.length its.length hi-HT.sIx its.length 0 lo)).toArray:=by
 obtain⟨h1,h2,h3⟩:=Cm lo hi its.toArray.size;unfold slicePick;rw[h1,h2,h3];simp only[sliceRange_one,pick_run,WZ]<;>rfl
noncomputable def rSlL(K:ZC):V->ée->ée->Ŭa:=λx lo hi H Q=>∃a xs,x=œ/\Ūa H/\∀p,ē p->èc p (cutV xs lo hi)
theorem Ql:SlR X (rSlL X.K):=by
 intro pins s σ H x v vl vu lo hi sl Q I rx hs pl pu h;obtain⟨a,xs,rfl,hx,q⟩:=h;cases rx;obtain⟨its,r,ht,hz⟩:=I.list hx;have hlen:=r.length;refine⟨"list", _,slot_list_getitem.lookup,ht.isList.typeIs,?_⟩;refine wpAny_getItem_list_slice ht.isList hs pl pu ħb Í ?_ (by rw[WZ]<;>omega);rw[Bb,<- hlen];refine ēb (I.laid (t':=s.toks) (o:=.lst (cutV xs lo hi)) (λb ob q=>WD _ q) ħ ?_) (q _ (òb ħ));exact⟨WB (Ch xs lo hi) hz,_,0,(r.drop (ŭd 0 lo)).take (ŭd xs.length hi-ŭd 0 lo),Ĩa⟩
inductive RLen(K:ZC)(xs:ĝ)(H:Hp)(Q:VK):Prop
 |mk (p:Z1) (ys:ĝ) (h1:xs=[Ê p]) (h2:Èb p ys\/łb p ys) (q:Ðc ys.length):RLen K xs H Q
theorem Zn:ĸ "len" (RLen X.K xs H Q):=by
 intro pins s σ H xs us Q I r h;obtain⟨p,ys,rfl,hq,q⟩:=h;obtain⟨u,rfl,rx⟩:=RI r;cases rx;have hn:=TV;rcases hq with hq | hq
 ·obtain⟨its,r',pl,hz⟩:=ĳb;have hlen:=r'.length;exact Calls.call_len_list pl.isList (by simp only[WZ]<;>omega) ⟨ô ys.length,H,ħa,ã (s.toks+1) (by rw[WZ,hlen]),q⟩
 ·obtain⟨its,r',pl,hz⟩:=ĺd;have hlen:=r'.length;exact len_tuple pl (by simp only[WZ]<;>omega) ⟨ô ys.length,H,ħa,ã (s.toks+1) (by rw[WZ,hlen]),q⟩
theorem IS:ĸ "len" (∃z,xs=[ĉ z]/\Úe/\Ðc z.length):=by
 intro pins s σ H xs us Q I r h;obtain⟨z,rfl,hz,q⟩:=h;obtain⟨u,rfl,t,rfl⟩:=RI r;have hn:=TV;exact len_str À (Ãa (ô z.length))
theorem Di:YI X Ĉb (λxs H Q=>∃p ys,xs=[Ê p]/\(Ðd p ys\/SqT X.K H p ys)/\∀l,ē l->èc l ys):=by
 intro pins s σ H xs us Q I r h;obtain⟨p,ys,rfl,hq,q⟩:=h;obtain⟨u,rfl,rx⟩:=RI r;cases rx;have fin:∀(its:š),Vals ys its->ø ys.length->∀(h':Z8) (c':Nat),(∀b o',ą b o'->İa b=Ã o') -> İa s.heap.objs.size=Ã { cls:=Ĉb,dict:=none,data:=.seq its.toArray c',slots:=#[] }->Ēc { s with heap:=h' }:=λits r' hz h' c' kp e => ēb (I.laid (t':=s.toks) kp ħ (show ķa _ h' _ (.lst ys) from⟨hz,its,c',r',e⟩)) (q _ (òb ħ))
 rcases hq with hq | hq
 ·obtain⟨its,r',pl,hz⟩:=ĳb;have hlen:=r'.length;obtain⟨o,ho,hc,n,hd⟩:=pl.isList;exact ċe ĭa (by simp only[WZ]<;>omega)
 ·obtain⟨its,r',pl,hz⟩:=ĺd;have hlen:=r'.length;obtain⟨o,ho,hc,n,hd⟩:=pl;exact ċe ôe (by simp only[WZ]<;>omega)
theorem IQ:YI X ĥb (λxs H Q=>∃p ys,xs=[Ê p]/\((Ðd p ys/\∀l,ē l->Ŕ l (Ě H l ys))\/(SqT X.K H p ys/\Ŕ p H))):=by
 intro pins s σ H xs us Q I r h;obtain⟨p,ys,rfl,h⟩:=h;obtain⟨u,rfl,rx⟩:=RI r;cases rx;rcases h with⟨hq,q⟩ | ⟨hq,q⟩
 ·obtain⟨its,r',pl,hz⟩:=ĳb;have hlen:=r'.length;refine call_tuple_list pl.isList (λh' kp=>?_) (by simp only[WZ]<;>omega);have I1:É H { s with heap:=h' }:=I.kept (t':=s.toks) kp;have I2:É (Ě H h'.objs.size ys) { s with heap:=h'.push (čd its.toArray) } :=
   I1.laid (t':=s.toks) Ėc ħ (show ķa _ _ _ (.tup ys) from⟨hz,its,r',IsTup.new _ _⟩)
  exact⟨Ê h'.objs.size,_,I2,Z,q _ ŏc⟩
 ·obtain⟨its,r',pl,hz⟩:=ĺd;exact call_tuple_same pl ⟨Ê p,H,I,Z,q⟩
noncomputable def tyV(K:ZC)(T:String)(x:V)(H:Hp):Prop:=match x with
 | .str _=>T = "str"
 | .int _=>T = "int"
 | .ref p=>(T = "list" /\ ∃xs,Èb p xs)\/(T = "tuple" /\ ∃o,Ľd p=ţ/\o.cls=ĥb /\ o.dict=none) \/ (T = "dict" /\ ((∃kvs,H p=Ã ŭb)\/∃kvs,H p=Ã Ïc))\/(T = "set" /\ ∃S n,H p=Ã (.set S n))
 |_=>False
theorem FM{pins:æ}{σ:St}{H:Hp}{s:Z2}{T:String}{x:V}{v:Z0}(I:Ĝ)(r:RelV x v)(ty:tyV X.K T x H) :
  s.TypeIs v T/\∀a,v=œ->∃ob,ą a ob/\ob.dict=none:=by
 cases x with
 |str z =>
  obtain⟨t,rfl⟩:=r;cases(show T = "str" from ty);exact ã (typeIs_str s z t) (λ_ e=>nomatch e)
 |int i =>
  obtain⟨t,rfl⟩:=r;cases(show T = "int" from ty);exact ã (typeIs_int s i t) (λ_ e=>nomatch e)
 |ref p =>
  cases r;rcases ty with⟨rfl,xs,hq⟩ | ⟨rfl,o,hk,hc,hd⟩ | ⟨rfl,hk⟩ | ⟨rfl,S,n,hk⟩
  ·obtain⟨its,_,pl,_⟩:=ĳb;refine ã pl.isList.typeIs (λa e=>?_);cases e;obtain⟨o,n,e,c,hd,_⟩:=pl;exact ő o e hd
  ·refine ã (ő o (I.kIn p o hk) hc) (λa e=>?_);cases e;exact ő o (I.kIn _ o hk) hd
  ·have z:∃o,ą p o/\o.ExactDict:=by
    rcases hk with⟨kvs,hk⟩ | ⟨kvs,hk⟩
    ·obtain⟨_,_,_,_,o,_,_,e,ex,_⟩:=I.hok p _ hk;exact ő o e ex
    ·obtain⟨_,_,_,_,o,_,_,e,ex,_⟩:=I.hok p _ hk;exact ő o e ex
   obtain⟨o,e,ex⟩:=z;refine ã (ő o e ex.1) (λa e2=>?_);cases e2;exact ő o e ex.2.1
  ·obtain⟨o,_,_,_,e,ex,_⟩:=I.hok p _ hk;refine ã (ő o e ex.1) (λa e2=>?_);cases e2;exact ő o e ex.2.1
 |_=>exact Ő ty
noncomputable def tBM(K:ZC)(T:String)(r:V->ĝ->Ŭa)(to:TE)(t:TA):TE:=ďa (to σ H λx H1=>tyV K T x H1/\t σ H1 λxs H2=>r x xs H2 Q)
variable {o e:Z7}{es:Šc}{to:TE}{t:TA}{name:Str}{apos cpos:Pos}{T id:String}{r:V->ĝ->Ŭa}
theorem YF(pa:PlainAttrs T)(slot:Slot T name id)(hty:typeOf (Ţ id)=pure (Ŀa "method_descriptor")) (hm:MtR X id r) (ho:Œ o to) (ha:Ōc)
  (hbase:ģa o name=í o:=by rfl)
  (hfew:((Ĭ cpos ŀ).all (λx=>! x.1)&&(Ŵ cpos).all (λx=>x.1.isSome) && è (î ŀ+([]:Æ Keyword).length+(if([]:Æ Keyword).isEmpty then 0 else 1)<30))=true:=by rfl)
  (hline:ĵb:=by rfl) (hs:Õ ŀ=(false,í e)::Õ es:=by rfl) (hplain:(Ĭ cpos es).any (·.1)=false:=by rfl) :
  Œ (ė name ŀ cpos) (tBM X.K T r to t):=by
 intro pins s σ H Q I h;refine ńb hfew ıa (λv s1 ⟨x,H1,I1,r1,ty,q1⟩=>?_);obtain⟨h1,h2⟩:=FM I1 r1 ty;refine⟨T,id,pa,slot,hty,h1,h2,?_⟩;have hA:=ha cpos pins s1 σ H1 _ I1 q1;rw[hs]at hA ⊢;refine Éa (by show Ķb (false||(Ĭ cpos es).any (·.1));rw[hplain]<;>rfl) ?_;exact thn hA λus s2 ⟨vs,H2,I2,r2,q2⟩=>hm pins s2 σ H2 x vs v us Q I2 r1 r2 q2
end
open PySem PySem.Spec PyProof.Rows
noncomputable def MtM(X:Cx)(id:String)(r:V->ĝ->Ŭa):Prop :=
 ∀(pins:æ) (s:Z2) (σ:St) (H:Hp) (x:V) (xs:ĝ) (v:Z0) (us:š) (Q:VK),Ĝ->RelV x v->Ŝa xs->r x xs H Q -> òa (call (Ţ id) (v::us)) s
theorem Vals.one{x:V}{us:š}(h:Ŝa [x]):∃u,us=[u]/\Őa x:=by
 cases h with
 |cons r t=>cases t;exact ža r
theorem Vals.two{x y:V}{us:š}(h:Ŝa [x,y]):∃u v,us=[u,v]/\Őa x/\RelV y v:=by
 cases h with
 |cons r t=>obtain⟨u,rfl,q⟩:=Vals.one t;exact şc _ Z r q
theorem Vals.reverse{xs:ĝ}{us:š}(h:Ŝa xs):Vals xs.reverse us.reverse:=by
 induction h with
 |nil=>exact .nil
 |cons r t ih=>rw[List.reverse_cons,List.reverse_cons];exact Vals.append ih (Ŭb r .nil)
theorem Vals.rep{xs:ĝ}{us:š}(h:Ŝa xs):∀k:Nat,Vals (ŕ k xs).flatten (ŕ k us).flatten
 | 0=>.nil
 |k+1=>by
  rw[List.replicate_succ,List.replicate_succ,List.flatten_cons,List.flatten_cons];exact Vals.append h (Vals.rep h k)
theorem BU(its:š):∀(k:Nat) (acc:š), Ŭc acc.toArray k=(acc++(ŕ k its).flatten).toArray
 | 0=>λacc=>Í
 |k+1=>λacc=>by
  have e:acc.toArray++its.toArray=(acc++its).toArray:=Í
  have e2:(acc++its)++(ŕ k its).flatten=acc++(ŕ (k+1) its).flatten:=by
   rw[List.replicate_succ,List.flatten_cons,List.append_assoc]
  rw[<- e2,<- BU its k (acc++its),<- e,List.replicate_succ,List.foldl_cons]
section
variable {X:Cx}{pins:Æ âb}{σ:St}{H:Hp}{s:Z2}{l b:Z1}{xs ys zs:ĝ}
theorem Inv.lset{its its':š}{n:Nat}{f:Array Z0->Array Z0}{t':Nat}(I:Ĝ)(hH:H l=Ù xs)
  (e:ą l Ħa) (hf:f its.toArray=its'.toArray) (hv:Vals ys its') (hz:ø ys.length) :
  É (Ï H l ys) { s with heap:=Ŕb l (Obj.mapSeq f),toks:=t' }:=by
 have q:=PySem.IsL.update e f;rw[hf]at q;refine I.write (x:=l) (e:=l) (by rw[hH];exact trivial) ĭa (λb' u hb hu=>(źc s.heap (Obj.mapSeq f)).trans hu) (Ņ q) ?_;exact⟨hz,its',_,hv,q⟩
theorem Inv.lnew{its:š}{t':Nat}(I:Ĝ)(hv:Vals ys its)(hz:ø ys.length) :
  É (Ï H s.heap.objs.size ys) { s with heap:=Ûa (Ğa its.toArray),toks:=t' } :=
 I.laid òd ħ ⟨hz,its,0,hv,Ĩa⟩
theorem Inv.fresh(I:Ĝ):ē s.heap.objs.size:=òb ħ
theorem Inv.lstM(I:Ĝ)(hH:H l=Ù xs):Ďb/\∃(its:š) (n:Nat),Õe/\xs.length=its.length/\ą l Ħa:=by
 obtain⟨z,its,n,r,e⟩:=I.hok l _ hH;exact⟨z,its,n,r,r.length,e⟩
theorem CT{n:Nat}(h:ø n):Builtin.List.listTooLong n=false:=by
 unfold Builtin.List.listTooLong;exact ZW À
end
section
variable {X:Cx}
inductive RApp(x:V)(vs:ĝ)(H:Hp)(Q:VK):Prop
 |mk (l:Z1) (xs:ĝ) (y:V) (h1:x=Ê l) (h2:vs=[y]) (h3:H l=Ù xs) (h4:xs.length<sizeLine) (q:Q .non (Ï H l (xs++[y]))):RApp x vs H Q
noncomputable def DB:V->ĝ->Ŭa:=Ŕd (RApp x vs H Q)
theorem TC:MtM X "list.append" DB:=by
 intro pins s σ H x vs v us Q I rx rv h;obtain⟨l,xs,y,rfl,rfl,hH,hz,q⟩:=h;cases rx;obtain⟨u,rfl,ru⟩:=rv.one;obtain⟨z,its,n,r,hl,e⟩:=I.lstM hH;refine call_meets F.slot_list_append (Àe e) F.entry_list_append (F.args_list_append_2 _ _) (PySem.list_append l its.toArray n u (by rw[WZ];omega)) (ųb e);refine⟨.non,_,I.lset (its':=its++[u]) hH e Í (r.append (Ŭb ru .nil)) ?_,Z,q⟩;rw[WK,VP];omega
noncomputable def Px:V->ĝ->Ŭa:=Ŕd (∃l b xs zs,x=Ê l/\vs=[ťd]/\H l=Ù xs/\H b=Ù zs/\ø (xs.length+zs.length)/\Q .non (Ï H l (xs++zs)))
theorem NU:MtM X "list.extend" Px:=by
 intro pins s σ H x vs v us Q I rx rv h;obtain⟨l,b,xs,zs,rfl,rfl,hH,hB,hz,q⟩:=h;cases rx;obtain⟨u,rfl,ru⟩:=rv.one;cases ru;obtain⟨z,its,n,r,hl,e⟩:=I.lstM hH;obtain⟨z2,its2,n2,r2,hl2,e2⟩:=I.lstM hB;have hsz:ø (its.toArray.size+its2.toArray.size):=by rw[WZ,WZ];omega
 have hlong:¬(! its.toArray.isEmpty&&Builtin.List.listTooLong (its.toArray.size+its2.toArray.size))=true:=by
  rw[CT hsz,Bool.and_false];exact YS
 refine call_meets F.slot_list_extend (Àe e) F.entry_list_extend (F.args_list_extend_2 _ _) (AutoSeq1.list_extend_list_list_0 l its.toArray n b its2.toArray n2 hlong (by rw[WZ];omega) À) (ő e e2 ?_)
 refine⟨.non,_,I.lset (its':=its++its2) hH e Í (r.append r2) ?_,Z,q⟩;rw[WK];omega
noncomputable def rCat:R2:=Äb (∃l b xs zs,x=Ê l/\y=ťd/\H l=Ù xs/\H b=Ù zs/\ø (xs.length+zs.length)/\∀p,ē p->èc p (xs++zs))
theorem SN:ãa .Add rCat:=by
 intro pins s σ H x y v u Q I rx ry h;obtain⟨l,b,xs,zs,rfl,rfl,hH,hB,hz,q⟩:=h;cases rx;cases ry;obtain⟨z,its,n,r,hl,e⟩:=I.lstM hH;obtain⟨z2,its2,n2,r2,hl2,e2⟩:=I.lstM hB;refine PySem.P.add_list e e2 ?_ (by rw[WZ,WZ];omega);have ea:its.toArray++its2.toArray=(its++its2).toArray:=Í
 rw[ea];exact óe (I.lnew (t':=s.toks) (r.append r2) (by rw[WK];omega))
noncomputable def rRep:R2:=Äb (∃l k xs,x=Ê l/\y=ô k/\H l=Ù xs/\-(2 ^ 63)<=k/\k<2 ^ 63/\ø (xs.length*k.toNat) /\ ∀p,ē p->èc p (ŕ k.toNat xs).flatten)
theorem Rr{α:Type}(xs:Æ α)(k:Nat):(ŕ k xs).flatten.length=k*xs.length:=by
 induction k with
 |zero=>simp
 |succ k ih=>rw[List.replicate_succ,List.flatten_cons,WK,ih,Nat.succ_mul,Nat.add_comm]
theorem F3:ãa .Mult rRep:=by
 intro pins s σ H x y v u Q I rx ry h;obtain⟨l,k,xs,rfl,rfl,hH,h1,h2,hz,q⟩:=h;cases rx;obtain⟨t,rfl⟩:=ry;obtain⟨z,its,n,r,hl,e⟩:=I.lstM hH;have hlen:ø (its.toArray.size*k.toNat):=by rw[WZ,<- hl];exact hz
 have hcap:¬its.toArray.size*k.toNat>(2 ^ 63-1)/8:=by
  have:ũ sizeLine<=(2 ^ 63-1)/8:=Ç
  omega
 have hfit:¬(! Builtin.List.listFitsIndex k)=true:=ú (fitsIndex_both h1 h2) YS
 have hlong:¬Builtin.List.listTooLong (its.toArray.size*k.toNat)=true:=ú (CT hlen) YS
 have hnew:Ŭc #[] (if its.toArray.isEmpty=true then 0 else k.toNat)=(ŕ k.toNat its).flatten.toArray:=by
  have f0:∀m:Nat,Ŭc #[] m=(ŕ m its).flatten.toArray:=λm=>by
   have:=BU its m [];rw[List.nil_append]at this;exact this
  rw[f0];cases its with
  |nil=>simp
  |cons a r'=>rw[ZE Í]
 refine wpAny_binaryOp_repeat_ref (T := "list") (U := "int") Ç (Àe e) (λs'=>typeIs_int s' k t) noFill_list_mul F.fills_int_mul F.slot_int_rmul repeat_list F.slot_int_index.lookup (call_meets F.slot_int_rmul (typeIs_int s k t) F.entry_int_rmul (F.args_int_rmul_2 _ _) (int___rmul___int_list k t l its.toArray n) ⟨e,Z,Àe e,call_meets F.slot_list_mul (Àe e) F.entry_list_mul (F.args_list_mul_2 _ _) (AutoListH.list___mul___list_int_3 l its.toArray n k t hfit hcap hlong) (ųb e)⟩)
 rw[hnew];exact óe (I.lnew (t':=s.toks) (r.rep k.toNat) (by rw[Rr,Nat.mul_comm];exact hz))
end
section
variable {prog:Z3}{w:Z5}{A:Z4}{E:ģ}{s:Z2}
end
section
variable {X:Cx}
end
end L2
namespace Att
open PySem PySem.W PySem.Calls PyProof.Rows
theorem Bf{P:Params}{h:Z8}:∀(ns:Ċ) (vs:š),WellAll P h vs (ns.map WData.int)->IntsAre vs ns:=by
 intro ns
 induction ns with
 |nil =>
  intro vs w;rw[List.map_nil]at w;cases w;exact .nil
 |cons n ns ih =>
  intro vs w;rw[Y8]at w;cases w with
  |cons a b =>
   cases a;exact .cons _ _ (ih _ b)
theorem Fc{l:OpenLaw}{n:Nat}(hn:l.most=Ã n){P:Params}{h:Z8}{args:Æ WData}{vals:š}
  (hpre:l.row.toRowW.claim.pre args=true) (hwl:WellAll P h vals args) :
  ∃a vs ns,vals=[ĩ a]/\args=[WData.list (ns.map WData.int)]/\ŧa a=Ã će/\IntsAre vs ns/\ns.length<=n:=by
 have hsh:WShape.hasAll [] args [.list .int]=true:=(pre_splitW hpre).1;have hc:l.pre.holds [] { args:=args }=true:=(pre_splitW hpre).2;obtain⟨d,r,rfl,h1,h2⟩:=hasAllW_cons hsh;obtain rfl:=hasAllW_nil h2;obtain⟨xs,rfl,h3⟩:=hasW_list h1;obtain⟨ns,rfl⟩:=items_int h3;have hlen:ns.length<=n:=by
  unfold OpenLaw.pre at hc;have h4:(WTm.not (.lt (.lit (ô (Þ n))) (.len (.arg 0)))).holds [] { args:=[.list (ns.map .int)] }=true:=by
   have h4:=(holds_andW hc).1;rw[hn]at h4;exact h4
  have h5:=condW_of h4 (w_not (w_lt w_lit (w_len_list (w_arg rfl))));rw[ZD]at h5;refine Nat.le_of_not_lt λq=>?_;have q':Þ n<Ý ns.length:=À
  first
   | (rw[ZS q']at h5;exact ń h5 Ç)
   | (simp at h5;omega)
 cases hwl with
 |cons w1 w2 =>
  cases w2;cases w1 with
  |list ho hall=>exact⟨_,_,ns,Z,Z,ho,Bf ns _ hall,hlen⟩
theorem Gq(l:OpenLaw)(args:Æ WData):l.row.toRowW.claim.post args Śc args=true :=
 postW_of (r:=l.row.toRowW) (X:=(true==true)) (show WShape.has [] Śc .bool=true by first | rfl | decide | simp[WShape.has,WShape.arms,WShape.armsAll]) (show(WTm.eq .res (.lit Śc)).value [] { args:=args,res:=Ã Śc,after:=args }=Ã (.bool (true==true)) from w_eq_bool (w_res rfl) w_lit) rfl
theorem attach_call{l:OpenLaw}{n:Nat}{q:Z3}{loose:ù}{XP:Û (Ą) Z8}{YP:Û Z5 Z8}{d:DefRec}
  (hn:l.most=Ã n) (hdf:d.params.defaults=[])
  (call:∀(w:Z5) (s₀ s₁:Z2) (mg mb:Ą) (fa:Z1) (o:Obj) (pm cd doc:Z0) (a:Z1) (vs:š) (ns:Ċ), Ground q loose [] XP w s₀ mg mb s₁.heap->YP w s₁.heap -> s₁.heap.get? fa=ţ->o.data=.func (docDef d.name d.params d.body d.scope pm cd doc)->s₁.heap.CodeRec cd d.name->mg d.name=Ú fa -> s₁.heap.get? a=Ã će->IntsAre vs ns->ns.length<=n->s₁.gens = #[] -> Ĉa l.prog callerA fa [œ] ŉa s₁) :
  WalkO q loose XP YP l.row.toRowW d [] (λf vs=>PySem.call f vs):=by
 intro w s₀ s₁ mg mb G Y fa o pm cd doc dV kV ho hd hcd hD hmg hg args vals as hpre hlay hrd hwl hlo;obtain rfl:dV=ħb:=Dflts.none hD hdf;obtain rfl:kV=ħb:=Dflts.noKw hD;obtain⟨a,vs,ns,rfl,rfl,hobj,hints,hlen⟩:=Fc hn hpre hwl;refine enter_call (codeAny_mono (call w s₀ s₁ mg mb fa o pm cd doc a vs ns G Y ho (fd_plain hd) hcd hmg hobj hints hlen hg) λr s' hq=>?_);obtain⟨rfl,h2,h3,h4⟩:=hq;exact⟨Ė ⟨Śc,Śc,[],Z,λ_=>rfl,Śc,Gq l _,λ_=>ã List.Pairwise.nil (λ_ hm=>(nomatch hm))⟩,h2,h3,h4⟩
section
variable {prog:Z3}{w:Z5}{A:Z4}{E:ģ}{s:Z2}{K:Frag}
end
end Att
namespace L2
open PySem PySem.Spec PyProof.Rows
theorem JW:∀{vs:š}{ns:Ċ},IntsAre vs ns->Vals Æa vs
 |_,_,.nil=>.nil
 |_,_,.cons n t h=>Ŭb (ã t Z) (JW h)
noncomputable def Only(H:Hp):Prop:=∀b,ē b\/∃o xs,H b=Ã (.frz o (.lst xs))
theorem Nj{P:Z3}{w:Z5}{K:ZC}{mg mb:Ą}{CX:CXT}{k:Nat}{fa a:Z1}{fd:FuncData}{x:Str}{sp:Sp}{s₁:Z2}{vs:š}{ns:Ċ}
  (KX:K.In s₁.heap) (hns:s₁.heap.Ns mainGlobals mg) (hb:s₁.heap.Ns builtinsNs mb) (hbb:∀x:Str,Őb -> mb x=ñc) (hlim:s₁.heap.NoLimit) (hg:s₁.gens = #[])
  (ha:s₁.heap.get? a=Ã će) (hi:IntsAre vs ns) (hl:ø ns.length) (hr:õc callerA)
  (F:∀base:Z8,K.In base->Ţc->FnOk P w K mg base CX k fa fd [x] sp) (hbind:∀(s:Z2) (u:Z0),Ůc fd [u] [(x,u)])
  (hsp:∀H:Hp,Only H->Èb a Æa->sp [œ] H (λv _=>v=Ĩ) ďc)
  (hCX:∀H e s',CX [] H s₁ ďc e s'->False) :
  Ĉa P callerA fa [œ] ŉa s₁:=by
 have rv:=JW hi;have lenV:=hi.length;have core:∀H:Hp,Only H->Èb a Æa->HOk P w H s₁.heap->(∀b,H b≠none->b=a)->(H a≠none->Ľd a=none) -> Ĉa P callerA fa [œ] ŉa s₁:=by
  intro H hO hS hok hA hK;have base_of:∀{b:Z1}{o:Obj},s₁.heap.get? b=ţ->ē b->(ſd).get? b=ţ:=λe n=>Nd e n;have noA:∀{b:Z1}{o:Obj}{es:Array DictEntry}{ep:Nat},s₁.heap.get? b=ţ->o.data=ìc->ē b:=λ{b o es ep} e d=>by
   cases q:H b with
   |none=>rfl
   |some u =>
    have e':b=a:=hA b (by rw[q];simp);subst e';rw[ha]at e;cases e;have d':Data.seq vs.toArray _=Data.dict es ep:=d;cases d'
  have nsK:∀{b:Z1}{m:Ą},s₁.heap.Ns b m->(ſd).Ns b m:=λ{b m} ⟨o,es,ep,e,d,r⟩=>⟨o,es,ep,base_of e (noA e d),d,r⟩;have hKb:K.In ſd:=λb o e=>base_of (KX b o e) (by
   cases q:H b with
   |none=>rfl
   |some u =>
    have e':b=a:=hA b (by rw[q];simp);subst e'
    rw[hK (by rw[q];simp)]at e;cases e)
  have hM:Mod K mg ſd:=⟨hKb,nsK hns,ő mb (nsK hb) hbb,let ⟨mc,h1,h2⟩:=hlim;ő mc (nsK h1) h2⟩;have e0:Env0 P w K mg ſd callerA [] s₁ H:=⟨Z,hM,λb o e=>Sk e,Nat.le_of_eq (Ip _ _),trivial,ěa (ń (show b∈([]:ãb) from hb) Í),hok,.of_eq hg⟩;refine codeAny_mono ((F _ hKb (nsK hns)).run callerA [] s₁ H (ã [œ] []) [œ] [œ] _ _ hr e0 (hbind s₁ œ) (Ŭb rfl .nil) (hsp H hO hS)) λr s' h=>?_;cases r with
  |error e=>exact(hCX H e s' h).elim
  |ok fl =>
   cases fl with
   |next=>exact Ő h
   |brk=>exact Ő h
   |cont=>exact Ő h
   |ret u =>
    obtain⟨v,H',os,bare,un,hok',r',q⟩:=h;have q':v=Ĩ:=q;subst q';obtain rfl:u=Value.bool true:=r';refine⟨Z,OldK.of_keep λb o e=>?_,os,bare⟩;cases q:H b with
    |none=>exact un.keep b o e q (by intro z;exact ń (show b∈([]:ãb) from z) Í) Í
    |some u =>
     rcases hO b with z | ⟨ob,xs,z⟩
     ·rw[q]at z;cases z
     ·have z2:=un.frzs b ob _ z;obtain⟨e1,_⟩:=hok b _ z;obtain⟨e2,_⟩:=hok' b _ z2;rw[e]at e1;cases e1;exact e2
 cases hk:Ľd a with
 |some o =>
  have e:=KX a o hk;rw[ha]at e;cases e;refine core (λ_=>none) (λ_=>ĭa) (Ŀ ⟨_,vs.toArray,_,hk,Z,Z,Z,by rw[WZ,lenV];exact hl,by simpa using rv,by rw[List.all_map];exact UK.mpr Ÿ⟩) (λb u z=>by have z':(none:Z9 HO)=Ã u:=z;cases z') (λb z=>ń rfl z) λz=>ń rfl z
 |none =>
  refine core (λb=>if b=a then Ã (.frz će (.lst Æa))else none) (λb=>?_) (Ė (ūb će ŧb)) (λb u z=>?_) (λb z=>?_) λ_=>hk
  ·by_cases hb:b=a
   ·exact Ŀ (ő _ _ (ZH hb))
   ·exact Ė (ZE hb)
  ·by_cases hb:b=a
   ·have z':=(ZH hb).symm.trans z;cases z';subst hb;exact⟨ha,by rw[ZD];exact hl,vs,_,rv,ha⟩
   ·have z':=(ZE hb).symm.trans z;cases z'
  ·by_cases hb:b=a
   ·exact hb
   ·exact ń (ZE hb) z
open PySem PySem.Spec PyProof.Rows
theorem Qx{l:PySem.W.OpenLaw}{n k:Nat}{q:Z3}{loose:ù}{XP:Û (Ą) Z8}{YP:Û Z5 Z8}{d:DefRec}{K:Params->ZC}{CX:Z5->CXT}{sp:Z5->Sp}{x:Str}
  (hn:l.most=Ã n) (hn2:ø n) (hdf:d.params.defaults=[]) (hr:õc callerA)
  (hY:∀(w:Z5) (h:Z8),YP w h->(ļc).In h)
  (F:∀(w:Z5) (mg:Ą) (fa:Z1) (h:Z8),(ļc).In h->ŷa->mg d.name=Ú fa -> ∃fd:FuncData,(∀(s:Z2) (u:Z0),Ůc fd [u] [(x,u)]) /\ ∀base:Z8,(ļc).In base->Ţc->FnOk l.prog w ļc mg base (CX w) k fa fd [x] (sp w))
  (hsp:∀(w:Z5) (H:Hp) (a:Z1) (ns:Ċ),ns.length<=n->Only H->SqL ļc H a Æa->sp w [œ] H (λv _=>v=Ĩ) ďc)
  (hCX:∀(w:Z5) (H:Hp) (s:Z2) (e:Z0) (s':Z2),CX w [] H s ďc e s'->False) :
  đd:=by
 refine Att.attach_call hn hdf λw s₀ s₁ mg mb fa o pm cd doc a vs ns G Y ho hd hcd hmg hobj hints hlen hg=>?_;have KX:=hY w _ Y;obtain⟨fd,hb,hF⟩:=F w mg fa _ KX G.T.g hmg;exact Nj KX G.T.g G.T.b G.T.builtins G.T.nolimit hg hobj hints (WB hlen hn2) hr hF hb (λH hO hS=>hsp w H a ns hlen hO hS) λH e s'=>hCX w H s₁ e s'
open PySem PySem.Spec PyProof.Rows
noncomputable def XF(s:Z6):Arguments:=match s with
 | .FunctionDef _ a _ _ _ _ _ _ _ _=>a
 |_=>{ posonlyargs:=[],args:=[],vararg:=none,kwonlyargs:=[],kw_defaults:=[],kwarg:=none,defaults:=[] }
noncomputable def WI(s:Z6):Æ Z6:=match s with
 | .FunctionDef _ _ b _ _ _ _ _ _ _=>b
 |_=>[]
noncomputable def ZJ(s:Z6):Scope:=match s with
 | .FunctionDef _ _ _ _ _ _ sc _ _ _=>sc
 |_=>{ kind:=.function,names:=[],isGenerator:=false,isCoroutine:=false }
noncomputable abbrev CX0:CXT:=λ_ _ _ _ _ _=>False
noncomputable abbrev E0:XK:=ďc
theorem QS{X:Cx}:TQ CX0 X E0:=λ_ _ _ _ _ _ _ h=>h.elim
structure Fun(K:ZC)(x qual:Str)(st:Z6)(f:Z1)(fd:FuncData):Prop where
 ex:∃(oc:Z0) (od:Z9 Z1) (kV doc pm:Z0) (an:Z9 Z1) (cdv ct:Z0) (osl:Array (Z9 Z0)), fd=ğ x qual doc cdv/\Ľd f=Ã ⟨oc,od,.func fd,osl⟩/\PySem.W.codeIn K cdv qual=true
 kp:Ũ K f=true
section
variable {P:Z3}{w:Z5}{K:ZC}{mg:Ą}{base:Z8}
theorem Fun.ok{x qual:Str}{st:Z6}{f:Z1}{fd:FuncData}{N ps:ù}{k:Nat}{sp:Sp}(F:Fun K x qual st f fd)(S:ä N ps st)(len:∀vs H Q E,Če)
  (hbody:∀(cdv:Z0) (A:Z4) (outer:êb) (s:Z2) (H:Hp) (vs:ĝ) (Q:VK) (E:XK),õc (äc qual (ZJ st) cdv)->ĥa -> ∃t,PSs (Òd qual) (WI st) t/\t { nx:=λ_ H'=>Q .non H',rt:=Q } Ŋd H):ūa CX0 (k+1):=by
 obtain⟨oc,od,kV,doc,pm,an,cdv,ct,osl,rfl,lk,hcd⟩:=F.ex;refine Èd ?_;obtain⟨t,h,q⟩:=hbody cdv A outer s H vs Q E hr hsp;exact ő t h.nox q
theorem Fun.binds{x qual:Str}{st:Z6}{f:Z1}{fd:FuncData}{ps:ù}(F:Fun K x qual st f fd)
  (h:∀(kV doc pm:Z0) (an:Z9 Z1) (cdv ct:Z0) (us:š),us.length=ps.length->bindArgs (ğ x qual doc cdv) (ã us [])=pure ĕc):Ņb K []:=by
 obtain⟨oc,od,kV,doc,pm,an,cdv,ct,osl,rfl,lk,hcd⟩:=F.ex;exact .all (h kV doc pm an cdv ct)
theorem FR{x qual:Str}{st:Z6}{f:Z1}{oc:Z0}{od an:Z9 Z1}{osl:Array (Z9 Z0)}{kV doc pm cdv ct:Z0}(l:Ľd f=Ã ⟨oc,od,.func (ğ x qual doc cdv),osl⟩)
  (c:PySem.W.codeIn K cdv qual=true) (k:Ũ K f=true):Fun K x qual st f (ğ x qual doc cdv):=ã ⟨oc,od,kV,doc,pm,an,cdv,ct,osl,Z,l,c⟩ k
end
theorem UB{n:Nat}(h:n<=1000):n<sizeLine:=UW h Ç
section
variable {X:Cx}
theorem pv(i:Nat){x:Str}{pos:Pos}(hN:X.N[i]?=äd:=by rfl)(hv:Ĥd:=by first | exact Ô | exact Or.inr Ô | exact Or.inr äb)(hd:Ķd:=by decide)
  (hcd:œd x:=by decide):Œ (Ďc pos) (tVar i):=K7 hN hv hd hcd
end
theorem iteF{A B:Prop}(h:B):if false=true then A else B:=ú (ZE YS) h
theorem iteT{A B:Prop}(h:A):if true=true then A else B:=ú ŧb h
theorem ite2{c A B:Prop}[Decidable c](h1:c->A)(h2:¬c->B):if c then A else B:=by
 by_cases h:c
 ·rw[ZH h];exact h1 h
 ·rw[ZE h];exact h2 h
noncomputable def Same(H H':Hp):Prop:=∀b o,H b=ţ->H' b=ţ
theorem srf(H:Hp):ńa H:=λ_ _ h=>h
theorem Same.trans{H H1 H2:Hp}(a:ńa H1)(b:Same H1 H2):ńa H2:=λc o h=>b c o (a c o h)
theorem Same.free{H H':Hp}(e:Ŀd){l:Z1}(h:H' l=Option.none):H l=Option.none:=by
 cases q:H l with
 |none=>rfl
 |some o =>
  rw[e l o q]at h;cases h
theorem Same.seq{K:ZC}{H H':Hp}{a:Z1}{xs:ĝ}(e:Ŀd)(h:Ūa H):Ūa H':=by
 rcases h with(h | ⟨o,h⟩) | h
 ·exact Ė (Ė (e _ _ h))
 ·exact Ė (ūb o (e _ _ h))
 ·exact Ŀ h
end L2
namespace L2
open PySem PySem.Spec PyProof.Rows
noncomputable def Cx.comp(X:Cx)(N':ù)(scope:Scope)(cl:ġa Z1)(C:Z1)(s2:Z2)(H2:Hp)(ex:ãb):Cx :=
 { X with N:=N',s₀:=s2,H₀:=H2,env:=compEnvC scope cl C X.env,outer:=X.stack,ex:=ex,fn:=λ_=>false,pn:=[],xe:=Õa }
theorem II:∀(names:ġa NameKind) (acc:ġa Z1),(∀y∈names,y.2=.free->∃c,ŏd y.1=Ã c) -> (∀x c,acc.lookup x=Ã c->ŏd x=Ã c) -> ∃cl,(forIn names acc λ(x:Str×NameKind) (cs:List (Str×Z1))=>(match x with
   | (name,kind)=>if(kind==NameKind.free)=true then do let c <- cellOf env name;ŝ ((name,c)::cs)else ŝ cs:Sem (ForInStep (ġa Z1))))=pure cl /\ (∀x c,œb=Ã c->ŏd x=Ã c)/\(∀x c,acc.lookup x=Ã c->œb=Ã c) /\ (∀x,(x,NameKind.free)∈names->∃c,œb=Ã c)
 | []=>λacc _ h2=>⟨acc,Z,h2,λ_ _ h=>h,λ_ h=>nomatch h⟩
 | (n,k)::r=>λacc h1 h2=>by
  rw[List.forIn_cons];dsimp only
  by_cases hk:(k==NameKind.free)=true
  ·have hk':k=NameKind.free:=by simpa using hk
   obtain⟨c,hc⟩:=h1 (n,k) XB hk';have e:cellOf env n=pure c:=by unfold cellOf;rw[hc]
   obtain⟨cl,e1,e2,e3,e4⟩:=II r ((n,c)::acc) (λy hy=>h1 y (UV _ hy)) (λx d hd=>by
    rw[List.lookup_cons]at hd;cases hx:x==n with
    |true =>
     rw[hx]at hd;have:x=n:=by simpa using hx
     subst this;cases hd;exact hc
    |false =>
     rw[hx]at hd
     exact h2 x d hd)
   have self:cl.lookup n=Ã c:=e3 n c (by rw[List.lookup_cons];simp);refine⟨cl,?_,e2,λx d hd=>?_,λx hx=>?_⟩
   ·rw[ZH hk,e,pure_bind,pure_bind];exact e1
   ·by_cases hx:x=n
    ·subst hx;have:=h2 x d hd;rw[hc]at this;cases this;exact self
    ·exact e3 x d (by rw[List.lookup_cons];simp only[show Ķb (x==n) by simpa using hx];exact hd)
   ·rcases ĳd hx with z | z
    ·cases z;exact ã c self
    ·exact e4 x z
  ·obtain⟨cl,e1,e2,e3,e4⟩:=II r acc (λy hy=>h1 y (UV _ hy)) h2;refine⟨cl,?_,e2,e3,λx hx=>?_⟩
   ·rw[ZE hk,pure_bind];exact e1
   ·rcases ĳd hx with z | z
    ·cases z;exact ń rfl hk
    ·exact e4 x z
theorem MG(h:∀y∈scope.names,y.2=.free->∃c,ŏd y.1=Ã c) :
  ∃cl,closureFor scope env=pure cl/\(∀x c,œb=Ã c->ŏd x=Ã c)/\(∀x,(x,NameKind.free)∈scope.names->∃c,œb=Ã c):=by
 obtain⟨cl,e1,e2,e3,e4⟩:=II (env:=env) scope.names [] h (λx c hc=>by simp at hc);refine⟨cl,?_,e2,e4⟩;unfold closureFor;simp only[bind_pure];exact e1
theorem Zt{env:Env}{x:Str}{k:NameKind}:∀{names:ġa NameKind}, (names.map λ(n,k)=>if(Ïa k)then(n,NameKind.cell)else(n,k)).lookup x=Ã k -> ∃k',names.lookup x=Ã k'/\(k'=k\/k'=.free/\k=.cell)
 | []=>λh=>by simp at h
 | (n,j)::r=>λh=>by
  rw[Y8]at h;dsimp only at h;have ih:=@Zt env x k r
  by_cases hc:(Ïa j)=true
  ·rw[ZH hc,List.lookup_cons]at h;rw[List.lookup_cons];cases hx:x==n with
   |true =>
    rw[hx]at h;cases h;simp only[YT]at hc;exact ő j Z (ūb (by simpa using hc.1.1) Z)
   |false =>
    rw[hx]at h;exact ih h
  ·rw[ZE hc,List.lookup_cons]at h;rw[List.lookup_cons];cases hx:x==n with
   |true =>
    rw[hx]at h;cases h;exact ža ĭa
   |false =>
    rw[hx]at h;exact ih h
theorem MQ{env:Env}{x:Str}:∀{names:ġa NameKind},names.lookup x=Ã .free -> (names.map λ(n,k)=>if(Ïa k)then(n,NameKind.cell)else(n,k)).lookup x=Ã .cell \/ (names.map λ(n,k)=>if(Ïa k)then(n,NameKind.cell)else(n,k)).lookup x=Ã .free
 | []=>λh=>by simp at h
 | (n,j)::r=>λh=>by
  rw[Y8];dsimp only;have ih:=@MQ env x r;rw[List.lookup_cons]at h
  by_cases hc:(Ïa j)=true
  ·rw[ZH hc,List.lookup_cons];cases hx:x==n with
   |true=>exact ĭa
   |false=>rw[hx]at h;exact ih h
  ·rw[ZE hc,List.lookup_cons];cases hx:x==n with
   |true=>rw[hx]at h;cases h;exact ôe
   |false=>rw[hx]at h;exact ih h
theorem Zo(I:İc Nat)
  (turn:∀n s,I n s->å (pyNext it) (λr s₁=>match r with
   |none=>R (.ok .next) s₁
   |some v=>üc (if r=true then do let ok <- isTrue c env (eval c env);ŝ ok else ŝ r) (if ok=true then ňc (∃m,m<n/\I m s₅) Õa else ∃m,m<n/\I m s₃) Õa) Õa s)
  (n:Nat) (h:I n s) :
  Ĉe:=by
 refine codeAny_loop rfl I (λn s hI=>?_) n h;show wpAny _ A ((compTurn (ý target ifs) 0 it acc env).onRaise (λx=>do noteFrame x env;theTreesLotGoes x)) _ _ s;refine wpAny_noted ?_;rw[compTurn_list];refine ZA (ùc (řc (turn n s hI) (λr s₁ h₁=>?_)));cases r with
 |none=>exact ZQ h₁
 |some v =>
  refine ZA (řc h₁ (λ_ s₁' h₁'=>?_));refine ZA (řc h₁' (λ_ s₂ h₂=>ZA (řc h₂ (λok s₃ h₃=>?_))));cases ok with
  |false=>exact ZQ (ã Z h₃)
  |true =>
   exact ZA (ZA (řc h₃ (λx s₄ h₄=>ZA (řc h₄ (λ_ s₅ h₅=>ZQ (ZQ (ã Z h₅)))))))
end L2
namespace L2
open PySem PySem.Spec PyProof.Rows
noncomputable def pick(σ:St):ğc->Z9 V
 |none=>none
 |some i=>(σ[i]?).getD none
theorem JU(h:pick σ (Ã j)=ôc):σ[j]?=Ã ôc:=by
 have h:(σ[j]?).getD none=ôc:=h;cases e:σ[j]? with
 |none=>rw[e]at h;cases h
 |some o=>rw[e]at h;exact ęb some h
noncomputable def TR(osc scope:Scope)(N Nb:ù)(ix:Æ ğc):Bool :=
 è (scope.kind=.function)&&scope.names.all (λy=>è (y.2≠.cell)) && scope.names.all (λy=>è (y.2=øc->Úb y.1=ēe)) && scope.names.all (λy=>è (y.2=.free->ĺb (osc.names.lookup y.1))) && è (ix.length=Nb.length) && (Ĵ Nb.length).all (λi=>match ix[i]? with
  |some (some j)=>match Nb[i]? with
   |some x=>è (N[j]?=äd/\Úb x=Ã .free)
   |none=>true
  |_=>true)
structure CompOk(osc scope:Scope)(N Nb:ù)(ix:Æ ğc):Prop where
 kind:scope.kind=.function
 nocell:∀y∈scope.names,y.2≠.cell
 names:∀y∈scope.names,y.2=øc->Úb y.1=ēe
 fr:∀y∈scope.names,y.2=.free->ĺb (osc.names.lookup y.1)
 len:ix.length=Nb.length
 src:∀(i j:Nat) (x:Str),Nb[i]?=äd->ix[i]?=Ã (Ã j)->N[j]?=äd/\Úb x=Ã .free
theorem NP(h:TR osc scope N Nb ix=true):CompOk osc scope N Nb ix:=by
 unfold TR at h;simp only[YT]at h;obtain⟨⟨⟨⟨⟨h1,h2⟩,h3⟩,h4⟩,h5⟩,h6⟩:=h;refine⟨ġ h1,λy hy=>ġ (UK.mp h2 y hy),λy hy=>ġ (UK.mp h3 y hy),λy hy=>ġ (UK.mp h4 y hy),ġ h5,λi j x e1 e2=>?_⟩;have hi:i<Nb.length:=Ăb e1;have q:=UK.mp h6 i (List.mem_range.mpr hi);rw[e2]at q;simp only[e1]at q;exact ġ q
noncomputable def PIfs(X:Cx)(ifs:Šc)(t:TT):Prop :=
 ∀(pins:æ) (s:Z2) (σ:St) (H:Hp) (Q:Ť Bool),Ĝ->Ŝd -> Ë (forIn ifs true λc r=>if r=true then do let ok <- isTrue c X.env (í c);ŝ ok else ŝ r) (TP X pins σ Q) s
noncomputable def YN:TT:=λ_ H Q=>Q true H
theorem Y0:PIfs X [] YN:=ád (wpAny_tests_nil (ő H I h))
theorem X5(h:PT X c t):PIfs X [c] t:=λpins s σ H Q I hq=>wpAny_tests_one (ßc Q hq)
noncomputable def U2(J:It)(g:TG)(tc:TT)(te:TE)(σ0:St)(H1:Hp)(Q:VK):Prop:=∀D,Źd -> ∃W:Nat->Nat->ĝ->Ť St,(∃m,W 0 m [] σ0 (Ŗc D)) /\ ∀i m ys σ' H',Ïe m->Ľb/\((J.stop i H'/\Ŕ D H')\/(J.go i H'/\∀x H2,J.yld i H' x H2->g x σ' H2 λσ2 H3=>tc σ2 H3 λb H4 => if b=true then Þa σ2 (∃m',ŭc Ħb σ2 Ęb) else ∃m',ŭc ys σ2 H4))
noncomputable def OG(wi:TI)(g:TG)(tc:TT)(te:TE)(ix:Æ ğc):TE:=ďa (wi σ H (şd te))
section
variable {X:Cx}{N':ù}{scope osc:Scope}{cl:Æ (Str × Z1)}{C:Z1}{ex:ãb}{ix:Æ ğc}{pins:Æ âb}{σ:St}{H2:Hp}{s2:Z2}
theorem KK(I2:É H2 s2)(K:ßa)(e2:∀x c,œb=Ã c->ť=Ã c)(e3:∀x,(x,NameKind.free)∈scope.names->∃c,œb=Ã c)
  (hC:s2.heap.objs.size<=C) (f2:∀b∈ex,şa H2) (hex:∀b∈ex,b<s2.heap.objs.size):(Ăa).Ok where
 mod:=I2.ok.mod
 kind:=K.kind
 glob:=I2.ok.glob
 blt:=I2.ok.blt
 above:=hC
 inj:=λx y c h1 h2=>I2.ok.inj x y c (e2 x c h1) (e2 y c h2)
 has:=λx hx=>by
  have key:∀k,(çb).names.lookup x=Ã k->k=.cell\/k=.free->∃c,œb=Ã c:=λk hk hk2=>by
   obtain⟨k',h1,h2⟩:=Zt hk;have hm:=ób h1;rcases h2 with rfl | ⟨rfl,rfl⟩
   ·rcases hk2 with rfl | rfl
    ·exact ń rfl (K.nocell _ hm)
    ·exact e3 x hm
   ·exact e3 x hm
  rcases hx with hx | hx
  ·exact key _ hx ĭa
  ·exact key _ hx ôe
 cab:=λx c h=>by cases h
 hd:=I2.ok.hd
 frames:=I2.ok.frames
 stk:=ĭa
 exf:=ěa (ã Ęe (λx c h=>(Øe).2.2.2.2.1 x c (e2 x c h)))
 bs:=I2.bs
 bsz:=WB I2.ok.bsz I2.sz
 noex:=λb o e hb=>by
  rcases(Øe).2.2.2.1 with z | z
  ·exact I2.ok.noex b o e z
  ·exact Ëc (W8 (I2.ok.bs b o e).1) z
 exfs:=λb hb hf=>by
  rcases ĳd (I2.stkSub b hf)with z | z
  ·exact(Øe).2.1 z
  ·exact(Øe).2.2.1 z
 funs:=I2.stack
 frf:=I2.stkFree
theorem PQ(I2:É H2 s2)(f2:∀b∈ex,şa H2)(hC:s2.heap.objs.size<=C) 
  (J:Inv Ăa [] σ3 H3 s4) (sb:ĵa C s4.heap h'):É H3 { s4 with heap:=h' }:=by
 have ne:∀b o,s2.heap.get? b=ţ->b≠C:=λb o e=>WF (WT (W8 e) hC);have B:=J.base;have fr:H3 C=none:=J.free;refine I2.call' (s':={ s4 with heap:=h' }) (ch:=ex) J.os ⟨Ża,Ża,B.free,λb o e hx=>?_,B.tups,B.frzs,B.tbls⟩ ?_ J.bare Óa
 ·exact(sb.2 b (ne b o e)).trans (B.keep b o e n hb hx)
 ·obtain⟨sl,q⟩:=B.slot b o e n hb hx;exact ã sl ((sb.2 b (ne b o e)).trans q)
 ·obtain⟨o',q⟩:=B.there b o e hx;exact ã o' ((sb.2 b (ne b o e)).trans q)
 ·intro b ob e;refine(J.hok b ob e).stay (λc w' hc q=>(sb.2 c ?_).trans q) (λ_ q=>q) λ_ _ q=>q;rintro rfl;rcases hc with rfl | hc
  ·rw[fr]at e;cases e
  ·rw[fr]at hc;cases hc
 ·obtain⟨_,f1,_,f3,f4,f5⟩:=Øe;exact⟨f3,f1,f4,f5⟩
end
theorem AQ{X:Cx}{tg iter elt:Z7}{ifs:Šc}{scope:Scope}{pos:Pos}{g:TG}{tc:TT}{te:TE}{N':ù}{ix:Æ ğc}{pins:æ}{σ:St}{s2:Z2}{itv:Z0}{Q:VK}{cl:ġa Z1}
  {RR:Z0->Z1->İc Result} (hc:èa) (K:ßa) (e2:∀x c,œb=Ã c->ť=Ã c) (e3:∀x,(x,NameKind.free)∈scope.names->∃c,œb=Ã c)
  (hg:∀cl C s2 H2 ex,īd) (ht:∀cl C s2 H2 ex,Öd) (he:∀cl C s2 H2 ex,PE Ăa elt te)
  (h2:PIE X pins σ tg (şd te) itv s2)
  (hRR:∀H2 fp C D σ3 H3 s4,É H2 s2->(∀b∈fp,şa H2)->s2.heap.objs.size<=C->ýd->Ŕ D H3->RR (Ê D) C (.ok .next) s4) :
  Ë (newList []) (ř ifs { cenv with scope:=çb } cenv.locals) s2:=by
 obtain⟨it,fp,tn,J,H2,rfl,I2,T,st2,f2,q⟩:=h2;refine Ŷa (by intro y hy;simp at hy);dsimp only at hns1 hsb1 ⊢;generalize hP:s2.heap.push { cls:=Ĉb,dict:=none,data:=.seq ([]:š).toArray }=P2 at hns1 hsb1 ⊢;have hCs:P2.objs.size=s2.heap.objs.size+1:=by rw[<- hP,Heap.size_push]
 have hC:s2.heap.objs.size<=P2.objs.size:=À
 have hDC:s2.heap.objs.size≠P2.objs.size:=À
 have old:∀b o,s2.heap.get? b=ţ->h1.get? b=ţ:=Âc (hP▸WD _ e)
 have hacc:h1.get? s2.heap.objs.size=Ã { cls:=Ĉb,dict:=none,data:=.seq ([]:š).toArray } :=
  hsb1.extBut _ _ hDC (WD _ (hP▸Ĩa))
 have hD:H2 s2.heap.objs.size=none:=I2.hok.fresh ħ;have hCn:H2 P2.objs.size=none:=I2.hok.fresh hC;obtain⟨W,⟨m0,w0⟩,turn⟩:=q s2.heap.objs.size hD;have hex:∀b∈fp,b<s2.heap.objs.size:=ěa (by
  obtain⟨o,e,_⟩:=T.obj 0 _ st2 b hb;exact W8 e)
 have YOk:=KK (cl:=cl) (C:=P2.objs.size) (ex:=fp) I2 K e2 e3 hC f2 hex;have hok1:įc èb h1:=Ŀc;have IY:Inv Ğ [] ýb èb { s2 with heap:=h1,toks:=s2.toks+([]:ġa Z0).length }:=by
  refine⟨YOk,Z,I2.bare,?_,ő _ hns1 (λi x v e1 e4 e5=>?_),áe,?_,áe,Ļ (ń (show p∈([]:æ) from hp) Í),hok1,?_⟩
  ·exact(Un.laid old ħ hD).mono Żd Żd
  ·rw[ZX]at e4;cases e6:ix[i]? with
   |none=>rw[e6]at e4;cases e4
   |some o =>
    rw[e6]at e4;cases o with
    |none=>cases(WC e4)
    |some j =>
     have e7:σ[j]?=Ã ôc:=JU (WC e4);obtain⟨n1,n2⟩:=K.src i j x e1 e6;have hm:=ób n2;have kx:=K.fr _ hm rfl;obtain⟨m,hn,hl⟩:=I2.loc;obtain⟨u,r,l⟩:=Ťb;refine ő u r (ūb ?_ ?_)
     ·exact MQ n2
     ·rcases l with⟨k1,_⟩ | ⟨_,c,hc1,hc2⟩
      ·exfalso;have k1':ŋ x=ēe:=k1;rcases kx with z | z
       ·rw[k1']at z;cases z
       ·rw[k1']at z;cases z
      ·obtain⟨c',hc'⟩:=e3 x hm;have e8:=e2 x c' hc';rw[hc1]at e8;cases e8;obtain⟨o,ho,hd⟩:=hc2;exact⟨c,hc',o,old _ _ ho,hd⟩
  ·obtain⟨v,o,ho,hd⟩:=Ác;exact⟨v,o,old _ _ ho,hd⟩
  ·show ũa P2.objs.size=none;rw[ZP (ĥ hDC)];exact hCn
  ·obtain⟨v,z⟩:=Ác;rw[ZP (WF z.lt)];exact I2.freeC x c (e2 x c e)
  ·rw[ZD];exact K.len
 have hnf:∀b∈fp,b≠P2.objs.size:=ěa Ęe;have stat:∀{H':Hp},(∀b∈fp,Ďe b)->∀b∈fp,FpOk Ğ [] H' b:=Ćb ((Øe).2.2.2.2.1 x c (e2 x c e)) (show p∈([]:æ) from hp)
 have loop:∀s₃:Z2,s₃ = { s2 with heap:=h1,toks:=s2.toks+([]:ġa Z0).length } -> Ŕa ifs P2.objs.size:=by
  rintro s₃ rfl;refine Zo (λn s'=>∃i ys σ' H',őb Ğ []/\tn i s'.heap/\(∀b∈fp,Ďe b)/\Ïe n) ?_ m0 ⟨0,[],_,_,IY,óa st2 (old b o e),Óa,w0⟩
  ·rintro n s3 ⟨i,ys,σ3,H3,I3,st3,fr3,w3⟩;obtain⟨hDl,tt⟩:=turn i n ys σ3 H3 w3;rcases tt with⟨stop,qn⟩ | ⟨go,step⟩
   ·refine thn (ða Ğ [] Õa) λr s4 ⟨hr,I4⟩=>?_;subst hr;exact hRR H2 fp P2.objs.size s2.heap.objs.size σ3 H3 s4 I2 f2 hC I4 qn
   ·refine thn (āa Ğ [] Õa) λr s4 ⟨u,hr,h4⟩=>?_;subst hr;refine thn h4 λ_ s5 ⟨x,H5,I5,r5,y5,st5,fr5⟩=>?_;have I5':=Ùb;refine thn Ôb λ_ s6 ⟨σ6,H6,I6,q6⟩=>?_;refine thn (ht cl P2.objs.size s2 H2 fp _ s6 σ6 H6 _ I6 q6) λb s7 ⟨H7,I7,q7⟩=>?_;have again:∀{s8:Z2}{H8:Hp}{ys':ĝ}{m':Nat},Inv Ğ ([]++RU fp s5.heap) σ6 H8 s8->m'<n->W ůa m' ys' σ6 H8 -> ∃m,m<n/\∃i ys σ' H',Inv Ğ [] σ' H' s8/\tn i s8.heap/\(∀b∈fp,Ďe b)/\Ïe m:=λ{s8 H8 ys' m'} I8 hm w8=>by
     refine⟨m',hm,ůa,ys',σ6,H8,I8.unpinned,óa st5 (I8.pin (b,o) ęa).1,Óa,w8⟩;obtain⟨o,e,d⟩:=Šd;exact(I8.pin (b,o) ęa).2.1
    cases b with
    |false =>
     obtain⟨m',hm,w7⟩:∃m',m'<n/\W ůa m' ys σ6 H7:=q7;exact again I7 hm w7
    |true =>
     have q7':te σ6 H7 _:=q7;show ā (eval elt Ça) _;refine thn (he cl P2.objs.size s2 H2 fp _ s7 σ6 H7 _ I7 q7') λyv s8 ⟨y,H8,I8,r8,hD8,hz8,m',hm,w8⟩=>?_;refine thn (TC (X:=Ğ) _ s8 σ6 H8 (Ê s2.heap.objs.size) [y] (Ê s2.heap.objs.size) [yv] ßd I8 rfl (Ŭb r8 .nil) ⟨_,ys,y,Z,Z,hD8,hz8,Z⟩) λ_ s9 ⟨_,H9,I9,_,e9⟩=>?_
     subst e9;exact again I9 hm w8
  ·show ũa b=none;rw[ZP (WF (hex b hb))];exact(Øe).1
 exact áa
theorem WU(N':ù)(ix:Æ ğc)(osc:Scope)(N:ù)
  (hc:èa) (hi:ęc) (ok:TR osc scope N N' ix=true)
  (hg:∀cl C s2 H2 ex,īd) (ht:∀cl C s2 H2 ex,Öd) (he:∀cl C s2 H2 ex,PE Ăa elt te)
  (hsc:X.env.scope=osc:=by rfl) (hN:X.N=N:=by rfl) (hs:∀x,ča=pure x:=by intro _;rfl):Œ (ý tg ifs) (OG wi g tc te ix):=by
 intro pins s σ H Q I h;have K0:=NP ok;have K:ßa:=by rw[hsc,hN];exact K0
 obtain⟨cl,hclos,e2,e3⟩:=MG (scope:=scope) (env:=X.env) Ĥb;rw[eval_ListComp];refine wpAny_comprehension_free (use:=none) rfl hs hclos K.kind K.names (ŉd Ťa Ùc);refine AQ hc K e2 e3 hg ht he h2 λH2 fp C D σ3 H3 s4 I2 f2 hC I4 qn=>?_;obtain⟨m,hn,_⟩:=I4.loc;exact ő m hn (λh' sb=>⟨Ê D,H3,PQ I2 f2 hC I4 sb,Z,qn⟩)
theorem Q6(N':ù)(ix:Æ ğc)(osc:Scope)(N:ù)(nd:X.N.Nodup)(hiy:X.N[i]?=Ã y)(hxy:Ŋb y)
  (hc:èa) (hi:ęc) (ok:TR osc scope N N' ix=true)
  (hg:∀cl C s2 H2 ex,īd) (ht:∀cl C s2 H2 ex,Öd) (he:∀cl C s2 H2 ex,PE Ăa elt te)
  (hsc:X.env.scope=osc:=by rfl) (hN:X.N=N:=by rfl) (hs:∀x,ča=pure x:=by intro _;rfl)
  (hsw:Ŵc ifs=pure true:=by rfl) (hf:Ĳ y:=by first | exact ĭa | exact ôe | assumption) :
  ġd Ĕb (ý tg ifs) spos (OG wi g tc te ix):=by
 intro pins s σ H D I h;have K0:=NP ok;have K:ßa:=by rw[hsc,hN];exact K0
 obtain⟨cl,hclos,e2,e3⟩:=MG (scope:=scope) (env:=X.env) Ĥb;rw[Şd];refine ZA (ùc ?_);show wpAny _ X.A (do let _ <- comprehension (.ListComp elt [⟨tg,iter,ifs,0⟩] scope pos) scope X.env _ (newList []) false (eval iter X.env) (some (assign (.Name y py) X.env))) _ _ s;refine ZA (ŉd (wpAny_comprehension_free (use:=Ã (assign Ĕb X.env)) (Q:=λ_ s'=>SP X pins D .next s') rfl hs hclos K.kind K.names (ŉd Ťa Ùc)) (λ_ s' hq=>ZQ (ZQ hq)))
 refine AQ hc K e2 e3 hg ht he h2 λH2 fp C L σ3 H3 s4 I2 f2 hC I4 qn=>?_;have I5:É H3 s4:=PQ I2 f2 hC I4 (Heap.SameBut.refl ..);obtain⟨m,hn,_⟩:=I4.loc;have hn:s4.heap.Ns C m:=hn;have fC:FpOk X pins H3 C:=I2.fpOk hC I4.free;show Ĭc;refine wpAny_assign_Name (MN I5 nd hiy hxy (v:=Ê L) rfl (λs5 I6 hch=>?_) hf);obtain⟨a,sb,ha⟩:=hch;have nCa:C≠a:=by
  rcases ha with rfl | ha
  ·exact fC.2.1
  ·exact λz=>fC.2.2.2.2.1 y a ha z.symm
 refine ő m (hn.sameBut sb nCa) (λh' sb'=>⟨_,H3,?_,qn⟩);obtain⟨f0,f1,f2',f3,f4,f5⟩:=fC;exact I6.turned (t':=s5.toks) (λb o hb e=>(sb'.2 b hb).trans e) f0 f1 f3 f4 f5
end L2
namespace L2
open PySem PySem.Spec PyProof.Rows
section
variable {X:Cx}
theorem DI:∀{bs:Æ Bool}{us:š},Ŝa ōd->LSm.BoolsAre us bs
 | [],_,.nil=>.nil
 |b::bs,_,.cons r t=>by
  cases r;exact Ŭb b (DI t)
theorem V7(hc:èa):ĸ "all" (∃(p:Z1) (bs:Æ Bool),xs=[Ê p]/\Ðd p ōd/\ŉb (bs.all id)):=by
 intro pins s σ H xs us Q I rv h;obtain⟨p,bs,rfl,hq,q⟩:=h;obtain⟨u,rfl,ru⟩:=rv.one;cases ru;obtain⟨its,r,pl,hz⟩:=ĳb;have hb:=DI r;obtain⟨m,F⟩:=I.fr;have hl:=pl.isList;have hlt:p<s.heap.objs.size:=by obtain⟨_,e,_⟩:=hl;exact W8 e
 have hh:=Ĵa;refine call_all_walk (wpAny_pyIter_list hl ?_);refine⟨s.heap.objs.size,[s.heap.objs.size,p],[s.heap.objs.size],its.toArray.size,_,_,λi=>(bs[i]?).getD true,Z,Walks.list (A:=X.A.in1) hh _ p (WF hlt) its.toArray, ã ⟨_,Ĩa,Z,Z⟩ (hl.push _),λi v s' Q' E' hP hQ=>?_,λh' tk hk=>?_⟩
 ·obtain⟨b,e,rfl⟩:=hb.get i v (by simpa using hP);simp only[e,Option.getD_some]at hQ;exact ğa hQ
 ·have e:((Ĵ its.toArray.size).all λi=>(bs[i]?).getD true)=bs.all id:=by
   rw[WZ,hb.length];exact LSm.range_all bs
  rw[e];exact Ĕc _ (I.kept (LSm.kept_iter hk))
theorem VH:ĸ "isinstance" (∃x T t b,xs=[x,.ty T]/\TyOf X.K H x t/\Ű X.K t (Ŀa T)=Ã b/\ŉb b):=by
 intro pins s σ H xs us Q I rv h;obtain⟨x,T,t,b,rfl,ty,e,q⟩:=h;obtain⟨u,v,rfl,ru,rv⟩:=rv.two;cases rv;exact Iq I ru ty e λtk=>Ĕc b (I.tok tk)
theorem PP:∀{ns:Ċ}{us:š},Ŝa Æa->IntsAre us ns
 | [],_,.nil=>.nil
 |b::bs,_,.cons r t=>by
  obtain⟨tk,rfl⟩:=r;exact .cons _ _ (PP t)
end
mutual
inductive RdD(K:ZC)(H:Hp):Û V PyData
 |non:RdD K H .non ħb
 |bl (b:Bool):RdD K H (.bl b) (.bool b)
 |int (i:Int):RdD K H ïe ïe
 |str (x:Str):RdD K H íd íd
 |lst {a:Z1}{xs:ĝ}{ds:Æ PyData}:Ūa H->RdAll K H xs ds->RdD K H œ (.list ds)
 |tup {a:Z1}{xs:ĝ}{ds:Æ PyData}:łb a xs->RdAll K H xs ds->RdD K H œ (.tuple ds)
inductive RdAll(K:ZC)(H:Hp):Û ĝ (Æ PyData)
 |nil:RdAll K H [] []
 |cons {x:V}{d:PyData}{xs:ĝ}{ds:Æ PyData}:RdD K H x d->RdAll K H xs ds->RdAll K H (x::xs) (d::ds)
end
section
variable {X:Cx}{pins:Æ âb}{σ:St}{H:Hp}{s:Z2}
mutual
theorem Inv.reads(I:Ĝ):∀{x:V}{d:PyData}{u:Z0},RdD X.K H x d->Őa x->∃as,Reads s.heap u d as
 |_,_,_,.non,r=>by cases r;exact Ņ ħb
 |_,_,_,.bl b,r=>by cases r;exact Ņ (.bool b)
 |_,_,_,.int i,r=>by obtain⟨t,rfl⟩:=r;exact Ņ (Řd i)
 |_,_,_,.str x,r=>by obtain⟨t,rfl⟩:=r;exact Ņ (.str x t)
 |_,_,_,.lst hq ha,r=>by
  cases r;obtain⟨its,rv,⟨o,n,e,c,dd,dt⟩,_⟩:=ĳb;obtain⟨as,q⟩:=Inv.readsAll I ha rv;exact Ņ (.list e c dt (by simpa using q))
 |_,_,_,.tup hq ha,r=>by
  cases r;obtain⟨its,rv,⟨o,e,c,n,dt⟩,_⟩:=ĺd;obtain⟨as,q⟩:=Inv.readsAll I ha rv;exact Ņ (.tuple e c dt (by simpa using q))
theorem Inv.readsAll(I:Ĝ):∀{xs:ĝ}{ds:Æ PyData}{us:š},RdAll X.K H xs ds->Ŝa xs->∃as,ReadsAll s.heap us ds as
 |_,_,_,.nil,.nil=>Ņ .nil
 |_,_,_,.cons h t,.cons r rr=>by
  obtain⟨as,q⟩:=Inv.reads I h r;obtain⟨bs,p⟩:=Inv.readsAll I t rr;exact Ņ (Ŭb q p)
end
inductive REqD(K:ZC)(neg:Bool)(x y:V)(H:Hp)(Q:VK):Prop
 |mk (dx dy:PyData) (h1:RdD K H x dx) (h2:RdD K H y dy) (h3:SeqAt.shaped dx=true) (h4:SeqAt.shaped dy=true) (q:ŉb (if neg then ! PyData.eqv dx dy else PyData.eqv dx dy)):REqD K neg x y H Q
noncomputable def rEqD(K:ZC)(neg:Bool):R2:=Äb (REqD K neg x y H Q)
theorem K4(hu:če 64):ķ .Eq (rEqD X.K false):=by
 intro pins s σ H x y v u Q I rx ry h;obtain⟨dx,dy,h1,h2,s1,s2,q⟩:=h;obtain⟨as,r1⟩:=I.reads h1 rx;obtain⟨bs,r2⟩:=I.reads h2 ry;exact eq_dataH r1 r2 s1 s2 hu (Ĕc _ I)
theorem F1(hu:če 64):ķ .NotEq (rEqD X.K true):=by
 intro pins s σ H x y v u Q I rx ry h;obtain⟨dx,dy,h1,h2,s1,s2,q⟩:=h;obtain⟨as,r1⟩:=I.reads h1 rx;obtain⟨bs,r2⟩:=I.reads h2 ry;exact ne_dataH r1 r2 s1 s2 hu (Ĕc _ I)
end
end L2
namespace L2
open PySem PySem.Spec PyProof.Rows
noncomputable def Ite(K:ZC)(a:Z1):It :=
 ő (λi H=>∃xs x,Ūa H/\xs[i]?=äd) (λi H y H'=>∃T x,y=Ê T/\ē T/\H'=Ě H T [Ŧd,x]/\∀xs,Ūa H->xs[i]?=äd) (λi H=>∃xs,Ūa H/\xs.length<=i)
theorem Inv.tupNew{X:Cx}{pins:æ}{σ:St}{H:Hp}{s:Z2}{h':Z8}{t':Nat}{fp:ãb}{T:Z1}{xs:ĝ}{its:š}{n:Nat}(I:Ĝ)(hf:∀b∈fp,şa H)
  (hT:s.heap.objs.size<=T) (k:∀b o,b∉fp->ěd->İa b=ţ) (hz:Ďb) (rv:Õe) (e:İa T=Ã (ê "tuple" (.seq its.toArray n)))
  (tr:∀b∈fp,∃o,İa b=ţ):É (Ě H T xs) { s with heap:=h',toks:=t' }:=by
 have hTn:ē T:=òb hT;have nT:∀b o,ěd->b≠T:=λb o q=>WF (WT (W8 q) hT);have nfp:∀b o,H b=ţ->b∉fp:=λb o q hb=>by have:=ìd;rw[q]at this;cases this
 refine I.step (g':=s.gens) (d':=s.drawn) (ch:=fp) Óa (λb o _ _ hc q _=>k b o hc q) (λb o _ _ hc q _=>ã o.slots (k b o hc q)) (λb o _ q n=>Řa (nT b o q) n) (λb o hc q=>ã o (k b o hc q)) (λb ys q=>Řa (WX q hTn) q) (λb o u q=>Řa (WX q hTn) q) (λb ps q=>ã #[] (by rw[ZP (WX q hTn),q];simp)) (λm hm=>?_) (λb u q=>?_) I.bare
 ·obtain⟨_,f1,_,f3,f4,f5⟩:=hf b hb;exact⟨f3,f1,f4,f5⟩
 ·obtain⟨o,es,ep,ho,r⟩:=hm;exact⟨o,es,ep,k _ o (λz=>(hf _ z).2.1 rfl) ho,r⟩
 ·by_cases hb:b=T
  ·subst hb;rw[ZI]at q;cases q;exact⟨hz,its,rv,_,e,Z,n,Z⟩
  ·rw[ZP hb]at q;refine(I.hok b u q).stay (λc v hc w=>k c v ?_ w) (λc w=>Řa (WX w hTn) w) λc ys w=>Řa (WX w hTn) w
   rcases hc with rfl | hc
   ·exact nfp _ _ q
   ·exact nfp _ _ hc
theorem Gb{P:Z3}{w:Z5}{K:ZC}{es:Šc}{k1}{ps:Pos}(a e it:Z1):Turn P w K Ùd (Ite K a) [e,it] e (λi h=>(∃old,IsEnum h e it (ũ i) old)/\šd it a/\e≠it) where
 mem:=Í
 obj:=Žd (by
  obtain⟨⟨old,he⟩,hit,hne⟩:=st;rcases ĳd hb with rfl | hb
  ·exact ő _ he (λv z=>by
    have z':Data.fields _=ãe:=z
    cases z')
  ·have z:b=it:=by simpa using hb
   subst z;obtain⟨o,e,c,d⟩:=hit;exact ő o e (λv z=>by rw[d]at z;cases z))
 keep:=λi h h' st k=>by
  obtain⟨⟨old,he⟩,hit,hne⟩:=st;exact ő (ã old (k e Í _ he)) (hit.at λo q=>k it Í o q) hne
 item:=by
  intro X hP hw hK hc i pins s σ H E I hf st hg;subst hP hw hK;obtain⟨⟨old,he⟩,hit,hne⟩:=st;obtain⟨xs,x,hq,hx⟩:=hg;obtain⟨its,rv,p,hz⟩:=ĳb;obtain⟨u,hu,ru⟩:=rv.get hx;refine wpAny_pyNext_enum_item he hit p.isList (x:=u) (by simpa using hu) hne λh' heo hit' hT hsz hk=>?_;refine ža (wpAny_letOwnedTupleGo_enum heo λh2 he2 hs2=>?_);have elt:e≠s.heap.objs.size:=WF (W8 he);have ilt:it≠s.heap.objs.size:=by obtain⟨o,q,_⟩:=hit;exact WF (W8 q)
  have hs2':ĵa e h' h2:=hs2;have hT2:h2.get? s.heap.objs.size=Ã (čd #[.int i s.toks,u]):=(hs2'.2 _ (ĥ elt)).trans hT;have hit2:h2.IsListIter it a ůa:=hit'.at λo q=>(hs2'.2 it (ĥ hne)).trans q;have hfr:ē s.heap.objs.size:=òb ħ;have I2:É (Ě H s.heap.objs.size [Ŧd,x]) { s with heap:=h2,toks:=s.toks+1 }:=by
   refine I.tupNew (its:=[.int i s.toks,u]) hf ħ (λb o hb q=>?_) (by show ø 2;decide) (Ŭb Ôe (Ŭb ru .nil)) hT2 Óa
   ·simp only[W9,not_or]at hb;exact(hs2'.2 b hb.1).trans (hk b o hb.1 hb.2.1 q)
   ·rcases ĳd hb with rfl | hb
    ·exact Ņ he2
    ·have z:b=it:=by simpa using hb
     subst z;obtain⟨o,q,_⟩:=hit2;exact ã o q
  refine⟨Ê s.heap.objs.size,_,I2,Z,⟨_,x,Z,hfr,Z,λys hy=>ú (I.list_inj hy hq) hx⟩,ő (Ņ (by simpa using he2)) hit2 hne,Óa⟩;rw[ZP Îc]
  ·exact ìd
  ·rcases ĳd hb with rfl | hb
   ·exact elt z
   ·have z':b=it:=by simpa using hb
    subst z';exact ilt z
 done:=by
  intro X hP hw hK hc i pins s σ H E I hf st hg;subst hP hw hK;obtain⟨⟨old,he⟩,hit,hne⟩:=st;obtain⟨xs,hq,hx⟩:=hg;obtain⟨its,rv,p,hz⟩:=ĳb;obtain⟨f0,f1,f2,f3,f4,f5⟩:=hf it Í;have hl:=rv.length;exact wpAny_pyNext_enum_end Ĵa he hit p.isList (by simp;omega) λh' eb=>ã Z (I.turned (t':=s.toks) Öb f0 f1 f3 f4 f5)
 self:=Ďd (by
  obtain⟨⟨old,he⟩,hit,hne⟩:=st;exact wpAny_pyIter_enum he h)
noncomputable def Ud(K:ZC)(ta:TA):TI:=Źc (∃a,vs=[œ]/\(∃xs,Ūa H1)/\R (Ite K a) H1)
theorem N8{X:Cx}{a:Z7}{ta:TA}{es:Šc}{k1}{ps p pos:Pos}(hg:Gl X "enumerate") (hm:X.mg "enumerate" = none) (ha:PA X [a] ta) (hs:Õ [a]=[(false,í a)]:=by rfl) :
  PI X Ùd (Ň "enumerate" [a]) (Ud X.K ta):=by
 intro pins s σ H R I h;refine ů boot_enumerate (λus s1 ⟨vs,H1,I1,r1,q1⟩=>?_) hs rfl;obtain⟨a,e,⟨xs,hq⟩,q⟩:=q1;subst e;obtain⟨u,rfl,ru⟩:=r1.one;cases ru;obtain⟨its,rv,pl,hz⟩:=I1.list hq;refine call_enumerate_list pl.isList λh' he hit hsz hk=>wpAny_pyIter_enum he ?_;have I2:É H1 { s1 with heap:=h' }:=I1.kept (t':=s1.toks) hk;refine⟨s1.heap.objs.size+1,[s1.heap.objs.size+1,s1.heap.objs.size],_,_,H1,Z,I2,Gb a _ _,ő (Ņ he) hit (Nat.ne_of_gt Ģb),Óa,q⟩;rcases ĳd hb with rfl | hb
 ·exact ľa Æc
 ·have z:b=s1.heap.objs.size:=by simpa using hb
  subst z;exact ľa ħ
theorem CB{K:ZC}{a:Z1}{xs:ĝ}{g:TG}{tb:TS}{D:Ends}{σ:St}{H:Hp}(Pv:Üb)(h0:Pv 0 σ H)(hl:∀i σ H,i<=xs.length->Pv i σ H->Ūa H)
  (hs:∀i x σ H T,xs[i]?=äd->Pv i σ H->ē T->g (Ê T) σ (Ě H T [Ŧd,x]) (ŋb { D with nx:=Pv ůa,ct:=Pv ůa,bk:=D.nx })) (hd:∀σ H,Pv xs.length σ H->Ġd H) :
  ∃W:Nat->Üb,(∃m,W 0 m σ H)/\∀i m σ H,W i m σ H -> ((Ite K a).stop i H/\Ġd H)\/((Ite K a).go i H/\∃N:Ť St,(∀σ' H',N σ' H'->∃m',m'<m/\W ůa m' σ' H')/\∀x H',(Ite K a).yld i H x H'->g x σ H' (ŋb { D with nx:=N,ct:=N,bk:=D.nx })):=by
 refine Ăc;rintro i m σ H ⟨rfl,hi,p⟩;have q:=hl i σ H hi p
 by_cases hlt:i<xs.length
 ·refine þc ⟨xs,xs[i],q,by simp[hlt]⟩ (Éc xs.length);obtain⟨T,z,rfl,hT,rfl,y⟩:=y;exact hs i z σ _ T (y xs q) p hT
 ·have e:i=xs.length:=À
  subst e;exact ìb (ő xs q ħ) (hd σ H p)
end L2
namespace L2
open PySem PySem.Spec PyProof.Rows
noncomputable def Pu(te:TE)(σ:St)(H:Hp)(v:V):Prop:=∀(H':Hp) (Q:VK),Ŀd->(∀H'',ħd->Q v H'')->te σ H' Q
noncomputable def PuT(tc:TT)(σ:St)(H:Hp)(b:Bool):Prop:=∀(H':Hp) (Q:Ť Bool),Ŀd->(∀H'',ħd->Q b H'')->tc σ H' Q
theorem DT:PuT YN σ H true:=λH' Q _ q=>q H' ŵ
theorem Same.upd{H H':Hp}{D:Z1}{o:HO}(e:Ŀd)(hD:ē D):ńa (upd H' D o):=λb u q=>Řa (WX q hD) (e b u q)
theorem snw{H:Hp}{D:Z1}{o:HO}(hD:ē D):ńa (L2.upd H D o):=(srf H).upd hD
theorem Same.tup{K:ZC}{H H':Hp}{a:Z1}{xs:ĝ}(e:Ŀd)(h:łb a xs):SqT K H' a xs:=by
 rcases h with(h | ⟨o,h⟩) | h
 ·exact Ė (Ė (e _ _ h))
 ·exact Ė (ūb o (e _ _ h))
 ·exact Ŀ h
theorem X6{J:It}{n:Nat}{σ0:St}{H1:Hp}{D:Z1}{tc:TT}{te:TE}{Q:VK}(Pv:Nat->Ť ĝ)(h0:Pv 0 [] (Ŗc D))
  (hl:∀i ys H',i<=n->Pv i ys H'->Ľb) (hgo:∀i ys H',i<n->Pv i ys H'->J.go i H') (hst:∀ys H',Pv n ys H'->J.stop n H')
  (step:∀i ys H' x H2,i<n->Pv i ys H'->J.yld i H' x H2->tc (Ō x) H2 λb H4=>if b=true then Þa (Ō x) (Pv ůa Ħb Ęb)else Pv ůa ys H4)
  (fin:∀ys H',Pv n ys H'->Ŕ D H') :
  ∃W:Nat->Nat->ĝ->Ť St,(∃m,W 0 m [] σ0 (Ŗc D)) /\ ∀i m ys σ' H',Ïe m->Ľb/\((J.stop i H'/\Ŕ D H')\/(J.go i H'/\∀x H2,J.yld i H' x H2->WV 0 x σ' H2 λσ2 H3=>tc σ2 H3 λb H4 => if b=true then Þa σ2 (∃m',ŭc Ħb σ2 Ęb) else ∃m',ŭc ys σ2 H4)):=by
 refine ëc n (∀x,σ'.set 0 x=Ōb x) (Pv i ys H') ⟨n,Í,WW _,λ_=>rfl,h0⟩;rintro i m ys σ' H' ⟨rfl,hi,es,p⟩;refine ųb (hl i ys H' hi p)
 by_cases hlt:i<n
 ·refine Ìd (hgo i ys H' hlt p);have st:=step i ys H' x H2 hlt p y;show tc (σ'.set 0 äd) H2 _;rw[es];have e1:∀z,(Ō x).set 0 z=Ōb z:=λz=>by rw[List.set_set]
  have e2:∀ys' H5,(∃m',m'<n-i/\m'=n-(ůa)/\ůa<=n/\(∀z,(Ō x).set 0 z=Ōb z)/\Pv ůa ys' H5) ↔ Pv ůa ys' H5:=λys' H5 => ã (λ⟨_,_,_,_,_,q⟩=>q) (λq=>⟨n-(ůa),À,Z,hlt,e1,q⟩)
  simp only[e2];exact st
 ·have e:i=n:=À
  subst e;exact ìb (hst ys H' p) (fin ys H' p)
theorem Q7{α:Type}{K:ZC}{a:Z1}{ms:Æ α}{σ0:St}{H1:Hp}{tc:TT}{te:TE}{Q:VK}(u:α->V)(p:α->Bool)(f:α->V)(hq:SqL K H1 a Įb)(hn:ø ms.length)
  (ht:∀x∈ms,PuT tc (Ō (u x)) H1 (p x)) (he:∀x∈ms,p x=true->Ęd)
  (fin:∀D H',Źd->Ée ((ms.filter p).map f)) :
  Èa Ād tc:=by
 intro D hD;refine X6 (n:=ms.length) (žc (ys=((ms.take i).filter p).map f)) Đd (Ĺd q.2.1) (Ìe ⟨Įb,u ms[i],q.1.seq hq,by simp[hi]⟩) (ðe (ő Įb (q.1.seq hq) Í)) ?_ (ðe ?_)
 ·rintro i ys H' x H2 hi ⟨sm,hDl,hys⟩ ⟨rfl,hy⟩;have hx:(Įb)[i]?=äd:=hy _ ęd;obtain⟨z,hz,rfl⟩:∃z,ms[i]?=Ã z/\u z=x:=by
   rw[ZX]at hx;cases e:ms[i]? with
   |none=>rw[e]at hx;cases hx
   |some z=>rw[e]at hx;exact ő z Z (WC hx)
  have hm:z∈ms:=UF hz;have tk:ms.take ůa=ms.take i++[z]:=by
   rw[List.take_add_one,hz];simp only[Option.toList]
  have hlen:ys.length<=i:=by
   rw[hys,ZD];exact WB (X2 _ _) (by rw[VO];omega)
  refine ht z hm _ _ sm λH4 s4=>?_;cases hp:p z with
  |true =>
   refine Ŧb ?_;refine he z hm hp _ _ (Şa s4) λH5 s5=>⟨ød hDl,À,((Şa s4).trans s5).upd hD,ZI,?_⟩;rw[tk,List.filter_append,W2,<- hys];simp[hp]
  |false =>
   refine ĭb (ő (Şa s4) (s4 _ _ hDl) ?_);rw[tk,List.filter_append,W2,<- hys];simp[hp]
 ·obtain⟨sm,hDl,hys⟩:=q;rw[List.take_length]at hys;exact Đc (by rw[<- hys];exact hDl)
theorem V0{α:Type}{K:ZC}{a:Z1}{ms:Æ α}{σ0:St}{H1:Hp}{te:TE}{Q:VK}(u:α->V)(f:α->V)(hq:SqL K H1 a Įb)(hn:ø ms.length)
  (he:∀x∈ms,Ęd)
  (fin:∀D H',Źd->Ée (ms.map f)) :
  Èa Ād YN :=
 Q7 u řd f hq hn (λ_ _=>DT) (λx hx _=>he x hx) λD H' hD sm e=>Đc (by rw[List.filter_eq_self.mpr Ÿ]at e;exact e)
theorem AR{lo:Int}{n:Nat}{σ0:St}{H1:Hp}{te:TE}{Q:VK}(f:Nat->V)(hn:ø n)
  (he:∀i,i<n->Pu te źd H1 (f i))
  (fin:∀D H',Źd->Ée ((Ĵ n).map f)) :
  Èa (Itr lo n) YN:=by
 intro D hD;refine X6 (n:=n) (žc (ys=(Ĵ i).map f)) Đd (Ĺd q.2.1) (Ìe hi) (ðe ħ) ?_ (ðe ?_)
 ·rintro i ys H' x H2 hi ⟨sm,hDl,hys⟩ ⟨rfl,rfl⟩;unfold YN;refine Ŧb ?_;refine he i hi _ _ sm λH5 s5=>⟨s5 _ _ hDl,?_,(Şa s5).upd hD,ZI,?_⟩
  ·rw[hys,ZD,List.length_range];omega
  ·rw[List.range_succ,W2,<- hys];simp
 ·obtain⟨sm,hDl,hys⟩:=q;exact Đc (by rw[<- hys];exact hDl)
noncomputable def ZK(K:ZC)(mg:Ą)(x:Str)(st:Z6)(ps:ù):Prop:=∃f fd,Fun K x x st f fd/\mg x=Ú f/\Ņb K []
noncomputable def FnAt(P:Z3)(w:Z5)(K:ZC)(mg:Ą)(base:Z8)(k:Nat)(x:Str)(ps:ù)(sp:Sp):Prop :=
 ∃f fd,ūa CX0 k/\mg x=Ú f/\Ũ K f=true/\Ņb K []
theorem fao{P:Z3}{w:Z5}{K:ZC}{mg:Ą}{base:Z8}{k:Nat}{x:Str}{st:Z6}{N ps:ù}{sp:Sp}(D:é x st ps)(S:ä N ps st)(len:∀vs H Q E,Če)
  (hbody:Ă x (Òd x)):Ä (k+1) x ps sp:=by
 obtain⟨f,fd,F,hm,hb⟩:=D;exact⟨f,fd,F.ok S len λcdv A outer s H vs Q E hr h=>öc h,hm,F.kp,hb⟩
noncomputable def tF(sp:Sp)(t:TA):TE:=Šb (λvs H1=>sp vs H1 Q E0)
section
variable {X:Cx}{k:Nat}{x:Str}{ps:ù}{sp:Sp}{e:Z7}{es:Šc}{t:TA}{p pos:Pos}
theorem pe_f(F:FnAt X.prog X.w X.K X.mg X.base k x ps sp)(hr:õc X.A)(ha:Ōc)(hg:ÿe:=by rfl)(hdb:Ķd:=by decide)
  (he:Õ ŀ=(false,í e)::Õ es:=by rfl) (hpl:(ąb).any (·.1)=false:=by rfl):Œ ŋd (tF sp t):=by
 obtain⟨f,fd,F,hm,hk,hb⟩:=F;have q:=Pa (p:=p) (pos:=pos) F hr hg hm hk hb .nil (QS (X:=X)) ha hdb he hpl;have e:LA sp [] E0 t=tF sp t:=by
  unfold LA tF;simp only[List.append_nil]
 rw[e]at q;exact q
theorem pe_b{id:String}{r:ĝ->Ŭa}(hc:YI X (Ţ id) r)(hm:X.mg x=none)(hv:ñc=Ã (Ţ id))(ha:Ōc)(hg:ÿe:=by rfl)(hn:Őb := by decide) (hdb:Ķd:=by decide)
  (he:Õ ŀ=(false,í e)::Õ es:=by rfl) (hpl:(ąb).any (·.1)=false:=by rfl):Œ ŋd (tCB r t):=Lf hc hg hm hv ha hn hdb he hpl
theorem pe_t(hc:YI X (Ŀa T) r)(hm:X.mg x=none)(hv:ñc=Ã (Ŀa T))(ha:Ōc)(hg:ÿe:=by rfl)(hn:Őb := by decide) (hdb:Ķd:=by decide)
  (he:Õ ŀ=(false,í e)::Õ es:=by rfl) (hpl:(ąb).any (·.1)=false:=by rfl):Œ ŋd (tCB r t):=Fe hc hg hm hv ha hn hdb he hpl
theorem V6(hm:X.mg x=none)(hv:ñc=Ã (Ŀa T))(hg:ÿe:=by rfl)(hn:Őb := by decide) (hd:Ķd:=by decide):Œ (Ďc pos) (tC (.ty T)) :=
 Qz hg hm hv rfl hn hd
theorem pg_c(i:Nat)(nd:N'.Nodup)(hi:N'[i]?=Ã y:=by rfl)(hx:(çb).names.lookup y=ēe:=by rfl) :
  PG Ăa (.Name y pos) (WV i):=YQ (X:=Ăa) nd hi (Ė hx) (Ŀ hx)
end
section
variable {X:Cx}
theorem ixL(K:ZC)(hK:X.K=K:=by rfl):IxR X (rIxL K):=by subst hK;exact ZY
theorem ixT(K:ZC)(hK:X.K=K:=by rfl):IxR X (rIxT K):=by subst hK;exact VF
theorem lenK(K:ZC)(hK:X.K=K:=by rfl):ĸ "len" (RLen K xs H Q):=by subst hK;exact Zn
theorem GE(K:ZC)(hK:X.K=K:=by rfl):YI X Ĉb (λxs H Q=>∃p ys,xs=[Ê p]/\(Èb p ys\/łb p ys)/\∀l,ē l->èc l ys):=by subst hK;exact Di
end
theorem Vp(K:ZC):Ű K (Ŀa "int") (Ŀa "int")=Ĥe:=by kernel_rfl
theorem Vo(K:ZC):Ű K (Ŀa "int") (Ŀa "bool")=Ã false:=by kernel_rfl
theorem LS(K:ZC):Ű K Ĉb Ĉb=Ĥe:=by kernel_rfl
theorem FW(K:ZC):Ű K ĥb ĥb=Ĥe:=by kernel_rfl
end L2
namespace L2
open PySem PySem.Spec PyProof.Rows
section
variable {X:Cx}
inductive RAddI(x y:V)(H:Hp)(Q:VK):Prop
 |mk (i j:Int) (h1:x=ïe) (h2:y=ô j) (q:Ðc (i+j)):RAddI x y H Q
noncomputable def Yl:R2:=Äb (RAddI x y H Q)
inductive RSubI(x y:V)(H:Hp)(Q:VK):Prop
 |mk (i j:Int) (h1:x=ïe) (h2:y=ô j) (q:Ðc (i-j)):RSubI x y H Q
noncomputable def Yv:R2:=Äb (RSubI x y H Q)
inductive RMulI(x y:V)(H:Hp)(Q:VK):Prop
 |mk (i j:Int) (h1:x=ïe) (h2:y=ô j) (c:CMul i j) (q:Ðc (i*j)):RMulI x y H Q
noncomputable def Yr:R2:=Äb (RMulI x y H Q)
inductive RModI(x y:V)(H:Hp)(Q:VK):Prop
 |mk (i j:Int) (h1:x=ïe) (h2:y=ô j) (c:0<j) (q:Ðc (i%j)):RModI x y H Q
noncomputable def Yq:R2:=Äb (RModI x y H Q)
inductive RDivI(x y:V)(H:Hp)(Q:VK):Prop
 |mk (i j:Int) (h1:x=ïe) (h2:y=ô j) (c:CDiv i j) (q:Ðc (i/j)):RDivI x y H Q
noncomputable def Yn:R2:=Äb (RDivI x y H Q)
noncomputable def Yt:R2:=Äb (∃i j:Int,x=ïe/\y=ô j/\CPow i j/\Ðc (i ^ j.toNat))
inductive RLtI(x y:V)(H:Hp)(Q:VK):Prop
 |mk (i j:Int) (h1:x=ïe) (h2:y=ô j) (q:ŉb (è (i<j))):RLtI x y H Q
noncomputable def rLtI:R2:=Äb (RLtI x y H Q)
inductive RLeI(x y:V)(H:Hp)(Q:VK):Prop
 |mk (i j:Int) (h1:x=ïe) (h2:y=ô j) (q:ŉb (è (i<=j))):RLeI x y H Q
noncomputable def rLeI:R2:=Äb (RLeI x y H Q)
inductive RGtI(x y:V)(H:Hp)(Q:VK):Prop
 |mk (i j:Int) (h1:x=ïe) (h2:y=ô j) (q:ŉb (è (j<i))):RGtI x y H Q
noncomputable def rGtI:R2:=Äb (RGtI x y H Q)
inductive RGeI(x y:V)(H:Hp)(Q:VK):Prop
 |mk (i j:Int) (h1:x=ïe) (h2:y=ô j) (q:ŉb (è (j<=i))):RGeI x y H Q
noncomputable def rGeI:R2:=Äb (RGeI x y H Q)
noncomputable def Ys:V->Ŭa:=λx H Q=>∃i:Int,x=ïe/\Ðc (-i)
theorem U7:ãa .Add Yl:=λp s σ H x y v u Q I d e ⟨i,j,a,b,q⟩=>Uz p s σ H x y v u Q I d e ⟨i,j,a,b,q⟩
theorem RL:ãa .Sub Yv:=λp s σ H x y v u Q I d e ⟨i,j,a,b,q⟩=>F7 p s σ H x y v u Q I d e ⟨i,j,a,b,q⟩
theorem V5:ãa .Mult Yr:=λp s σ H x y v u Q I d e ⟨i,j,a,b,c,q⟩=>Tr p s σ H x y v u Q I d e ⟨i,j,a,b,c,q⟩
theorem WS:ãa .Mod Yq:=λp s σ H x y v u Q I d e ⟨i,j,a,b,c,q⟩=>Tq p s σ H x y v u Q I d e ⟨i,j,a,b,c,q⟩
theorem YM:ãa .FloorDiv Yn:=λp s σ H x y v u Q I d e ⟨i,j,a,b,c,q⟩=>Oh p s σ H x y v u Q I d e ⟨i,j,a,b,c,q⟩
theorem OD:ãa .Pow Yt:=Tt
theorem o_lt:ķ .Lt rLtI:=λp s σ H x y v u Q I d e ⟨i,j,a,b,q⟩=>GO p s σ H x y v u Q I d e ⟨i,j,a,b,q⟩
theorem o_le:ķ .LtE rLeI:=λp s σ H x y v u Q I d e ⟨i,j,a,b,q⟩=>TK p s σ H x y v u Q I d e ⟨i,j,a,b,q⟩
theorem o_gt:ķ .Gt rGtI:=λp s σ H x y v u Q I d e ⟨i,j,a,b,q⟩=>Yh p s σ H x y v u Q I d e ⟨i,j,a,b,q⟩
theorem o_ge:ķ .GtE rGeI:=λp s σ H x y v u Q I d e ⟨i,j,a,b,q⟩=>Yg p s σ H x y v u Q I d e ⟨i,j,a,b,q⟩
theorem SI:MR X (unaryOp .USub) Ys:=Xq
end
end L2
namespace L2
open PySem PySem.Spec PyProof.Rows
theorem Inv.turnedL{X:Cx}{pins:æ}{σ:St}{H:Hp}{s:Z2}{h':Z8}{t':Nat}{fp:ãb}(I:Ĝ)(hf:∀b∈fp,şa H)
  (k:∀b o,b∉fp->ěd->İa b=ţ):É H { s with heap:=h',toks:=t' }:=by
 have nfp:∀b o,H b=ţ->b∉fp:=λb o q hb=>by have:=ìd;rw[q]at this;cases this
 refine I.step (g':=s.gens) (d':=s.drawn) (ch:=fp) Óa (λb o _ _ hc q _=>k b o hc q) (λb o _ _ hc q _=>ã o.slots (k b o hc q)) (λb o _ _ n=>n) (λb o hc q=>ã o (k b o hc q)) (λb ys q=>q) (λb o u q=>q) (λb ps q=>ã #[] (by rw[q];simp)) (λm hm=>?_) (λb u q=>?_) I.bare
 ·obtain⟨_,f1,_,f3,f4,f5⟩:=hf b hb;exact⟨f3,f1,f4,f5⟩
 ·obtain⟨o,es,ep,ho,r⟩:=hm;exact⟨o,es,ep,k _ o (λz=>(hf _ z).2.1 rfl) ho,r⟩
 ·refine(I.hok b u q).stay (λc v hc w=>k c v ?_ w) (λc w=>w) λc ys w=>w;rcases hc with rfl | hc
  ·exact nfp _ _ q
  ·exact nfp _ _ hc
theorem Inv.sq_ne(I:Ĝ)(h:Ðd a xs)(f:şa H):a≠b:=by
 rintro rfl;rcases h with(h | ⟨o,h⟩) | ⟨o,its,n,hk,_⟩
 ·rw[f.1]at h;cases h
 ·rw[f.1]at h;cases h
 ·have hb:X.base.get? a=ţ:=I.ok.mod.kin a o hk;rcases f.2.2.2.1 with z | z
  ·exact I.ok.noex a o hb z
  ·exact Ëc (W8 (I.ok.bs a o hb).1) z
noncomputable def Itz(K:ZC)(a c:Z1):It :=
 ⟨λi H=>∃xs ys x y,Ūa H/\Èb c ys/\xs[i]?=äd/\ys[i]?=Ã y, λi H v H'=>∃T x y,v=Ê T/\ē T/\H'=Ě H T [x,y]/\(∀xs,Ūa H->xs[i]?=äd)/\∀ys,Èb c ys->ys[i]?=Ã y, λi H=>∃xs ys,Ūa H/\Èb c ys/\(xs.length<=i\/ys.length<=i)⟩
structure ZipAt(h:Z8)(z TI TO i1 i2 l1 l2:Z1)(i:Nat):Prop where
 hz:źa h ħb
 hTI:Łb h
 hTO:∃a b,ďd h
 h1:šd i1 l1
 h2:šd i2 l2
 nd:[z,TI,TO,i1,i2].Nodup
theorem Kf{P:Z3}{w:Z5}{K:ZC}{es:Šc}{k1}{ps:Pos}(a c z TI TO i1 i2:Z1):Turn P w K Ùd (Itz K a c) [z,TI,TO,i1,i2] z (λi h=>ZipAt h z TI TO i1 i2 a c i) where
 mem:=Í
 obj:=Žd (by
  simp only[W9,YH,or_false]at hb;rcases hb with rfl | rfl | rfl | rfl | rfl
  ·exact ő _ st.hz (λv q=>by have q':Data.fields _=ãe:=q;cases q')
  ·exact ő _ st.hTI (λv q=>by have q':Data.seq _ _=ãe:=q;cases q')
  ·obtain⟨x,y,e⟩:=st.hTO;exact ő _ e (λv q=>by have q':Data.seq _ _=ãe:=q;cases q')
  ·obtain⟨o,e,_,d⟩:=st.h1;exact ő o e (λv q=>by rw[d]at q;cases q)
  ·obtain⟨o,e,_,d⟩:=st.h2;exact ő o e (λv q=>by rw[d]at q;cases q))
 keep:=óc (let ⟨x,y,e⟩:=st.hTO;ő x y (k TO Í _ e))
 item:=by
  intro X hP hw hK hc i pins s σ H E I hf st hg;subst hP hw hK;obtain⟨xs,ys,x,y,hq,hq2,hx,hy⟩:=hg;obtain⟨its,rv,p,_⟩:=ĳb;obtain⟨its2,rv2,p2,_⟩:=I.list hq2;obtain⟨u,hu,ru⟩:=rv.get hx;obtain⟨u2,hu2,ru2⟩:=rv2.get hy;obtain⟨ta,tb,hTO⟩:=st.hTO;have nd:=st.nd;simp only[VC,W9,YH,or_false,not_or,List.nodup_nil,and_true,not_false_eq_true]at nd;obtain⟨⟨n1,n2,n3,n4⟩,⟨n5,n6,n7⟩,⟨n8,n9⟩,n10⟩:=nd;have Dz:ZipApart z TI TO i1 i2 a c:=Źb
  refine wpAny_pyNext_zip_item Dz st.hz st.hTI hTO st.h1 st.h2 p.isList p2.isList (x:=u) (y:=u2) (by simpa using hu) (by simpa using hu2) (ąe ?_);refine ža (wpAny_letOwnedTupleGo_zip z1 λh2 hz2 hs2=>?_);have hs2':ĵa z h' h2:=hs2;have zlt:z≠s.heap.objs.size:=WF (W8 st.hz);have fresh:∀b∈[z,TI,TO,i1,i2],b≠s.heap.objs.size:=ěa (by
   simp only[W9,YH,or_false]at hb;rcases hb with rfl | rfl | rfl | rfl | rfl
   ·exact zlt
   ·exact WF (W8 st.hTI)
   ·exact WF (W8 hTO)
   ·obtain⟨o,e,_⟩:=st.h1;exact WF (W8 e)
   ·obtain⟨o,e,_⟩:=st.h2;exact WF (W8 e))
  have hT2:IsPair h2 s.heap.objs.size u u2:=(hs2'.2 _ (ĥ zlt)).trans z5;have st2:ZipAt h2 z TI TO i1 i2 a c ůa:=⟨hz2,(hs2'.2 TI (ĥ n1)).trans (z7 TI _ (ĥ n1) n5 n6 n7 st.hTI),ő _ _ ((hs2'.2 TO (ĥ n2)).trans z2),z3.at λo q=>(hs2'.2 i1 (ĥ n3)).trans q,z4.at λo q=>(hs2'.2 i2 (ĥ n4)).trans q,st.nd⟩;have hfr:ē s.heap.objs.size:=òb ħ;have I2:É (Ě H s.heap.objs.size [x,y]) { s with heap:=h2,toks:=s.toks }:=by
   refine I.tupNew (its:=[u,u2]) hf ħ (λb o hb q=>?_) (by show ø 2;decide) (Ŭb ru (Ŭb ru2 .nil)) hT2 Óa
   ·simp only[W9,YH,or_false,not_or]at hb;exact(hs2'.2 b hb.1).trans (z7 b o hb.1 hb.2.2.1 hb.2.2.2.1 hb.2.2.2.2 q)
   ·simp only[W9,YH,or_false]at hb;rcases hb with rfl | rfl | rfl | rfl | rfl
    ·exact Ņ st2.hz
    ·exact Ņ st2.hTI
    ·obtain⟨_,_,e⟩:=st2.hTO;exact Ņ e
    ·obtain⟨o,e,_⟩:=st2.h1;exact Ņ e
    ·obtain⟨o,e,_⟩:=st2.h2;exact Ņ e
  refine⟨Ê s.heap.objs.size,_,I2,Z,⟨_,x,y,Z,hfr,Z,λzs hz=>ú (I.list_inj hz hq) hx,λzs hz=>ú (I.list_inj hz hq2) hy⟩,st2,Óa⟩;rw[ZP (fresh b hb)];exact ìd
 done:=by
  intro X hP hw hK hc i pins s σ H E I hf st hg;subst hP hw hK;obtain⟨xs,ys,hq,hq2,hend⟩:=hg;obtain⟨its,rv,p,_⟩:=ĳb;obtain⟨its2,rv2,p2,_⟩:=I.list hq2;obtain⟨ta,tb,hTO⟩:=st.hTO;have nd:=st.nd;simp only[VC,W9,YH,or_false,not_or,List.nodup_nil,and_true,not_false_eq_true]at nd;obtain⟨⟨n1,n2,n3,n4⟩,⟨n5,n6,n7⟩,⟨n8,n9⟩,n10⟩:=nd;have Dz:ZipApart z TI TO i1 i2 a c:=Źb
  have l1:=rv.length;have l2:=rv2.length;refine wpAny_pyNext_zip_end Ĵa Dz st.hz st.hTI hTO st.h1 st.h2 p.isList p2.isList (hend.elim (λq=>Ė (by simp;omega)) λq=>Ŀ (by simp;omega)) λh' k=>ã Z (I.turnedL (t':=s.toks) hf λb o hb q=>?_);simp only[W9,YH,or_false,not_or]at hb;exact k b o hb.1 hb.2.2.1 hb.2.2.2.1 hb.2.2.2.2 q
 self:=Ďd (wpAny_pyIter_zip st.hz h)
noncomputable def iZip(K:ZC)(ta:TA):TI:=Źc (∃a c,vs=[œ,Ê c]/\(∃xs,Ūa H1)/\(∃ys,SqL K H1 c ys)/\R (Itz K a c) H1)
theorem Xx{X:Cx}{a b:Z7}{ta:TA}{es:Šc}{k1}{ps p pos:Pos}(hg:Gl X "zip") (hm:X.mg "zip" = none) (ha:PA X [a,b] ta) (hs:Õ [a,b]=[(false,í a),(false,í b)]:=by rfl) (hs2:Õ [b]=[(false,í b)]:=by rfl) :
  PI X Ùd (Ň "zip" [a,b]) (iZip X.K ta):=by
 intro pins s σ H R I h;refine ů boot_zip (λus s1 ⟨vs,H1,I1,r1,q1⟩=>?_) (by rw[hs,hs2]) (by rw[hs2];rfl);obtain⟨a,c,e,⟨xs,hq⟩,⟨ys,hq2⟩,q⟩:=q1;subst e;obtain⟨u,v,rfl,ru,rv⟩:=r1.two;cases ru;cases rv;obtain⟨its,_,pl,_⟩:=I1.list hq;obtain⟨its2,_,pl2,_⟩:=I1.list hq2;refine call_zip_2 pl.isList pl2.isList (ąe (wpAny_pyIter_zip z1 ?_));have I2:É H1 { s1 with heap:=h' }:=I1.kept (t':=s1.toks) z7;refine⟨s1.heap.objs.size+4,[s1.heap.objs.size+4,s1.heap.objs.size+2,s1.heap.objs.size+3,s1.heap.objs.size,s1.heap.objs.size+1],_,_,H1,Z,I2,Kf a c _ _ _ _ _,⟨z1,z2,ő _ _ z3,z4,z5,?_⟩,Óa,q⟩
 ·generalize s1.heap.objs.size=n;show List.Nodup ([n+4,n+2,n+3,n,n+1]:Ŧa);simp
 ·have hb':s1.heap.objs.size<=b:=by
   simp only[W9,YH,or_false]at hb;rcases hb with rfl | rfl | rfl | rfl | rfl
   ·exact Ł
   ·exact Ł
   ·exact Ł
   ·exact ħ
   ·exact Ł
  exact ľa hb'
theorem set2{σ:St}{a b u v:Z9 V}:((((σ.set 0 a).set 1 b).set 0 u).set 1 v)=(σ.set 0 u).set 1 v:=by
 rw[List.set_comm b u (Ç:ũ 1≠0),List.set_set,List.set_set]
theorem Oq{K:ZC}{a:Z1}{xs:ĝ}{σ0:St}{H1:Hp}{D:Z1}{tc:TT}{te:TE}{Q:VK}(Pv:Nat->Ť ĝ)(h0:Pv 0 [] (Ŗc D))
  (hl:∀i ys H',i<=xs.length->Pv i ys H'->Ľb/\Ūa H')
  (step:∀i x ys H' T,xs[i]?=äd->Pv i ys H'->Ďe T->tc ((Ō Ŧd).set 1 äd) (Ě H' T [Ŧd,x]) λb H4 => if b=true then Þa ((Ō Ŧd).set 1 äd) (Pv ůa Ħb Ęb)else Pv ůa ys H4)
  (fin:∀ys H',Pv xs.length ys H'->Ŕ D H') :
  ∃W:Nat->Nat->ĝ->Ť St,(∃m,W 0 m [] σ0 (Ŗc D)) /\ ∀i m ys σ' H',Ïe m->Ľb/\(((Ite K a).stop i H'/\Ŕ D H')\/((Ite K a).go i H'/\∀x H2,(Ite K a).yld i H' x H2->gTup K 2 (V1 (WV 0) (V1 (WV 1) gNil)) x σ' H2 λσ2 H3=>tc σ2 H3 λb H4 => if b=true then Þa σ2 (∃m',ŭc Ħb σ2 Ęb) else ∃m',ŭc ys σ2 H4)):=by
 refine ëc xs.length (∀u v,(σ'.set 0 u).set 1 v=(Ōb u).set 1 v) (Pv i ys H') ⟨xs.length,Í,WW _,Ÿ,h0⟩;rintro i m ys σ' H' ⟨rfl,hi,es,p⟩;obtain⟨hD,hq⟩:=hl i ys H' hi p;refine ųb hD
 by_cases hlt:i<xs.length
 ·refine Ìd ⟨xs,xs[i],hq,by simp[hlt]⟩;obtain⟨T,z,rfl,hT,rfl,y⟩:=y;have st:=step i z ys H' T (y xs hq) p hT;refine Ąa T ZI;rw[es];have e2:∀ys' H5,(∃m',m'<xs.length-i/\m'=xs.length-(ůa)/\ůa<=xs.length/\(∀u v,((((Ō Ŧd).set 1 (Ã z)).set 0 u).set 1 v)=(Ōb u).set 1 v)/\Pv ůa ys' H5) ↔ Pv ůa ys' H5:=λys' H5 => ã (λ⟨_,_,_,_,_,q⟩=>q) (λq=>⟨xs.length-(ůa),À,Z,hlt,λ_ _=>set2,q⟩)
  simp only[e2];exact st
 ·have e:i=xs.length:=À
  subst e;exact ìb (ő xs hq ħ) (fin ys H' p)
theorem BO{K:ZC}{a:Z1}{xs:ĝ}{σ0:St}{H1:Hp}{tc:TT}{te:TE}{Q:VK}(Pv:Z1->Nat->Ť ĝ)(h0:∀D,Źd->Pv D 0 [] (Ŗc D))
  (hl:∀D i ys H',Źd->i<=xs.length->Pv D i ys H'->Ľb/\Ūa H')
  (step:∀D i x ys H' T,Źd->xs[i]?=äd->Pv D i ys H'->Ďe T->tc ((Ō Ŧd).set 1 äd) (Ě H' T [Ŧd,x]) λb H4 => if b=true then Þa ((Ō Ŧd).set 1 äd) (Pv D ůa Ħb Ęb)else Pv D ůa ys H4)
  (fin:∀D ys H',Źd->Pv D xs.length ys H'->Ŕ D H'):U2 (Ite K a) Ěa tc te σ0 H1 Q :=
 λD hD=>Oq (Pv D) (h0 D hD) (λi ys H' hi p=>hl D i ys H' hD hi p) (λi x ys H' T hx p hT=>step D i x ys H' T hD hx p hT) λys H' p=>fin D ys H' hD p
theorem LD{X:Cx}{N':ù}{scope:Scope}{cl:ġa Z1}{C:Z1}{s2:Z2}{H2:Hp}{ex:ãb}{y z:Str}{p1 p2 pos:Pos}{k:Nat}(K:ZC)(hc:èa)(nd:N'.Nodup)(h0:N'[0]?=Ã y:=by rfl)(h1:N'[1]?=Ã z:=by rfl)
  (hy:(çb).names.lookup y=ēe:=by rfl) (hz:(çb).names.lookup z=ēe:=by rfl) (hK:X.K=K:=by rfl) :
  PG Ăa (.Tuple [.Name y p1,.Name z p2] k pos) Ěa:=by
 subst hK;exact P0 (X:=Ăa) hc (XO (YQ (X:=Ăa) nd h0 (Ė hy) (Ŀ hy)) (XO (YQ (X:=Ăa) nd h1 (Ė hz) (Ŀ hz)) P9))
end L2
namespace L2
open PySem PySem.Spec PyProof.Rows
open PySem PySem.Spec PyProof.Rows
theorem Ot{α:Type}{K:ZC}{a:Z1}{σ0:St}{H1:Hp}{te:TE}{Q:VK}(u:α->V){ms:Æ α}(f:α->V)(hq:SqT K H1 a Įb)(hn:ø ms.length)
  (he:∀x∈ms,Ęd)
  (fin:∀D H',Źd->Ée (ms.map f)) :
  Èa (Itt K a) YN:=by
 intro D hD;refine X6 (n:=ms.length) (žc (ys=(ms.take i).map f)) Đd (Ĺd q.2.1) (Ìe ⟨Įb,u ms[i],q.1.tup hq,by simp[hi]⟩) (ðe (ő Įb (q.1.tup hq) Í)) ?_ (ðe ?_)
 ·rintro i ys H' x H2 hi ⟨sm,hDl,hys⟩ ⟨rfl,hy⟩;have hx:=hy _ (sm.tup hq);rw[ZX,Ÿd]at hx;have hx:u ms[i]=x:=WC hx;subst hx;unfold YN;refine Ŧb ?_;refine he ms[i] (YE hi) _ _ sm λH5 s5=>⟨s5 _ _ hDl,?_,(Şa s5).upd hD,ZI,?_⟩
  ·rw[hys,ZD,VO];omega
  ·rw[List.take_add_one,Ÿd,W2,<- hys];rfl
 ·obtain⟨sm,hDl,hys⟩:=q;rw[List.take_length]at hys;exact Đc (by rw[<- hys];exact hDl)
end L2
namespace SrtT
open PySem PySem.W PyProof.Rows
section
variable {O:KeyOrd}{key:Nat->O.α}{N:Nat}{cmp:Nat->Nat->İc (İc Bool)}{s:Z2}
noncomputable def kk(key:Nat->O.α)(p:Ła)(i:Nat):O.α:=key (p.getD i 0)
noncomputable def Up(key:Nat->O.α)(p:Ła)(k:Nat):Prop:=∀i j,i<=j->j<k->Ğd i j
noncomputable def Dn(key:Nat->O.α)(p:Ła)(k:Nat):Prop:=∀i j,i<=j->j<k->Ğd j i
noncomputable def Fair(key:Nat->O.α)(N:Nat)(cmp:Nat->Nat->İc (İc Bool))(s:Z2):Prop:=∀i j C,i<N->j<N->C (O.blt (key i) (key j)) s->cmp i j C s
noncomputable def Pm(N:Nat)(p:Ła):Prop:=p.Perm (List.toArray (Ĵ N))
theorem Pm.size{p:Ła}(h:Pm N p):p.size=N:=by
 have e:=h.size_eq;simpa using e
theorem Pm.lt{p:Ła}(h:Pm N p){i:Nat}(hi:i<N):p.getD i 0<N:=by
 have hz:=h.size;have hip:i<p.size:=À
 have e:p.getD i 0=p[i]:=by simp[Array.getD,hip]
 rw[e];have hm:p[i]∈(Ĵ N):=by
  have h1:=(Array.perm_iff_toList_perm.mp h).mem_iff (a:=p[i]);have h2:p[i]∈p.toList:=Í
  simpa using h1.mp h2
 exact Àc hm
theorem Pm.of{p q:Ła}(h:Pm N p)(e:q.Perm p):Pm N q:=e.trans h
theorem P7(h:p[i]?=q[j]?):Ŭ i=kk key q j:=by
 unfold kk;have e:p.getD i 0=q.getD j 0:=by
  rw[Array.getD_eq_getD_getElem?,Array.getD_eq_getD_getElem?,h]
 rw[e]
theorem GS(ha:a<p.size)(hd:d<=a)(k:Nat) :
  kk key (bubble p a d) k=if k=a-d then Ŭ a else if a-d<k/\k<=a then Ŭ (k-1)else Ŭ k:=by
 have e:=getElem?_bubble ha d hd k;split at e
 ·rename_i h1
  rw[ZH h1];exact P7 e
 ·rename_i h1
  rw[ZE h1];split at e
  ·rename_i h2
   rw[ZH h2];exact P7 e
  ·rename_i h2
   rw[ZE h2];exact P7 e
theorem LT(hj:j<=p.size)(k:Nat):kk key (kas_rev p i j) k=if i<=k/\k<j then Ŭ (i+j-1-k)else Ŭ k:=by
 have e:=getElem?_mirror_all (xs:=p) (i:=i) hj k;split at e
 ·rename_i h1
  rw[ZH h1];exact P7 e
 ·rename_i h1
  rw[ZE h1];exact P7 e
theorem JF{p:Ła}{i j:Nat}(hj:j<=p.size)(he:∀k,i<=k->k<j->Ŭ k=Ŭ (j-1))(k:Nat):kk key (kas_rev p i j) k=Ŭ k:=by
 rw[LT hj]
 by_cases h:i<=k/\k<j
 ·rw[ZH h,he (i+j-1-k) À À,he k h.1 h.2]
 ·rw[ZE h]
theorem ask{α:Type}{p:Ła}{i j:Nat}{k:Bool->KasT α}{Q:İc α}(hf:ŕb)(hp:Pm N p)(hi:i<N)(hj:j<N)
  (h:(k (Ċe i j)).kasWp cmp Q s):(KasT.ask (p.getD i 0) (p.getD j 0) k).kasWp cmp Q s:=hf _ _ _ (hp.lt hi) (hp.lt hj) h
theorem Up.one{p:Ła}:Up key p 1:=λi j hij hj=>by
 have:i=j:=À
 subst this;exact Ųb
theorem Up.more{p:Ła}{n:Nat}(h1:1<=n)(h:Up key p n)(hn:Ğd (n-1) n):Up key p (n+1):=λi j hij hj=>by
 by_cases hjn:j<n
 ·exact h i j hij hjn
 ·have e:j=n:=À
  subst e
  by_cases hi:i=j
  ·subst hi;exact Ųb
  ·exact KeyOrd.kle_trans (h i (j-1) À À) hn
theorem Dn.more{p:Ła}{n:Nat}(h1:1<=n)(h:Dn key p n)(hn:Ğd n (n-1)):Dn key p (n+1):=λi j hij hj=>by
 by_cases hjn:j<n
 ·exact h i j hij hjn
 ·have e:j=n:=À
  subst e
  by_cases hi:i=j
  ·subst hi;exact Ųb
  ·exact KeyOrd.kle_trans hn (h i (j-1) À À)
theorem asc{p:Ła}{Q:İc Nat}(hf:ŕb)(hp:Pm N p):∀f n,1<=n->n+f<=N->Up key p n -> (∀m,n<=m->m<=n+f->Up key p m->(m=n+f\/O.klt (Ŭ m) (Ŭ (m-1)))->Q m s)->(kas_asc p f n).kasWp cmp Q s
 | 0=>λn _ _ hu q=>q n ħ ħ hu ĭa
 |f+1=>λn h1 hN hu q=>by
  refine ask hf hp À À ?_;cases hb:Ċe n (n-1)with
  |true =>
   rw[ŧb];exact q n ħ À hu (Ŀ hb)
  |false =>
   rw[ZE Í];exact asc hf hp f (n+1) À À (hu.more h1 hb) λm a b c d=>q m À À c (d.imp (λz=>À) id)
theorem dsc{Q:İc (Ła×Ġc)}(hf:ŕb):∀f p n q,Pm N p->1<=n->n+f<=N->Dn key p n->q+1<=n->(∀i,n-(q+1)<=i->i<n->Ŭ i=Ŭ (n-1)) -> (∀p' m q',Pm N p'->n<=m->m<=n+f->Dn key p' m->q'+1<=m->(∀i,m-(q'+1)<=i->i<m->kk key p' i=kk key p' (m-1))->Q (p',m,q') s)->(kas_desc f p n q).kasWp cmp Q s
 | 0=>λp n q hp h1 hN hd hq he k=>k p n q hp ħ ħ hd hq he
 |f+1=>λp n q hp h1 hN hd hq he k=>by
  refine ask hf hp À À ?_;have hz:=hp.size;have z0:∀p':Ła,∀i,n+1-(0+1)<=i->i<n+1->kk key p' i=kk key p' (n+1-1):=λp' i a b=>by
   have:i=n:=À
   subst this;rfl
  cases hb:Ċe n (n-1)with
  |true =>
   rw[ŧb];have hle:=KeyOrd.kle_of_klt (O:=O) hb
   by_cases hq0:q>0
   ·rw[ZH hq0];have ea:=JF (key:=key) (p:=p) (i:=n-(q+1)) (j:=n) À he;have hd':Dn key (kas_rev p (n-(q+1)) n) (n+1):=λi j a b=>by
     rw[ea,ea];exact(hd.more h1 hle) i j a b
    exact ÿb 0 (hp.of èe) hd' (z0 _)
   ·rw[ZE hq0];exact ÿb 0 hp (hd.more h1 hle) (z0 _)
  |false =>
   rw[ZE Í];refine ask hf hp À À ?_;cases hb2:Ċe (n-1) n with
   |true =>
    rw[ŧb];exact k p n q hp ħ À hd hq he
   |false =>
    rw[ZE Í];have ex:Ŭ n=Ŭ (n-1):=KeyOrd.kle_antisymm hb2 hb;have hle:Ğd n (n-1):=by rw[ex];exact Ųb
    refine ÿb (q+1) hp (hd.more h1 hle) (λi a b=>?_);show Ŭ i=Ŭ n
    by_cases hi:i=n
    ·rw[hi]
    ·rw[ex];exact he i À À
theorem tl3(hf:ŕb)(hp:Pm N p)(h1:1<=n)(hn:n<=r)(hr:r<=N)(hd:Dn key p n)
  (k:∀m p',Pm N p'->1<=m->m<=r->Up key p' m->Q (m,p') s):(kas_tail3 n r p).kasWp cmp Q s:=by
 unfold kas_tail3;rw[KasT.kasWp_bind];have hz:=hp.size;have hp':Pm N (kas_rev p 0 n):=hp.of èe;refine asc hf hp' (r-n) n h1 À (λi j a b=>?_) λm a b c _=>k m _ hp' À À c;rw[LT À,LT À,ZH À,ZH À];exact hd _ _ À À
theorem GB{n r:Nat}{p:Ła}{Q:İc (Nat×Ła)}(hf:ŕb)(hp:Pm N p)(hn:n+1<=r)(hr:r<=N)(hd:Dn key p (n+1))
  (k:∀m p',Pm N p'->1<=m->m<=r->Up key p' m->Q (m,p') s):(kas_descPart n r p).kasWp cmp Q s:=by
 unfold kas_descPart;rw[KasT.kasWp_bind];refine dsc hf (r-(n+1)) p (n+1) 0 hp À À hd À (λi a b=>?_) λp' m q hp' a b c d e=>?_
 ·have:i=n:=À
  subst this;rfl
 ·have hz:=hp'.size;show(if q>0 then kas_tail3 m r (kas_rev p' (m-(q+1)) m)else kas_tail3 m r p').kasWp cmp Q s
  by_cases hq:q>0
  ·rw[ZH hq];have ea:=JF (key:=key) (p:=p') (i:=m-(q+1)) (j:=m) À e;exact tl3 hf (hp'.of èe) À À hr (λi j x y=>by rw[ea,ea];exact c i j x y) k
  ·rw[ZE hq];exact tl3 hf hp' À À hr c k
theorem cnt{r:Nat}{p:Ła}{Q:İc (Nat×Ła)}(hf:ŕb)(hp:Pm N p)(h1:1<=r)(hr:r<=N)
  (k:∀m p',Pm N p'->1<=m->m<=r->Up key p' m->Q (m,p') s):(kas_count r p).kasWp cmp Q s:=by
 unfold kas_count;rw[KasT.kasWp_bind];have hz:=hp.size;refine asc hf hp (r-1) 1 ħ À Up.one λn a b c d=>?_
 by_cases hn:n=r
 ·rw[ZH (by simpa using hn)];exact k n p hp a À c
 ·rw[ZE (by simpa using hn)];have hlt:O.klt (Ŭ n) (Ŭ (n-1)):=d.resolve_left À
  by_cases hg:n>1
  ·rw[ZH hg];refine ask hf hp À À ?_;cases hb:Ċe 0 (n-1)with
   |true =>
    rw[ŧb];exact k n p hp a À c
   |false =>
    rw[ZE Í];have all:∀i,0<=i->i<n->Ŭ i=Ŭ (n-1):=λi _ hi => KeyOrd.kle_antisymm (c i (n-1) À À) (KeyOrd.kle_trans (show O.kle _ _ from hb) (c 0 i (WW _) hi))
    have ea:=JF (key:=key) (p:=p) (i:=0) (j:=n) À all;refine GB hf (hp.of èe) À hr (λi j x y=>?_) k;rw[ea,ea];refine Dn.more a (λi j x y=>?_) (KeyOrd.kle_of_klt hlt) i j x y;rw[all i À À,all j À y];exact Ųb
  ·rw[ZE hg];have e:n=1:=À
   subst e;refine GB hf hp À hr (Dn.more ħ (λi j x y=>?_) (KeyOrd.kle_of_klt hlt)) k;have:i=j:=À
   subst this;exact Ųb
theorem plc{p:Ła}{k:Nat}{Q:İc Nat}(hf:ŕb)(hp:Pm N p)(hk:k<N)(hu:Up key p k):∀f l r,l<=r->r<=k->r-l<=f->(∀i,i<l->Ğd i k)->(∀i,r<=i->i<k->O.klt (Ŭ k) (Ŭ i)) -> (∀l,l<=k->(∀i,i<l->Ğd i k)->(∀i,l<=i->i<k->O.klt (Ŭ k) (Ŭ i))->Q l s)->(kas_place p k f l r).kasWp cmp Q s
 | 0=>λl r h1 h2 h3 lo hi q=>by
  have:l=r:=À
  subst this;exact q l h2 lo hi
 |f+1=>λl r h1 h2 h3 lo hi q=>by
  unfold kas_place
  by_cases hg:l≥r
  ·rw[ZH hg];have:l=r:=À
   subst this;exact q l h2 lo hi
  ·rw[ZE hg];refine ask hf hp hk À ?_;cases hb:Ċe k ((l+r)/2)with
   |true =>
    rw[ŧb];exact plc hf hp hk hu f l _ À À À lo (λi a b=>KeyOrd.klt_of_klt_of_kle hb (hu _ _ a b)) q
   |false =>
    rw[ZE Í];exact plc hf hp hk hu f _ r À h2 À (λi a=>KeyOrd.kle_trans (hu i ((l+r)/2) À À) (show O.kle _ _ from hb)) hi q
theorem bin{Q:İc Ła}(hf:ŕb):∀f p k,Pm N p->k+f<=N->Up key p k->(∀p',Pm N p'->Up key p' (k+f)->Q p' s)->(kas_bin f p k).kasWp cmp Q s
 | 0=>λp k hp _ hu q=>q p hp hu
 |f+1=>λp k hp hN hu q=>by
  unfold kas_bin;rw[KasT.kasWp_bind];refine plc hf hp À hu k 0 k (WW _) ħ À (λi z=>À) (λi a b=>À) λl hl lo hi=>?_;have hz:=hp.size;refine bin hf f _ (k+1) (hp.of (bubble_perm _ _ _)) À (λi j a b=>?_) λp' hp' hu'=>q p' hp' (ú (show k+(f+1)=k+1+f by omega) hu');rw[GS À À,GS À À,show k-(k-l)=l by omega]
  by_cases i1:i=l
  ·rw[ZH i1]
   by_cases j1:j=l
   ·rw[ZH j1];exact Ųb
   ·rw[ZE j1,ZH À];exact KeyOrd.kle_of_klt (hi _ À À)
  ·rw[ZE i1]
   by_cases i2:l<i/\i<=k
   ·rw[ZH i2,ZE À,ZH À];exact hu _ _ À À
   ·rw[ZE i2]
    by_cases j1:j=l
    ·rw[ZH j1];exact lo _ À
    ·rw[ZE j1]
     by_cases j2:l<j/\j<=k
     ·rw[ZH j2];exact hu _ _ À À
     ·rw[ZE j2];exact hu _ _ a À
theorem srt(hf:ŕb)(h2:1<=N)(q:∀p,Pm N p->Up key p N->Q p s):(kas_sort N).kasWp cmp Q s:=by
 unfold kas_sort;rw[KasT.kasWp_bind];refine cnt hf (Array.Perm.refl _) h2 ħ λm p hp h1 hm hu=>?_;show(if m<N then kas_bin (N-max m 1) p (max m 1)else KasT.ret p).kasWp cmp Q s;have e:max m 1=m:=À
 rw[e]
 by_cases hlt:m<N
 ·rw[ZH hlt];exact bin hf _ _ _ hp À hu λp' a b=>q p' a (by rw[show m+(N-m)=N by omega]at b;exact b)
 ·rw[ZE hlt];have:m=N:=À
  subst this;exact q p hp hu
end
end SrtT
namespace SrtT
open PySem PyProof.Rows
section
open PySem.SeqAt
open PySem.AutoSeq1 (wpAny_loadPart')
open PySem.MeetsSeq PySem.MeetsSeq2 PySem.MeetsSeq3
theorem ints_get:∀{vs:š}{ns:Ċ}{i:Nat},IntsAre vs ns->ďe i->∃t,vs[i]?=Ã (Řd (Ģa i))
 |_,_,i,.nil=>λh=>by simp at h
 |_,_,0,.cons n t r=>λh=>ã t Í
 |_,_,i+1,.cons n t r=>λh=>by
  obtain⟨u,e⟩:=ints_get (i:=i) r (by simpa using h);exact ã u (by simpa using e)
end
section
variable {prog:Z3}{w:Z5}{A:Z4}{E:ģ}{s:Z2}
end
end SrtT
namespace SrtT
open PySem PySem.W PyProof.Rows
noncomputable def outOf(vs:š)(p:Ła):š:=p.toList.map λi=>vs.getD i Value.none
section
variable {prog:Z3}{w:Z5}{A:Z4}{E:ģ}{s:Z2}{O:KeyOrd}{key:Nat->O.α}{vs:š}
noncomputable def Look(prog:Z3)(w:Z5)(A:Z4)(O:KeyOrd)(key:Nat->O.α)(vs:š)(s:Z2):Prop :=
 ∀h':Z8,(∀b o,ěd->İa b=ţ)->∃κ,(2<=vs.length->∀(Q:İc SortKind) (E:ģ),Q κ { s with heap:=h' }->å (keyKind' vs.toArray) Q E { s with heap:=h' }) /\ Fair key vs.length (kas_ask prog w A κ vs) { s with heap:=h' }
theorem Kg{h:Z8}{a:Z1}{n:Nat}(qa:ŧa a=Ã (äa vs.toArray n)):∃m,(h.update a (ĕa #[])).get? a=Ã (äa #[] m):=Ņ (get?_update_seq qa λ_=>#[])
theorem Xb(qa:ą a (äa vs.toArray n)) (hk:∀h':Z8,(∀b o,b≠a->ěd->İa b=ţ) -> ∃κ,(2<=vs.length->∀(Q:İc SortKind) (E:ģ),Q κ { s with heap:=h' }->å (keyKind' vs.toArray) Q E { s with heap:=h' })/\Fair key vs.length (kas_ask prog w A κ vs) { s with heap:=h' }) (h64:vs.length<64)
  (q:∀p,òe->Up key p vs.length->P (.done (.ret ħb)) { s with heap:=sortedHeap s.heap a vs (outOf vs p).toArray }):å (Builtin.«list.sort» (ã [œ] [])) P E s:=by
 have la:a<s.heap.objs.size:=W8 qa;obtain⟨m,q1⟩:=Kg qa;have q6:(((Ŕb a (ĕa #[])).push ņb).push (äa #[] 0)).get? a=Ã (äa #[] m):=đc q1;have keep:∀b o,b≠a->ěd->(((Ŕb a (ĕa #[])).push ņb).push (äa #[] 0)).get? b=ţ:=λb o hb e => đc ((Heap.get?_update_ne _ _ _ _ hb).trans e)
 obtain⟨κ,k1,k2⟩:=hk _ keep;rw[list_sort_plain];refine ZA (listItems_at qa rfl ?_);refine ZA (listUpdate_at qa rfl ?_ (by rw[WZ,sizeLine_eq];omega) (WW _));refine ZA (seqEpoch_at q1 rfl (ZA (wpAny_newTuple ?_ (by show vs.length<=_;rw[sizeLine_eq];omega))));refine ZA (wpAny_newList (êa ?_) (WW _));show å _ P E { s with heap:=(((Ŕb a (ĕa #[])).push ņb).push (äa #[] 0)) };dsimp only;have hout:∀p,òe->((p.map (kas_item (pairsOf vs))).map (·.2))=(outOf vs p).toArray:=Ļ (by
  apply Array.toList_inj.mp;rw[Array.map_map,Array.toList_map];exact Ź (λi _=>by show(kas_item (pairsOf vs) i).2=_;rw[kas_item_eq]))
 have hlen:∀p,òe->(outOf vs p).toArray.size<=sizeLine+1:=Ļ (by
  have z:=hp.size;rw[WZ,outOf,ZD,U5,z,sizeLine_eq];omega)
 by_cases h2:vs.toArray.size<2
 ·rw[ZH h2,ZH h2];rw[WZ]at h2;refine ZA Ôc;rw[StateT.run_pure];refine ZA Ôc;dsimp only;have hp:Pm vs.length (List.toArray (Ĵ vs.length)):=Array.Perm.refl _;have e0:(arrOf (SortSt.mk' general' (vs.toArray.zip vs.toArray) #[] 7 none)).map (·.2)=(outOf vs (List.toArray (Ĵ vs.length))).toArray:=by
   rw[<- hout _ hp];have e:=kas_range (pairsOf vs);rw[pairsOf_size]at e;rw[e];rfl
  rw[e0];refine ZA ÿd;simp only[bne_self_eq_false,Bool.false_eq_true,if_false];refine ZQ (q _ hp λi j a b=>?_);have:i=j:=À
  subst this;exact Ųb
 ·rw[ZE h2,ZE h2];rw[WZ]at h2;refine ZA (k1 À _ _ ?_);refine ZA (ŉd (kat_run (κ:=κ) (Q:=λst s'=>s'={ s with heap:=((Ŕb a (ĕa #[])).push ņb).push (äa #[] 0) } /\ ∃p,òe/\Up key p vs.length/\arrOf st=p.map (kas_item (pairsOf vs))/\failedOf st=none) (G:=λp s'=>s'={ s with heap:=((Ŕb a (ĕa #[])).push ņb).push (äa #[] 0) }/\òe/\Up key p vs.length) rfl À h64 (λp st s' _ a1 a2 a3=>⟨a3.1,p,a3.2.1,a3.2.2,a1,a2⟩) (srt k2 À λp a b=>ő Z a b)) ?_)
  rintro⟨⟨⟩,st⟩ s' ⟨rfl,p,hp,hu,har,hfa⟩;dsimp only;rw[har,hout p hp];refine ZA ÿd;rw[hfa];simp only[bne_self_eq_false,Bool.false_eq_true,if_false];exact ZQ (q p hp hu)
theorem sortedBy(hl:s.heap.IsList l vs.toArray)(hk:Look prog w A.in1.in1 O key vs s)(h64:vs.length<64)
  (q:∀p,òe->Up key p vs.length->Ŕ Ýd { s with heap:=sortedAll s.heap vs (outOf vs p).toArray }):Øc (call (Ţ "sorted") [Ê l]):=by
 refine Ōa;unfold Builtin.«sorted»;refine ZA (m:=checkCount "sorted" 1 1 _) (ZQ (ZA (collect_list hl (ZA (wpAny_newList ?_ (by rw[sizeLine_eq];omega))) (by rw[sizeLine_eq];omega))));have z1:Íc ((Ûa (äa #[] 0)).update s.heap.objs.size (Obj.mapSeq (· ++ vs.toArray)))=Ýd:=by rw[Heap.size_update,size_push']
 have q1:(((Ûa (äa #[] 0)).update s.heap.objs.size (Obj.mapSeq (· ++ vs.toArray))).push (äa vs.toArray 0)).get? Ýd=Ã (äa vs.toArray 0):=by
  rw[<- z1];exact Ĩa
 have keep:∀b o,ěd->(((Ûa (äa #[] 0)).update s.heap.objs.size (Obj.mapSeq (· ++ vs.toArray))).push (äa vs.toArray 0)).get? b=ţ:=λb o e=>by
  have hlt:b<s.heap.objs.size:=W8 e;have n0:b≠s.heap.objs.size:=WF hlt;rw[Îe (by rw[z1];exact WF (Nat.lt_succ_of_lt hlt)),Heap.get?_update_ne _ _ _ _ n0,Îe n0];exact e
 show ā _ { s with heap:=(((Ûa (äa #[] 0)).update s.heap.objs.size (Obj.mapSeq (· ++ vs.toArray))).push (äa vs.toArray 0)) };rw[z1];refine ZA (êa (ļa slot_list_sort (Àe q1) entry_list_sort (Xb (key:=key) q1 (λh' k=>hk h' λb o e=>k b o (WF (Nat.lt_succ_of_lt (W8 e))) (keep b o e)) h64 λp a b=>ža (ZQ (ža (q p a b)))) (args_list_sort _)))
end
theorem EN:∀a:Ċ,āe a a=false
 | []=>rfl
 |x::xs=>by rw[HT.lexLt_cons,ŧb,EN xs]
theorem GU:∀a b c:Ċ,āe a b=true->āe b c=true->āe a c=true
 | [],[],_=>λh _=>by simp[HT.lexLt_nil_nil]at h
 | [],_::_,[]=>λ_ h=>by simp[HT.lexLt_cons_nil]at h
 | [],_::_,_::_=>Ÿ
 |_::_,[],_=>λh _=>by simp[HT.lexLt_cons_nil]at h
 |_::_,_::_,[]=>λ_ h=>by simp[HT.lexLt_cons_nil]at h
 |x::xs,y::ys,z::zs=>λh1 h2=>by
  rw[HT.lexLt_cons]at h1 h2 ⊢
  by_cases e1:x=y
  ·subst e1;rw[ŧb]at h1
   by_cases e2:x=z
   ·rw[ZH e2]at h2 ⊢;exact GU xs ys zs h1 h2
   ·rw[ZE e2]at h2 ⊢;exact h2
  ·rw[ZE e1]at h1
   by_cases e2:y=z
   ·subst e2;rw[ZE e1];exact h1
   ·rw[ZE e2]at h2;have a1:=ġ h1;have a2:=ġ h2;rw[ZE À];exact ZS À
theorem GT:∀a b c:Ċ,āe a c=true->āe a b=true\/āe b c=true
 | [],[],[]=>λh=>by simp[HT.lexLt_nil_nil]at h
 | [],[],_::_=>λ_=>ôe
 | [],_::_,_=>λ_=>ĭa
 |_::_,_,[]=>λh=>by simp[HT.lexLt_cons_nil]at h
 |_::_,[],_::_=>λ_=>ôe
 |x::xs,y::ys,z::zs=>λh=>by
  rw[HT.lexLt_cons]at h;rw[HT.lexLt_cons,HT.lexLt_cons]
  by_cases e:x=z
  ·subst e;rw[ŧb]at h
   by_cases e1:x=y
   ·subst e1;rw[ŧb,ŧb];exact GT xs ys zs h
   ·rw[ZE e1,ZE (ĥ e1)];simp only[decide_eq_true_eq];omega
  ·rw[ZE e]at h;have h:=ġ h
   by_cases e1:x=y
   ·subst e1;rw[ZE e];exact Ŀ (ZS h)
   ·rw[ZE e1]
    by_cases h2:x<y
    ·exact Ė (ZS h2)
    ·right;rw[ZE À];exact ZS À
theorem EO:∀a b:Ċ,āe a b=false->āe b a=false->a=b
 | [],[]=>Ÿ
 | [],_::_=>λh _=>by simp[HT.lexLt_nil_cons]at h
 |_::_,[]=>λ_ h=>by simp[HT.lexLt_nil_cons]at h
 |x::xs,y::ys=>λh1 h2=>by
  rw[HT.lexLt_cons]at h1 h2
  by_cases e:x=y
  ·subst e;rw[ŧb]at h1 h2;rw[EO xs ys h1 h2]
  ·rw[ZE e]at h1;rw[ZE (ĥ e)]at h2;have a1:=of_decide_eq_false h1;have a2:=of_decide_eq_false h2;omega
noncomputable def lexO:KeyOrd:=⟨Ċ,HT.lexLt,EN,GU,GT,EO⟩
end SrtT
namespace L2
open PySem PySem.Spec PyProof.Rows
section
variable {X:Cx}
noncomputable def mvd{α:Type}(xs:Æ α)(d:α)(p:Ła):Æ α:=p.toList.map λi=>xs.getD i d
theorem JB{α:Type}{xs:Æ α}{i:Nat}{d:α}(h:i<xs.length):xs.getD i d=xs[i]:=by simp[h]
theorem CA{xs:ĝ}{us:š}(r:Ŝa xs):∀is:Ŧa,(∀i∈is,i<xs.length)->Vals (is.map λi=>xs.getD i .non) (is.map λi=>us.getD i Value.none)
 | []=>λ_=>.nil
 |i::is=>λh=>by
  refine Ŭb ?_ (CA r is λj hj=>h j (by simp[hj]));have hi:=h i Í;obtain⟨u,e,ru⟩:=r.get (i:=i) (x:=xs[i]) (by simp[hi]);have e2:us.getD i Value.none=u:=by rw[WY,e];rfl
  show RelV (xs.getD i .non) (us.getD i Value.none);rw[JB hi,e2];exact ru
end
end L2
namespace SrtT
open PySem PySem.W PyProof.Rows
section
variable {prog:Z3}{w:Z5}{A:Z4}{E:ģ}{s:Z2}
theorem lexK:∀{xs ys:š}{ns ms:Ċ} (fin:Bool) (i:Nat),IntsAre xs ns->IntsAre ys ms->(fin=true ↔ ns.length<ms.length)->Q (āe ns ms) s->KatLex prog w A b fin Q (xs.zip ys) i s
 |_,_,_,_,fin,i,.nil,.nil=>λhf q=>by
  have:fin=false:=by
   cases fin with
   |false=>rfl
   |true=>simp at hf
  subst this;exact kat_nil q
 |_,_,_,_,fin,i,.nil,.cons m t r=>λhf q=>by
  have:fin=true:=hf.mpr Í;subst this;exact kat_nil q
 |_,_,_,_,fin,i,.cons m t r,.nil=>λhf q=>by
  have:fin=false:=by
   cases fin with
   |false=>rfl
   |true=>simp at hf
  subst this;exact kat_nil q
 |_,_,_,_,fin,i,.cons n t r,.cons m u r'=>λhf q=>by
  rw[HT.lexLt_cons]at q;refine kat_cons (wpAny_eqBool_int ?_)
  by_cases e:n=m
  ·subst e;rw[ŧb]at q;rw[show(n==n)=true by simp];exact kat_yes (lexK fin ůa r r' (by simpa using hf) q)
  ·rw[ZE e]at q;rw[show Ķb (n==m) by simp[e]];refine kat_no ?_;cases b&&i==0 with
   |true=>exact oneLt_int q
   |false=>exact kat_one _ _ (lt_int q)
end
end SrtT
namespace L2
open PySem PySem.Spec PyProof.Rows
section
variable {X:Cx}
theorem EW:∀{vs fs:š},vs.length=fs.length->(∀i,i<vs.length->∃a o xs n,vs.getD i Value.none=œ/\őd a/\o.cls=ĥb /\ o.data=.seq xs n/\xs[0]?=Ã (fs.getD i Value.none))->PySem.W.KatTups h vs fs
 | [],[],_,_=>.nil
 |v::vs,f::fs,hl,hg=>by
  obtain⟨a,o,xs,n,e1,e2,e3,e4,e5⟩:=hg 0 Í;have e1:v=œ:=by simpa using e1
  subst e1;refine .cons e2 e3 e4 (by simpa using e5) (EW (by simpa using hl) λi hi=>?_);simpa using hg ůa (by simpa using hi)
theorem Dk(hu:če 64):ĸ "sorted" (∃(a:Z1) (rs:ċ Z1 Ċ),xs=[œ]/\Ðd a (rs.map λr=>Ŷ r.1)/\rs.length<64/\(∀r∈rs,SqT X.K H r.1 (r.2.map V.int)/\0<r.2.length) /\ ∀(D:Z1) (rs':ċ Z1 Ċ),ē D->rs'.Perm rs->rs'.Pairwise (λr q=>āe q.2 r.2=false)->èc D (rs'.map λr=>Ŷ r.1)):=by
 intro pins s σ H xs us Q I rv h;obtain⟨a,rs,rfl,hq,h64,hrs,q⟩:=h;obtain⟨u,rfl,ru⟩:=rv.one;cases ru;obtain⟨its,r,pl,hz⟩:=ĳb;have hlen:its.length=rs.length:=by rw[<- r.length,ZD]
 have hat:∀i,i<rs.length->its.getD i Value.none=Ê (rs.getD i (0,[])).1:=λi hi=>by
  obtain⟨v,e,rv⟩:=r.get (i:=i) (x:=Ê rs[i].1) (by simp[hi]);cases rv;rw[WY,e,JB hi];rfl
 have hrow:∀i,i<rs.length->∃vs,IsTup s.heap (rs.getD i (0,[])).1 vs.toArray/\IntsAre vs (rs.getD i (0,[])).2/\0<vs.length:=λi hi=>by
  rw[JB hi];obtain⟨h1,h2⟩:=hrs rs[i] (YE hi);obtain⟨vs,r1,p1,_⟩:=I.tuple h1;exact⟨vs,p1,PP r1,by rw[<- r1.length,ZD];exact h2⟩
 refine SrtT.sortedBy (O:=SrtT.lexO) (key:=λi=>(rs.getD i (0,[])).2) pl.isList (λh' k=>ő (tuples' (Value.type "int" != Value.type "tuple")) (λh2 Q' E' q'=>?_) (λi j C hi hj c=>?_)) À λp hp hup=>?_
 ·have hf:∀i,∃f:Z0,i<rs.length->∃t,f=Řd ((rs.getD i (0,[])).2.getD 0 0)/\∃a o xs n,its.getD i Value.none=œ/\İa a=ţ/\o.cls=ĥb /\ o.data=.seq xs n/\xs[0]?=Ã f:=λi=>by
   by_cases hi:i<rs.length
   ·obtain⟨vs,⟨o,e1,e2,n,e3⟩,i2,l2⟩:=hrow i hi;obtain⟨t,e4⟩:=SrtT.ints_get (i:=0) i2 (by rw[<- i2.length];exact l2);exact Ņ (λ_=>⟨t,Z,_,o,_,n,hat i hi,k _ _ e1,e2,e3,by simpa using e4⟩)
   ·exact ã ħb (λz=>ń z hi)
  let fs:=(Ĵ rs.length).map λi=>Classical.choose (hf i)
  have hfs:∀i,i<rs.length->fs.getD i Value.none=Classical.choose (hf i):=λi hi=>by simp[fs,hi]
  refine PySem.W.kat_kind (vs:=its) (fs:=fs) (T:=Ŀa "int") (EW (by simp[fs,hlen]) λi hi=>?_) (by simp[fs];omega) (λv hv=>?_) (by rfl) q'
  ·rw[hfs i À];obtain⟨t,_,z⟩:=Classical.choose_spec (hf i) À;exact z
  ·obtain⟨i,hi,rfl⟩:=Áb hv;obtain⟨t,e,_⟩:=Classical.choose_spec (hf i) (Àc hi);rw[e];exact .of_pure rfl
 ·unfold PySem.W.kas_ask;rw[hat i À,hat j À];obtain⟨vi,⟨o1,a1,b1,n1,c1⟩,ii,_⟩:=hrow i À;obtain⟨vj,⟨o2,a2,b2,n2,c2⟩,ij,_⟩:=hrow j À;refine PySem.W.kat_lt (k _ _ a1) c1 (k _ _ a2) c2 (SrtT.lexK _ 0 (by simpa using ii) (by simpa using ij) ?_ c);rw[decide_eq_true_eq,WZ,WZ,ii.length,ij.length]
 ·rw[hlen]at hp hup;have hin:∀i∈p.toList,i<rs.length:=λi hi=>by
   obtain⟨k,hk,rfl⟩:=List.getElem_of_mem hi;rw[U5,hp.size]at hk;have e:=hp.lt hk;simpa [Array.getD,hp.size,hk]using e
  obtain⟨e,he⟩:=sortedAll_at s.heap its (SrtT.outOf its p).toArray;refine⟨Ê _,_,I.laid (t':=s.toks) (o:=.lst ((mvd rs (0,[]) p).map λr=>Ŷ r.1)) (λb o=>sortedAll_old) Æc ⟨?_,SrtT.outOf its p,e,?_,he⟩,Z,q _ (mvd rs (0,[]) p) (òb Æc) ?_ ?_⟩
  ·rw[ZD,mvd,ZD,U5,hp.size,sizeLine_eq];omega
  ·have hv:=CA r p.toList (λi hi=>by rw[ZD];exact hin i hi);unfold SrtT.outOf mvd;rw[W7];refine cast (ęb (λz=>Vals z _) (Ź (λi hi=>?_))) hv;have:=hin i hi;simp[this]
  ·have h1:=(Array.perm_iff_toList_perm.mp hp).map λi=>rs.getD i (0,[]);have h2:(Ĵ rs.length).map (λi=>rs.getD i (0,[]))=rs:=by
    apply List.ext_getElem Í;intro i a b;simp[b]
   unfold mvd;rw[show(List.toArray (Ĵ rs.length)).toList=Ĵ rs.length from rfl,h2]at h1;exact h1
  ·rw[List.pairwise_iff_getElem];intro i j hi hj hij;unfold mvd at hi hj ⊢;rw[ZD,U5,hp.size]at hi hj;have:=hup i j À hj;unfold SrtT.kk at this;simp[Array.getD,hp.size,hi,hj]at this ⊢;exact this
end
end L2
namespace L2
open PySem PySem.Spec PyProof.Rows
theorem BQ{α:Type}{J:It}{ms:Æ α}{σ0:St}{H1:Hp}{te:TE}{Q:VK}(u:α->V)(o:α->HO)(hn:ms.length<=1000)
  (hgo:∀i H',i<ms.length->ç H1->J.go i H') (hst:∀H',ç H1->J.stop ms.length H') (hy:∀i H' x H2 (h:i<ms.length),ç H1->J.yld i H' x H2->H2=H'/\x=u ms[i])
  (he:∀x∈ms,∀(H':Hp) (Q':VK),ç H1->(∀l H'',Ďe l->ħd->H'' l=Ã (o x)->Q' (Ê l) H'')->Čd x)
  (fin:∀(D:Z1) (qs:ċ Z1 α) (H':Hp),Źd->Õb (·.2)=ms->Çe (Õb (·.1))->(∀q∈qs,H' q.1=Ã (o q.2)/\œa q.1/\q.1≠D)->Ée ņa) :
  Èa J YN:=by
 intro D hD;refine X6 (n:=ms.length) (λi ys H'=>∃qs:ċ Z1 α,ç H1/\Ľb/\ys=(ņa)/\Õb (·.2)=ms.take i/\Çe (Õb (·.1))/\∀q∈qs,H' q.1=Ã (o q.2)/\œa q.1/\q.1≠D) ⟨[],snw hD,ZI,Z,Í,List.nodup_nil,λq hq=>nomatch hq⟩ (λi ys H' _ ⟨_,_,e,_⟩=>e) (λi ys H' hi ⟨_,sm,_⟩=>hgo i H' hi sm) (λys H' ⟨_,sm,_⟩=>hst H' sm) ?_ (λys H' h=>?_)
 ·rintro i ys H' x H2 hi ⟨qs,sm,hDl,hys,hqm,hnd,hq⟩ y;obtain⟨rfl,rfl⟩:=hy i H' x H2 hi sm y;unfold YN;refine Ŧb (he ms[i] (YE hi) _ _ sm λl H5 hl s5 el=>?_);have nlD:D≠l:=WX hDl hl;have ql:qs.length=i:=by
   have:=õ hqm;rw[ZD,VO]at this;omega
  refine⟨s5 _ _ hDl,?_,qs++[(l,ms[i])],(Şa s5).upd hD,ZI,?_,?_,?_,?_⟩
  ·rw[hys,ZD,ql];exact UB À
  ·rw[hys,W2];rfl
  ·rw[W2,hqm,List.take_add_one,Ÿd];rfl
  ·rw[W2,List.nodup_append];refine ő hnd Í (λa ha b hb e=>?_);obtain⟨q,hq1,rfl⟩:=Áb ha;have hb:b=l:=by simpa using hb
   subst hb;have:=(hq q hq1).1;rw[e,hl]at this;cases this
  ·intro q hq1;rcases ũd hq1 with z | z
   ·obtain⟨z1,z2,z3⟩:=hq q z;exact ő (Řa z3 (s5 _ _ z1)) z2 z3
   ·have:q=(l,ms[i]):=by simpa using z
    subst this;exact ő (Řa (ĥ nlD) el) (sm.free hl) (ĥ nlD)
 ·obtain⟨qs,sm,hDl,hys,hqm,hnd,hq⟩:=h;rw[List.take_length]at hqm;exact fin D qs H' hD hqm hnd hq sm (by rw[<- hys];exact hDl)
theorem IK{α:Type}{K:ZC}{a:Z1}{ms:Æ α}{σ0:St}{H1:Hp}{te:TE}{Q:VK}(u:α->V)(o:α->HO)(hq:SqL K H1 a Įb)(hn:ms.length<=1000)
  (he:∀x∈ms,∀(H':Hp) (Q':VK),ç H1->(∀l H'',Ďe l->ħd->H'' l=Ã (o x)->Q' (Ê l) H'')->Čd x)
  (fin:∀(D:Z1) (qs:ċ Z1 α) (H':Hp),Źd->Õb (·.2)=ms->Çe (Õb (·.1))->(∀q∈qs,H' q.1=Ã (o q.2)/\œa q.1/\q.1≠D)->Ée ņa) :
  Èa Ād YN :=
 BQ u o hn (λi H' hi sm=>⟨Įb,u ms[i],ęd,by simp[hi]⟩) (λH' sm=>ő Įb ęd Í) (λi H' x H2 hi sm y=>ã y.1 (by
  have:=y.2 _ ęd;rw[ZX,Ÿd]at this
  exact(WC this).symm)) he fin
theorem Ey{lo:Int}{n:Nat}{σ0:St}{H1:Hp}{te:TE}{Q:VK}(o:Nat->HO)(hn:n<=1000)
  (he:∀i,i<n->∀(H':Hp) (Q':VK),ç H1->(∀l H'',Ďe l->ħd->H'' l=Ã (o i)->Q' (Ê l) H'')->te źd H' Q')
  (fin:∀(D:Z1) (qs:ċ Z1 Nat) (H':Hp),Źd->Õb (·.2)=Ĵ n->Çe (Õb (·.1))->(∀q∈qs,H' q.1=Ã (o q.2)/\œa q.1/\q.1≠D)->Ée ņa) :
  Èa (Itr lo n) YN :=
 BQ (ms:=Ĵ n) (λi=>ô (lo+i)) o (by simpa using hn) (λi H' hi sm=>by show i<n;simpa using hi) (λH' sm=>by show n<=_;simp) (λi H' x H2 hi sm y=>ã y.1 (by rw[y.2,List.getElem_range])) (λx hx=>he x (Àc hx)) fin
section
variable {X:Cx}
end
end L2
namespace L2
open PySem PySem.Spec PyProof.Rows
mutual
inductive RdS(S:ãb)(H:Hp):Û V PyData
 |non:RdS S H .non ħb
 |bl (b:Bool):RdS S H (.bl b) (.bool b)
 |int (i:Int):RdS S H ïe ïe
 |str (x:Str):RdS S H íd íd
 |lst {a:Z1}{xs:ĝ}{ds:Æ PyData}:H a=Ù xs->a∉S->RdSs S H xs ds->RdS S H œ (.list ds)
 |tup {a:Z1}{xs:ĝ}{ds:Æ PyData}:H a=Ĥ xs->a∉S->RdSs S H xs ds->RdS S H œ (.tuple ds)
 |dct {a:Z1}:H a=Ã (.dK [])->a∉S->RdS S H œ (.dict [])
inductive RdSs(S:ãb)(H:Hp):Û ĝ (Æ PyData)
 |nil:RdSs S H [] []
 |cons {x:V}{d:PyData}{xs:ĝ}{ds:Æ PyData}:RdS S H x d->RdSs S H xs ds->RdSs S H (x::xs) (d::ds)
end
mutual
theorem RdS.move{S S':ãb}{H H':Hp}(k:∀b o,b∉S->H b=ţ->H' b=ţ)(ss:∀b,b∉S->b∉S'):∀{x:V}{d:PyData},RdS S H x d->RdS S' H' x d
 |_,_,.non=>.non
 |_,_,.bl b=>.bl b
 |_,_,.int i=>ïe
 |_,_,.str x=>íd
 |_,_,.lst e n r=>.lst (k _ _ n e) (ss _ n) (RdSs.move k ss r)
 |_,_,.tup e n r=>.tup (k _ _ n e) (ss _ n) (RdSs.move k ss r)
 |_,_,.dct e n=>.dct (k _ _ n e) (ss _ n)
theorem RdSs.move{S S':ãb}{H H':Hp}(k:∀b o,b∉S->H b=ţ->H' b=ţ)(ss:∀b,b∉S->b∉S'):∀{xs:ĝ}{ds:Æ PyData},RdSs S H xs ds->RdSs S' H' xs ds
 |_,_,.nil=>.nil
 |_,_,.cons h t=>Ŭb (RdS.move k ss h) (RdSs.move k ss t)
end
noncomputable def tyD:PyData->String
 | .none => "NoneType"
 | .bool _ => "bool"
 | .int _ => "int"
 | .str _ => "str"
 | .list _ => "list"
 | .tuple _ => "tuple"
 | .dict _ => "dict"
theorem RdS.ty{S:ãb}{H:Hp}{K:ZC}:∀{x:V}{d:PyData},RdS S H x d->éd x (tyD d)
 |_,_,.non=>.non
 |_,_,.bl b=>.bl b
 |_,_,.int i=>ïe
 |_,_,.str x=>íd
 |_,_,.lst e _ _=>.lst e
 |_,_,.tup e _ _=>.tup e
 |_,_,.dct e _=>.dK e
section
variable {P:Z3}{w:Z5}{H:Hp}{h:Z8}{S:ãb}
theorem dict_empty(ok:æb)(e:H a=Ã (.dK [])):ſ a/\∃o n,őd a/\o.cls=Ŀa "dict" /\ o.data=.dict #[] n:=by
 obtain⟨_,y,vs,r,o,es,ep,e1,c,d,_,pr,_⟩:=(show Ńa a (.dK []) from ok a _ e);cases r;have hl:es.toList.length=0:=pr.length;have he:es = #[]:=by
  cases es with
  |mk l =>
   have:l=[]:=Ğb hl;rw[this]
 rw[he]at d;exact⟨y,o,ep,e1,c.1,d⟩
end
open PySem PySem.Spec PyProof.Rows
section
variable {X:Cx}
theorem Inv.big(I:Ĝ):sysModules<s.heap.objs.size:=by
 have h:mainGlobals<s.heap.objs.size:=(I.mod.glob.keeps I.bk).lt;exact Nat.lt_trans Ç h
end
end L2
namespace L2
open PySem PySem.Spec PyProof.Rows
theorem NZ(hc:èa):ĸ "sum" (∃(p:Z1) (ns:Ċ),xs=[Ê p]/\Ðd p Æa/\Ðc ns.sum):=by
 intro pins s σ H xs us Q I rv h;obtain⟨p,ns,rfl,hq,q⟩:=h;obtain⟨u,rfl,ru⟩:=rv.one;cases ru;obtain⟨its,r,pl,_⟩:=ĳb;have hi:=PP r;obtain⟨ys,e⟩:=hi.allInts.items;have hl:=pl.isList;have en:ns=ys.toList.map (·.1):=by
  have e1:=hi.numsOf;have e2:=nums_intItems ys;rw[<- e]at e2;exact e1.symm.trans e2
 have es:preSum (numAt ys) ys.size=ns.sum:=by
  rw[preSum_eq,QG Í,en]
 rw[e]at hl;refine sum_intListG Ĵa hl λh' tk t' hk=>?_;rw[es];exact⟨ô _,H,I.kept hk,Ôe,q⟩
theorem Km(hc:èa):ĸ "min" (∃(p:Z1) (ns:Ċ),xs=[Ê p]/\Ðd p Æa/\ďe 0/\∀M,M∈ns->(∀a∈ns,M<=a)->Ðc M):=by
 intro pins s σ H xs us Q I rv h;obtain⟨p,ns,rfl,hq,hne,q⟩:=h;obtain⟨u,rfl,ru⟩:=rv.one;cases ru;obtain⟨its,r,pl,_⟩:=ĳb;have hi:=PP r;obtain⟨ys,e⟩:=hi.allInts.items;have hl:=pl.isList;have en:ns=ys.toList.map (·.1):=by
  have e1:=hi.numsOf;have e2:=nums_intItems ys;rw[<- e]at e2;exact e1.symm.trans e2
 have lz:ys.size=ns.length:=by rw[en];simp
 rw[e]at hl;refine min_intList Ĵa hl À λv h' tk hv hk=>?_;obtain⟨t,rfl⟩:=intItems_at hv;obtain⟨b1,b2⟩:=argBest_lt (numAt ys) (ys.size-1);refine⟨ô _,H,I.kept hk,Ôe,q _ ?_ λa ha=>?_⟩
 ·rw[en,numAt_eq];exact getD_mem (by rw[ZD,U5];omega)
 ·rw[en]at ha;obtain⟨j,hj,rfl⟩:=mem_getD ha;rw[ZD,U5]at hj;have:=b2 j À;rw[numAt_eq ys j]at this;exact this
theorem DM{α:Type}{K:ZC}{a:Z1}{ms:Æ α}{σ0:St}{H1:Hp}{tc:TT}{te:TE}{Q:VK}(u:α->V)(p:α->Bool)(f:α->V)(hq:SqT K H1 a Įb)(hn:ø ms.length)
  (ht:∀x∈ms,PuT tc (Ō (u x)) H1 (p x)) (he:∀x∈ms,p x=true->Ęd)
  (fin:∀D H',Źd->Ée ((ms.filter p).map f)) :
  Èa (Itt K a) tc:=by
 intro D hD;refine X6 (n:=ms.length) (žc (ys=((ms.take i).filter p).map f)) Đd (Ĺd q.2.1) (Ìe ⟨Įb,u ms[i],q.1.tup hq,by simp[hi]⟩) (ðe (ő Įb (q.1.tup hq) Í)) ?_ (ðe ?_)
 ·rintro i ys H' x H2 hi ⟨sm,hDl,hys⟩ ⟨rfl,hy⟩;have hx:(Įb)[i]?=äd:=hy _ (sm.tup hq);obtain⟨z,hz,rfl⟩:∃z,ms[i]?=Ã z/\u z=x:=by
   rw[ZX]at hx;cases e:ms[i]? with
   |none=>rw[e]at hx;cases hx
   |some z=>rw[e]at hx;exact ő z Z (WC hx)
  have hm:z∈ms:=UF hz;have tk:ms.take ůa=ms.take i++[z]:=by
   rw[List.take_add_one,hz];simp only[Option.toList]
  have hlen:ys.length<=i:=by
   rw[hys,ZD];exact WB (X2 _ _) (by rw[VO];omega)
  refine ht z hm _ _ sm λH4 s4=>?_;cases hp:p z with
  |true =>
   refine Ŧb ?_;refine he z hm hp _ _ (Şa s4) λH5 s5=>⟨ød hDl,À,((Şa s4).trans s5).upd hD,ZI,?_⟩;rw[tk,List.filter_append,W2,<- hys];simp[hp]
  |false =>
   refine ĭb (ő (Şa s4) (s4 _ _ hDl) ?_);rw[tk,List.filter_append,W2,<- hys];simp[hp]
 ·obtain⟨sm,hDl,hys⟩:=q;rw[List.take_length]at hys;exact Đc (by rw[<- hys];exact hDl)
end L2
namespace L2
open PySem PySem.Spec PyProof.Rows PySem.Calls
theorem Ia:typeLookup (Ŀa "list_reverseiterator") "__len__" = pure none:=by
 rw[typeLookup_type,builtinLookup_eq_fast];kernel_rfl
theorem Jz:typeLookup (Ŀa "list_reverseiterator") "__length_hint__" = pure (Ã (Ţ "list_reverseiterator.__length_hint__")):=by
 rw[typeLookup_type,builtinLookup_eq_fast];kernel_rfl
section
variable {prog:Z3}{w:Z5}{A:Z4}{E:ģ}{s:Z2}
theorem Nk(hT:s.TypeIs (Ê r) "list_reverseiterator") (h:Q false s):Øc (Builtin.List.listLengthHint (Ê r)):=by
 unfold Builtin.List.listLengthHint;refine ZA (ĝc hT Ia);show wpAny _ A (specialOf (ĩ r) (Ø "__length_hint__") >>= _) _ _ s;refine ZA (ĝc hT Jz);generalize hid:("list_reverseiterator.__length_hint__" : String)=id0
 wp_delta
 rw[show splitId id0=Ã ("list_reverseiterator","__length_hint__") by
  subst hid
  decide +kernel]
 subst hid;refine ZA (wpAny_isInstance (b:=true) hT (by
  rw[isSubtype_type]
  kernel_rfl) ?_)
 exact ZQ h
theorem Lk(hh:A.handled=none)(hit:s.heap.IsRevIter I l (Þ its.size-1))(hl:s.heap.IsList l its)(hne:l≠I)(hn:ø its.size)
  (hQ:∀h' tk acc' c',(∀b o,b≠I->ěd->İa b=ţ)->İa s.heap.objs.size=Ã { cls:=Ĉb,dict:=none,data:=.seq acc' c',slots:=#[] } -> ItemsOf (λi v=>its[its.size-1-i]?=ôc) acc' its.size->Ŕ s.heap.objs.size { s with heap:=h',toks:=tk }) :
  Øc (call Ĉb [Ê I]):=by
 have hI:I<s.heap.objs.size:=by
  obtain⟨o,e,_⟩:=hit;exact W8 e
 have hL:l<s.heap.objs.size:=by
  obtain⟨o,e,_⟩:=hl;exact W8 e
 generalize hz:s.heap.objs.size=S at hI hL hQ;have nSI:S≠I:=Nat.ne_of_gt hI;have nSl:S≠l:=Nat.ne_of_gt hL;refine callType_codes (Q₁:=λobj s₁=>obj=Ê S/\s₁ = { s with heap:=Ûa (Ğa #[]) }) PySem.F.called_list (PySem.F.typeCall_list_1 _) PySem.F.entry_list_init (code_list_new _ (ã (by rw[hz]) Z)) (λobj s₁ h₁=>?_)
 obtain⟨rfl,rfl⟩:=h₁;have h0:(Ûa (Ğa #[])).get? S=Ã (Ğa #[]):=by
  rw[<- hz];exact Ĩa
 refine ő (Àe h0) (PySem.F.args_list_init_2 _ _) ?_;show ā (do
  let old <- Builtin.List.listItems (Ê S)
  Builtin.List.listUpdate (Ê S) (λ_=>#[])
  letGo old.toList.reverse
  Builtin.List.listExtendWith (Ê S) (Ê I) ħb) _
 refine àe;unfold Builtin.List.listItems;refine ZA (Şb h0 rfl Ôc);refine ZA (m:=updateSeq S (λ_=>#[])) (wpAny_updateSeq h0 rfl ?_);have h1:=đb (ĕa #[]) h0 rfl;have ot:∀b o,b≠S->ěd->((Ûa (Ğa #[])).update S (ĕa #[])).get? b=ţ:=λb o hb e => (źc _ _).trans (WD _ e)
 generalize (Ûa (Ğa #[])).update S (ĕa #[])=h2 at h1 ot ⊢;refine ZA (wpAny_letGo ?_);have hit2:h2.IsRevIter I l (Þ its.size-1):=hit.at λo e=>ot _ _ (ĥ nSI) e;have hl2:h2.IsList l its:=hl.at λo e=>ot _ _ (ĥ nSl) e;unfold Builtin.List.listExtendWith;refine ZA (wpAny_typeOf (T := "list_reverseiterator") hit2.typeIs ?_);have e1:Builtin.List.listSameRef (Ê S) (Ê I)=false:=by
  simp[Builtin.List.listSameRef,nSI]
 have e2:Ķb (Value.type "list_reverseiterator" == Value.type "list"):=Ç
 have e3:Ķb (Value.type "list_reverseiterator" == Value.type "tuple"):=Ç
 simp only[e1,e2,e3,Bool.or_false,Bool.false_eq_true,if_false];refine ZA (wpAny_pyIter_revIter hit2 ?_);refine ZA (êa (Nk hit2.typeIs ?_));rw[ZE Ç];have W:=Walks.listRev (prog:=prog) (w:=w) (A:=A.in1.in1) hh I l hne its;refine ZQ (ųb (plainId_quiet PySem.F.plain_extend_loop _));refine codeAny_extend_loopS W.toS hn S (by simp[nSI,nSl]) ħb its.size 0 _ #[] _ rfl (WW _) ?_ h1 (ItemsOf.nil _) (λs' acc' c' hm hS' hacc=>?_)
 ·refine ő (WW _) ?_ hl2;simpa using hit2
 ·rw[Moved.eq_with hm];refine ã Z (hQ s'.heap s'.toks acc' c' (λb o hb e=>?_) hS' hacc);have hbS:b≠S:=λz=>by
   rw[z,<- hz]at e;exact X1 _ (W8 e)
  exact hm.heap b o (by simp[hbS,hb]) (ot b o hbS e)
end
open PySem PySem.Spec PyProof.Rows
noncomputable def Wt(K:ZC)(te:TE):TE:=ďa (te σ H λx H1=>∃a xs,x=œ/\Ūa H1/\∀p,œa p->Ŕ p (Ï H1 p xs.reverse))
theorem Eu(hc:èa)(hml:X.mg "list" = none) (hmr:X.mg "reversed" = none) (he:Œ e te) (hgl:Gl X "list" := by rfl) (hgr:Gl X "reversed" := by rfl)
  (k1:Õ [e]=[(false,í e)]:=by rfl) :
  Œ (.Call (.Name "list" p1) [.Call (.Name "reversed" p2) [e] [] pos2] [] pos) (Wt X.K te):=by
 intro pins s σ H Q I h;refine ţd hgl hml boot_list Ç Ç;refine PyProof.Rows.callWith_type1 ?_ rfl rfl;show ūc (false,í (.Call (.Name "reversed" p2) [e] [] pos2)) pos [] s;refine Ĥa ?_;refine ţd hgr hmr boot_reversed Ç Ç;refine PyProof.Rows.callWith_type1 ?_ k1 rfl;rw[k1];show ūc (false,í e) pos2 [] s;refine Ĥa (thn Òa λu s1 ⟨x,H1,I1,r1,a,xs,ex,hq,q⟩=>?_);subst ex;cases r1;obtain⟨its,rv,pl,hz⟩:=I1.list hq;have hl:=pl.isList;refine įb ?_;refine call_reversed_list hl ?_;refine įb ?_;have hlt:a<s1.heap.objs.size:=by
  obtain⟨o,eo,_⟩:=hl;exact W8 eo
 have hlen:=rv.length;refine Lk (I:=s1.heap.objs.size) (l:=a) (its:=its.toArray) (I1.ok.hd hc) ⟨_,Ĩa,Z,Z⟩ (hl.push _) (WF hlt) (by rw[WZ];omega) (λh' tk acc' c' hk hS hacc=>?_);have hk1:∀b o,s1.heap.get? b=ţ->İa b=ţ:=λb o eb=>hk b o (WF (W8 eb)) (WD _ eb);have hrev:acc'.toList=its.reverse:=by
  apply List.ext_getElem?;intro i
  by_cases hi:i<its.length
  ·rw[List.getElem?_reverse hi];have h2:i<acc'.size:=by
    rw[hacc.1,WZ];exact hi
   have h3:=hacc.2 i acc'[i] (ēc h2);rw[WZ]at h3;rw[SE,ēc h2,<- h3];simp
  ·rw[ōb (by rw[U5,hacc.1,WZ];omega),ōb (by rw[List.length_reverse];omega)]
 refine⟨Ê _,_,I1.laid (t':=tk) (o:=.lst xs.reverse) hk1 (by show _<=Íc (s1.heap.push _);rw[Heap.size_push];exact Æc) ⟨by rw[List.length_reverse];exact hz,its.reverse,c',rv.reverse,?_⟩,Z,q _ (I1.hok.fresh (by show _<=Íc (s1.heap.push _);rw[Heap.size_push];exact Æc))⟩;rw[<- hrev,Array.toArray_toList];exact hS
theorem IT:ĸ "sorted" (∃(a:Z1) (ns:Ċ),xs=[œ]/\Ðd a Æa/\ns.length<64/\∀(D:Z1) (ms:Ċ),ē D->ms.Perm ns->ms.Pairwise (·<=·)->èc D (ms.map V.int)):=by
 intro pins s σ H xs us Q I rv h;obtain⟨a,ns,rfl,hq,h64,q⟩:=h;obtain⟨u,rfl,ru⟩:=rv.one;cases ru;obtain⟨its,r,pl,hz⟩:=ĳb;have hlen:=r.length;rw[ZD]at hlen;refine sorted_ints pl.isList (PP r) À λout ms hi hp hs=>?_;obtain⟨e,he⟩:=sortedAll_at s.heap its out;refine⟨Ê _,_,I.laid (t':=s.toks) (o:=.lst (ms.map V.int)) (λb o=>sortedAll_old) Æc ⟨?_,out.toList,e,JW hi,?_⟩,Z,q _ ms (òb Æc) hp hs⟩
 ·rw[ZD,hp.length_eq];exact Nat.le_of_lt (UB À)
 ·rw[Array.toArray_toList];exact he
open PySem PySem.Spec PyProof.Rows
theorem EB{ns:Ċ}{i:Nat}{x:V}(h:(Æa)[i]?=äd):ďe i/\x=ô (Ģa i):=by
 have hi:ďe i:=by
  have:=Ăb h;rw[ZD]at this;exact this
 refine ųb hi;rw[ZX,Ÿd]at h;rw[WY,Ÿd];exact(WC h).symm
theorem Kq{K:ZC}{a c:Z1}{ns ms:Ċ}{σ0:St}{H1:Hp}{te:TE}{Q:VK}(f:Nat->V)(hq:SqL K H1 a Æa)(hq2:SqL K H1 c (ms.map V.int))(hlen:ns.length=ms.length)(hn:ns.length<=1000)
  (he:∀i,ďe i->Pu te ((Ōb (ļ (Ģa i))).set 1 (ļ (ms.getD i 0))) H1 (f i))
  (fin:∀D H',Źd->Ée ((Ĵ ns.length).map f)) :
  U2 (Itz K a c) Ěa YN te σ0 H1 Q:=by
 intro D hD;refine ëc ns.length (∀u v,(σ'.set 0 u).set 1 v=(Ōb u).set 1 v) (ç H1/\Ľb/\ys=(Ĵ i).map f) ⟨ns.length,Í,WW _,Ÿ,snw hD,ZI,Í⟩;rintro i m ys σ' H' ⟨rfl,hi,es,sm,hDl,hys⟩;refine ųb hDl;have q:=ęd;have q2:=sm.seq hq2
 by_cases hlt:ďe i
 ·refine Ìd ⟨_,_,ô (ns[i]),ô (ms[i]'(À)),q,q2,by simp[hlt],Í⟩;obtain⟨T,z,z2,rfl,hT,rfl,y,y2⟩:=y;obtain⟨_,rfl⟩:=EB (y _ q);obtain⟨_,rfl⟩:=EB (y2 _ q2);have smT:ıb H' T [ô (Ģa i),ô (ms.getD i 0)]:=snw hT;refine Ąa T ZI;unfold YN;refine Ŧb ?_;rw[es];refine he i hlt _ _ (Şa smT) (ĵc (smT _ _ hDl) ns.length (((Şa smT).trans s5).upd hD))
  ·rw[hys,ZD,List.length_range];exact UB À
  ·rw[List.range_succ,W2,<- hys];rfl
 ·have e:i=ns.length:=À
  subst e;exact ìb (şc _ q q2 (Ė (by rw[ZD];exact ħ))) (Đc (by rw[hDl,hys]))
theorem O9{X:Cx}{N':ù}{scope:Scope}{cl:ġa Z1}{C:Z1}{s2:Z2}{H2:Hp}{ex:ãb}{y z:Str}{p1 p2 pos:Pos}{k:Nat}(K:ZC)(hc:èa)(nd:N'.Nodup)(h0:N'[0]?=Ã y:=by rfl)(h1:N'[1]?=Ã z:=by rfl)
  (hy:(çb).names.lookup y=ēe:=by rfl) (hz:(çb).names.lookup z=ēe:=by rfl) (hK:X.K=K:=by rfl) :
  PG Ăa (.Tuple [.Name y p1,.Name z p2] k pos) Ěa:=LD K hc nd h0 h1 hy hz hK
end L2
namespace L2
open PySem PySem.Spec PyProof.Rows
end L2
namespace L2
open PySem PySem.Spec PyProof.Rows
section
variable {X:Cx}{N':ù}{scope osc:Scope}{cl:Æ (Str × Z1)}{C:Z1}{ex:ãb}{ix:Æ ğc}{pins:Æ âb}{σ:St}{H2:Hp}{s2:Z2}
end
end L2
namespace L2
open PySem PySem.Spec PyProof.Rows
theorem ObjOk.get{P:Z3}{w:Z5}{H:Hp}{h:Z8}{a:Z1}{o:HO}(x:Ńa a o):∃u,ŧa a=Ã u:=by
 cases o with
 |lst xs=>obtain⟨_,_,_,_,e⟩:=x;exact Ņ e
 |tup xs=>obtain⟨_,_,_,_,e,_⟩:=x;exact Ņ e
 |dK kvs=>obtain⟨_,_,_,_,o,_,_,e,_⟩:=x;exact Ņ e
 |dT kvs=>obtain⟨_,_,_,_,o,_,_,e,_⟩:=x;exact Ņ e
 |set S n=>obtain⟨o,_,_,_,e,_⟩:=x;exact Ņ e
 |ins C dx fs=>obtain⟨_,_,_,e,_⟩:=x;exact Ņ e
 |own y=>exact x
 |xd fs=>obtain⟨_,⟨_,_,_,e,_⟩,_⟩:=x;exact Ņ e
 |rng lo hi=>obtain⟨_,_,_,e⟩:=x;exact Ņ e
 |frz ob u=>exact Ņ x.1
 |tbl ps=>exact Ņ x
 |met f y=>exact Ņ x
 |ext φ=>exact x.2.1
noncomputable def Trc(h:Z8)(H':Hp)(g:Z8)(e:Z1)(cls fl:Z0):Prop :=
 ∃a0 oe vs T oT ts,ŧa e=Ã oe/\(oe.cls=cls/\vs[0]?=Ã a0)/\oe.data=.fields vs/\vs[1]?=Ú T/\T≠e/\ŧa T=Ã oT/\oT.data=.fields ts/\ts[3]?=Ã fl/\(Ďe e/\Ďe T)/\g.get? e=none/\g.get? T=none
structure Fli(P:Z3)(w:Z5)(l:êb)(H:Hp)(s:Z2)(e:Z1)(cls fl:Z0)(H':Hp)(s':Z2):Prop where
 os:s'.os=s.os
 bare:AllBare s'.gens
 un:Un (frs l) [] H H' s.heap s'.heap
 hok:HOk P w H' s'.heap
 tr:Trc s'.heap H' s.heap e cls fl
section
variable {P:Z3}{w:Z5}{l:êb}{H H':Hp}{s s1:Z2}{e:Z1}{cls fl:Z0}
theorem OX(F:Fli P w l H s e cls fl H' s1)(hfr:s1.heap.FunFrames base l)(hff:∀b∈frs l,Ďe b) :
  ∃(B:Z8) (a0:Z0),(B.StaysIn s1.heap/\B.get? e=none/\s1.heap.FunFrames B l/\s1.heap.TracedAtW B e cls a0 fl) /\ ∀h' fl',B.StaysIn h'->h'.TracedAtW B e cls a0 fl'->s1.heap.UpToSlots h'->Fli P w l H s e cls fl' H' { s1 with heap:=h' }:=by
 obtain⟨a0,oe,vs,T,oT,ts,h1,h2,h3,h4,h5,h6,h7,h8,⟨h9,h10⟩,h11,h12⟩:=F.tr;have none_of:∀b,b∈e::T::frs l->(Įd).get? b=none:=ěa (PySem.W.hideAll_none _ hb);have at_of:∀b o,s1.heap.get? b=ţ->b∉e::T::frs l->(Įd).get? b=ţ:=λb o q hb=>PySem.W.hideAll_get _ q hb;have nofld:∀b∈frs l,∀o,s1.heap.get? b=ţ->∀vs,o.data≠.fields vs:=λb hb o q=>by
  obtain⟨_,o',ho',hn⟩:=hfr.mem hb;rw[q]at ho';cases ho';exact hn
 have hidT:∀b,H' b≠none->b∉e::T::frs l:=λb q z=>by
  rcases ĳd z with r | z
  ·rw[r]at q;exact q h9
  ·rcases ĳd z with r | z
   ·rw[r]at q;exact q h10
   ·exact q (hff b z)
 refine⟨Įd,a0,⟨λb o q=>PySem.W.of_hideAll _ q,none_of e XB,PySem.W.funFrames_hide hfr λenv he a ha=>?_,oe,vs,T,oT,ts,h1,h2,h3,h4,none_of T Í,h5,h6,h7,h8⟩,λh' fl' hB ht hu=>?_⟩
 ·exact UV _ (UV _ (List.mem_filterMap.mpr (ő env he ha)))
 ·obtain⟨oe',vs',T',oT',ts',k1,k2,k3,k4,k5,k6,k7,k8,k9⟩:=ht;have hT':Ďe T':=by
   cases q:H' T' with
   |none=>rfl
   |some u =>
    obtain⟨ob,hob⟩:=(F.hok _ _ q).get;have:=at_of T' ob hob (hidT T' (by rw[q];simp));rw[k5]at this;cases this
  have gT':s.heap.get? T'=none:=by
   cases q:s.heap.get? T' with
   |none=>rfl
   |some u =>
    obtain⟨ob,hob⟩:=F.un.there T' u q Í
    by_cases z:T'∈e::T::frs l
    ·rcases ĳd z with r | z
     ·exact ń r k6
     ·rcases ĳd z with r | z
      ·rw[r,h12]at q;cases q
      ·obtain⟨sl,hsl⟩:=hu T' ob hob (nofld T' z ob hob);rw[k7]at hsl;cases hsl;exact ń k8 (nofld T' z ob hob _)
    ·have:=at_of T' ob hob z;rw[k5]at this;cases this
  have new:∀b o,ěd->b∉frs l->b∉e::T::frs l:=λb o q hb z=>by
   rcases ĳd z with r | z
   ·rw[r,h11]at q;cases q
   ·rcases ĳd z with r | z
    ·rw[r,h12]at q;cases q
    ·exact hb z
  refine⟨F.os,F.bare,⟨λb o q n hb _=>?_,λb o q n hb _=>?_,F.un.free,λb o q _=>?_,F.un.tups,F.un.frzs,F.un.tbls⟩,λb o q=>?_,a0,oe',vs',T',oT',ts',k1,k2,k3,k4,k6,k7,k8,k9,ã h9 hT',h11,gT'⟩
  ·exact hB b o (at_of b o (F.un.keep b o q n hb Í) (new b o q hb))
  ·obtain⟨sl,q1⟩:=F.un.slot b o q n hb Í;obtain⟨sl',q2⟩:=hu b _ q1 (nofld b hb _ q1);exact ã sl' q2
  ·obtain⟨o',q1⟩:=F.un.there b o q Í
   by_cases hb:b∈frs l
   ·obtain⟨sl',q2⟩:=hu b _ q1 (nofld b hb _ q1);exact Ņ q2
   ·exact ã o' (hB b o' (at_of b o' q1 (new b o q hb)))
  ·refine(F.hok b o q).stay (λc v hc r=>hB c v (at_of c v r (hidT c ?_))) Żd λ_ _ z=>z;rcases hc with z | z
   ·rw[z,q];simp
   ·rw[z];simp
end
noncomputable def CXW(P:Z3)(w:Z5):CXT:=λl H s E ev s'=>∃e cls H',ev=čc/\Fli P w l H s e cls ħb H' s'/\E cls none H'
noncomputable def VR(X:Cx)(R:St->Ť Z0):Prop:=∀(pins:æ) (σ:St) (H:Hp) (s:Z2) (e:Z1) (cls:Z0) (H':Hp) (s':Z2),Ĝ->úb H s cls ħb->R σ cls H'->X.xe čc s'
noncomputable def GR(X:Cx)(R:St->Ť Z0):Prop:=∀(pins:æ) (σ:St) (H:Hp) (s:Z2) (e:Z1) (cls:Z0) (vs:š) (h':Z8),Ĝ->Heap.MadeExcOf s.heap h' e cls vs->R σ cls H->X.xe čc { s with heap:=h' }
section
variable {X:Cx}{pins:Æ âb}{σ:St}{H H':Hp}{s s':Z2}{e:Z1}{cls fl:Z0}
theorem Inv.fly(I:Ĝ)(F:úb H s cls fl):É H' s':=I.call' (ch:=[]) F.os F.un F.hok F.bare λb z=>ń z Í
theorem Inv.old(I:Ĝ)(hex:X.ex=[])(h:s.heap.get? b=none):æc=none:=by
 cases q:æc with
 |none=>rfl
 |some o =>
  obtain⟨o',q'⟩:=I.base.there b o q (by rw[hex];simp);rw[h]at q';cases q'
theorem Fli.out(I:Ĝ)(F:úb H s cls fl)(hex:X.ex=[]):Fli X.prog X.w X.outer X.H₀ X.s₀ e cls fl H' s':=by
 have J:=I.fly F;obtain⟨a0,oe,vs,T,oT,ts,h1,h2,h3,h4,h5,h6,h7,h8,h9,h11,h12⟩:=F.tr;refine⟨J.os,J.bare,?_,J.hok,a0,oe,vs,T,oT,ts,h1,h2,h3,h4,h5,h6,h7,h8,h9,I.old hex h11,I.old hex h12⟩;have:=J.base;rw[hex]at this;exact this
theorem Ox(I:Ĝ)(hB:B=PySem.W.hideAll s.heap őc)(hx:Heap.MadeExcOf s.heap h' e cls vs)(ht:h''.TracedW B e cls a0)(hs:B.StaysIn h'')(hu:h'.UpToSlots h'') :
  Fli X.prog X.w X.stack H s e cls ħb H { s with heap:=h'' }:=by
 subst hB;obtain⟨oe,ws,T,oT,ts,k1,k2,k3,k4,k5,k6,k7,k8,k9⟩:=ht;have nofld:∀b∈őc,∃o,ěd/\∀vs,o.data≠.fields vs:=ěa (I.stack.mem hb).2;have at_of:∀b o,ěd->b∉őc->h''.get? b=ţ:=λb o q hb=>hs b o (PySem.W.hideAll_get _ q hb);have gT:s.heap.get? T=none:=by
  cases q:s.heap.get? T with
  |none=>rfl
  |some u =>
   by_cases z:T∈őc
   ·obtain⟨o,ho,hn⟩:=nofld T z;obtain⟨sl,hsl⟩:=hu T o (hx.keeps T o ho) hn;rw[k7]at hsl;cases hsl;exact ń k8 (hn _)
   ·have:=PySem.W.hideAll_get _ q z;rw[k5]at this;cases this
 have fr:∀b,s.heap.get? b=none->ē b:=λb q=>by
  cases r:H b with
  |none=>rfl
  |some u =>
   obtain⟨o,ho⟩:=(I.hok b u r).get;rw[q]at ho;cases ho
 have sl:∀b o,ěd->b∈őc->∃sl,h''.get? b=Ã { o with slots:=sl }:=λb o q hb=>by
  obtain⟨o',ho',hn⟩:=nofld b hb;rw[q]at ho';cases ho';exact hu b o (hx.keeps b o q) hn
 refine⟨Z,I.bare,⟨λb o q _ hb _=>at_of b o q hb,λb o q _ hb _=>sl b o q hb,λ_ _ _ n _=>n,λb o q _=>?_,λ_ _ q=>q,λ_ _ _ q=>q,λb ps q=>ã #[] (by rw[q];simp)⟩,λb o q=>?_,a0,oe,ws,T,oT,ts,k1,k2,k3,k4,k6,k7,k8,k9,ã (fr e hx.new) (fr T gT),hx.new,gT⟩
 ·by_cases hb:b∈őc
  ·obtain⟨_,z⟩:=sl b o q hb;exact Ņ z
  ·exact ã o (at_of b o q hb)
 ·refine(I.hok b o q).stay (λc v hc r=>at_of c v r λhb=>?_) Żd λ_ _ z=>z;have n:=I.stkFree c hb;rcases hc with z | z
  ·rw[z,q]at n;cases n
  ·rw[z]at n;cases n
end
section
variable {P:Z3}{w:Z5}{K:ZC}{mg:Ą}{base:Z8}{N:ù}{qual:Str}{scope:Scope}{f:Z1}{cd:Z0}{A:Z4}{outer:êb}{s:Z2}{H:Hp}{E:XK}
theorem VZ:VR (Éb ũc cd) λ_ cls H'=>E cls none H':=by
 intro pins σ H1 s1 e cls H' s' I F r;have J:=I.fly F;obtain⟨B,a0,⟨b1,b2,b3,b4⟩,st⟩:=OX F J.stack J.stkFree;refine wpAny_leaves_onW I.ok.frames rfl ⟨b1,b2,b3,b4⟩ λh' hf hu=>?_;exact⟨e,cls,H',Z,Fli.out I (st h' ħb hf.1 hf.2.2.2 hu) rfl,r⟩
theorem XL:GR (Éb ũc cd) λ_ cls H'=>E cls none H':=by
 intro pins σ H1 s1 e cls vs h' I hx r;refine wpAny_leaves_madeW (base:=PySem.W.hideAll s1.heap (frs (Ī::outer))) I.ok.frames rfl (λb o q=>PySem.W.of_hideAll _ q) (PySem.W.funFrames_hide I.stack λenv he a ha=>List.mem_filterMap.mpr (ő env he ha)) hx λh'' t hf _ _ hu=>?_
 exact⟨e,cls,H1,Z,Fli.out I (Ox I rfl hx hf.2.2.2 hf.1 hu) rfl,r⟩
end
noncomputable def FnAtX(P:Z3)(w:Z5)(K:ZC)(mg:Ą)(base:Z8)(k:Nat)(x:Str)(ps:ù)(sp:Sp):Prop :=
 ∃f,mg x=Ú f/\Ũ K f=true/\(∀vs H Q E,Če) /\ ∀(A:Z4) (outer:êb) (s:Z2) (H:Hp) (us:š) (vs:ĝ) (Q:VK) (E:XK),õc A->Ųa A->Ŝa vs->ĥa->ŕd outer
section
variable {P:Z3}{w:Z5}{K:ZC}{mg:Ą}{base:Z8}{j k:Nat}{x:Str}{ps:ù}{sp sp':Sp}
theorem FnAtX.mono(F:Ā j x ps sp)(h:j<=k):Ā k x ps sp :=
 let ⟨f,a,b,c,d⟩:=F
 ⟨f,a,b,c,λA outer s H us vs Q E hr=>d A outer s H us vs Q E (ż h)⟩
theorem FnAtX.or(F:Ā k x ps sp)(G:Ā k x ps sp'):Ā k x ps Ģc:=by
 obtain⟨f,a,b,c,d⟩:=F;obtain⟨f',a',b',c',d'⟩:=G;have e:=a.symm.trans a';injection e with e;injection e with e;subst e;exact⟨f,a,b,λvs H Q E q=>q.elim (c vs H Q E) (c' vs H Q E),ċc ŧc⟩
theorem FnAtX.at{CX:CXT}{f:Z1}{fd:FuncData}(F:ūa CX k)(hm:mg x=Ú f)(hk:Ũ K f=true)(hb:Ņb K [])(hc:∀l H s E e s',CX l H s E e s'->CXW P w l H s E e s'):Ā k x ps sp:=by
 refine⟨f,hm,hk,F.len,ċc ?_⟩;have hl:us.length=ps.length:=by rw[<- r.length];exact F.len _ _ _ _ q
 refine Āa (F.run A outer s H (ã us []) us vs Q E hr e0 (by simpa using hb s us (e0.mod.kin.keeps λb o z=>(e0.bs b o z).1) (by simpa using hl)) r q);cases res with
 |error ev=>exact hc _ _ _ _ _ _ hq
 |ok fl=>cases fl<;>exact hq
theorem FnAt.toX(F:Ä k x ps sp):Ā k x ps sp :=
 let ⟨_,_,a,b,c,d⟩:=F
 .at a b c d λ_ _ _ _ _ _ z=>z.elim
theorem FnAtX.of{st:Z6}{N:ù}(D:é x st ps)(S:ä N ps st)(len:∀vs H Q E,Če)
  (hbody:Ă x (û ũc N x (ZJ st) cdv outer)):Ā (k+1) x ps sp:=by
 obtain⟨f,fd,F,hm,hb⟩:=D;obtain⟨oc,od,kV,doc,pm,an,cdv,ct,osl,rfl,lk,hcd⟩:=F.ex;exact .at (CX:=ũc) (Èd (öc hsp)) hm F.kp hb λ_ _ _ _ _ _ z=>z
end
noncomputable def tFx(sp:Sp)(R:St->Ť Z0)(t:TA):TE:=Šb (λvs H1=>sp vs H1 Q Ŷd)
section
variable {X:Cx}{k:Nat}{x:Str}{ps:ù}{sp:Sp}{e:Z7}{es:Šc}{t:TA}{p pos:Pos}{R:St->Ť Z0}
theorem UX(F:FnAtX X.prog X.w X.K X.mg X.base k x ps sp)(hr:õc X.A)(hR:VR X R)(ha:Ōc)(hg:ÿe:=by rfl)(hdb:Ķd:=by decide)
  (he:Õ ŀ=(false,í e)::Õ es:=by rfl) (hpl:(ąb).any (·.1)=false:=by rfl):Œ ŋd (tFx sp R t):=by
 obtain⟨f,hm,hk,hl,run⟩:=F;intro pins s σ H Q I h;refine Ĭa;refine PySem.W.callWith_K (h₀:=X.base) I.ok.mod.kin hk (thn Èc λus s1 ⟨vs,H1,I1,r,q⟩=>ųb I1.kIn) he hpl;refine ńd;cases res with
 |error ev =>
  obtain⟨e',cls,H',rfl,Fl,rr⟩:=hq;exact ſb H1 s1 I1
 |ok fl =>
  cases fl with
  |ret u=>exact I1.after hq
  |next=>exact Ő hq
  |brk=>exact Ő hq
  |cont=>exact Ő hq
end
end L2
namespace L2
open PySem PySem.Spec PySem.Calls PyProof.Rows
open Builtin Builtin.ObjectAttr Builtin.Getset_descriptor
structure ExcK(K:ZC)(C:Z1):Prop where
 exc:PySem.W.excIn K C [Ŀa "ValueError", Ŀa "Exception", Ŀa "BaseException", Ŀa "object"] "ValueError.__new__" = true
 ga:ı "__getattribute__" = Ã (Ã ðd)
 gt:ı "__getattr__" = Ã none
 cl:ı "__class__" = Ã (Ã ţb)
 ob:ıc (Ŀa "object")=Ĥe
 bx:ıc (Ŀa "BaseException")=Ĥe
theorem E8{K:ZC}{h:Z8}{C:Z1}{nid:String}{bmB:š}(Y:K.In h)(q:PySem.W.excIn K C bmB nid=true) :
  ∃bm N nm qn bs hd sn sub ab col dd k0 k1 k2 k3 k5 mN,ŧa C=Ã (excClassObj nm qn C N bs bm hd sn sub ab col dd k0 k1 k2 k3 k5 nid)/\h.Ns N mN/\mN "__init__" = none/\OwnTail h bmB bm:=by
 unfold PySem.W.excIn at q;split at q
 ·next dd cdt slt hlk =>
  split at q
  ·next C1 bm1 j0 j1 j2 j3 n1 j5 hmro hslots =>
   simp only[YT,beq_iff_eq,Bool.not_eq_true']at q;obtain⟨⟨⟨⟨⟨e1,e2⟩,hdl⟩,htl⟩,hns⟩,hin⟩:=q;subst e1 e2;obtain⟨nm,bs,mro,ns,qn,hd,sn,sub,ab,col,del⟩:=cdt;dsimp only at hmro hdl hns hin;subst hmro hdl;obtain⟨sll⟩:=slt;have hz:sll=[j0,j1,j2,j3,Ã (Ţ n1),j5]:=hslots;subst hz;exact⟨bm1,ns,nm,qn,bs,hd,sn,sub,ab,col,dd,j0,j1,j2,j3,j5,_,Y _ _ hlk,.of_isNs (PySem.W.isNs_of_in Y hns),PySem.W.nsMap_none_of_in Y hns hin,PySem.W.tail_of_in Y htl⟩
  ·cases q
 ·cases q
noncomputable def Xk(R:St->Ť Z0)(C:Z1):TS:=λ_ σ H=>R σ Âe H
theorem XQ{X:Cx}{R:St->Ť Z0}{x:Str}{C:Z1}{e₀:Z7}{msg:Str}{np cpos pos:Pos}(hx:GR X R)(hk:ExcK X.K C)(ha:Œ e₀ (tC (ĉ msg)))(hm:X.mg x=Ú C)(hg:ÿe:=by rfl)(hc:èa:=by rfl)
  (hdb:Ķd:=by decide) (he:Õ [e₀]=(false,í e₀)::Õ []:=by rfl) (hpl:(Ĭ cpos ([]:Šc)).any (·.1)=false:=by rfl) :
  PS X (.Raise (Ã (.Call (Ďc np) [e₀] [] cpos)) none pos) (Xk R C):=by
 intro pins s σ H D I h;obtain⟨bm,N,nm,qn,bs,hd,sn,sub,ab,col,dd,k0,k1,k2,k3,k5,mN,hC,hN,hni,T⟩:=E8 I.ok.mod.kin hk.exc;have hpa:PA X [e₀] (TH (tC (ĉ msg)) tNil):=ZF ha U1 he;refine wpAny_Raise_call_subU (nm:=nm) (q:=qn) (N:=N) (bs:=bs) (hdct:=hd) (sn:=sn) (sub:=sub) (ab:=ab) (col:=col) (dd:=dd) (k0:=k0) (k1:=k1) (k2:=k2) (k3:=k3) (k5:=k5) PySem.F.excBase_ValueError Ç PySem.F.excBase_ValueError (T.hasType (b:=true) Ç) Ĵa (by rw[he];show Ķb (false||(Ĭ cpos ([]:Šc)).any (·.1));rw[hpl];rfl) hni (T6 I hg hm (ųb Z) hdb);have z:=hpa cpos pins s σ H (λvs H1=>vs=[ĉ msg]/\H1=H) I (ã Z Z);rw[he]at z ⊢;refine Calls.evalArgs_plain (WL z (λus s2 ⟨vs,H1,I2,r,hv,hH⟩=>?_) λ_ _ y=>y);subst hv hH;have hl:us.length=1:=by rw[<- r.length];rfl
 refine⟨Z,by show us.length<=_;rw[hl];decide,I2.bk _ _ hC,hN.keeps I2.bk,T.keeps I2.bk,λh' e hx'=>?_⟩;exact hx pins σ _ s2 e _ _ h' I2 hx' h
theorem Ka{M:Model}{A:Z4}{E:ģ}{Q:İc Bool}{K:ZC}{e C D:Z1}{oe:Obj}{s:Z2}(Y:Éd)(hD:Ëd D)(hm:ıc (Ê D)=Ĥe)
  (he:ą e oe) (hcls:oe.cls=Âe) (hq:Q true s):úa M A (excMatches čc (Ê D)):=by
 obtain⟨h,g,d,t,os⟩:=s;obtain⟨bm,N,nm,qn,bs,hd,sn,sub,ab,col,dd,k0,k1,k2,k3,k5,mN,hO,hN,hni,T⟩:=E8 Y hD.exc;have hcB:(ĩ D::bm).contains (Ŀa "BaseException")=true:=by rw[List.contains_cons,T.hasType (b:=true) Ç,Bool.or_true]
 have L:=PySem.W.looks_mroIn (M:=M) Y hm;have f:=tc_notTuple;unfold excMatches
 repeat (first | (with_reducible refine wpAny_loadPart_at he ?_;rw[hcls]) | with_reducible refine wpAny_loadPart_at hO ?_ | (with_reducible refine wpAny_isSubtype_exc hO ?_;rw[hcB]) | with_reducible refine L.at ?_ | wp_step)
 exact hq
noncomputable def XV(e C:Z1)(h:Z8):Prop:=∃oe vs,ŧa e=Ã oe/\oe.cls=Âe/\oe.data=.fields vs
section
variable {K:ZC}{C e:Z1}
theorem PR(M:Model)(p:XV e C h):PySem.W.Looks M h (typeOf čc) Âe:=by
 obtain⟨oe,vs,h1,h2,_⟩:=p;exact h2▸(PySem.W.Looks.ld h1).andThen .now
theorem E5(k:Ëd C):∃c' d' cd sl,Ľd C=Ã ⟨c',d',.cls cd,sl⟩:=by
 obtain⟨cd,a,_⟩:=Option.bind_eq_some_iff.mp k.ob;unfold PySem.W.clsIn at a;split at a
 ·next z=>exact şc _ _ _ z
 ·cases a
theorem Lz{M:Model}{A:Z4}{E:ģ}{h:Z8}{g:Array GenState}{d:Drawn}{t:Nat}{os:OsState}{nv:Z0}{Q:İc Unit}(k:Ëd C)(Y:K.In h)(p:XV e C h)(hq:Q () ⟨h,g,d,t,os⟩) :
  wpAny M A (checkBuiltinCall "BaseException.__getattribute__" (ã [čc,nv] [])) Q E ⟨h,g,d,t,os⟩:=by
 have hkd:builtinKind "BaseException.__getattribute__" = Ã .slot:=Â
 have hsp:splitId "BaseException.__getattribute__" = Ã ("BaseException","__getattribute__"):=Â
 have L0:=PR M p;have L1:=PySem.W.looks_mroIn (M:=M) Y k.bx;have ha:=F.args_bexc_ga čc nv;simp only[checkBuiltinCall,hkd,hsp];refine àe;unfold isInstance
 repeat (first | with_reducible refine L0.at ?_ | with_reducible refine L1.at ?_ | wp_step)
 exact hq
theorem Fx{prog:Z3}{w:Z5}{A:Z4}{h:Z8}{g:Array GenState}{d:Drawn}{t:Nat}{os:OsState}{tp:Z0}{R:İc Result}(k:Ëd C)(Y:K.In h)(p:XV e C h)(hq:R (.ok (.ret Âe)) ⟨h,g,d,t,os⟩) :
  codeAny þ A (.call (Ţ "getset_descriptor.__get__") (ã [ţb, čc,tp] [])) R ⟨h,g,d,t,os⟩:=by
 have L0:=PR þ p;have L1:=PySem.W.looks_mroIn (M:=þ) Y k.ob;refine codeAny_call_builtin PySem.W.KF.slot_gs.plain PySem.W.KF.entry_gs (PySem.W.KF.slot_gs.check _ _ _ _ _ _ _ _ PySem.W.KF.type_class (PySem.W.KF.args_gs _ _ _) ?_);unfold Builtin.«getset_descriptor.__get__» descrGet;rw[PySem.W.dga_obj];refine ZA Ôc;unfold descrGetter descrCheckInstance descrNameAndClass isInstance;simp only[PySem.W.KF.owner_class]
 repeat lk
 refine ã (Code.quiet_builtin _ Â) (codeAny_builtin PySem.W.KF.entry_class ?_);unfold Builtin.«object.__class__» shownTypeOf
 repeat lk
 exact hq
theorem Db{prog:Z3}{w:Z5}{A:Z4}{E:ģ}{h:Z8}{g:Array GenState}{d:Drawn}{t:Nat}{os:OsState}{tk:Tok}{Q:İc Fin}(k:Ëd C)(Y:K.In h)(p:XV e C h)(hq:Q (.done (.ret Âe)) ⟨h,g,d,t,os⟩) :
  å (Builtin.«object.__getattribute__» (ã [čc,.str "__class__" tk] [])) Q E ⟨h,g,d,t,os⟩:=by
 have L0:=PR þ p;have L1:=PySem.W.looks_findIn (M:=þ) Y k.cl;have hT5:(⟨h,g,d,t,os⟩:Z2).TypeIs ţb "getset_descriptor" := F.typeOf_object_class;have f5:=F.typeOf_object_class;have f6:=F.slot_gs_get.lookup;have f7:=F.slot_gs_set.lookup
 repeat (any_goals (first | assumption | with_reducible refine L0.at ?_ | with_reducible refine L1.at ?_ | wp_step))
 refine Fx k Y p ?_
 repeat (any_goals (first | assumption | wp_step))
theorem Ck(k:Ëd C)(Y:Éd)(p:XV e C s.heap)(hq:Q (Ú C) { s with toks:=s.toks+1 }) :
  Øc (getAttr? čc "__class__"):=by
 obtain⟨h,g,d,t,os⟩:=s;have L0:=PR þ p;have L1:=PySem.W.looks_findIn (M:=þ) Y k.ga;have L2:=PySem.W.looks_findIn (M:=þ) Y k.gt;have f3:=F.attr_ValueError.ga.bind čc;unfold getAttr? getAttrBy? getAttrBy;refine ZA (wpAny_mkText (ZA (Ðe (êa (ZA (L0.at (ZA (L1.at ?_))))))));show ā (getAttrByItsOwn čc _ Âe ðd false false) _;unfold getAttrByItsOwn;refine ZA (m:=hookBefore Âe) (L2.at ?_);refine ZA (Ðe (êa ?_));show ā (boundAndCalled ðd čc _) _;unfold boundAndCalled;refine ZA (wpAny_of_eq f3 ?_);refine wpAny_call (codeAny_call_builtin F.attr_ValueError.ga.plain F.entry_bexc_ga (Lz k Y p (Db k Y p ?_)));show ā (handedOut Âe) _;exact ZQ (ZQ hq)
theorem JE(k:Ëd C):PySem.W.KitX K čc Âe (XV e C) where
 ty:=λM _ _ p=>PR M p
 it:=λ_ _ Y _=>by
  obtain⟨_,_,_,_,z⟩:=E5 k;intro A' Q' E' s' kk q;unfold isType loadHead;exact ZA (wpAny_loadPart (kk _ _ (Y _ _ z)) (ZQ q))
 ne:=λh tp dd its n sl Y htp=>by
  obtain⟨_,_,_,_,z⟩:=E5 k;refine Bool.eq_false_iff.mpr λq=>?_;have e':C=tp:=Value.ref.inj (beq_iff_eq.mp q);subst e';cases(Y _ _ z).symm.trans htp
 ca:=λY p kk=>Ck k Y p kk
end
end L2
namespace L2
open PySem PySem.Spec PySem.Calls PyProof.Rows
noncomputable def excO(e C:Z1):HO:=.ext (XV e C)
theorem Re(p:XV e C h):Ńa e (excO e C) :=
 ő p (let ⟨oe,_,h1,_⟩:=p;ã oe h1) (λ_ _ ⟨oe,vs,h1,h2,h3⟩ kk=>⟨oe,vs,kk _ h1,h2,h3⟩)
theorem KM(I:Ĝ)(q:H e=Ã (excO e C)):XV e C s.heap:=(I.hok e _ q).1
noncomputable abbrev Cx.tryC(X:Cx)(pn:æ)(W:ģ):Cx:={ X with pn:=X.pn++pn,xe:=W }
noncomputable abbrev Cx.hand(X:Cx)(v:Z0):Cx:={ X with A:=X.A.mark ôc,calm:=false,xe:=Õa }
section
variable {X:Cx}{pins pn:Æ âb}{W:ģ}{σ:St}{H:Hp}{s:Z2}{v:Z0}
theorem Cx.Ok.tryC(ok:X.Ok)(pn:æ)(W:ģ):(X.tryC pn W).Ok :=
 ď ok.hd
theorem Cx.Ok.unTry(ok:(X.tryC pn W).Ok):X.Ok :=
 ď ok.hd
theorem Cx.Ok.hand(ok:X.Ok)(v:Z0):(X.hand v).Ok :=
 ď (λz=>nomatch z)
theorem Inv.tryIn(I:Ĝ)(W:ģ):Ëe (X.tryC pins W) [] :=
 ņ (I.ok.tryC pins W) (Ļ (I.pin p (by simpa using hp)))
theorem Inv.tryOut(I:Ëe (X.tryC pn W) pins):Ëe X pn :=
 ņ I.ok.unTry (Ļ (I.pin p (Ąe hp)))
theorem Inv.hand(I:Ĝ)(v:Z0):Ëe (X.hand v) pins :=
 ņ (I.ok.hand v) I.pin
theorem Inv.unhand(I:Ëe (X.hand v) pins)(ok:X.Ok):Ĝ :=
 ņ ok I.pin
theorem SP.tryOut{D:Ends}{f:Flow}{s':Z2}(h:SP (X.tryC pn W) pins D f s'):SP X pn D f s':=by
 cases f with
 |next=>obtain⟨σ',H',I,q⟩:=h;exact⟨σ',H',I.tryOut,q⟩
 |brk=>obtain⟨σ',H',I,q⟩:=h;exact⟨σ',H',I.tryOut,q⟩
 |cont=>obtain⟨σ',H',I,q⟩:=h;exact⟨σ',H',I.tryOut,q⟩
 |ret u=>obtain⟨v,σ',H',I,r,q⟩:=h;exact⟨v,σ',H',I.tryOut,r,q⟩
theorem Inv.gone(I:Ĝ)(hN:X.N.Nodup)(hi:X.N[i]?=Ã n)
  (hm:∀(j:Nat) (x:Str) (v:V),X.N[j]?=äd->σ[j]?=Ã ôc->Ĥd->∃u,Őa v/\Look X.env s.heap m x u)
  (hn':h'.Ns X.env.locals (λx=>if x=n then v' else m x)) (hs:đa X.env.locals h'):Inv X pins (ľd none) H { s with heap:=h',toks:=t' }:=by
 obtain⟨mm,⟨oL,_,_,hoL,_⟩,_⟩:=id I.loc;have cne:=I.cne;refine⟨I.ok,I.os,I.bare,úc,ő _ hn' (λj y w e1 e2 e3=>?_),λy c e=>?_,I.free,I.freeC,Åc,λb ob e=>?_,by simpa using I.len⟩
 ·exact(hs.2 b Źa).trans Ád
 ·obtain⟨sl,e1⟩:=ĝd;exact ã sl ((hs.2 b Źa).trans e1)
 ·obtain⟨o',e1⟩:=ãd;exact ã o' ((hs.2 b Źa).trans e1)
 ·have hji:j≠i:=by
   rintro rfl;rw[List.getElem?_set]at e2;split at e2
   ·split at e2<;>cases e2
   ·next z=>exact z rfl
  rw[List.getElem?_set_ne (ĥ hji)]at e2;obtain⟨u,r,q⟩:=hm j y w e1 e2 e3;refine ő u r ?_;rcases q with⟨kk,q⟩ | ⟨kk,c,q,z⟩
  ·refine ìb kk ?_;have:y≠n:=λz=>hji (JH hN e1 (z▸hi));simp[this,q]
  ·exact Ŀ ⟨kk,c,q,ĉe q⟩
 ·obtain⟨w,z⟩:=I.cell y c e;exact ã w (ĉe e)
 ·obtain⟨e,n,ne,nf,d⟩:=I.pin p hp;exact⟨(hs.2 p.1 ne).trans e,n,ne,nf,d⟩
 ·refine(I.hok b ob e).stay (λc w' hc q=>(hs.2 c ?_).trans q) (λ_ q=>q) λ_ _ q=>q;rintro rfl;rcases hc with z | hc
  ·rw[<- z,I.free]at e;cases e
  ·rw[I.free]at hc;cases hc
theorem Inv.catch(I:Ĝ)(F:úb H s Âe ħb):É (upd H' e (excO e C)) s':=by
 obtain⟨a0,oe,vs,T,oT,ts,h1,h2,h3,h4,h5,h6,h7,h8,⟨h9,h10⟩,h11,h12⟩:=F.tr;refine I.call' (ch:=[]) F.os ⟨F.un.keep,F.un.slot,λb o q n hx=>?_,F.un.there,λb xs q=>?_,λb o u q=>?_,λb ps q=>?_⟩ (λb o q=>?_) F.bare λb z=>ń z Í
 ·rw[ZP (λz=>by rw[z,h11]at q;cases q)];exact F.un.free b o q n hx
 ·have z:=F.un.tups b xs q;rw[ZP (WX z h9)];exact z
 ·have z:=F.un.frzs b o u q;rw[ZP (WX z h9)];exact z
 ·obtain⟨m,z⟩:=F.un.tbls b ps q;exact ã m (Řa (WX z h9) z)
 ·by_cases hb:b=e
  ·subst hb;rw[ZI]at q;cases q;exact Re ⟨oe,vs,h1,h2.1,h3⟩
  ·rw[ZP hb]at q;exact(F.hok b o q).stay (λ_ _ _ r=>r) (λc r=>Řa (WX r h9) r) λc xs r=>Řa (WX r h9) r
end
noncomputable def Ends.gone(D:Ends)(i:Nat):Ends:={ nx:=λσ H=>D.nx (ľd none) H,rt:=D.rt,bk:=λσ H=>D.bk (ľd none) H,ct:=λσ H=>D.ct (ľd none) H }
noncomputable def RTry(K:ZC)(Dc:Z1)(i:Nat)(th:TS)(D:Ends):St->Ť Z0:=λσ cls H'=>∃C,cls=Âe/\Ëd C/\ıc (Ê Dc)=Ĥe /\ ∀e,Ďe e->th (D.gone i) (ľd (Ú e)) (upd H' e (excO e C))
noncomputable def tTry(K:ZC)(Dc:Z1)(i:Nat)(tb:(St->Ť Z0)->TS)(th:TS):TS:=λD σ H=>tb (RTry K Dc i th D) D σ H
section
variable {X:Cx}
theorem FB(hst:X.stack=X.env::X.outer)(hfr:X.env.frame=Ã X.env.locals)(hN:X.N.Nodup)(hD:ExcK X.K Dc)(hm:X.mg cn=Ú Dc)
  (hb:∀(pn:æ) (W:ģ) (R:St->Ť Z0),VR (X.tryC pn W) R->PSs (X.tryC pn W) body (tb R)) (hh:∀v,PSs (X.hand v) (b₀::hs) th)
  (hi:X.N[i]?=Ã n:=by rfl) (hl:X.env.kindOf n=ēe:=by rfl) (hg:Gl X cn:=by rfl) (hdb:Ķb (cn==ć "__debug__"):=by decide) :
  PS X (.Try body [.ExceptHandler (Ã (.Name cn np)) (Ã n) (b₀::hs) hpos] [] [] pos) (tTry X.K Dc i tb th):=by
 intro pins s σ H D I h;refine wpAny_Try_except ?_;have key:VR (X.tryC pins λe s₁=>Ë (noteFrame e X.env) (λ_ s₂=>Ë (setFlight e none) (λ_ s₃=>Ë (handleBy e X.env [.ExceptHandler (Ã (.Name cn np)) (Ã n) (b₀::hs) hpos]) (SP X pins D) s₃) s₂) s₁) (RTry X.K Dc i th D):=by
  rintro pins' σ' H1 s1 e cls H' s' I0 F ⟨C,rfl,kC,hmC,hth⟩;have I1:Inv X pins σ' H1 s1:=I0.tryOut;have F:úb H1 s1 Âe ħb:=F;have J:=I1.fly F;obtain⟨B,a0,fl,st⟩:=OX F J.stack J.stkFree;have frm:X.A.frames=Ã (X.env::X.outer):=by rw[<- hst];exact I1.ok.frames
  rw[hst]at fl;refine wpAny_looks_onW frm hfr fl λh4 g4 u4=>?_;refine wpAny_landsW g4 λh5 g5 u5=>?_;have F5:=st h5 ħb g5.1 g5.2.2.2 (u4.trans u5);have J5:=I1.fly F5;obtain⟨_,oe,_,_,_,_,he,⟨hc,_⟩,_⟩:=F5.tr;refine wpAny_handleBy_cons (codeAny_handlers_test (T6 (X:=X.hand čc) (J5.hand čc) hg hm ?_ hdb)) (by intro q;cases q);refine Ka J5.kIn hD hmC he hc ?_;refine codeAny_handlers_suite_as ?_;refine lands_againW g5 λh6 g6 u6=>?_;have F6:=st h6 ħb g6.1 g6.2.2.2 ((u4.trans u5).trans u6);obtain⟨_,_,_,_,_,_,_,_,_,_,_,_,_,_,⟨he0,_⟩,_,_⟩:=F6.tr;have J6:=(I1.catch F6).hand čc;refine SX (X:=X.hand čc) (v:=čc) J6 hN hi (Ė hl) rfl (λs7 J7=>?_) (Ŀ hl);refine īa (hh čc pins s7 _ _ (D.gone i) J7 (hth e he0)) (λf s8 q8=>?_) (Ő z);have hp:Ķb ĳc:=by rw[I.ok.kind];rfl
  show Ë (do bindName X.env n ħb;unbindBehindTheSuite X.env n hpos) (λ_ s₃=>SP X pins D f s₃) s8;cases f with
  |next =>
   obtain⟨σ8,H8,I8,q⟩:=q8;have I9:=I8.unhand I.ok;obtain⟨m,hn,hml⟩:=id I9.loc;exact ōa
  |brk =>
   obtain⟨σ8,H8,I8,q⟩:=q8;have I9:=I8.unhand I.ok;obtain⟨m,hn,hml⟩:=id I9.loc;exact ōa
  |cont =>
   obtain⟨σ8,H8,I8,q⟩:=q8;have I9:=I8.unhand I.ok;obtain⟨m,hn,hml⟩:=id I9.loc;exact ōa
  |ret u =>
   obtain⟨v,σ8,H8,I8,r,q⟩:=q8;have I9:=I8.unhand I.ok;obtain⟨m,hn,hml⟩:=id I9.loc;exact wpAny_nameGoes_keeps hl hn hp λh' v' hn' hs'=>⟨v,_,H8,I9.gone hN hi hml hn' hs',r,q⟩
 refine īa (hb pins _ _ key [] s σ H D (I.tryIn _) h) (λf s1 q=>?_) z;have q:=SP.tryOut q;cases f with
 |next=>exact Ĺc q
 |brk=>exact q
 |cont=>exact q
 |ret u=>exact q
end
end L2
namespace L2
open PySem PySem.Spec PyProof.Rows
noncomputable def Y6(K:ZC)(C:Z1)(m qual:Str)(st:Z6)(ps:ù):Prop:=∃f fd,Fun K m qual st f fd/\Meth K C m f/\Ņb K []
noncomputable def MtAt(P:Z3)(w:Z5)(K:ZC)(mg:Ą)(base:Z8)(k:Nat)(C:Z1)(m:Str)(ps:ù)(sp:Sp):Prop :=
 ∃f fd,ūa CX0 k/\Meth K C m f/\Ņb K []
noncomputable def MtAtX(P:Z3)(w:Z5)(K:ZC)(mg:Ą)(base:Z8)(k:Nat)(C:Z1)(m:Str)(ps:ù)(sp:Sp):Prop :=
 ∃f,Meth K C m f/\(∀vs H Q E,Če) /\ ∀(A:Z4) (outer:êb) (s:Z2) (H:Hp) (us:š) (vs:ĝ) (Q:VK) (E:XK),õc A->Ųa A->Ŝa vs->ĥa->ŕd outer
section
variable {P:Z3}{w:Z5}{K:ZC}{mg:Ą}{base:Z8}{j k:Nat}{C:Z1}{m qual:Str}{ps:ù}{sp sp':Sp}
theorem MtAt.of{st:Z6}{N:ù}(D:Y6 K C m qual st ps)(S:ä N ps st)(len:∀vs H Q E,Če)
  (hbody:Ă qual (Òd qual)):İ (k+1) m ps sp:=by
 obtain⟨f,fd,F,hm,hb⟩:=D;exact⟨f,fd,F.ok S len λcdv A outer s H vs Q E hr h=>öc h,hm,hb⟩
theorem MtAtX.or(F:ćc k sp)(G:ćc k sp'):ćc k Ģc:=by
 obtain⟨f,a,c,d⟩:=F;obtain⟨f',a',c',d'⟩:=G;have e:=a.at_.symm.trans a'.at_;injection e with e;injection e with e;injection e with e;subst e;exact⟨f,a,λvs H Q E q=>q.elim (c vs H Q E) (c' vs H Q E),ċc ŧc⟩
theorem MtAtX.at{CX:CXT}{f:Z1}{fd:FuncData}(F:ūa CX k)(hm:Meth K C m f)(hb:Ņb K [])(hc:∀l H s E e s',CX l H s E e s'->CXW P w l H s E e s'):ćc k sp:=by
 refine⟨f,hm,F.len,ċc ?_⟩;have hl:us.length=ps.length:=by rw[<- r.length];exact F.len _ _ _ _ q
 refine Āa (F.run A outer s H (ã us []) us vs Q E hr e0 (by simpa using hb s us (e0.mod.kin.keeps λb o z=>(e0.bs b o z).1) (by simpa using hl)) r q);cases res with
 |error ev=>exact hc _ _ _ _ _ _ hq
 |ok fl=>cases fl<;>exact hq
theorem MtAtX.of{st:Z6}{N:ù}(D:Y6 K C m qual st ps)(S:ä N ps st)(len:∀vs H Q E,Če)
  (hbody:Ă qual (û ũc N qual (ZJ st) cdv outer)):ćc (k+1) sp:=by
 obtain⟨f,fd,F,hm,hb⟩:=D;obtain⟨oc,od,kV,doc,pm,an,cdv,ct,osl,rfl,lk,hcd⟩:=F.ex;exact .at (CX:=ũc) (Èd (öc hsp)) hm hb λ_ _ _ _ _ _ z=>z
end
noncomputable def tM(C:Z1)(m:Str)(sp:Sp)(ta:TE)(t:TA):TE:=æa (∃(a dx:Z1) (fs:ġa V),x=œ/\H1 a=Ã (Ŧ fs)/\Ġb m=none/\t σ H1 λvs H2=>sp (x::vs) H2 Q E0)
noncomputable def tMx(C:Z1)(m:Str)(sp:Sp)(R:St->Ť Z0)(ta:TE)(t:TA):TE:=æa (∃(a dx:Z1) (fs:ġa V),x=œ/\H1 a=Ã (Ŧ fs)/\Ġb m=none/\t σ H1 λvs H2=>sp (x::vs) H2 Q Ŷd)
section
variable {X:Cx}{k:Nat}{C:Z1}{m:Str}{ps:ù}{sp:Sp}{e o:Z7}{es:Šc}{ta:TE}{t:TA}{apos pos:Pos}{R:St->Ť Z0}
theorem pe_m(F:ģb m)(c:Cls X.K C)(hr:õc X.A)(he:Œ o ta)(ha:Ōc)
  (hst:Õ ŀ=(false,í e)::Õ es:=by rfl) (hpl:(ąb).any (·.1)=false:=by rfl)
  (ht:í Ôd=(do
   let ov <- í o
   Ľc
   let (f,first) <- holding [ov] (getMethod ov m pl)
   ĳa ŀ):=by rfl) :
  Œ Ôd (tM C m sp ta t):=by
 obtain⟨f,fd,F,hm,hb⟩:=F;have q:=Pf (pl:=pl) (apos:=apos) (pos:=pos) he c hm F hr hb .nil (QS (X:=X)) ha hst hpl ht;intro pins s σ H Q I h;refine q pins s σ H Q I ?_;unfold OE;simp only[List.append_nil];exact h
theorem Yj(F:ģb m)(c:Cls X.K C)(hr:õc X.A)(he:Œ o ta)
  (ht:í (ė m [] pos)=(do
   let ov <- í o
   Ľc
   let (f,first) <- holding [ov] (getMethod ov m pl)
   ĳa []):=by rfl) :
  Œ (ė m [] pos) (tM C m sp ta tNil):=by
 obtain⟨f,fd,F,hm,hb⟩:=F;have q:=Nl (pl:=pl) (apos:=apos) (pos:=pos) he c hm F hr hb .nil (QS (X:=X)) ht;intro pins s σ H Q I h;refine q pins s σ H Q I ?_;unfold OE;simp only[List.append_nil];exact h
theorem O8(F:MtAtX X.prog X.w X.K X.mg X.base k C m ps sp)(c:Cls X.K C)(hr:õc X.A)(hR:VR X R)(he:Œ o ta)(ha:Ōc)
  (hst:Õ ŀ=(false,í e)::Õ es:=by rfl) (hpl:(ąb).any (·.1)=false:=by rfl)
  (ht:í Ôd=(do
   let ov <- í o
   Ľc
   let (f,first) <- holding [ov] (getMethod ov m pl)
   ĳa ŀ):=by rfl) :
  Œ Ôd (tMx C m sp R ta t):=by
 obtain⟨f,hm,hl,run⟩:=F;intro pins s σ H Q I h;refine PySem.W.methodCall_KW (pl:=pl) (thn Òa λu s1 ⟨x,H1,I1,rx,a,dx,fs,ex,ea,l,q⟩=>?_) ht;subst ex;obtain rfl:u=ĩ a:=rx;refine MK I1 ea c hm l ?_;refine PySem.W.callWith_K (first:=[œ]) (h₀:=X.base) I.ok.mod.kin hm.kp (thn (ha pos pins s1 σ H1 _ I1 q) λus s2 ⟨vs,H2,I2,r,q2⟩=>ųb I2.kIn) hst hpl;refine wpAny_call (Āa (Ěe Q));cases res with
 |error ev =>
  obtain⟨e',cls,H',rfl,Fl,rr⟩:=hq;exact ſb H2 s2 I2
 |ok fl =>
  cases fl with
  |ret u=>exact I2.after hq
  |next=>exact Ő hq
  |brk=>exact Ő hq
  |cont=>exact Ő hq
end
end L2
namespace L2
open PySem PySem.Spec PyProof.Rows
section
variable {prog:Z3}{w:Z5}{A:Z4}{R:İc Result}{I:Z1}{fp wr:ãb}{n:Nat}{P:Û Nat Z0}{St:Û Nat Z8}
end
end L2
namespace L2
open PySem PySem.Spec PyProof.Rows
section
variable {prog:Z3}{w:Z5}{A:Z4}{E:ģ}{s:Z2}
end
end L2
namespace L2
open PySem PySem.Spec PyProof.Rows
section
variable {X:Cx}{tg:Z7}
end
end L2
namespace L2
open PySem PySem.Spec PyProof.Rows
section
variable {X:Cx}
noncomputable def GM:ĝ->Ŭa:=λxs H Q=>∃n:Int,xs=[ô n]/\n.natAbs.log2<1920/\Q (ĉ (űa n)) H
theorem UU:YI X (Ŀa "str") GM:=by
 intro pins s σ H xs us Q I rv h;obtain⟨n,rfl,hn,q⟩:=h;obtain⟨u,rfl,ru⟩:=rv.one;obtain⟨t,rfl⟩:=ru;exact P.str_of_int hn (Ãa (ĉ _))
noncomputable def Yo:ĝ->Ŭa:=λxs H Q=>∃(x:Str) (n:Int),xs=[íd]/\intText? x=Ã n/\x.length<=640/\Ðc n
theorem XI:YI X (Ŀa "int") Yo:=by
 intro pins s σ H xs us Q I rv h;obtain⟨x,n,rfl,hn,hl,q⟩:=h;obtain⟨u,rfl,ru⟩:=rv.one;obtain⟨t,rfl⟩:=ru;exact PySem.W.KIN.call_text hn hl (Ãa (ô n))
theorem A2:∀{ws:ù}{us:š},Ŝa (ws.map V.str)->∃l:ġa Tok,strValues l=us/\l.map (·.1)=ws
 | [],[],_=>ő [] Z Z
 |w::ws,_,.cons r rr=>by
  obtain⟨t,rfl⟩:=r;obtain⟨l,rfl,e⟩:=A2 rr;exact ő ((w,t)::l) Z (by rw[Y8,e])
theorem JV:∀l:ġa Tok,Vals ((l.map (·.1)).map V.str) (strValues l)
 | []=>.nil
 | (w,t)::l=>Ŭb (ã t Z) (JV l)
noncomputable def Yp:V->ĝ->Ŭa:=Ŕd (∃(sep:Str) (l:Z1) (ws:ù),x=ĉ sep/\vs=[Ê l]/\H l=Ù (ws.map V.str)/\JoinOk sep ws=true/\Q (ĉ (ŭa sep ws)) H)
theorem TZ:MtR X "str.join" Yp:=by
 intro pins s σ H x vs v us Q I rx rv h;obtain⟨sep,l,ws,rfl,rfl,hH,hok,q⟩:=h;obtain⟨t,rfl⟩:=rx;obtain⟨u,rfl,ru⟩:=rv.one;cases ru;obtain⟨its,n,r,e,z⟩:=I.lst hH;obtain⟨ls,rfl,ew⟩:=A2 r;exact SC.join (şc e Z n Z) ew hok λt' k=>Ãa (ĉ _)
noncomputable def Tb:V->ĝ->Ŭa:=Ŕd (∃(z y:Str),x=ĉ z/\vs=[ĉ y]/\Ķb (y.length==0)/\z.length<=100000/\∀p,ē p->èc p ((ō z y).map V.str))
theorem AC(z y:Str):î Œc<=z.length+2:=by
 unfold Builtin.Str.partsBetween;have h:=StrLaws.occ_length_le z y 0 z.length (z.length+1);rw[ZD,List.length_zip,YL,ZD,WK,VP,Nat.min_self];omega
theorem BW(z y:Str):î (ō z y)<=z.length+2:=by
 unfold Txt.split;split
 ·simp
 ·split
  ·simp
  ·exact AC z y
theorem QE:MtR X "str.split" Tb:=by
 intro pins s σ H x vs v us Q I rx rv h;obtain⟨z,y,rfl,rfl,hy,hz,q⟩:=h;obtain⟨t,rfl⟩:=rx;obtain⟨u,rfl,ru⟩:=rv.one;obtain⟨tu,rfl⟩:=ru;have fin:∀(l:ġa Tok) (tk:Nat),l.map (·.1)=ō z y->Ēc { s with heap:=Ûa (Ğa (strValues l).toArray),toks:=tk }:=λl tk e=>by
  have hl:=BW z y;have hv:=JV l;rw[e]at hv;exact óe (I.lnew (t':=tk) hv (by rw[ZD,sizeLine_eq];omega))
 have hsz:Úe:=by rw[sizeLine_eq];omega
 have hsz2:ø (î Œc):=by have:=AC z y;rw[sizeLine_eq];omega
 cases h1:(è (z.length<y.length)||è (Builtin.Str.strKind z<Builtin.Str.strKind y))
 ·cases hf:(ùa).isEmpty
  ·refine ŧ (F.args_str_split_2 _ _) (meets_str_split_sep z y t tu h1 hy hf hsz hsz2) ?_;show Ēc { s with toks:=_,heap:=Ûa (Ğa (strsFrom s.toks Œc).toArray) };rw[strsFrom_eq];exact fin _ _ ((numbered_texts _ _).trans ((ZE (ŝc h1)).trans (ZE (ŝc hf))).symm)
  ·exact ŧ (F.args_str_split_2 _ _) (meets_str_split_not_found z y t tu h1 hy hf) (fin [(z,t)] s.toks ((ZE (ŝc h1)).trans (ZH hf)).symm)
 ·exact ŧ (F.args_str_split_2 _ _) (meets_str_split_cannot_occur z y t tu h1) (fin [(z,t)] s.toks (ZH h1).symm)
noncomputable def Py:V->ĝ->Ŭa:=Ŕd (∃(z y:Str),x=ĉ z/\vs=[ĉ y]/\ŉb (īc z y))
theorem AA:MtR X "str.startswith" Py:=by
 intro pins s σ H x vs v us Q I rx rv h;obtain⟨z,y,rfl,rfl,q⟩:=h;obtain⟨t,rfl⟩:=rx;obtain⟨u,rfl,ru⟩:=rv.one;obtain⟨tu,rfl⟩:=ru;exact SC.startswith ⟨.bl _,H,I,rfl,q⟩
end
noncomputable def Its(z:Str):It where
 go:=λi _=>i<z.cps.size
 yld:=λi H x H'=>H'=H/\∃c,z.cps[i]?=Ã c/\x=ĉ (ű #[c])
 stop:=λi _=>z.cps.size<=i
end L2
namespace L2
open PySem PySem.Spec PyProof.Rows
theorem Vh(z:Str):æe = "str_ascii_iterator" \/ æe = "str_iterator" := by
 unfold strIterType;split
 ·exact ĭa
 ·exact ôe
theorem Ke{P:Z3}{w:Z5}{K:ZC}{tg:Z7}(z:Str)(t:Tok)(it:Z1):Öc (Its z) (h.IsStrIter it æe z t i) where
 mem:=Í
 obj:=Žd (by
  have e:b=it:=by simpa using hb
  subst e;obtain⟨o,e,c,d⟩:=st;exact ő o e (λv z=>by rw[d]at z;cases z))
 keep:=λi h h' ⟨o,e,c,d⟩ k=>⟨o,k it Í o e,c,d⟩
 item:=by
  intro X hP hw hK hc i pins s σ H E I hf st hg;subst hP hw hK;have hg:i<z.cps.size:=hg;have hx:z.cps[i]?=Ã (z.cps[i]):=by simp[hg]
  obtain⟨f0,f1,f2,f3,f4,f5⟩:=hf it Í;have fin:∀h',h'.IsStrIter it æe z t ůa->đa it h'->∃u,Ã (Value.str (ű #[z.cps[i]]) s.toks)=Ã u/\wpAny Ñ X.A çe (λ_ s2=>∃x H',É H' s2/\Őa x/\(Its z).yld i H x H'/\s2.heap.IsStrIter it æe z t ůa/\∀b∈[it],Ďe b) E { s with heap:=h',toks:=s.toks+1 }:=λh' st' sb=>by
   have I1:É H { s with heap:=h',toks:=s.toks+1 }:=I.turned (t':=s.toks+1) (λb o hb e=>(sb.2 b hb).trans e) f0 f1 f3 f4 f5;obtain⟨o,e,c,d⟩:=id st';refine ža (QN (s:={ s with heap:=h',toks:=s.toks+1 }) e c d ?_ ⟨ĉ (ű #[z.cps[i]]),H,I1,Ôe,⟨Z,_,hx,Z⟩,st',ěa ìd⟩);unfold strIterType;split<;>decide
  have e2:=Vh z;generalize æe=ty at st fin e2 ⊢;rcases e2 with rfl | rfl
  ·exact wpAny_pyNext_ascii_item st hx fin
  ·exact wpAny_pyNext_wide_item st hx fin
 done:=by
  intro X hP hw hK hc i pins s σ H E I hf st hg;subst hP hw hK;have hg:z.cps.size<=i:=hg;have hx:z.cps[i]?=none:=by simp[hg]
  obtain⟨f0,f1,f2,f3,f4,f5⟩:=hf it Í;unfold strIterType at st;split at st
  ·exact wpAny_pyNext_ascii_end Ĵa st hx λh' eb=>ã Z (I.turned (t':=s.toks) Öb f0 f1 f3 f4 f5)
  ·exact wpAny_pyNext_wide_end Ĵa st hx λh' eb=>ã Z (I.turned (t':=s.toks) Öb f0 f1 f3 f4 f5)
 self:=λA i s Q E st h=>by
  unfold strIterType at st;split at st
  ·exact wpAny_pyIter_striter_ascii st h
  ·exact wpAny_pyIter_striter_wide st h
section
variable {X:Cx}{tg:Z7}
noncomputable def iStr(tl:TE):TI:=λσ H R=>tl σ H λx H1=>∃z,x=ĉ z/\R (Its z) H1
theorem F9{l:Z7}{tl:TE}(hl:Œ l tl):PI X tg l (iStr tl):=by
 intro pins s σ H R I h;refine thn Ūd λv s1 ⟨x,H1,I1,r1,q1⟩=>?_;obtain⟨z,e,q⟩:=q1;subst e;obtain⟨t,rfl⟩:=r1;refine wpAny_pyIter_strU ?_;refine ŗa H1 (I1.kept (t':=s1.toks) Ėc) (Ke z t _) q;have e:b=s1.heap.objs.size:=by simpa using hb
 subst e;exact ľa ħ
noncomputable def rSlS:V->ée->ée->Ŭa:=λx lo hi H Q=>∃z:Str,x=ĉ z/\Úe/\Q (ĉ (Txt.slice z lo hi)) H
theorem Vz:SlR X rSlS:=by
 intro pins s σ H x v vl vu lo hi sl Q I rx hs pl pu h;obtain⟨z,rfl,hz,q⟩:=h;obtain⟨t,rfl⟩:=rx;refine⟨"str", _,F.slot_str_getitem.lookup,typeIs_str _ _ _,?_⟩;have fin:∀t' k,Œa (.str (Txt.slice z lo hi) t') { s with toks:=k }:=λt' k=>Ãa (ĉ _);cases pl with
 |none =>
  cases pu with
  |none=>exact wpAny_getItem_str_slice (l:=none) (u:=none) (st:=none) hs rfl Śa
  |int j tj=>exact wpAny_getItem_str_slice (l:=none) (u:=Ã (j,tj)) (st:=none) hs rfl Śa
 |int i ti =>
  cases pu with
  |none=>exact wpAny_getItem_str_slice (l:=Ã (i,ti)) (u:=none) (st:=none) hs rfl Śa
  |int j tj=>exact wpAny_getItem_str_slice (l:=Ã (i,ti)) (u:=Ã (j,tj)) (st:=none) hs rfl Śa
end
end L2
namespace L2
open PySem PySem.Spec PyProof.Rows
section
variable {κ:Type} [DecidableEq κ]
noncomputable def valV(kvs:Ńb)(k:κ):Z9 V:=(kvs.find? Ľa).map (·.2)
noncomputable def putK(kvs:Ńb)(k:κ)(v:V):Ńb :=
 if(âe)=true then kvs.map (λkv=>if kv.1=k then(kv.1,v)else kv)else kvs++[(k,v)]
noncomputable def VD(kvs:Ńb)(k:κ):Ńb:=kvs.filter λkv=>è (kv.1≠k)
theorem Ki:valV ([]:Ńb) k=none:=rfl
theorem V9{p:κ×V}{r:Ńb}{k:κ}(e:p.1=k):valV (p::r) k=Ã p.2:=by simp[valV,List.find?_cons,e]
theorem V2{p:κ×V}{r:Ńb}{k:κ}(e:¬p.1=k):valV (p::r) k=valV r k:=by simp[valV,List.find?_cons,e]
theorem XR(k:κ):∀kvs:Ńb,(âe)=íe ġe
 | []=>rfl
 |p::r=>by
  rw[List.any_cons]
  by_cases e:p.1=k
  ·simp only[V9 e,ZS e,Bool.true_or,Option.isSome_some]
  ·rw[V2 e,ZW e,Bool.false_or];exact XR k r
theorem C9(k j:κ)(y:V):∀kvs:Ńb,valV (kvs.map λkv=>if kv.1=k then(kv.1,y)else kv) j=(Ęa j).map λx=>if j=k then y else x
 | []=>rfl
 |p::r=>by
  have ih:=C9 k j y r;rw[Y8]
  by_cases h:p.1=k
  ·rw[ZH h]
   by_cases e:p.1=j
   ·rw[V9 (p:=(p.1,y)) e,V9 e,Option.map_some,ZH (e.symm.trans h)]
   ·rw[V2 (p:=(p.1,y)) e,V2 e,ih]
  ·rw[ZE h]
   by_cases e:p.1=j
   ·rw[V9 (p:=p) e,V9 e,Option.map_some,ZE (λz=>h (e.trans z))]
   ·rw[V2 (p:=p) e,V2 e,ih]
theorem A1(k j:κ)(y:V):∀kvs:Ńb,ġe=none->valV (kvs++[(k,y)]) j=if j=k then Ã y else Ęa j
 | []=>λ_=>by
  by_cases e:k=j
  ·rw[ZH e.symm];exact V9 (p:=(k,y)) e
  ·rw[ZE (λz=>e z.symm)];exact V2 (p:=(k,y)) e
 |p::r=>λhn=>by
  rw[List.cons_append];have hk:¬p.1=k:=λz=>by rw[V9 z]at hn;cases hn
  rw[V2 hk]at hn;have ih:=A1 k j y r hn
  by_cases e:p.1=j
  ·rw[V9 e,V9 e,ZE (λz=>hk (e.trans z))]
  ·rw[V2 e,V2 e,ih]
theorem SY(kvs:Ńb)(k j:κ)(y:V):valV (Ċb k y) j=if j=k then Ã y else Ęa j:=by
 unfold putK
 by_cases a:(âe)=true
 ·rw[ZH a,C9];rw[XR]at a
  by_cases e:j=k
  ·obtain⟨x,hx⟩:=Option.isSome_iff_exists.mp a;rw[ZH e,e,hx,Option.map_some,ŧb]
  ·rw[ZE e];cases Ęa j with
   |none=>rfl
   |some x=>rw[Option.map_some,ZE e]
 ·rw[ZE a];refine A1 k j y kvs ?_;rw[XR]at a;cases q:ġe with
  |none=>rfl
  |some x=>rw[q]at a;exact(a rfl).elim
theorem RB(kvs:Ńb)(k:κ)(v:V):î ŵd<=kvs.length+1:=by
 unfold putK;split
 ·rw[ZD];omega
 ·rw[WK,YL,List.length_nil];omega
theorem KZ{kvs:Ńb}{k:κ}(v:V)(h:ġe=none):ŵd=kvs++[(k,v)]:=by
 unfold putK;rw[XR,h];exact ZE Ç
theorem RelO.isSome_eq(r:RelO o u):o.isSome=u.isSome:=by
 cases o with
 |none=>cases u with
  |none=>rfl
  |some _=>exact(show False from r).elim
 |some _=>cases u with
  |none=>exact(show False from r).elim
  |some _=>rfl
theorem RelO.getD(r:RelO o u)(rd:RelV d d'):RelV (o.getD d) (u.getD d'):=by
 cases o with
 |none=>cases u with
  |none=>exact rd
  |some _=>exact(show False from r).elim
 |some _=>cases u with
  |none=>exact(show False from r).elim
  |some _=>exact r
theorem KV.val{kvs:Ńb}{vs:ċ κ Z0}(r:åc)(k:κ):RelO ġe (valueAt vs k):=by
 unfold KV at r
 induction r with
 |nil=>exact True.intro
 | @cons p q ps qs h t ih =>
  obtain⟨h1,h2⟩:=h
  by_cases e:p.1=k
  ·have e':q.1=k:=h1.symm.trans e;have b:valueAt (q::qs) k=Ã q.2:=by simp[valueAt,List.find?_cons,e']
   rw[V9 e,b];exact h2
  ·have e':¬q.1=k:=Ēd;have b:valueAt (q::qs) k=valueAt qs k:=by simp[valueAt,List.find?_cons,e']
   rw[V2 e,b];exact ih
theorem KV.any{kvs:Ńb}{vs:ċ κ Z0}(r:åc)(k:κ):(âe)=vs.any Ľa:=by
 unfold KV at r
 induction r with
 |nil=>rfl
 |cons h t ih=>rw[List.any_cons,List.any_cons,ih,h.1]
theorem KV.repl{kvs:Ńb}{vs:ċ κ Z0}(r:åc)(k:κ){y:V}{u:Z0}(ry:Őa y) :
  KV (kvs.map λkv=>if kv.1=k then(kv.1,y)else kv) (vs.map λkv=>if kv.1=k then(kv.1,u)else kv):=by
 unfold KV at r ⊢
 induction r with
 |nil=>exact .nil
 | @cons p q ps qs h t ih =>
  rw[Y8,Y8];refine Ŭb ?_ ih;obtain⟨h1,h2⟩:=h
  by_cases e:p.1=k
  ·rw[ZH e,ZH (h1.symm.trans e)];exact ã h1 ry
  ·rw[ZE e,ZE Ēd];exact ã h1 h2
theorem KV.put{kvs:Ńb}{vs:ċ κ Z0}(r:åc)(k:κ){y:V}{u:Z0}(ry:Őa y):KV (Ċb k y) (stored vs k u):=by
 unfold putK stored;rw[r.any k]
 by_cases e:(vs.any Ľa)=true
 ·rw[ZH e,ZH e];exact r.repl k ry
 ·rw[ZE e,ZE e];exact Paired.snoc r (ã Z ry)
theorem KV.drop{kvs:Ńb}{vs:ċ κ Z0}(r:åc)(k:κ):KV (VD kvs k) (without vs k):=by
 unfold KV at r ⊢;unfold VD without
 induction r with
 |nil=>exact .nil
 | @cons p q ps qs h t ih =>
  obtain⟨h1,h2⟩:=h;rw[List.filter_cons,List.filter_cons]
  by_cases e:p.1=k
  ·have a:¬è (p.1≠k)=true:=by simp[e]
   have b:¬è (q.1≠k)=true:=by simp[h1.symm.trans e]
   rw[ZE a,ZE b];exact ih
  ·have e':¬q.1=k:=Ēd;have a:è (p.1≠k)=true:=by simp[e]
   have b:è (q.1≠k)=true:=by simp[e']
   rw[ZH a,ZH b];exact Ŭb (ã h1 h2) ih
theorem KV.keys{kvs:Ńb}{vs:ċ κ Z0}(r:åc):kvs.map (·.1)=vs.map (·.1):=by
 unfold KV at r
 induction r with
 |nil=>rfl
 |cons h t ih=>rw[Y8,Y8,ih,h.1]
theorem KV.length{kvs:Ńb}{vs:ċ κ Z0}(r:åc):kvs.length=vs.length:=Paired.length r
theorem Ov(kvs:Ńb)(k:κ):î (VD kvs k)<=kvs.length:=X2 _ _
end
theorem TL(r:Őa (kV k)):(Ũa).is k u=true:=by
 cases k with
 |inl i=>obtain⟨t,e⟩:=(show ∃t,u=Value.int i t from r);subst e;exact Dr P w i t
 |inr x=>obtain⟨t,e⟩:=(show ∃t,u=Čc x from r);subst e;exact Ds P w x t
theorem AJ:∀{ks:Đ}{us:š},Ŝa ſc->ItemsAre Ũa ks us
 | [],_=>λr=>by rw[List.map_nil]at r;cases r;exact .nil
 |k::ks,_=>λr=>by
  rw[Y8]at r;cases r with
  |cons h t=>exact Ŭb (TL h) (AJ t)
noncomputable abbrev KT(H:Hp):Û ĩc (ýc Đ):=Paired λp q=>p.1=q.1/\H q.2.1=Ĥ (p.1.map kV)/\RelV p.2 q.2.2
theorem KT.val{H:Hp}{kvs:ĩc}{xs:ýc Đ}(r:åe)(k:Đ):RelO ġe ((Ġe).map (·.2)):=by
 induction r with
 |nil=>exact True.intro
 | @cons p q ps qs h t ih =>
  obtain⟨h1,_,h2⟩:=h
  by_cases e:p.1=k
  ·have e':q.1=k:=h1.symm.trans e;have b:atKey (q::qs) k=Ã q.2:=by simp[atKey,List.find?_cons,e']
   rw[V9 e,b];exact h2
  ·have e':¬q.1=k:=Ēd;have b:atKey (q::qs) k=atKey qs k:=by simp[atKey,List.find?_cons,e']
   rw[V2 e,b];exact ih
theorem KT.repl{H:Hp}{kvs:ĩc}{xs:ýc Đ}(r:åe)(k:Đ){y:V}{u:Z0}(ry:Őa y) :
  KT H (kvs.map λkv=>if kv.1=k then(kv.1,y)else kv) (xs.map (putAt k u)):=by
 induction r with
 |nil=>exact .nil
 | @cons p q ps qs h t ih =>
  rw[Y8,Y8];refine Ŭb ?_ ih;obtain⟨h1,h2,h3⟩:=h;unfold putAt
  by_cases e:p.1=k
  ·rw[ZH e,ZH (h1.symm.trans e)];exact ő h1 h2 ry
  ·rw[ZE e,ZE Ēd];exact ő h1 h2 h3
theorem KT.put{H:Hp}{kvs:ĩc}{xs:ýc Đ}(r:åe)(k:Đ){b:Z1}{y:V}{u:Z0}(hb:H b=Ĥ (k.map kV))(ry:Őa y) :
  KT H (Ċb k y) (storedH xs k b u):=by
 have e:(âe)=íe Ġe:=by
  rw[XR,(r.val k).isSome_eq,Option.isSome_map]
 unfold putK storedH;rw[e]
 by_cases q:íe Ġe=true
 ·rw[ZH q,ZH q];exact r.repl k ry
 ·rw[ZE q,ZE q];exact Paired.snoc r (ő Z hb ry)
theorem KT.keeps{H H':Hp}{kvs:ĩc}{xs:ýc Đ}(r:åe)(ht:∀b ys,H b=Ĥ ys->H' b=Ĥ ys):KT H' kvs xs :=
 Paired.mapP r λ_ _ z=>ő z.1 (ht _ _ z.2.1) z.2.2
section
variable {P:Z3}{w:Z5}{H:Hp}{h:Z8}{a:Z1}
theorem GN(ok:æb)(e:Rd H a u):Ńa a u:=e.ok ok
theorem RO(ok:æb)(e:Rd H a ŭb):Ĕe/\ſ a/\∃vs,åc/\h.DictOf Ũa a vs :=
 show Ńa a ŭb from GN ok e
theorem QK(ok:æb)(e:H a=Ã ŭb):Ĕe/\ſ a/\∃vs,åc/\h.DictOf Ũa a vs:=RO ok (Ė e)
theorem RT(ok:æb)(e:H a=Ĥ ſc):(žd).is h ks a:=by
 obtain⟨_,its,r,o,h1,h2,n,h3⟩:=(show Ńa a (.tup ſc) from ok a _ e);exact⟨o,its.toArray,n,h1,h2,h3,by simpa using AJ r⟩
theorem RQ(ok:æb)(e:Rd H a Ïc):Ĕe/\ſ a /\ ∃xs,åe/\h.DictOfH žd a xs:=by
 obtain⟨z,y,xs,r,o,es,ep,h1,h2,h3,h4,h5⟩:=(show Ńa a Ïc from GN ok e);refine⟨z,y,xs,r,o,es,ep,h1,h2,h3,h4,λx hx=>?_,h5⟩;have all:∀{l:ĩc}{m:ýc Đ},KT H l m->∀x∈m,(žd).is h x.1 x.2.1:=by
  intro l m q
  induction q with
  |nil=>intro x hx;exact nomatch hx
  | @cons p q ps qs hq t ih =>
   intro x hx;rcases ĳd hx with e | hx
   ·subst e;exact RT ok (by rw[<- hq.1];exact hq.2.1)
   ·exact ih x hx
 exact all r x hx
theorem Yy(ok:æb)(e:H a=Ã Ïc):Ĕe/\ſ a /\ ∃xs,åe/\h.DictOfH žd a xs:=RQ ok (Ė e)
end
noncomputable def DGet(H:Hp)(a:Z1)(y:V)(r:Z9 V):Prop :=
 (∃kvs k,Rd H a ŭb/\y=kV k/\r=ġe)\/∃kvs k b,Rd H a Ïc/\y=ťd/\H b=Ĥ (k.map kV)/\r=ġe
noncomputable def DPut(H:Hp)(a:Z1)(y v:V)(H':Hp):Prop :=
 (∃kvs k,H a=Ã ŭb/\y=kV k/\kvs.length<sizeLine/\H'=ſa H a ŵd) \/ ∃kvs k b,H a=Ã Ïc/\y=ťd/\H b=Ĥ (k.map kV)/\kvs.length<sizeLine/\H'=upd H a (.dT ŵd)
theorem DGet.k{H:Hp}{a:Z1}{kvs:Âb}{k:Key}(e:H a=Ã ŭb):DGet H a (kV k) ġe:=Ė ⟨kvs,k,Ė e,Z,Z⟩
theorem DGet.t{H:Hp}{a b:Z1}{kvs:ĩc}{k:Đ}(e:H a=Ã Ïc)(eb:H b=Ĥ (k.map kV)):DGet H a ťd ġe:=Ŀ ⟨kvs,k,b,Ė e,Z,eb,Z⟩
theorem DPut.k{H:Hp}{a:Z1}{kvs:Âb}{k:Key}{v:V}(e:H a=Ã ŭb)(hl:kvs.length<sizeLine):DPut H a (kV k) v (ſa H a ŵd):=Ė ⟨kvs,k,e,Z,hl,Z⟩
theorem DPut.t{H:Hp}{a b:Z1}{kvs:ĩc}{k:Đ}{v:V}(e:H a=Ã Ïc)(eb:H b=Ĥ (k.map kV))(hl:kvs.length<sizeLine) :
  DPut H a ťd v (upd H a (.dT ŵd)):=Ŀ ⟨kvs,k,b,e,Z,eb,hl,Z⟩
section
variable {X:Cx}{pins:Æ âb}{σ:St}{H:Hp}{s:Z2}{a:Z1}{y v:V}{u r:Z0}{o:Z9 V}{A:Z4}{E:ģ}
theorem Ls(hu:ĕb 1)(I:Ĝ)(g:DGet H a y ôc)(ry:Őa y)(h:∀w' s',É H s'->RelV v w'->Q w' s') :
  úa Ñ A (getItem œ u):=by
 rcases g with⟨kvs,k,e,ey,l⟩ | ⟨kvs,k,b,e,ey,eb,l⟩
 ·subst ey;obtain⟨z,hd,vs,rel,dd⟩:=RO I.hok e;obtain⟨w',hw,rw'⟩:=RelO.some_of (v:=v) (o:=valueAt vs k) (by rw[l];exact rel.val k);exact wpAny_getItem_of (TL ry) dd.mapOf hw (h w' _ ħa rw')
 ·subst ey;cases(show u=ĩ b from ry);obtain⟨z,hd,xs,rel,dd⟩:=RQ I.hok e;obtain⟨w',hw,rw'⟩:=RelO.some_of (v:=v) (o:=(Ġe).map (·.2)) (by rw[l];exact rel.val k);obtain⟨p,hp,hp2⟩:=Option.map_eq_some_iff.mp hw;refine wpAny_getItem_heap Ţd (RT I.hok eb) dd hp ?_;rw[hp2];exact h w' _ ħa rw'
theorem Ra(hu:ĕb 1)(I:Ĝ)(g:DGet H a y o)(ry:Őa y)(h:∀s',É H s'->Q (.bool (! o.isSome)) s') :
  úa Ñ A (compareOp .NotIn u œ):=by
 rcases g with⟨kvs,k,e,ey,l⟩ | ⟨kvs,k,b,e,ey,eb,l⟩
 ·subst ey;obtain⟨z,hd,vs,rel,dd⟩:=RO I.hok e;refine wpAny_notIn_of (TL ry) hd dd.mapOf ?_;rw[<- (rel.val k).isSome_eq,<- l];exact h _ ħa
 ·subst ey;cases(show u=ĩ b from ry);obtain⟨z,hd,xs,rel,dd⟩:=RQ I.hok e;refine wpAny_notIn_heap Ţd (RT I.hok eb) hd dd ?_;have q:=(rel.val k).isSome_eq;rw[Option.isSome_map]at q;rw[<- q,<- l];exact h _ ħa
theorem TY(I:Ĝ)(mu:Mut (H a))(hs:đa a h')(he:∃q,İa a=Ã q)(new:ķa (upd H a ob) h' a ob) :
  É (upd H a ob) { s with heap:=h',toks:=t' } :=
 I.write (x:=a) (e:=a) mu ĭa (λb q hb z=>(hs.2 b hb).trans z) he new
theorem LK(z:Ĕe)(hd:ſ a)(rel:åc)(dd:h'.DictOf Ũa a vs) :
  ObjOk P w H' h' a ŭb:=⟨z,hd,vs,rel,dd⟩
theorem Lu(hu:ĕb 1)(I:Ĝ)(g:DPut H a y v H')(ry:Őa y)(rv:RelV v r)(h:∀s',É H' s'->Q () s') :
  úa Ñ A (setItem œ u r):=by
 rcases g with⟨kvs,k,e,ey,l,eH⟩ | ⟨kvs,k,b,e,ey,eb,l,eH⟩
 ·subst ey eH;obtain⟨z,hd,vs,rel,dd⟩:=QK I.hok e;have hz:ģe:=by rw[<- rel.length];exact z
  have hl:ø (î ŵd):=by have:=RB kvs k v;omega
  refine wpAny_setItem_pairs (hsz:=hz) (TL ry) dd λh' dd' hs=>h _ ?_;have he:∃q,İa a=Ã q:=let ⟨q,_,_,hq,_⟩:=dd';ã q hq;exact TY I (by rw[e];exact True.intro) hs he (LK hl hd (rel.put k rv) dd')
 ·subst ey eH;cases(show u=ĩ b from ry);obtain⟨z,hd,xs,rel,dd⟩:=Yy I.hok e;have hz:Ďb:=by rw[<- Paired.length rel];exact z
  have hl:ø (î ŵd):=by have:=RB kvs k v;omega
  refine wpAny_setItem_heap (hsz:=hz) Ţd (RT I.hok eb) dd λh' dd' hs=>h _ ?_;obtain⟨q,es,ep,hq,h2,h3,h4,_,h5⟩:=dd';refine TY I (by rw[e];exact True.intro) hs (ã q hq) ⟨hl,hd,_,(rel.put k eb rv).keeps λc ys ec=>?_,q,es,ep,hq,h2,h3,h4,h5⟩;rw[ZP (XY ec e (λz=>nomatch z))];exact ec
end
section
variable {X:Cx}{pins:Æ âb}{σ:St}{H:Hp}{s:Z2}{a:Z1}{kvs:Æ (Key × V)}{k:Key}{u:Z0}{A:Z4}{E:ģ}
theorem Yw(I:Ĝ)(e:H a=Ã ŭb)(ry:Őa (kV k))(l:ġe=ôc)(hm:more=[]\/∃x,more=[x])
  (h:∀w' s',É (ſa H a (VD kvs k)) s'->RelV v w'->Q w' s'):úa Ñ A (call (Ţ "dict.pop") (œ::u::more)):=by
 obtain⟨z,hd,vs,rel,dd⟩:=QK I.hok e;obtain⟨w',hw,rw'⟩:=RelO.some_of (v:=v) (o:=valueAt vs k) (by rw[<- l];exact rel.val k);have hp:íe (keyPart u)=true:=by
  cases k with
  |inl i=>obtain⟨t,q⟩:=(show ∃t,u=Value.int i t from ry);subst q;rfl
  |inr x=>obtain⟨t,q⟩:=(show ∃t,u=Čc x from ry);subst q;rfl
 have ha:argsOk "dict.pop" (ã (œ::u::more) []):=by
  rcases hm with q | ⟨x,q⟩
  ·subst q;exact PySem.F.args_dict_pop_2 _ _
  ·subst q;exact PySem.F.args_dict_pop_3 _ _ _
 refine call_meetsIn PySem.F.slot_dict_pop dd.typeIs PySem.F.entry_dict_pop ha (meets_dict_pop_there ôd a (TL ry) more hm hp) ⟨vs,w',dd,by rw[<- rel.length];exact z,hw,λh' dd' hs=>h w' _ ?_ rw'⟩
 have he:∃q,İa a=Ã q:=let ⟨q,_,_,hq,_⟩:=dd';ã q hq;exact TY I (by rw[e];exact True.intro) hs he (LK (WB (Ov kvs k) z) hd (rel.drop k) dd')
end
noncomputable def NoSl(i:Z7):Prop:=∀ov iv,subscripted i false ov iv=operate [ov,iv] (getItem ov iv)
theorem KA{prog:Z3}{w:Z5}{A:Z4}{E:ģ}{s:Z2}{env:Env}{value slice:Z7}{pos:Pos}{T id:String}{Q:ģ}
  (hl:typeLookup (Ŀa T) "__getitem__" = pure (Ã (Ţ id))) (hs:NoSl slice)
  (h:å (eval value env) (λo s₁=>å (eval slice env) (λi s₂=>s₂.TypeIs o T/\å (getItem o i) Q E s₂) E s₁) E s) :
  Øc (eval (Ýb value slice pos) env):=by
 refine Subscript_ (WL h (λo s₁ h₁=>WL h₁ (λi s₂ h₂=>?_) λ_ _ x=>x) λ_ _ x=>x);obtain⟨hT,h₂⟩:=h₂;unfold subscriptTail;refine àe;rw[getitemInPython_of_ne hT.not_modules];refine ZA (ĝc hT hl);have fin:å (subscripted slice false o i) (λr s₃=>å (letTemporaryGo value o r >>= λ_=>pure r) Q E s₃) E s₂:=ú (hs o i) (wpAny_operating (WL h₂ (λr s₃ h₃=>ZA (wpAny_letTemporaryGo (ZQ h₃))) λ_ _ x=>x))
 first
  |exact ZQ (ZA fin)
  |exact ùb fin
  |exact ZA fin
theorem Ci(I:Ĝ)(g:DGet H a y o):s.TypeIs œ "dict" := by
 rcases g with⟨kvs,k,e,_,_⟩ | ⟨kvs,k,b,e,_,_,_⟩
 ·obtain⟨_,_,vs,_,dd⟩:=RO I.hok e;exact dd.typeIs
 ·obtain⟨_,_,xs,_,dd⟩:=RQ I.hok e;exact dd.typeIs
noncomputable def Wg(td ty:TE):TE:=Åd (ty σ H1 λy H2=>∃a v,x=œ/\DGet H2 a y ôc/\Q v H2)
noncomputable def Qo(ty td:TE):TE:=ìe (∃a o,x=œ/\DGet H2 a y o/\Q (.bl (! o.isSome)) H2)
noncomputable def Zw(td ty tv:TE):TS:=Ŵa (∃a H4,x=œ/\DPut H3 a y v H4/\Ġd H4)
section
variable {X:Cx}{o i e value:Z7}{pos pos' tpos:Pos}{td ty tv:TE}
theorem XS(hu:če 1)(ho:Œ o td)(hi:Œ i ty)(hs:NoSl i):Œ (Ýb o i pos) (Wg td ty):=by
 intro pins s σ H Q I h;refine ĸc (λu s1 ⟨x,H1,I1,rx,q1⟩=>ïb s1 H1 I1 q1 (λiv s2 ⟨y,H2,I2,ry,a,v,ex,g,q2⟩=>?_));subst ex;obtain rfl:u=ĩ a:=rx;exact ã (Ci I2 g) (Ls hu I2 g ry λw' s3 I3 rw'=>⟨v,H2,I3,rw',q2⟩)
theorem JT(hu:če 1)(hi:Œ i ty)(ho:Œ o td):PC X .NotIn i o (Qo ty td):=by
 intro pins s σ H Q I h;refine thn Ťa λiv s1 ⟨y,H1,I1,ry,q1⟩=>úd (λu s2 ⟨x,H2,I2,rx,a,ov,ex,g,q2⟩=>?_);subst ex;obtain rfl:u=ĩ a:=rx;exact Ra hu I2 g ry λs3 I3=>⟨.bl (! ov.isSome),H2,I3,Z,q2⟩
theorem Q5(hu:če 1)(ho:Œ o td)(hi:Œ i ty)(hv:Œ value tv)(hs:ŋc=œc) :
  ŗb (Zw td ty tv):=by
 intro pins s σ H D I h;refine Ža (λr s1 ⟨v,H1,I1,rv,q1⟩=>úd (λu s2 ⟨x,H2,I2,rx,q2⟩=>ïb s2 H2 I2 q2 (λiv s3 ⟨y,H3,I3,ry,a,H4,ex,g,q3⟩=>?_)));subst ex;obtain rfl:u=ĩ a:=rx;exact Lu hu I3 g ry rv λs4 I4=>⟨σ,H4,I4,q3⟩
end
theorem BC(h:Z8)(hb:sysModules<h.objs.size):ObjOk P w H (h.push (ê "dict" (.dict #[]))) h.objs.size (.dK []) :=
 ⟨WW _,VQ.mpr (ĥ (WF hb)),[],.nil,Heap.DictOf.new h⟩
theorem Ow(h:Z8)(hb:sysModules<h.objs.size):ObjOk P w H (h.push (ê "dict" (.dict #[]))) h.objs.size (.dT []) :=
 ⟨WW _,VQ.mpr (ĥ (WF hb)),[],.nil,_,#[],0,Ĩa,ő Z Z Z,Z,Z,List.nodup_nil⟩
noncomputable def Xh:TE:=λ_ H Q=>∀p,ē p->Ŕ p (ſa H p [])
noncomputable def Xi:TE:=λ_ H Q=>∀p,ē p->Ŕ p (upd H p (.dT []))
section
variable {X:Cx}{pos:Pos}
theorem CY:Œ (.Dict [] [] pos) Xh:=Ļd (wpAny_Dict_empty (ēb (I.laid (a:=s.heap.objs.size) (o:=.dK []) (t':=s.toks) òd ħ (BC s.heap I.big)) (h _ (òb ħ))))
theorem CZ:Œ (.Dict [] [] pos) Xi:=Ļd (wpAny_Dict_empty (ēb (I.laid (a:=s.heap.objs.size) (o:=.dT []) (t':=s.toks) òd ħ (Ow s.heap I.big)) (h _ (òb ħ))))
end
noncomputable def LX:ċ TE TE->St->Û Hp (Ť (ċ V V))
 | [],_,H,Q=>Q [] H
 | (tk,tv)::r,σ,H,Q=>tk σ H λx H1=>tv σ H1 λy H2=>LX r σ H2 λps H3=>Q ((x,y)::ps) H3
noncomputable abbrev VV:Û (ċ V V) (ċ Z0 Z0):=Paired λp q=>RelV p.1 q.1/\RelV p.2 q.2
noncomputable def PPs(X:Cx)(pos:Pos)(keys:Æ (Z9 Z7))(values:Šc)(trs:ċ TE TE):Prop :=
 ∀(pins:æ) (s:Z2) (σ:St) (H:Hp) (Q:Ť (ċ V V)),Ĝ->LX trs σ H Q -> Ë (evalPairs (pairTrees keys values X.env pos)) (λvs s'=>∃ps H',É H' s'/\VV ps vs/\Q ps H') s
theorem Pp:PPs X pos [] [] []:=λpins s σ H Q I h=>pairTrees_nil_walk ⟨[],H,I,.nil,h⟩
theorem Nn(hk:Œ k tk)(hv:Œ v tv)(hr:PPs X pos ks vs trs) :
  PPs X pos (Ã k::ks) (v::vs) ((tk,tv)::trs):=Ļd (pairTrees_cons_walk (thn (hk pins s σ H _ I h) λu s1 ⟨x,H1,I1,rx,q1⟩=>thn (hv pins s1 σ H1 _ I1 q1) λw2 s2 ⟨y,H2,I2,ry,q2⟩ => thn (hr pins s2 σ H2 _ I2 q2) λws s3 ⟨ps,H3,I3,rel,q3⟩=>⟨(x,y)::ps,H3,I3,Ŭb (ã rx ry) rel,q3⟩))
noncomputable def TW(kvs more:Âb):Âb:=more.foldl (λacc kv=>putK acc kv.1 kv.2) kvs
theorem KV.merge:∀{more:Âb}{rs:ċ Key Z0}{kvs:Âb}{vs:ċ Key Z0},KV more rs->åc->KV (TW kvs more) (merged vs rs):=by
 intro more rs kvs vs r;unfold KV at r
 induction r generalizing kvs vs with
 |nil=>intro q;exact q
 | @cons p q ps qs h t ih =>
  intro r0;have e:KV (Ċb p.1 p.2) (stored vs q.1 q.2):=by
   have:=r0.put p.1 h.2;rw[<- h.1];exact this
  exact ih e
theorem Zm:∀(more kvs:Âb),î (TW kvs more)<=kvs.length+more.length
 | []=>λkvs=>by show kvs.length<=kvs.length+0;omega
 |p::r=>λkvs=>by
  have h1:=Zm r (Ċb p.1 p.2);have h2:=RB kvs p.1 p.2;show î (TW (Ċb p.1 p.2) r)<=_;rw[YL];omega
theorem AN:∀{kvs:Âb}{ws:ċ Z0 Z0},VV (kvs.map λkv=>(kV kv.1,kv.2)) ws->∃rs,Carries Ũa ws rs/\KV kvs rs
 | [],_=>λr=>by rw[List.map_nil]at r;cases r;exact ő [] True.intro .nil
 |p::kvs,_=>λr=>by
  rw[Y8]at r;cases r with
  | @cons a b as bs h t =>
   obtain⟨rs,c,q⟩:=AN (P:=P) (w:=w) t;obtain⟨b1,b2⟩:=b;exact ő ((p.1,b2)::rs) (ő (TL h.1) Z c) (Ŭb (ã Z h.2) q)
noncomputable def Wh(trs:ċ TE TE):TE:=ďa (∀p,ē p->LX trs σ (ſa H p []) λps H2=>H2 p=Ã (.dK [])/\∃kvs:Âb,ps=kvs.map (λkv=>(kV kv.1,kv.2))/\kvs.length<=15/\Ŕ p (ſa H2 p (TW [] kvs)))
theorem Pb(h:PPs X pos keys values trs)(hall:keys.all (·.isSome)=true)(hl:keys.length=values.length)(h0:keys≠[])
  (h15:keys.length<=15):Œ (.Dict keys values pos) (Wh trs):=by
 intro pins s σ H Q I q;have hn:=òb (ZO s.heap.objs.size);have I1:=I.laid (a:=s.heap.objs.size) (o:=.dK []) (h':=Ûa (ê "dict" (.dict #[]))) (t':=s.toks) òd ħ (BC s.heap I.big);refine wpAny_Dict_walk (knd:=ôd) hall hl h0 h15 (thn (h pins _ σ _ _ I1 (q _ hn)) λws s2 ⟨ps,H2,I2,rel,e,kvs,ep,lk,q2⟩=>?_);subst ep;obtain⟨rs,c,rk⟩:=AN (P:=X.prog) (w:=X.w) rel;obtain⟨z,hd,vs0,r0,dd⟩:=QK I2.hok e;cases r0;refine⟨rs,c,dd,λh' dd' hs=>ēb ?_ q2⟩;have hz:ø (î (TW [] kvs)):=by
  have h1:=Zm kvs [];rw[List.length_nil]at h1;rw[sizeLine_eq];omega
 have he:∃q,İa s.heap.objs.size=Ã q:=let ⟨q,_,_,hq,_⟩:=dd';ã q hq;exact TY I2 (by rw[e];exact True.intro) hs he (LK hz hd (rk.merge .nil) dd')
structure M1(X:Cx)(o:Z7)(m:Str)(apos:Pos)(e:Z7)(cpos:Pos):Prop where
 base:ģa o m=í o
 few:((Ĭ cpos [e]).all (λx=>! x.1)&&(Ŵ cpos).all (λx=>x.1.isSome) && è (([e]:Šc).length+([]:Æ Keyword).length+(if([]:Æ Keyword).isEmpty then 0 else 1)<30))=true
 line:ĵb
 trees:Ĭ cpos [e]=[(false,í e)]
structure M2(X:Cx)(o:Z7)(m:Str)(apos:Pos)(e f:Z7)(cpos:Pos):Prop where
 base:ģa o m=í o
 few:((Ĭ cpos [e,f]).all (λx=>! x.1)&&(Ŵ cpos).all (λx=>x.1.isSome) && è (([e,f]:Šc).length+([]:Æ Keyword).length+(if([]:Æ Keyword).isEmpty then 0 else 1)<30))=true
 line:ĵb
 trees:Ĭ cpos [e,f]=[(false,í e),(false,í f)]
noncomputable def IsD(H:Hp)(a:Z1):Prop:=(∃kvs,Rd H a ŭb)\/∃kvs,Rd H a Ïc
theorem FS(I:Ĝ)(d:IsD H a) :
  s.TypeIs œ "dict" /\ (∀b,ĩ a=ťd->∃ob,ą b ob/\ob.dict=none)/\ſ a:=by
 rcases d with⟨kvs,e⟩ | ⟨kvs,e⟩
 ·obtain⟨_,hd,vs,_,dd⟩:=RO I.hok e;refine ő dd.typeIs (λb q=>?_) hd;cases q;obtain⟨ob,_,_,h1,h2,_⟩:=dd;exact ő ob h1 h2.2.1
 ·obtain⟨_,hd,xs,_,dd⟩:=RQ I.hok e;refine ő dd.typeIs (λb q=>?_) hd;cases q;obtain⟨ob,_,_,h1,h2,_⟩:=dd;exact ő ob h1 h2.2.1
section
variable {X:Cx}{pins:Æ âb}{σ:St}{H:Hp}{s:Z2}{a:Z1}{y d:V}{u r:Z0}{o:Z9 V}{A:Z4}{E:ģ}
theorem Vx(hu:ĕb 1)(I:Ĝ)(g:DGet H a y o)(ry:Őa y)(rd:RelV d r)(h:∀w' s',É H s'->RelV (o.getD d) w'->Q w' s') :
  úa Ñ A (call (Ţ "dict.get") [œ,u,r]):=by
 rcases g with⟨kvs,k,e,ey,l⟩ | ⟨kvs,k,b,e,ey,eb,l⟩
 ·subst ey;obtain⟨z,hd,vs,rel,dd⟩:=RO I.hok e;refine çc (meets_dict_get_default ôd a (TL ry) hd r) (ő _ dd.mapOf (h _ _ ħa ?_));rw[l];exact(rel.val k).getD rd
 ·subst ey;cases(show u=ĩ b from ry);obtain⟨z,hd,xs,rel,dd⟩:=RQ I.hok e;refine çc (meetsH_dict_get_default (tupleKind ôd) a b hd r) ⟨Ţd,k,xs,RT I.hok eb,dd,h _ _ ħa ?_⟩;rw[l];exact(rel.val k).getD rd
end
noncomputable def Xg(td ty tx:TE):TE:=Åd (∃a,x=œ/\IsD H1 a/\ty σ H1 λy H2=>tx σ H2 λz H3=>∃o,DGet H3 a y o/\Q (o.getD z) H3)
noncomputable def Xj(td ty:TE):TE:=Åd (∃a,x=œ/\IsD H1 a/\ty σ H1 λy H2=>∃kvs k v,H2 a=Ã ŭb/\y=kV k/\ġe=ôc/\Q v (ſa H2 a (VD kvs k)))
section
variable {X:Cx}{o e f:Z7}{apos cpos:Pos}{td ty tx:TE}
theorem CW(hu:če 1)(ho:Œ o td)(he:Œ e ty)(hf:Œ f tx)(m:M2 X o "get" apos e f cpos):Œ (ė "get" [e,f] cpos) (Xg td ty tx):=by
 intro pins s σ H Q I h;refine ăb PySem.F.slot_dict_get PySem.F.type_dict_get (λu s1 ⟨x,H1,I1,rx,a,ex,d,q1⟩=>?_);subst ex;obtain rfl:u=ĩ a:=rx;obtain⟨t1,t2,_⟩:=FS I1 d;refine ő t1 t2 ?_;rw[m.trees];refine Ŝc (λiv s2 ⟨y,H2,I2,ry,q2⟩ => Ĥa (thn (hf pins s2 σ H2 _ I2 q2) λfv s3 ⟨z,H3,I3,rz,ov,g,q3⟩=>įb ?_))
 exact Vx hu I3 g ry rz λw' s4 I4 rw'=>şc H3 I4 rw' q3
theorem Lh(ho:Œ o td)(he:Œ e ty)(m:M1 X o "pop" apos e cpos):Œ (ė "pop" [e] cpos) (Xj td ty):=by
 intro pins s σ H Q I h;refine ăb PySem.F.slot_dict_pop PySem.F.type_dict_pop (λu s1 ⟨x,H1,I1,rx,a,ex,d,q1⟩=>?_);subst ex;obtain rfl:u=ĩ a:=rx;obtain⟨t1,t2,_⟩:=FS I1 d;refine ő t1 t2 ?_;rw[m.trees];refine Ŝc (λiv s2 ⟨y,H2,I2,ry,kvs,k,v,ea,ey,l,q2⟩=>įb ?_);subst ey;exact Yw I2 ea ry l ĭa λw' s3 I3 rw'=>⟨v,_,I3,rw',q2⟩
end
section
variable {X:Cx}{pins:Æ âb}{σ:St}{H:Hp}{s:Z2}{a:Z1}{kvs:Æ (Key × V)}{A:Z4}{E:ģ}
end
section
variable {X:Cx}{pins:Æ âb}{σ:St}{H:Hp}{s:Z2}{a:Z1}{y:V}{u:Z0}{A:Z4}{E:ģ}
end
section
variable {X:Cx}
end
section
variable {κ:Type} [DecidableEq κ]
theorem NY{kvs:Ńb}{k:κ}(h:ġe=none):¬k∈kvs.map (·.1):=by
 intro m;obtain⟨p,hp,e⟩:=Áb m;have q:(âe)=true:=List.any_eq_true.mpr (ő p hp (ZS e));rw[XR,h]at q;exact ń q Í
theorem Qw{kvs:Ńb}{k:κ}{v:V}(h:ġe=ôc):k∈kvs.map (·.1):=by
 have q:(âe)=true:=by
  rw[XR,h]
  all_goals rfl
 obtain⟨p,hp,e⟩:=List.any_eq_true.mp q;exact ZT.mpr (ő p hp (ġ e))
theorem EF:∀{l:Æ κ}{k:κ},l.Nodup->¬k∈l->Çe (l++[k])
 | [],k=>λ_ _=>Í
 |a::r,k=>λh hk=>by
  obtain⟨h1,h2⟩:=VC.mp h;show Çe (a::(r++[k]));refine VC.mpr (ã (λm=>?_) (EF h2 λm=>hk (W9.mpr (Or.inr m))));rcases ũd m with q | q
  ·exact h1 q
  ·exact hk (W9.mpr (Or.inl (V3.mp q).symm))
theorem Sh{kvs:Ńb}{k:κ}(v:V)(hn:Çe (kvs.map (·.1)))(h:ġe=none):Çe ((ŵd).map (·.1)):=by
 rw[KZ v h,W2];exact EF hn (NY h)
end
end L2
namespace L2
open PySem PySem.Spec PyProof.Rows
noncomputable def CBit(i j:Int):Prop:=0<=i/\0<=j
theorem Gj(h:CBit i j):Builtin.bitAnd i j=Ý (i.toNat &&& j.toNat):=by
 unfold Builtin.bitAnd;rw[ZS h.1,ZS h.2]
section
variable {X:Cx}
noncomputable def Ym:R2:=Äb (∃i j:Int,x=ïe/\y=ô j/\CBit i j/\Ðc (Ý (i.toNat &&& j.toNat)))
theorem MT:ãa .BitAnd Ym:=opI λi j _ _ _ _ _ hc q=>and_int (ú (Gj hc) q)
end
section
variable {prog:Z3}{w:Z5}{A:Z4}{E:ģ}{s:Z2}{d it:Z1}{od:Obj}{es:Array DictEntry}{ep i:Nat}
theorem Ju(hd:ſ d)(g:ą d od)(x:od.ExactDict)(y:od.data=ìc)
  (q:Ŕ s.heap.objs.size { s with heap:=Ûa (Įa "dict_keyiterator" #[Ê d,.int 0 0,.int es.size 0,.int ep 0]) }):Øc (pyIter (Ê d)):=by
 have ty:s.TypeIs (Ê d) "dict" := ő od g x.1;refine wpAny_pyIter_slot ty F.slot_dict_iter (ļa F.slot_dict_iter ty F.entry_dict_iter ?_ (F.args_dict_iter_1 _));unfold Builtin.«dict.__iter__»;refine àe;unfold Builtin.Dict.dictSlotNone;refine ZA (wpAny_notOrdered_dict ty (show ā (pure (ĩ d)) s from Ôc));show śc (Builtin.Dict.showsAll d) s;unfold Builtin.Dict.showsAll;rw[ZE (by rw[hd];exact YS)];refine ùb (wpAny_dictEntries g y (ZA (wpAny_dictEpoch g y ?_)));exact ZA (wpAny_newObj_type (ZQ ⟨_,Z, "dict_keyiterator", _,Àe Ĩa,F.slot_dict_keyiterator_next.lookup,by simpa [rawInt]using q⟩))
theorem AL(j:s.heap.IsKeyIter it d i es.size ep)(g:ą d od)(y:od.data=ìc)(hl:i<es.size)
  (q:∀h',h'.IsKeyIter it d ůa es.size ep->đa it h'->Q (Ã es[i].key) { s with heap:=h' }):Øc (pyNext (Ê it)):=by
 obtain⟨o,e1,e2,e3⟩:=id j;unfold pyNext;refine ZA (Ðe (wpAny_callSpecial?_slot (name:=Ø "__next__") j.typeIs F.slot_dict_keyiterator_next Ĩb));refine ùb àe
 first | refine ZA (Ēb (ZA ăd)) | refine ZA (Ŝb (ZA ăd))
 simp only[show Builtin.Dict_items.ownsTuple "dict_keyiterator" = false by decide,Bool.false_eq_true,if_false];show ā (if Íb d then _ else _) s;rw[ZE (show ¬(Íb d) from YS)];refine ùb (wpAny_dictEntries g y ?_);rw[ZE Í];refine ùb (wpAny_dictEpoch g y ?_);rw[ZE Í];refine Ôc;simp only[show ¬(Þ i<0) from À,if_false,YR,ēc hl];refine àe
 first | refine ZA (Ēb (ZA (wpAny_isOneOf_keyiter j.typeIs ?_))) | refine ZA (Ŝb (ZA (wpAny_isOneOf_keyiter j.typeIs ?_)))
 show śc (setField (Ê it) 1 (rawInt (Þ i+1))) s;refine ZA (wpAny_setField e1 e3 Í ?_);have j':(Ŕb it (Obj.mapFields (·.setIfInBounds 1 (rawInt ((i:Int)+1))))).IsKeyIter it d ůa es.size ep:=⟨_,åb e1 e3,(Obj.cls_mapFields ..).trans e2,by rw[Obj.data_mapFields e3];simp[rawInt]⟩;refine ZA (êa (ZA (wpAny_isOneOf_keyiter (s:={ s with heap:=Ŕb it (Obj.mapFields (·.setIfInBounds 1 (rawInt ((i:Int)+1)))) }) j'.typeIs ?_)));show ā (pure es[i].key) _;exact ZQ (ZQ (ža (ZQ (q _ j' (RG ..)))))
theorem Nh(hh:A.handled=none)(j:s.heap.IsKeyIter it d i es.size ep)(g:ą d od)(y:od.data=ìc)(hl:es.size<=i)
  (q:∀h',Heap.ExtBut it s.heap h'->Q none { s with heap:=h' }):Øc (pyNext (Ê it)):=by
 obtain⟨o,e1,e2,e3⟩:=id j;unfold pyNext;refine ZA (Ðe (wpAny_callSpecial?_slot (name:=Ø "__next__") j.typeIs F.slot_dict_keyiterator_next Ĩb));refine ùb àe
 first | refine ZA (Ēb (ZA ăd)) | refine ZA (Ŝb (ZA ăd))
 simp only[show Builtin.Dict_items.ownsTuple "dict_keyiterator" = false by decide,Bool.false_eq_true,if_false];show ā (if Íb d then _ else _) s;rw[ZE (show ¬(Íb d) from YS)];refine ùb (wpAny_dictEntries g y ?_);rw[ZE Í];refine ùb (wpAny_dictEpoch g y ?_);rw[ZE Í];refine Ôc;simp only[show ¬(Þ i<0) from À,if_false,YR,Array.getElem?_eq_none hl];refine àe
 first | refine ZA (Ēb ?_) | refine ZA (Ŝb ?_)
 show śc (setField (Ê it) 0 ħb) s;refine ZA (wpAny_setField e1 e3 Í ?_);show śc (newExc ĕe []) _;refine àe;simp only[newExc,newTuple];refine ZA (Ħd (by size_fits));refine ZA (m:=firstArgMember _ _) (wpAny_of_eq (a:=Value.none) (by first | rfl | (simp only[firstArgMember];rfl)) (Ħd (by size_fits)));simp only[raiseNew];refine ZA (wpAny_handled ?_);rw[show A.in1.handled=none from hh];refine ZA (ZQ (wpAny_throw ?_));exact ZA (wpAny_isInstance (T := "StopIteration") (b:=true) (Àe Ĩa) isSubtype_stop (ZQ (q _ (((RG ..).extBut.push _).push _))))
end
noncomputable def Itd(o:Obj)(d:Z1)(kvs:ĩc):It :=
 ő (λi H=>H d=Ã Ōd/\i<kvs.length) (λi H x H'=>H'=H/\∃b ks v,kvs[i]?=Ã (ks,v)/\x=ťd/\H b=Ĥ ſc) (λi H=>H d=Ã Ōd/\kvs.length<=i)
theorem OW(x:Ńa d Ïc):ſ d/\∃(xs:ýc Đ) (o:Obj) (es:Array DictEntry) (ep:Nat),åe/\őd d/\o.ExactDict/\o.data=ìc/\es.toList=xs.map (entryOfKey žd):=by
 obtain⟨_,hs,xs,r,o,es,ep,h1,h2,h3,h4,_⟩:=x;exact⟨hs,xs,o,es,ep,r,h1,h2,h3,h4⟩
theorem KT.get{H:Hp}{kvs:ĩc}{xs:ýc Đ}(r:åe):∀{i:Nat}{p:Đ×V},kvs[i]?=Ã p->∃q,xs[i]?=Ã q/\H q.2.1=Ĥ (p.1.map kV):=by
 induction r with
 |nil=>intro i p e;simp at e
 | @cons p q ps qs hq t ih =>
  intro i p' e;cases i with
  |zero =>
   simp only[List.getElem?_cons_zero,Option.some.injEq]at e ⊢;subst e;exact ő q Z hq.2.1
  |succ j =>
   simp only[List.getElem?_cons_succ]at e ⊢;exact ih e
theorem Ge{P:Z3}{w:Z5}{K:ZC}{tg:Z7}{o:Obj}{es:Array DictEntry}{ep:Nat}(y:o.data=ìc)(d it:Z1)(kvs:ĩc):Öc (Itd o d kvs) (h.IsKeyIter it d i es.size ep) where
 mem:=Í
 obj:=Žd (by
  have e:b=it:=by simpa using hb
  subst e;obtain⟨u,e,c,d⟩:=st;exact ő u e (λv z=>by rw[d]at z;cases z))
 keep:=Ĝd
 item:=by
  intro X hP hw hK hc i pins s σ H E I hf st hg;subst hP hw hK;obtain⟨hd,hi⟩:=hg;obtain⟨g,ok⟩:=(show Ñe d Ōd from I.hok d _ hd);obtain⟨_,xs,o',es',ep',r,g',_,y',he⟩:=OW ok;have eo:o=o':=WC (g.symm.trans g');subst eo;have ey:=y.symm.trans y';injection ey with e1 e2;subst e1;obtain⟨q,hq,hb⟩:=r.get Ÿd;have hl:i<es.size:=by
   have e3:=õ he;have e4:=Ăb hq;simp at e3;omega
  have hk:es[i].key=Ê q.2.1:=by
   have e3:es.toList[i]?=Ã (entryOfKey (tupleKind ôd) q):=by rw[he,ZX,hq];rfl
   rw[SE,ēc hl]at e3;rw[WC e3];rfl
  obtain⟨f0,f1,f2,f3,f4,f5⟩:=hf it Í;refine AL st g y hl λh' st' sb=>?_;have I1:É H { s with heap:=h' }:=I.turned (t':=s.toks) (λb o hb e=>(sb.2 b hb).trans e) f0 f1 f3 f4 f5;obtain⟨u,e,c,dd⟩:=id st';exact ža (QN (s:={ s with heap:=h' }) e c dd Ç ⟨Ê q.2.1,H,I1,hk,⟨Z,_,_,_,Ÿd,Z,hb⟩,st',ěa ìd⟩)
 done:=by
  intro X hP hw hK hc i pins s σ H E I hf st hg;subst hP hw hK;obtain⟨hd,hi⟩:=hg;obtain⟨g,ok⟩:=(show Ñe d Ōd from I.hok d _ hd);obtain⟨_,xs,o',es',ep',r,g',_,y',he⟩:=OW ok;have eo:o=o':=WC (g.symm.trans g');subst eo;have ey:=y.symm.trans y';injection ey with e1 e2;subst e1;have hl:es.size<=i:=by
   have e3:=õ he;have e4:=Paired.length r;simp at e3;omega
  obtain⟨f0,f1,f2,f3,f4,f5⟩:=hf it Í;exact Nh Ĵa st g y hl λh' eb=>ã Z (I.turned (t':=s.toks) Öb f0 f1 f3 f4 f5)
 self:=Ďd (wpAny_pyIter_keyiter st h)
theorem Inv.freeze(I:Ĝ)(hd:H d=Ã Ïc)(g:ą d o):É (upd H d Ōd) s:=by
 refine I.write (h':=s.heap) (t':=s.toks) (e:=d) (by rw[hd];trivial) ĭa (λ_ _ _ e=>e) (ã o g) (ųb g);obtain⟨z,hs,xs,r,rest⟩:=(show Ñe d Ïc from I.hok d _ hd);exact⟨z,hs,xs,KT.keeps r λb ys e=>Řa (λz=>by rw[z,hd]at e;cases e) e,rest⟩
section
variable {X:Cx}{tg:Z7}
noncomputable def Ue(tl:TE):TI:=λσ H R=>tl σ H λx H1=>∃d kvs,x=Ê d/\((H1 d=Ã Ïc/\∀o,R (Itd o d kvs) (upd H1 d Ōd))\/∃o,H1 d=Ã Ōd/\R (Itd o d kvs) H1)
theorem N9{l:Z7}{tl:TE}(hl:Œ l tl):PI X tg l (Ue tl):=by
 intro pins s σ H R I h;refine thn Ūd λv s1 ⟨x,H1,I1,r1,q1⟩=>?_;obtain⟨d,kvs,e,q⟩:=q1;subst e;cases r1;have fin:∀(o:Obj) (H2:Hp),É H2 s1->H2 d=Ã Ōd->R (Itd o d kvs) H2->Ë (pyIter (Ê d)) (PIE X pins σ tg R) s1:=λo H2 I2 hd hR=>by
  obtain⟨g,ok⟩:=(show ķa H2 s1.heap d Ōd from I2.hok d _ hd);obtain⟨hs,xs,o',es,ep,r,g',x',y',he⟩:=OW ok;have eo:o=o':=WC (g.symm.trans g');subst eo;refine Ju hs g x' y' ?_;refine ŗa H2 (I2.kept (t':=s1.toks) Ėc) (Ge y' d _ kvs) hR;have e:b=s1.heap.objs.size:=by simpa using hb
  subst e;exact I2.fpOk ħ (I2.hok.fresh ħ)
 rcases q with⟨hd,hR⟩ | ⟨o,hd,hR⟩
 ·obtain⟨hs,xs,o,es,ep,r,g,x',y',he⟩:=OW (show ķa H1 s1.heap d Ïc from I1.hok d _ hd);exact fin o _ (I1.freeze hd g) ZI (hR o)
 ·exact fin o H1 I1 hd hR
end
end L2
namespace L2
open PySem PySem.Spec PyProof.Rows
section
variable {M:Model}{A:Z4}{E:ģ}{s:Z2}
theorem Ru{B:Z8}{l:êb}{e L:Z1}{cls a0 fl:Z0}{fr:Z9 Z1}{Q:İc Unit}(st:B.StaysIn s.heap)(hl:s.heap.FunFrames B l)(tr:s.heap.TracedAtW B e cls a0 fl)(hfr:fr=Ã L)
  (k:∀h',B.StaysIn h'->h'.FunFrames B l->h'.TracedAtW B e cls a0 (rawInt L)->s.heap.UpToSlots h'->Q () { s with heap:=h' }):úa M A (setFlight čc fr):=by
 subst hfr;obtain⟨oe,vs,T,oT,ts,q1,q2,q3,q4,q5,q6,q7,q8,q9⟩:=tr;have big:3<ts.size:=(Array.getElem?_eq_some_iff.mp q9).1;have away:∀b,b≠T->(Ŕb T (Obj.mapFields (·.setIfInBounds 3 (rawInt L)))).get? b=s.heap.get? b:=ěa (źc _ _);have nT:∀b o,ěd->(∀vs,o.data≠.fields vs)->b≠T:=λb o hb hn z=>by
  rw[z,q7]at hb;cases hb;exact hn _ q8
 unfold setFlight;refine ZA (wpAny_field q1 q3 q4 ?_);rw[ZH (show(ĩ T != Value.none)=true by simp)];show úa M A (setField (Ê T) 3 (rawInt L));refine wpAny_setField q7 q8 big (k _ (λb o hb=>?_) (hl.of_keeps λb o hb hn=>ő o ((away b (nT b o hb hn)).trans hb) Z) ?_ λb o hb hn=>?_)
 ·exact(away b λz=>by rw[z,q5]at hb;cases hb).trans (st b o hb)
 ·exact⟨oe,vs,T,_,_,(away e (ĥ q6)).trans q1,q2,q3,q4,q5,q6,åb q7 q8,Obj.data_mapFields q8 _,by simp[big]⟩
 ·exact ã o.slots ((away b (nT b o hb hn)).trans hb)
noncomputable def Yk(M:Model)(A:Z4)(E:ģ)(use:Z9 (Z0->Sem Unit))(Q:ģ)(acc:Z0)(cenv:Env)(r:Result)(s':Z2):Prop :=
 match r with
 | .ok f=>compPost M A E use Q acc cenv.locals (.ok f) s'
 | .error x=>∃m,s'.heap.Ns cenv.locals m/\∀h',ĵa cenv.locals s'.heap h'->∀env':Env,env'.frame=cenv.frame->wpAny M A (passOn "comprehension.variables-let-go" x env':Sem Z0) Õa E { s' with heap:=h' }
theorem Vv 
  (hcl:clausesOf e=g::gs) (hs:∀x,foldedSetIterable g.iter env x=pure x) (hclos:closureFor scope env=pure cl) (hkind:scope.kind=.function) (hnames:∀x∈scope.names,x.2=øc->Úb x.1=ēe)
  (h:wpAny M A first (λx s1=>wpAny M A (pyIter x) (λit s2=>wpAny M A newAcc (λacc s3=>wpAny M A (newFunctionEnv scope env.globals cl [] env.qual none ħb (Ã env)) (λcenv s4=>codeAny M A (.compStart e 0 it acc { cenv with scope:=äe }) (Yk M A E use Q acc cenv) s4) E s3) E s2) E s1) E s) :
  úa M A (comprehension e scope env pos newAcc false first use):=by
 unfold comprehension;rw[hclos,hcl];refine ZA (īa h (λx s1 h1=>ZA (ùc (wpAny_of_eq (hs x) (ZA (êa (īa h1 (λit s2 h2=>wpAny_standIf (ZA (īa h2 (λacc s3 h3=>ùb (īa h3 (λcenv s4 h4=>?_) z)) z))) z)))))) z);dsimp only;generalize hw:(scope.names.filter λx=>(x.2 == øc||x.2 == .cell)&&x.1 != ć ".0").reverse=vs;have hv:∀x∈vs,x.2=øc->Env.kindOf { cenv with scope:=äe } x.1=ēe:=λx hx hl=>lookup_relabel_local (hnames x (by rw[<- hw]at hx;exact(Üd (List.mem_reverse.mp hx)).1) hl);refine êa (ZA (Ðe (êa (wpAny_run (codeAny_mono h4 λr s' hr=>?_)))));cases r with
 |ok f =>
  cases use with
  |none =>
   obtain⟨m,hn,hr⟩:=hr;exact ZA (êa (wpAny_comp_letGo (cenv:={ cenv with scope:=äe }) hkind _ s' m hv hn λh' m' _ hs'=>ZQ (hr h' hs')))
  |some u =>
   refine ZA (ŝd (ZA (êa (īa hr (λ_ s'' hr'=>?_) z))));obtain⟨m,hn,hr'⟩:=hr';exact ZA (wpAny_comp_letGo (cenv:={ cenv with scope:=äe }) hkind _ s'' m (λx hx hl=>hv x ((ũd hx).elim List.mem_of_mem_drop List.mem_of_mem_take) hl) hn λh' m' _ hs'=>ZQ (hr' h' hs'))
 |error x =>
  obtain⟨m,hn,hr⟩:=hr;exact ZA (êa (wpAny_comp_letGo (cenv:={ cenv with scope:=äe }) hkind _ s' m hv hn λh' m' _ hs'=>WL (hr h' hs' _ rfl) (λ_ _ f=>f.elim) λ_ _ y=>y))
end
theorem Ko(hEE:EE=notedBy þ A env λe s'=>R (.error e) s')(I:İc Nat)
  (turn:∀n s,I n s->å (pyNext it) (λr s₁=>match r with
   |none=>R (.ok .next) s₁
   |some v=>üc (if r=true then do let ok <- isTrue c env (eval c env);ŝ ok else ŝ r) (if ok=true then ňc (∃m,m<n/\I m s₅) EE else ∃m,m<n/\I m s₃) EE) EE s)
  (n:Nat) (h:I n s) :
  Ĉe:=by
 subst hEE;refine codeAny_loop rfl I (λn s hI=>?_) n h;show wpAny _ A ((compTurn (ý target ifs) 0 it acc env).onRaise (λy=>do noteFrame y env;theTreesLotGoes y)) _ _ s;refine wpAny_noted ?_;rw[compTurn_list];refine ZA (ùc (īa (turn n s hI) (λr s₁ h₁=>?_) z));cases r with
 |none=>exact ZQ h₁
 |some v =>
  refine ZA (īa h₁ (λ_ s₁' h₁'=>?_) z);refine ZA (īa h₁' (λ_ s₂ h₂=>ZA (īa h₂ (λok s₃ h₃=>?_) z)) z);cases ok with
  |false=>exact ZQ (ã Z h₃)
  |true =>
   exact ZA (ZA (īa h₃ (λx s₄ h₄=>ZA (īa h₄ (λ_ s₅ h₅=>ZQ (ZQ (ã Z h₅))) z)) z))
noncomputable def GF(X:Cx)(R:St->Ť Z0):Prop:=∀(pins:æ) (σ:St) (H':Hp) (s':Z2) (e:Z1) (cls:Z0),É H' s'->Trc s'.heap H' X.s₀.heap e cls (rawInt X.env.locals)->R σ cls H' -> ∀(what:String) (cenv:Env),cenv.frame=X.env.frame->Ë (passOn what čc cenv:Sem Z0) Õa s'
theorem Jv{P:Z3}{w:Z5}{K:ZC}{mg:Ą}{base:Z8}{N:ù}{qual:Str}{scope:Scope}{f:Z1}{cd:Z0}{A:Z4}{outer:êb}{s:Z2}{H:Hp}{E:XK} :
  GF (Éb ũc cd) λ_ cls H'=>E cls none H':=by
 intro pins σ H1 s1 e cls I tr r what cenv hcf;have sub:∀b∈frs outer,b∈frs (Ī::outer):=ěa (by
  unfold frs;rw[List.filterMap_cons];exact UV _ hb)
 have F0:Fli P w (Ī::outer) H s e cls (rawInt s.heap.objs.size) H1 s1:=⟨I.os,I.bare,I.base.mono sub Żd,I.hok,tr⟩;obtain⟨B,a0,⟨b1,b2,b3,b4⟩,st⟩:=OX F0 I.stack I.stkFree;obtain⟨_,oe,vs,T,_,_,h1,_,h3,h4,_⟩:=id tr;have go:wpAny (model P w) (A.deeper Ī) (do setFlight čc cenv.frame;throw čc:Sem Z0) Õa (Éb ũc cd).xe s1:=by
  refine ZA (Ru (L:=s.heap.objs.size) b1 b3 b4 (hcf.trans rfl) λh' k1 k2 k3 u=>wpAny_throw ?_);show ā (leaving Ī čc) _;unfold leaving;refine ZA (wpAny_noteFrame_againW (L:=s.heap.objs.size) rfl k3 ?_);refine wpAny_landsW (L:=s.heap.objs.size) ⟨k1,b2,k2,k3⟩ λh'' g u2=>?_;have F2:=st h'' ħb g.1 g.2.2.2 (u.trans u2);refine⟨e,cls,H1,Z,⟨F2.os,F2.bare,⟨λb o q n hb hx=>?_,λb o q n hb hx=>?_,F2.un.free,F2.un.there,F2.un.tups,F2.un.frzs,F2.un.tbls⟩,F2.hok,F2.tr⟩,r⟩
  ·refine F2.un.keep b o q n Îc hx;unfold frs at z hb;rw[List.filterMap_cons]at z;rcases ĳd z with z | z
   ·exact ń (W8 q) (by rw[z];exact X1 _)
   ·exact hb z
  ·exact F2.un.any q n hx
 unfold PySem.passOn;refine ZA (wpAny_field h1 h3 h4 ?_);rw[ZE (show ¬(Íb T) by simp)]
 first
  |exact go
  |exact ZA (ZQ go)
noncomputable def Xf(wi:TI)(g:TG)(tc:TT)(te:(St->Ť Z0)->TE)(R:St->Ť Z0)(ix:Æ ğc):TE:=ďa (wi σ H (şd (te λ_ cls H'=>R σ cls H')))
theorem Cf{X:Cx}{tg iter elt:Z7}{ifs:Šc}{scope:Scope}{pos:Pos}{g:TG}{tc:TT}{te:(St->Ť Z0)->TE}{R:Ť Z0}{N':ù}{ix:Æ ğc}{pins:æ}{σ:St}{s2:Z2}{itv:Z0}{Q:VK}{cl:ġa Z1}
  {RR:Z0->Env->İc Result} (hst:X.stack=X.env::X.outer) (hfr:X.env.frame=Ã X.env.locals) (hex0:X.ex=[]) (hc:èa) (K:ßa) (e2:∀x c,œb=Ã c->ť=Ã c) (e3:∀x,(x,NameKind.free)∈scope.names->∃c,œb=Ã c)
  (hg:∀cl C s2 H2 ex,īd) (ht:∀cl C s2 H2 ex,Öd)
  (he:∀cl C s2 H2 ex W R,VR ((Ăa).wish W) R->PE ((Ăa).wish W) elt (te R))
  (h2:PIE X pins σ tg (şd (te λ_ cls H'=>R cls H')) itv s2)
  (hRR:∀H2 fp C D cenv σ3 H3 s4,cenv.locals=C->É H2 s2->(∀b∈fp,şa H2)->s2.heap.objs.size<=C->ýd->Ŕ D H3->RR (Ê D) cenv (.ok .next) s4)
  (hRX:∀H2 fp C D cenv σ3 H3 s4 e cls,cenv.locals=C->cenv.frame=X.env.frame->É H2 s2->(∀b∈fp,şa H2)->s2.heap.objs.size<=C->ýd->Trc s4.heap H3 X.s₀.heap e cls (rawInt X.env.locals)->R cls H3->RR (Ê D) cenv (.error čc) s4) :
  Ë (newList []) (ř ifs { cenv with scope:=çb } cenv) s2:=by
 obtain⟨it,fp,tn,J,H2,rfl,I2,T,st2,f2,q⟩:=h2;refine Ŷa (by intro y hy;simp at hy);dsimp only at hns1 hsb1 ⊢;generalize hP:s2.heap.push { cls:=Ĉb,dict:=none,data:=.seq ([]:š).toArray }=P2 at hns1 hsb1 ⊢;have hCs:P2.objs.size=s2.heap.objs.size+1:=by rw[<- hP,Heap.size_push]
 have hC:s2.heap.objs.size<=P2.objs.size:=À
 have hDC:s2.heap.objs.size≠P2.objs.size:=À
 have old:∀b o,s2.heap.get? b=ţ->h1.get? b=ţ:=Âc (hP▸WD _ e)
 have hacc:h1.get? s2.heap.objs.size=Ã { cls:=Ĉb,dict:=none,data:=.seq ([]:š).toArray } :=
  hsb1.extBut _ _ hDC (WD _ (hP▸Ĩa))
 have hD:H2 s2.heap.objs.size=none:=I2.hok.fresh ħ;have hCn:H2 P2.objs.size=none:=I2.hok.fresh hC;obtain⟨W,⟨m0,w0⟩,turn⟩:=q s2.heap.objs.size hD;have hex:∀b∈fp,b<s2.heap.objs.size:=ěa (by
  obtain⟨o,e,_⟩:=T.obj 0 _ st2 b hb;exact W8 e)
 have YOk:=KK (cl:=cl) (C:=P2.objs.size) (ex:=fp) I2 K e2 e3 hC f2 hex;have hok1:įc èb h1:=Ŀc;have IY:Inv Ğ [] ýb èb { s2 with heap:=h1,toks:=s2.toks+([]:ġa Z0).length }:=by
  refine⟨YOk,Z,I2.bare,?_,ő _ hns1 (λi x v e1 e4 e5=>?_),áe,?_,áe,Ļ (ń (show p∈([]:æ) from hp) Í),hok1,?_⟩
  ·exact(Un.laid old ħ hD).mono Żd Żd
  ·rw[ZX]at e4;cases e6:ix[i]? with
   |none=>rw[e6]at e4;cases e4
   |some o =>
    rw[e6]at e4;cases o with
    |none=>cases(WC e4)
    |some j =>
     have e7:σ[j]?=Ã ôc:=JU (WC e4);obtain⟨n1,n2⟩:=K.src i j x e1 e6;have hm:=ób n2;have kx:=K.fr _ hm rfl;obtain⟨m,hn,hl⟩:=I2.loc;obtain⟨u,r,l⟩:=Ťb;refine ő u r (ūb ?_ ?_)
     ·exact MQ n2
     ·rcases l with⟨k1,_⟩ | ⟨_,c,hc1,hc2⟩
      ·exfalso;have k1':ŋ x=ēe:=k1;rcases kx with z | z
       ·rw[k1']at z;cases z
       ·rw[k1']at z;cases z
      ·obtain⟨c',hc'⟩:=e3 x hm;have e8:=e2 x c' hc';rw[hc1]at e8;cases e8;obtain⟨o,ho,hd⟩:=hc2;exact⟨c,hc',o,old _ _ ho,hd⟩
  ·obtain⟨v,o,ho,hd⟩:=Ác;exact⟨v,o,old _ _ ho,hd⟩
  ·show ũa P2.objs.size=none;rw[ZP (ĥ hDC)];exact hCn
  ·obtain⟨v,z⟩:=Ác;rw[ZP (WF z.lt)];exact I2.freeC x c (e2 x c e)
  ·rw[ZD];exact K.len
 have hnf:∀b∈fp,b≠P2.objs.size:=ěa Ęe;have stat:∀{H':Hp},(∀b∈fp,Ďe b)->∀b∈fp,FpOk Ğ [] H' b:=Ćb ((Øe).2.2.2.2.1 x c (e2 x c e)) (show p∈([]:æ) from hp)
 generalize hcv:({ scope:=scope,locals:=P2.objs.size,globals:=X.env.globals,cells:=cl,qual:=X.env.qual,func:=none,code:=X.env.code,frame:=X.env.frame,builtins:=X.env.builtins }:Env)=cv;have hcl1:cv.locals=P2.objs.size:=by rw[<- hcv]
 have hcl2:cv.frame=X.env.frame:=by rw[<- hcv]
 have loop:∀s₃:Z2,s₃ = { s2 with heap:=h1,toks:=s2.toks+([]:ġa Z0).length } -> Ŕa ifs cv:=by
  rintro s₃ rfl;obtain⟨EE,hEE⟩:∃EE,EE=notedBy Ñ X.A Ça λe s'=>RR (Ê s2.heap.objs.size) cv (.error e) s':=Ôe;have fly:VR ((Ğ).wish EE) λ_ cls H'=>R cls H':=by
   intro pins' σ' H1' s1' e cls H' s' I0 F r;have I1:Inv Ğ pins' σ' H1' s1':=I0.unwish;have F:úb H1' s1' cls ħb:=F;have J:őb Ğ pins':=I1.fly F;obtain⟨B,a0,fl,st⟩:=OX F J.stack J.stkFree;have frm:X.A.frames=Ã (X.env::X.outer):=by rw[<- hst];exact I2.ok.frames
   rw[hst]at fl;subst hEE;show wpAny _ X.A (noteFrame čc X.env) _ _ s';refine wpAny_looks_onW frm hfr fl λh4 g4 u4=>?_;have F4:=st h4 (rawInt X.env.locals) g4.1 g4.2.2.2 u4;have J4:Inv Ğ pins' σ' H' { s' with heap:=h4 }:=I1.fly F4;refine hRX H2 fp P2.objs.size s2.heap.objs.size cv σ' H' { s' with heap:=h4 } e cls hcl1 hcl2 I2 f2 hC (J4.pins_of (Ļ (nomatch hp))) ?_ r;have new0:∀b,s1'.heap.get? b=none->æc=none:=ěa (by
    cases q:æc with
    |none=>rfl
    |some o =>
     by_cases hbf:b∈fp
     ·rcases(f2 b hbf).2.2.2.1 with z | z
      ·rw[hex0]at z;cases z
      ·exact Ëc (W8 q) z
     ·obtain⟨o1,q1⟩:=I2.base.there b o q (by rw[hex0];simp);obtain⟨o2,q2⟩:=I1.base.there b o1 q1 hbf;rw[hb]at q2;cases q2)
   obtain⟨a0',oe,vs,T',oT,ts,k1,k2,k3,k4,k5,k6,k7,k8,k9,k11,k12⟩:=F4.tr;exact⟨a0',oe,vs,T',oT,ts,k1,k2,k3,k4,k5,k6,k7,k8,k9,new0 _ k11,new0 _ k12⟩
  refine Ko hEE (λn s'=>∃i ys σ' H',őb Ğ []/\tn i s'.heap/\(∀b∈fp,Ďe b)/\Ïe n) ?_ m0 ⟨0,[],_,_,IY,óa st2 (old b o e),Óa,w0⟩
  ·rintro n s3 ⟨i,ys,σ3,H3,I3,st3,fr3,w3⟩;obtain⟨hDl,tt⟩:=turn i n ys σ3 H3 w3;rcases tt with⟨stop,qn⟩ | ⟨go,step⟩
   ·refine īa (ða Ğ [] Õa) (λr s4 ⟨hr,I4⟩=>?_) z.elim;subst hr;exact hRR H2 fp P2.objs.size s2.heap.objs.size cv σ3 H3 s4 hcl1 I2 f2 hC I4 qn
   ·refine īa (āa Ğ [] Õa) (λr s4 ⟨u,hr,h4⟩=>?_) z.elim;subst hr;refine īa h4 (λ_ s5 ⟨x,H5,I5,r5,y5,st5,fr5⟩=>?_) z.elim;have I5':=Ùb;refine īa Ôb (λ_ s6 ⟨σ6,H6,I6,q6⟩=>?_) (Ő z);refine īa (ht cl P2.objs.size s2 H2 fp _ s6 σ6 H6 _ I6 q6) (λb s7 ⟨H7,I7,q7⟩=>?_) (Ő z);have again:∀{s8:Z2}{H8:Hp}{ys':ĝ}{m':Nat},Inv Ğ ([]++RU fp s5.heap) σ6 H8 s8->m'<n->W ůa m' ys' σ6 H8 -> ∃m,m<n/\∃i ys σ' H',Inv Ğ [] σ' H' s8/\tn i s8.heap/\(∀b∈fp,Ďe b)/\Ïe m:=λ{s8 H8 ys' m'} I8 hm w8=>by
     refine⟨m',hm,ůa,ys',σ6,H8,I8.unpinned,óa st5 (I8.pin (b,o) ęa).1,Óa,w8⟩;obtain⟨o,e,d⟩:=Šd;exact(I8.pin (b,o) ęa).2.1
    cases b with
    |false =>
     obtain⟨m',hm,w7⟩:∃m',m'<n/\W ůa m' ys σ6 H7:=q7;exact again I7 hm w7
    |true =>
     have q7':te (λ_ cls H'=>R cls H') σ6 H7 _:=q7;show ā (eval elt Ça) _;refine īa (he cl P2.objs.size s2 H2 fp EE _ fly _ s7 σ6 H7 _ (I7.wish EE) q7') (λyv s8 ⟨y,H8,I8,r8,hD8,hz8,m',hm,w8⟩=>?_) z;refine īa (TC (X:=Ğ) _ s8 σ6 H8 (Ê s2.heap.objs.size) [y] (Ê s2.heap.objs.size) [yv] ßd I8.unwish rfl (Ŭb r8 .nil) ⟨_,ys,y,Z,Z,hD8,hz8,Z⟩) (λ_ s9 ⟨_,H9,I9,_,e9⟩=>?_) (Ő z)
     subst e9;exact again I9 hm w8
  ·show ũa b=none;rw[ZP (WF (hex b hb))];exact(Øe).1
 have hcc:codeAny Ñ X.A (.compStart (ý tg ifs) 0 (Ê it) (Ê s2.heap.objs.size) Ça) (RR (Ê s2.heap.objs.size) cv) { s2 with heap:=h1,toks:=s2.toks+([]:ġa Z0).length } :=
  áa
 subst hcv;exact hcc
theorem Np{X:Cx}{tg iter elt:Z7}{ifs:Šc}{scope:Scope}{pos spos py:Pos}{y:Str}{wi:TI}{g:TG}{tc:TT}{te:(St->Ť Z0)->TE}{R:St->Ť Z0}(N':ù)(ix:Æ ğc)(osc:Scope)(N:ù){i:Nat}(nd:X.N.Nodup)(hiy:X.N[i]?=Ã y)(hxy:Ŋb y)
  (hst:X.stack=X.env::X.outer) (hfr:X.env.frame=Ã X.env.locals) (hex0:X.ex=[]) (hR:GF X R)
  (hc:èa) (hi:ęc) (ok:TR osc scope N N' ix=true)
  (hg:∀cl C s2 H2 ex,īd) (ht:∀cl C s2 H2 ex,Öd)
  (he:∀cl C s2 H2 ex W R,VR ((Ăa).wish W) R->PE ((Ăa).wish W) elt (te R))
  (hsc:X.env.scope=osc:=by rfl) (hN:X.N=N:=by rfl) (hs:∀x,ča=pure x:=by intro _;rfl)
  (hsw:Ŵc ifs=pure true:=by rfl) (hf:Ĳ y:=by first | exact ĭa | exact ôe | assumption) :
  ġd Ĕb (ý tg ifs) spos (Xf wi g tc te R ix):=by
 intro pins s σ H D I h;have K0:=NP ok;have K:ßa:=by rw[hsc,hN];exact K0
 obtain⟨cl,hclos,e2,e3⟩:=MG (scope:=scope) (env:=X.env) Ĥb;rw[Şd];refine ZA (ùc ?_);show wpAny _ X.A (do let _ <- comprehension (.ListComp elt [⟨tg,iter,ifs,0⟩] scope pos) scope X.env _ (newList []) false (eval iter X.env) (some (assign (.Name y py) X.env))) _ _ s;refine ZA (ŉd (Vv (use:=Ã (assign Ĕb X.env)) (Q:=λ_ s'=>SP X pins D .next s') rfl hs hclos K.kind K.names (ŉd Ťa Ùc)) (λ_ s' hq=>ZQ (ZQ hq)))
 refine Cf hst hfr hex0 hc K e2 e3 hg ht he h2 (λH2 fp C L cenv σ3 H3 s4 hcC I2 f2 hC I4 qn=>?_) λH2 fp C L cenv σ3 H3 s4 e cls hcC hcF I2 f2 hC I4 tr r=>?_
 ·subst hcC;have I5:É H3 s4:=PQ I2 f2 hC I4 (Heap.SameBut.refl ..);obtain⟨m,hn,_⟩:=I4.loc;have hn:s4.heap.Ns cenv.locals m:=hn;have fC:FpOk X pins H3 cenv.locals:=I2.fpOk hC I4.free;show Ĭc;refine wpAny_assign_Name (MN I5 nd hiy hxy (v:=Ê L) rfl (λs5 I6 hch=>?_) hf);obtain⟨a,sb,ha⟩:=hch;have nCa:cenv.locals≠a:=by
   rcases ha with z | ha
   ·rw[z];exact fC.2.1
   ·exact λz=>fC.2.2.2.2.1 y a ha z.symm
  refine ő m (hn.sameBut sb nCa) (λh' sb'=>⟨_,H3,?_,qn⟩);obtain⟨f0,f1,f2',f3,f4,f5⟩:=fC;exact I6.turned (t':=s5.toks) (λb o hb e=>(sb'.2 b hb).trans e) f0 f1 f3 f4 f5
 ·subst hcC;obtain⟨m,hn,_⟩:=I4.loc;have hn:s4.heap.Ns cenv.locals m:=hn;refine ő m hn (λh' sb env' hf'=>hR pins σ H3 { s4 with heap:=h' } e cls (PQ I2 f2 hC I4 sb) ?_ r _ env' (hf'.trans hcF));obtain⟨oC,es,ep,hoC,hdC,_⟩:=hn;obtain⟨a0,oe,vs,T,oT,ts,k1,k2,k3,k4,k5,k6,k7,k8,k9,k11,k12⟩:=tr;have ne:∀b o vs,s4.heap.get? b=ţ->o.data=.fields vs->b≠cenv.locals:=λb o vs h1 h2 z=>by
   rw[z,hoC]at h1;cases h1;rw[hdC]at h2;cases h2
  exact⟨a0,oe,vs,T,oT,ts,(sb.2 e (ne e oe vs k1 k3)).trans k1,k2,k3,k4,k5,(sb.2 T (ne T oT ts k6 k7)).trans k6,k7,k8,k9,k11,k12⟩
end L2
namespace L2
open PySem PySem.Spec PyProof.Rows
section
variable {X:Cx}{a b o:Z7}{ta tb to:TE}{pos:Pos}
noncomputable def PEg(X:Cx)(e:Z7)(t:TE):Prop :=
 ∀(pins:æ) (s:Z2) (σ:St) (H:Hp) (Q:VK),Ĝ->Ŝd->Ë (í e) (λu s'=>1<=s'.toks/\Œa u s') s
noncomputable def Ws(y z:Str)(to:TE):TE:=ďa (to σ H λv H1=>∃x,v=íd/\x.length<=1048576/\Q (ĉ (ĉa x y z)) H1)
end
end L2
namespace L2
open PySem PySem.Spec PyProof.Rows Builtin Builtin.Str
section
variable {X:Cx}
theorem Ee:MtR X "str.lstrip" (Ŕd (∃(z y:Str),x=ĉ z/\vs=[ĉ y]/\Úe/\Q (ĉ (Ăe z y)) H)):=by
 intro pins s σ H x vs v us Q I rx rv h;obtain⟨z,y,rfl,rfl,hz,q⟩:=h;obtain⟨t,rfl⟩:=rx;obtain⟨u,rfl,ru⟩:=rv.one;obtain⟨tu,rfl⟩:=ru;exact SC.lstripChars (λt' k=>Ãa (ĉ _)) hz
theorem Jb:MtR X "str.split" (Ŕd (∃(z y:Str) (k:Int),x=ĉ z/\vs=[ĉ y,ô k]/\Ķb (y.length==0)/\z.length<=1000000/\0<=k/\k<=1000/\î (Ĵc z y k)<=100000/\∀p,ē p->èc p ((Ĵc z y k).map V.str))):=by
 intro pins s σ H x vs v us Q I rx rv h;obtain⟨z,y,k,rfl,rfl,hy,hz,k0,k1,hl,q⟩:=h;obtain⟨t,rfl⟩:=rx;obtain⟨u,v2,rfl,ru,rv2⟩:=rv.two;obtain⟨tu,rfl⟩:=ru;obtain⟨tv,rfl⟩:=rv2;have hk:Ķb (è (k < -(2 ^ 63:Int))||è (k≥2 ^ 63)):=by
  rw[ZW À,ZW À];rfl
 have big:ø (ũ 100000):=Ç
 have fin:∀(l:ġa Tok) (tk:Nat),l.map (·.1)=Ĵc z y k->Ēc { s with heap:=Ûa (Ğa (strValues l).toArray),toks:=tk }:=λl tk e=>by
  have hv:=JV l;rw[e]at hv;exact óe (I.lnew (t':=tk) hv (by rw[ZD];omega))
 have hsz:Úe:=by rw[sizeLine_eq];omega
 cases h1:(è (z.length<y.length)||è (strKind z<strKind y))
 ·cases hf:(occurrences z y 0 z.length (limitOf z k)).isEmpty
  ·have e0:Ĵc z y k=àb:=(ZE (ŝc h1)).trans (ZE (ŝc hf));have hsz2:ø (î àb):=by rw[<- e0];omega
   refine ŧ (F.args_str_split_3 _ _ _) (meets_str_split_sep_max z y k t tu tv hk h1 hy hf hsz hsz2) ?_;show Ēc { s with toks:=_,heap:=Ûa (Ğa (strsFrom s.toks àb).toArray) };rw[strsFrom_eq];exact fin _ _ ((numbered_texts _ _).trans e0.symm)
  ·exact ŧ (F.args_str_split_3 _ _ _) (meets_str_split_max_not_found z y k t tu tv hk h1 hy hf) (fin [(z,t)] s.toks ((ZE (ŝc h1)).trans (ZH hf)).symm)
 ·exact ŧ (F.args_str_split_3 _ _ _) (meets_str_split_max_cannot_occur z y k t tu tv hk h1) (fin [(z,t)] s.toks (ZH h1).symm)
noncomputable def tFs2(c:Str)(ta tb:TE):TE:=æa (∃i,x=ïe/\i.natAbs.log2<1920/\î (űa i)<=1000/\c.length<=1000/\tb σ H1 λy H2=>∃j,y=ô j/\j.natAbs.log2<1920/\î (űa j)<=1000/\Q (ĉ (űa i++c++űa j)) H2)
theorem O1(x:Str):Str.empty++x=x:=by
 show(ű (_++_):Str)=_;simp[Str.empty]
theorem TX(x y:Str):î (x++y)=x.length+y.length:=by
 show(x.cps++y.cps).size=_;rw[Array.size_append];rfl
theorem Tu(ha:Ód)(hb:Œ b tb):Œ (.JoinedStr [.FormattedValue a (-1) none p1,ŵa c j p2,.FormattedValue b (-1) none p3] pos) (tFs2 c ta tb):=by
 intro pins s σ H Q I h;have big:ø (ũ 3000):=Ç
 refine JoinedStr_many (joinParts_cons (FormattedValue_plain (ŉ _ (λv s1 ⟨x,H1,I1,r1,i,e,hl,hz,hc,h1⟩=>?_))));subst e;obtain⟨t,rfl⟩:=r1;refine formatField_int_small hl (ųb (by rw[O1];omega));refine joinParts_cons (śb (ųb (by rw[O1,TX];omega)));refine joinParts_cons (FormattedValue_plain (thn (hb pins _ σ H1 _ ((I1.tok _).tok _) h1) λv2 s2 ⟨y,H2,I2,r2,k,e2,hl2,hz2,q⟩=>?_));subst e2;obtain⟨t2,rfl⟩:=r2;refine formatField_int_small hl2 (ųb (by rw[O1,TX,TX];omega));refine joinParts_nil ?_ (by rw[O1,TX,TX];omega);rw[O1];exact⟨ĉ _,H2,(I2.tok _).tok _,Ôe,q⟩
noncomputable def isTr:Z0->Bool
 | .bool b=>b
 |_=>false
theorem LO:∀{bs:Æ Bool}{us:š},Ŝa ōd->us=ïd
 | [],_,.nil=>rfl
 |b::bs,_,.cons r t=>by
  cases r;rw[LO t];rfl
theorem GC(b:Bool):SeqAt.EqAt A s (.bool b) Śc (isTr (.bool b)):=by
 have:=SeqAt.EqAt.bool_bool (A:=A) (s:=s) b true
 rwa[show(b==true)=isTr (.bool b) by cases b<;>rfl]at this
theorem Ii:MtM X "list.count" (Ŕd (∃(l:Z1) (bs:Æ Bool),x=Ê l/\vs=[Ĩ]/\Ðd l ōd/\Q (Ó (bs.countP id)) H)):=by
 intro pins s σ H x vs v us Q I rx rv h;obtain⟨l,bs,rfl,rfl,hq,q⟩:=h;cases rx;obtain⟨u,rfl,ru⟩:=rv.one;cases ru;obtain⟨its,r,pl,hz⟩:=ĳb;have e:=LO r;subst e;obtain⟨⟨cls,dd,data,sl⟩,n,ho,hc,hdd,hd⟩:=pl;simp only at hc hd;subst hc hd;refine call_meets PySem.F.slot_list_count (Àe ho) PySem.F.entry_list_count (PySem.F.args_list_count_2 _ _) (SeqAt.list_countAt l (ïd).toArray n dd sl Śc isTr) (ő ho (λy hy=>?_) ?_)
 ·obtain⟨b,_,rfl⟩:=Áb (List.mem_toArray.mp hy);exact GC b
 ·have e2:((ïd).toArray.toList.countP isTr)=bs.countP id:=by
   rw[show(ïd).toArray.toList=ïd by simp,List.countP_map];rfl
  rw[e2];exact Ãa (ô _)
theorem Ik:MtM X "list.index" (Ŕd (∃(l:Z1) (bs:Æ Bool) (j:Nat),x=Ê l/\vs=[Ĩ]/\Ðd l ōd/\bs[j]?=Ĥe/\(∀m,m<j->bs[m]?=Ã false)/\j<=1000/\Q (Ó j) H)):=by
 intro pins s σ H x vs v us Q I rx rv h;obtain⟨l,bs,j,rfl,rfl,hq,hj,hno,hj1,q⟩:=h;cases rx;obtain⟨u,rfl,ru⟩:=rv.one;cases ru;obtain⟨its,r,pl,hz⟩:=ĳb;have e:=LO r;subst e;obtain⟨⟨cls,dd,data,sl⟩,n,ho,hc,hdd,hd⟩:=pl;simp only at hc hd;subst hc hd;obtain⟨hj2,hj3⟩:=YK.mp hj;refine call_meets PySem.F.slot_list_index (Àe ho) PySem.F.entry_list_index (PySem.F.args_list_index_2 _ _) (SeqAt.list_indexAt l (ïd).toArray n dd sl Śc isTr j (by simpa using hj2) À ?_ λm hm hmj=>?_) (ő ho (λy hy=>?_) (Ãa (ô _)))
 ·simp[hj3,isTr]
 ·obtain⟨h1,h2⟩:=YK.mp (hno m hmj);simp[h2,isTr]
 ·obtain⟨b,_,rfl⟩:=Áb (List.mem_toArray.mp hy);exact GC b
end
end L2
namespace L2
open PySem PySem.Spec PyProof.Rows
noncomputable def TopD(K:ZC)(w:Z5)(a:Z1)(fs:ġa Z1):Prop :=
 ∃es n,Ľd a=Ã ⟨Ŀa "dict",none,.dict es n,#[]⟩/\PySem.W.KeysLit w.params es.toList/\ſ a/\∀x,findBy Value.isStrOf es x=(Ġb x).map Value.ref
section
variable {X:Cx}
theorem Cb:ķ .NotIn (Äb (∃z a fs,x=ĉ z/\y=œ/\TopD X.K X.w a fs/\ŉb (! íe (Ġb z)))):=by
 intro pins s σ H x y v u Q I rx ry h;obtain⟨z,a,fs,rfl,rfl,⟨es,n,hl,hk,lo,hf⟩,q⟩:=h;obtain⟨t,rfl⟩:=rx;cases ry;refine wpAny_notIn_of (strKind_is X.prog X.w z t) lo (PySem.W.mapOf_K (prog:=X.prog) (I.ok.mod.kin.keeps I.bk) hl hk) ?_;rw[hf,Option.isSome_map];exact Ĕc _ ħa
theorem FV:IxR X (Äb (∃a z fs b,x=œ/\y=ĉ z/\TopD X.K X.w a fs/\Ġb z=Ã b/\Ŕ b H)):=by
 intro value slice pins s σ H x y v u Q I rx ry h hs;obtain⟨a,z,fs,b,rfl,rfl,⟨es,n,hl,hk,lo,hf⟩,hb,q⟩:=h;cases rx;obtain⟨t,rfl⟩:=ry;have hm:=PySem.W.mapOf_K (prog:=X.prog) (I.ok.mod.kin.keeps I.bk) hl hk;exact tail_any hm.typeIs slot_dict_getitem.lookup (wpAny_getItem_of (strKind_is X.prog X.w z t) hm (v:=ťd) (by rw[hf,hb];rfl) ⟨ťd,H,ħa,Z,q⟩) hs
end
end L2
namespace L2
open PySem PySem.Spec PyProof.Rows
section
variable {prog:Z3}{w:Z5}{A:Z4}{E:ģ}{s:Z2}
theorem EV(q:s.heap.IsTupleIter it t i)(qt:s.heap.IsTuple t vs)(qx:vs[i]?=äd)
  (fin:∀h2,h2.IsTupleIter it t ůa->đa it h2->Q x { s with heap:=h2 }):Øc (Ēa it):=by
 obtain⟨b,hb,cb,db⟩:=id q;obtain⟨bt,hbt,_,m,dbt⟩:=qt;unfold Builtin.SmallTypes.nextOf;refine ZA (wpAny_callSpecial?_slot (name:=Ø "__next__") q.typeIs F.slot_tuple_iterator_next Œb);show Øb it 0;refine ZA (wpAny_field hb db (x:=Ê t) rfl ?_);show ā (if Íb t then _ else _) _;rw[ZE (show ¬(Íb t) from YS)];show Øb it 1;refine ZA (wpAny_field hb db (x:=.int i 0) rfl ?_);show śc (seqItems? (Ê t)) _;refine ZA (Şb hbt dbt ?_);simp only[YR,qx];refine ZA (wpAny_setField hb db Í (ZQ (ő x Z (ZQ (fin _ ⟨_,åb hb db,(Obj.cls_mapFields ..).trans cb,by rw[Obj.data_mapFields db];simp[rawInt]⟩ (RG ..))))))
theorem Qt(hh:A.handled=none)(q:s.heap.IsTupleIter it t i)(qt:s.heap.IsTuple t vs)(qx:vs[i]?=none)
  (fin:∀h2 e,Heap.ExtBut it s.heap h2->(∃o,h2.get? e=ţ/\o.cls=ĕe)->E čc { s with heap:=h2 }):Øc (Ēa it):=by
 obtain⟨b,hb,cb,db⟩:=id q;obtain⟨bt,hbt,_,m,dbt⟩:=qt;unfold Builtin.SmallTypes.nextOf;refine ZA (wpAny_callSpecial?_slot (name:=Ø "__next__") q.typeIs F.slot_tuple_iterator_next Œb);show Øb it 0;refine ZA (wpAny_field hb db (x:=Ê t) rfl ?_);show ā (if Íb t then _ else _) _;rw[ZE (show ¬(Íb t) from YS)];show Øb it 1;refine ZA (wpAny_field hb db (x:=.int i 0) rfl ?_);show śc (seqItems? (Ê t)) _;refine ZA (Şb hbt dbt ?_);simp only[YR,qx];refine ZA (ŝd (ZA (wpAny_setField hb db Í ?_)));show śc (newExc ĕe []) _;refine àe;simp only[newExc,newTuple];refine ZA (Ħd (by size_fits));refine ZA (m:=firstArgMember _ _) (wpAny_of_eq (a:=Value.none) (by first | rfl | (simp only[firstArgMember];rfl)) ?_);refine Ħd (by size_fits);simp only[raiseNew];refine ZA (wpAny_handled ?_);first | rw[show A.in1.handled=none from hh] | rw[hh]
 refine ZA (ZQ (wpAny_throw (fin _ _ (((RG ..).extBut.push _).push _) (Àe Ĩa))))
noncomputable def NxI(prog:Z3)(w:Z5)(it:Z1)(x:Z0)(B C:Z8->Prop):Prop :=
 ∀(A:Z4) (s:Z2) (Q:ģ) (E:ģ),B s.heap->(∀h2,C h2->đa it h2->Q x { s with heap:=h2 })->Øc (Ēa it)
noncomputable def NxE(prog:Z3)(w:Z5)(it:Z1)(B:Z8->Prop):Prop :=
 ∀(A:Z4),A.handled=none->∀(s:Z2) (Q:ģ) (E:ģ),B s.heap->(∀h2 e,Heap.ExtBut it s.heap h2->(∃o,h2.get? e=ţ/\o.cls=ĕe)->E čc { s with heap:=h2 })->Øc (Ēa it)
noncomputable def VS(z TO i:Z1)(B:Z8->Prop):Prop:=∀h h2,B h->(∀b o,b≠z->b≠TO->b≠i->őd b->h2.get? b=ţ)->B h2
structure Zd(z TI TO i1 i2:Z1):Prop where
 a:TI≠z
 b:TO≠z
 c:i1≠z
 d:i2≠z
 e:TI≠TO
 f:TI≠i1
 g:TI≠i2
 h:TO≠i1
 i:TO≠i2
 j:i1≠i2
theorem Gh{z TI TO i1 i2:Z1}{x y a b:Z0}{B1 B2 C1 C2:Z8->Prop}{Q:ģ}(D:ĥd)
  (n1:Će) (n2:NxI prog w i2 y B2 C2) (k1:VS z TO i2 B1) (k2:VS z TO i1 B2) (k3:VS z TO i2 C1) (k4:VS z TO z C2)
  (hz:źa s.heap ħb) (hI:Łb s.heap) (hO:ďd s.heap) (h1:B1 s.heap) (h2:B2 s.heap)
  (fin:∀hq,źa hq (rawInt s.heap.objs.size)->IsPair hq TO x y->C1 hq->C2 hq->IsPair hq s.heap.objs.size x y->hq.objs.size=Ýd -> (∀c o,c≠z->c≠TO->c≠i1->c≠i2->ą c o->hq.get? c=ţ)->Ŕ s.heap.objs.size { s with heap:=hq }) :
  å (Builtin.«zip.__next__» (ã [Ê z] [])) (λr s'=>∃v,r=.done (.ret v)/\Q v s') E s:=by
 show Øb z 2;refine ZA (wpAny_field hz rfl (x:=.bool false) rfl ?_);show Øb z 3;refine ZA (wpAny_field hz rfl (x:=Ê TI) rfl ?_);refine Íe hI;show śc (Builtin.SmallTypes.ownedTupleIsFree (Ê z)) _;refine àe;unfold Builtin.SmallTypes.ownedTupleIsFree;refine ZA (wpAny_field hz rfl (x:=ħb) rfl Ôc);simp only[if_true];refine ZA (ŝd ?_);refine ZA (wpAny_field hz rfl (x:=Ê TO) rfl ?_);refine ZA (âd hz (λg1 hz1 s1=>?_));have hz1:źa g1 .ellipsis:=hz1;refine àe;simp only[List.zipIdx_cons,List.zipIdx_nil,List.forIn_cons,List.forIn_nil];refine ZA (ZA (wpAny_onRaise ?_));show śc (Ēa i1) _;refine ZA (n1 _ _ _ _ (k1 _ _ h1 λb o c1 _ _ e=>Àd c1 e) λg2 c2 s2=>Ôc);have hO2:ďd g2:=s2.extBut _ _ D.h (Àd D.b hO);refine Íe hO2;refine ZA (wpAny_updateSeq_pair hO2 λg3 hO3 s3=>?_);have hO3:IsPair g3 TO x b:=hO3;refine ZA (wpAny_letGo Ôc);refine ZA (ZA (wpAny_onRaise ?_));show śc (Ēa i2) _;refine ZA (n2 _ _ _ _ (k2 _ _ h2 λb o c1 c2 c3 e=>Ąb c2 c3 (Àd c1 e)) λg4 c4 s4=>Ôc);have hO4:IsPair g4 TO x b:=s4.extBut _ _ D.i hO3;refine Íe hO4;refine ZA (wpAny_updateSeq_pair hO4 λg5 hO5 s5=>?_);have hO5:IsPair g5 TO x y:=hO5;refine ZA (wpAny_letGo (ZQ Ôc));refine Íe hO5;refine ZA (wpAny_newTuple ?_);have sz:g5.objs.size=s.heap.objs.size:=by rw[s5.1,s4.1,s3.1,s2.1,s1.1]
 have hz5:źa g5 .ellipsis:=s5.extBut _ _ D.b.symm (s4.extBut _ _ D.d.symm (Ąb D.b.symm D.c.symm hz1));have ck1:C1 g5:=k3 _ _ c2 λb o _ q2 q3 e=>s5.extBut _ _ q2 (s4.extBut _ _ q3 (s3.extBut _ _ q2 e));have ck2:C2 g5:=k4 _ _ c4 λb o _ q2 _ e=>s5.extBut _ _ q2 e;have all:∀c o,c≠z->c≠TO->c≠i1->c≠i2->ą c o->g5.get? c=ţ:=λc o q1 q2 q3 q4 e=>s5.extBut _ _ q2 (s4.extBut _ _ q4 (Ąb q2 q3 (Àd q1 e)));have zl:z<g5.objs.size:=W8 hz5;show śc (Builtin.SmallTypes.ownedTupleHandOut (Ê z) (Ê g5.objs.size)) _;refine àe;unfold Builtin.SmallTypes.ownedTupleHandOut;have hz6:źa (g5.push (čd #[x,y])) .ellipsis:=WD _ hz5;refine ZA (âd hz6 (λg7 hz7 s7=>?_));have hz7:źa g7 (rawInt g5.objs.size):=hz7;refine âd hz7 (λg8 hz8 s8=>?_);have hz8:źa g8 (rawInt g5.objs.size):=hz8;have up:∀c o,c≠z->g5.get? c=ţ->g8.get? c=ţ:=λc o q1 e=>s8.extBut _ _ q1 (s7.extBut _ _ q1 (WD _ e));have hT8:IsPair g8 g5.objs.size x y:=s8.extBut _ _ (Nat.ne_of_gt zl) (s7.extBut _ _ (Nat.ne_of_gt zl) Ĩa);have sz8:g8.objs.size=g5.objs.size+1:=by rw[s8.1,s7.1,Heap.size_push]
 rw[sz]at hz8 hT8 sz8;refine ZQ (ë Z);show Ŕ g5.objs.size _;rw[sz];exact fin g8 hz8 (up _ _ D.b hO5) (k3 _ _ ck1 λb o q1 _ _ e=>up _ _ q1 e) (k4 _ _ ck2 λb o q1 _ _ e=>up _ _ q1 e) hT8 sz8 λc o q1 q2 q3 q4 e=>up c o q1 (all c o q1 q2 q3 q4 e)
theorem Kj{z TI TO i1 i2:Z1}{a b:Z0}{B1 B2 C1:Z8->Prop}{Q:İc Fin}(hh:A.handled=none)(D:ĥd)
  (n1:NxE prog w i1 B1\/∃x,Će/\NxE prog w i2 B2) (k1:VS z TO i2 B1) (k2:VS z TO i1 B2)
  (hz:źa s.heap ħb) (hI:Łb s.heap) (hO:ďd s.heap) (h1:B1 s.heap) (h2:B2 s.heap)
  (fin:∀hq e,(∀c o,c≠z->c≠TO->c≠i1->c≠i2->ą c o->hq.get? c=ţ)->(∃o,hq.get? e=ţ/\o.cls=ĕe)->E čc { s with heap:=hq }) :
  Øc (Builtin.«zip.__next__» (ã [Ê z] [])):=by
 show Øb z 2;refine ZA (wpAny_field hz rfl (x:=.bool false) rfl ?_);show Øb z 3;refine ZA (wpAny_field hz rfl (x:=Ê TI) rfl ?_);refine Íe hI;show śc (Builtin.SmallTypes.ownedTupleIsFree (Ê z)) _;refine àe;unfold Builtin.SmallTypes.ownedTupleIsFree;refine ZA (wpAny_field hz rfl (x:=ħb) rfl Ôc);simp only[if_true];refine ZA (ŝd ?_);refine ZA (wpAny_field hz rfl (x:=Ê TO) rfl ?_);refine ZA (âd hz (λg1 hz1 s1=>?_));have hz1:źa g1 .ellipsis:=hz1;refine àe;simp only[List.zipIdx_cons,List.zipIdx_nil,List.forIn_cons,List.forIn_nil];refine ZA (ZA (wpAny_onRaise ?_));show śc (Ēa i1) _;have b1:B1 g1:=k1 _ _ h1 λb o c1 _ _ e=>Àd c1 e;rcases n1 with n1 | ⟨x,n1,n2⟩
 ·refine ZA (n1 _ hh _ _ _ b1 λg2 e s2 he=>?_);obtain⟨oe,go,ce⟩:=he;have hz2:źa g2 .ellipsis:=s2 _ _ D.c.symm hz1;have ez:e≠z:=λx=>by subst x;rw[hz2]at go;cases go;simp at ce
  exact âd hz2 (λg3 _ s3=>fin g3 e (λc o q1 _ q3 _ x=>s3.extBut _ _ q1 (s2 _ _ q3 (Àd q1 x))) (ő oe (s3.extBut _ _ ez go) ce))
 ·refine ZA (n1 _ _ _ _ b1 λg2 c2 s2=>Ôc);have hO2:ďd g2:=s2.extBut _ _ D.h (Àd D.b hO);refine Íe hO2;refine ZA (wpAny_updateSeq_pair hO2 λg3 hO3 s3=>?_);refine ZA (wpAny_letGo Ôc);refine ZA (ZA (wpAny_onRaise ?_));show śc (Ēa i2) _;refine ZA (n2 _ hh _ _ _ (k2 _ _ h2 λb o c1 c2 c3 e=>Ąb c2 c3 (Àd c1 e)) λg4 e s4 he=>?_);obtain⟨oe,go,ce⟩:=he;have hz4:źa g4 .ellipsis:=s4 _ _ D.d.symm (Ąb D.b.symm D.c.symm hz1);have ez:e≠z:=λx=>by subst x;rw[hz4]at go;cases go;simp at ce
  exact âd hz4 (λg5 _ s5=>fin g5 e (λc o q1 q2 q3 q4 x=>s5.extBut _ _ q1 (s4 _ _ q4 (Ąb q2 q3 (Àd q1 x)))) (ő oe (s5.extBut _ _ ez go) ce))
theorem Cy{z TI TO i1 i2:Z1}{x y a b:Z0}{B1 B2 C1 C2:Z8->Prop}{Q:İc (Z9 Z0)}(D:ĥd)
  (n1:Će) (n2:NxI prog w i2 y B2 C2) (k1:VS z TO i2 B1) (k2:VS z TO i1 B2) (k3:VS z TO i2 C1) (k4:VS z TO z C2)
  (hz:źa s.heap ħb) (hI:Łb s.heap) (hO:ďd s.heap) (h1:B1 s.heap) (h2:B2 s.heap)
  (fin:∀hq,źa hq (rawInt s.heap.objs.size)->IsPair hq TO x y->C1 hq->C2 hq->IsPair hq s.heap.objs.size x y->hq.objs.size=Ýd -> (∀c o,c≠z->c≠TO->c≠i1->c≠i2->ą c o->hq.get? c=ţ)->Q (Ú s.heap.objs.size) { s with heap:=hq }) :
  Øc (pyNext (Ê z)):=by
 have ty:s.TypeIs (Ê z) "zip" := Àe hz;unfold pyNext;exact ZA (Ðe (wpAny_callSpecial?_slot (name:=Ø "__next__") ty F.slot_zip_next (ñe (Gh D n1 n2 k1 k2 k3 k4 hz hI hO h1 h2 λhq a1 a2 a3 a4 a5 a6 a7=>ZQ (fin hq a1 a2 a3 a4 a5 a6 a7)))))
theorem Cc{z TI TO i1 i2:Z1}{a b:Z0}{B1 B2 C1:Z8->Prop}{Q:İc (Z9 Z0)}(hh:A.handled=none)(D:ĥd)
  (n1:NxE prog w i1 B1\/∃x,Će/\NxE prog w i2 B2) (k1:VS z TO i2 B1) (k2:VS z TO i1 B2)
  (hz:źa s.heap ħb) (hI:Łb s.heap) (hO:ďd s.heap) (h1:B1 s.heap) (h2:B2 s.heap)
  (fin:∀hq,(∀c o,c≠z->c≠TO->c≠i1->c≠i2->ą c o->hq.get? c=ţ)->Q none { s with heap:=hq }):Øc (pyNext (Ê z)):=by
 have ty:s.TypeIs (Ê z) "zip" := Àe hz;unfold pyNext;refine ZA (Ðe (wpAny_callSpecial?_slot (name:=Ø "__next__") ty F.slot_zip_next (ñe (Kj hh D n1 k1 k2 hz hI hO h1 h2 λhq e hk he=>?_))))
 obtain⟨o,ho,hc⟩:=he;exact ZA (wpAny_isInstance (T := "StopIteration") (b:=true) (ő o ho hc) isSubtype_stop (ZQ (fin _ hk)))
noncomputable abbrev zq1(h:Z8)(l1:Z1):Z8:=h.push (Įa "tuple_iterator" #[Ê l1,.int 0 0])
noncomputable abbrev zq2(h:Z8)(l1 l2:Z1):Z8:=(zq1 h l1).push (Įa "list_iterator" #[Ê l2,.int 0 0])
noncomputable abbrev zq3(h:Z8)(l1 l2:Z1):Z8:=(zq2 h l1 l2).push (čd #[Ê h.objs.size,Ê (Íc (zq1 h l1))])
noncomputable abbrev zq4(h:Z8)(l1 l2:Z1):Z8:=(zq3 h l1 l2).push (čd #[ħb,ħb])
noncomputable abbrev zq5(h:Z8)(l1 l2:Z1):Z8:=(zq4 h l1 l2).push (Įa "zip" #[ħb,.bool false,.bool false,Ê (Íc (zq2 h l1 l2)),Ê (Íc (zq3 h l1 l2))])
theorem Dq(l1 l2:Z1)(xs ys:Array Z0):Meets (Builtin.«zip.__new__» (ã [Ŀa "zip", Ê l1,Ê l2] [])) (λ_ R s=>s.heap.IsTuple l1 xs/\s.heap.IsList l2 ys /\ R (.ok (.ret (Ê (Íc (zq4 s.heap l1 l2))))) { s with heap:=ŀc }) :=
 .of_wp λprog w A R s h=>by
  obtain⟨hp,g,d,tk,os⟩:=s;obtain⟨q1,q2,h⟩:=h;have sub:=sub_zip;have p1:Heap.IsTuple (Shared.heap ⟨hp,g,d,tk,os⟩) l1 xs:=q1;have p2:Heap.IsList (Shared.heap ⟨hp.push (Įa "tuple_iterator" #[Ê l1,.int 0 0]),g,d,tk,os⟩) l2 ys:=Heap.IsList.push q2 _
  wp_walk using wpAny_pyIter_tuple p1,wpAny_pyIter_list p2
  exact ža h
theorem Ew(q1:s.heap.IsTuple l1 xs)(q2:s.heap.IsList l2 ys)
  (fin:∀hq,IsZip hq (Ć 4) (Ć 2) (Ć 3) ħb->IsPair hq (Ć 2) (Ê s.heap.objs.size) (Ê Ýd) -> IsPair hq (Ć 3) ħb ħb->hq.IsTupleIter s.heap.objs.size l1 0->hq.IsListIter Ýd l2 0->hq.objs.size=Ć 5 -> (∀c o,ą c o->hq.get? c=ţ)->Ŕ (Ć 4) { s with heap:=hq }):Øc (call (Ŀa "zip") [Ê l1,Ê l2]):=by
 refine callType_new F.called_zip Ç (F.typeCall_zip_2 _ _) (F.newCall_zip_2 _ _) (λobj=>F.args_object_init_3 obj _ _) F.entry_zip_new (Dq l1 l2 xs ys) (ő q1 q2 ?_);have z1:Íc (zq1 s.heap l1)=Ýd:=Heap.size_push ..;have z2:Íc (zq2 s.heap l1 l2)=Ć 2:=by rw[Heap.size_push,z1]
 have z3:Íc (zq3 s.heap l1 l2)=Ć 3:=by rw[Heap.size_push,z2]
 have z4:Íc (zq4 s.heap l1 l2)=Ć 4:=by rw[Heap.size_push,z3]
 have z5:Íc ŀc=Ć 5:=by rw[Heap.size_push,z4]
 have g5:(ŀc).get? (Íc (zq4 s.heap l1 l2))=Ã _:=Ĩa;have g4:(ŀc).get? (Íc (zq3 s.heap l1 l2))=Ã _:=WD _ Ĩa;have g3:(ŀc).get? (Íc (zq2 s.heap l1 l2))=Ã _:=đc Ĩa;have g2:(ŀc).get? (Íc (zq1 s.heap l1))=Ã _:=đc (WD _ Ĩa);have g1:(ŀc).get? s.heap.objs.size=Ã _:=đc (đc Ĩa);show _/\_;rw[z2,z3,z4]at g5;rw[z1,z2]at g3;rw[z3]at g4;rw[z1]at g2;rw[z4];exact ã (Àe g5) (fin _ g5 g3 g4 ⟨_,g1,Z,Z⟩ ⟨_,g2,Z,Z⟩ z5 λc o x=>đc (đc (WD _ x)))
end
theorem Inv.sqT_ne(I:Ĝ)(h:SqT X.K H a xs)(f:şa H):a≠b:=by
 rintro rfl;rcases h with(h | ⟨o,h⟩) | ⟨o,its,n,hk,_⟩
 ·rw[f.1]at h;cases h
 ·rw[f.1]at h;cases h
 ·have hb:X.base.get? a=ţ:=I.ok.mod.kin a o hk;rcases f.2.2.2.1 with z | z
  ·exact I.ok.noex a o hb z
  ·exact Ëc (W8 (I.ok.bs a o hb).1) z
noncomputable def ItzT(K:ZC)(a c:Z1):It :=
 ⟨λi H=>∃xs ys x y,łb a xs/\Èb c ys/\xs[i]?=äd/\ys[i]?=Ã y, λi H v H'=>∃T x y,v=Ê T/\ē T/\H'=Ě H T [x,y]/\(∀xs,łb a xs->xs[i]?=äd)/\∀ys,Èb c ys->ys[i]?=Ã y, λi H=>∃xs ys,łb a xs/\Èb c ys/\(xs.length<=i\/ys.length<=i)⟩
structure ZipTAt(h:Z8)(z TI TO i1 i2 l1 l2:Z1)(i:Nat):Prop where
 hz:źa h ħb
 hTI:Łb h
 hTO:∃a b,ďd h
 h1:h.IsTupleIter i1 l1 i
 h2:šd i2 l2
 nd:[z,TI,TO,i1,i2].Nodup
theorem Gg{P:Z3}{w:Z5}{K:ZC}{es:Šc}{k1}{ps:Pos}(a c z TI TO i1 i2:Z1):Turn P w K Ùd (ItzT K a c) [z,TI,TO,i1,i2] z (λi h=>ZipTAt h z TI TO i1 i2 a c i) where
 mem:=Í
 obj:=Žd (by
  simp only[W9,YH,or_false]at hb;rcases hb with rfl | rfl | rfl | rfl | rfl
  ·exact ő _ st.hz (λv q=>by have q':Data.fields _=ãe:=q;cases q')
  ·exact ő _ st.hTI (λv q=>by have q':Data.seq _ _=ãe:=q;cases q')
  ·obtain⟨x,y,e⟩:=st.hTO;exact ő _ e (λv q=>by have q':Data.seq _ _=ãe:=q;cases q')
  ·obtain⟨o,e,_,d⟩:=st.h1;exact ő o e (λv q=>by rw[d]at q;cases q)
  ·obtain⟨o,e,_,d⟩:=st.h2;exact ő o e (λv q=>by rw[d]at q;cases q))
 keep:=óc (let ⟨x,y,e⟩:=st.hTO;ő x y (k TO Í _ e))
 item:=by
  intro X hP hw hK hc i pins s σ H E I hf st hg;subst hP hw hK;obtain⟨xs,ys,x,y,hq,hq2,hx,hy⟩:=hg;obtain⟨its,rv,p,_⟩:=ĺd;obtain⟨its2,rv2,p2,_⟩:=I.list hq2;obtain⟨u,hu,ru⟩:=rv.get hx;obtain⟨u2,hu2,ru2⟩:=rv2.get hy;obtain⟨ta,tb,hTO⟩:=st.hTO;have nd:=st.nd;simp only[VC,W9,YH,or_false,not_or,List.nodup_nil,and_true,not_false_eq_true]at nd;obtain⟨⟨n1,n2,n3,n4⟩,⟨n5,n6,n7⟩,⟨n8,n9⟩,n10⟩:=nd;have Dz:ĥd:=⟨ĥ n1,ĥ n2,ĥ n3,ĥ n4,n5,n6,n7,n8,n9,n10⟩;have az:=Ìc z;have aO:=Ìc TO;have a1:=Ìc i1;have a2:=Ìc i2;have cz:=ź hq2 z;have cO:=ź hq2 TO;have c1:=ź hq2 i1;have c2:=ź hq2 i2;refine Cy (B1:=λh=>h.IsTupleIter i1 a i/\h.IsTuple a its.toArray) (B2:=λh=>šd i2 c/\h.IsList c its2.toArray) (C1:=λh=>h.IsTupleIter i1 a ůa) (C2:=λh=>h.IsListIter i2 c ůa) (x:=u) (y:=u2) Dz (λA s Q E b q=>EV b.1 b.2 (by simpa using hu) λh2 e1 e2=>q h2 e1 e2) (λA s Q E b q=>wpAny_nextOf_list_item b.1 b.2 (by simpa using hu2) λh2 e1 e2=>q h2 e1 e2) (λh h2 b k=>ã (b.1.at (ĭc n3 n8 n10)) (let ⟨o,e,r⟩:=b.2;ő o (k _ o az aO a2 e) r)) (λh h2 b k=>ã (b.1.at (ĭc n4 n9 (ĥ n10))) (b.2.at λo e=>k _ o cz cO c1 e)) (λh h2 b k=>b.at (ĭc n3 n8 n10)) (λh h2 b k=>b.at (ĭc n4 n9 (ĥ n4))) st.hz st.hTI hTO (ã st.h1 p) (ã st.h2 p2.isList) (ąe ?_)
  refine ža (wpAny_letOwnedTupleGo_zip z1 λh2 hz2 hs2=>?_);have hs2':ĵa z h' h2:=hs2;have zlt:z≠s.heap.objs.size:=WF (W8 st.hz);have fresh:∀b∈[z,TI,TO,i1,i2],b≠s.heap.objs.size:=ěa (by
   simp only[W9,YH,or_false]at hb;rcases hb with rfl | rfl | rfl | rfl | rfl
   ·exact zlt
   ·exact WF (W8 st.hTI)
   ·exact WF (W8 hTO)
   ·obtain⟨o,e,_⟩:=st.h1;exact WF (W8 e)
   ·obtain⟨o,e,_⟩:=st.h2;exact WF (W8 e))
  have hT2:IsPair h2 s.heap.objs.size u u2:=(hs2'.2 _ (ĥ zlt)).trans z5;have st2:ZipTAt h2 z TI TO i1 i2 a c ůa:=⟨hz2,(hs2'.2 TI (ĥ n1)).trans (z7 TI _ (ĥ n1) n5 n6 n7 st.hTI),ő _ _ ((hs2'.2 TO (ĥ n2)).trans z2),z3.at λo q=>(hs2'.2 i1 (ĥ n3)).trans q,z4.at λo q=>(hs2'.2 i2 (ĥ n4)).trans q,st.nd⟩;have hfr:ē s.heap.objs.size:=òb ħ;have I2:É (Ě H s.heap.objs.size [x,y]) { s with heap:=h2,toks:=s.toks }:=by
   refine I.tupNew (its:=[u,u2]) hf ħ (λb o hb q=>?_) (by show ø 2;decide) (Ŭb ru (Ŭb ru2 .nil)) hT2 Óa
   ·simp only[W9,YH,or_false,not_or]at hb;exact(hs2'.2 b hb.1).trans (z7 b o hb.1 hb.2.2.1 hb.2.2.2.1 hb.2.2.2.2 q)
   ·simp only[W9,YH,or_false]at hb;rcases hb with rfl | rfl | rfl | rfl | rfl
    ·exact Ņ st2.hz
    ·exact Ņ st2.hTI
    ·obtain⟨_,_,e⟩:=st2.hTO;exact Ņ e
    ·obtain⟨o,e,_⟩:=st2.h1;exact Ņ e
    ·obtain⟨o,e,_⟩:=st2.h2;exact Ņ e
  refine⟨Ê s.heap.objs.size,_,I2,Z,⟨_,x,y,Z,hfr,Z,λzs hz=>ú (I.tuple_inj hz hq) hx,λzs hz=>ú (I.list_inj hz hq2) hy⟩,st2,Óa⟩;rw[ZP (fresh b hb)];exact ìd
 done:=by
  intro X hP hw hK hc i pins s σ H E I hf st hg;subst hP hw hK;obtain⟨xs,ys,hq,hq2,hend⟩:=hg;obtain⟨its,rv,p,_⟩:=ĺd;obtain⟨its2,rv2,p2,_⟩:=I.list hq2;obtain⟨ta,tb,hTO⟩:=st.hTO;have nd:=st.nd;simp only[VC,W9,YH,or_false,not_or,List.nodup_nil,and_true,not_false_eq_true]at nd;obtain⟨⟨n1,n2,n3,n4⟩,⟨n5,n6,n7⟩,⟨n8,n9⟩,n10⟩:=nd;have Dz:ĥd:=⟨ĥ n1,ĥ n2,ĥ n3,ĥ n4,n5,n6,n7,n8,n9,n10⟩;have az:=Ìc z;have aO:=Ìc TO;have a2:=Ìc i2;have cz:=ź hq2 z;have cO:=ź hq2 TO;have c1:=ź hq2 i1;have l1:=rv.length;have l2:=rv2.length;refine Cc (B1:=λh=>h.IsTupleIter i1 a i/\h.IsTuple a its.toArray) (B2:=λh=>šd i2 c/\h.IsList c its2.toArray) (C1:=λh=>h.IsTupleIter i1 a ůa) Ĵa Dz ?_ (λh h2 b k=>ã (b.1.at (ĭc n3 n8 n10)) (let ⟨o,e,r⟩:=b.2;ő o (k _ o az aO a2 e) r)) (λh h2 b k=>ã (b.1.at (ĭc n4 n9 (ĥ n10))) (b.2.at λo e=>k _ o cz cO c1 e)) st.hz st.hTI hTO (ã st.h1 p) (ã st.h2 p2.isList) λh' k=>ã Z (I.turnedL (t':=s.toks) hf λb o hb q=>?_)
  ·by_cases hl:i<its.length
   ·refine Ŀ (ő (its[i]) (λA s Q E b q=>EV b.1 b.2 (by simp[hl]) λh2 e1 e2=>q h2 e1 e2) (λA hh s Q E b q=>wpAny_nextOf_list_end hh b.1 b.2 (by simp;omega) q))
   ·exact Ė (λA hh s Q E b q=>Qt hh b.1 b.2 (by simp;omega) q)
  simp only[W9,YH,or_false,not_or]at hb;exact k b o hb.1 hb.2.2.1 hb.2.2.2.1 hb.2.2.2.2 q
 self:=Ďd (wpAny_pyIter_zip st.hz h)
noncomputable def Wy(K:ZC)(ta:TA):TI:=Źc (∃a c,vs=[œ,Ê c]/\(∃xs,SqT K H1 a xs)/\(∃ys,SqL K H1 c ys)/\R (ItzT K a c) H1)
theorem Pl{X:Cx}{a b:Z7}{ta:TA}{es:Šc}{k1}{ps p pos:Pos}(hg:Gl X "zip") (hm:X.mg "zip" = none) (ha:PA X [a,b] ta) (hs:Õ [a,b]=[(false,í a),(false,í b)]:=by rfl) (hs2:Õ [b]=[(false,í b)]:=by rfl) :
  PI X Ùd (Ň "zip" [a,b]) (Wy X.K ta):=by
 intro pins s σ H R I h;refine ů boot_zip (λus s1 ⟨vs,H1,I1,r1,q1⟩=>?_) (by rw[hs,hs2]) (by rw[hs2];rfl);obtain⟨a,c,e,⟨xs,hq⟩,⟨ys,hq2⟩,q⟩:=q1;subst e;obtain⟨u,v,rfl,ru,rv⟩:=r1.two;cases ru;cases rv;obtain⟨its,_,pl,_⟩:=I1.tuple hq;obtain⟨its2,_,pl2,_⟩:=I1.list hq2;refine Ew (show s1.heap.IsTuple a its.toArray from pl) pl2.isList (ąe (wpAny_pyIter_zip z1 ?_));have I2:É H1 { s1 with heap:=h' }:=I1.kept (t':=s1.toks) z7;refine⟨s1.heap.objs.size+4,[s1.heap.objs.size+4,s1.heap.objs.size+2,s1.heap.objs.size+3,s1.heap.objs.size,s1.heap.objs.size+1],_,_,H1,Z,I2,Gg a c _ _ _ _ _,⟨z1,z2,ő _ _ z3,z4,z5,?_⟩,Óa,q⟩
 ·generalize s1.heap.objs.size=n;show List.Nodup ([n+4,n+2,n+3,n,n+1]:Ŧa);simp
 ·have hb':s1.heap.objs.size<=b:=by
   simp only[W9,YH,or_false]at hb;rcases hb with rfl | rfl | rfl | rfl | rfl
   ·exact Ł
   ·exact Ł
   ·exact Ł
   ·exact ħ
   ·exact Ł
  exact ľa hb'
end L2
namespace L2
open PySem PySem.Spec PyProof.Rows
section
variable {X:Cx}{a b c e o:Z7}{ta tb te to:TE}{pos:Pos}
noncomputable def PEt(X:Cx)(e:Z7)(t:TE):Prop :=
 ∀(pins:æ) (s:Z2) (σ:St) (H:Hp) (Q:VK),1<=s.toks->Ĝ->Ŝd->òa (í e) s
noncomputable def PAt(X:Cx)(es:Šc)(t:TA):Prop :=
 ∀(pos:Pos) (pins:æ) (s:Z2) (σ:St) (H:Hp) (Q:Ť ĝ),1<=s.toks->Ĝ->Ŝd->Ë (spliced ąb) (AP X pins σ Q) s
noncomputable def PSst(X:Cx)(st:Æ Z6)(t:TS):Prop :=
 ∀(pins:æ) (s:Z2) (σ:St) (H:Hp) (D:Ends),1<=s.toks->Ĝ->t D σ H->Ë (execs st X.env) (SP X pins D) s
noncomputable def PTg(X:Cx)(e:Z7)(t:TT):Prop :=
 ∀(pins:æ) (s:Z2) (σ:St) (H:Hp) (Q:Ť Bool),Ĝ->Ŝd->Ë (isTrue e X.env (í e)) (λb s'=>1<=s'.toks/\TP X pins σ Q b s') s
theorem SH{α:Type}{t:Sem α}{Q:İc α}{E:ģ}{s:Z2}{A:Z4}{P:Z3}{w:Z5}(hn:1<=s.toks)(h:ì P t Q s):ì P t (λx s'=>1<=s'.toks/\Q x s') s :=
 īa (wpAny_toks_of hn h) (λ_ _ z=>z) z.2
theorem DE{x j pos}:PEg X (ŵa x j pos) (tC íd):=ád (śb ⟨Nat.le_add_left _ _,íd,H,ħa,Ôe,h⟩)
theorem Nr{op:CmpOp}{r:R2}(ho:ķ op r)(ha:PEg X a ta)(hb:Œ b tb)(hm:Ŏb=false):PTg X Ób (QO Ød):=by
 intro pins s σ H Q I h;refine wpAny_isTrue_Compare1 (ŉ _ (λv s1 ⟨tk,x,H1,I1,r1,q1⟩=>thn (SH tk (Ëa _)) λu s2 ⟨tk2,y,H2,I2,r2,q2⟩ => thn (SH tk2 Øa) λc s3 ⟨tk3,z,H3,I3,r3,k,e,q3⟩=>?_)) hm
 subst e;cases r3;exact ğa ⟨tk3,H3,I3,q3⟩
theorem Nt{op:CmpOp}{r:R2}(ho:ķ op r)(ha:Ód)(hb:PEg X b tb)(hm:Ŏb=false):PTg X Ób (QO Ød):=by
 intro pins s σ H Q I h;refine wpAny_isTrue_Compare1 (ŉ _ (λv s1 ⟨x,H1,I1,r1,q1⟩=>thn (Ëa _) λu s2 ⟨tk2,y,H2,I2,r2,q2⟩ => thn (SH tk2 Øa) λc s3 ⟨tk3,z,H3,I3,r3,k,e,q3⟩=>?_)) hm
 subst e;cases r3;exact ğa ⟨tk3,H3,I3,q3⟩
theorem KW{y z:Str}{j1 j2:Nat}{p1 p2 apos cpos:Pos}(ho:Œ o to)(hyz:Ķb (y==z):=by decide +kernel)(hz:z.length<=14:=by decide +kernel)
  (hbase:ģa o "replace"=í o:=by rfl) (hline:ĵb:=by rfl) :
  PEt X (ė "replace" [ŵa y j1 p1,ŵa z j2 p2] cpos) (Ws y z to):=by
 intro pins s σ H Q tk0 I h;refine ńb rfl (SH tk0 ıa) (λv s1 ⟨tk,x,H1,I1,r1,x',e1,hx,q1⟩=>?_);subst e1;obtain⟨t,rfl⟩:=r1;refine⟨"str","str.replace",F.plainAttrs_str,F.slot_str_replace,F.type_str_replace,typeIs_str s1 x' t,(λ_ e=>nomatch e),?_⟩;refine Éa rfl ?_;show ūc (false,í (ŵa y j1 p1)) cpos [ŵa z j2 p2] s1;refine Ĥa (śb ?_);show ūc (false,í (ŵa z j2 p2)) cpos [] _;refine Ĥa (śb (įb ?_));have h1:s1.toks≠0:=À
 have h2:s1.toks+1≠0:=À
 have h3:s1.toks≠s1.toks+1:=À
 exact SC.replaceW h1 h2 h3 hyz hx hz λt' k=>⟨ĉ _,H1,(I1.tok _).tok k,Ôe,q1⟩
theorem Oj(ha:PEt X e te)(hs:Õ [e]=(false,í e)::Õ []:=by rfl):PAt X [e] (TH te tNil):=by
 intro pos pins s σ H Q tk I h;rw[hs];show ūc (false,í e) pos [] s;refine Ĥa (thn (ha pins s σ H _ tk I h) λu s1 ⟨x,H1,I1,r1,q1⟩=>?_);exact thn (U1 pos pins s1 σ H1 _ I1 q1) λus s2 ⟨xs,H2,I2,r2,q2⟩=>⟨x::xs,H2,I2,Ŭb r1 r2,q2⟩
theorem Xv(F:FnAtX X.prog X.w X.K X.mg X.base k x ps sp)(hr:õc X.A)(hR:VR X R)(ha:PAt X ŀ t)(hg:ÿe:=by rfl)(hdb:Ķd:=by decide)
  (he:Õ ŀ=(false,í e)::Õ es:=by rfl) (hpl:(ąb).any (·.1)=false:=by rfl):PEt X ŋd (tFx sp R t):=by
 obtain⟨f,hm,hk,hl,run⟩:=F;intro pins s σ H Q tk I h;refine Ĭa;refine PySem.W.callWith_K (h₀:=X.base) I.ok.mod.kin hk (thn (ha pos pins s σ H _ tk I h) λus s1 ⟨vs,H1,I1,r,q⟩=>ųb I1.kIn) he hpl;refine ńd;cases res with
 |error ev =>
  obtain⟨e',cls,H',rfl,Fl,rr⟩:=hq;exact ſb H1 s1 I1
 |ok fl =>
  cases fl with
  |ret u=>exact I1.after hq
  |next=>exact Ő hq
  |brk=>exact Ő hq
  |cont=>exact Ő hq
theorem KY(he:PEt X e te):PSst X [.Return (Ã e) pos] (tRet te):=by
 intro pins s σ H D tk I h;refine wpAny_execs_cons (wpAny_Return_some (thn (he pins s σ H _ tk I h) λv s1 ⟨x,H1,I1,r1,q1⟩=>?_));exact⟨x,σ,H1,I1,r1,q1⟩
theorem Pt{A B:Æ Z6}{t u v:TS}{tc:TT}(hc:PTg X c tc)(ha:PSs X A t)(hb:PSs X B v){rest:Æ Z6}(hr:PSst X rest u):PSs X (.If c A B pos::rest) (tSeq (tIfS tc t v) u):=by
 intro pins s σ H D I h;refine wpAny_execs_cons (wpAny_If (thn Őc λd s1 ⟨tk,H1,I1,q1⟩=>?_));have go:∀(f:Flow) (s2:Z2),1<=s2.toks/\SP X pins { D with nx:=u D } f s2->(match f with | .next=>Ë (execs rest X.env) (SP X pins D) s2 | r=>SP X pins D r s2):=by
  rintro f s2 ⟨tk2,q⟩;cases f with
  |next =>
   obtain⟨σ',H',I',q⟩:=q;exact hr pins s2 σ' H' D tk2 I' q
  |ret v=>exact q
  |brk=>exact q
  |cont=>exact q
 cases d with
 |true =>
  refine thn (SH tk (ha pins s1 σ H1 { D with nx:=u D } I1 q1)) λf s2 q=>?_;have:=go f s2 q;cases f<;>exact this
 |false =>
  refine thn (SH tk (Ëa { D with nx:=u D })) λf s2 q=>?_;have:=go f s2 q;cases f<;>exact this
theorem Xy(hc:PTg X c tc)(ha:PSst X A t)(hb:PSs X B v):PS X (.If c A B pos) (tIfS tc t v):=by
 intro pins s σ H D I h;refine wpAny_If (thn Őc λd s1 ⟨tk,H1,I1,q1⟩=>?_);cases d with
 |true=>exact ha pins s1 σ H1 D tk I1 q1
 |false=>exact Ëa D
end
end L2
namespace L2
open PySem PySem.Spec PyProof.Rows
theorem IR:∀{ss:ù}{us:š},us.length=ss.length->(∀(i:Nat) (u:Z0),us[i]?=Ã u->∃x,ss[i]?=äd/\(Ũa).is (ça x) u=true)->StrsAre us ss
 | [],[],_,_=>.nil
 |x::ss,u::us,hl,h=>by
  obtain⟨y,hy,hk⟩:=h 0 u rfl;have hy:x=y:=WC hy;subst hy;have r:StrsAre us ss:=IR (by simpa using hl) λi v hv=>h ůa v hv;have hk:Value.isStrOf x u=true:=hk;cases u with
  |str z t =>
   have e:z=x:=by simpa [Value.isStrOf]using hk
   subst e;exact .cons _ _ r
  |_=>exact ń hk (by simp[Value.isStrOf])
theorem Zs:∀{us:š}{ss:ù},StrsAre us ss->Ŝa (ss.map V.str)
 |_,_,.nil=>.nil
 |_,_,.cons y t r=>Ŭb (ã t Z) (Zs r)
theorem Dj(hc:èa):ĸ "sorted" (∃(d:Z1) (kv:Âb) (ss:ù),xs=[Ê d]/\H d=Ã (.dK kv)/\kv.map (·.1)=ss.map Sum.inr/\ss.length<64 /\ ∀(D:Z1) (ss':ù),ē D->ss'.Perm ss->sortedS ss'=true->èc D (ss'.map V.str)):=by
 intro pins s σ H xs us Q I rv h;obtain⟨d,kv,ss,rfl,hd,hk,h64,q⟩:=h;obtain⟨u,rfl,ru⟩:=rv.one;cases ru;obtain⟨hz,lo,vs,rel,dd⟩:=QK I.hok hd;obtain⟨ep,hat⟩:=dd.dictAt;have hkeys:vs.map (·.1)=ss.map Sum.inr:=by rw[<- rel.keys];exact hk
 have hlen:vs.length=ss.length:=by
  have:=õ hkeys;rw[ZD,ZD]at this;exact this
 have big:ø (ũ 64):=Ç
 refine Ōa;unfold Builtin.«sorted»;refine ZA (m:=checkCount "sorted" 1 1 _) Ôc;refine ZA (PySem.W.kdu_collect (PySem.W.kdl_dict (knd:=ôd) (kvs:=vs) (ep:=ep) lo) Ĵa hat À λh' tk acc hk' hacc=>?_);have hl:acc.toList.length=vs.length:=by rw[U5];exact hacc.1
 have hS:StrsAre acc.toList ss:=IR (P:=X.prog) (w:=X.w) À λi v hv=>by
  obtain⟨k,x,hx,hi⟩:=hacc.2 i v (by rw[<- SE];exact hv);have h1:(vs.map (·.1))[i]?=Ã k:=by rw[ZX,hx];rfl
  rw[hkeys,ZX]at h1;cases e:ss[i]? with
  |none=>rw[e]at h1;cases h1
  |some y =>
   rw[e]at h1;have h1:ça y=k:=WC h1;subst h1;exact ő y Z hi
 refine ZA (wpAny_newList ?_ (by rw[hl];omega));have hoL:(h'.push Đb).get? h'.objs.size=Ã Đb:=Ĩa;refine ZA (êa (Ļa (by rw[<- e];exact hS)));obtain⟨ss',b1,b2,b3⟩:=sorted_out_str hS a1 a2;obtain⟨e,he⟩:=sortedHeap_at (out:=(arrOf st').map (·.2)) hoL;have I1:É H { s with heap:=h',toks:=tk }:=I.kept hk';have old:∀b o,İa b=ţ->(sortedHeap (h'.push Đb) h'.objs.size acc.toList ((arrOf st').map (·.2))).get? b=ţ:=λb o h1=>by
  have lt:=W8 h1;rw[sortedHeap_old (WF lt) (by rw[size_push'];exact Nat.lt_succ_of_lt lt),Îe (WF lt)];exact h1
 refine ZQ ⟨_,Z,Ê _,_,I1.laid (t':=tk) (o:=.lst (ss'.map V.str)) old ħ ⟨?_,((arrOf st').map (·.2)).toList,e,Zs b1,?_⟩,Z,q _ ss' ŏc b2 b3⟩
 ·rw[ZD,b2.length_eq];omega
 ·rw[Array.toArray_toList];exact he
end L2
namespace L2
open PySem PySem.Spec PyProof.Rows
section
variable {P:Z3}{w:Z5} (M:KeyKind P w Key)
inductive Subs(g:Z8):Û ŋa š
 |nil:Subs g [] []
 |cons {ks:Đ}{b:Z1}{kss:ŋa}{us:š}:IsTupleKey M g ks b->Subs g kss us->Subs g (ks::kss) (ťd::us)
noncomputable def NestKey(g:Z8)(kss:ŋa)(b:Z1):Prop:=∃ob its k,g.get? b=Ã ob/\ob.cls=ĥb /\ ob.data=.seq its k/\Subs M g kss its.toList
variable {M}
theorem Subs.inj{g:Z8}{x y:ŋa}{us:š}(p:Subs M g x us)(q:Subs M g y us):x=y:=by
 induction p generalizing y with
 |nil=>cases q;rfl
 |cons a _ ih=>cases q with
  |cons c r=>rw[a.inj c,ih r]
theorem NestKey.ty{s:Z2}{kss:ŋa}{b:Z1}(x:àd kss b):s.TypeIs ťd "tuple" := let ⟨ob,_,_,h1,h2,_⟩:=x;ő ob h1 h2
theorem NestKey.inj{g:Z8}{b:Z1}{x y:ŋa}(p:NestKey M g x b)(q:NestKey M g y b):x=y:=by
 obtain⟨o1,i1,n1,a1,_,c1,d1⟩:=p;obtain⟨o2,i2,n2,a2,_,c2,d2⟩:=q;have e:=WC (a1.symm.trans a2);subst e;rw[c1]at c2;injection c2 with e1 _;subst e1;exact d1.inj d2
theorem Subs.keeps{g g':Z8}{kss:ŋa}{us:š}{d:Z1}{o:Obj}{es ep}(x:Subs M g kss us)(a:g.get? d=ţ)(b:o.data=ìc)(c:ĵa d g g'):Subs M g' kss us:=by
 induction x with
 |nil=>exact .nil
 |cons z _ ih=>exact Ŭb (z.keeps a b c) ih
theorem NestKey.keeps{g g':Z8}{kss:ŋa}{b d:Z1}{o:Obj}{es ep}(x:NestKey M g kss b)(h1:g.get? d=ţ)(h2:o.data=ìc)(h3:ĵa d g g'):NestKey M g' kss b:=by
 obtain⟨ob,its,k,a1,a2,a3,a4⟩:=x;have ne:b≠d:=λz=>by
  subst z;have e:=WC (a1.symm.trans h1);subst e;rw[h2]at a3;cases a3
 exact⟨ob,its,k,(h3.2 b ne).trans a1,a2,a3,a4.keeps h1 h2 h3⟩
noncomputable def JG(M:KeyKind P w Key)(kss:ŋa):Int:=reduceHash (Builtin.Tuple.tupleHashOf (kss.map (tupleKeyHash M)))
noncomputable def JR(kss:ŋa):Nat:=(kss.map λks=>ks.length+1).sum+1
variable {A:Z4}{E:ģ}{s:Z2}
theorem Jc{kss:ŋa}{b:Z1}{Q:İc Int}(hu:ĕb 8)(hk:àd kss b)(q:Q (JG M kss) { s with toks:=s.toks+JR kss }):ì P (pyHash ťd) Q s:=by
 have T:=hk.ty;obtain⟨ob,its,k,a1,_,a3,a4⟩:=hk;unfold pyHash
 first | unfold pyHashByItsType | skip
 first | refine ZA (wpAny_cRoomFor_or (Ŀ À) ?_) | skip
 refine ZA (ĝc T F.slot_tuple_hash.lookup);show úa _ _ (if(Ã (Value.builtin "tuple.__hash__")==Ã Value.none)=true then _ else _);rw[ZE (by rw[beq_builtin_none];exact YS)];refine ZA (ĝc T F.slot_tuple_hash.lookup);show úa _ _ (callSpecialIfBoundUnlessNone? ťd "__hash__" _ >>= _);refine ZA (wpAny_callSpecialIfBoundUnlessNone?_slot T F.slot_tuple_hash (ļa F.slot_tuple_hash T F.entry_tuple_hash ?_ (F.args_tuple_hash_1 _)));show śc (Builtin.Tuple.tupleItemsOf ťd) s;refine ZA (wpAny_tupleItemsOf a1 a3 ?_);refine àe;rw[<- Array.forIn_toList];refine wpAny_forIn_list _ (λrest (acc:Array Int) s'=>∃done left,kss=done++left/\Subs M s'.heap left rest/\acc.toList=done.map (tupleKeyHash M)/\s'={ s with toks:=s.toks+(done.map λks=>ks.length+1).sum }) _ ?_ ?_ _ _ ⟨[],kss,Z,a4,Z,Z⟩
 ·rintro x rest acc s' ⟨done,left,rfl,hl,hb,rfl⟩;cases hl with
  | @cons k0 b0 ks' _ h1 hl' =>
   refine ZA (wpAny_pyHash_tuple (knd:=M) (by show ĕb 1;omega) h1 ?_);have e:(done++[k0]).map (λks=>ks.length+1)=(done.map λks=>ks.length+1)++[k0.length+1]:=Í
   first
    |exact ZQ ⟨done++[k0],ks',Í,hl',by simp[hb],by simp[Nat.add_assoc]⟩
    |exact ZA (ZQ (ZQ ⟨done++[k0],ks',Í,hl',by simp[hb],by simp[Nat.add_assoc]⟩))
 ·rintro acc s' ⟨done,left,rfl,hl,hb,rfl⟩;cases hl;rw[List.append_nil]at q;show ā (retInt (Builtin.Tuple.tupleHashOf acc.toList)) _;rw[hb];refine wpAny_ret_mkInt ?_;generalize ht:Builtin.Tuple.tupleHashOf (done.map (tupleKeyHash M))=t;show wpAny _ _ (if(è (-Þ 2 ^ 63<=t)&&è (t<2 ^ 63))=true then _ else _) Q E _;unfold JG at q;rw[ht]at q;unfold reduceHash JR at q
  by_cases hr:(è (-Þ 2 ^ 63<=t)&&è (t<2 ^ 63))=true
  ·rw[ZH hr]at q ⊢;exact ZQ (by simpa [Nat.add_assoc]using q)
  ·rw[ZE hr]at q ⊢;exact ZA (ŝd (ZQ (by simpa [Nat.add_assoc]using q)))
theorem Jd{x y:ŋa}{a b:Z1}{R:İc Fin}(hu:ĕb 2)(hx:àd x a)(hy:àd y b)(q:R (.done (.ret (.bool (è (x=y))))) s):ì P (Builtin.«tuple.__eq__» (ã [œ,ťd] [])) R s:=by
 have T2:=hy.ty;obtain⟨o1,xs,n1,a1,_,a3,a4⟩:=hx;obtain⟨o2,ys,n2,b1,_,b3,b4⟩:=hy;show śc (isInstance ťd ĥb) s;refine ZA (Çd T2);simp only[Bool.not_true,Bool.false_eq_true,if_false];refine ZA (wpAny_tupleItemsOf a1 a3 (ZA (wpAny_tupleItemsOf b1 b3 àe)));refine òc (s'=s/\∃x' y' xs' ys',rest=List.zip xs' ys'/\Subs M s.heap x' xs'/\Subs M s.heap y' ys'/\è (x'=y')=è (x=y)/\(xs'.length==ys'.length)=(xs.size==ys.size)) ⟨Z,Z,x,y,xs.toList,ys.toList,Z,a4,b4,Z,Í⟩
 ·rintro⟨u,v⟩ rest r s' ⟨hr,rfl,x',y',xs',ys',hz,hx',hy',hd,hl⟩;cases hx' with
  |nil=>simp at hz
  | @cons k1 c1 x2 xs2 h1 hx2 =>
   cases hy' with
   |nil=>simp at hz
   | @cons k2 c2 y2 ys2 h2 hy2 =>
    simp only[List.zip_cons_cons,List.cons.injEq,Prod.mk.injEq]at hz;obtain⟨⟨rfl,rfl⟩,rfl⟩:=hz;refine ZA (wpAny_eqBool_tuple (knd:=M) À h1 h2 ?_)
    by_cases hk:k1=k2
    ·subst hk;rw[ZS rfl];simp only[Bool.not_true,Bool.false_eq_true,if_false];refine ZQ ⟨Z,Z,x2,y2,xs2,ys2,Z,hx2,hy2,?_,by simpa using hl⟩;rw[<- hd]
     by_cases e:x2=y2<;>simp[e]
    ·rw[ZW hk];simp only[Bool.not_false,if_true];rw[show è (x=y)=false by rw[<- hd];simp[hk]]at q;exact ZA (ZQ (ZQ (ZQ q)))
 ·rintro⟨r1,r2⟩ s' ⟨hr,rfl,x',y',xs',ys',hz,hx',hy',hd,hl⟩;simp only at hr;subst hr;refine Ôc;have fin:(xs.size==ys.size)=è (x=y):=by
   rw[<- hd,<- hl];cases hx' with
   |nil=>cases hy'<;>simp
   |cons _ _=>cases hy' with
    |nil=>simp
    |cons _ _=>simp at hz
  show R (.done (.ret (.bool (xs.size==ys.size)))) s';rw[fin];exact q
theorem Si{x y:ŋa}{a b:Z1}{Q:İc Bool}(hu:ĕb 8)(hx:àd x a)(hy:àd y b)(q:Q (è (x=y)) s):ì P (eqBool œ ťd) Q s:=by
 unfold eqBool
 try with_reducible refine êa ?_
 show úa _ _ (if(ĩ a==ĩ b)=true then _ else _)
 by_cases ab:(ĩ a==ĩ b)=true
 ·rw[ZH ab];have e:a=b:=by injection eq_of_beq ab
  subst e;have e2:=hx.inj hy;subst e2;exact ZA (ŝd (ZQ (by simpa using q)))
 ·rw[ZE ab];exact ZA (wpAny_richCompare_same_room (op:=.Eq) hx.ty hy.ty F.slot_tuple_eq (ļa F.slot_tuple_eq hx.ty F.entry_tuple_eq (Jd (by show A.units+1+2<cLine;omega) hx hy (Óe (λe=>nomatch e) (ğa q))) (F.args_tuple_eq_2 _ _)) À)
theorem Ta(hk:IsTupleKey M s.heap ks b)(q:Q true s):ì P (eqIsQuiet 7 ťd) Q s:=by
 have T:=hk.typeIs;obtain⟨ob,its,k,a1,_,a3,a4⟩:=hk;unfold eqIsQuiet;refine ZA (ĝc T F.slot_tuple_eq.lookup);show śc (isInstance ťd ĥb) s;refine ZA (Çd T);simp only[Bool.not_true,Bool.false_eq_true,if_false];refine ZA (Şb a1 a3 àe);show ā (forIn its _ _) s;rw[<- Array.forIn_toList];refine òc (s'=s/\∀v∈rest,carriedByValue v=true) (ő Z Z a4.byValue)
 ·rintro v rest r s' ⟨hr,rfl,hall⟩;rw[eqIsQuiet_byValue _ (hall v XB)];refine ZA Ôc;simp only[Bool.not_true,Bool.false_eq_true,if_false];exact ZQ (ő Z Z (λu hu'=>hall u (UV _ hu')))
 ·rintro⟨r1,r2⟩ s' ⟨hr,rfl,_⟩;simp only at hr;subst hr;exact ZQ q
theorem Ef{kss:ŋa}{b:Z1}{Q:İc Bool}(hk:àd kss b)(q:Q true s):ì P (eqIsQuiet 8 ťd) Q s:=by
 have T:=hk.ty;obtain⟨ob,its,k,a1,_,a3,a4⟩:=hk;unfold eqIsQuiet;refine ZA (ĝc T F.slot_tuple_eq.lookup);show śc (isInstance ťd ĥb) s;refine ZA (Çd T);simp only[Bool.not_true,Bool.false_eq_true,if_false];refine ZA (Şb a1 a3 àe);show ā (forIn its _ _) s;rw[<- Array.forIn_toList];refine òc (s'=s/\∃l,Subs M s.heap l rest) ⟨Z,Z,kss,a4⟩
 ·rintro v rest r s' ⟨hr,rfl,l,hl⟩;cases hl with
  |cons h1 h2 =>
   refine ZA (Ta h1 ?_);simp only[Bool.not_true,Bool.false_eq_true,if_false];exact ZQ ⟨Z,Z,_,h2⟩
 ·rintro⟨r1,r2⟩ s' ⟨hr,rfl,_⟩;simp only at hr;subst hr;exact ZQ q
end
noncomputable def SW(P:Z3)(w:Z5):HeapKind P w ŋa where
 is:=NestKey Ũa
 hash:=JG Ũa
 draws:=JR
 room:=λA=>ĕb 8
 inj:=λa b=>a.inj b
 keeps:=λx a b c=>x.keeps a b c
 pyHash:=λa b c=>Jc a b c
 eqBool:=λa b c d=>Si a b c d
 quiet:=λa b=>Ef a b
inductive NT(H:Hp)(b:Z1)(kss:ŋa):Prop
 |mk (bs:ãb) (h0:H b=Ĥ (bs.map V.ref)) (h1:Paired (λks c=>H c=Ĥ ſc) kss bs)
noncomputable def TupS(H H':Hp):Prop:=∀b ys,H b=Ĥ ys->H' b=Ĥ ys
theorem NT.keeps{H H':Hp}{b:Z1}{kss:ŋa}(x:NT H b kss)(t:TupS H H'):NT H' b kss:=let ⟨bs,e,p⟩:=x;ő bs (t _ _ e) (Paired.mapP p λ_ _ z=>t _ _ z)
noncomputable abbrev KN(H:Hp):Û ŷb (ýc ŋa):=Paired λp q=>p.1=q.1/\NT H q.2.1 p.1/\RelV p.2 q.2.2
theorem KN.val{H:Hp}{kvs:ŷb}{xs:ýc ŋa}(r:KN H kvs xs)(k:ŋa):RelO ġe ((Ġe).map (·.2)):=by
 induction r with
 |nil=>exact True.intro
 | @cons p q ps qs z t ih =>
  by_cases e:p.1=k
  ·rw[V9 e,show atKey (q::qs) k=Ã q.2 by simp[atKey,List.find?_cons,z.1.symm.trans e]];exact z.2.2
  ·have e':¬q.1=k:=λy=>e (z.1.trans y);rw[V2 e,show atKey (q::qs) k=atKey qs k by simp[atKey,List.find?_cons,e']];exact ih
theorem KN.repl{H:Hp}{kvs:ŷb}{xs:ýc ŋa}(r:KN H kvs xs)(k:ŋa){y:V}{u:Z0}(ry:Őa y):KN H (kvs.map λkv=>if kv.1=k then(kv.1,y)else kv) (xs.map (putAt k u)):=by
 induction r with
 |nil=>exact .nil
 | @cons p q ps qs z t ih =>
  rw[Y8,Y8];refine Ŭb ?_ ih;unfold putAt
  by_cases e:p.1=k
  ·rw[ZH e,ZH (z.1.symm.trans e)];exact ő z.1 z.2.1 ry
  ·rw[ZE e,ZE (λy=>e (z.1.trans y))];exact z
theorem KN.put{H:Hp}{kvs:ŷb}{xs:ýc ŋa}(r:KN H kvs xs)(k:ŋa){b:Z1}{y:V}{u:Z0}(hb:NT H b k)(ry:Őa y):KN H (Ċb k y) (storedH xs k b u):=by
 unfold putK storedH;rw[show(âe)=íe Ġe by rw[XR,(r.val k).isSome_eq,Option.isSome_map]]
 by_cases q:íe Ġe=true
 ·rw[ZH q,ZH q];exact r.repl k ry
 ·rw[ZE q,ZE q];exact Paired.snoc r (ő Z hb ry)
section
variable (P:Z3) (w:Z5)
noncomputable def nF(d:Z1)(xs:ýc ŋa)(h:Z8):Prop:=Ďb/\ſ d/\∃o es ep,őd d/\o.ExactDict/\o.data=ìc/\es.toList=xs.map (entryOfKey (SW P w))/\Çe (xs.map (·.1))
noncomputable def DN(H:Hp)(d:Z1)(kvs:ŷb):Prop:=∃xs,H d=Ã (.ext (nF P w d xs))/\KN H kvs xs
variable {P w}
theorem nF.ok{H:Hp}{h:Z8}{d:Z1}{xs:ýc ŋa}(x:nF P w d xs h):Ńa d (.ext (nF P w d xs)) :=
 ő x (let ⟨_,_,o,_,_,e,_⟩:=x;ã o e) (λ_ _ ⟨a,b,o,es,ep,e,c⟩ k=>⟨a,b,o,es,ep,k _ e,c⟩)
theorem DN.keeps{H H':Hp}{d:Z1}{kvs:ŷb}(x:Ñc H d)(e:H' d=H d)(t:TupS H H'):Ñc H' d:=let ⟨xs,a,r⟩:=x;ő xs (e.trans a) (Paired.mapP r λ_ _ z=>ő z.1 (z.2.1.keeps t) z.2.2)
theorem NH(ok:æb)(x:NT H b kss):(SW P w).is h kss b:=by
 obtain⟨bs,e,p⟩:=x;obtain⟨_,its,r,ob,h1,h2,k,h3⟩:=(show Ńa b (.tup (bs.map V.ref)) from ok b _ e);refine⟨ob,its.toArray,k,h1,h2,h3,?_⟩;have go:∀{ls:ŋa}{cs:ãb}{us:š},Paired (λks c=>H c=Ĥ ſc) ls cs->Ŝa (Õc V.ref)->Subs Ũa h ls us:=by
  intro ls cs us p
  induction p generalizing us with
  |nil=>intro r;cases r;exact .nil
  |cons z _ ih =>
   intro r;rw[Y8]at r;cases r with
   | @cons _ u _ _ r1 r2 =>
    cases(show u=ĩ _ from r1);exact Ŭb (RT ok z) (ih r2)
 simpa using go p r
theorem MW(ok:æb)(x:Ñc H d):∃xs,KN H kvs xs/\Ďb/\ſ d/\h.DictOfH (SW P w) d xs:=by
 obtain⟨xs,e,r⟩:=x;obtain⟨⟨z,y,o,es,ep,h1,h2,h3,h4,h5⟩,_⟩:=(show Ńa d (.ext (nF P w d xs)) from ok d _ e);refine⟨xs,r,z,y,o,es,ep,h1,h2,h3,h4,?_,h5⟩;have go:∀{l:ŷb}{m:ýc ŋa},KN H l m->∀x∈m,(SW P w).is h x.1 x.2.1:=by
  intro l m q
  induction q with
  |nil=>intro x hx;exact nomatch hx
  |cons hq t ih =>
   intro x hx;rcases ĳd hx with e | hx
   ·subst e;exact NH ok (by rw[<- hq.1];exact hq.2.1)
   ·exact ih x hx
 exact go r
end
section
variable {X:Cx}{o i value:Z7}{pos pos':Pos}{td ty tv:TE}
noncomputable def Wn(X:Cx)(td ty:TE):TE:=Åd (ty σ H1 λy H2=>∃a b kvs k v,x=œ/\y=ťd/\DN X.prog X.w H2 a kvs/\NT H2 b k/\ġe=ôc/\Q v H2)
noncomputable def Wp(X:Cx)(ty td:TE):TE:=ìe (∃a b kvs k,x=œ/\y=ťd/\DN X.prog X.w H2 a kvs/\NT H2 b k/\Q (.bl (! íe ġe)) H2)
noncomputable def Zy(X:Cx)(td ty tv:TE):TS:=Ŵa (∃a b kvs k,x=œ/\y=ťd/\DN X.prog X.w H3 a kvs/\NT H3 b k/\kvs.length<sizeLine /\ ∀H4,(∀c,c≠a->H4 c=H3 c)->DN X.prog X.w H4 a ŵd->Ġd H4)
noncomputable def Wo(X:Cx):TE:=λ_ H Q=>∀p H1,ē p->(∀c,c≠p->H1 c=H c)->DN X.prog X.w H1 p []->Ŕ p H1
theorem Ph(hu:če 9)(ho:Œ o td)(hi:Œ i ty)(hs:NoSl i):Œ (Ýb o i pos) (Wn X td ty):=by
 intro pins s σ H Q I h;refine ĸc (λu s1 ⟨x,H1,I1,rx,q1⟩=>ïb s1 H1 I1 q1 (λiv s2 ⟨y,H2,I2,ry,a,b,kvs,k,v,ex,ey,dn,nt,l,q2⟩=>?_));subst ex ey;obtain rfl:u=ĩ a:=rx;cases(show iv=ĩ b from ry);obtain⟨xs,rel,z,hd,dd⟩:=MW I2.hok dn;obtain⟨w',hw,rw'⟩:=RelO.some_of (v:=v) (o:=(Ġe).map (·.2)) (by rw[<- l];exact rel.val k);obtain⟨p,hp,hp2⟩:=Option.map_eq_some_iff.mp hw;refine ã dd.typeIs (wpAny_getItem_heap (knd:=SW X.prog X.w) (show X.A.units+1+8<cLine by omega) (NH I2.hok nt) dd hp ?_);rw[hp2];exact⟨v,H2,I2.tok _,rw',q2⟩
theorem Qy(hu:če 9)(hi:Œ i ty)(ho:Œ o td):PC X .NotIn i o (Wp X ty td):=by
 intro pins s σ H Q I h;refine thn Ťa λiv s1 ⟨y,H1,I1,ry,q1⟩=>úd (λu s2 ⟨x,H2,I2,rx,a,b,kvs,k,ex,ey,dn,nt,q2⟩=>?_);subst ex ey;obtain rfl:u=ĩ a:=rx;cases(show iv=ĩ b from ry);obtain⟨xs,rel,z,hd,dd⟩:=MW I2.hok dn;refine wpAny_notIn_heap (knd:=SW X.prog X.w) (show X.A.units+1+8<cLine by omega) (NH I2.hok nt) hd dd ?_;have q:=(rel.val k).isSome_eq;rw[Option.isSome_map]at q;rw[<- q];exact⟨.bl (! íe ġe),H2,I2.tok _,Z,q2⟩
theorem Ps(hu:če 9)(ho:Œ o td)(hi:Œ i ty)(hv:Œ value tv)(hs:ŋc=œc) :
  ŗb (Zy X td ty tv):=by
 intro pins s σ H D I h;refine Ža (λr s1 ⟨v,H1,I1,rv,q1⟩=>úd (λu s2 ⟨x,H2,I2,rx,q2⟩=>ïb s2 H2 I2 q2 (λiv s3 ⟨y,H3,I3,ry,a,b,kvs,k,ex,ey,dn,nt,hl,q3⟩=>?_)));subst ex ey;obtain rfl:u=ĩ a:=rx;cases(show iv=ĩ b from ry);obtain⟨xs,rel,z,hd,dd⟩:=MW I3.hok dn;obtain⟨xs0,e0,_⟩:=dn;have hl2:ø (î ŵd):=by have:=RB kvs k v;omega
 refine wpAny_setItem_heap (knd:=SW X.prog X.w) (hsz:=z) (show X.A.units+1+8<cLine by omega) (NH I3.hok nt) dd λh' dd' hs'=>?_;obtain⟨q,es,ep,hq,h2,h3,h4,_,h5⟩:=dd';have rel2:=rel.put k nt rv;have new:nF X.prog X.w a (storedH xs k b r) h':=⟨by rw[<- Paired.length rel2];exact hl2,hd,q,es,ep,hq,h2,h3,h4,h5⟩;have ts:TupS H3 (upd H3 a (.ext (nF X.prog X.w a (storedH xs k b r)))):=λc ys ec=>Řa (XY ec e0 (λz=>nomatch z)) ec
 exact źb (by rw[e0];exact True.intro) (ã q hq) (Paired.mapP rel2 λ_ _ z=>ő z.1 (z.2.1.keeps ts) z.2.2)
theorem Pi:Œ (.Dict [] [] pos) (Wo X):=Ļd (have new:nF X.prog X.w s.heap.objs.size [] (Ûa (ê "dict" (.dict #[]))):=⟨WW _,VQ.mpr (ĥ (WF I.big)),_,#[],0,Ĩa,ő Z Z Z,Z,Z,List.nodup_nil⟩
 wpAny_Dict_empty (ēb (I.laid (a:=s.heap.objs.size) (o:=.ext _) (t':=s.toks) òd ħ new.ok) (h _ _ (òb ħ) (èd (ZP hc)) (ő _ ZI .nil))))
end
theorem T8(h:n<=3000):n<sizeLine:=UW h Ç
theorem De{K:ZC}{a c:Z1}{xs ys:ĝ}{σ0:St}{H1:Hp}{te:TE}{Q:VK}(f:V->V->V)(hq:SqT K H1 a xs)(hq2:SqL K H1 c ys)(hlen:xs.length=ys.length)(hn:xs.length<=3000)
  (he:∀x y,x∈xs->y∈ys->Pu te ((Ō x).set 1 (Ã y)) H1 (f x y))
  (fin:∀D H',Źd->Ée (List.zipWith f xs ys)) :
  U2 (ItzT K a c) Ěa YN te σ0 H1 Q:=by
 intro D hD;refine ő (λi m zs σ' H'=>m=xs.length-i/\i<=xs.length/\(∀u v,(σ'.set 0 u).set 1 v=(Ōb u).set 1 v)/\ç H1/\H' D=Ù zs/\zs=(List.zipWith f xs ys).take i) ⟨xs.length,Í,WW _,Ÿ,snw hD,ZI,Í⟩ ?_;rintro i m zs σ' H' ⟨rfl,hi,es,sm,hDl,hys⟩;refine ųb hDl;have q:SqT K H' a xs:=Same.tup sm hq;have q2:=sm.seq hq2
 by_cases hlt:i<xs.length
 ·refine Ìd ⟨_,_,xs[i],ys[i]'(À),q,q2,by simp[hlt],Í⟩;obtain⟨T,z,z2,rfl,hT,rfl,y,y2⟩:=y;have y:=y _ q;have y2:=y2 _ q2;have smT:ıb H' T [z,z2]:=snw hT;refine Ąa T ZI;unfold YN;refine Ŧb ?_;rw[es];refine he z z2 (UF y) (UF y2) _ _ (Şa smT) (ĵc (smT _ _ hDl) xs.length (((Şa smT).trans s5).upd hD))
  ·rw[hys,VO];exact T8 À
  ·rw[hys,List.take_add_one,List.getElem?_zipWith,y,y2];rfl
 ·have e:i=xs.length:=À
  subst e;refine ìb (şc _ q q2 (Ė ħ)) (Đc ?_);rw[hDl,hys,QG (by rw[List.length_zipWith];omega)]
theorem sl30(h:n<=3000):ø n:=Nat.le_of_lt (T8 h)
end L2
namespace L2
open PySem PySem.Spec PyProof.Rows Builtin Builtin.Str
theorem tkn{α:Type}{t:Sem α}{Q:İc α}{E:ģ}{s:Z2}{A:Z4}{P:Z3}{w:Z5}{n:Nat}(hn:n<=s.toks)(h:ì P t Q s):ì P t (λx s'=>n<=s'.toks/\Q x s') s :=
 īa (wpAny_toks_of hn h) (λ_ _ z=>z) z.2
theorem RelV.wk(r:Őa (.sT x n)):Őa íd:=let ⟨t,e,_⟩:=r;ã t e
theorem RelV.up{x:Str}{n m:Nat}{u:Z0}(r:Őa (.sT x n))(h:n<=m):Őa (.sT x m):=let ⟨t,e,a,b⟩:=r;⟨t,e,a,WT b h⟩
noncomputable abbrev VN:=Nat->Ť V
noncomputable abbrev TEN:=Nat->St->Û Hp VN
noncomputable abbrev TAN:=Nat->St->Û Hp (Nat->Ť ĝ)
structure EndsN where
 nx:Üb
 rt:VN
noncomputable abbrev TSN:=EndsN->Üb
noncomputable def EPN(X:Cx)(pins:æ)(σ:St)(Q:VN)(u:Z0)(s':Z2):Prop:=∃n,n<=s'.toks/\EP X pins σ (Q n) u s'
noncomputable def APN(X:Cx)(pins:æ)(σ:St)(Q:Nat->Ť ĝ)(us:š)(s':Z2):Prop:=∃n,n<=s'.toks/\AP X pins σ (Q n) us s'
noncomputable def SPN(X:Cx)(pins:æ)(D:EndsN)(f:Flow)(s':Z2):Prop:=∃n,n<=s'.toks/\SP X pins { nx:=D.nx n,rt:=D.rt n } f s'
noncomputable def PEN(X:Cx)(e:Z7)(t:TEN):Prop :=
 ∀(pins:æ) (s:Z2) (σ:St) (H:Hp) (n:Nat) (Q:VN),n<=s.toks->Ĝ->t n σ H Q->Ë (í e) (EPN X pins σ Q) s
noncomputable def PAN(X:Cx)(es:Šc)(t:TAN):Prop :=
 ∀(pos:Pos) (pins:æ) (s:Z2) (σ:St) (H:Hp) (n:Nat) (Q:Nat->Ť ĝ),n<=s.toks->Ĝ->t n σ H Q->Ë (spliced ąb) (APN X pins σ Q) s
noncomputable def PN(X:Cx)(st:Z6)(t:TSN):Prop :=
 ∀(pins:æ) (s:Z2) (σ:St) (H:Hp) (n:Nat) (D:EndsN),n<=s.toks->Ĝ->t D n σ H->Ë (exec st X.env) (SPN X pins D) s
noncomputable def PNs(X:Cx)(st:Æ Z6)(t:TSN):Prop :=
 ∀(pins:æ) (s:Z2) (σ:St) (H:Hp) (n:Nat) (D:EndsN),n<=s.toks->Ĝ->t D n σ H->Ë (execs st X.env) (SPN X pins D) s
noncomputable def nE(t:TE):TEN:=Äd (t σ H (Q n))
noncomputable def nA(t:TA):TAN:=Äd (t σ H (Q n))
noncomputable def nS(t:TS):TSN:=λD n σ H=>t { nx:=D.nx n,rt:=D.rt n } σ H
section
variable {X:Cx}{a b c e o:Z7}{es:Šc}{te:TE}{ta tb:TEN}{t:TA}{tn:TAN}{pos:Pos}{st:Z6}{rest:Æ Z6}
theorem UI(h:Œ e te):ùe e (nE te):=λpins s σ H n Q hn I q=>Êc hn (ßc _ q) (λ_ _ ⟨k,z⟩=>ő n k z)
theorem SO(h:PA X es t):PAN X es (nA t):=λpos pins s σ H n Q hn I q=>Êc hn (h pos pins s σ H _ I q) (λ_ _ ⟨k,z⟩=>ő n k z)
theorem YG{t:TS}(h:PS X st t):PN X st (nS t):=ëe (Êc hn (ßc _ q) (λ_ _ ⟨k,z⟩=>ő n k z))
theorem FA{t:TS}(h:PSs X rest t):PNs X rest (nS t):=ëe (Êc hn (ßc _ q) (λ_ _ ⟨k,z⟩=>ő n k z))
noncomputable def nNil:TAN:=λn _ H Q=>Q n [] H
noncomputable def OC(ta:TEN)(tr:TAN):TAN:=Äd (ta n σ H λm x H1=>tr m σ H1 λk xs H2=>Q k (x::xs) H2)
theorem SZ:PAN X [] nNil:=λ_ _ _ _ H n Q hn I h=>įb ⟨n,hn,[],H,I,.nil,h⟩
theorem V8(ha:ùe e ta)(hr:PAN X es tn)(hs:Õ ŀ=(false,í e)::Õ es:=by rfl):PAN X ŀ (OC ta tn):=by
 intro pos pins s σ H n Q hn I h;rw[hs];show ā (spliced ((false,í e)::ąb)) s;refine Ĥa (thn þb λu s1 ⟨m,hm,x,H1,I1,r1,q1⟩=>?_);exact thn (hr pos pins s1 σ H1 m _ hm I1 q1) λus s2 ⟨k,hk,xs,H2,I2,r2,q2⟩=>⟨k,hk,x::xs,H2,I2,Ŭb r1 r2,q2⟩
noncomputable def nStr(x:Str):TEN:=λn _ H Q=>1<=n/\∀m,n<=m->Q m (.sT x m) H
theorem KI{x j pos}:ùe (ŵa x j pos) (nStr x):=λ_ s _ H n _ hn I h => śb ⟨s.toks+1,ħ,.sT x (s.toks+1),H,ħa,Óe (WB h.1 hn) Ģb,h.2 _ (Ĉd hn)⟩
theorem KE:ùe (ŵa x j pos) (λn _ H Q=>∀m,1<=m->n<=m->Q m íd H):=λ_ s _ H n _ hn I h => śb ⟨s.toks+1,ħ,íd,H,ħa,Ôe,h _ (Nat.le_add_left _ _) (Ĉd hn)⟩
noncomputable def GI(i:Nat):TE:=ďa (∃x,(∃n,σ[i]?=Ã (Ã (.sT x n)))/\Q íd H)
theorem pvw(i:Nat)(hN:X.N[i]?=äd:=by rfl)(hv:Ĥd:=by first | exact Ô | exact Or.inr Ô | exact Or.inr äb)(hd:Ķd:=by decide)
  (hcd:œd x:=by decide):Œ (Ďc pos) (GI i):=λpins s σ H Q I ⟨y,⟨n,e⟩,q⟩ => thn (K7 hN hv hd hcd pins s σ H (λv H'=>v=.sT y n/\Q (ĉ y) H') I ⟨_,e,Z,q⟩) λu s1 ⟨v,H1,I1,r,ev,q⟩=>⟨ĉ y,H1,I1,by subst ev;exact RelV.wk r,q⟩
noncomputable def nCat(ta tb:TEN):TEN:=Äd (ta n σ H λn1 x H1=>tb n1 σ H1 λn2 y H2=>∃i j n3 n4,x=.sT i n3/\y=.sT j n4/\n3<=n2/\n4<=n2/\1<=n2/\Ŧc/\∀m,n2<=m->Q m (.sT (i++j) m) H2)
theorem KG(ha:ùe a ta)(hb:ùe b tb):ùe (.BinOp a .Add b pos) (nCat ta tb):=by
 intro pins s σ H n Q hn I h;refine wpAny_BinOp (thn þb λv s1 ⟨n1,h1,x,H1,I1,r1,q1⟩=>thn êc λu s2 ⟨n2,h2,y,H2,I2,r2,i,j,n3,n4,ex,ey,l3,l4,l1,hz,q2⟩=>?_);subst ex ey;obtain⟨t,rfl,t1,t2⟩:=r1;obtain⟨t',rfl,t1',t2'⟩:=r2;refine P.add_str ?_
 by_cases hx:(i.length==0)=true
 ·rw[ZH hx];refine⟨s2.toks,ħ,.sT (i++j) s2.toks,H2,I2,⟨t',?_,t1',WT t2' (WB l4 h2)⟩,q2 _ h2⟩;rw[Str.append_left_empty hx]
 ·rw[ZE hx]
  by_cases hy:(j.length==0)=true
  ·rw[ZH hy];refine⟨s2.toks,ħ,.sT (i++j) s2.toks,H2,I2,⟨t,?_,t1,WT t2 (WB l3 h2)⟩,q2 _ h2⟩;rw[Str.append_right_empty hy]
  ·rw[ZE hy];exact⟨by rw[size_cat];exact hz,s2.toks+1,ħ,.sT (i++j) (s2.toks+1),H2,I2.tok _,Óe (WB l1 h2) Ģb,q2 _ À⟩
noncomputable def nChr(ta tb:TE):TEN:=Äd (1<=n/\ta σ H λx H1=>tb σ H1 λy H2=>∃z i c,x=ĉ z/\y=ïe/\Úe/\atI z.cps.toList i=Ã c/\∀m,n<=m->Q m (.sT (ű #[c]) m) H2)
theorem DF{ta tb:TE}(ha:Ód)(hb:Œ b tb)(hs:OY b):ùe (Ýb a b pos) (nChr ta tb):=by
 intro pins s σ H n Q hn I ⟨h0,h⟩;refine Subscript_ (Êc hn (ha pins s σ H _ I h) (λv s1 ⟨k1,x,H1,I1,rx,q1⟩=>Êc k1 (Ëa _) (λu s2 ⟨k2,y,H2,I2,ry,z,i,c,ex,ey,hz,he,q⟩=>?_)));subst ex ey;obtain⟨t,rfl⟩:=rx;obtain⟨t',rfl⟩:=ry;obtain⟨j,h1,h2,h3,h4,h5⟩:=OZ he;have hl:z.cps.toList.length=z.length:=by simp[Str.length]
 rw[hl]at h1 h4 h5;have hn':=TV;exact tail_any (typeIs_str s2 z t) slot_str_getitem.lookup (getItem_str (c:=c) (by
  have e1:è (i < -(2 ^ 63:Int))=false:=ZW À;have e2:è (i≥2 ^ 63)=false:=ZW À
  rw[e1,e2,Bool.or_false]) (by rw[h1];simpa using h2) ⟨s2.toks+1,ħ,.sT (ű #[c]) (s2.toks+1),H2,I2.tok _,Óe (WB h0 k2) Ģb,q _ À⟩) (hs _ _)
noncomputable def nSl(ta:TEN)(tl th:TO):TEN:=Äd (ta n σ H λn1 x H1=>tl σ H1 λl H2=>th σ H2 λu H3=>∃z n2,x=.sT z n2/\n2<=n1/\1<=n1/\Úe/\∀m,n1<=m->Q m (.sT (Txt.slice z l u) m) H3)
theorem NV{lo hi:Z9 Z7}{tl th:TO}{p2:Pos}(ha:ùe e ta)(hl:PO X lo tl)(hu:PO X hi th):ùe (Ýb e ūd pos) (nSl ta tl th):=by
 intro pins s σ H n Q hn I h;refine Subscript_ (thn þb λv s1 ⟨n1,h1,x,H1,I1,r1,q1⟩=>?_);refine wpAny_Slice (Êc h1 (hl pins s1 σ H1 _ I1 q1) (λvl s2 ⟨k2,l,H2,I2,pl,q2⟩=>Êc k2 (hu pins s2 σ H2 _ I2 q2) (λvu s3 ⟨k3,u,H3,I3,pu,z,n2,ex,l2,l1,hz,q3⟩=>?_)));subst ex;obtain⟨t,rfl,t1,t2⟩:=r1;rw[evalPart_none];refine Ôc;have I4:É H3 { s3 with heap:=Üa #[vl,vu,ħb] }:=I3.kept (t':=s3.toks) λb ob q=>WD _ q;show Ë (subscriptTail e ūd (.str z t) (Ê s3.heap.objs.size)) (EPN X pins σ Q) { s3 with heap:=Üa #[vl,vu,ħb] };refine tail_any (ops:=[Ê s3.heap.objs.size,.str z t]) (typeIs_str _ _ _) F.slot_str_getitem.lookup ?_ (by with_unfolding_all rfl);have hz2:=WB (Txt.slice_le z l u) hz;have f1:∀y,y=Txt.slice z l u->EPN X pins σ Q (.str y t) { s3 with heap:=Üa #[vl,vu,ħb] }:=λy ey=>⟨s3.toks,ħ,.sT _ s3.toks,H3,I4,⟨t,by rw[ey],t1,WT t2 (WB l2 k3)⟩,q3 _ k3⟩;have f2:∀y,y=Txt.slice z l u->EPN X pins σ Q (.str y s3.toks) { s3 with heap:=Üa #[vl,vu,ħb],toks:=s3.toks+1 }:=λy ey=>⟨s3.toks+1,ħ,.sT _ (s3.toks+1),H3,I4.tok _,⟨s3.toks,by rw[ey],WB l1 k3,Ģb⟩,q3 _ À⟩;have fin:∀{c:Prop} [Decidable c] {y:Str},(if c then z else y)=Txt.slice z l u->(if c then Made.val (.str z t)else Made.str y).post (EPN X pins σ Q) { s3 with heap:=Üa #[vl,vu,ħb] }:=by
  intro c _ y ey
  by_cases hc:c
  ·rw[ZH hc]at ey ⊢;exact f1 _ ey
  ·rw[ZE hc]at ey ⊢;exact ã (by rw[ey];exact hz2) (f2 _ ey)
 cases pl with
 |none =>
  cases pu with
  |none=>exact wpAny_getItem_str_slice (l:=none) (u:=none) (st:=none) (Heap.IsSliceOf.new ..) rfl (fin rfl)
  |int j tj=>exact wpAny_getItem_str_slice (l:=none) (u:=Ã (j,tj)) (st:=none) (Heap.IsSliceOf.new ..) rfl (fin rfl)
 |int i ti =>
  cases pu with
  |none=>exact wpAny_getItem_str_slice (l:=Ã (i,ti)) (u:=none) (st:=none) (Heap.IsSliceOf.new ..) rfl (fin rfl)
  |int j tj=>exact wpAny_getItem_str_slice (l:=Ã (i,ti)) (u:=Ã (j,tj)) (st:=none) (Heap.IsSliceOf.new ..) rfl (fin rfl)
noncomputable def nLst(t:TAN):TEN:=Äd (t n σ H λm xs H1=>Ďb/\∀p,œa p->Q m (Ê p) (Ï H1 p xs))
theorem D6(h:PAN X es tn):ùe (.List es pos) (nLst tn):=by
 intro pins s σ H n Q hn I hq;refine wpAny_List_spliced (thn (h pos pins s σ H n _ hn I hq) λus s1 ⟨m,hm,xs,H1,I1,r,z,q⟩=>ųb (by rw[<- r.length];exact z));have hf:úe:=ŏc;exact⟨m,hm,Ê s1.heap.objs.size,Ï H1 s1.heap.objs.size xs,I1.laid (t':=s1.toks) (λb u e=>WD _ e) ħ ⟨z,us,0,r,Ĩa⟩,Z,q _ hf⟩
noncomputable def nTup(t:TAN):TEN:=Äd (t n σ H λm xs H1=>Ďb/\∀p,œa p->Q m (Ê p) (Ě H1 p xs))
theorem Pk{x1}(h:PAN X es tn):ùe (.Tuple es x1 pos) (nTup tn):=by
 intro pins s σ H n Q hn I hq;refine wpAny_Tuple_spliced (thn (h pos pins s σ H n _ hn I hq) λus s1 ⟨m,hm,xs,H1,I1,r,z,q⟩=>ųb (by rw[<- r.length];exact z));have hf:úe:=ŏc;exact⟨m,hm,Ê s1.heap.objs.size,Ě H1 s1.heap.objs.size xs,I1.laid (t':=s1.toks) (λb u e=>WD _ e) ħ ⟨z,us,r,şc Ĩa Z _ Z⟩,Z,q _ hf⟩
noncomputable def nOp(r:R2)(ta tb:TEN):TEN:=Äd (ta n σ H λn1 x H1=>tb n1 σ H1 λn2 y H2=>r x y H2 (Q n2))
theorem QZ{op:Operator}{r:R2}(ho:ãa op r)(ha:ùe a ta)(hb:ùe b tb):ùe (.BinOp a op b pos) (nOp r ta tb):=by
 intro pins s σ H n Q hn I h;exact wpAny_BinOp (thn þb λv s1 ⟨n1,h1,x,H1,I1,r1,q1⟩=>thn êc λu s2 ⟨n2,h2,y,H2,I2,r2,q2⟩=>Êc h2 Øa (λ_ _ ⟨k,z⟩=>ő n2 k z))
theorem KH{op:CmpOp}{r:R2}(ho:ķ op r)(ha:ùe a ta)(hb:ùe b tb)(hm:Ŏb=false):ùe Ób (nOp r ta tb):=by
 intro pins s σ H n Q hn I h;exact wpAny_Compare1 (thn þb λv s1 ⟨n1,h1,x,H1,I1,r1,q1⟩=>thn êc λu s2 ⟨n2,h2,y,H2,I2,r2,q2⟩=>Êc h2 Øa (λ_ _ ⟨k,z⟩=>ő n2 k z)) hm
theorem Xt{r:R2}(hr:IxR X r)(ha:ùe a ta)(hb:ùe b tb)(hs:OY b):ùe (Ýb a b pos) (nOp r ta tb):=by
 intro pins s σ H n Q hn I h;exact Subscript_ (thn þb λv s1 ⟨n1,h1,x,H1,I1,r1,q1⟩=>thn êc λu s2 ⟨n2,h2,y,H2,I2,r2,q2⟩=>Êc h2 (hr a b pins s2 σ H2 x y v u _ I2 r1 r2 q2 (hs _ _)) (λ_ _ ⟨k,z⟩=>ő n2 k z))
noncomputable def nRet(te:TEN):TSN:=λD n σ H=>te n σ H D.rt
theorem ON(he:ùe e ta):PN X (.Return (Ã e) pos) (nRet ta):=by
 intro pins s σ H n D hn I h;exact wpAny_Return_some (thn (he pins s σ H n _ hn I h) λv s1 ⟨m,hm,x,H1,I1,r1,q1⟩=>⟨m,hm,x,σ,H1,I1,r1,q1⟩)
noncomputable def IX(te:TEN):TSN:=λD n σ H=>te n σ H λm _ H1=>D.nx m σ H1
theorem Pn(he:ùe e ta)(hs:Ňa e none=œc:=by rfl):PN X (.Expr e pos) (IX ta):=by
 intro pins s σ H n D hn I h;exact wpAny_Expr_any (thn (he pins s σ H n _ hn I h) λv s1 ⟨m,hm,x,H1,I1,r1,q1⟩=>⟨m,hm,σ,H1,I1,q1⟩) I.quiet hs
noncomputable def nAsg(te:TEN)(i:Nat):TSN:=λD n σ H=>te n σ H λm x H1=>D.nx m (ľd äd) H1
theorem T4{i:Nat}{x:Str}{pos':Pos}(hN:X.N.Nodup)(hi:X.N[i]?=äd)(hx:Ŋb x)(he:ùe e ta)(hs:Ňa e (Ã (Ďc pos'))=œc:=by rfl)(hf:Ĳ x:=by first | exact ĭa | exact ôe | assumption) :
  PN X (.Assign [Ďc pos'] e pos) (nAsg ta i):=by
 intro pins s σ H n D hn I h;refine wpAny_Assign_Name (thn (he pins s σ H n _ hn I h) λv s1 ⟨m,hm,y,H1,I1,r1,q1⟩=>?_) hs;exact thn (tkn (Q:=λ_ s2=>SP X pins { nx:=D.nx m,rt:=D.rt m } .next s2) hm (SX I1 hN hi hx r1 (λs2 I2=>⟨_,H1,I2,q1⟩) hf)) λ_ _ ⟨k,z⟩=>ő m k z
noncomputable def nSeq(t u:TSN):TSN:=λD n σ H=>t { D with nx:=u D } n σ H
theorem KJ:PNs X [] (λD n σ H=>D.nx n σ H):=λ_ _ σ H n _ hn I h=>Ĺc ⟨n,hn,σ,H,I,h⟩
theorem Y1{t u:TSN}(h1:PN X st t)(h2:PNs X rest u):PNs X (st::rest) (nSeq t u):=by
 intro pins s σ H n D hn I h;refine Ûc (h1 pins s σ H n { D with nx:=u D } hn I h);obtain⟨m,hm,q⟩:=q;cases f with
 |next =>
  obtain⟨σ',H',I',q⟩:=q;exact h2 pins s1 σ' H' m D hm I' q
 |ret v=>exact ő m hm q
 |brk=>exact ő m hm q
 |cont=>exact ő m hm q
theorem UR{t:TSN}(h1:PN X st t):PNs X [st] t:=by
 intro pins s σ H n D hn I h;refine Ûc (h1 pins s σ H n D hn I h);cases f with
 |next=>exact Ĺc q
 |ret v=>exact q
 |brk=>exact q
 |cont=>exact q
noncomputable def nIf(c:TT)(t u:TSN):TSN:=λD n σ H=>c σ H λb H1=>if b=true then t D n σ H1 else u D n σ H1
theorem SL{A B:Æ Z6}{tc:TT}{t u:TSN}(hc:PT X c tc)(ha:PNs X A t)(hb:PNs X B u):PN X (.If c A B pos) (nIf tc t u):=by
 intro pins s σ H n D hn I h;refine wpAny_If (Êc hn Őc (λd s1 ⟨k,H1,I1,q1⟩=>?_));cases d with
 |true=>exact ha pins s1 σ H1 n D k I1 q1
 |false=>exact hb pins s1 σ H1 n D k I1 q1
noncomputable def nFor(wi:TI)(g:TG)(tb:TSN):TSN:=λD n σ H=>wi σ H λJ H1=>∃W:Nat->Nat->Üb,(∃m,W 0 m n σ H1)/\∀i m n σ H,W i m n σ H -> (J.stop i H/\D.nx n σ H)\/(J.go i H/\∃N:Üb,(∀n' σ' H',N n' σ' H'->∃m',ŭc n' σ' H')/\∀x H',J.yld i H x H'->Ńc x H' { D with nx:=N })
theorem LY{tg iter:Z7}{body:Æ Z6}{wi:TI}{g:TG}{tb:TSN}(hp:PassesOwn Ñ X.A X.env X.xe)(hc:èa)(hi:ęc)(hg:PG X tg g)(hb:PNs X body tb)
  (hs:∀x,ča=pure x:=by intro _;rfl):PN X (.For tg iter body [] pos) (nFor wi g tb):=by
 intro pins s σ H n0 D hn0 I h;refine wpAny_For (Êc hn0 Ťa (λv s1 ⟨k1,h1⟩=>Êc k1 h1 (λitv s2 h2=>?_))) hs;obtain⟨k2,it,fp,tn,J,H2,e,I2,T,st2,f2,W,⟨m0,w0⟩,turn⟩:=h2;subst e;have stat:∀{H':Hp},(∀b∈fp,Ďe b)->∀b∈fp,şa H':=λhn b hb=>ã (hn b hb) (Øe).2;refine codeAny_forLoop_any (λm s'=>∃i n σ' H',n<=s'.toks/\őb X pins/\tn i s'.heap/\(∀b∈fp,Ďe b)/\W i m n σ' H') ?_ m0 ⟨0,n0,σ,H2,k2,I2,st2,ěa (Øe).1,w0⟩;rintro m s3 ⟨i,n,σ3,H3,k3,I3,st3,fr3,w3⟩;rcases turn i m n σ3 H3 w3 with⟨stop,qn⟩ | ⟨go,N,hN,step⟩
 ·refine ôa (tkn k3 (ða X pins X.xe)) (λr s4 ⟨k4,hr,I4⟩=>?_);subst hr;exact Ĺc ⟨n,k4,σ3,H3,I4,qn⟩
 ·refine ôa (tkn k3 (āa X pins X.xe)) (λr s4 ⟨k4,u,hr,h4⟩=>?_);subst hr;refine ôa (tkn k4 h4) (λ_ s5 ⟨k5,x,H5,I5,r5,y5,st5,fr5⟩=>?_);have I5':=Ùb;refine ôa (tkn k5 (hg _ s5 σ3 H5 x u _ I5' r5 (step x H5 y5))) (λ_ s6 ⟨k6,σ6,H6,I6,q6⟩=>?_);refine ôa (hb _ s6 σ6 H6 n _ k6 I6 q6) (λf s7 q7=>?_);obtain⟨n7,k7,q7⟩:=q7;cases f with
  |next =>
   obtain⟨σ7,H7,I7,z7⟩:=q7;obtain⟨m',hm,w7⟩:=hN n7 σ7 H7 z7;refine⟨m',hm,ůa,n7,σ7,H7,k7,I7.unpinned,óa st5 (I7.pin (b,o) ęa).1,Óa,w7⟩;obtain⟨o,e,d⟩:=Šd;exact(I7.pin (b,o) ęa).2.1
  |cont=>obtain⟨σ7,H7,I7,z7⟩:=q7;exact Ő z7
  |brk=>obtain⟨σ7,H7,I7,z7⟩:=q7;exact Ő z7
  |ret v=>obtain⟨x7,σ7,H7,I7,r7,q7⟩:=q7;exact⟨n7,k7,x7,σ7,H7,I7.unpinned,r7,q7⟩
theorem AS{lo:Int}{N:Nat}{g:TG}{tb:TSN}{D:EndsN}{n0:Nat}{σ:St}{H:Hp}(Pv:Nat->Üb)(h0:Pv 0 n0 σ H)
  (hs:∀i n σ H,i<N->Pv i n σ H->Ńc (ô (lo+i)) H { D with nx:=Pv ůa }) (hd:∀n σ H,Pv N n σ H->D.nx n σ H) :
  ∃W:Nat->Nat->Üb,(∃m,W 0 m n0 σ H)/\∀i m n σ H,W i m n σ H -> ((Itr lo N).stop i H/\D.nx n σ H)\/((Itr lo N).go i H/\∃N':Üb,(∀n' σ' H',N' n' σ' H'->∃m',ŭc n' σ' H')/\∀x H',(Itr lo N).yld i H x H'->Ńc x H' { D with nx:=N' }):=by
 refine ő (λi m n σ H=>m=N-i/\i<=N/\Pv i n σ H) ⟨N,Í,WW _,h0⟩ ?_;rintro i m n σ H ⟨rfl,hi,p⟩
 by_cases hlt:i<N
 ·refine þc hlt (λn' σ' H' p'=>⟨N-(ůa),À,Z,hlt,p'⟩);obtain⟨e,y⟩:=y;subst e y;exact hs i n σ _ hlt p
 ·have e:i=N:=À
  subst e;exact ìb ħ (hd n σ H p)
theorem Kc{K:ZC}{a:Z1}{xs:ĝ}{g:TG}{tb:TSN}{D:EndsN}{n0:Nat}{σ:St}{H:Hp}(Pv:Nat->Üb)(h0:Pv 0 n0 σ H)(hl:∀i n σ H,i<=xs.length->Pv i n σ H->Ūa H)
  (hs:∀i x n σ H,xs[i]?=äd->Pv i n σ H->Ńc x H { D with nx:=Pv ůa }) (hd:∀n σ H,Pv xs.length n σ H->D.nx n σ H) :
  ∃W:Nat->Nat->Üb,(∃m,W 0 m n0 σ H)/\∀i m n σ H,W i m n σ H -> ((Ād).stop i H/\D.nx n σ H)\/((Ād).go i H/\∃N':Üb,(∀n' σ' H',N' n' σ' H'->∃m',ŭc n' σ' H')/\∀x H',(Ād).yld i H x H'->Ńc x H' { D with nx:=N' }):=by
 refine ő (λi m n σ H=>m=xs.length-i/\i<=xs.length/\Pv i n σ H) ⟨xs.length,Í,WW _,h0⟩ ?_;rintro i m n σ H ⟨rfl,hi,p⟩;have q:=hl i n σ H hi p
 by_cases hlt:i<xs.length
 ·refine þc ⟨xs,xs[i],q,by simp[hlt]⟩ (λn' σ' H' p'=>⟨xs.length-(ůa),À,Z,hlt,p'⟩);obtain⟨e,y⟩:=y;subst e;exact hs i x n σ _ (y xs q) p
 ·have e:i=xs.length:=À
  subst e;exact ìb (ő xs q ħ) (hd n σ H p)
end
end L2
namespace L2
open PySem PySem.Spec PyProof.Rows Builtin Builtin.Str
section
variable {X:Cx}{a b c e o:Z7}{es:Šc}{te:TE}{ta tb to:TEN}{t:TA}{tn:TAN}{pos:Pos}{st:Z6}{rest:Æ Z6}
noncomputable def IZ(y:Str)(i:Nat)(to:TEN):TEN:=Äd (to n σ H λn1 v H1=>∃x z m,v=íd/\σ[i]?=Ã (Ã (.sT z m))/\m<=n1/\Ķb (y==z)/\x.length<=1048576/\z.length<=14/\Q n1 (ĉ (ĉa x y z)) H1)
theorem DQ(ho:ùe o to)(hN:X.N[i]?=Ã nm:=by rfl)(hv:RH X.env.scope nm:=by first | exact Ô | exact Or.inr Ô | exact Or.inr äb)(hd:Ķb (nm==ć "__debug__"):=by decide)
  (hcd:œd nm:=by decide)
  (hbase:ģa o "replace"=í o:=by rfl) (hline:ĵb:=by rfl) :
  ùe (ė "replace" [ŵa y j1 p1,.Name nm p2] cpos) (IZ y i to):=by
 intro pins s σ H n Q hn I h;refine ńb rfl (ho pins s σ H n _ hn I h) (λv s1 ⟨n1,h1,x,H1,I1,r1,x',z,m,e1,ei,hm,hyz,hx,hz,q1⟩=>?_);subst e1;obtain⟨t,rfl⟩:=r1;refine⟨"str","str.replace",F.plainAttrs_str,F.slot_str_replace,F.type_str_replace,typeIs_str s1 x' t,(λ_ e=>nomatch e),?_⟩;refine Éa rfl ?_;show ūc (false,í (ŵa y j1 p1)) cpos [.Name nm p2] s1;refine Ĥa (śb ?_);show ūc (false,í (.Name nm p2)) cpos [] _;refine Ĥa (thn (tkn (n:=s1.toks+1) ħ (K7 hN hv hd hcd pins _ σ H1 (λv H'=>v=.sT z m/\H'=H1) (I1.tok (s1.toks+1)) ⟨_,ei,Z,Z⟩)) λu s2 ⟨k2,v2,H2,I2,r2,ev,eH⟩=>įb ?_);subst ev eH;obtain⟨t2,rfl,t3,t4⟩:=r2;have h2:s1.toks≠0:=by
  have:1<m:=UW t3 t4;omega
 have h3:t2≠0:=λz=>by rw[z]at t3;exact ń t3 Ç
 have h4:s1.toks≠t2:=λz=>by rw[<- z]at t4;exact Ëc t4 (WB hm h1)
 have hw:=SC.replaceW (prog:=X.prog) (w:=X.w) (A:=X.A) (E:=X.xe) (s:=s2) (x:=x') (y:=y) (z:=z) (t:=t) (u:=s1.toks) (v:=t2) (Q:=EP X pins σ (Q n1)) h2 h3 h4 hyz hx hz λt' k=>⟨ĉ _,H2,I2.tok k,Ôe,q1⟩;exact thn (tkn (n:=n1) À hw) λ_ _ ⟨k,z⟩=>ő n1 k z
noncomputable def nBM(K:ZC)(T:String)(r:V->ĝ->Ŭa)(to:TE)(t:TAN):TEN:=Äd (to σ H λx H1=>tyV K T x H1/\t n σ H1 λm vs H2=>r x vs H2 (Q m))
theorem Ty{T:String}{name:Str}{id:String}{r:V->ĝ->Ŭa}{apos cpos:Pos}(pa:PlainAttrs T)(slot:Slot T name id)(hty:typeOf (Ţ id)=pure (Ŀa "method_descriptor")) (hm:MtR X id r) (ho:Œ o te) (ha:PAN X ŀ tn)
  (hbase:ģa o name=í o:=by rfl)
  (hfew:((Ĭ cpos ŀ).all (λx=>! x.1)&&(Ŵ cpos).all (λx=>x.1.isSome) && è (î ŀ+([]:Æ Keyword).length+(if([]:Æ Keyword).isEmpty then 0 else 1)<30))=true:=by rfl)
  (hline:ĵb:=by rfl) (hs:Õ ŀ=(false,í e)::Õ es:=by rfl) (hplain:(Ĭ cpos es).any (·.1)=false:=by rfl) :
  ùe (ė name ŀ cpos) (nBM X.K T r te tn):=by
 intro pins s σ H n Q hn I h;refine ńb hfew (tkn hn ıa) (λv s1 ⟨k1,x,H1,I1,r1,ty,q1⟩=>?_);obtain⟨h1,h2⟩:=FM I1 r1 ty;refine⟨T,id,pa,slot,hty,h1,h2,?_⟩;have hA:=ha cpos pins s1 σ H1 n _ k1 I1 q1;rw[hs]at hA ⊢;refine Éa (by show Ķb (false||(Ĭ cpos es).any (·.1));rw[hplain]<;>rfl) ?_;exact thn hA λus s2 ⟨m,k2,vs,H2,I2,r2,q2⟩=>Êc k2 (hm pins s2 σ H2 x vs v us (Q m) I2 r1 r2 q2) (λ_ _ ⟨k,z⟩=>ő m k z)
end
noncomputable abbrev SpN:=Nat->ĝ->Hp->Û VN XK
noncomputable def CRN(P:Z3)(w:Z5)(outer:êb)(H:Hp)(s:Z2)(Q:VN)(E:XK)(r:Result)(s':Z2):Prop :=
 match r with
 | .ok (.ret u)=>∃n,n<=s'.toks/\CE outer P w H s (Q n) u s'
 | .ok _=>False
 | .error e=>CXW P w outer H s E e s'
noncomputable def FnAtN(P:Z3)(w:Z5)(K:ZC)(mg:Ą)(base:Z8)(k:Nat)(x:Str)(ps:ù)(sp:SpN):Prop :=
 ∃f,mg x=Ú f/\Ũ K f=true/\(∀n vs H Q E,sp n vs H Q E->vs.length=ps.length) /\ ∀(A:Z4) (outer:êb) (s:Z2) (H:Hp) (us:š) (vs:ĝ) (n:Nat) (Q:VN) (E:XK),õc A->n<=s.toks->Ųa A->Ŝa vs->sp n vs H Q E->Ĉa P A f us (CRN P w outer H s Q E) s
section
variable {P:Z3}{w:Z5}{K:ZC}{mg:Ą}{base:Z8}{j k:Nat}{x:Str}{ps:ù}{sp:SpN}
theorem FnAtX.toN{sp:Sp}(F:Ā k x ps sp):ī k x ps (λn vs H Q E=>sp vs H (Q n) E):=by
 obtain⟨f,a,b,c,d⟩:=F;refine⟨f,a,b,λn vs H Q E z=>c _ _ _ _ z,λA outer s H us vs n Q E hr hn e0 r q=>?_⟩;refine Āa (codeAny_toks_of hn (d A outer s H us vs (Q n) E hr e0 r q));obtain⟨k',hq⟩:=hq;cases res with
 |error ev=>exact hq
 |ok fl =>
  cases fl with
  |ret u=>exact ő n k' hq
  |next=>exact hq
  |brk=>exact hq
  |cont=>exact hq
theorem FnAtN.of{st:Z6}{N:ù}(D:é x st ps)(S:ä N ps st)(len:∀n vs H Q E,sp n vs H Q E->vs.length=ps.length)
  (hbody:∀(f:Z1) (cdv:Z0) (A:Z4) (outer:êb) (s:Z2) (H:Hp) (vs:ĝ) (n:Nat) (Q:VN) (E:XK),õc (äc x (ZJ st) cdv)->sp n vs H Q E -> ∃t,PNs (Òd x) (WI st) t/\t { nx:=λn _ H'=>Q n .non H',rt:=Q } n Ŋd H):ī (k+1) x ps sp:=by
 obtain⟨f,fd,F,hm,hb⟩:=D;obtain⟨oc,od,kV,doc,pm,an,cdv,ct,osl,rfl,lk,hcd⟩:=F.ex;refine⟨f,hm,F.kp,len,λA outer s H us vs n Q E hr hn e0 r hsp=>?_⟩;have hl:=len _ _ _ _ _ hsp;have hlu:us.length=ps.length:=by rw[<- r.length];exact hl
 have KX:Éd:=e0.mod.kin.keeps Ŗb;have lim:s.heap.NoLimit:=e0.mod.nolimit.keeps Ŗb;have hbd:Ůc (ğ x x doc cdv) us ĕc:=by simpa using hb s us KX (by simpa using hlu)
 have hkind:∀y∈ĕc,(ZJ st).names.lookup y.1=ēe\/((ZJ st).names.lookup y.1=Ã .cell/\íe ((cellsFrom Ýd (ZJ st).names []).lookup y.1)=true):=λ⟨n,v⟩ hy=>by
  rcases S.par n (List.of_mem_zip hy).1 with q | q
  ·exact Ė q
  ·exact Ļc
 refine ĺa (hbd _ _ _ _ ?_);refine īa (tkn hn (wpAny_newFunctionEnv_cells (Q:=þa) (E:=Õa) S.kind hkind λenv he s1 ic=>ã he ic)) ?_ z.elim;rintro env s1 ⟨tk1,he,ic⟩;subst he;refine ã (lim.keeps ic.toInCall.keep) (codeAny_func ?_);obtain⟨t,ht,hq⟩:=hbody f cdv A outer s H vs n Q E (hr.deeper _) hsp;have I:Inv (Òd x) [] Ŋd H s1:=(JO S hr.hd e0 hl r ic).wish _;refine WL (ht [] s1 Ŋd H n _ tk1 I hq) (λfl s' hs=>?_) λe s' hs=>Ő hs;obtain⟨m,hm',hs⟩:=hs;have fin:∀{σ':St}{H':Hp}{v:V}{u:Z0},őb (Òd x) []->Őa v->Q m v H'->∃n,n<=s'.toks/\CE outer P w H s (Q n) u s' :=
  λ{σ' H' v u} J rv q=>⟨m,hm',v,H',J.os,J.bare,J.base,J.hok,rv,q⟩
 cases fl with
 |ret u =>
  obtain⟨v,σ',H',J,rv,q⟩:=hs;exact fin J rv q
 |next =>
  obtain⟨σ',H',J,q⟩:=hs;exact fin (v:=V.non) (u:=Value.none) J rfl q
 |brk =>
  obtain⟨_,_,_,q⟩:=hs;exact Ő q
 |cont =>
  obtain⟨_,_,_,q⟩:=hs;exact Ő q
end
noncomputable def nFn(sp:SpN)(R:St->Ť Z0)(t:TAN):TEN:=Äd (t n σ H λm vs H1=>sp m vs H1 Q Ŷd)
section
variable {X:Cx}{k:Nat}{x:Str}{ps:ù}{sp:SpN}{e:Z7}{es:Šc}{t:TAN}{p pos:Pos}{R:St->Ť Z0}
theorem T0(F:FnAtN X.prog X.w X.K X.mg X.base k x ps sp)(hr:õc X.A)(hR:VR X R)(ha:PAN X ŀ t)(hg:ÿe:=by rfl)(hdb:Ķd:=by decide)
  (he:Õ ŀ=(false,í e)::Õ es:=by rfl) (hpl:(ąb).any (·.1)=false:=by rfl):ùe ŋd (nFn sp R t):=by
 obtain⟨f,hm,hk,hl,run⟩:=F;intro pins s σ H n Q hn I h;refine Ĭa;refine PySem.W.callWith_K (h₀:=X.base) I.ok.mod.kin hk (thn (ha pos pins s σ H n _ hn I h) λus s1 ⟨m,k1,vs,H1,I1,r,q⟩=>ųb I1.kIn) he hpl;refine wpAny_call (Āa (run X.A X.stack s1 H1 us vs m Q _ hr k1 I1.env0 r q));cases res with
 |error ev =>
  obtain⟨e',cls,H',rfl,Fl,rr⟩:=hq;exact ſb H1 s1 I1
 |ok fl =>
  cases fl with
  |ret u =>
   obtain⟨m',k2,hq⟩:=hq;exact ő m' k2 (I1.after hq)
  |next=>exact Ő hq
  |brk=>exact Ő hq
  |cont=>exact Ő hq
end
noncomputable def KP(J:It)(g:TG)(te:TEN)(σ0:St)(H1:Hp)(n0:Nat)(Q:VN):Prop:=∀D,Źd -> ∃W:Nat->Nat->Nat->ĝ->Ť St,(∃m,W 0 m n0 [] σ0 (Ŗc D)) /\ ∀i m n ys σ' H',W i m n ys σ' H'->Ľb/\((J.stop i H'/\Q n (Ê D) H')\/(J.go i H'/\∀x H2,J.yld i H' x H2->g x σ' H2 λσ2 H3 => te n σ2 H3 λn' y H5=>H5 D=Ù ys/\ys.length<sizeLine/\∃m',m'<m/\W ůa m' n' Ħb σ2 Ęb))
theorem Ce{X:Cx}{tg iter elt:Z7}{scope:Scope}{pos:Pos}{g:TG}{te:TEN}{N':ù}{ix:Æ ğc}{pins:æ}{σ:St}{s2:Z2}{itv:Z0}{n0:Nat}{Q:VN}{cl:ġa Z1}
  {RR:Z0->Z1->İc Result} (hc:èa) (K:ßa) (e2:∀x c,œb=Ã c->ť=Ã c) (e3:∀x,(x,NameKind.free)∈scope.names->∃c,œb=Ã c)
  (hg:∀cl C s2 H2 ex,īd) (he:∀cl C s2 H2 ex,PEN Ăa elt te) (hn0:n0<=s2.toks)
  (h2:PIE X pins σ tg (λJ H1=>KP J g te ýb H1 n0 Q) itv s2)
  (hRR:∀H2 fp C D σ3 H3 s4 n,n<=s4.toks->É H2 s2->(∀b∈fp,şa H2)->s2.heap.objs.size<=C->ýd->Q n (Ê D) H3->RR (Ê D) C (.ok .next) s4) :
  Ë (newList []) (ř [] { cenv with scope:=çb } cenv.locals) s2:=by
 obtain⟨it,fp,tn,J,H2,rfl,I2,T,st2,f2,q⟩:=h2;refine Ŷa (by intro y hy;simp at hy);dsimp only at hns1 hsb1 ⊢;generalize hP:s2.heap.push { cls:=Ĉb,dict:=none,data:=.seq ([]:š).toArray }=P2 at hns1 hsb1 ⊢;have hCs:P2.objs.size=s2.heap.objs.size+1:=by rw[<- hP,Heap.size_push]
 have hC:s2.heap.objs.size<=P2.objs.size:=À
 have hDC:s2.heap.objs.size≠P2.objs.size:=À
 have old:∀b o,s2.heap.get? b=ţ->h1.get? b=ţ:=Âc (hP▸WD _ e)
 have hacc:h1.get? s2.heap.objs.size=Ã { cls:=Ĉb,dict:=none,data:=.seq ([]:š).toArray } :=
  hsb1.extBut _ _ hDC (WD _ (hP▸Ĩa))
 have hD:H2 s2.heap.objs.size=none:=I2.hok.fresh ħ;have hCn:H2 P2.objs.size=none:=I2.hok.fresh hC;obtain⟨W,⟨m0,w0⟩,turn⟩:=q s2.heap.objs.size hD;have hex:∀b∈fp,b<s2.heap.objs.size:=ěa (by
  obtain⟨o,e,_⟩:=T.obj 0 _ st2 b hb;exact W8 e)
 have YOk:=KK (cl:=cl) (C:=P2.objs.size) (ex:=fp) I2 K e2 e3 hC f2 hex;have hok1:įc èb h1:=Ŀc;have IY:Inv Ğ [] ýb èb { s2 with heap:=h1,toks:=s2.toks+([]:ġa Z0).length }:=by
  refine⟨YOk,Z,I2.bare,?_,ő _ hns1 (λi x v e1 e4 e5=>?_),áe,?_,áe,Ļ (ń (show p∈([]:æ) from hp) Í),hok1,?_⟩
  ·exact(Un.laid old ħ hD).mono Żd Żd
  ·rw[ZX]at e4;cases e6:ix[i]? with
   |none=>rw[e6]at e4;cases e4
   |some o =>
    rw[e6]at e4;cases o with
    |none=>cases(WC e4)
    |some j =>
     have e7:σ[j]?=Ã ôc:=JU (WC e4);obtain⟨n1,n2⟩:=K.src i j x e1 e6;have hm:=ób n2;have kx:=K.fr _ hm rfl;obtain⟨m,hn,hl⟩:=I2.loc;obtain⟨u,r,l⟩:=Ťb;refine ő u r (ūb ?_ ?_)
     ·exact MQ n2
     ·rcases l with⟨k1,_⟩ | ⟨_,c,hc1,hc2⟩
      ·exfalso;have k1':ŋ x=ēe:=k1;rcases kx with z | z
       ·rw[k1']at z;cases z
       ·rw[k1']at z;cases z
      ·obtain⟨c',hc'⟩:=e3 x hm;have e8:=e2 x c' hc';rw[hc1]at e8;cases e8;obtain⟨o,ho,hd⟩:=hc2;exact⟨c,hc',o,old _ _ ho,hd⟩
  ·obtain⟨v,o,ho,hd⟩:=Ác;exact⟨v,o,old _ _ ho,hd⟩
  ·show ũa P2.objs.size=none;rw[ZP (ĥ hDC)];exact hCn
  ·obtain⟨v,z⟩:=Ác;rw[ZP (WF z.lt)];exact I2.freeC x c (e2 x c e)
  ·rw[ZD];exact K.len
 have hnf:∀b∈fp,b≠P2.objs.size:=ěa Ęe;have stat:∀{H':Hp},(∀b∈fp,Ďe b)->∀b∈fp,FpOk Ğ [] H' b:=Ćb ((Øe).2.2.2.2.1 x c (e2 x c e)) (show p∈([]:æ) from hp)
 have loop:∀s₃:Z2,s₃ = { s2 with heap:=h1,toks:=s2.toks+([]:ġa Z0).length } -> Ŕa [] P2.objs.size:=by
  rintro s₃ rfl;refine Zo (λm s'=>∃i n ys σ' H',n<=s'.toks/\őb Ğ []/\tn i s'.heap/\(∀b∈fp,Ďe b)/\W i m n ys σ' H') ?_ m0 ⟨0,n0,[],_,_,WB hn0 Ł,IY,óa st2 (old b o e),Óa,w0⟩
  ·rintro m s3 ⟨i,n,ys,σ3,H3,k3,I3,st3,fr3,w3⟩;obtain⟨hDl,tt⟩:=turn i m n ys σ3 H3 w3;rcases tt with⟨stop,qn⟩ | ⟨go,step⟩
   ·refine Êc k3 (ða Ğ [] Õa) (λr s4 ⟨k4,hr,I4⟩=>?_);subst hr;exact hRR H2 fp P2.objs.size s2.heap.objs.size σ3 H3 s4 n k4 I2 f2 hC I4 qn
   ·refine Êc k3 (āa Ğ [] Õa) (λr s4 ⟨k4,u,hr,h4⟩=>?_);subst hr;refine Êc k4 h4 (λ_ s5 ⟨k5,x,H5,I5,r5,y5,st5,fr5⟩=>?_);have I5':=Ùb;refine Êc k5 Ôb (λ_ s6 ⟨k6,σ6,H6,I6,q6⟩=>?_);refine Êc k6 (Y0 (X:=Ğ) _ s6 σ6 H6 (λb H'=>b=true/\H'=H6) I6 (ã Z Z)) (λb s7 ⟨k7,H7,I7,eb,eH⟩=>?_);subst eb eH;show ā (eval elt Ça) _;refine thn (he cl P2.objs.size s2 H2 fp _ s7 σ6 H7 n _ k7 I7 q6) λyv s8 ⟨n8,k8,y,H8,I8,r8,hD8,hz8,m',hm,w8⟩=>?_;refine Êc k8 (TC (X:=Ğ) _ s8 σ6 H8 (Ê s2.heap.objs.size) [y] (Ê s2.heap.objs.size) [yv] ßd I8 rfl (Ŭb r8 .nil) ⟨_,ys,y,Z,Z,hD8,hz8,Z⟩) (λ_ s9 ⟨k9,_,H9,I9,_,e9⟩=>?_)
    subst e9;refine⟨m',hm,ůa,n8,_,σ6,_,k9,I9.unpinned,óa st5 (I9.pin (b,o) ęa).1,Óa,w8⟩;obtain⟨o,e,d⟩:=Šd;exact(I9.pin (b,o) ęa).2.1
  ·show ũa b=none;rw[ZP (WF (hex b hb))];exact(Øe).1
 exact áa
noncomputable def Yc(wi:TI)(g:TG)(te:TEN)(ix:Æ ğc)(i:Nat):TSN:=λD n σ H=>wi σ H λJ H1=>KP J g te ýb H1 n λm x H2=>D.nx m (ľd äd) H2
theorem Po{X:Cx}{tg iter elt:Z7}{scope:Scope}{pos spos py:Pos}{y:Str}{wi:TI}{g:TG}{te:TEN}(N':ù)(ix:Æ ğc)(osc:Scope)(N:ù){i:Nat}(nd:X.N.Nodup)(hiy:X.N[i]?=Ã y)(hxy:Ŋb y)
  (hc:èa) (hi:ęc) (ok:TR osc scope N N' ix=true)
  (hg:∀cl C s2 H2 ex,īd) (he:∀cl C s2 H2 ex,PEN Ăa elt te)
  (hsc:X.env.scope=osc:=by rfl) (hN:X.N=N:=by rfl) (hs:∀x,ča=pure x:=by intro _;rfl)
  (hsw:Ŵc []=pure true:=by rfl) (hf:Ĳ y:=by first | exact ĭa | exact ôe | assumption) :
  PN X (.Assign [Ĕb] (ý tg []) spos) (Yc wi g te ix i):=by
 intro pins s σ H n D hn I h;have K0:=NP ok;have K:ßa:=by rw[hsc,hN];exact K0
 obtain⟨cl,hclos,e2,e3⟩:=MG (scope:=scope) (env:=X.env) Ĥb;rw[Şd];refine ZA (ùc ?_);show wpAny _ X.A (do let _ <- comprehension (.ListComp elt [⟨tg,iter,[],0⟩] scope pos) scope X.env _ (newList []) false (eval iter X.env) (some (assign (.Name y py) X.env))) _ _ s;refine ZA (ŉd (wpAny_comprehension_free (use:=Ã (assign Ĕb X.env)) (Q:=λ_ s'=>SPN X pins D .next s') rfl hs hclos K.kind K.names (ŉd (tkn hn Ťa) (λv s1 ⟨k1,h1⟩=>Êc k1 h1 (λitv s2 ⟨k2,h2⟩=>?_)))) (λ_ s' hq=>ZQ (ZQ hq)))
 refine Ce hc K e2 e3 hg he k2 h2 λH2 fp C L σ3 H3 s4 m k4 I2 f2 hC I4 qn=>?_;have I5:É H3 s4:=PQ I2 f2 hC I4 (Heap.SameBut.refl ..);obtain⟨mm,hnn,_⟩:=I4.loc;have hnn:s4.heap.Ns C mm:=hnn;have fC:FpOk X pins H3 C:=I2.fpOk hC I4.free;show Ĭc;refine Êc k4 (wpAny_assign_Name (MN (Q:=λ_ s5=>Inv X pins (ľd (Ú L)) H3 s5/\∃a,ĵa a s4.heap s5.heap/\(a=X.env.locals\/X.env.cells.lookup y=Ã a)) I5 nd hiy hxy (v:=Ê L) rfl (λs5 I6 hch=>ã I6 hch) hf)) (λ_ s5 ⟨k5,I6,a,sb,ha⟩=>?_);have nCa:C≠a:=by
  rcases ha with rfl | ha
  ·exact fC.2.1
  ·exact λz=>fC.2.2.2.2.1 y a ha z.symm
 refine ő mm (hnn.sameBut sb nCa) (λh' sb'=>⟨m,k5,_,H3,?_,qn⟩);obtain⟨f0,f1,f2',f3,f4,f5⟩:=fC;exact I6.turned (t':=s5.toks) (λb o hb e=>(sb'.2 b hb).trans e) f0 f1 f3 f4 f5
end L2
namespace L2
open PySem PySem.Spec PyProof.Rows Builtin Builtin.Str
noncomputable def KTk(n:Nat)(u:Z0):Prop:=∃x t,u=Čc x/\1<=t/\t<n
section
variable (P:Z3) (w:Z5)
noncomputable def DkP(n:Nat)(h:Z8)(d:Z1)(vs:ċ Key Z0):Prop :=
 ∃o es ep,őd d/\o.ExactDict/\o.data=ìc/\KeysOf Ũa es/\Pairs Ũa es.toList vs/\Çe (vs.map (·.1))/\∀e∈es.toList,KTk n e.key
noncomputable def gF(d:Z1)(n:Nat)(vs:ċ Key Z0)(h:Z8):Prop:=ģe/\ſ d/\Įc h vs
noncomputable def DG(H:Hp)(d:Z1)(n:Nat)(kvs:Âb):Prop:=∃vs,H d=Ã (.ext (gF P w d n vs))/\åc
variable {P w}
theorem DkP.of{n:Nat}{h:Z8}{d:Z1}{vs:ċ Key Z0}(x:Įc h vs):h.DictOf Ũa d vs:=let ⟨o,es,ep,a,b,c,e,f,g,_⟩:=x;⟨o,es,ep,a,b,c,e,f,g⟩
theorem DkP.up{n m:Nat}{h:Z8}{d:Z1}{vs:ċ Key Z0}(x:Įc h vs)(l:n<=m):DkP P w m h d vs :=
 let ⟨o,es,ep,a,b,c,e,f,g,k⟩:=x
 ⟨o,es,ep,a,b,c,e,f,g,λq hq=>let ⟨y,t,z1,z2,z3⟩:=k q hq;⟨y,t,z1,z2,WT z3 l⟩⟩
theorem gF.ok{H:Hp}{h:Z8}{d:Z1}{n:Nat}{vs:ċ Key Z0}(x:gF P w d n vs h):Ńa d (.ext (gF P w d n vs)) :=
 ő x (let ⟨_,_,o,_,_,e,_⟩:=x;ã o e) (λ_ _ ⟨a,b,o,es,ep,e,c⟩ k=>⟨a,b,o,es,ep,k _ e,c⟩)
theorem XW(ok:æb)(x:DG P w H d n kvs):∃vs,åc/\ģe/\ſ d/\Įc h vs:=by
 obtain⟨vs,e,r⟩:=x;obtain⟨⟨z,y,dd⟩,_⟩:=(show Ńa d (.ext (gF P w d n vs)) from ok d _ e);exact⟨vs,r,z,y,dd⟩
theorem DG.keeps{H H':Hp}{d:Z1}{n:Nat}{kvs:Âb}(x:DG P w H d n kvs)(e:H' d=H d):DG P w H' d n kvs:=let ⟨vs,a,r⟩:=x;ő vs (e.trans a) r
end
section
variable {P:Z3}{w:Z5}{A:Z4}{E:ģ}{s:Z2}{d:Z1}{vs:Æ (Key × Z0)}{k:Key}{key v:Z0}{n:Nat}
theorem Kw(hkey:(Ũa).is k key=true)(hk0:KTk n key)(hm:Įc s.heap vs)
  (hQ:∀h',Įc h' (stored vs k v)->đa d h'->Q () { s with heap:=h',toks:=s.toks+1 }) (hsz:ģe):ì P (dictSet d key v) Q s:=by
 obtain⟨o,es,ep,ho,hc,hd,hk,hp,hn,ht⟩:=hm;have e1:=hp.length;rw[U5]at e1;unfold dictSet
 (try with_reducible refine êa ?_)
 refine ZA ((Ũa).pyHash hkey ?_);unfold dictSetHashed
 (try with_reducible refine êa ?_)
 refine ZA (wpAny_dictFind_of (s:={ s with toks:=s.toks+1 }) hkey ho hd hk ?_);have hidx:(es.findIdx? λe=>(Ũa).is k e.key)=vs.findIdx? Ľa:=by
  have:=hp.findIdx k;obtain⟨l⟩:=es;simpa using this
 cases hi:es.findIdx? λe=>(Ũa).is k e.key with
 |some i =>
  have h1:=any_of_findIdx_some (hidx▸hi);refine ZA (ŝd (ZA (wpAny_updateDict (s:={ s with toks:=s.toks+1 }) ho hd (wpAny_point (hQ _ ?_ (RG ..))))));refine⟨_,_,ep,đb _ ho (Obj.isFreed_of_dict (Obj.data_mapDict hd _)),hc.mapDict _,Obj.data_mapDict hd _,hk.modify _ _,?_,?_,?_⟩
  ·have h2:(es.toList.findIdx? λe=>(Ũa).is k e.key)=Ã i:=by rw[<- hi];obtain⟨l⟩:=es;simp
   have h3:=hp.modify hn h2 v;rw[stored,ZH h1];obtain⟨l⟩:=es;simpa using h3
  ·rw[stored,ZH h1,keys_map_store];exact hn
  ·intro e he;obtain⟨l⟩:=es;have he:e∈l.modify i (λe=>{ e with val:=v }):=by simpa using he
   obtain⟨j,hj⟩:=List.getElem?_of_mem he;rw[List.getElem?_modify]at hj;cases q:l[j]? with
   |none=>rw[q]at hj;cases hj
   |some f =>
    rw[q]at hj;have z:=ht f (UF q);have hj:=WC hj;subst hj;dsimp only;split<;>exact z
 |none =>
  have h0:k∉vs.map (·.1):=not_mem_of_findIdx_none (hidx▸hi);have h1:¬(vs.any Ľa)=true:=λz=>by
   obtain⟨kv,hkv,he⟩:=List.any_eq_true.mp z;exact h0 (ZT.mpr (ő kv hkv (ġ he)))
  refine ZA (ŝd (wpAny_updateDictKeys (hz:=À) (s:={ s with toks:=s.toks+1 }) ho hd (hQ _ ?_ (RG ..))));refine⟨_,_,ep+1,đb _ ho (Obj.isFreed_of_dict ód),hc.mapDictKeys _,ód,hk.push hkey _,?_,?_,?_⟩
  ·have h3:=hp.append hkey ((Ũa).hash k) v;rw[stored,ZE h1];obtain⟨l⟩:=es;simpa using h3
  ·rw[stored,ZE h1,W2,List.nodup_append];refine ő hn Í (λa ha b hb=>?_);have hb:b=k:=by simpa using hb
   subst hb;exact λe=>h0 (e▸ha)
  ·intro e he;obtain⟨l⟩:=es;have he:e∈l\/e=ő ((Ũa).hash k) key v:=by simpa using he
   rcases he with he | he
   ·exact ht e he
   ·subst he;exact hk0
theorem Zr(hkey:(Ũa).is k key=true)(hk0:KTk n key)(hm:Įc s.heap vs)
  (hQ:∀h',Įc h' (stored vs k v)->đa d h'->Q () { s with heap:=h',toks:=s.toks+1 }) (hsz:ģe):ì P (setItem (Ê d) key v) Q s:=by
 have T:=hm.of.typeIs;unfold setItem
 (try with_reducible refine êa ?_)
 refine ZA (wpAny_sequenceKey T Ç (ZA (wpAny_callSpecial?_slot (name:=Ø "__setitem__") T slot_dict_setitem (ļa slot_dict_setitem T entry_dict_setitem ?_ (args_dict_setitem _ _ _)))));show ā (Builtin.Dict.notOrdered "__setitem__" (ã [Ê d,key,v] []) >>= λ_=>_) s;refine ZA (wpAny_notOrdered_dict T ?_);show ā (dictSet d key v >>= λ_=>_) s;exact ZA (Kw hkey hk0 hm (λh' hm' hs'=>ZQ (ő ħb Z (ZQ (hQ h' hm' hs')))) hsz)
theorem Iz(hkey:(Ũa).is k key=true)(hm:Įc s.heap vs)(hv:valueAt vs k=ôc)
  (hQ:∀e h',e.val=v->Įc h' (without vs k)->đa d h'->Q (Ã e) { s with heap:=h',toks:=s.toks+1 }) (hsz:ģe):ì P (Builtin.Dict.takeOut d key) Q s:=by
 obtain⟨o,es,ep,ho,hc,hd,hk,hp,hn,ht⟩:=hm;have e1:=hp.length;rw[U5]at e1;unfold Builtin.Dict.takeOut
 (try with_reducible refine êa ?_)
 refine ZA ((Ũa).pyHash hkey (ZA (wpAny_dictFind_of (s:={ s with toks:=s.toks+1 }) hkey ho hd hk ?_)));cases hi:es.findIdx? λe=>(Ũa).is k e.key with
 |none =>
  exfalso;rw[<- hp.find k]at hv;cases q:es.toList.find? λe=>(Ũa).is k e.key with
  |none=>rw[q]at hv;cases hv
  |some e =>
   have h1:=List.mem_of_find?_eq_some q;have h2:=List.find?_some q;have:=Array.findIdx?_eq_none_iff.mp hi e (Array.mem_toList_iff.mp h1);rw[h2]at this;cases this
 |some i =>
  have h2:(es.toList.findIdx? λe=>(Ũa).is k e.key)=Ã i:=by rw[<- hi];obtain⟨l⟩:=es;simp
  obtain⟨e,he,_,hev⟩:=hp.at h2;refine ZA (wpAny_dictEntries (s:={ s with toks:=s.toks+1 }) ho hd ?_);rw[show es[i]?=Ã e by rw[<- he];obtain⟨l⟩:=es;simp];refine ZA (wpAny_updateDictKeys (hz:=À) (s:={ s with toks:=s.toks+1 }) ho hd (ZQ (hQ e _ (by rw[hv]at hev;exact(WC hev).symm) ?_ (RG ..))));refine⟨_,_,ep+1,đb _ ho (Obj.isFreed_of_dict ód),hc.mapDictKeys _,ód,hk.erase _,?_,nodup_without hn k,?_⟩
  ·have h3:=hp.erase hn h2;obtain⟨l⟩:=es;simpa using h3
  ·intro f hf;obtain⟨l⟩:=es;have hf:f∈l.eraseIdx i:=by simpa using hf
   exact ht f (List.mem_of_mem_eraseIdx hf)
theorem Nm(hkey:(Ũa).is k key=true)(hpt:íe (keyPart key)=true)(hm:Įc s.heap vs)(hv:valueAt vs k=ôc)
  (hQ:∀h',Įc h' (without vs k)->đa d h'->Q v { s with heap:=h',toks:=s.toks+1 }) (hsz:ģe):ì P (call (Ţ "dict.pop") [Ê d,key]) Q s:=by
 have T:=hm.of.typeIs;refine ļa PySem.F.slot_dict_pop T PySem.F.entry_dict_pop ?_ (PySem.F.args_dict_pop_2 _ _);unfold Builtin.«dict.pop»;refine àe;unfold Builtin.Dict.keyAndDefault;refine ZA (wpAny_notOrdered_dict T ?_);show ā (pure (d,key,none)) s;refine Ôc;simp only[hpt,if_true];refine ZA Ôc;simp only[Bool.false_eq_true,if_false];refine ZA (Iz hkey hm hv (λe h' ev hm' hs'=>?_) hsz);simp only[Option.isNone_some,Bool.false_eq_true,if_false];subst ev;exact ZA (wpAny_letGo (ZQ (ő e.val Z (hQ h' hm' hs'))))
end
section
variable {X:Cx}{a b c e o i value:Z7}{td ty tv:TE}{pos pos':Pos}
theorem GD(r:Őa (.sT x n)):KTk n u:=let ⟨t,e,z⟩:=r;⟨x,t,e,z⟩
theorem P6(r:Őa íd):(Ũa).is (Ŀ x) u=true:=TL (k:=Ŀ x) r
noncomputable def Wj(X:Cx)(td ty:TE):TE:=Åd (ty σ H1 λy H2=>∃a n z kvs v,x=œ/\y=ĉ z/\öb H2/\Ęa (Ŀ z)=ôc/\Q v H2)
theorem N6(ho:Œ o td)(hi:Œ i ty)(hs:NoSl i):Œ (Ýb o i pos) (Wj X td ty):=by
 intro pins s σ H Q I h;refine ĸc (λu s1 ⟨x,H1,I1,rx,q1⟩=>ïb s1 H1 I1 q1 (λiv s2 ⟨y,H2,I2,ry,a,n,z,kvs,v,ex,ey,dg,l,q2⟩=>?_));subst ex ey;obtain rfl:u=ĩ a:=rx;obtain⟨vs,rel,hz,hd,dd⟩:=XW I2.hok dg;obtain⟨w',hw,rw'⟩:=RelO.some_of (v:=v) (o:=valueAt vs (Ŀ z)) (by rw[<- l];exact rel.val _);exact ã dd.of.typeIs (wpAny_getItem_of (P6 ry) dd.of.mapOf hw ⟨v,H2,I2.tok _,rw',q2⟩)
noncomputable def Wl(X:Cx)(ty td:TE):TE:=ìe (∃a n z kvs,x=œ/\y=ĉ z/\öb H2/\Q (.bl (! íe (Ęa (Ŀ z)))) H2)
theorem Ol(hi:Œ i ty)(ho:Œ o td):PC X .NotIn i o (Wl X ty td):=by
 intro pins s σ H Q I h;refine thn Ťa λiv s1 ⟨y,H1,I1,ry,q1⟩=>úd (λu s2 ⟨x,H2,I2,rx,a,n,z,kvs,ex,ey,dg,q2⟩=>?_);subst ex ey;obtain rfl:u=ĩ a:=rx;obtain⟨vs,rel,hz,hd,dd⟩:=XW I2.hok dg;refine wpAny_notIn_of (P6 ry) hd dd.of.mapOf ?_;rw[<- (rel.val _).isSome_eq];exact⟨.bl _,H2,I2.tok _,Z,q2⟩
noncomputable def Zx(X:Cx)(td ty tv:TE):TS:=Ŵa (∃a n m z kvs,x=œ/\y=.sT z m/\n<=m/\öb H3/\kvs.length<sizeLine /\ ∀H4,(∀c,c≠a->H4 c=H3 c)->DG X.prog X.w H4 a m (Ċb (Ŀ z) v)->Ġd H4)
theorem Pr(ho:Œ o td)(hi:Œ i ty)(hv:Œ value tv)(hs:ŋc=œc) :
  ŗb (Zx X td ty tv):=by
 intro pins s σ H D I h;refine Ža (λr s1 ⟨v,H1,I1,rv,q1⟩=>úd (λu s2 ⟨x,H2,I2,rx,q2⟩=>ïb s2 H2 I2 q2 (λiv s3 ⟨y,H3,I3,ry,a,n,m,z,kvs,ex,ey,hnm,dg,hl,q3⟩=>?_)));subst ex ey;obtain rfl:u=ĩ a:=rx;obtain⟨vs,rel,hz,hd,dd⟩:=XW I3.hok dg;obtain⟨vs0,e0,_⟩:=dg;have hl2:ø (î (Ċb (Ŀ z) v)):=by have:=RB kvs (Ŀ z) v;omega
 refine Zr (P6 ry.wk) (GD ry) (dd.up hnm) (λh' dd' hs'=>?_) hz;have rel2:=rel.put (Ŀ z) rv;have new:gF X.prog X.w a m (stored vs (Ŀ z) r) h':=ő (by rw[<- rel2.length];exact hl2) hd dd';have he:∃q,İa a=Ã q:=let ⟨q,_,_,hq,_⟩:=dd';ã q hq;exact źb (by rw[e0];exact True.intro) he rel2
noncomputable def Wk(X:Cx):TE:=λ_ H Q=>∀p H1,ē p->(∀c,c≠p->H1 c=H c)->DG X.prog X.w H1 p 0 []->Ŕ p H1
theorem Pc:Œ (.Dict [] [] pos) (Wk X):=Ļd (have new:gF X.prog X.w s.heap.objs.size 0 [] (Ûa (ê "dict" (.dict #[]))):=⟨WW _,VQ.mpr (ĥ (WF I.big)),_,#[],0,Ĩa,ő Z Z Z,Z,(λe he=>by simp at he),.nil,List.nodup_nil,(λe he=>by simp at he)⟩
 wpAny_Dict_empty (ēb (I.laid (a:=s.heap.objs.size) (o:=.ext _) (t':=s.toks) òd ħ new.ok) (h _ _ (òb ħ) (èd (ZP hc)) (ő _ ZI .nil))))
theorem BM:ĸ "len" (∃a n kvs,xs=[Ŷ a]/\öb H/\Ðc kvs.length):=by
 intro pins s σ H xs us Q I r h;obtain⟨a,n,kvs,rfl,dg,q⟩:=h;obtain⟨u,rfl,ru⟩:=RI r;cases ru;obtain⟨vs,rel,hz,hd,dd⟩:=XW I.hok dg;refine call_len_dict hd dd.of (by rw[sizeLine_eq]at hz;omega) ?_;rw[<- rel.length];exact Ãa (ô kvs.length)
noncomputable def Wm(X:Cx)(td ty:TE):TE:=Åd (∃a,x=œ/\(∃n kvs,öb H1)/\ty σ H1 λy H2=>∃n z kvs v,y=ĉ z/\öb H2/\Ęa (Ŀ z)=ôc /\ ∀H4,(∀c,c≠a->H4 c=H2 c)->DG X.prog X.w H4 a n (VD kvs (Ŀ z))->Q v H4)
theorem Pd(ho:Œ o td)(he:Œ e ty)(m:M1 X o "pop" apos e cpos):Œ (ė "pop" [e] cpos) (Wm X td ty):=by
 intro pins s σ H Q I h;refine ăb PySem.F.slot_dict_pop PySem.F.type_dict_pop (λu s1 ⟨x,H1,I1,rx,a,ex,⟨n0,kvs0,d0⟩,q1⟩=>?_);subst ex;obtain rfl:u=ĩ a:=rx;obtain⟨vs0,_,_,_,o0,es0,ep0,g1,g2,_⟩:=XW I1.hok d0;refine ő (ő o0 g1 g2.1) (λb eb=>by cases eb;exact ő o0 g1 g2.2.1) ?_;rw[m.trees];refine Ŝc (λiv s2 ⟨y,H2,I2,ry,n,z,kvs,v,ey,dg,l,q2⟩=>įb ?_);subst ey;obtain⟨vs,rel,hz,hd,dd⟩:=XW I2.hok dg;obtain⟨_,e0,_⟩:=dg;obtain⟨w',hw,rw'⟩:=RelO.some_of (v:=v) (o:=valueAt vs (Ŀ z)) (by rw[<- l];exact rel.val _);refine Nm (P6 ry) (by obtain⟨t,q⟩:=ry;subst q;rfl) dd hw (λh' dd' hs'=>?_) hz;have rel2:=rel.drop (Ŀ z);have new:gF X.prog X.w a n (without vs (Ŀ z)) h':=ő (WB (X2 _ _) hz) hd dd';have he':∃q,İa a=Ã q:=let ⟨q,_,_,hq,_⟩:=dd';ã q hq;exact⟨v,_,TY I2 (by rw[e0];exact True.intro) hs' he' new.ok,rw',q2 _ (èd (ZP hc)) (ő _ ZI rel2)⟩
end
end L2
namespace L2
open PySem PySem.Spec PyProof.Rows Builtin Builtin.Str
theorem Is(lo:ſ d)(hx:o.ExactDict)(hd:o.data=ìc)(hk:PySem.KeysOf Ũa es)(hp:Pairs Ũa es.toList vs)(hn:Çe (vs.map (·.1))) :
  PySem.W.KdlSrc P w "dict" d d es.size (λi v=>∃e,es[i]?=Ã e/\v=e.key) (λh=>őd d):=by
 have hl:vs.length=es.size:=by rw[<- hp.length,U5]
 have at_:∀h:Z8,őd d->h.DictAt Ũa d vs ep:=λh e=>⟨o,es,e,hx,hd,hk,hp,hn⟩;refine⟨λs hm=>(at_ _ hm).dictOf.typeIs,λh hm=>ã (W8 hm) (W8 hm),λh h' hm hkk=>hkk d ĭa o hm,Ç,Ç,λA E s Q hm hq=>PySem.W.kdl_hint_dict (at_ _ hm).dictOf.typeIs hq,λA s hh hm=>?_⟩;have hlt:=W8 hm;refine⟨_,λi h=>h.IsKeyIter s.heap.objs.size d i es.size ep/\őd d,(λE Q hq=>wpAny_pyIter_dict lo (at_ _ hm) hq),⟨Óa,λi h h' st hkk=>ã (st.1.at λo e=>hkk _ Í o e) (hkk d Í o st.2),λi s' Q E hi st hQ=>?_,λs' Q E st hQ=>?_,λ_ _ _ _ st hQ=>wpAny_pyIter_keyiter st.1 hQ⟩,⟨_,Ĩa,Z,by rw[hl];rfl⟩,WD _ hm⟩
 ·simp at hb;simp[hb]
 ·refine AL st.1 st.2 hd hi λh' it' sb=>?_;exact hQ _ h' s'.toks (ő (es[i]) (ēc hi) Z) (ã it' ((sb.2 d (WF hlt)).trans st.2)) λb o' hb e=>(sb.2 b (λz=>hb (by simp[z]))).trans e
 ·have st1:=st.1;rw[<- hl]at st1;exact wpAny_pyNext_dict_end hh st1 (at_ _ st.2) Í λh' he'=>hQ h' s'.toks λb o' hb e=>he' b o' (λz=>hb (by simp[z])) e
theorem EY:∀{us:š}{ss:ù},StrsAre us ss->(∀u∈us,KTk n u)->Ŝa éa
 |_,_,.nil=>λ_=>.nil
 |_,_,.cons y t r=>λh=>Ŭb (by
   obtain⟨x,t',e,z⟩:=h _ XB;injection e with e1 e2;subst e1 e2
   exact ő t Z z) (EY r λu hu=>h u (UV _ hu))
theorem MP(hc:èa):ĸ "sorted" (∃(d:Z1) (n:Nat) (kv:Âb) (ss:ù),xs=[Ê d]/\DG X.prog X.w H d n kv/\kv.map (·.1)=ss.map Sum.inr/\ss.length<64 /\ ∀(D:Z1) (ss':ù),ē D->ss'.Perm ss->sortedS ss'=true->èc D (ss'.map λx=>V.sT x n)):=by
 intro pins s σ H xs us Q I rv h;obtain⟨d,n,kv,ss,rfl,dg,hk,h64,q⟩:=h;obtain⟨u,rfl,ru⟩:=rv.one;cases ru;obtain⟨vs,rel,hz,lo,o,es,ep,g1,g2,g3,g4,g5,g6,g7⟩:=XW I.hok dg;have hkeys:vs.map (·.1)=ss.map Sum.inr:=by rw[<- rel.keys];exact hk
 have hlen:vs.length=ss.length:=by
  have:=õ hkeys;rw[ZD,ZD]at this;exact this
 have hes:es.size=vs.length:=by rw[<- g5.length,U5]
 have big:ø (ũ 64):=Ç
 refine Ōa;unfold Builtin.«sorted»;refine ZA (m:=checkCount "sorted" 1 1 _) Ôc;refine ZA (PySem.W.kdu_collect (Is lo g2 g3 g4 g5 g6) Ĵa g1 À λh' tk acc hk' hacc=>?_);have hl:acc.toList.length=vs.length:=by rw[U5,hacc.1,hes]
 have hA:∀(i:Nat) (v:Z0),acc.toList[i]?=ôc->∃e,es.toList[i]?=Ã e/\v=e.key:=λi v hv=>by
  obtain⟨e,h1,h2⟩:=hacc.2 i v (by rw[<- SE];exact hv);exact ő e (by rw[SE];exact h1) h2
 have hT:∀v∈acc.toList,KTk n v:=λv hv=>by
  obtain⟨i,hi⟩:=List.getElem?_of_mem hv;obtain⟨e,h1,rfl⟩:=hA i v hi;exact g7 e (UF h1)
 have hS:StrsAre acc.toList ss:=IR (P:=X.prog) (w:=X.w) À λi v hv=>by
  obtain⟨e,h1,rfl⟩:=hA i v hv;have hi:i<ss.length:=by
   have:=Ăb hv;omega
  refine ő (ss[i]) Ÿd ?_;have h2:(vs.map (·.1))[i]?=Ã (ça (ss[i])):=by rw[hkeys,ZX,Ÿd];rfl
  rw[ZX]at h2;cases e3:vs[i]? with
  |none=>rw[e3]at h2;cases h2
  |some p =>
   obtain⟨k,y⟩:=p;rw[e3]at h2;have h2:k=ça (ss[i]):=WC h2;subst h2;exact(g5.get? h1 e3).1
 refine ZA (wpAny_newList ?_ (by rw[hl];omega));have hoL:(h'.push Đb).get? h'.objs.size=Ã Đb:=Ĩa;refine ZA (êa (Ļa (by rw[<- e];exact hS)));obtain⟨ss',b1,b2,b3⟩:=sorted_out_str hS a1 a2;have hO:∀u∈((arrOf st').map (·.2)).toList,KTk n u:=λu hu=>by
  rw[Array.toList_map]at hu;obtain⟨p,hp,rfl⟩:=Áb hu;have hp2:=(Array.perm_iff_toList_perm.mp a1).mem_iff.mp hp;rw[pairsOf_toList]at hp2;have h3:=mem_zip_self hp2;rw[<- h3.1];exact hT _ h3.2
 obtain⟨e,he⟩:=sortedHeap_at (out:=(arrOf st').map (·.2)) hoL;have I1:É H { s with heap:=h',toks:=tk }:=I.kept hk';have old:∀b o,İa b=ţ->(sortedHeap (h'.push Đb) h'.objs.size acc.toList ((arrOf st').map (·.2))).get? b=ţ:=λb o h1=>by
  have lt:=W8 h1;rw[sortedHeap_old (WF lt) (by rw[size_push'];exact Nat.lt_succ_of_lt lt),Îe (WF lt)];exact h1
 refine ZQ ⟨_,Z,Ê _,_,I1.laid (t':=tk) (o:=.lst (ss'.map λx=>V.sT x n)) old ħ ⟨?_,((arrOf st').map (·.2)).toList,e,EY b1 hO,?_⟩,Z,q _ ss' ŏc b2 b3⟩
 ·rw[ZD,b2.length_eq];omega
 ·rw[Array.toArray_toList];exact he
theorem Va(hu:če 8):ķ .Eq (Äb (∃a b n kvs,x=œ/\y=ťd/\öb H/\H b=Ã (.dK [])/\ŉb kvs.isEmpty)):=by
 intro pins s σ H x y v u Q I rx ry h;obtain⟨a,b,n,kvs,rfl,rfl,dg,hb,q⟩:=h;cases rx;cases ry;obtain⟨vs,rel,hz,hd,o,es,ep,g1,g2,g3,g4,g5,g6,g7⟩:=XW I.hok dg;obtain⟨_,hd2,vs2,rel2,dd2⟩:=QK I.hok hb;cases rel2;have T1:s.TypeIs œ "dict" := ő o g1 g2.1;have T2:=dd2.typeIs;obtain⟨o2,es2,ep2,k1,k2,k3,k4,k5,k6⟩:=dd2;have e2:es2.size=0:=by have:=k5.length;rw[U5]at this;exact this
 have e1:es.size=vs.length:=by rw[<- g5.length,U5]
 have e3:kvs.length=vs.length:=rel.length;show ā (richCompare .Eq œ ťd) s;refine wpAny_richCompare_same_room (op:=.Eq) T1 T2 F.slot_dict_eq (ļa F.slot_dict_eq T1 F.entry_dict_eq ?_ (F.args_dict_eq_2 _ _)) À;show ā (Builtin.Dict.dictSlotArgs "__eq__" (ã [œ,ťd] []) >>= λ_=>_) s;refine àe;unfold Builtin.Dict.dictSlotArgs;refine ZA (wpAny_notOrdered_dict T1 ?_);show ā (pure (ĩ a,ĩ b)) s;refine Ôc;dsimp only;refine ZA (wpAny_isInstance T2 isSubtype_dict_dict ?_);simp only[Bool.not_true,Bool.false_eq_true,if_false];refine ùb (ZQ àe);have fin:∀c:Bool,c=kvs.isEmpty->wpAny Ñ X.A.in1 (ret (Value.bool (c==true))) (λfin s'=>∃v,fin=Fin.done (Flow.ret v)/\v≠Value.notImplemented/\Œa v s') X.xe s:=èd (by
  refine ZQ ⟨_,Z,(λz=>nomatch z),.bl kvs.isEmpty,H,I,?_,q⟩;rw[<- hc];cases c<;>rfl)
 unfold Builtin.Dict.samePairs Builtin.Dict.showsAll;simp only[hd,hd2,Bool.false_eq_true,if_false];refine ùb (ZQ (ZA (wpAny_dictEntries g1 g3 (ZA (wpAny_dictEntries k1 k3 ?_)))));rw[e2,e1,<- e3];cases kvs with
 |cons p r =>
  rw[ZH Í];exact ZA (ŝd (ZQ (fin _ rfl)))
 |nil =>
  rw[ZE Í];refine ZA (wpAny_dictEpoch g1 g3 ?_);refine àe;rw[Std.Legacy.Range.forIn_eq_forIn_range'];exact ZQ (ZQ (fin _ rfl))
end L2
namespace L2
open PySem PySem.Spec PyProof.Rows
theorem scm{N P:ù}{sc:Scope}(a:sc.kind=.function:=by rfl)(b:sc.isCoroutine=false:=by rfl)(c:sc.isGenerator=false:=by rfl)(d:N.Nodup:=by decide +kernel)(e:N.take P.length=P:=by rfl)(f:∀x∈P,ðb=ēe\/ðb=Ã .cell:=by decide +kernel)(g:∀y∈sc.names,y.2≠.free:=by decide +kernel):FnScope N P sc:=⟨a,b,c,d,e,f,g⟩
section
variable {X:Cx}{a b e:Z7}{ta tb te:TE}{pos p:Pos}
theorem pa1(ha:Œ e te)(hs:Õ [e]=(false,í e)::Õ []:=by rfl):PA X [e] (TH te tNil):=ZF ha U1 hs
theorem pix{r:R2}(hr:IxR X r)(ha:Ód)(hb:Œ b tb)(hs:OY b:=by exact Ÿ):Œ (Ýb a b pos) Ød:=Yi hr ha hb hs
theorem pcm{op:CmpOp}{r:R2}(ho:ķ op r)(ha:Ód)(hb:Œ b tb)(h:op≠.In:=by decide)(h2:op≠.NotIn:=by decide):PT X Ób (QO Ød):=D8 ho ha hb (U0 b h h2)
theorem pifF{c:Z7}{tc:TT}{v j q1 q2}(hc:PT X c tc):PS X (.If c [.Return (Ã (.Constant (.bool v) j q1)) q2] [] pos) (tIfS tc (tRet (tC (.bl v))) OF):=ZZ hc (Ġ U9) W0
end
end L2
namespace Seek
open PySem L2 PyProof.Rows
noncomputable def top(i:Nat):Z6:=PySem.Challenge.pw_stairseek_k36_rows_of_a_desk.main.body.getD i (.Pass ⟨0,0,0,0⟩)
noncomputable abbrev JL:Z6:=top 18
noncomputable abbrev Q8:Z6:=top 19
noncomputable abbrev MC:Z6:=top 20
noncomputable abbrev LQ:Z6:=top 21
noncomputable abbrev QT:Z6:=top 22
noncomputable abbrev M3:Z6:=top 23
noncomputable abbrev PL:Z6:=top 24
noncomputable abbrev JK:Z6:=top 25
noncomputable abbrev IM:Z6:=top 28
noncomputable abbrev IU:Z6:=top 30
noncomputable abbrev O5:Z6:=top 33
noncomputable abbrev OV:Z6:=top 34
noncomputable abbrev LI:Z6:=top 90
noncomputable abbrev dLaw:Z6:=top 104
noncomputable abbrev OU:Z6:=top 31
noncomputable abbrev NK:Z6:=top 27
noncomputable abbrev NQ:Z6:=top 29
noncomputable abbrev N3:Z6:=top 26
noncomputable abbrev LP:Z6:=top 41
noncomputable abbrev L5:Z6:=top 37
noncomputable abbrev NN:Z6:=top 38
noncomputable abbrev MH:Z6:=top 39
noncomputable abbrev NR:Z6:=top 40
noncomputable abbrev L7:Z6:=top 68
noncomputable abbrev LE:Z6:=top 88
noncomputable abbrev LF:Z6:=top 96
noncomputable abbrev M6:Z6:=top 35
noncomputable abbrev PK:Z6:=top 48
noncomputable abbrev O0:Z6:=top 49
noncomputable abbrev OK:Z6:=top 50
noncomputable abbrev IV:Z6:=top 51
noncomputable abbrev IA:Z6:=top 52
noncomputable abbrev NJ:Z6:=top 43
noncomputable abbrev L8:Z6:=top 44
noncomputable abbrev M4:Z6:=top 45
noncomputable abbrev NO:Z6:=top 61
noncomputable abbrev J3:Z6:=top 62
noncomputable abbrev M7:Z6:=top 63
noncomputable abbrev MJ:Z6:=top 64
noncomputable abbrev SU:Z6:=top 65
noncomputable abbrev SA:Z6:=top 66
noncomputable abbrev M9:Z6:=top 91
noncomputable abbrev LG:Z6:=top 89
noncomputable abbrev KL:Z6:=top 53
noncomputable abbrev N2:Z6:=top 54
noncomputable abbrev O4:Z6:=top 55
noncomputable abbrev IL:Z6:=top 57
noncomputable abbrev PJ:Z6:=top 58
noncomputable abbrev JM:Z6:=top 97
noncomputable abbrev NL:Z6:=top 75
noncomputable abbrev dShC:Z6:=top 76
noncomputable abbrev dShN:Z6:=top 77
noncomputable abbrev MU:Z6:=top 78
noncomputable abbrev IB:Z6:=top 79
noncomputable abbrev M5:Z6:=top 80
noncomputable abbrev M8:Z6:=top 81
noncomputable abbrev JN:Z6:=top 82
noncomputable abbrev MI:Z6:=top 83
noncomputable abbrev IN:Z6:=top 84
noncomputable abbrev N1:Z6:=top 85
noncomputable abbrev RN:Z6:=top 92
noncomputable abbrev LH:Z6:=top 94
noncomputable abbrev YV:Z6:=top 93
noncomputable abbrev NM:Z6:=top 95
noncomputable abbrev T5:Z6:=top 98
noncomputable abbrev XZ:Z6:=top 99
noncomputable abbrev SR:Z6:=top 100
noncomputable abbrev SS:Z6:=top 101
noncomputable abbrev RM:Z6:=top 102
noncomputable abbrev RS:Z6:=top 103
noncomputable abbrev YW:Z6:=top 56
noncomputable abbrev U8:Z6:=top 86
noncomputable def WQ(c:Z6)(j:Nat):Z6:=match c with | .ClassDef _ _ _ b _ _ _ _ _ _ _=>b.getD j (.Pass ⟨0,0,0,0⟩) | _=>.Pass ⟨0,0,0,0⟩
open PySem L2 PyProof.Rows
noncomputable def Row(H:Hp)(a:Z1)(ns:Ċ):Prop:=H a=Ù Æa
noncomputable def nfB(ns:Ċ):Bool:=((Ĵ (ns.length-1)).map λi=>è (Ģa i<=Ģa ůa)).all id
theorem Row.same{H H':Hp}{a:Z1}{ns:Ċ}(e:Ŀd)(h:Üe):Row H' a ns:=e _ _ h
theorem Row.sq{K:ZC}{H:Hp}{a:Z1}{ns:Ċ}(h:Üe):Èb a Æa:=sqo h
structure Blt(mg:Ą):Prop where
 len:ě "len"
 all:ě "all"
 isinst:ě "isinstance"
 rng:ě "range"
 int:ě "int"
 bool:ě "bool"
 list:ě "list"
 enum:ě "enumerate"
 abs:ě "abs"
 max:ě "max"
 mr:∃t,mg "MOST_ROWS" = Ã (Řd 6)
 mp:∃t,mg "MOST_PLACES" = Ã (Řd 6)
 ms:∃t,mg "MOST_TO_A_SIDE" = Ã (Řd 4)
theorem sl6(h:n<=1000):ø n:=Nat.le_of_lt (UB h)
theorem pln{X:Cx}{e:Z7}{te:TE}{pos p:Pos}(T:Blt X.mg)(ha:Œ e te)(hg:Gl X "len" := by rfl) (he:Õ [e]=(false,í e)::Õ []:=by rfl):Œ (Ň "len" [e]) (tCB (λxs H Q=>RLen X.K xs H Q) (TH te tNil)):=pe_b Zn T.len boot_len (ZF ha U1 he) hg Ç Ç he rfl
section
variable {P:Z3}{w:Z5}{K:ZC}{mg:Ą}{base:Z8}
inductive spIsWhole(vs:ĝ)(H:Hp)(Q:VK)(z3_:XK):Prop
 |mk (i:Int) (h0:vs=[ïe]) (h1:Q Ĩ H)
theorem Fn:ä Ę Ę JL:=scm
theorem Em(T:ûa)(D:é "is_whole" JL Ę):Īa:=by
 refine Á Fn
 ·obtain⟨i,rfl,_⟩:=h;rfl
 ·obtain⟨i,rfl,q⟩:=h;refine ýe (Ĉ VH (į Ü (V6 T.int boot_int))) (Tw (Ĉ VH (į Ü (V6 T.bool boot_bool))))
  exact Îd _ ïe (Vp _) (Ŧb (Îd _ ïe (Vo _) q))
inductive spAllWhole(K:ZC)(vs:ĝ)(H:Hp)(Q:VK)(z3_:XK):Prop
 |mk (a:Z1) (ns:Ċ) (h0:vs=[œ]) (h1:Üe) (h2:ns.length<=1000) (h3:∀H',ū Ĩ)
theorem AX:ş "things" Q8:=scm
theorem KQ{α:Type}(xs:Æ α):(xs.map řd).all id=true:=Í
theorem Dt(T:ûa)(D:é "all_whole" Q8 ["things"]) (G1:Īa):čb (spAllWhole K):=by
 refine Á AX
 ·obtain⟨a,ns,rfl,_⟩:=h;rfl
 ·obtain⟨a,ns,rfl,hR,hn,q⟩:=h;have nd1:(Ę:ù).Nodup:=Â
  refine Ňb (Ē Ę [none] Q8 ["things"] (Y7 Ü) nd1 (Ĺ G1 hr))
  refine Ća a hR.sq (V0 V.int (λ_=>Ĩ) hR.sq (sl6 hn) (λi hx H' Q' sm q'=>?_) λD H' hD sm hDl=>?_)
  ·exact şc Z i Z Īc
  ·refine ŗd D (ns.map řd) ?_ ?_
   ·rw[hDl];simp[Function.comp]
   ·rw[KQ];exact ŀd
inductive spNF(vs:ĝ)(H:Hp)(Q:VK)(z3_:XK):Prop
 |mk (a:Z1) (ns:Ċ) (h0:vs=[œ]) (h1:Üe) (h2:ns.length<=1000) (h3:∀H',Êe (nfB ns))
theorem Wa:ş "numbers" MC:=scm
theorem XG{ns:Ċ}{i:Nat}(h:ďe i):atI Æa (Þ i)=ļ (Ģa i):=UM (by simp[h])
theorem Ye(T:ûa)(D:é "never_falls" MC ["numbers"]):Ä 1 "never_falls" ["numbers"] spNF:=by
 refine Á Wa
 ·obtain⟨a,ns,rfl,_⟩:=h;rfl
 ·obtain⟨a,ns,rfl,hR,hn,q⟩:=h;have nd1:(["k","numbers"]:ù).Nodup:=Â
  refine Ňb (Ē ["k","numbers"] [none,Ã 0] MC ["numbers"] (AD rfl T.rng (į ZB Ïd)) nd1 (Æe TK (pix (ixL K) ó (ZN F7 Ü ZB)) (pix (ixL K) ó Ü)))
  refine⟨_,Z,a,_,Z,Ė hR.sq,1,_,Z,⟨À,À,?_,?_⟩,?_⟩
  ·omega
  ·rw[ZD];omega
  ·rw[ZD,show(Þ ns.length-1).toNat=ns.length-1 by omega];refine AR (λi=>.bl (è (Ģa i<=Ģa ůa))) Ĭb (λi hi H' Q' sm q'=>?_) λD H' hD sm hDl=>?_
   ·have h1:Þ 1+Þ i-1=Ý i:=À
    have h2:Þ 1+Þ i=Ý ůa:=À
    refine⟨_,Z,_,Z,_,_,Z,Z,a,_,_,_,Z,Z,(hR.same sm).sq,(by rw[h1];exact XG À),_,Z,_,Z,a,_,_,_,Z,Z,(hR.same sm).sq,(by rw[h2];exact XG À),_,_,Z,Z,?_⟩;exact Īc
   ·refine ŗd D ((Ĵ (ns.length-1)).map λi=>è (Ģa i<=Ģa ůa)) ?_ ŀd;rw[hDl];simp[Function.comp]
end
open PySem L2 PyProof.Rows
noncomputable abbrev Prs:=ċ Z1 Ċ
structure Tab(H:Hp)(t:Z1)(prs:Prs):Prop where
 l:H t=Ù (Ų Śb)
 r:∀p∈prs,Row H p.1 p.2
theorem Tab.same{H H':Hp}{t:Z1}{prs:Prs}(e:Ŀd)(h:ľ):ıd H':=ã (e _ _ h.l) (Ļ ((h.r p hp).same e))
theorem Tab.sq{K:ZC}{H:Hp}{t:Z1}{prs:Prs}(h:ľ):Èb t (Ų Śb):=sqo h.l
noncomputable def Sm(prs:Prs):Prop:=prs.length<=1000/\∀p∈prs,p.2.length<=1000
noncomputable def rowB(ns:Ċ):Bool:=ēa 1 ns.length 6
noncomputable def w0(prs:Prs):Nat:=(prs.head?.map (·.2.length)).getD 0
noncomputable def shB(prs:Prs):Bool:=(ēa 1 prs.length 6)&&((Ų (rowB p.2)).all id&&(Ų (è (p.2.length=ĺ))).all id)
noncomputable def col(prs:Prs)(j:Nat):Ċ:=Ų (p.2.getD j 0)
noncomputable def srB(prs:Prs):Bool:=(Ų (nfB p.2)).all id&&((Ĵ ĺ).map λj=>nfB Ĕd).all id
noncomputable def tabB(prs:Prs):Bool:=shB prs&&srB prs
theorem OR{α:Type}(xs:Æ α)(f:α->Bool):xs.map (λx=>V.bl (f x))=(xs.map f).map V.bl:=by simp[Function.comp]
theorem Rb{i j:Nat}:è (Žb (Þ i)=Žb (Þ j))=è (i=j):=by
 rw[XA];constructor
 ·intro h;injection h with h;omega
 ·rintro rfl;rfl
theorem X0{prs:Prs}(h:1<=prs.length):∃p,prs.head?=Ã p/\p∈prs/\prs[0]?=Ã p:=by
 cases prs with
 |nil=>simp at h
 |cons p r=>exact⟨p,Z,Í,Z⟩
section
variable {P:Z3}{w:Z5}{K:ZC}{mg:Ą}{base:Z8}
inductive spIsRow(vs:ĝ)(H:Hp)(Q:VK)(z3_:XK):Prop
 |mk (a:Z1) (ns:Ċ) (h0:vs=[œ]) (h1:Üe) (h2:ns.length<=1000) (h3:∀H',Êe (rowB ns))
theorem Md:ä Ę Ę LQ:=scm
theorem Mo(T:ûa)(D:é "is_row" LQ Ę) (G:čb (spAllWhole K)):Ä 3 "is_row" Ę spIsRow:=by
 refine Á Md
 ·obtain⟨a,ns,rfl,_⟩:=h;rfl
 ·obtain⟨a,ns,rfl,hR,hn,q⟩:=h;obtain⟨tk,mp⟩:=T.mp;refine Ňb (VT îd (VT (XN TK TK ZB Ïd (YX (v:=ô 6) rfl mp Ôe)) (VG űb)))
  refine Îd _ (.lst hR) (LS _) (Ŧb ⟨_,Z,a,_,Z,Ė hR.sq,1,_,Z,Z,_,Z,?_⟩);rw[ZD];refine Ŋa
  ·have h1:=ġ h1;refine Ŀb _ Z ŗc
   ·have h2:=ġ h2;refine Řc a ns hR hn (λH' sm=>?_);have e:rowB ns=true:=by
     unfold rowB;rw[ZS À,ZS À];rfl
    rw[<- e];exact ŀd
   ·have e:rowB ns=false:=by
     unfold rowB;rw[ZW (p:=ns.length<=6) (by intro z;exact h2 (ZS À))];simp
    rw[<- e];exact q H ŵ
  ·refine ža (ĭb ?_);have e:rowB ns=false:=by
    unfold rowB;rw[ZW (p:=1<=ns.length) (by intro z;exact h1 (ZS À))];simp
   rw[<- e];exact q H ŵ
inductive spShape(vs:ĝ)(H:Hp)(Q:VK)(z3_:XK):Prop
 |mk (t:Z1) (prs:Prs) (h0:vs=[Ê t]) (h1:ľ) (h2:Sm prs) (h3:∀H',Êe (shB prs))
theorem Mh:ä ["thing","row"] Ę QT:=scm
theorem Mw(T:ûa)(D:é "has_table_shape" QT Ę) (G:Ä 3 "is_row" Ę spIsRow):Ä 4 "has_table_shape" Ę spShape:=by
 refine Á Mh
 ·obtain⟨t,prs,rfl,_⟩:=h;rfl
 ·obtain⟨t,prs,rfl,hT,⟨hn,hw⟩,q⟩:=h;obtain⟨tk,mr⟩:=T.mr;have nd1:(Ïb:ù).Nodup:=Â
  have nd2:(["row","thing"]:ù).Nodup:=Â
  refine ĉb (pifF (řb (Ģd îd) (WO (PV TK TK ZB Ïd (YX (v:=ô 6) rfl mr Ôe))))) (pifF (ėe Ïb QT ["thing","row"] Ü)) (Ġ (Ē ["row","thing"] [none,Ã 0] QT ["thing","row"] (Y7 Ü) nd2 (Æe WH (àc (lenK K) Ş) (àc (lenK K) (pa1 (pix (ixL K) ó ZB))))))
  refine Îd _ (.lst hT.l) (LS _) (ĭb ⟨_,Z,t,_,Z,Ė hT.sq,1,_,Z,Z,_,Z,?_⟩);rw[ZD];have bad:¬(1<=prs.length/\ėa)->shB prs=false:=λz=>by
   unfold shB;rw[<- Bool.decide_and,ZW z];rfl
  refine Ŋa
  ·have h1:=ġ h1;refine Ŀb _ Z ?_
   by_cases h2:ėa
   ·rw[ZS (show Þ prs.length<=6 by omega)];refine ĭb ?_;refine Ća t hT.sq (ÿa (.bl (rowB p.2)) hT.sq hn)
    ·exact Řc p.1 p.2 ((hT.r p hp).same sm) (hw p hp) q'
    ·refine⟨D,Ų (rowB p.2),Z,sqo (by rw[hDl,OR]),_,Z,?_⟩;cases e1:(Ų (rowB p.2)).all id with
     |false =>
      refine Ŧb ?_;have e:shB prs=false:=by
       unfold shB;rw[e1];simp
      have q1:=ŀd;rw[e]at q1;exact q1
     |true =>
      refine ĭb ?_;have hT1:=ëa sm;obtain⟨p0,hp0,hm0,hx0⟩:=X0 (prs:=prs) À;have hw0:ĺ=p0.2.length:=by
       unfold w0;rw[hp0];rfl
      refine Ća t hT1.sq (V0 (λp=>Śb) (λp=>.bl (è (p.2.length=ĺ))) hT1.sq (sl6 hn) (λp hp H2 Q' sm2 q'=>?_) λD2 H2 hD2 sm2 hDl2=>?_)
      ·have hT2:=hT1.same sm2;refine⟨_,Z,p.1,_,Z,Ė (hT2.r p hp).sq,_,Z,t,_,0,Ê p0.1,Z,Z,hT2.sq,UM (j:=0) (by rw[ZX,hx0];rfl),p0.1,_,Z,Ė (hT2.r p0 hm0).sq,Z,?_⟩;rw[ZD,ZD,Rb,<- hw0];exact Īc
      ·refine ŗd D2 (Ų (è (p.2.length=ĺ))) (by rw[hDl2,OR]) ?_;have q1:=q H2 (Şa sm2);unfold shB at q1;rw[e1,ZS (show 1<=prs.length by omega),ZS h2]at q1;exact q1
   ·rw[ZW (show ¬Þ prs.length<=6 by omega)];refine Ŧb ?_;have q1:=q H ŵ;rw[bad À]at q1;exact q1
  ·refine ža (Ŧb ?_);have q1:=q H ŵ;rw[bad (by
    intro z
    exact h1 (ZS À))]at q1
   exact q1
end
open PySem L2 PyProof.Rows
section
variable {P:Z3}{w:Z5}{K:ZC}{mg:Ą}{base:Z8}
inductive spAtPlace(vs:ĝ)(H:Hp)(Q:VK)(z3_:XK):Prop
 |mk (t:Z1) (prs:Prs) (j:Nat) (h0:vs=[Ê t,ô j]) (h1:ľ) (h2:prs.length<=1000) (h3:(∀p∈prs,j<p.2.length)) (h4:∀D H',ē D->Ŀd->Row H' D Ĕd->Ŕ D H')
theorem Fh:ä ņc ņc M3:=scm
theorem Eh(D:é "numbers_at_place" M3 ņc):Ä 1 "numbers_at_place" ņc spAtPlace:=by
 refine Á Fh
 ·obtain⟨t,prs,j,rfl,_⟩:=h;rfl
 ·obtain⟨t,prs,j,rfl,hT,hn,hj,q⟩:=h;have nd1:(["row","place"]:ù).Nodup:=Â
  refine Ňb (Ì ["row","place"] [none,Ã 1] M3 ņc (Y7 Ü) ň Y0 (pix (ixL K) Ü ó))
  refine Ća t hT.sq (ÿa (ô (p.2.getD j 0)) hT.sq hn)
  ·exact⟨_,Z,_,Z,p.1,_,_,_,Z,Z,((hT.r p hp).same sm).sq,XG (hj p hp),Īc⟩
  ·refine q D H' hD sm ?_;unfold Row col;rw[hDl,W7];rfl
inductive spSorted(vs:ĝ)(H:Hp)(Q:VK)(z3_:XK):Prop
 |mk (t:Z1) (prs:Prs) (h0:vs=[Ê t]) (h1:ľ) (h2:Sm prs) (h3:1<=prs.length) (h4:(∀p∈prs,p.2.length=ĺ)) (h5:∀H',Êe (srB prs))
theorem Fb:ä ["table","row","place"] Ŏ PL:=scm
theorem Js(T:ûa)(D:é "is_sorted_both_ways" PL Ŏ) (G:Ä 1 "never_falls" ["numbers"] spNF) (G2:Ä 1 "numbers_at_place" ņc spAtPlace):Ä 2 "is_sorted_both_ways" Ŏ spSorted:=by
 refine Á Fb
 ·obtain⟨t,prs,rfl,_⟩:=h;rfl
 ·obtain⟨t,prs,rfl,hT,⟨hn,hw⟩,h1,hv,q⟩:=h;have nd1:(Ïb:ù).Nodup:=Â
  have nd2:(["place","table"]:ù).Nodup:=Â
  obtain⟨p0,hp0,hm0,hx0⟩:=X0 (prs:=prs) h1;have hw0:ĺ=p0.2.length:=(hv p0 hm0).symm;refine ë (ĉc (pifF (ėe Ïb PL ["table","row","place"] Ü)) (Ē ["place","table"] [none,Ã 0] PL ["table","row","place"] (ňb (pa1 Ŷb)) nd2 (pe_f G hr (pa1 (pe_f G2 hr (â 1 Ü))))))
  refine Ća t hT.sq (ÿa (.bl (nfB p.2)) hT.sq hn)
  ·exact Řc p.1 p.2 ((hT.r p hp).same sm) (hw p hp) q'
  ·refine⟨D,Ų (nfB p.2),Z,sqo (by rw[hDl,OR]),_,Z,?_⟩;cases e1:(Ų (nfB p.2)).all id with
   |false =>
    refine Ŧb ?_;have q1:=ŀd;unfold srB at q1;rw[e1]at q1;exact q1
   |true =>
    refine ĭb ?_;have hT1:=ëa sm;refine⟨_,Z,t,_,0,Ê p0.1,Z,Z,hT1.sq,UM (j:=0) (by rw[ZX,hx0];rfl),p0.1,_,Z,Ė (hT1.r p0 hm0).sq,_,Z,?_,?_,?_⟩
    ·omega
    ·have:=hw p0 hm0;rw[ZD];omega
    ·rw[ZD,<- hw0,YR];have hb:ĺ<=1000:=by rw[hw0];exact hw p0 hm0
     refine AR (λj=>.bl (nfB Ĕd)) (sl6 hb) (λj hj H2 Q' sm2 q'=>?_) λD2 H2 hD2 sm2 hDl2=>?_
     ·have hT2:=hT1.same sm2;refine⟨_,Z,_,Z,t,prs,j,by rw[Int.zero_add],hT2,hn,Ļ (ú (hv p hp) hj),λD3 H3 hD3 sm3 r3=>⟨D3,Ĕd,Z,r3,?_,λH4 sm4=>q' H4 (sm3.trans sm4)⟩⟩;unfold col;rw[ZD];exact hn
     ·refine ŗd D2 ((Ĵ ĺ).map λj=>nfB Ĕd) (by rw[hDl2,OR]) ?_;have q1:=q H2 (Şa sm2);unfold srB at q1;rw[e1]at q1;exact q1
inductive spIsTable(vs:ĝ)(H:Hp)(Q:VK)(z3_:XK):Prop
 |mk (t:Z1) (prs:Prs) (h0:vs=[Ê t]) (h1:ľ) (h2:Sm prs) (h3:∀H',Êe (tabB prs))
theorem Fk:ä Ę Ę JK:=scm
theorem FG(h:shB prs=true):1<=prs.length/\ėa/\(∀p∈prs,1<=p.2.length/\p.2.length<=6)/\∀p∈prs,p.2.length=ĺ:=by
 unfold shB rowB at h;simp only[YT,decide_eq_true_eq,UK,ZT,id]at h;obtain⟨⟨h1,h2⟩,h3,h4⟩:=h;exact⟨h1,h2,Ļ (by simpa using h3 _ (ő p hp Z)),Ļ (by simpa using h4 _ (ő p hp Z))⟩
theorem El(D:é "is_table" JK Ę) (G:Ä 4 "has_table_shape" Ę spShape) (G2:Ä 2 "is_sorted_both_ways" Ŏ spSorted):ñb:=by
 refine Á Fk
 ·obtain⟨t,prs,rfl,_⟩:=h;rfl
 ·obtain⟨t,prs,rfl,hT,hs,q⟩:=h;refine ýe űb (Ĺ G2 Ĩd);refine Řc t prs hT hs (λH' sm=>ë Z);cases e:shB prs with
  |false =>
   refine ĭb ?_;have q1:=ŀd;unfold tabB at q1;rw[e]at q1;exact q1
  |true =>
   obtain⟨a1,a2,a3,a4⟩:=FG e;refine Ŧb ⟨_,Z,t,prs,Z,ëa sm,hs,a1,a4,λH2 sm2=>?_⟩;have q1:=q H2 (Şa sm2);unfold tabB at q1;rw[e]at q1;exact q1
inductive spNeedTable(vs:ĝ)(H:Hp)(Q:VK)(z3_:XK):Prop
 |mk (t:Z1) (prs:Prs) (h0:vs=[Ê t]) (h1:ľ) (h2:Sm prs) (h3:Ĕ) (h4:∀H',ū .non)
theorem Cl:ä Ę Ę IM:=scm
theorem Cv(D:é "need_table" IM Ę) (G:ñb):ïa:=by
 refine Á Cl
 ·obtain⟨t,prs,rfl,_⟩:=h;rfl
 ·obtain⟨t,prs,rfl,hT,hs,hg,q⟩:=h;refine āc (Ģd űb) WG;refine Řc t prs hT hs (λH' sm=>ë Z);rw[hg];exact ĭb ŀd
inductive spNeedNumber(vs:ĝ)(H:Hp)(Q:VK)(z3_:XK):Prop
 |mk (i:Int) (h0:vs=[ïe]) (h1:Q .non H)
theorem Cz:ä Ę Ę IU:=scm
theorem Bc(D:é "need_number" IU Ę) (G:Īa):Ţa:=by
 refine Á Cz
 ·obtain⟨i,rfl,_⟩:=h;rfl
 ·obtain⟨i,rfl,q⟩:=h;refine āc (Ģd űb) WG;exact Ŀb Z i (ĭb q)
end
open PySem L2 PyProof.Rows
noncomputable def nfP(ns:Ċ):Prop:=∀i,ďe ůa->Ģa i<=Ģa ůa
theorem nfB_iff:nfB ns=true ↔ nfP ns:=by
 unfold nfB nfP;simp only[List.all_map,UK,List.mem_range,Function.comp,id,decide_eq_true_eq];constructor
 ·intro h i hi;exact h i À
 ·intro h i hi;exact h i À
noncomputable def Y3(prs:Prs)(i:Nat):Ċ:=((prs[i]?).map (·.2)).getD []
theorem T7(h:Ĵb i):∃p∈prs,prs[i]?=Ã p/\Ĝc=p.2:=by
 refine⟨prs[i],YE h,by simp[h],?_⟩;unfold Y3;rw[WA h];rfl
theorem ED(prs:Prs)(j:Nat):î Ĕd=prs.length:=by
 unfold col;rw[ZD]
theorem OJ(h:Ĵb i):(Ĕd).getD i 0=(Ĝc).getD j 0:=by
 unfold col Y3;rw[WY,ZX,WA h];rfl
structure GoodP(wide:Nat)(prs:Prs):Prop where
 len:∀p∈prs,p.2.length=wide
 row:∀p∈prs,nfP p.2
 down:∀i,Ĵb ůa->∀j,j<wide->(Ĝc).getD j 0<=(Y3 prs ůa).getD j 0
theorem GK{wide:Nat}{prs:Prs}(h:1<=prs.length)(hl:∀p∈prs,p.2.length=wide):ĺ=wide:=by
 obtain⟨p,h1,h2,_⟩:=X0 h;unfold w0;rw[h1];exact hl p h2
theorem Qq(g:GoodP wide prs)(h1:1<=prs.length)(h2:ėa)(h3:1<=wide)(h4:wide<=6):Ĕ:=by
 have hw:=GK h1 g.len;unfold tabB shB srB rowB;simp only[YT,decide_eq_true_eq,UK,ZT,id];refine ő (ő (ã h1 h2) ?_ ?_) ?_ ?_
 ·rintro b ⟨p,hp,rfl⟩;have:=ŝb;simp only[YT,decide_eq_true_eq];omega
 ·rintro b ⟨p,hp,rfl⟩;rw[decide_eq_true_eq,hw];exact ŝb
 ·rintro b ⟨p,hp,rfl⟩;exact nfB_iff.mpr (g.row p hp)
 ·rintro b ⟨j,hj,rfl⟩;rw[List.mem_range,hw]at hj;refine nfB_iff.mpr λi hi=>?_;rw[ED]at hi;rw[OJ À,OJ hi];exact g.down i hi j hj
theorem Y4{prs:Prs}(h:Ĕ):GoodP ĺ prs/\1<=prs.length/\ėa/\1<=ĺ/\ĺ<=6:=by
 unfold tabB at h;rw[YT]at h;obtain⟨h1,h2,h3,h4⟩:=FG h.1;obtain⟨p,e1,e2,_⟩:=X0 h1;have h5:=h3 p e2;have h6:=h4 p e2;have hs:=h.2;unfold srB at hs;simp only[YT,UK,ZT,id]at hs;refine⟨ő h4 (Ļ (nfB_iff.mp (hs.1 _ (ő p hp Z)))) (λi hi j hj=>?_),h1,h2,À,À⟩;have:=nfB_iff.mp (hs.2 _ (ő j (List.mem_range.mpr hj) Z)) i (by rw[ED];exact hi);rw[OJ À,OJ hi]at this;exact this
theorem ID{ns:Ċ}{v:Int}{i:Nat}:(ns++[v]).getD i 0=if ďe i then Ģa i else if i=ns.length then v else 0:=by
 rw[WY,WY]
 by_cases h:ďe i
 ·rw[ZH h,ĸd h]
 ·rw[ZE h,List.getElem?_append_right À]
  by_cases h2:i=ns.length
  ·subst h2;simp
  ·rw[ZE h2,ōb (by simp;omega)];rfl
theorem Lo{ns:Ċ}{v:Int}(h:nfP ns)(hl:∀k,k+1=ns.length->Ģa k<=v):nfP (ns++[v]):=λi hi=>by
 rw[WK,VP]at hi;rw[ID,ID,ZH À]
 by_cases h2:ďe ůa
 ·rw[ZH h2];exact h i h2
 ·rw[ZE h2,ZH À];exact hl i À
theorem Zg(h:i<=prs.length):Y3 (prs++[p]) i=if Ĵb i then Ĝc else p.2:=by
 unfold Y3
 by_cases h2:Ĵb i
 ·rw[ZH h2,ĸd h2]
 ·have:i=prs.length:=À
  subst this;rw[ZE h2];simp
theorem Im(g:GoodP wide prs)(hl:cur.length=wide)(hn:nfP cur)(hd:prs.length=0\/∀j,j<wide->(Y3 prs (prs.length-1)).getD j 0<=cur.getD j 0):GoodP wide (prs++[(a,cur)]) where
 len:=Ļ (by
  rcases ũd hp with z | z
  ·exact g.len p z
  ·have:p=(a,cur):=by simpa using z
   subst this;exact hl)
 row:=Ļ (by
  rcases ũd hp with z | z
  ·exact g.row p z
  ·have:p=(a,cur):=by simpa using z
   subst this;exact hn)
 down:=λi hi j hj=>by
  rw[WK,VP]at hi;rw[Zg À,Zg À,ZH À]
  by_cases h2:Ĵb ůa
  ·rw[ZH h2];exact g.down i h2 j hj
  ·rw[ZE h2];rcases hd with z | z
   ·omega
   ·have:=z j hj;rw[show prs.length-1=i by omega]at this;exact this
theorem LN{ns:Ċ}{d:Int}(h0:0<=d)(h1:ďe d):∃r∈ns,atI Æa d=ļ r:=by
 obtain⟨k,rfl⟩:∃k:Nat,d=k:=Ąd d.toNat;have hk:ďe k:=À
 exact ő (ns[k]) (YE hk) (UM (by simp[hk]))
theorem Oo{α:Type}{xs:Æ α}{v:α}(h:xs[xs.length-1]?=ôc):atI xs (-1)=ôc:=by
 have hl:0<xs.length:=by
  have:=Ăb h;omega
 unfold atI ixN;rw[ZE Ç,ZH À];show xs[(Þ (-1)+Þ xs.length).toNat]?=ôc;rw[show(Þ (-1)+Þ xs.length).toNat=xs.length-1 by omega];exact h
theorem Qa{ns:Ċ}(h:ďe 0):atI Æa (-1)=ļ (Ģa (ns.length-1)):=by
 refine Oo ?_;rw[ZD,ZX,WY,WA À];rfl
open PySem L2 PyProof.Rows
noncomputable def dRow(ns:Ċ):PyData:=.list Ĩc
theorem Zf{K:ZC}{H:Hp}:∀ns:Ċ,RdAll K H Æa Ĩc
 | []=>.nil
 |n::r=>Ŭb (ô n) (Zf r)
theorem Row.rd{K:ZC}{H:Hp}{a:Z1}{ns:Ċ}(h:Üe):RdD K H œ (dRow ns):=.lst h.sq (Zf ns)
theorem CN:∀ns:Ċ,PyData.canLayAll0 Ĩc=true/\PyData.depthAll Ĩc<=0
 | []=>by simp[PyData.canLayAll0,PyData.depthAll]
 |n::r=>by
  have h:=CN r;simp only[Y8,PyData.canLayAll0,PyData.canLay0,PyData.depthAll,PyData.depth,h.1,Bool.and_self,true_and];have:=h.2;omega
theorem ML(ns:Ċ):SeqAt.shaped (dRow ns)=true:=by
 have h:=CN ns;have h2:=h.2;show(PyData.canLay0 (.list Ĩc)&&è (PyData.depth (.list Ĩc)<=64))=true;rw[YT];exact ã (by simp only[PyData.canLay0];exact h.1) (ZS (by simp only[PyData.depth];omega))
open PySem L2 PyProof.Rows
theorem len1:ø 1:=Ç
theorem len2:ø 2:=Ç
theorem len3:ø 3:=Ç
theorem len5:ø 5:=Ç
theorem Row.new{H:Hp}{D:Z1}:Row (Ï H D []) D []:=ZI
theorem Row.push:Row (Ï H D (ds.map V.int++[ô v])) D (ds++[v]):=by
 unfold Row;rw[ZI,W2];rfl
section
variable {P:Z3}{w:Z5}{K:ZC}{mg:Ą}{base:Z8}
inductive spLCell(K:ZC)(vs:ĝ)(H:Hp)(Q:VK)(z3_:XK):Prop
 |mk (a:Z1) (ns:Ċ) (k:Nat) (h0:vs=[œ,Ó k]) (h1:Èb a Æa) (h2:k<=100) (h3:∀c,Ðc c)
theorem Me:ä ["script","k"] ["script","k"] LE:=scm
theorem Mp(T:ûa)(D:é "_law_cell" LE ["script","k"]):Ļb:=by
 refine Á Me
 ·obtain⟨a,ns,k,rfl,_⟩:=h;rfl
 ·obtain⟨a,ns,k,rfl,hS,hk,q⟩:=h;refine ë (ĉc (ša o_lt ó Ïd (Ġ (Èe Ü ó))) (ZN U7 (ZN U7 (ZN V5 (ZN V5 ZB ó) ó) (ZN V5 ZB ó)) ZB))
  refine íc a hS;rw[ZD];refine Ŋa
  ·have h1:=ġ h1;exact⟨_,Z,_,Z,a,_,_,_,Z,Z,hS,XG À,q _⟩
  ·exact⟨_,Z,_,_,Z,Z,ìb Ç Ç,_,Z,_,_,Z,Z,ūb À À,_,Z,_,_,Z,Z,ìb Ç Ç,_,_,Z,Z,_,_,Z,Z,q _⟩
noncomputable def LL(H:Hp)(Q:VK)(rows:Æ Ċ):Prop:=∀t' prs' H',ē t'->(∀p∈prs',ē p.1/\p.1≠t')->Çe (prs'.map (·.1))->Ŀd->Tab H' t' prs'->prs'.map (·.2)=rows->Ŕ t' H'
theorem O2(h:prs'.map (·.2)=ð):tabB prs'=tabB prs:=by
 have hl:prs'.length=prs.length:=by
  have:=õ h;simpa using this
 have hm:∀(f:Ċ->Bool),(prs'.map λp=>f p.2)=(Ų (f p.2)):=λf=>by
  have:=ęb (List.map f) h;rw[W7,W7]at this;exact this
 have hm2:∀(f:Ċ->Int),(prs'.map λp=>f p.2)=(Ų (f p.2)):=λf=>by
  have:=ęb (List.map f) h;rw[W7,W7]at this;exact this
 have hw:w0 prs'=ĺ:=by
  have:=ęb (λl:Æ Ċ=>(l.head?.map List.length).getD 0) h;simp only[List.head?_map,Option.map_map]at this;exact this
 have hc:∀j,col prs' j=Ĕd:=λj=>hm2 λns=>Ģa j;unfold tabB shB srB;rw[hl,hw,hm rowB,hm λns=>è (ns.length=ĺ),hm nfB];simp only[hc]
noncomputable def UT(rows:Æ Ċ):Bool:=tabB (rows.map λr=>((0:Z1),r))
theorem SD(h:ð=rows):tabB prs=UT rows:=by
 unfold UT;refine O2 ?_;rw[h,W7];exact(List.map_id _).symm
theorem VI(h:Ĕ):Sm prs:=by
 obtain⟨g,h1,h2,h3,h4⟩:=Y4 h;exact ã À (Ļ (by rw[ŝb];omega))
end
open PySem L2 PyProof.Rows
noncomputable def ZM(n:Int):Str:=űa n
noncomputable def dg(m:Nat):Ŧa:=(ķc m).map Char.toNat
theorem TB(m:Nat):∀c∈dg m,48<=c/\c<=57:=èd (by
 obtain⟨ch,hch,e⟩:=Áb hc;have r:=digit_range (Nat.isDigit_of_mem_toDigits Ç Ç hch);rw[<- e];exact r)
theorem MV(m:Nat):dg m≠[]:=λe=>by
 have h:=toDigits_len_ge 10 m;rw[List.map_eq_nil_iff.mp e]at h;exact ń h Ç
theorem E2(m:Nat):0<m->∃c r,dg m=c::r/\c≠48:=by
 induction m using Nat.strongRecOn with
 |_ m ih =>
  intro h0
  by_cases h:m<10
  ·refine⟨(Nat.digitChar m).toNat,[],?_,?_⟩
   ·unfold dg;rw[Nat.toDigits_of_lt_base h];rfl
   ·have:∀k:Nat,k<10->0<k->(Nat.digitChar k).toNat≠48:=Ç
    exact this m h h0
  ·have hm:m%10<10:=X9 m Ç;have t:ķc (m/10)++ķc (m%10)=ķc (10*(m/10)+m%10):=Nat.toDigits_append_toDigits Ç À hm;rw[Nat.div_add_mod]at t;obtain⟨c,r,e,hc⟩:=ih (m/10) À À;refine⟨c,r++(ķc (m%10)).map Char.toNat,?_,hc⟩;unfold dg at e ⊢;rw[<- t,W2,e];rfl
theorem X8(m:Nat):ñ (ZM (Þ m))=dg m:=PySem.W.KIN.signs_num m
theorem RD(m:Nat):ñ (ZM (Int.negSucc m))=45::dg (m+1):=by
 unfold ZM;rw[signs_ofString];show("-" ++ Nat.repr (m+1)).toList.map Char.toNat=_;rw[String.toList_append,W2,Nat.toList_repr];rfl
theorem WR(x:Str):x.cps.toList.length=x.length:=U5
theorem QU(h:m<10 ^ k)(hk:1<=k):î (dg m)<=k:=by
 rw[<- X8,WR];exact toString_length_le (RF _) hk (by exact_mod_cast h)
theorem P8(h:n.natAbs<10 ^ k)(hk:1<=k):î (ZM n)<=k+1:=by
 rw[<- WR];cases n with
 |ofNat m =>
  rw[show Int.ofNat m=Þ m from rfl,X8];exact Ĉd (QU h hk)
 |negSucc m =>
  rw[RD,YL];exact Nat.succ_le_succ (QU h hk)
theorem XM(hl:î (ZM n)<=4300):intText? (ZM n)=Ã n:=by
 cases n with
 |ofNat m =>
  have e:=PySem.intText_digits (x:=ZM (Þ m)) (by rw[X8];exact TB m) (by rw[X8];exact MV m) hl;rw[X8]at e;exact e.trans (by rw[show PySem.NumText.digitsVal (dg m)=m from PySem.W.KIN.val_back m];rfl)
 |negSucc m =>
  have e:=PySem.intText_neg (x:=ZM (Int.negSucc m)) (RD m) (TB _) (MV _) hl;exact e.trans (by rw[show PySem.NumText.digitsVal (dg (m+1))=m+1 from PySem.W.KIN.val_back (m+1)];rfl)
theorem JI(hc:c<45):c∉ñ (ZM n):=λh=>by
 cases n with
 |ofNat m =>
  rw[show Int.ofNat m=Þ m from rfl,X8]at h;have:=TB m c h;omega
 |negSucc m =>
  rw[RD]at h;rcases ĳd h with z | z
  ·omega
  ·have:=TB _ c z;omega
theorem VJ(c:Nat)(w:Str):∀r:ù,ñ (Òb #[c] (w::r))=w.cps.toList++(match r with | []=>[] | x::y=>c::ñ (Òb #[c] (x::y)))
 | []=>by simp[Str.join]
 |x::y=>by
  rw[join_cons_cons];show((w.cps ++ #[c])++(Òb #[c] (x::y)).cps).toList=_;simp
theorem CC:∀{a b a' b':Ŧa},c∉a->c∉a'->a++c::b=a'++c::b'->a=a'/\b=b'
 | [],b,[],b',_,_,e=>by simpa using e
 | [],b,x::a',b',_,h,e=>by
  injection e with e1 e2;exact ń (by rw[e1];exact ůb) h
 |x::a,b,[],b',h,_,e=>by
  injection e with e1 e2;exact ń (by rw[<- e1];exact ůb) h
 |x::a,b,y::a',b',h,h',e=>by
  injection e with e1 e2;obtain⟨z1,z2⟩:=CC (λz=>h (.tail _ z)) (λz=>h' (.tail _ z)) e2;exact ã (by rw[e1,z1]) z2
theorem PD{a b:Str}(h:a.cps.toList=b.cps.toList):a=b:=Str.ext' (Array.toList_inj.mp h)
theorem CI(c:Nat):∀(ps ws:ù),ps≠[]->ws≠[]->(∀p∈ps,c∉p.cps.toList)->(∀p∈ws,c∉p.cps.toList)->ñ (Òb #[c] ps)=ñ (Òb #[c] ws)->ps=ws
 | [],_,h,_,_,_,_=>ń rfl h
 |_,[],_,h,_,_,_=>ń rfl h
 | [p],[w],_,_,_,_,e=>by
  rw[show p=w from PD e]
 | [p],w::x::r,_,_,hp,_,e=>by
  rw[VJ,VJ]at e;exfalso;simp only[List.append_nil]at e;exact hp p ůb (by rw[e];simp)
 |p::x::r,[w],_,_,_,hw,e=>by
  rw[VJ,VJ]at e;exfalso;simp only[List.append_nil]at e;exact hw w ůb (by rw[<- e];simp)
 |p::x::r,w::y::t,_,_,hp,hw,e=>by
  rw[VJ,VJ]at e;obtain⟨z1,z2⟩:=CC (hp p ůb) (hw w ůb) e;rw[show p=w from PD z1,CI c (x::r) (y::t) Í Í (λq hq=>hp q (.tail _ hq)) (λq hq=>hw q (.tail _ hq)) z2]
theorem C4(z y:Str):ō z y≠[]:=by
 unfold Txt.split;split
 ·simp
 ·split
  ·simp
  ·rw[StrLaws.partsBetween_eq];obtain⟨p,r,e⟩:=StrLaws.partsFrom_ne z y.length 0 ùa;rw[e];simp
theorem QF(h:ws≠[])(hf:∀w∈ws,c∉w.cps.toList):ō (ŭa (ű #[c]) ws) (ű #[c])=ws:=by
 refine CI c _ _ (C4 _ _) h (StrLaws.split_free _ c) hf ?_;rw[StrLaws.join_split];show ñ (Builtin.Str.glued _ _)=_;rw[StrLaws.glued_eq_join]
open PySem L2 PyProof.Rows
theorem DO(f:Nat->V)(hn:z.length<=3000)(he:∀c∈z.cps.toList,∀(H':Hp) (Q':VK),ç H1->(∀H'',ħd->Q' (f c) H'')->te (Ō (ĉ (ű #[c]))) H' Q')
  (fin:∀D H',Źd->Ée (z.cps.toList.map f)):Èa (Its z) YN:=by
 intro D hD;refine X6 (n:=z.cps.size) (žc (ys=(z.cps.toList.take i).map f)) Đd (Ĺd q.2.1) (λi ys H' hi _=>hi) (λys H' _=>ħ) ?_ ?_
 ·rintro i ys H' x H2 hi ⟨s1,eD,rfl⟩ ⟨rfl,c,hc,rfl⟩;unfold YN;refine Ŧb ?_;have hl:i<z.cps.toList.length:=by simpa using hi
  have hc':z.cps.toList[i]?=Ã c:=by rw[SE];exact hc
  have hm:c∈z.cps.toList:=UF hc';refine he c hm _ _ s1 λH'' s2=>⟨űc eD,?_,(Äc).upd hD,ZI,?_⟩
  ·rw[ZD,VO];have:z.cps.toList.length=z.length:=WR z;exact T8 À
  ·rw[List.take_add_one,hc',W2];rfl
 ·rintro ys H' ⟨s1,eD,rfl⟩;rw[show z.cps.size=z.cps.toList.length by simp,List.take_length]at eD;exact fin D H' hD s1 eD
theorem DP{K:ZC}{a:Z1}{α:Type}{ms:Æ α}{σ0:L2.St}{H1:Hp}{te:TE}{Q:VK}(u:α->V)(f:α->Ċ)(hq:SqL K H1 a Įb)(hn:ms.length<=3000)
  (he:∀m∈ms,∀(H':Hp) (Q':VK),ç H1->(∀p H'',Ďe p->ħd->Row H'' p (f m)->Q' (Ê p) H'')->Čd m)
  (fin:∀t prs H',œa t->(∀p∈prs,œa p.1/\p.1≠t)->Çe (prs.map (·.1))->ç H1->ıd H'->ð=ms.map f->Ŕ t H'):Èa Ād YN:=by
 intro D hD;refine X6 (n:=ms.length) (λi ys H'=>∃qs:Prs,ç H1/\Ľb/\ys=(Õb (λp=>Śb))/\qs.length=i/\Õb (·.2)=(ms.take i).map f/\(∀p∈qs,Row H' p.1 p.2/\œa p.1/\p.1≠D)/\Çe (Õb (·.1))) ⟨[],snw hD,ZI,Z,Z,Í,Ļ (nomatch hp),.nil⟩ (λi ys H' _ ⟨_,_,h,_⟩=>h) (λi ys H' hi ⟨_,sm,_⟩=>⟨_,u ms[i],ęd,by simp[hi]⟩) (λys H' ⟨_,sm,_⟩=>ő _ ęd Í) ?_ (λys H' h=>?_)
 ·rintro i ys H' x H2 hi ⟨qs,sm,hDl,rfl,hql,hqm,hq',hnd⟩ ⟨rfl,hy⟩;have hx:=hy _ ęd;rw[ZX,Ÿd]at hx;have hx:u ms[i]=x:=WC hx;subst hx;unfold YN;refine Ŧb ?_;refine he ms[i] (YE hi) _ _ sm λl H'' hl s2 hR=>?_;have nlD:D≠l:=WX hDl hl;refine⟨űc hDl,?_,qs++[(l,f ms[i])],(Şa s2).upd hD,ZI,?_,?_,?_,?_,?_⟩
  ·rw[ZD,hql];exact T8 À
  ·rw[W2];rfl
  ·rw[WK,VP,hql]
  ·rw[W2,hqm,List.take_add_one,Ÿd,W2];rfl
  ·intro p hp;rcases ũd hp with z | z
   ·obtain⟨z1,z2,z3⟩:=hq' p z;refine ő ?_ z2 z3;unfold Row;rw[ZP z3];exact űc z1
   ·rw[V3.mp z];refine ő ?_ (sm.free hl) (ĥ nlD);unfold Row;rw[ZP (ĥ nlD)];exact hR
  ·rw[W2,List.nodup_append];refine ő hnd Í (λa ha b hb z=>?_);obtain⟨p,hp,rfl⟩:=Áb ha;rw[List.map_singleton,V3]at hb;have e:p.1=l:=z.trans hb;have hR:=(hq' p hp).1;unfold Row at hR;rw[e,hl]at hR;cases hR
 ·obtain⟨qs,sm,hDl,rfl,hql,hqm,hq',hnd⟩:=h;rw[List.take_length]at hqm;exact fin D qs H' hD (Ļ (hq' p hp).2) hnd sm (ã hDl (Ļ (hq' p hp).1)) hqm
open PySem L2 PyProof.Rows
noncomputable def XD(l:Ŧa):Bool:=(! l.isEmpty&&l.all λc=>ēa 48 c 57)&&(è (l=[48])||è (l.head?≠Ã 48))
noncomputable def V4(l:Ŧa):Bool:=if l.head?=Ã 45 then è (l≠[45,48])&&XD l.tail else XD l
theorem Rc(hm:0<m)(h1:48<=c)(h2:c<=57):dg (10*m+(c-48))=dg m++[c]:=by
 have hk:c-48<10:=À
 have t:ķc m++ķc (c-48)=ķc (10*m+(c-48)):=Nat.toDigits_append_toDigits Ç hm hk;unfold dg;rw[<- t,W2,Nat.toDigits_of_lt_base hk];have:∀k:Nat,k<10->(Nat.digitChar k).toNat=k+48:=Ç
 rw[Y8,this _ hk,List.map_nil,show c-48+48=c by omega]
theorem Vb(h1:48<=c)(h2:c<=57):dg (c-48)=[c]:=by
 have hk:c-48<10:=À
 unfold dg;rw[Nat.toDigits_of_lt_base hk];have:∀k:Nat,k<10->(Nat.digitChar k).toNat=k+48:=Ç
 rw[Y8,this _ hk,List.map_nil,show c-48+48=c by omega]
theorem EA:∀(n:Nat) (l:Ŧa),l.length=n+1->(∀c∈l,48<=c/\c<=57)->l.head?≠Ã 48->∃m,0<m/\l=dg m
 | 0,l,hl,hd,hh=>by
  match l,hl with
  | [c],_ =>
   have:=hd c Í;have hc:c≠48:=λz=>hh (by rw[z];rfl);exact ő (c-48) À (Vb this.1 this.2).symm
 |n+1,l,hl,hd,hh=>by
  have hne:l≠[]:=λz=>by rw[z]at hl;simp at hl
  obtain⟨l',c,rfl⟩:∃l' c,l=l'++[c]:=ő l.dropLast (l.getLast hne) (List.dropLast_concat_getLast hne).symm;have hl':l'.length=n+1:=by rw[WK]at hl;simpa using hl
  have hh':l'.head?≠Ã 48:=λz=>hh (by
   match l',hl' with
   |x::r,_=>exact z)
  obtain⟨m,m0,e⟩:=EA n l' hl' (λd h=>hd d (Ąe h)) hh';have:=hd c Í;exact ő (10*m+(c-48)) À (by rw[Rc m0 this.1 this.2,<- e])
theorem FN(h:XD l=true):∃m,l=dg m:=by
 unfold XD at h;rw[YT,YT,Bool.or_eq_true]at h;obtain⟨⟨h1,h2⟩,h3⟩:=h;have hd:∀c∈l,48<=c/\c<=57:=èd (by
  have:=UK.mp h2 c hc;simpa using this)
 rcases h3 with h3 | h3
 ·exact ã 0 (by rw[ġ h3];decide)
 ·have hl:∃n,l.length=n+1:=by
   match l,h1 with
   |x::r,_=>exact ã r.length Z
  obtain⟨n,hn⟩:=hl;obtain⟨m,_,e⟩:=EA n l hn hd (ġ h3);exact ã m e
theorem LJ(m:Nat):XD (dg m)=true:=by
 unfold XD;rw[YT,YT,Bool.or_eq_true];refine ųb (ųb ?_)
 ·have:=MV m;cases h:dg m with
  |nil=>exact ń h this
  |cons x r=>rfl
 ·rw[UK];intro c hc;have:=TB m c hc;simpa using this
 ·rcases Nat.eq_zero_or_pos m with z | z
  ·subst z;exact Ė Ç
  ·obtain⟨c,r,e,hc⟩:=E2 m z;refine Ŀ (ZS ?_);rw[e];intro k;injection k with k;exact hc k
theorem Vy(m:Nat):(dg m).head?≠Ã 45:=λz=>by
 have:ũ 45∈dg m:=by
  cases h:dg m with
  |nil=>rw[h]at z;cases z
  |cons x r =>
   rw[h]at z;injection z with z;rw[z];exact XB
 have:=TB m 45 this;omega
theorem GY(n:Int):V4 (ñ (ZM n))=true:=by
 cases n with
 |ofNat m =>
  rw[show Int.ofNat m=Þ m from rfl,X8];unfold V4;rw[ZE (Vy m)];exact LJ m
 |negSucc m =>
  rw[RD];unfold V4;rw[ZH (show(45::dg (m+1)).head?=Ã 45 from rfl),YT];refine ã (ZS Îc) (LJ _);injection z with _ z;obtain⟨c,r,e,hc⟩:=E2 (m+1) À;rw[e]at z;injection z with z _;exact hc z
theorem Uh{w:Str}(h:Ŏd=true):∃n:Int,w=ZM n:=by
 unfold V4 at h
 by_cases hh:w.cps.toList.head?=Ã 45
 ·rw[ZH hh,YT]at h;obtain⟨h1,h2⟩:=h;obtain⟨m,e⟩:=FN h2;have hw:w.cps.toList=45::dg m:=by
   cases hl:w.cps.toList with
   |nil=>rw[hl]at hh;cases hh
   |cons x r =>
    rw[hl]at hh e;injection hh with hh;rw[hh,<- e];rfl
  match m,hw with
  | 0,hw=>exact ń hw (ġ h1)
  |k+1,hw=>exact ã (Int.negSucc k) (PD (by rw[hw,RD]))
 ·rw[ZE hh]at h;obtain⟨m,e⟩:=FN h;exact ã (Þ m) (PD (by rw[e,X8]))
theorem Zl:∀{ws:ù},(∀w∈ws,Ŏd=true)->∃ns:Ċ,ws=ns.map ZM
 | [],_=>ã [] Z
 |w::ws,h=>by
  obtain⟨n,e⟩:=Uh (h w Í);obtain⟨ns,es⟩:=Zl (ws:=ws) λv hv=>h v (UV _ hv);exact ã (n::ns) (by rw[e,es];rfl)
open PySem L2 PyProof.Rows
noncomputable abbrev figS:Str := "0123456789"
theorem e_l:ąa ""=[]:=Â
theorem z_l:ąa "0"=[48]:=Â
theorem m_l:ąa "-"=[45]:=Â
theorem mz_l:ąa "-0"=[45,48]:=Â
theorem Kz(x:Str):īc x "-" = è (x.cps.toList.head?=Ã 45):=by
 have h:īc x "-" = (è (0+āb "-"<=x.length)&&Builtin.Str.subAt x "-" 0):=rfl;rw[h,StrLaws.subAt_eq,m_l,<- WR x,<- WR (Ø "-"),m_l];cases e:x.cps.toList with
 |nil=>simp
 |cons c r =>
  simp only[List.drop_zero,YL,List.length_nil,List.head?_cons,Option.some.injEq]
  by_cases hc:c=45
  ·subst hc;simp
  ·rw[ZW hc];simp[hc]
section
variable {P:Z3}{w:Z5}{K:ZC}{mg:Ą}{base:Z8}{c:Z1}
theorem Vd(c:Nat):(! Üc figS (ű #[c]) figS.length)=(ēa 48 c 57):=by
 rw[StrLaws.found_one];have e:figS.cps.toList=List.range' 48 10:=Â
 rw[e,Bool.eq_iff_iff,TF,YT,TF,TF,List.mem_range'_1];omega
theorem vstr_iff{x y:Str}:(Æd x=Æd y) ↔ x.cps.toList=y.cps.toList:=ã (λz=>by injection z with z;rw[z]) (λz=>by rw[PD z])
inductive spWCA(vs:ĝ)(H:Hp)(Q:VK)(z3_:XK):Prop
 |mk (x:Str) (h0:êd) (h1:x.length<=3000) (h2:∀H',Êe (XD x.cps.toList))
theorem Tn:ş "word" NO:=scm
theorem Ep(T:ûa)(hf:∃t,mg "FIGURES" = Ã (.str figS t)) (D:é "writes_count" NO ųa):Ä 1 "writes_count" ųa spWCA:=by
 refine Á Tn
 ·obtain⟨x,rfl,_⟩:=h;rfl
 ·obtain⟨x,rfl,hl,q⟩:=h;obtain⟨tf,hf⟩:=hf;have nd1:(["sign"]:ù).Nodup:=Â
  refine ë (ĉc (pifF (řb (pcm WH Ü ZR) (Ģd (Ē ["sign"] [none] NO ųa (F9 Ü) nd1 (UE JS Ü (YX (v:=ĉ figS) rfl hf Ôe) rfl))))) (GQ (Æe WH Ü ZR) (VG (Æe SJ (pix FU Ü ZB) ZR))))
  refine ų
  by_cases he:Æd x=Æd ""
  ·rw[ZS he];have e:x.cps.toList=[]:=by rw[vstr_iff.mp he,e_l]
   rw[e]at q;exact Ŧb (Ŧb (q H ŵ))
  ·rw[ZW he];have hne:x.cps.toList≠[]:=λz=>he (vstr_iff.mpr (by rw[z,e_l]));refine ĭb (şc Z x Z (Ūc 48 57))
   ·rw[Vd];exact Īc
   ·refine ŗd D (x.cps.toList.map λc=>(ēa 48 c 57)) (by rw[hDl,W7];rfl) (ë Z);have ea:((x.cps.toList.map λc=>(ēa 48 c 57)).all id)=x.cps.toList.all λc=>(ēa 48 c 57):=by rw[List.all_map];rfl
    rw[ea];unfold XD at q;have hie:(! x.cps.toList.isEmpty)=true:=by
     cases h:x.cps.toList with
     |nil=>exact ń h hne
     |cons a r=>rfl
    rw[hie,Bool.true_and]at q;cases hall:(x.cps.toList.all λc=>(ēa 48 c 57))with
    |false =>
     rw[hall,Bool.false_and]at q;exact Ŧb Łd
    |true =>
     rw[hall,Bool.true_and]at q;refine ĭb ų
     by_cases h0:Æd x=Æd "0"
     ·have e0:x.cps.toList=[48]:=by rw[vstr_iff.mp h0,z_l]
      rw[ZS h0];rw[ZS e0,Bool.true_or]at q;exact Ŧb Łd
     ·have e0:x.cps.toList≠[48]:=λz=>h0 (vstr_iff.mpr (by rw[z,z_l]));rw[ZW h0];rw[ZW e0,Bool.false_or]at q;obtain⟨a,r,ar⟩:∃a r,x.cps.toList=a::r:=by
       cases h:x.cps.toList with
       |nil=>exact ń h hne
       |cons a r=>exact ő a r Z
      refine ĭb ⟨_,Z,x,Ý 0,a,Z,Z,sl30 hl,UM (j:=0) (by rw[ar];rfl),Z,?_⟩;rw[ar]at q;have eq1:(! è (Æd (ű #[a])=Æd "0"))=è ((a::r).head?≠Ã 48):=by
       rw[show(a::r).head?=Ã a from rfl]
       by_cases ha:a=48
       ·subst ha;rw[ZS (vstr_iff.mpr (by rw[z_l]))];simp
       ·rw[ZW (λz=>ha (by have:=vstr_iff.mp z;rw[z_l]at this;simpa using this)),ZS (show ¬(Ã a=Ã 48) from λz=>ha (by injection z))];rfl
      rw[eq1];exact Łd
inductive spWNA(vs:ĝ)(H:Hp)(Q:VK)(z3_:XK):Prop
 |mk (x:Str) (h0:êd) (h1:x.length<=3000) (h2:∀H',Êe (V4 x.cps.toList))
theorem To:ş "word" J3:=scm
theorem Xa(h:x.cps.toList≠[]):ñ (øb 1)=x.cps.toList.tail:=by
 obtain⟨a,r,ar⟩:∃a r,x.cps.toList=a::r:=by
  cases h':x.cps.toList with
  |nil=>exact ń h' h
  |cons a r=>exact ő a r Z
 have hh:=StrLaws.sliceText_from (x:=x) (i:=1) (ã Ç (by rw[ar,YL];omega));rw[show øb 1=StrLaws.sliceText x (Ã 1) none from rfl,hh,ar,YL];have:(ũ (r.length+1)-1:Int).toNat=r.length:=À
 rw[this,show(1:Int).toNat=1 from rfl,List.drop_succ_cons,List.drop_zero,List.take_length];rfl
theorem Ca(D:é "writes_number" J3 ųa) (G:Ä 1 "writes_count" ųa spWCA):đe:=by
 refine Á To
 ·obtain⟨x,rfl,_⟩:=h;rfl
 ·obtain⟨x,rfl,hl,q⟩:=h;refine ë (ĉc (ZZ (WP łc) (Ġ (VT (Æe SJ Ü ZR) (VG (pe_f G hr (pa1 (BA Vz Ü (RA ZB) Q0)))))) W0) űb)
  refine Āc _ Z ?_;rw[Kz];unfold V4 at q
  by_cases hh:x.cps.toList.head?=Ã 45
  ·rw[ZS hh];rw[ZH hh]at q;have hne:x.cps.toList≠[]:=λz=>by rw[z]at hh;cases hh
   refine Ŧb ų
   by_cases h0:Æd x=Æd "-0"
   ·have e0:x.cps.toList=[45,48]:=by rw[vstr_iff.mp h0,mz_l]
    rw[ZS h0];rw[show è (x.cps.toList≠[45,48])=false from ZW (λz=>z e0),Bool.false_and]at q;exact ĭb (q H ŵ)
   ·have e0:x.cps.toList≠[45,48]:=λz=>h0 (vstr_iff.mpr (by rw[z,mz_l]));rw[ZW h0];rw[show è (x.cps.toList≠[45,48])=true from ZS e0,Bool.true_and,<- Xa hne]at q;exact Ŧb ⟨_,Z,_,Z,_,Z,sl30 hl,_,Z,WB (Txt.slice_le x _ _) hl,q⟩
  ·rw[ZW hh];rw[ZE hh]at q;exact ĭb (Ğc x hl q)
end
open PySem L2 PyProof.Rows
theorem U3:bootBuiltins "str" = Ã (Ŀa "str"):=by kernel_rfl
theorem YO:(Ø " ")=ű #[32]:=Â
theorem TJ:(Ø "\n")=ű #[10]:=Â
noncomputable def rowS(r:Ċ):Str:=ŭa " " (r.map ZM)
noncomputable def tabS(rows:Æ Ċ):Str:=ŭa "\n" ôb
theorem NS(hcd:d≠c):∀{ws:ù},(∀w∈ws,d∉w.cps.toList)->d∉ñ (Òb #[c] ws)
 | [],_=>by
  show d∉Str.empty.cps.toList;simp[Str.empty]
 | [w],h=>h w ůb
 |w::x::r,h=>by
  rw[VJ];intro z;rcases ũd z with z | z
  ·exact h w ůb z
  ·rcases ĳd z with z | z
   ·exact hcd z
   ·exact NS hcd (λy hy=>h y (.tail _ hy)) z
theorem VY(c:Nat)(ws:ù):ŭa (ű #[c]) ws=Òb #[c] ws:=StrLaws.glued_eq_join _ _
theorem JD(h:∀w∈ws,w.length<=B):î (ŭa (ű #[c]) ws)<=ws.length*(B+1):=by
 rw[VY];have h1:=StrLaws.join_length_le (ű #[c]) ws;have h2:=StrLaws.sumLen_le (B:=B) ws h;have h3:(ű #[c]:Str).length=1:=rfl;rw[h3]at h1;rw[Nat.mul_add];omega
theorem RZ(h:∀w∈ws,w.length<=B)(hz:ws.length*(B+1)<=1000000):JoinOk (ű #[c]) ws=true:=by
 unfold JoinOk;rw[Bool.not_eq_true'];refine StrLaws.joinFits h ?_;have h3:(ű #[c]:Str).length=1:=rfl;rw[h3];rw[Nat.mul_add]at hz;omega
theorem Nz(h:∀n∈r,î (ZM n)<=B):î (rowS r)<=r.length*(B+1):=by
 unfold rowS;rw[YO];have:=JD (c:=32) (ws:=r.map ZM) (B:=B) (λw hw=>by
  obtain⟨n,hn,rfl⟩:=Áb hw
  exact h n hn)
 rw[ZD]at this;exact this
theorem IE(h:r≠[]):ō (rowS r) " " = r.map ZM:=by
 unfold rowS;rw[YO];exact QF (by simpa using h) λw hw=>by
  obtain⟨n,hn,rfl⟩:=Áb hw;exact JI Ç
theorem AG(r:Ċ):10∉ñ (rowS r):=by
 unfold rowS;rw[YO,VY];exact NS Ç λw hw=>by
  obtain⟨n,hn,rfl⟩:=Áb hw;exact JI Ç
theorem Zi(h:rows≠[]):ō (tabS rows) "\n" = ôb:=by
 unfold tabS;rw[TJ];exact QF (by simpa using h) λw hw=>by
  obtain⟨r,hr,rfl⟩:=Áb hw;exact AG r
theorem C8(h:∀r∈rows,î (rowS r)<=B)(hM:rows.length*(B+1)<=M):î (tabS rows)<=M:=by
 unfold tabS;rw[TJ];have:=JD (c:=10) (ws:=ôb) (B:=B) (λw hw=>by
  obtain⟨r,hr,rfl⟩:=Áb hw
  exact h r hr)
 rw[ZD]at this;omega
theorem CJ:∀{ws:ù},∀w∈ws,w.cps.toList.length<=Õd #[c] ws
 | [w],v,h=>ú (V3.mp h) ħ
 |w::x::r,v,h=>by
  rw[VJ,WK,YL];rcases ĳd h with z | z
  ·rw[z];exact Ł
  ·have:=CJ (c:=c) (ws:=x::r) v z;omega
theorem CH:∀{ws:ù},ws.length<=Õd #[c] ws+1
 | []=>WW _
 | [w]=>Í
 |w::x::r=>by
  rw[VJ,WK];have:=CH (c:=c) (ws:=x::r);show î (x::r)+1<=w.cps.toList.length+(Õd #[c] (x::r)+1)+1;omega
theorem MB:∀w∈ō x (ű #[c]),w.length<=x.length:=λw hw=>by
 have:=CJ (c:=c) w hw;rw[StrLaws.join_split,WR,WR]at this;exact this
theorem KU(x:Str)(c:Nat):î (ō x (ű #[c]))<=x.length+1:=by
 have:=CH (c:=c) (ws:=ō x (ű #[c]));rw[StrLaws.join_split,WR]at this;exact this
noncomputable def TM(x:Str):Bool:=(ō x " ").all λw=>Ŏd
theorem Rs(h:TM x=true):∃ns:Ċ,ns≠[]/\x=rowS ns/\ō x " " = ns.map ZM:=by
 obtain⟨ns,e⟩:=Zl (ws:=ō x " ") λw hw=>UK.mp h w hw;refine⟨ns,λz=>C4 x " " (by rw[e,z];rfl),?_,e⟩;unfold rowS;rw[<- e,YO,VY,StrLaws.join_split]
noncomputable def LB(x:Str):Bool:=(ō x "\n").all TM
section
variable {P:Z3}{w:Z5}{K:ZC}{mg:Ą}{base:Z8}{c:Z1}
inductive spRRA(vs:ĝ)(H:Hp)(Q:VK)(z3_:XK):Prop
 |mk (x:Str) (ns:Ċ) (h0:êd) (h1:x.length<=600) (h2:ō x " " = ns.map ZM) (h3:∀p H',ē p->Ŀd->Row H' p ns->Ŕ p H')
theorem sc_rrA:ä ["line","words"] ĝe SU:=scm
theorem Dx(T:ûa)(D:é "read_row" SU ĝe) (G:đe):Ĝe:=by
 refine Á sc_rrA
 ·obtain⟨x,ns,rfl,_⟩:=h;rfl
 ·obtain⟨x,ns,rfl,hl,hw,q⟩:=h;have nd:=sc_rrA.nd;have nd1:(ųa:ù).Nodup:=Â
  have wl:∀n∈ns,î (ZM n)<=600:=λn hn=>by
   have h1:=MB (x:=x) (c:=32) (ZM n) (by rw[<- YO,hw];exact Ń n hn);omega
  have nl:ns.length<=601:=by
   have h1:=KU x 32;rw[<- YO,hw,ZD]at h1;omega
  refine ĉb (È 1 ŏ) (ZZ (ėe ųa SU ["line","words"] ó) WG W0) (Ġ (Ì ųa [none] SU ["line","words"] (Y7 ó) ň Y0 (pe_t XI T.int boot_int Ş)))
  refine Āc Â À Åc;rw[hw];have s1:=snw (o:=.lst ((ns.map ZM).map V.str)) hp;have e1:(Ï H p ((ns.map ZM).map V.str)) p=Ù ((ns.map ZM).map V.str):=ZI;generalize Ï H p ((ns.map ZM).map V.str)=H1 at s1 e1 ⊢;rw[W7]at e1;refine Ća p ťc (V0 (ms:=ns) (V.str∘ZM) (λ_=>V.bl true) ťc (sl30 À) (λn hn H' Q' sm q'=>Ğc (ZM n) (by have:=wl n hn;omega) (λH'' s''=>by rw[GY];exact q' H'' s'')) λD2 H2 hD2 s2 eD2=>?_);refine ŗd D2 (ns.map řd) (by rw[eD2,W7];rfl) (ë Z);rw[show(ns.map řd).all id=true by rw[List.all_map];simp];refine ĭb (Ća p (sqo (űc e1)) (V0 (ms:=ns) (V.str∘ZM) V.int (sqo (űc e1)) (sl30 À) (λn hn H' Q' sm q'=>Řc (ZM n) n (XM (by have:=wl n hn;omega)) (by have:=wl n hn;omega) Īc) λD3 H3 hD3 s3 eD3=>?_));exact q D3 H3 ((Äc).free hD3) (Ľ Ųd) eD3
inductive spRRX(c:Z1)(vs:ĝ)(H:Hp)(z2_:VK)(E:XK):Prop
 |mk (x:Str) (h0:êd) (h1:x.length<=600) (h2:TM x=false) (h3:∀H',Ŀd->Åb c)
theorem Dy(T:ûa)(hk:Ëd c)(hm:Ūb "NoText" c) (D:é "read_row" SU ĝe) (G:đe):Ā 3 "read_row" ĝe (spRRX c):=by
 refine Æb sc_rrA
 ·obtain⟨x,rfl,_⟩:=h;rfl
 ·obtain⟨x,rfl,hl,hb,he⟩:=h;have nd:=sc_rrA.nd;have nd1:(ųa:ù).Nodup:=Â
  refine ĉb (È 1 ŏ) (ZZ (ėe ųa SU ["line","words"] ó) ła W0) WG
  have wl:∀w∈ō x " ",w.length<=3000:=λw hw=>by
   have h1:=MB (x:=x) (c:=32) w (by rw[<- YO];exact hw);omega
  have nl:î (ō x " ")<=601:=by
   have h1:=KU x 32;rw[<- YO]at h1;omega
  refine Āc Â À Åc;have s1:=snw (o:=.lst ((ō x " ").map V.str)) hp;have e1:(Ï H p ((ō x " ").map V.str)) p=Ù ((ō x " ").map V.str):=ZI;generalize Ï H p ((ō x " ").map V.str)=H1 at s1 e1 ⊢;refine Ća p ťc (V0 (ms:=ō x " ") V.str (λw=>V.bl Ŏd) ťc (sl30 À) (λw hw H' Q' sm q'=>Ğc w (wl w hw) (λH'' s''=>q' H'' s'')) λD2 H2 hD2 s2 eD2=>?_);refine ŗd D2 ((ō x " ").map λw=>Ŏd) (by rw[eD2,W7];rfl) (ë Z);rw[show((ō x " ").map λw=>Ŏd).all id=TM x by rw[List.all_map];rfl,hb];exact Ŧb (he H2 Äc)
end
end Seek
namespace L2
open PySem PySem.Spec PyProof.Rows
section
variable {X:Cx}
end
end L2
namespace Seek
open PySem L2 PyProof.Rows
open PySem L2 PyProof.Rows
theorem Ni(K:ZC)(d:PyData):Ű K (Ŀa (tyD d)) (Ŀa "str")=Ã (match d with | .str _=>true | _=>false):=by
 cases d<;>(simp only[tyD];kernel_rfl)
noncomputable def FT:PyData->Bool
 | .str _=>true
 |_=>false
section
variable {P:Z3}{w:Z5}{K:ZC}{mg:Ą}{base:Z8}{c:Z1}
noncomputable def SF(x:Str):Prop:=x.length<=2000/\î (ō x "\n")<=600/\∀l∈ō x "\n",l.length<=600
noncomputable def RowsOf(x:Str)(rows:Æ Ċ):Prop:=rows≠[]/\(∀r∈rows,r≠[])/\ō x "\n" = ôb
theorem RowsOf.lens(hx:SF x)(h:RowsOf x rows):rows.length<=600/\∀r∈rows,(∀n∈r,î (ZM n)<=600)/\r.length<=601/\î (rowS r)<=600:=by
 obtain⟨_,h2,h3⟩:=h;obtain⟨_,k2,k3⟩:=hx;rw[h3]at k2 k3;rw[ZD]at k2;refine ã k2 (λr hr=>?_);have h0:=k3 (rowS r) (Ń r hr);have hsp:=IE (h2 r hr);refine ő (λn hn=>?_) ?_ h0
 ·have h1:=MB (x:=rowS r) (c:=32) (ZM n) (by rw[<- YO,hsp];exact Ń n hn);omega
 ·have h1:=KU (rowS r) 32;rw[<- YO,hsp,ZD]at h1;omega
theorem sc_rtA:ä ["text","table"] ["text"] SA:=scm
inductive spRTA(vs:ĝ)(H:Hp)(Q:VK)(z3_:XK):Prop
 |mk (x:Str) (rows:Æ Ċ) (h0:êd) (h1:SF x) (h2:RowsOf x rows) (h3:UT rows=true) (h4:∀t prs H',ē t->(∀p∈prs,ē p.1/\p.1≠t)->Ŀd->ıd H'->ð=rows->Ŕ t H')
theorem Be(T:ûa)(hstr:Þc) (D:Êd) (G:Ĝe) (G4:ñb):Ä 6 "read_table" ["text"] spRTA:=by
 refine Á sc_rtA
 ·obtain⟨x,rows,rfl,_⟩:=h;rfl
 ·obtain⟨x,rows,rfl,hx,hR,hok,q⟩:=h;have nd:=sc_rtA.nd;have nd1:(ĝe:ù).Nodup:=Â
  obtain⟨rl,rr⟩:=hR.lens hx;have hr3:Ŷc 3:=ż (show 3<=5 by decide);refine ĉb Đa (Q6 (i:=1) ĝe [none] (ZJ SA) ["text","table"] nd rfl Ô rfl (Y7 ŏ) Â (Ö ň) (Ö Y0) (Ö (Ĺ G hr3))) (ĉc (ZZ (ŭ G4 éc) WG W0) ó)
  refine Ðb (by kernel_rfl) (Āc Â (by have:=hx.1;omega) Åc);rw[hR.2.2];have s1:=snw (o:=.lst ((ôb).map V.str)) hp;have e1:(Ï H p ((ôb).map V.str)) p=Ù ((ôb).map V.str):=ZI;generalize Ï H p ((ôb).map V.str)=H1 at s1 e1 ⊢;rw[W7]at e1;refine⟨p,Z,Ņ ťc,DP (ms:=rows) (V.str∘rowS) id ťc À (ñd (rr r hr).2.2 (hR.2.1 r hr)) λt prs H2 ht hp2 hnd s2 hT2 hrows=>?_⟩;rw[List.map_id]at hrows;have hg2:Ĕ:=by rw[SD rfl,hrows];exact hok
  refine Řc t prs hT2 (VI hg2) (λH3 s3=>ë Z);rw[hg2];refine ĭb (ë Z);exact q t prs H3 (ğd ht) (λp' hp'=>ã (ğd (hp2 p' hp').1) (hp2 p' hp').2) ((Äc).trans s3) (hT2.same s3) hrows
theorem Ez{K:ZC}{a:Z1}{α:Type}{ms:Æ α}{σ0:L2.St}{H1:Hp}{te:TE}{Q:VK}(u:α->V){j:Nat}(hj:j<ms.length)(hq:SqL K H1 a Įb)(hn:ms.length<=3000)
  (hgood:∀i m,i<j->ms[i]?=Ã m->∀(H':Hp) (Q':VK),ç H1->(∀y H'',ħd->Q' y H'')->Čd m)
  (hbad:∀m,ms[j]?=Ã m->∀(H':Hp) (Q':VK),ç H1->Čd m):Èa Ād YN:=by
 intro D hD;refine X6 (n:=ms.length) (žc (ys.length=i/\i<=j)) ⟨snw hD,ZI,Z,WW _⟩ (Ĺd q.2.1) (Ìe ⟨_,u ms[i],q.1.seq hq,by simp[hi]⟩) (ðe (ő _ (q.1.seq hq) Í)) ?_ (ðe (ń q.2.2.2 À))
 rintro i ys H' y H2 hi ⟨sm,hDl,hyl,hij⟩ ⟨rfl,hy⟩;have hy:=hy _ ęd;rw[ZX,Ÿd]at hy;have hy:u ms[i]=y:=WC hy;subst hy;unfold YN;refine Ŧb ?_;rcases Nat.lt_or_ge i j with hlt | hge
 ·exact hgood i _ hlt Ÿd _ _ sm λy H3 s3=>⟨øe hDl,T8 À,(Şa s3).upd hD,ZI,by simp[hyl],À⟩
 ·have hij':i=j:=À
  subst hij';exact hbad _ Ÿd _ _ sm
inductive spRTX2(c:Z1)(vs:ĝ)(H:Hp)(z2_:VK)(E:XK):Prop
 |mk (x:Str) (h0:êd) (h1:SF x) (h2:LB x=false) (h3:∀H',Ŀd->Åb c)
theorem Kb{ls:ù}(h:ls.all TM=false):∃j,j<ls.length/\(∃l,ls[j]?=Ã l/\TM l=false)/\∀k l,k<j->ls[k]?=Ã l->TM l=true:=by
 induction ls with
 |nil=>simp at h
 |cons l ls ih =>
  cases e:TM l with
  |false=>exact⟨0,Í,ő l Z e,λk l' hk=>ń hk À⟩
  |true =>
   rw[List.all_cons,e,Bool.true_and]at h;obtain⟨j,hj,⟨b,hb,hb2⟩,hall⟩:=ih h;refine⟨j+1,by simp;omega,ő b hb hb2,λk l' hk hl=>?_⟩;cases k with
   |zero=>cases hl;exact e
   |succ k=>exact hall k l' À hl
theorem Bg(T:ûa)(hstr:Þc) (hk:Ëd c) (hm:Ūb "NoText" c) (D:Êd) (G:Ĝe) (GX:Ā 3 "read_row" ĝe (spRRX c)):Ā 6 "read_table" ["text"] (spRTX2 c):=by
 refine Æb sc_rtA
 ·obtain⟨x,rfl,_⟩:=h;rfl
 ·obtain⟨x,rfl,hx,hb,he⟩:=h;have nd:=sc_rtA.nd;have nd1:(ĝe:ù).Nodup:=Â
  have hr3:Ŷc 3:=ż (show 3<=5 by decide);refine ĉb Đa (Np (i:=1) ĝe [none] (ZJ SA) ["text","table"] nd rfl Ô rfl rfl rfl Jv rfl (Y7 ŏ) Â (Ö ň) (Ö Y0) (λcl C s2 H2 ex W R hR=>UX (G.toX.or GX) hr3 hR Ş)) WG
  refine Ðb (by kernel_rfl) (Āc Â (by have:=hx.1;omega) Åc);have s1:=snw (o:=.lst ((ō x "\n").map V.str)) hp;have e1:(Ï H p ((ō x "\n").map V.str)) p=Ù ((ō x "\n").map V.str):=ZI;generalize Ï H p ((ō x "\n").map V.str)=H1 at s1 e1 ⊢;obtain⟨j,hj,⟨b,hjb,hb2⟩,hall⟩:=Kb (ls:=ō x "\n") hb;have hn:=hx.2.1;refine⟨p,Z,Ņ ťc,Ez (ms:=ō x "\n") V.str hj ťc À (λi l hi hl H' Q' sm q'=>?_) λl hl H' Q' sm=>?_⟩
  ·obtain⟨ns,hne,ex,hsp⟩:=Rs (hall i l hi hl);exact ža (Ė ⟨l,ns,Z,hx.2.2 l (UF hl),hsp,λa H3 ha s3 hR=>q' _ H3 s3⟩)
  ·rw[hjb]at hl;cases hl;exact ža (Ŀ ⟨b,Z,hx.2.2 b (UF hjb),hb2,λH3 s3=>he H3 ((Ľ sm).trans s3)⟩)
inductive spRTX3(c:Z1)(vs:ĝ)(H:Hp)(z2_:VK)(E:XK):Prop
 |mk (x:Str) (rows:Æ Ċ) (h0:êd) (h1:SF x) (h2:RowsOf x rows) (h3:UT rows=false) (h4:∀H',Ŀd->Åb c)
theorem Bh(T:ûa)(hstr:Þc) (hk:Ëd c) (hm:Ūb "NoText" c) (D:Êd) (G:Ĝe) (G4:ñb):Ā 6 "read_table" ["text"] (spRTX3 c):=by
 refine Æb sc_rtA
 ·obtain⟨x,rows,rfl,_⟩:=h;rfl
 ·obtain⟨x,rows,rfl,hx,hR,hok,he⟩:=h;have nd:=sc_rtA.nd;have nd1:(ĝe:ù).Nodup:=Â
  obtain⟨rl,rr⟩:=hR.lens hx;have hr3:Ŷc 3:=ż (show 3<=5 by decide);refine ĉb Đa (Q6 (i:=1) ĝe [none] (ZJ SA) ["text","table"] nd rfl Ô rfl (Y7 ŏ) Â (Ö ň) (Ö Y0) (Ö (Ĺ G hr3))) (ZG (ZZ (ŭ G4 éc) ła W0) WG)
  refine Ðb (by kernel_rfl) (Āc Â (by have:=hx.1;omega) Åc);rw[hR.2.2];have s1:=snw (o:=.lst ((ôb).map V.str)) hp;have e1:(Ï H p ((ôb).map V.str)) p=Ù ((ôb).map V.str):=ZI;generalize Ï H p ((ôb).map V.str)=H1 at s1 e1 ⊢;rw[W7]at e1;refine⟨p,Z,Ņ ťc,DP (ms:=rows) (V.str∘rowS) id ťc À (ñd (rr r hr).2.2 (hR.2.1 r hr)) λt prs H2 ht hp2 hnd s2 hT2 hrows=>?_⟩;rw[List.map_id]at hrows;have hg2:tabB prs=false:=by rw[SD rfl,hrows];exact hok
  have sm:Sm prs:=by
   have hl:prs.length=rows.length:=by rw[<- hrows,ZD]
   refine ã À Åc;have:=(rr p.2 (by rw[<- hrows];exact Ń p hp)).2.1;omega
  refine Řc t prs hT2 sm (λH3 s3=>ë Z);rw[hg2];exact Ŧb (he _ ((Äc).trans s3))
end
open PySem L2 PyProof.Rows
noncomputable def lowS:Str := "abcdefghijklmnopqrstuvwxyz"
theorem Vr(c:Nat):(! Üc lowS (ű #[c]) lowS.length)=(ēa 97 c 122):=by
 rw[StrLaws.found_one];have e:lowS.cps.toList=List.range' 97 26:=Â
 rw[e,Bool.eq_iff_iff,TF,YT,TF,TF,List.mem_range'_1];omega
noncomputable def Y2(cs:Ŧa):Bool:=(ēa 1 cs.length 8)&&cs.all λc=>ēa 97 c 122
noncomputable def isSC(cs:Ŧa):Bool:=XD cs&&è (cs.length<=2)
noncomputable def isSN(cs:Ŧa):Bool:=V4 cs&&è (î (cs.dropWhile λc=>c==45)<=9)
noncomputable def wrB(kind:Str)(w:Str):Bool:=if kind = "NAME" then Y2 w.cps.toList else if kind = "X" then isSN w.cps.toList else è (kind = "TEXT")||isSC w.cps.toList
structure DkC(mg:Ą):Prop where
 low:∃t,mg "SMALL_LETTERS" = Ã (.str lowS t)
 ml:∃t,mg "MOST_LETTERS" = Ã (Řd 8)
 mc:∃t,mg "MOST_FIGURES_OF_COUNT" = Ã (Řd 2)
 mn:∃t,mg "MOST_FIGURES_OF_NUMBER" = Ã (Řd 9)
section
variable {P:Z3}{w:Z5}{K:ZC}{mg:Ą}{base:Z8}{c:Z1}
inductive spNam(vs:ĝ)(H:Hp)(Q:VK)(z3_:XK):Prop
 |mk (x:Str) (h0:êd) (h1:x.length<=3000) (h2:∀H',Êe (Y2 x.cps.toList))
theorem Ti:ş "word" NL:=scm
theorem Jn(T:ûa)(C:DkC mg)(D:é "is_name" NL ųa):Ä 1 "is_name" ųa spNam:=by
 refine Á Ti
 ·obtain⟨x,rfl,_⟩:=h;rfl
 ·obtain⟨x,rfl,hl,q⟩:=h;obtain⟨t1,h1⟩:=C.low;obtain⟨t2,h2⟩:=C.ml;have nd1:(["sign"]:ù).Nodup:=Â
  refine ýe (XN TK TK ZB (àc IS Ş) (YX (v:=ô 8) rfl h2 Ôe)) (Ē ["sign"] [none] NL ųa (F9 Ü) nd1 (UE JS Ü (YX (v:=ĉ lowS) rfl h1 Ôe) rfl))
  have no:Ķb (ēa 1 x.length 8)->Q öa H:=λe=>by
   have:=q H ŵ;unfold Y2 at this;rw[WR,e,Bool.false_and]at this;exact this
  refine⟨_,Z,x,Z,sl30 hl,1,_,Z,Z,_,Z,Ŋa⟩
  ·have h1:=ġ h1;refine Ŀb _ Z ŗc
   ·have h2:=ġ h2;refine şc Z x Z (Ūc 97 122)
    ·rw[Vr];exact Īc
    ·refine ŗd D (x.cps.toList.map λc=>ēa 97 c 122) (by rw[hDl,W7];rfl) ?_;have:=Łd;unfold Y2 at this;rw[WR,ZS À,ZS À,Bool.true_and,Bool.true_and]at this;rw[List.all_map];exact this
   ·exact no (by rw[ZW (p:=x.length<=8) (λz=>h2 (ZS À)),Bool.and_false])
  ·refine ža (ĭb ?_);exact no (by rw[ZW (p:=1<=x.length) (λz=>h1 (ZS À)),Bool.false_and])
inductive spSC(vs:ĝ)(H:Hp)(Q:VK)(z3_:XK):Prop
 |mk (x:Str) (h0:êd) (h1:x.length<=3000) (h2:∀H',Êe (isSC x.cps.toList))
theorem Tk:ş "word" dShC:=scm
theorem Uu(T:ûa)(C:DkC mg)(D:é "is_short_count" dShC ųa) (G:Ä 1 "writes_count" ųa spWCA):Ä 2 "is_short_count" ųa spSC:=by
 refine Á Tk
 ·obtain⟨x,rfl,_⟩:=h;rfl
 ·obtain⟨x,rfl,hl,q⟩:=h;obtain⟨t2,h2⟩:=C.mc;refine ýe űb (Æe o_le (àc IS Ş) (YX (v:=ô 2) rfl h2 Ôe));refine Ğc x hl (λH1 s1=>ë Z);have:=Łd;unfold isSC at this;cases e:XD x.cps.toList with
  |false =>
   rw[e,Bool.false_and]at this;exact ĭb this
  |true =>
   rw[e,Bool.true_and,WR]at this;refine Ŧb ⟨_,Z,x,Z,sl30 hl,_,_,Z,Z,?_⟩;rw[show è (Þ x.length<=2)=è (x.length<=2) by rw[XA];omega];exact this
inductive spSN(vs:ĝ)(H:Hp)(Q:VK)(z3_:XK):Prop
 |mk (x:Str) (h0:êd) (h1:x.length<=3000) (h2:∀H',Êe (isSN x.cps.toList))
theorem Tm:ş "word" dShN:=scm
theorem Ea(x:Str):î (Ăe x "-")=î (x.cps.toList.dropWhile λc=>c==45):=by
 have hs:Ăe x "-" = Txt.stripBy ("-" : Str).cps.contains true false x:=rfl;have hp:("-" : Str).cps.contains=λc:Nat=>c==45:=by
  funext c
  have e:("-" : Str).cps.toList=[45]:=Â
  rw[<- Array.contains_toList,e];simp;rfl
 rw[hs,stripBy_eq,hp];have hlo:stripLo (λc:Nat=>c==45) true x=î Çc:=by
  unfold stripLo;rw[ŧb]
 have hhi:∀lo,stripHi (λc:Nat=>c==45) false x lo=x.length:=λlo=>by
  unfold stripHi;rw[ZE Ç]
 rw[hhi,hlo];have e1:î Çc+î (x.cps.toList.dropWhile λc=>c==45)=x.length:=by
  rw[<- WK,List.takeWhile_append_dropWhile,WR]
 have e2:î (Builtin.Str.strSub x (î Çc) x.length)=x.length-î Çc:=by
  rw[<- WR];show(x.cps.extract _ x.length).toList.length=_;rw[U5,Array.size_extract];show min x.length x.length-_=_;rw[Nat.min_self]
 rw[e2];omega
theorem Uv(T:ûa)(C:DkC mg)(D:é "is_short_number" dShN ųa) (G:đe):Ä 3 "is_short_number" ųa spSN:=by
 refine Á Tm
 ·obtain⟨x,rfl,_⟩:=h;rfl
 ·obtain⟨x,rfl,hl,q⟩:=h;obtain⟨t2,h2⟩:=C.mn;refine ýe űb (Æe o_le (àc IS (pa1 (YF F.plainAttrs_str F.slot_str_lstrip F.type_str_lstrip Ee Ü (pa1 ZR)))) (YX (v:=ô 9) rfl h2 Ôe));refine Ğc x hl (λH1 s1=>ë Z);have:=Łd;unfold isSN at this;have ll:=Ea x;have l2:î (Ăe x "-")<=3000:=by
   rw[ll];have:=(List.dropWhile_sublist (λc=>c==45) (l:=x.cps.toList)).length_le;rw[WR]at this;omega
  cases e:V4 x.cps.toList with
  |false =>
   rw[e,Bool.false_and]at this;exact ĭb this
  |true =>
   rw[e,Bool.true_and,<- ll]at this;refine Ŧb ⟨_,Z,Z,x,_,Z,Z,sl30 hl,_,Z,sl30 l2,_,_,Z,Z,?_⟩;rw[show è (Þ (î (Ăe x "-"))<=9)=è (î (Ăe x "-")<=9) by rw[XA];omega];exact this
inductive spWrAs(vs:ĝ)(H:Hp)(Q:VK)(z3_:XK):Prop
 |mk (k x:Str) (h0:vs=[ĉ k,íd]) (h1:x.length<=3000) (h2:∀H',Êe (wrB k x))
theorem Qh:ä ["kind","word"] ["kind","word"] MU:=scm
theorem Og(D:é "is_written_as" MU ["kind","word"]) (G1:Ä 1 "is_name" ųa spNam) (G2:Ä 3 "is_short_number" ųa spSN) (G3:Ä 2 "is_short_count" ųa spSC):Ä 4 "is_written_as" ["kind","word"] spWrAs:=by
 refine Á Qh
 ·obtain⟨k,x,rfl,_⟩:=h;rfl
 ·obtain⟨k,x,rfl,hl,q⟩:=h;have hr1:Ŷc 1:=ż (show 1<=3 by decide);have hr2:Ŷc 2:=ż (show 2<=3 by decide);refine ë (ï Ü (Ġ (pe_f G1 hr1 éc)) (Ġ (pe_f G2 hr éc)) (Ġ (GQ (Æe WH Ü ZR) (VG (pe_f G3 hr2 éc)))))
  have vs:∀{a b:Str},è (Æd a=Æd b)=è (a=b):=λ{a b}=>by
   rw[XA];exact ã (λh=>by injection h) (λh=>by rw[h])
  unfold wrB at q;refine ų;rw[vs]
  by_cases h1:k = "NAME"
  ·rw[ZH h1]at q;rw[ZS h1];exact Ŧb (Ğc x hl q)
  ·rw[ZE h1]at q;rw[ZW h1];refine ĭb ų;rw[vs]
   by_cases h2:k = "X"
   ·rw[ZH h2]at q;rw[ZS h2];exact Ŧb (Ğc x hl q)
   ·rw[ZE h2]at q;rw[ZW h2];refine ĭb ų;rw[vs]
    by_cases h3:k = "TEXT"
    ·rw[ZS h3]at q ⊢;exact Ŧb (q H ŵ)
    ·rw[ZW h3]at q ⊢;exact ĭb (Ğc x hl q)
end
open PySem L2 PyProof.Rows
noncomputable def formL:ġa ù:=[("table",["NAME","TEXT"]),("cell",["NAME","R","C","X"]),("drop",["NAME"]),("find",["NAME","X"]),("stair",["NAME","X"]),("walk",["NAME","X"]),("below",["NAME","X"]),("nth",["NAME","K"]),("show",["NAME"]),("looks",["R","P"])]
noncomputable def FmAll(K:ZC):Û (ġa Z1) (ġa ù)
 | [],[]=>True
 |p::ps,q::qs=>p.1=q.1/\(∀H,łb p.2 (q.2.map V.str))/\FmAll K ps qs
 |_,_=>False
theorem FmAll.look{K:ZC}{z:Str}:∀{ps:ġa Z1}{qs:ġa ù},FmAll K ps qs->(qs.lookup z=none/\ps.lookup z=none)\/∃ks b,qs.lookup z=Ã ks/\ps.lookup z=Ã b/\∀H,łb b (ks.map V.str)
 | [],[],_=>ìb Z Z
 | (p,a)::ps,(q,ks)::qs,h=>by
  obtain⟨rfl,h2,h3⟩:=h
  by_cases e:z=p
  ·refine Ŀ ⟨ks,a,?_,?_,h2⟩<;>rw[List.lookup_cons,show(z==p)=true by rw[e];exact beq_self_eq_true p]
  ·have e2:Ķb (z==p):=VQ.mpr e;rw[List.lookup_cons,List.lookup_cons,e2];exact h3.look
theorem WE{α:Type}{xs:Æ α}{i:Nat}{v:α}(h:xs[i]?=ôc):atI xs (Þ i)=ôc:=by
 have hl:i<xs.length:=Ăb h;unfold atI ixN;rw[ZH À,ZH À];show xs[(i:Int).toNat]?=_;rw[YR];exact h
structure FmOk(K:ZC)(w:Z5)(mg:Ą):Prop where
 is:∃a fs,Ūb "FORMS" a/\TopD K w a fs/\FmAll K fs formL
noncomputable def spl(x:Str):ù:=if īc x "table " = true then Ĵc x " " 2 else ō x " "
noncomputable def hfB:ù->Bool
 | []=>false
 |f::ws=>match ėd with
  |none=>false
  |some ks=>è (ws.length=ks.length)&&(Ũc).all id
theorem sub_len(z:Str)(i j:Nat):î (Builtin.Str.strSub z i j)<=z.length:=by
 show(z.cps.extract i j).size<=z.cps.size;rw[Array.size_extract];omega
theorem Tz:∀w∈Ĵc x y k,w.length<=x.length:=λw hw=>by
 unfold Txt.splitMax at hw;split at hw
 ·rw[V3.mp hw];exact ħ
 ·split at hw
  ·rw[V3.mp hw];exact ħ
  ·unfold Builtin.Str.partsBetween at hw;obtain⟨p,_,rfl⟩:=Áb hw;exact sub_len _ _ _
theorem EQ(x y:Str):î (Ĵc x y 2)<=3:=by
 unfold Txt.splitMax;split
 ·simp
 ·split
  ·simp
  ·unfold Builtin.Str.partsBetween;have h:=StrLaws.occ_length_le x y 0 x.length (limitOf x 2);have e:limitOf x 2=2:=rfl;rw[ZD,List.length_zip,YL,ZD,WK,VP,Nat.min_self];omega
theorem Ug(x y:Str)(k:Int):Ĵc x y k≠[]:=by
 unfold Txt.splitMax;split
 ·simp
 ·split
  ·simp
  ·unfold Builtin.Str.partsBetween;intro z;have:=õ z;simp at this
theorem K9(x y:Str):ō x y≠[]:=by
 unfold Txt.split;split
 ·simp
 ·split
  ·simp
  ·unfold Builtin.Str.partsBetween;intro z;have:=õ z;simp at this
theorem EU:∀w∈spl x,w.length<=x.length:=λw hw=>by
 unfold spl at hw;split at hw
 ·exact Tz w hw
 ·rw[show(ć " ")=ű #[32] from YO]at hw;exact MB w hw
theorem ET(x:Str):î (spl x)<=x.length+3:=by
 unfold spl;split
 ·have:=EQ x " "; omega
 ·have:=BW x " "; omega
theorem FI(x:Str):spl x≠[]:=by
 unfold spl;split
 ·exact Ug _ _ _
 ·exact K9 _ _
theorem Kr:cutV xs (Ã 1) none=xs.drop 1:=by
 unfold cutV;rw[HT.sIx_none,show(Þ 1)=Ý 1 from rfl,HT.sIx_nat];rcases Nat.le_total 1 xs.length with h | h
 ·rw[Nat.min_eq_left h,QG Í]
 ·rw[Nat.min_eq_right h,Nat.sub_self,List.take_zero,ûe (by simpa using h)]
section
variable {P:Z3}{w:Z5}{K:ZC}{mg:Ą}{base:Z8}{c:Z1}
inductive spSplit(vs:ĝ)(H:Hp)(Q:VK)(z3_:XK):Prop
 |mk (x:Str) (h0:êd) (h1:x.length<=3000) (h2:∀p,ē p->èc p ((spl x).map V.str))
theorem Kt:ş "row" IB:=scm
theorem La(D:é "split_row" IB Ïb):Ä 1 "split_row" Ïb spSplit:=by
 refine Á Kt
 ·obtain⟨x,rfl,_⟩:=h;rfl
 ·obtain⟨x,rfl,hl,q⟩:=h;refine ë (ĉc (ZZ (WP łc) (Ġ (YF F.plainAttrs_str F.slot_str_split F.type_str_split Jb Ü (į ZR ZB))) W0) ŏ)
  have e:spl x=if īc x "table " = true then Ĵc x " " 2 else ō x " " := rfl
  refine Āc _ Z Ŋa
  ·rw[e,ZH h1]at q;exact⟨_,Z,Z,_,_,2,Z,Z,Â,À,Ç,Ç,by have:=EQ x " "; omega,q⟩
  ·rw[e,ZE h1]at q;exact Āc Â À q
inductive spHF(vs:ĝ)(H:Hp)(Q:VK)(z3_:XK):Prop
 |mk (a:Z1) (ws:ù) (h0:vs=[œ]) (h1:Èb a (ws.map V.str)) (h2:ws≠[]) (h3:ws.length<=3000) (h4:(∀x∈ws,x.length<=3000)) (h5:∀H',Êe (hfB ws))
theorem Zz:ş "words" M5:=scm
theorem Yd(T:ûa)(hzip:ě "zip") (Fm:FmOk K w mg) (D:é "has_form" M5 ["words"]) (G:Ä 4 "is_written_as" ["kind","word"] spWrAs):Ä 5 "has_form" ["words"] (spHF (K:=K)):=by
 refine Á Zz
 ·obtain⟨a,ws,rfl,_⟩:=h;rfl
 ·obtain⟨a,ws,rfl,ha,hne,hl,hw,q⟩:=h;obtain⟨fa,fs,h1,h2,h3⟩:=Fm.is;have nd1:(["kind","word"]:ù).Nodup:=Â
  refine ë (ĉc (pifF (řb (D8 Cb (Èe Ü ZB) (YX (v:=Ê fa) rfl h1 rfl) rfl) (pcm SJ Ïd (ZN U7 (pln T (pix FV (YX (v:=Ê fa) rfl h1 rfl) (Èe Ü ZB))) ZB)))) (pe_b (V7 rfl) T.all boot_all (pa1 (Ì ["kind","word"] [none,none] M5 ["words"] (Pl rfl hzip (į (pix FV (YX (v:=Ê fa) rfl h1 rfl) (Èe Ü ZB)) (BA Ql Ü (RA ZB) Q0))) (O9 K rfl nd1) Y0 (Ýa G hr Ü 1)))))
  obtain⟨f,ws,rfl⟩:∃f w2,ws=f::w2:=by
   cases ws with
   |nil=>exact ń rfl hne
   |cons f w2=>exact ő f w2 Z
  have at0:atI ((f::ws).map V.str) 0=Ã (Æd f):=WE (i:=0) rfl;have fin:∀{b:Bool},hfB (f::ws)=b->∀H',Êe b:=λe H' s'=>by
   have:=q H' s';rw[e]at this;exact this
  refine⟨_,Z,a,_,0,_,Z,Z,ha,at0,f,fa,fs,Z,Z,h2,_,Z,?_⟩;rcases h3.look (z:=f)with⟨e1,e2⟩ | ⟨ks,b,e1,e2,hb⟩
  ·rw[e2];refine Ŧb (Ŧb (fin ?_ H ŵ));show(match ėd with | none=>false | some ks=>_)=_;rw[e1]
  ·rw[e2];have hf:hfB (f::ws)=(è (ws.length=ks.length)&&(Ũc).all id):=by
    show(match ėd with | none=>false | some ks=>_)=_;rw[e1]
   refine ĭb ⟨_,Z,a,_,Z,Ė ha,_,Z,a,_,0,_,Z,Z,ha,at0,fa,f,fs,b,Z,Z,h2,e2,b,_,Z,Ŀ (hb _),_,_,Z,Z,Z,_,Z,?_⟩;have vi:∀{i j:Int},è (Žb i=Žb j)=è (i=j):=λ{i j}=>by
    rw[XA];exact ã (λh=>by injection h) (λh=>by rw[h])
   rw[vi];refine ite2 (λh=>?_) (λh=>?_)
   ·refine fin ?_ H ŵ;rw[hf];have h:=of_decide_eq_false (by rw[Bool.not_eq_true']at h;exact h);rw[ZW (λz=>h ?_),Bool.false_and];simp[z]
   ·have hlen:ws.length=ks.length:=by
     by_cases z:ws.length=ks.length
     ·exact z
     ·refine ń ?_ h;rw[Bool.not_eq_true'];refine ZW λz2=>z ?_;simp at z2;omega
    refine⟨_,Z,a,_,0,_,Z,Z,ha,at0,fa,f,fs,b,Z,Z,h2,e2,_,Z,_,Z,a,_,Z,ha,Åc⟩;have s1:Ĝa H H p (cutV ((f::ws).map V.str) (Ã 1) none):=snw hp;have e3:(Ï H p (cutV ((f::ws).map V.str) (Ã 1) none)) p=Ù (ws.map V.str):=by
     rw[ZI,Kr];rfl
    generalize Ï H p (cutV ((f::ws).map V.str) (Ã 1) none)=H1 at s1 e3 ⊢;refine⟨b,p,Z,Ņ (hb _),Ņ (sqo e3),De (λx y=>V.bl (match x,y with | .str x,.str y=>wrB x y | _,_=>false)) (hb _) (sqo e3) (by rw[ZD,ZD,hlen]) (by rw[ZD];simp at hl;omega) (λx y hx hy H' Q' sm q'=>?_) λD H2 hD s2 hDl=>?_⟩
    ·obtain⟨k,hk,rfl⟩:=Áb hx;obtain⟨z,hz,rfl⟩:=Áb hy;exact⟨_,Z,_,Z,k,z,Z,hw z (UV _ hz),q'⟩
    ·refine ŗd D Ũc ?_ (fin ?_ H2 Äc)
     ·rw[hDl,List.zipWith_map,List.map_zipWith]
     ·rw[hf,ZS hlen,Bool.true_and]
inductive spWO(vs:ĝ)(H:Hp)(Q:VK)(z3_:XK):Prop
 |mk (x:Str) (h0:êd) (h1:x.length<=2900) (h2:ĺc (spl x)) (h3:∀p H',ē p->Àa H p ((spl x).map V.str))
theorem sc_wo:ä ["row","words"] Ïb M8:=scm
theorem Yf(T:ûa)(hstr:Þc) (D:é "words_of" M8 Ïb) (G1:Ä 1 "split_row" Ïb spSplit) (G2:Ä 5 "has_form" ["words"] (spHF (K:=K))):ěc:=by
 refine Á sc_wo
 ·obtain⟨x,rfl,_⟩:=h;rfl
 ·obtain⟨x,rfl,hl,hf,q⟩:=h;have nd:=sc_wo.nd;have hr1:Ŷc 1:=ż (show 1<=5 by decide);refine ĉb Đa (È 1 (Ĺ G1 hr1)) (ĉc (ZZ (ŭ G2 éc) WG W0) ó)
  refine Ðb (by kernel_rfl) (Ğc x À Åc);have c1:=ET x;refine⟨_,Z,p,spl x,Z,sqo ZI,FI x,À,λz hz=>WB (EU z hz) À,λH2 s2=>ë Z⟩;rw[hf];exact ĭb (ža (q p H2 hp ((snw hp).trans s2) (űc ZI)))
inductive spWOX(c:Z1)(vs:ĝ)(H:Hp)(z2_:VK)(E:XK):Prop
 |mk (x:V) (d:PyData) (h0:vs=[x]) (h1:RdS [] H x d) (h2:(FT d=false\/∃z,d=ĉ z/\z.length<=2900/\hfB (spl z)=false)) (h3:∀H',Ŀd->Åb c)
theorem Uy(T:ûa)(hstr:Þc) (hk:Ëd c) (hm:Ūb "NoRow" c) (D:é "words_of" M8 Ïb) (G1:Ä 1 "split_row" Ïb spSplit) (G2:Ä 5 "has_form" ["words"] (spHF (K:=K))):Ā 6 "words_of" Ïb (spWOX c):=by
 refine Æb sc_wo
 ·obtain⟨x,d,rfl,_⟩:=h;rfl
 ·obtain⟨x,d,rfl,rd,hc,he⟩:=h;rcases hc with hd | ⟨z,rfl,hz,hf⟩
  ·refine ë (ZG (ZZ (Ģd (Ĉ VH (į Ü (V6 hstr U3)))) ła W0) WG);refine⟨_,Z,_, "str", _,false,Z,rd.ty,?_,_,Z,Ŧb (he _ ŵ)⟩;rw[Ni];cases d<;>first | rfl | cases hd
  ·have nd:=sc_wo.nd;have ex:x=ĉ z:=by cases rd;rfl
   subst ex;have hr1:Ŷc 1:=ż (show 1<=5 by decide);refine ĉb Đa (È 1 (Ĺ G1 hr1)) (ZG (ZZ (ŭ G2 éc) ła W0) WG)
   refine Ðb (by kernel_rfl) (Ğc z À Åc);have c1:=ET z;refine⟨_,Z,p,spl z,Z,sqo ZI,FI z,À,λy hy=>WB (EU y hy) À,λH2 s2=>ë Z⟩;rw[hf];exact Ŧb (he H2 ((snw hp).trans s2))
end
open PySem L2 PyProof.Rows
noncomputable def XX(x:Str):Bool:=! Üc x "\n" x.length
theorem Zc{α:Type}{K:ZC}{a:Z1}{cs:Æ α}{σ0:L2.St}{H1:Hp}{te:TE}{Q:VK}(ad:α->Z1)(f1 f2 g:α->V)(hq:SqL K H1 a (Õc (λc=>Ŷ (ad c))))(hc:∀c∈cs,H1 (ad c)=Ĥ [f1 c,f2 c])(hn:cs.length<=3000)
  (he:∀c∈cs,Pu te ((Ō (f1 c)).set 1 (Ã (f2 c))) H1 (g c)) (fin:∀D H',Źd->Ée (Õc g)) :
  U2 Ād Ěa YN te σ0 H1 Q:=by
 intro D hD;refine ëc cs.length (∀u v,(σ'.set 0 u).set 1 v=(Ōb u).set 1 v) (ç H1/\Ľb/\ys=(cs.take i).map g) ⟨cs.length,Í,WW _,Ÿ,snw hD,ZI,Í⟩;rintro i m ys σ' H' ⟨rfl,hi,es,sm,hDl,hys⟩;refine ųb hDl;have q:=ęd
 by_cases hlt:i<cs.length
 ·refine Ìd ⟨_,Ŷ (ad cs[i]),q,by simp[hlt]⟩;obtain⟨rfl,y⟩:=y;have y:=y _ q;rw[ZX,WA hlt]at y;have hx:Ŷ (ad cs[i])=x:=WC y;subst hx;refine Ąa (ad cs[i]) (sm _ _ (hc cs[i] (YE hlt)));unfold YN;refine Ŧb ?_;rw[es];refine he cs[i] (YE hlt) _ _ sm (ĵc hDl cs.length ((Şa s5).upd hD))
  ·rw[hys,ZD,VO];exact T8 À
  ·rw[hys,List.take_add_one,WA hlt,W2];rfl
 ·have e:i=cs.length:=À
  subst e;refine ìb (ő _ q Í) (Đc ?_);rw[hDl,hys,List.take_length]
noncomputable def SG(c:Ġc):Str:=űa (Ý c.1) ++ ":" ++ űa (Ý c.2)
noncomputable def SQ(L:śd Nat):Str:=ŭa " " (L.map SG)
noncomputable def TU(L:śd Nat):Str:=if L=[]then "none" else SQ L
theorem fig6(h:r<6):(ũ r:Int).natAbs.log2<1920/\î (űa (Ý r))=1:=by
 have:∀r:Fin 6,((ũ r:Int).natAbs.log2<1920)/\î (űa (Ý r))=1:=Â
 exact this (ã r h)
theorem BN(h1:c.1<6)(h2:c.2<6):î (SG c)=3:=by
 unfold SG;rw[TX,TX,(fig6 h1).2,(fig6 h2).2];rfl
section
variable {P:Z3}{w:Z5}{K:ZC}{mg:Ą}{base:Z8}{c:Z1}
inductive spRS(c:Z1)(sp:Sp)(vs:ĝ)(H:Hp)(Q:VK)(E:XK):Prop
 |mk (x:Str) (h0:êd) (h1:x.length<=2900) (h2:((XX x=true/\E (Ê c) none H)\/(XX x=false/\sp [ĉ (ĉa x "/" "\n")] H Q λcls _ H'=>E cls none H')))
theorem Wb:ş "text" JN:=scm
theorem GA(hk:Ëd c)(hm:Ūb "NoText" c) (D:é "read_slashed" JN ["text"]) (G:Ā 6 "read_table" ["text"] sp):Ā 7 "read_slashed" ["text"] (spRS c sp):=by
 refine Æb Wb
 ·obtain⟨x,rfl,_⟩:=h;rfl
 ·obtain⟨x,rfl,hl,hh⟩:=h;refine ë (Pt (Nr JS DE Ü rfl) ła W0 (KY (Xv G hr VZ (Oj (KW Ü)))));refine Ìa ?_;rcases hh with⟨h1,h2⟩ | ⟨h1,h2⟩
  ·unfold XX at h1;rw[h1];exact Ŧb h2
  ·unfold XX at h1;rw[h1];exact ĭb (Ğc x À h2)
noncomputable def O7(H:Hp)(c:Z1×Ġc):Prop:=H c.1=Ĥ [Ó c.2.1,Ó c.2.2]
inductive spShC(vs:ĝ)(H:Hp)(Q:VK)(z3_:XK):Prop
 |mk (a:Z1) (cs:ċ Z1 Ġc) (h0:vs=[œ]) (h1:H a=Ù (Õc (λc=>Ŷ c.1))) (h2:(∀c∈cs,O7 H c/\c.2.1<6/\c.2.2<6)) (h3:cs.length<=36) (h4:∀H',ū (ĉ (SQ (Õc (·.2)))))
theorem Qg:ş "cells" MI:=scm
theorem Sy(D:é "show_cells" MI ["cells"]):Ä 1 "show_cells" ["cells"] spShC:=by
 refine Á Qg
 ·obtain⟨a,cs,rfl,_⟩:=h;rfl
 ·obtain⟨a,cs,rfl,ha,hc,hn,q⟩:=h;have nd1:(["row","place"]:ù).Nodup:=Â
  refine Ňb (Ū ["row","place"] [none,none] MI "cells" (O9 K rfl nd1) (Tu Ü ó))
  refine ńc ha (λc:Z1×Ġc=>c.1) c.2.1 c.2.2 (λc h=>(hc c h).1)
  ·obtain⟨_,h1,h2⟩:=hc c h;have f1:=fig6 h1;have f2:=fig6 h2;exact⟨_,Z,_,Z,f1.1,À,Â,_,Z,_,Z,f2.1,À,Īc⟩
  ·refine⟨_,D,(Õc (λc:Z1×Ġc=>c.2)).map SG,Z,Z,?_,?_,q H2 s2⟩
   ·rw[hDl,W7,W7];rfl
   ·rw[show(ć " ")=ű #[32] from YO];refine RZ (B:=3) Ĳc ?_
    ·obtain⟨c,hc2,rfl⟩:=Áb hw;obtain⟨c2,hc3,rfl⟩:=Áb hc2;rw[BN (hc c2 hc3).2.1 (hc c2 hc3).2.2];exact ħ
    ·rw[ZD,ZD];omega
inductive spShF(vs:ĝ)(H:Hp)(Q:VK)(z3_:XK):Prop
 |mk (a:Z1) (cs:ċ Z1 Ġc) (h0:vs=[œ]) (h1:H a=Ù (Õc (λc=>Ŷ c.1))) (h2:(∀c∈cs,O7 H c/\c.2.1<6/\c.2.2<6)) (h3:cs.length<=36) (h4:∀H',ū (ĉ (TU (Õc (·.2)))))
theorem Tl:ş "cells" IN:=scm
theorem Uw(D:é "show_found" IN ["cells"]) (G:Ä 1 "show_cells" ["cells"] spShC):Ä 2 "show_found" ["cells"] spShF:=by
 refine Á Tl
 ·obtain⟨a,cs,rfl,_⟩:=h;rfl
 ·obtain⟨a,cs,rfl,ha,hc,hn,q⟩:=h;refine Ňb (Li (Nq Ü (λ_=>rfl)) űb ZR);refine şc Z _ (Ė (Àe (sqo ha))) ?_;cases cs with
  |nil=>exact ĭb (q H ŵ)
  |cons c0 cs=>exact Ŧb ⟨_,Z,a,c0::cs,Z,ha,hc,hn,λH' s'=>q H' s'⟩
end
end Seek
namespace L2
open PySem PySem.Spec PyProof.Rows
theorem Gp(K:ZC)(hl:Œ l tl)(hK:X.K=K:=by rfl):PI X tg l (L3 K tl):=by subst hK;exact Y7 hl
theorem Ff(N':ù)(ix:Æ ğc)(hc:èa)(hi:ęc)(ok:TR X.env.scope scope X.N N' ix=true)
  (hg:∀cl C s2 H2 ex,īd) (ht:∀cl C s2 H2 ex,Öd) (he:∀cl C s2 H2 ex,PE Ăa elt te) (hs:∀x,ča=pure x:=by intro _;rfl) :
  Œ (ý tg ifs) (OG wi g tc te ix):=WU N' ix X.env.scope X.N hc hi ok hg ht he rfl rfl hs
theorem K6{X:Cx}{T id:String}{name:Str}{r:V->ĝ->Ŭa}{o e:Z7}{es:Šc}{to:TE}{t:TA}{apos cpos:Pos}(K:ZC)(pa:PlainAttrs T)(slot:Slot T name id)(hty:typeOf (Ţ id)=pure (Ŀa "method_descriptor")) (hm:MtR X id r) (ho:Œ o to) (ha:Ōc) (hK:X.K=K:=by rfl)
  (hbase:ģa o name=í o:=by rfl)
  (hfew:((Ĭ cpos ŀ).all (λx=>! x.1)&&(Ŵ cpos).all (λx=>x.1.isSome) && è (î ŀ+([]:Æ Keyword).length+(if([]:Æ Keyword).isEmpty then 0 else 1)<30))=true:=by rfl)
  (hline:ĵb:=by rfl) (hs:Õ ŀ=(false,í e)::Õ es:=by rfl) (hplain:(Ĭ cpos es).any (·.1)=false:=by rfl) :
  Œ (ė name ŀ cpos) (tBM K T r to t):=by
 subst hK;exact YF pa slot hty hm ho ha hbase hfew hline hs hplain
end L2
namespace Seek
open PySem L2 PyProof.Rows
theorem KB{n:Int}(h:n.natAbs<Īd):n.natAbs.log2<1920:=by
 by_cases h0:n.natAbs=0
 ·rw[h0];decide
 ·rw[Nat.log2_lt h0];have h1:ũ 10 ^ 50<=2 ^ 200:=Ç
  have h2:ũ 2 ^ 200<=2 ^ 1920:=ŝa Ç;exact WT h (WB h1 h2)
noncomputable def Bd50(ns:Ċ):Prop:=∀n∈ns,n.natAbs<Īd
theorem FD(h6:ns.length<=6)(hb:Bd50 ns):JoinOk " " (ns.map ZM)=true:=by
 rw[YO];refine RZ (B:=51) Ĳc (by rw[ZD];omega);obtain⟨n,hn,rfl⟩:=Áb hw;exact P8 (hb n hn) Ç
theorem NB(h6:ns.length<=6)(hb:Bd50 ns):î (rowS ns)<=312:=WB (Nz (B:=51) λn hn=>P8 (hb n hn) Ç) (Nat.mul_le_mul_right 52 h6)
theorem Xl{rows:Æ Ċ}(h6:rows.length<=6)(hr:∀r∈rows,r.length<=6)(hb:∀r∈rows,Bd50 r):JoinOk "\n" ôb=true:=by
 rw[TJ];refine RZ (B:=312) Ĳc (by rw[ZD];omega);obtain⟨r,hr',rfl⟩:=Áb hw;exact NB (hr r hr') (hb r hr')
section
variable {P:Z3}{w:Z5}{K:ZC}{mg:Ą}{base:Z8}
inductive spSR(vs:ĝ)(H:Hp)(Q:VK)(z3_:XK):Prop
 |mk (a:Z1) (ns:Ċ) (h0:vs=[œ]) (h1:Üe) (h2:ns.length<=6) (h3:Bd50 ns) (h4:∀H',ū (ĉ (rowS ns)))
theorem Wc:ş "row" M7:=scm
theorem Eo(hstr:Þc) (D:é "show_row" M7 Ïb):Ä 1 "show_row" Ïb spSR:=by
 refine Á Wc
 ·obtain⟨a,ns,rfl,_⟩:=h;rfl
 ·obtain⟨a,ns,rfl,hR,h6,hb,q⟩:=h;have nd1:(["number"]:ù).Nodup:=Â
  refine Ňb (Ū ["number"] [none] M7 "row" ň (Ďa Ş))
  refine⟨Z,_,Z,a,Z,Ņ hR.sq,V0 (ms:=ns) V.int (λn=>Æd (ZM n)) hR.sq Ĭb (λn hn H' Q' sm q'=>Ğc n (KB (hb n hn)) Īc) λD2 H2 hD s2 eD=>?_⟩;exact⟨_,D2,ns.map ZM,Z,Z,by rw[eD,W7];rfl,FD h6 hb,q H2 s2⟩
inductive spST(vs:ĝ)(H:Hp)(Q:VK)(z3_:XK):Prop
 |mk (t:Z1) (prs:Prs) (h0:vs=[Ê t]) (h1:ľ) (h2:Ĕ) (h3:(∀p∈prs,Bd50 p.2)) (h4:∀H',ū (ĉ (tabS ð)))
theorem Wd:ä Ŏ Ŏ MJ:=scm
theorem BZ{prs:Prs}(hg:Ĕ)(hb:∀p∈prs,Bd50 p.2):JoinOk "\n" ((ð).map rowS)=true:=by
 obtain⟨g,g1,g2,g3,g4⟩:=łd;refine Xl (by rw[ZD];exact g2) (λr hr=>?_) λr hr=>?_
 ·obtain⟨p,hp,rfl⟩:=Áb hr;rw[ŝb];exact g4
 ·obtain⟨p,hp,rfl⟩:=Áb hr;exact hb p hp
theorem Cw(D:é "show_table" MJ Ŏ) (G1:ïa) (G2:Ä 1 "show_row" Ïb spSR):Ä 7 "show_table" Ŏ spST:=by
 refine Á Wd
 ·obtain⟨t,prs,rfl,_⟩:=h;rfl
 ·obtain⟨t,prs,rfl,hT,hg,hb,q⟩:=h;have nd1:(Ïb:ù).Nodup:=Â
  have hr1:Ŷc 1:=ż (show 1<=6 by decide);obtain⟨g,g1,g2,g3,g4⟩:=łd;refine ë (ĉc (Y9 (Ĺ G1 hr)) (Ņc MJ (Ĺ G2 hr1)))
  refine Ŏa (VI hg) hg ⟨Z,_,Z,t,Z,Ņ (ĉd s1),V0 (ms:=prs) (λp:Z1×Ċ=>Śb) (λp=>Æd (rowS p.2)) (ĉd s1) Ĭb (Œd ⟨_,Z,p.1,p.2,Z,((ëa s1).same sm).r p hp,ú ŝb g4,hb p hp,λH'' s''=>q' H'' s''⟩) λD2 H2 hD s2 eD=>?_⟩;exact⟨_,D2,(List.map (λp:Z1×Ċ=>p.2) prs).map rowS,Z,Z,by rw[eD];simp only[W7];rfl,BZ hg hb,q H2 Äc⟩
end
open PySem L2 PyProof.Rows
theorem len0:ø 0:=WW _
open PySem L2 PyProof.Rows
noncomputable def rc(i:Nat)(ns:Ċ)(x:Int)(k:Nat):śd Nat:=((Ĵ k).filter λj=>è (Ģa j=x)).map λj=>(i,j)
noncomputable def UD(prs:Prs)(x:Int)(n:Nat):śd Nat:=(Ĵ n).flatMap λi=>rc i Ĝc x (î Ĝc)
theorem NA(i:Nat)(ns:Ċ)(x:Int)(k:Nat):rc i ns x (k+1)=rc i ns x k++(if Ģa k=x then [(i,k)]else []):=by
 unfold rc;rw[List.range_succ,List.filter_append,W2]
 by_cases h:Ģa k=x
 ·rw[ZH h,List.filter_cons,ZS h];rfl
 ·rw[ZE h,List.filter_cons,ZW h];rfl
theorem OP(i:Nat)(ns:Ċ)(x:Int)(k:Nat):î (rc i ns x k)<=k:=by
 unfold rc;rw[ZD];exact WB (X2 _ _) (by rw[List.length_range];omega)
theorem Dm(prs:Prs)(x:Int)(n:Nat):UD prs x (n+1)=UD prs x n++rc n (Y3 prs n) x (î (Y3 prs n)):=by
 unfold UD;rw[List.range_succ,List.flatMap_append];simp
theorem GG:è (Žb i=Žb j)=è (i=j):=by
 rw[XA];constructor
 ·intro h;injection h
 ·rintro rfl;rfl
open PySem L2 PyProof.Rows
noncomputable def Cell(H:Hp)(c:Z1)(i j:Nat):Prop:=H c=Ĥ [Ŧd,Ó j]
section
variable {P:Z3}{w:Z5}{K:ZC}{mg:Ą}{base:Z8}
inductive spAllWholeT(vs:ĝ)(H:Hp)(Q:VK)(z3_:XK):Prop
 |mk (c:Z1) (i j:Nat) (h0:vs=[Ê c]) (h1:Ķc) (h2:∀H',ū Ĩ)
theorem Cp(T:ûa)(D:é "all_whole" Q8 ["things"]) (G1:Īa):čb spAllWholeT:=by
 refine Á AX
 ·obtain⟨c,i,j,rfl,_⟩:=h;rfl
 ·obtain⟨c,i,j,rfl,hC,q⟩:=h;have nd1:(Ę:ù).Nodup:=Â
  refine Ňb (Ē Ę [none] Q8 ["things"] (OM Ü) nd1 (Ĺ G1 hr))
  refine Ća c (sqt hC) (Ot V.int (ms:=[Þ i,Þ j]) (λ_=>Ĩ) (sqt hC) (by show ø 2;decide) (λn _ H' Q' sm q'=>?_) λL H' hL sm hLl=>?_)
  ·exact şc Z n Z Īc
  ·exact ŗd L [true,true] hLl ŀd
inductive spCellSz(vs:ĝ)(H:Hp)(Q:VK)(z3_:XK):Prop
 |mk (c:Z1) (r p i j:Nat) (h0:vs=[Ó r,Ó p,Ê c]) (h1:Ķc) (h2:i<r) (h3:j<p) (h4:∀H',ū Ĩ)
theorem AH:ä Ŗa Ŗa N3:=scm
theorem Jj(T:ûa)(htup:ě "tuple") (D:é "is_cell_of_size" N3 Ŗa) (G:čb spAllWholeT):ĕd spCellSz:=by
 refine Á AH
 ·obtain⟨c,r,p,i,j,rfl,_⟩:=h;rfl
 ·obtain⟨c,r,p,i,j,rfl,hC,hi,hj,q⟩:=h;refine üa
  refine Îd _ (.tup hC) (FW _) (ĭb ⟨_,Z,c,_,Z,Ŀ (sqt hC),Z,_,Z,?_⟩);refine ĭb ⟨_,Z,c,i,j,Z,hC,λH1 s1=>ža (ĭb ?_)⟩;have hC1:Cell H1 c i j:=Ųc hC;refine Ĝb 0 i;rw[ZS (show Þ 0<=ũ i by omega)];refine Ŧb (Ìa ?_);rw[ZS (show Ý i<ũ r by omega)];refine Ŧb (Ĝb 1 j);rw[ZS (show Þ 0<=ũ j by omega)];refine Ŧb ⟨_,Z,_,_,Z,Z,?_⟩;rw[ZS (show Ý j<ũ p by omega)];exact Łd
inductive spIsCell(vs:ĝ)(H:Hp)(Q:VK)(z3_:XK):Prop
 |mk (t c:Z1) (prs:Prs) (i j:Nat) (h0:vs=[Ê t,Ê c]) (h1:ľ) (h2:Ĕ) (h3:Ķc) (h4:Ĵb i) (h5:j<ĺ) (h6:∀H',ū Ĩ)
theorem AI:ä Į Į NK:=scm
theorem Jm(T:ûa)(D:é "is_cell" NK Į) (G:ĕd spCellSz):Ä 4 "is_cell" Į spIsCell:=by
 refine Á AI
 ·obtain⟨t,c,prs,i,j,rfl,_⟩:=h;rfl
 ·obtain⟨t,c,prs,i,j,rfl,hT,hg,hC,hi,hj,q⟩:=h;obtain⟨g,g1,g2,g3,g4⟩:=łd;obtain⟨p0,hp0,hm0,hx0⟩:=X0 (prs:=prs) g1;refine Ňb (pe_f G hr (ZF Ïd (ýa Ŷb 1)));exact⟨_,Z,t,_,Z,Ė hT.sq,_,Z,t,_,0,Ê p0.1,Z,Z,hT.sq,UM (j:=0) (by rw[ZX,hx0];rfl),p0.1,_,Z,ļd,_,Z,c,prs.length,ĺ,i,j,by rw[ZD,ZD,g.len p0 hm0],hC,hi,hj,q⟩
inductive spNeedCell(vs:ĝ)(H:Hp)(Q:VK)(z3_:XK):Prop
 |mk (t c:Z1) (prs:Prs) (i j:Nat) (h0:vs=[Ê t,Ê c]) (h1:ľ) (h2:Ĕ) (h3:Ķc) (h4:Ĵb i) (h5:j<ĺ) (h6:∀H',ū .non)
theorem AY:ä Į Į NQ:=scm
theorem Du(D:é "need_cell" NQ Į) (G:Ä 4 "is_cell" Į spIsCell):Ä 5 "need_cell" Į spNeedCell:=by
 refine Á AY
 ·obtain⟨t,c,prs,i,j,rfl,_⟩:=h;rfl
 ·obtain⟨t,c,prs,i,j,rfl,hT,hg,hC,hi,hj,q⟩:=h;refine āc (ŭ G ųd) WG;exact⟨_,Z,_,Z,t,c,prs,i,j,Z,hT,hg,hC,hi,hj,λH' sm=>ža (ĭb ŀd)⟩
end
open PySem L2 PyProof.Rows
noncomputable abbrev Cs:=ċ Z1 Ġc
noncomputable def UG(c:Z1×Ġc):V:=Ê c.1
noncomputable def YC(H:Hp)(c:Z1×Ġc):Prop:=H c.1=Ĥ [Ó c.2.1,Ó c.2.2]
section
variable {P:Z3}{w:Z5}{K:ZC}{mg:Ą}{base:Z8}
inductive spCells(vs:ĝ)(H:Hp)(Q:VK)(z3_:XK):Prop
 |mk (t:Z1) (prs:Prs) (x:Int) (h0:vs=[Ê t,ô x]) (h1:ľ) (h2:Ĕ) (h3:∀L (cs:Cs) H',ē L->Ŀd->H' L=Ù (Õc UG)->(∀c∈cs,YC H' c/\ē c.1)->Õc (·.2)=Ëb->cs.length<=36->Ŕ L H')
theorem sc_cells:ä ["table","x","cells","row","numbers"] ž OU:=scm
theorem Mj(T:ûa)(D:é "cells_of" OU ž) (G1:ïa) (G2:Ţa):Ä 7 "cells_of" ž spCells:=by
 refine Á sc_cells
 ·obtain⟨t,prs,x,rfl,_⟩:=h;rfl
 ·obtain⟨t,prs,x,rfl,hT,hg,q⟩:=h;obtain⟨g,g1,g2,g3,g4⟩:=łd;have hs:=VI hg;have nd:=sc_cells.nd;have nd1:(["place","number","row","x"]:ù).Nodup:=Â
  refine ľb (Ĺ G1 hr) 1 (Ħ (Ćd 2) (ŷ (N8 rfl T.enum Ş) (P0 rfl (XO (YQ (i:=3) nd rfl äb) (XO (YQ (i:=4) nd rfl Ô) P9))) Ķa (Ì ["place","number","row","x"] [none,none,Ã 3,Ã 1] OU ["table","x","cells","row","numbers"] (N8 rfl T.enum (ß 4)) (LD K rfl nd1) (X5 (pcm WH ó Żc)) (US (â 2 Ü)))) (Ġ Ķa))
  refine Ŏa hs hg (Ğc x len0 Ĵd);have L0:ē L:=ğd hL;have s2:Ĝa H H1 L []:=Ľ (snw hL);refine Ća t (ĉd s2) (CB (K:=K) (a:=t) (xs:=Ų Śb) (λi σ H2=>∃(cs:Cs) (o3 o4:Z9 V),σ = [Ú t,ļ x,Ú L,o3,o4]/\ńa H2/\H2 L=Ù (Õc UG) /\ (∀c∈cs,YC H2 c/\ē c.1)/\Õc (·.2)=UD prs x i/\cs.length<=6*i) ⟨[],none,none,Z,s2,ZI,èd (nomatch hc),Z,Í⟩ (λi σ H2 _ ⟨_,_,_,_,sm,_⟩=>ĉd sm) ?_ ?_)
  ·rintro i y σ H2 T1 hi ⟨cs,o3,o4,rfl,sm,hLl,hcs,hcm,hcl⟩ hT1;have hil:Ĵb i:=by
    have:=Ăb hi;rw[ZD]at this;exact this
   obtain⟨p,hp1,hp2,hp3⟩:=T7 hil;rw[ZX,hp2]at hi;have hy:Śb=y:=WC hi;subst hy;have hpl:=g.len p hp1;have smT:ıb H2 T1 ęe:=snw hT1;have eT:(Ě H2 T1 ęe) T1=Ĥ ęe:=ZI;generalize Ě H2 T1 ęe=H3 at smT eT ⊢;refine Ąa T1 eT;have sm3:=Şa smT;have hR3:=(ëa sm3).r p hp1;have hL3:=smT _ _ hLl;refine⟨_,Z,õb hL3,_,Z,p.1,Z,Ņ hR3.sq,?_⟩;refine BO (xs:=p.2.map V.int) (λD2 k ys H'=>∃qs:Cs,ç H3/\H' D2=Ù ys/\ys=Õb UG/\(∀c∈qs,YC H' c/\H3 c.1=none/\c.1≠D2)/\Õb (·.2)=rc i p.2 x k) (λD2 hD2=>⟨[],snw hD2,ZI,Z,èd (nomatch hc),Z⟩) (λD2 k ys H' _ _ ⟨_,sm',e,_⟩=>ã e (hR3.same sm').sq) ?_ ?_
   ·rintro D2 k z ys H' T2 hD2 hz ⟨qs,sm',eD,hys,hqs,hqm⟩ hT2;have hkl:k<p.2.length:=by
     have:=Ăb hz;rw[ZD]at this;exact this
    have ez:z=ô (p.2.getD k 0):=by
     rw[ZX,WA hkl]at hz;rw[WY,WA hkl];exact(WC hz).symm
    subst ez;have smT2:ıb H' T2 [Ó k,ô (p.2.getD k 0)]:=snw hT2;generalize Ě H' T2 [Ó k,ô (p.2.getD k 0)]=H4 at smT2 ⊢;have ql:qs.length<=k:=by
     have:=õ hqm;rw[ZD]at this;rw[this];exact OP _ _ _ _
    refine Řc _ Z _ Z ?_;rw[GG]
    by_cases hx:p.2.getD k 0=x
    ·rw[ZS hx];refine Ŧb (Ğc _ len2 (λT3 hT3=>?_));have nT3:D2≠T3:=WX (smT2 _ _ eD) hT3;have s3T:ıb H4 T3 [Ŧd,Ó k]:=snw hT3;refine⟨s3T _ _ (smT2 _ _ eD),?_,qs++[(T3,i,k)],((sm'.trans smT2).trans s3T).upd hD2,ZI,?_,èd ?_,?_⟩
     ·rw[hys,ZD];exact UB À
     ·rw[hys,W2];rfl
     ·rcases ũd hc with z | z
      ·obtain⟨z1,z2,z3⟩:=hqs c z;refine ő ?_ z2 z3;unfold YC;rw[ZP z3];exact s3T _ _ (smT2 _ _ z1)
      ·have:c=(T3,i,k):=by simpa using z
       subst this;refine ő ?_ ((sm'.trans smT2).free hT3) (ĥ nT3);unfold YC;rw[ZP (ĥ nT3)];exact ZI
     ·rw[W2,hqm,NA,ZH hx];rfl
    ·rw[ZW hx];refine ĭb ⟨qs,sm'.trans smT2,smT2 _ _ eD,hys,èd ?_,?_⟩
     ·obtain⟨z1,z2,z3⟩:=hqs c hc;exact ő (smT2 _ _ z1) z2 z3
     ·rw[hqm,NA,ZE hx,List.append_nil]
   ·rintro D2 ys H' hD2 ⟨qs,sm',eD,hys,hqs,hqm⟩;rw[ZD]at hqm;have ql:qs.length<=p.2.length:=by
     have:=õ hqm;rw[ZD]at this;rw[this];exact OP _ _ _ _
    have hL4:=sm' _ _ hL3;refine Öe
    ·rw[ZD,hys,ZD];exact Ĭb
    ·refine⟨cs++qs,_,_,Z,(sm3.trans sm').upd L0,?_,èd ?_,?_,?_⟩
     ·rw[ZI,hys,W2]
     ·have nL:∀c:Z1×Ġc,YC H' c->c.1≠L:=λc h=>XY h hL4 (by intro z;cases z);rcases ũd hc with z | z
      ·obtain⟨z1,z2⟩:=hcs c z;have z3:YC H' c:=sm' _ _ (smT _ _ z1);refine ã ?_ z2;unfold YC;rw[ZP (nL c z3)];exact z3
      ·obtain⟨z1,z2,z3⟩:=hqs c z;refine ã ?_ (sm3.free z2);unfold YC;rw[ZP (nL c z1)];exact z1
     ·rw[W2,hcm,hqm,Dm,hp3]
     ·rw[WK];omega
  ·rintro σ H2 ⟨cs,o3,o4,rfl,sm,hLl,hcs,hcm,hcl⟩;rw[ZD]at hcm hcl;exact ža (q L cs H2 L0 sm hLl hcs hcm À)
end
open PySem L2 PyProof.Rows
noncomputable def lessN(x:Int)(ns:Ċ):Nat:=î (ns.filter λn=>è (n<x))
open PySem L2 PyProof.Rows
section
variable {P:Z3}{w:Z5}{K:ZC}{mg:Ą}{base:Z8}
inductive spLess(vs:ĝ)(H:Hp)(Q:VK)(z3_:XK):Prop
 |mk (a:Z1) (ns:Ċ) (x:Int) (h0:vs=[œ,ô x]) (h1:Üe) (h2:ns.length<=1000) (h3:∀H',ū (Ó (lessN x ns)))
theorem Qe:ä Ėe Ėe O5:=scm
theorem Sq(T:ûa)(D:é "how_many_less" O5 Ėe):Ä 1 "how_many_less" Ėe spLess:=by
 refine Á Qe
 ·obtain⟨a,ns,x,rfl,_⟩:=h;rfl
 ·obtain⟨a,ns,x,rfl,hR,hn,q⟩:=h;have nd1:(["number","x"]:ù).Nodup:=Â
  refine Ňb (pln T (ēd "number" 1 O5 Ėe Ü GO))
  refine Ća a hR.sq (Q7 V.int (λn=>è (n<x)) V.int hR.sq (sl6 hn) (λn hx H' Q' sm q'=>?_) (λn hx _ H' Q' sm q'=>?_) λD H' hD sm hDl=>?_)
  ·exact Űc Z _ _ Z _ Z Īc
  ·exact ža Īc
  ·refine⟨D,_,Z,Ė (sqo hDl),?_⟩;rw[ZD];exact ŀd
inductive spStair(f:Int->Ċ->Nat)(vs:ĝ)(H:Hp)(Q:VK)(z3_:XK):Prop
 |mk (t:Z1) (prs:Prs) (x:Int) (h0:vs=[Ê t,ô x]) (h1:ľ) (h2:Sm prs) (h3:Ĕ) (h4:∀D H',ē D->Ŀd->Row H' D (Ų (Þ (f x p.2)))->Ŕ D H')
theorem Ku:ä ž ž OV:=scm
theorem Lb(D:é "stair_of" OV ž) (G1:ïa) (G2:Ţa) (G3:Ä 1 "how_many_less" Ėe spLess) :
  Ä 7 "stair_of" ž (spStair lessN):=by
 refine Á Ku
 ·obtain⟨t,prs,x,rfl,_⟩:=h;rfl
 ·obtain⟨t,prs,x,rfl,hT,hs,hg,q⟩:=h;have nd1:(Ėe:ù).Nodup:=Â
  refine ľb (Ĺ G1 hr) 1 (Ġ (Ì Ėe [none,Ã 1] OV ž (Y7 Ü) ň Y0 (Ýa G3 Ĩd Ü 1)))
  refine Ŏa hs hg (şc Z x Z ?_);have hT1:=ëa s1;refine Ća t hT1.sq (ÿa (Ó Ãb) hT1.sq hs.1)
  ·exact Űc Z p.1 p.2 x ((hT1.r p hp).same sm) (hs.2 p hp) q'
  ·refine q D H' (ğd hD) (Ľ sm) ?_;unfold Row;rw[hDl,W7];rfl
end
open PySem L2 PyProof.Rows
noncomputable def WJ(prs:Prs):Ċ:=(ð).flatten
theorem IP(p:Z1×Ċ)(r:Prs):WJ (p::r)=p.2++WJ r:=rfl
theorem AM(x:Int):∀prs:Prs,(Ų (Þ Ãb)).sum=ũ (lessN x Ůa)
 | []=>rfl
 |p::r=>by
  rw[Y8,List.sum_cons,AM x r,IP];unfold lessN;rw[List.filter_append,WK];omega
open PySem L2 PyProof.Rows
noncomputable def entR(i:Nat)(ns:Ċ)(k:Nat):Æ Ċ:=(Ĵ k).map λj=>[Ģa j,Þ i,Þ j]
noncomputable def VA(prs:Prs):Nat->Æ Ċ
 | 0=>[]
 |i+1=>VA prs i++entR i Ĝc (î Ĝc)
theorem Lx(i:Nat)(ns:Ċ)(k:Nat):entR i ns (k+1)=entR i ns k++[[Ģa k,Þ i,Ùe]]:=by
 unfold entR;rw[List.range_succ,W2];rfl
theorem BE(i:Nat)(ns:Ċ)(k:Nat):î (entR i ns k)=k:=by
 unfold entR;rw[ZD,List.length_range]
theorem PY:∀{i:Nat},e∈VA prs i->∃n r p:Int,e=[n,r,p]
 | 0,h=>nomatch h
 |i+1,h=>by
  rcases ũd h with z | z
  ·exact PY z
  ·obtain⟨j,_,rfl⟩:=Áb z;exact⟨_,_,_,Z⟩
noncomputable def hdI(e:Ċ):Int:=e.getD 0 0
theorem Fg:∀ns:Ċ,(Ĵ ns.length).map (λj=>Ģa j)=ns:=λns=>by
 apply List.ext_getElem Í;intro i h1 h2;simp[h2]
theorem Da(i:Nat)(ns:Ċ):(entR i ns ns.length).map hdI=ns:=by
 unfold entR;rw[W7];exact Fg ns
theorem Zp(prs:Prs):∀i,i<=prs.length->(VA prs i).map hdI=WJ (prs.take i)
 | 0,_=>by simp[VA,WJ]
 |i+1,h=>by
  have ih:=Zp prs i À;show(VA prs i++_).map hdI=_;rw[W2,ih,Da];unfold WJ Y3;rw[List.take_add_one,WA À,W2,List.flatten_append];simp
theorem Cj(prs:Prs):(VA prs prs.length).map hdI=Ůa:=by
 rw[Zp prs _ ħ,List.take_length]
theorem Jw(he:∃n r p:Int,e=[n,r,p])(hf:∃n r p:Int,f=[n,r,p])(h:āe f e=false):hdI e<=hdI f:=by
 obtain⟨n,r,p,rfl⟩:=he;obtain⟨m,r',p',rfl⟩:=hf;rw[HT.lexLt_cons]at h;show n<=m
 by_cases z:m=n
 ·omega
 ·rw[ZE z]at h;have:=of_decide_eq_false h;omega
structure Sorted(prs:Prs)(fs:Æ Ċ):Prop where
 pm:fs.Perm (VA prs prs.length)
 up:fs.Pairwise (λr q=>āe q r=false)
theorem Sorted.heads(h:Sorted prs fs):(fs.map hdI).Perm Ůa/\(fs.map hdI).Pairwise (·<=·):=by
 refine ųb ?_
 ·rw[<- Cj];exact h.pm.map hdI
 ·rw[List.pairwise_map];refine List.Pairwise.imp_of_mem (λ{a b} ha hb z=>?_) h.up;exact Jw (PY (h.pm.subset ha)) (PY (h.pm.subset hb)) z
theorem Ze(h:Õb (·.2)=ð):∀i,VA qs i=VA prs i
 | 0=>rfl
 |i+1=>by
  have e:Y3 qs i=Ĝc:=by
   unfold Y3;rw[<- ZX,<- ZX,h]
  show VA qs i++_=VA prs i++_;rw[Ze h i,e]
theorem Sorted.rows(h:Õb (·.2)=ð)(s:Sorted qs fs):Sorted prs fs:=by
 have hl:qs.length=prs.length:=by
  have:=õ h;simpa using this
 refine ã ?_ s.up;have:=s.pm;rw[Ze h,hl]at this;exact this
theorem BT(h:∀p∈prs,p.2.length=wide):î Ůa=prs.length*wide:=by
 induction prs with
 |nil=>simp[WJ]
 |cons p r ih =>
  rw[IP,WK,h p Í,ih λq hq=>h q (by simp[hq]),YL,Nat.add_mul,Nat.one_mul,Nat.add_comm]
theorem Sorted.len{prs:Prs}{fs:Æ Ċ}(s:Sorted prs fs):fs.length=î Ůa:=by
 have:=s.heads.1.length_eq;rw[ZD]at this;exact this
open PySem L2 PyProof.Rows
noncomputable abbrev Es:=ċ Z1 Ċ
noncomputable def XC(H:Hp)(e:Z1×Ċ):Prop:=H e.1=Ĥ (e.2.map V.int)
open PySem L2 PyProof.Rows
section
variable {P:Z3}{w:Z5}{K:ZC}{mg:Ą}{base:Z8}
inductive spMany(vs:ĝ)(H:Hp)(Q:VK)(z3_:XK):Prop
 |mk (t:Z1) (prs:Prs) (h0:vs=[Ê t]) (h1:ľ) (h2:Ĕ) (h3:Ðc (Þ prs.length*Þ ĺ))
theorem Qf:ä Ŏ Ŏ L5:=scm
theorem Ss(T:ûa)(D:é "how_many_cells" L5 Ŏ):Ýe:=by
 refine Á Qf
 ·obtain⟨t,prs,rfl,_⟩:=h;rfl
 ·obtain⟨t,prs,rfl,hT,hg,q⟩:=h;obtain⟨g,g1,g2,g3,g4⟩:=łd;obtain⟨p0,hp0,hm0,hx0⟩:=X0 (prs:=prs) g1;refine Ňb (ZN V5 Ïd Ŷb);refine⟨_,Z,t,_,Z,Ė hT.sq,_,Z,t,_,0,Ê p0.1,Z,Z,hT.sq,UM (j:=0) (by rw[ZX,hx0];rfl),p0.1,_,Z,ļd,_,_,Z,Z,ìb À (by rw[ZD];omega),?_⟩;rw[ZD,ZD,g.len p0 hm0];exact q
inductive spMerged(vs:ĝ)(H:Hp)(Q:VK)(z3_:XK):Prop
 |mk (t:Z1) (prs:Prs) (h0:vs=[Ê t]) (h1:ľ) (h2:Ĕ) (h3:∀L (es:Es) H',ē L->Ŀd->H' L=Ù (es.map λe=>Ŷ e.1)->(∀e∈es,XC H' e/\ē e.1)->Sorted prs (es.map (·.2))->Ŕ L H')
theorem sc_merged:ä ["table","entries","row","numbers"] Ŏ NN:=scm
theorem Jr(T:ûa)(hso:ěb) (D:é "merged" NN Ŏ) (G1:ïa):Ä 7 "merged" Ŏ spMerged:=by
 refine Á sc_merged
 ·obtain⟨t,prs,rfl,_⟩:=h;rfl
 ·obtain⟨t,prs,rfl,hT,hg,q⟩:=h;obtain⟨g,g1,g2,g3,g4⟩:=łd;have hs:=VI hg;have nd:=sc_merged.nd;have nd1:(["place","number","row"]:ù).Nodup:=Â
  refine ĉb (Y9 (Ĺ G1 hr)) (Ćd 1) (ĉc (ŷ (N8 rfl T.enum Ş) (P0 rfl (XO (YQ (i:=2) nd rfl äb) (XO (YQ (i:=3) nd rfl Ô) P9))) ó (Ì ["place","number","row"] [none,none,Ã 2] NN ["table","entries","row","numbers"] (N8 rfl T.enum (ß 3)) (LD K rfl nd1) Y0 (US (ZF ó (â 2 Ü))))) (ßb (Dk hr.units) éc))
  refine Ŏa hs hg (ã len0 Ĵd);have L0:ē L:=ğd hL;have s2:Ĝa H H1 L []:=Ľ (snw hL);refine Ća t (ĉd s2) (CB (K:=K) (a:=t) (xs:=Ų Śb) (λi σ H2=>∃(cs:Es) (o2 o3:Z9 V),σ = [Ú t,Ú L,o2,o3]/\ńa H2/\H2 L=Ù (Õc (λe=>Ŷ e.1)) /\ (∀c∈cs,XC H2 c/\ē c.1)/\Õc (·.2)=VA prs i/\cs.length<=6*i) ⟨[],none,none,Z,s2,ZI,èd (nomatch hc),Z,Í⟩ (λi σ H2 _ ⟨_,_,_,_,sm,_⟩=>ĉd sm) ?_ ?_)
  ·rintro i y σ H2 T1 hi ⟨cs,o2,o3,rfl,sm,hLl,hcs,hcm,hcl⟩ hT1;have hil:Ĵb i:=by
    have:=Ăb hi;rw[ZD]at this;exact this
   obtain⟨p,hp1,hp2,hp3⟩:=T7 hil;rw[ZX,hp2]at hi;have hy:Śb=y:=WC hi;subst hy;have hpl:=g.len p hp1;have smT:ıb H2 T1 ęe:=snw hT1;have eT:(Ě H2 T1 ęe) T1=Ĥ ęe:=ZI;generalize Ě H2 T1 ęe=H3 at smT eT ⊢;refine Ąa T1 eT;have sm3:=Şa smT;have hR3:=(ëa sm3).r p hp1;have hL3:=smT _ _ hLl;refine⟨_,Z,õb hL3,_,Z,p.1,Z,Ņ hR3.sq,?_⟩;refine BO (xs:=p.2.map V.int) (λD2 k ys H'=>∃qs:Es,ç H3/\H' D2=Ù ys/\ys=(Õb (λe=>Ŷ e.1))/\(∀c∈qs,XC H' c/\H3 c.1=none/\c.1≠D2)/\Õb (·.2)=entR i p.2 k) (λD2 hD2=>⟨[],snw hD2,ZI,Z,èd (nomatch hc),Z⟩) (λD2 k ys H' _ _ ⟨_,sm',e,_⟩=>ã e (hR3.same sm').sq) ?_ ?_
   ·rintro D2 k z ys H' T2 hD2 hz ⟨qs,sm',eD,hys,hqs,hqm⟩ hT2;have hkl:k<p.2.length:=by
     have:=Ăb hz;rw[ZD]at this;exact this
    have ez:z=ô (p.2.getD k 0):=by
     rw[ZX,WA hkl]at hz;rw[WY,WA hkl];exact(WC hz).symm
    subst ez;have smT2:ıb H' T2 [Ó k,ô (p.2.getD k 0)]:=snw hT2;generalize Ě H' T2 [Ó k,ô (p.2.getD k 0)]=H4 at smT2 ⊢;have ql:qs.length=k:=by
     have:=õ hqm;rw[ZD,BE]at this;exact this
    unfold YN;refine Ŧb ⟨_,Z,_,Z,_,Z,len3,λT3 hT3=>?_⟩;have nT3:D2≠T3:=WX (smT2 _ _ eD) hT3;have s3T:ıb H4 T3 [ô (p.2.getD k 0),Ŧd,Ó k]:=snw hT3;refine⟨s3T _ _ (smT2 _ _ eD),?_,qs++[(T3,[p.2.getD k 0,Þ i,Ùe])],((sm'.trans smT2).trans s3T).upd hD2,ZI,?_,èd ?_,?_⟩
    ·rw[hys,ZD];exact UB À
    ·rw[hys,W2];rfl
    ·rcases ũd hc with z | z
     ·obtain⟨z1,z2,z3⟩:=hqs c z;refine ő ?_ z2 z3;unfold XC;rw[ZP z3];exact s3T _ _ (smT2 _ _ z1)
     ·have:c=(T3,[p.2.getD k 0,Þ i,Ùe]):=by simpa using z
      subst this;refine ő ?_ ((sm'.trans smT2).free hT3) (ĥ nT3);unfold XC;rw[ZP (ĥ nT3)];exact ZI
    ·rw[W2,hqm,Lx];rfl
   ·rintro D2 ys H' hD2 ⟨qs,sm',eD,hys,hqs,hqm⟩;rw[ZD]at hqm;have ql:qs.length=p.2.length:=by
     have:=õ hqm;rw[ZD,BE]at this;exact this
    have hL4:=sm' _ _ hL3;refine Öe
    ·rw[ZD,hys,ZD];exact Ĭb
    ·refine⟨cs++qs,_,_,Z,(sm3.trans sm').upd L0,?_,èd ?_,?_,?_⟩
     ·rw[ZI,hys,W2]
     ·have nL:∀c:Z1×Ċ,XC H' c->c.1≠L:=λc h=>XY h hL4 (by intro z;cases z);rcases ũd hc with z | z
      ·obtain⟨z1,z2⟩:=hcs c z;have z3:XC H' c:=sm' _ _ (smT _ _ z1);refine ã ?_ z2;unfold XC;rw[ZP (nL c z3)];exact z3
      ·obtain⟨z1,z2,z3⟩:=hqs c z;refine ã ?_ (sm3.free z2);unfold XC;rw[ZP (nL c z1)];exact z1
     ·rw[W2,hcm,hqm];show _=VA prs i++_;rw[hp3]
     ·rw[WK];omega
  ·rintro σ H2 ⟨cs,o2,o3,rfl,sm,hLl,hcs,hcm,hcl⟩;rw[ZD]at hcm hcl;refine⟨_,Z,L,cs,Z,sqo hLl,À,èd (ųb (sqt (hcs c hc).1)),λD rs' hD hpm hup=>?_⟩
   ·have:c.2∈VA prs prs.length:=by
     rw[<- hcm];exact Ń c hc
    obtain⟨n,r,p,e⟩:=PY this;rw[e];exact Nat.succ_pos _
   ·refine q D rs' _ (sm.free hD) (Şa (snw hD)) ZI (λe he=>?_) (ųb ?_)
    ·obtain⟨z1,z2⟩:=hcs e (hpm.subset he);exact ã ((snw hD) _ _ z1) z2
    ·rw[<- hcm];exact hpm.map _
    ·rw[List.pairwise_map];exact hup
inductive spNeedPlace(vs:ĝ)(H:Hp)(Q:VK)(z3_:XK):Prop
 |mk (t:Z1) (prs:Prs) (k:Nat) (h0:vs=[Ê t,Ó k]) (h1:ľ) (h2:Ĕ) (h3:k<Ĳa) (h4:Q .non H)
theorem Zq:ä Į Į MH:=scm
theorem Cu(D:é "need_place" MH Į) (G1:Īa) (G2:Ýe):Ä 2 "need_place" Į spNeedPlace:=by
 refine Á Zq
 ·obtain⟨t,prs,k,rfl,_⟩:=h;rfl
 ·obtain⟨t,prs,k,rfl,hT,hg,hk,q⟩:=h;refine āc (řb (ŭ G1 éc) (WO (PV o_le o_lt ZB ó (Ĺ G2 hr)))) WG;refine Ŀb Z _ (ĭb (Ìa ?_));rw[ZS (show Þ 0<=ũ k by omega)];refine Ŧb ⟨_,Z,t,prs,Z,hT,hg,_,_,Z,Z,_,Z,?_⟩;rw[ZS (show Ý k<Þ prs.length*Þ ĺ by rw[<- Int.natCast_mul];omega)];exact ĭb q
inductive spNumberBy(vs:ĝ)(H:Hp)(Q:VK)(z3_:XK):Prop
 |mk (t:Z1) (prs:Prs) (k:Nat) (h0:vs=[Ê t,Ó k]) (h1:ľ) (h2:Ĕ) (h3:k<Ĳa) (h4:∀fs H',Ŀd->Sorted prs fs->Q (ô (hdI (fs.getD k []))) H')
theorem AZ:ä ["table","k"] ["table","k"] NR:=scm
theorem Dw(D:é "number_by" NR ["table","k"]) (G1:ïa) (G2:Ä 2 "need_place" Į spNeedPlace) (G3:Ä 7 "merged" Ŏ spMerged):Ä 8 "number_by" ["table","k"] spNumberBy:=by
 refine Á AZ
 ·obtain⟨t,prs,k,rfl,_⟩:=h;rfl
 ·obtain⟨t,prs,k,rfl,hT,hg,hk,q⟩:=h;obtain⟨g,g1,g2,g3,g4⟩:=łd;refine ĉb (Y9 (Ĺ G1 Ĩd)) (Y9 (Ýa G2 Ĩd Ü 1)) (Ġ (pix VF (Èe (Ĺ G3 hr) ó) ZB))
  refine Ŏa (VI hg) hg ⟨_,Z,_,Z,t,prs,k,Z,ëa s1,hg,hk,?_⟩;refine Řc t prs (ëa s1) hg (λL es H2 hL s2 hLl hes hso=>?_);have hl:es.length=Ĳa:=by
   have:=hso.len;rw[ZD,BT g.len]at this;exact this
  have hk2:k<es.length:=À
  have he:=(hes es[k] (YE hk2)).1;obtain⟨n,r,p,e3⟩:∃n r p:Int,es[k].2=[n,r,p]:=PY (hso.pm.subset (Ń (es[k]) (YE hk2)));unfold XC at he;rw[e3]at he;refine⟨_,Z,L,_,_,Ê es[k].1,Z,Z,sqo hLl,UM (by simp[hk2]),es[k].1,_,0,ô n,Z,Z,sqt he,Z,?_⟩;have:=q (es.map (·.2)) H2 Äc hso;have e4:hdI ((es.map (·.2)).getD k [])=n:=by
   rw[WY,ZX,WA hk2];show hdI es[k].2=n;rw[e3];rfl
  rw[e4]at this;exact this
end
open PySem L2 PyProof.Rows
section
variable {P:Z3}{w:Z5}{K:ZC}{mg:Ą}{base:Z8}
inductive spCount(f:Int->Ċ->Nat)(vs:ĝ)(H:Hp)(Q:VK)(z3_:XK):Prop
 |mk (t:Z1) (prs:Prs) (x:Int) (h0:vs=[Ê t,ô x]) (h1:ľ) (h2:Ĕ) (h3:∀H',ū (Ó (f x Ůa)))
theorem Mb:ä ž ž LP:=scm
theorem Ml(hs:ě "sum") (D:é "count_less" LP ž) (G:Ä 7 "stair_of" ž (spStair lessN)):Ä 8 "count_less" ž (spCount lessN):=by
 refine Á Mb
 ·obtain⟨t,prs,x,rfl,_⟩:=h;rfl
 ·obtain⟨t,prs,x,rfl,hT,hg,q⟩:=h;refine Ňb (pe_b (NZ rfl) hs boot_sum (pa1 (Ýa G hr Ü 1)));refine⟨_,Z,_,Z,t,prs,x,Z,hT,VI hg,hg,λD H' hD sm hR=>⟨D,_,Z,hR.sq,?_⟩⟩;rw[AM];exact ŀd
end
open PySem L2 PyProof.Rows
noncomputable def valN(prs:Prs)(i j:Nat):Int:=(Ĝc).getD j 0
noncomputable def UQ(prs:Prs)(x:Int):Nat->Nat->Nat->śd Nat
 | 0,_,_=>[]
 |f+1,r,p=>if Ĵb r/\0<p then(r,p-1)::(if valN prs r (p-1)=x then []else if x<valN prs r (p-1)then UQ prs x f r (p-1)else UQ prs x f (r+1) p)else []
noncomputable def UA(prs:Prs)(x:Int):śd Nat:=UQ prs x (prs.length+ĺ) 0 ĺ
theorem J2(prs:Prs)(x:Int):∀f r p,∀c∈UQ prs x f r p,Ĵb c.1/\c.2<p
 | 0,_,_,c,h=>nomatch h
 |f+1,r,p,c,h=>by
  unfold UQ at h;split at h
  ·rename_i hi
   rcases ĳd h with rfl | h
   ·exact ã hi.1 (by show p-1<p;omega)
   ·split at h
    ·nomatch h
    ·split at h
     ·have:=J2 prs x f r (p-1) c h;omega
     ·exact J2 prs x f (r+1) p c h
  ·nomatch h
theorem MO(prs:Prs)(x:Int):∀f r p,î (UQ prs x f r p)<=f
 | 0,_,_=>ħ
 |f+1,r,p=>by
  unfold UQ;have h1:=MO prs x f r (p-1);have h2:=MO prs x f (r+1) p;split
  ·rw[YL];split
   ·simp
   ·split<;>omega
  ·simp
theorem Zh(h:Õb (·.2)=ð)(i:Nat):Y3 qs i=Ĝc:=by
 unfold Y3;rw[<- ZX,<- ZX,h]
theorem SV{prs qs:Prs}(h:Õb (·.2)=ð):qs.length=prs.length:=by
 have:=õ h;simpa using this
theorem PF(h:Õb (·.2)=ð):w0 qs=ĺ:=by
 have:=ęb (λl:Æ Ċ=>(l.head?.map List.length).getD 0) h;simp only[List.head?_map,Option.map_map]at this;exact this
theorem IG{prs qs:Prs}(h:Õb (·.2)=ð)(x:Int):∀f r p,UQ qs x f r p=UQ prs x f r p
 | 0,_,_=>rfl
 |f+1,r,p=>by
  unfold UQ valN;rw[SV h,Zh h,IG h x f,IG h x f]
theorem Fw{prs qs:Prs}(h:Õb (·.2)=ð)(x:Int):UA qs x=Ůb:=by
 unfold UA;rw[SV h,PF h,IG h]
theorem Zj(h1:Ĵb r)(h2:0<p):UQ prs x (f+1) r p=(r,p-1)::(if valN prs r (p-1)=x then []else if x<valN prs r (p-1)then UQ prs x f r (p-1)else UQ prs x f (r+1) p):=by
 show(if _ then _ else _)=_;rw[ZH (ã h1 h2)]
theorem Zk(h:¬(Ĵb r/\0<p)):UQ prs x f r p=[]:=by
 cases f with
 |zero=>rfl
 |succ f =>
  show(if _ then _ else _)=_;rw[ZE h]
open PySem L2 PyProof.Rows
theorem DK(h:YC H c)(hL:H L=Ù xs):c.1≠L:=XY h hL (by intro z;cases z)
section
variable {P:Z3}{w:Z5}{K:ZC}{mg:Ą}{base:Z8}
inductive spWalk(vs:ĝ)(H:Hp)(Q:VK)(z3_:XK):Prop
 |mk (t:Z1) (prs:Prs) (x:Int) (h0:vs=[Ê t,ô x]) (h1:ľ) (h2:Ĕ) (h3:∀L (cs:Cs) H',ē L->Ŀd->H' L=Ù (Õc UG)->(∀c∈cs,YC H' c/\ē c.1)->Õc (·.2)=Ůb->Ŕ L H')
theorem sc_walk:ä ["table","x","looked_at","row","place","number"] ž L7:=scm
theorem Oe(T:ûa)(D:é "walk_for" L7 ž) (G1:ïa) (G2:Ţa):Ä 7 "walk_for" ž spWalk:=by
 refine Á sc_walk
 ·obtain⟨t,prs,x,rfl,_⟩:=h;rfl
 ·obtain⟨t,prs,x,rfl,hT,hg,q⟩:=h;obtain⟨g,g1,g2,g3,g4⟩:=łd;obtain⟨p0,hp0,hm0,hx0⟩:=X0 (prs:=prs) g1;have nd:=sc_walk.nd;refine ľb (Ĺ G1 hr) 1 (Ħ (Ćd 2) (È 3 ZB) (Ħ (È 4 (ZN RL Ŷb ZB)) (ğb Żc 4 Ķa (È 5 (Èe (Èe Ü Żc) ŕc)) (ZG (ša WH ó (pv 5) (ZL No)) (ZL (ZZ (pcm o_lt ó (pv 5)) (ZL (LZ (i:=4) nd rfl Ô ZB Vg)) (ZL (LZ (i:=3) nd rfl Ô ZB Vf)))))) (Ġ Ķa)))
  refine Ŏa (VI hg) hg (Ğc x len0 Ĵd);have L0:ē L:=ğd hL;have s2:Ĝa H H1 L []:=Ľ (snw hL);have e2:(Ŗc L) L=Ù []:=ZI;generalize Ŗc L=H2 at s2 e2 ⊢;have hT2:=ëa s2;refine⟨_,Z,t,_,0,Ê p0.1,Z,Z,hT2.sq,UM (j:=0) (by rw[ZX,hx0];rfl),p0.1,_,Z,Ė (hT2.r p0 hm0).sq,_,_,Z,Z,?_⟩;rw[ZD,g.len p0 hm0];refine ő (λm σ H3=>∃(r p:Nat) (rr qq:Int) (cs:Cs) (o5:Z9 V),m=(prs.length-r)+p/\r<=prs.length/\p<=ĺ/\rr=ũ r/\qq=ũ p-1/\σ = [Ú t,ļ x,Ú L,ļ rr,ļ qq,o5]/\ńa H3/\H3 L=Ù (Õc UG) /\ (∀c∈cs,YC H3 c/\ē c.1)/\Õc (·.2)++UQ prs x m r p=Ůb/\cs.length+m<=12) ⟨_,0,ĺ,0,_,[],none,Z,À,À,Z,Z,Z,s2,e2,èd (nomatch hc),Z,by simp;omega⟩ ?_
  rintro m σ H3 ⟨r,p,rr,qq,cs,o5,hm,hr1,hp1,hrr,hqq,rfl,sm,hLl,hcs,hcw,hcl⟩;have hT3:=ëa sm;have fin:¬(Ĵb r/\0<p)->Ŕ L H3:=λhn=>by
   rw[Zk hn,List.append_nil]at hcw;exact q L cs H3 L0 sm hLl hcs hcw
  refine íc t hT3.sq;rw[ZD];refine Ŋa
  rotate_left
  ·refine ĭb (ža (fin λz=>h1 (ZS À)))
  have h1':=ġ h1;have hrl:Ĵb r:=À
  clear h1';refine Ìa ŗc
  rotate_left
  ·exact ža (fin λz=>h2 (ZS À))
  have h2:=ġ h2;obtain⟨k,rfl⟩:∃k,p=k+1:=Ąd (p-1);have hk:qq=ũ k:=À
  subst hk hrr;obtain⟨mm,rfl⟩:∃mm,m=mm+1:=Ąd (m-1);rw[Zj hrl À,Nat.add_sub_cancel]at hcw;refine ő _ (λ_ _ hh=>hh) ⟨_,Z,õb hLl,_,Z,_,Z,len2,λT1 hT1=>?_⟩;have s3:ıb H3 T1 [Ó r,Ó k]:=snw hT1;have e3:YC (Ě H3 T1 [Ó r,Ó k]) (T1,r,k):=ZI;generalize Ě H3 T1 [Ó r,Ó k]=H4 at s3 e3 ⊢;have hL4:=øe hLl;refine⟨L,_,_,Z,Z,hL4,by rw[ZD];exact UB À,?_⟩;have e5:(ĝa) L=Ù ((cs++[(T1,r,k)]).map UG):=by
   rw[ZI,W2];rfl
  have s5:Ĝa H H4 L (Õc UG++[Ê T1]):=(Şa s3).upd L0;have c5:∀c∈cs++[(T1,r,k)],YC ĝa c/\ē c.1:=èd (by
   have h4:YC H4 c/\ē c.1:=by
    rcases ũd hc with z | z
    ·exact ã (øe (hcs c z).1) (hcs c z).2
    ·have:c=(T1,r,k):=by simpa using z
     subst this;exact ã e3 (sm.free hT1)
   refine ã ?_ h4.2;unfold YC;rw[ZP (DK h4.1 hL4)];exact h4.1)
  generalize ĝa=H5 at e5 s5 c5 ⊢;have hT5:=ëa s5;obtain⟨pr,hp1',hp2,hp3⟩:=T7 hrl;have hpl:=g.len pr hp1';have ev:valN prs r k=pr.2.getD k 0:=by
   unfold valN;rw[hp3]
  refine⟨_,Z,_,Z,t,_,_,Ê pr.1,Z,Z,hT5.sq,UM (by rw[ZX,hp2];rfl),_,Z,pr.1,_,_,ô (pr.2.getD k 0),Z,Z,(hT5.r pr hp1').sq,XG À,?_⟩;rw[<- ev];generalize valN prs r k=n at hcw;refine Řc _ Z _ Z ?_
  by_cases hx:n=x
  ·rw[ZS (by rw[hx])];refine Ŧb (ža (q L _ H5 L0 s5 e5 c5 ?_));rw[ZH hx]at hcw;rw[W2];exact hcw
  ·rw[ZW (by intro z;injection z with z;exact hx z.symm)];rw[ZE hx]at hcw;refine ĭb (Űc Z _ _ Z _ Z (ite2 (λh3=>?_) (λh3=>?_)))
   ·have h3:=ġ h3;rw[ZH h3]at hcw;refine⟨_,Z,_,_,Z,Z,mm,À,r,k,_,_,cs++[(T1,r,k)],_,À,hr1,À,Z,Z,Z,s5,e5,c5,?_,?_⟩
    ·rw[W2,List.append_assoc];exact hcw
    ·rw[WK,VP];omega
   ·have h3:¬x<n:=λz=>h3 (ZS z);rw[ZE h3]at hcw;refine⟨_,Z,_,_,Z,Z,mm,À,r+1,k+1,_,_,cs++[(T1,r,k)],_,À,À,hp1,Z,À,Z,s5,e5,c5,?_,?_⟩
    ·rw[W2,List.append_assoc];exact hcw
    ·rw[WK,VP];omega
end
open PySem L2 PyProof.Rows
theorem Xr(h:c∈UD prs x n):c.1<n/\c.2<î (Y3 prs c.1):=by
 unfold UD rc at h;simp only[List.mem_flatMap,ZT,List.mem_filter,List.mem_range,decide_eq_true_eq]at h;obtain⟨i,hi,j,⟨hj,e⟩,rfl⟩:=h;exact ã hi hj
theorem up6(hg:Ĕ)(h:c∈Ëb):c.1<6/\c.2<6:=by
 obtain⟨h1,h2⟩:=Xr h;obtain⟨g,g1,g2,g3,g4⟩:=łd;obtain⟨p,hp,_,e⟩:=T7 h1;rw[e,ŝb]at h2;omega
theorem GL(hg:Ĕ)(h:c∈Ůb):c.1<6/\c.2<6:=by
 obtain⟨g,g1,g2,g3,g4⟩:=łd;have:=J2 prs x _ _ _ c h;omega
theorem VM{n:Int}(h:n.natAbs<Īd):n.natAbs.log2<1920:=KB h
theorem MA:∀prs:Prs,(∀p∈prs,p.2.length<=6)->î Ůa<=prs.length*6
 | [],_=>ħ
 |p::r,h=>by
  rw[IP,WK,YL];have h1:=h p (XB ..);have h2:=MA r λq hq=>h q (UV _ hq);omega
noncomputable def AnsOk(prs:Prs)(first:Str)(x:Int)(R:Str->Prop):Prop :=
 if first = "find" then R (TU Ëb)else if first = "stair" then R ņd else if first = "walk" then R (SQ Ůb)else if first = "below" then R æd else ∃k:Nat,x=ũ k/\k<Ĳa/\∀fs,Sorted prs fs->(hdI (fs.getD k [])).natAbs.log2<1920/\R (ZM (hdI (fs.getD k [])))
section
variable {P:Z3}{w:Z5}{K:ZC}{mg:Ą}{base:Z8}{c:Z1}
inductive spAns(vs:ĝ)(H:Hp)(Q:VK)(z3_:XK):Prop
 |mk (t:Z1) (prs:Prs) (first:Str) (x:Int) (h0:vs=[Ê t,ĉ first,ô x]) (h1:ľ) (h2:Ĕ) (h3:AnsOk prs first x λy=>∀H',ū (ĉ y))
theorem FE:ä ëb ëb N1:=scm
theorem decS:è (Æd a=Æd b)=è (a=b):=by
 rw[XA];exact ã (λh=>by injection h) (λh=>by rw[h])
theorem Ui(hstr:Þc) (D:é "answer_of" N1 ëb) (G1:Ä 2 "show_found" ["cells"] spShF) (G2:Ä 7 "cells_of" ž spCells)
  (G3:Ä 1 "show_row" Ïb spSR) (G4:Ä 7 "stair_of" ž (spStair lessN)) (G5:Ä 1 "show_cells" ["cells"] spShC) (G6:Ä 7 "walk_for" ž spWalk)
  (G7:Ä 8 "count_less" ž (spCount lessN)) (G8:Ä 8 "number_by" ["table","k"] spNumberBy):Ä 9 "answer_of" ëb spAns:=by
 refine Á FE
 ·obtain⟨t,prs,first,x,rfl,_⟩:=h;rfl
 ·obtain⟨t,prs,first,x,rfl,hT,hg,q⟩:=h;have hr1:Ŷc 1:=ż (show 1<=8 by decide);have hr2:Ŷc 2:=ż (show 2<=8 by decide);have hr7:Ŷc 7:=ż (show 7<=8 by decide);obtain⟨g,g1,g2,g3,g4⟩:=łd;refine ë (ï ó (Ġ (pe_f G1 hr2 (pa1 (Ýa G2 hr7 Ü 2)))) (Ġ (pe_f G3 hr1 (pa1 (Ýa G4 hr7 Ü 2)))) (ï ó (Ġ (pe_f G5 hr1 (pa1 (Ýa G6 hr7 Ü 2)))) (Ġ (Ďa (pa1 (Ýa G7 hr Ü 2)))) (Ġ (Ďa (pa1 (Ýa G8 hr Ü 2))))))
  unfold AnsOk at q;refine ų;rw[decS]
  by_cases h1:first = "find"
  ·rw[ZH h1]at q;rw[ZS h1];refine Ŧb (Űc Z t prs x hT hg (λL cs H1 hL s1 eL hc ec hn=>⟨L,cs,Z,eL,λc h=>ã (hc c h).1 (up6 hg (by rw[<- ec];exact Ń c h)),hn,λH' s'=>?_⟩));rw[ec];exact q H' (Ľ s')
  ·rw[ZE h1]at q;rw[ZW h1];refine ĭb ų;rw[decS]
   by_cases h2:first = "stair"
   ·rw[ZH h2]at q;rw[ZS h2];refine Ŧb ⟨_,Z,_,Z,t,prs,x,Z,hT,VI hg,hg,λD2 H1 hD s1 hR=>⟨D2,_,Z,hR,by rw[ZD];exact g2,λn hn=>?_,λH' s'=>q H' (Ľ s')⟩⟩;obtain⟨p,hp,rfl⟩:=Áb hn;have l1:Ãb<=p.2.length:=X2 _ _;have l2:=ŝb;have l3:ũ 10<=Īd:=Â
    show(Ý Ãb).natAbs<Īd;rw[Int.natAbs_natCast];omega
   ·rw[ZE h2]at q;rw[ZW h2];refine ĭb ų;rw[decS]
    by_cases h3:first = "walk"
    ·rw[ZH h3]at q;rw[ZS h3];have wl:î Ůb<=prs.length+ĺ:=MO prs x _ _ _;refine Ŧb (Űc Z t prs x hT hg (λL cs H1 hL s1 eL hc ec=>⟨L,cs,Z,eL,λc h=>ã (hc c h).1 (GL hg (by rw[<- ec];exact Ń c h)),?_,λH' s'=>?_⟩))
     ·have:=õ ec;rw[ZD]at this;omega
     ·rw[ec];exact q H' (Ľ s')
    ·rw[ZE h3]at q;rw[ZW h3];refine ĭb ų;rw[decS]
     by_cases h4:first = "below"
     ·rw[ZH h4]at q;rw[ZS h4];refine Ŧb (Űc Z t prs x hT hg (λH1 s1=>Óe ?_ Łd));refine VM ?_;have l1:lessN x Ůa<=î Ůa:=X2 _ _;have l2:=MA prs (Ļ (ú ŝb g4))
      have l3:ũ 100<=Īd:=Â
      rw[Int.natAbs_natCast];omega
     ·rw[ZE h4]at q;rw[ZW h4];obtain⟨k,rfl,hk,q⟩:=q;exact ĭb ⟨_,Z,_,Z,t,prs,k,Z,hT,hg,hk,λfs H1 s1 hS=>Óe (q fs hS).1 ((q fs hS).2 H1 s1)⟩
end
open PySem L2 PyProof.Rows
noncomputable def setR(rows:Æ Ċ)(i j:Nat)(x:Int):Æ Ċ:=rows.set i ((rows.getD i []).set j x)
section
variable {P:Z3}{w:Z5}{K:ZC}{mg:Ą}{base:Z8}
inductive spCopyN(vs:ĝ)(H:Hp)(Q:VK)(z3_:XK):Prop
 |mk (t:Z1) (prs:Prs) (h0:vs=[Ê t]) (h1:ľ) (h2:Sm prs) (h3:LL H Q ð)
theorem Gy:ä Ŏ Ŏ NJ:=scm
theorem Jk(T:ûa)(D:é "copy_of" NJ Ŏ):Ä 1 "copy_of" Ŏ spCopyN:=by
 refine Á Gy
 ·obtain⟨t,prs,rfl,_⟩:=h;rfl
 ·obtain⟨t,prs,rfl,hT,hs,q⟩:=h;have nd1:(Ïb:ù).Nodup:=Â
  refine Ňb (Ì Ïb [none] NJ Ŏ (Y7 Ü) ň Y0 (pe_t (GE K) T.list boot_list Ş))
  refine Ća t hT.sq (IK (λp:Z1×Ċ=>Śb) (λp=>.lst (p.2.map V.int)) hT.sq hs.1 (Œd ⟨_,Z,p.1,_,Z,Ė ((ëa sm).r p hp).sq,λl hl=>q' l _ hl (snw hl) ZI⟩) λM qs H2 hM hqm hnd hq s2 eM=>?_);refine q M (Õb (λx=>(x.1,x.2.2))) H2 hM Åc ?_ s2 (ã ?_ Åc) ?_
  ·obtain⟨x,hx,rfl⟩:=Áb hp;exact(hq x hx).2
  ·rw[W7];exact hnd
  ·rw[eM,W7];rfl
  ·obtain⟨x,hx,rfl⟩:=Áb hp;exact(hq x hx).1
  ·rw[W7,<- hqm,W7];rfl
inductive spWith(vs:ĝ)(H:Hp)(Q:VK)(z3_:XK):Prop
 |mk (t c:Z1) (prs:Prs) (i j:Nat) (x:Int) (h0:vs=[Ê t,Ê c,ô x]) (h1:ľ) (h2:Sm prs) (h3:H c=Ĥ [Ŧd,Ó j]) (h4:Ĵb i) (h5:j<î Ĝc) (h6:LL H Q ña)
theorem sc_with:ä ["table","cell","x","changed"] Úa L8:=scm
theorem Of(D:é "table_with" L8 Úa) (G:Ä 1 "copy_of" Ŏ spCopyN):Ä 2 "table_with" Úa spWith:=by
 refine Á sc_with
 ·obtain⟨t,c,prs,i,j,x,rfl,_⟩:=h;rfl
 ·obtain⟨t,c,prs,i,j,x,rfl,hT,hs,hc,hi,hj,q⟩:=h;have nd:=sc_with.nd;refine ĉb (È 3 űb) (P1 Ķa (OL (ă 3 (pix VF ó ZB)) (pix VF ó ZB) NX)) (Ġ Żc)
  refine Řc t prs hT hs (λt' qs H1 ht' hqn hnd s1 hT1 hrows=>?_);have hc1:=Ųc hc;have hql:qs.length=prs.length:=by
   have:=õ hrows;simpa using this
  have hiq:i<qs.length:=À
  have hqi:qs[i]?=Ã (qs[i]):=WA hiq;have mqi:qs[i]∈qs:=YE hiq;have hri:qs[i].2=Ĝc:=by
   have h1:(Õb (·.2))[i]?=(ð)[i]?:=by rw[hrows]
   rw[ZX,hqi,ZX,Ÿd]at h1;have h2:qs[i].2=prs[i].2:=by simpa using h1
   rw[h2];unfold Y3;rw[Ÿd];rfl
  have hR:=hT1.r qs[i] mqi;refine⟨_,Z,_,Z,_,Z,c,_,0,Ŧd,Z,Z,sqt hc1,Z,t',_,_,Ê qs[i].1,Z,Z,hT1.sq,UM (by rw[ZX,hqi];rfl),_,Z,c,_,1,Ó j,Z,Z,sqt hc1,Z,qs[i].1,_,_,j,Z,Z,hR,?_,_,Z,?_⟩
  ·rw[ZD,hri];unfold ixN;rw[ZH À,ZH À,YR]
  rw[<- List.map_set];have hn:∀p∈qs,p.1=qs[i].1->p=qs[i]:=λp hp e=>by
   obtain⟨k,hk⟩:=Úd;have hkl:=Ăb hk;have:k=i:=(List.getElem?_inj (l:=Õb (·.1)) (by rw[ZD];exact hkl) hnd).mp (by rw[ZX,ZX,hk,hqi];simp[e]);subst this;exact WC (hk.symm.trans hqi)
  have key:∀b o,b≠qs[i].1->H1 b=ţ->(Ï H1 qs[i].1 ((qs[i].2.set j x).map V.int)) b=ţ:=λb o n e=>Řa n e
  refine q t' (Ċd (qs[i].1,qs[i].2.set j x)) _ ht' Åc ?_ (λb o e=>key b o Îc (Ųc e)) (ã ?_ Åc) ?_
  ·rcases ŀb hp with z | z
   ·exact hqn p z
   ·rw[z];exact hqn qs[i] mqi
  ·have:(Ċd (qs[i].1,qs[i].2.set j x)).map (·.1)=Õb (·.1):=by
    rw[List.map_set];refine List.ext_getElem? λk=>?_;rw[List.getElem?_set];split
    ·next h =>
     subst h;rw[ZD,ZH hiq,ZX,hqi];rfl
    ·rfl
   rw[this];exact hnd
  ·rw[z,(hqn _ mqi).1]at e;cases e
  ·have:(Ċd (qs[i].1,qs[i].2.set j x)).map (λp=>Śb)=Õb (λp=>Śb):=by
    rw[List.map_set];refine List.ext_getElem? λk=>?_;rw[List.getElem?_set];split
    ·next h =>
     subst h;rw[ZD,ZH hiq,ZX,hqi];rfl
    ·rfl
   rw[this];exact key _ _ (λz=>(hqn _ mqi).2 z.symm) hT1.l
  ·obtain⟨k,hk⟩:=Úd;rw[List.getElem?_set]at hk
   by_cases h:i=k
   ·rw[ZH h,ZH hiq]at hk;rw[<- WC hk];exact ZI
   ·rw[ZE h]at hk;have hkl:=Ăb hk;refine key _ _ (λe=>h ?_) (hT1.r p (UF hk));exact((List.getElem?_inj (l:=Õb (·.1)) (by rw[ZD];exact hkl) hnd).mp (by rw[ZX,ZX,hk,hqi];simp[e])).symm
  ·rw[List.map_set,hrows];unfold setR;rw[show(ð).getD i []=qs[i].2 by
    rw[hri];unfold Y3
    rw[WY,ZX]]
end
open PySem L2 PyProof.Rows
theorem Qm{prs:Prs}{rows:Æ Ċ}{i j:Nat}{x:Int}(hs:Sm prs){prs':Prs}(h:prs'.map (·.2)=ña):Sm prs':=by
 have hl:prs'.length=prs.length:=by
  have:=õ h;unfold setR at this;rw[QJ]at this;simpa using this
 refine ã (by rw[hl];exact hs.1) Åc;have hm:p.2∈ña:=by rw[<- h];exact Ń p hp
 unfold setR at hm;rcases ŀb hm with z | z
 ·obtain⟨q,hq,e⟩:=Áb z;rw[<- e];exact hs.2 q hq
 ·rw[z,QJ,WY,ZX];cases hg:prs[i]? with
  |none=>simp
  |some q=>exact hs.2 q (UF hg)
section
variable {P:Z3}{w:Z5}{K:ZC}{mg:Ą}{base:Z8}{C:Z1}
inductive spChanged(vs:ĝ)(H:Hp)(Q:VK)(z3_:XK):Prop
 |mk (t c:Z1) (prs:Prs) (i j:Nat) (x:Int) (h0:vs=[Ê t,Ê c,ô x]) (h1:ľ) (h2:Ĕ) (h3:Ķc) (h4:Ĵb i) (h5:j<ĺ) (h6:UT ña=true) (h7:LL H Q ña)
theorem sc_changed:ä ["table","cell","x","changed"] Úa M4:=scm
theorem Ei(D:é "changed_table" M4 Úa) (G1:Ä 5 "need_cell" Į spNeedCell) (G2:Ţa) (G3:Ä 2 "table_with" Úa spWith) (G4:ñb) :
  Ä 6 "changed_table" Úa spChanged:=by
 refine Á sc_changed
 ·obtain⟨t,c,prs,i,j,x,rfl,_⟩:=h;rfl
 ·obtain⟨t,c,prs,i,j,x,rfl,hT,hg,hc,hi,hj,ok,q⟩:=h;have nd:=sc_changed.nd;obtain⟨g,g1,g2,g3,g4⟩:=łd;have hli:î Ĝc=ĺ:=by
   obtain⟨p,hp,_,e⟩:=T7 hi;rw[e];exact ŝb
  refine ľb (Ýa G1 hr Ü 1) 2 (Ħ (È 3 (pe_f G3 Ĩd (ZF Ü (ýa ó 2)))) (ZZ (ŭ G4 (ß 3)) WG W0) (Ġ Żc))
  refine Ãe;refine Òc;refine Řc t' prs' hT2 (Qm (rows:=[]) (VI hg) hrows) (λH3 s3=>ë Z);rw[SD hrows,ok];exact ĭb (ža (q t' prs' H3 (ğd ht') (Ļ (ã (ğd (hq p hp).1) (hq p hp).2)) hnd (Ľ Ųd) (hT2.same s3) hrows))
end
open PySem L2 PyProof.Rows
section
variable {P:Z3}{w:Z5}{K:ZC}{mg:Ą}{base:Z8}{c1 c3 c6 c7:Z1}
inductive spPlX(c6:Z1)(vs:ĝ)(H:Hp)(z2_:VK)(E:XK):Prop
 |mk (t:Z1) (prs:Prs) (k:Nat) (h0:vs=[Ê t,Ó k]) (h1:ľ) (h2:Ĕ) (h3:Ĳa<=k) (h4:∀H',Ŀd->Åb c6)
theorem Ut(hk:Ëd c6)(hm:Ūb "NoPlace" c6) (D:é "need_place" MH Į) (G1:Īa) (G2:Ýe):Ā 2 "need_place" Į (spPlX c6):=by
 refine Æb Zq
 ·obtain⟨t,prs,k,rfl,_⟩:=h;rfl
 ·obtain⟨t,prs,k,rfl,hT,hg,hk2,q⟩:=h;refine āc (řb (ŭ G1 éc) (WO (PV o_le o_lt ZB ó (Ĺ G2 hr)))) ła;refine Ŀb Z _ (ĭb (Ìa ?_));rw[ZS (show Þ 0<=ũ k by omega)];refine Ŧb ⟨_,Z,t,prs,Z,hT,hg,_,_,Z,Z,_,Z,?_⟩;rw[ZW (show ¬Ý k<Þ prs.length*Þ ĺ by rw[<- Int.natCast_mul];omega)];exact Ŧb (q H ŵ)
theorem Uq(D:é "number_by" NR ["table","k"]) (G1:ïa) (G2:Ā 2 "need_place" Į (spPlX c6)):Ā 8 "number_by" ["table","k"] (spPlX c6):=by
 refine Æb AZ
 ·obtain⟨t,prs,k,rfl,_⟩:=h;rfl
 ·obtain⟨t,prs,k,rfl,hT,hg,hk,q⟩:=h;refine ĉb (Y9 (Ĺ G1 Ĩd)) (Y9 (UX G2 Ĩd VZ ųd)) WG;exact Ŏa (VI hg) hg ⟨_,Z,_,Z,t,prs,k,Z,ëa s1,hg,hk,λH' s'=>q H' (Ľ s')⟩
inductive spAnsX(c6:Z1)(vs:ĝ)(H:Hp)(z2_:VK)(E:XK):Prop
 |mk (t:Z1) (prs:Prs) (k:Nat) (h0:vs=[Ê t,ĉ "nth", Ó k]) (h1:ľ) (h2:Ĕ) (h3:Ĳa<=k) (h4:∀H',Ŀd->Åb c6)
theorem Sl(hstr:Þc) (D:é "answer_of" N1 ëb) (G8:Ā 8 "number_by" ["table","k"] (spPlX c6)):Ā 9 "answer_of" ëb (spAnsX c6):=by
 refine Æb FE
 ·obtain⟨t,prs,k,rfl,_⟩:=h;rfl
 ·obtain⟨t,prs,k,rfl,hT,hg,hk,q⟩:=h;refine ë (ï ó WG WG (ï ó WG WG (Ġ (Ďa (pa1 (UX G8 hr VZ (ýa Ü 2)))))))
  refine ų;rw[decS,ZW (show ¬ć "nth" = "find" by decide +kernel)];refine ĭb ų;rw[decS,ZW (show ¬ć "nth" = "stair" by decide +kernel)];refine ĭb ų;rw[decS,ZW (show ¬ć "nth" = "walk" by decide +kernel)];refine ĭb ų;rw[decS,ZW (show ¬ć "nth" = "below" by decide +kernel)];exact ĭb ⟨_,Z,_,Z,t,prs,k,Z,hT,hg,hk,q⟩
inductive spSzX(vs:ĝ)(H:Hp)(Q:VK)(z3_:XK):Prop
 |mk (c:Z1) (r p i j:Nat) (h0:vs=[Ó r,Ó p,Ê c]) (h1:Ķc) (h2:(r<=i\/p<=j)) (h3:∀H',ū öa)
theorem Ux(T:ûa)(htup:ě "tuple") (D:é "is_cell_of_size" N3 Ŗa) (G:čb spAllWholeT):ĕd spSzX:=by
 refine Á AH
 ·obtain⟨c,r,p,i,j,rfl,_⟩:=h;rfl
 ·obtain⟨c,r,p,i,j,rfl,hC,ho,q⟩:=h;refine üa
  refine Îd _ (.tup hC) (FW _) (ĭb ⟨_,Z,c,_,Z,Ŀ (sqt hC),Z,_,Z,?_⟩);refine ĭb ⟨_,Z,c,i,j,Z,hC,λH1 s1=>ža (ĭb ?_)⟩;have hC1:Cell H1 c i j:=Ųc hC;refine Ĝb 0 i;rw[ZS (show Þ 0<=ũ i by omega)];refine Ŧb (Ìa ?_)
  by_cases hi:i<r
  ·rw[ZS (show Ý i<ũ r by omega)];refine Ŧb (Ĝb 1 j);rw[ZS (show Þ 0<=ũ j by omega)];refine Ŧb ⟨_,Z,_,_,Z,Z,?_⟩;rw[ZW (show ¬Ý j<ũ p by omega)];exact Łd
  ·rw[ZW (show ¬Ý i<ũ r by omega)];exact ĭb Łd
inductive spIsCX(vs:ĝ)(H:Hp)(Q:VK)(z3_:XK):Prop
 |mk (t c:Z1) (prs:Prs) (i j:Nat) (h0:vs=[Ê t,Ê c]) (h1:ľ) (h2:Ĕ) (h3:Ķc) (h4:(Ĭd)) (h5:∀H',ū öa)
theorem So(T:ûa)(D:é "is_cell" NK Į) (G:ĕd spSzX):Ä 4 "is_cell" Į spIsCX:=by
 refine Á AI
 ·obtain⟨t,c,prs,i,j,rfl,_⟩:=h;rfl
 ·obtain⟨t,c,prs,i,j,rfl,hT,hg,hC,ho,q⟩:=h;obtain⟨g,g1,g2,g3,g4⟩:=łd;obtain⟨p0,hp0,hm0,hx0⟩:=X0 (prs:=prs) g1;refine Ňb (pe_f G hr (ZF Ïd (ýa Ŷb 1)));exact⟨_,Z,t,_,Z,Ė hT.sq,_,Z,t,_,0,Ê p0.1,Z,Z,hT.sq,UM (j:=0) (by rw[ZX,hx0];rfl),p0.1,_,Z,ļd,_,Z,c,prs.length,ĺ,i,j,by rw[ZD,ZD,g.len p0 hm0],hC,ho,q⟩
inductive spNcX(c1:Z1)(vs:ĝ)(H:Hp)(z2_:VK)(E:XK):Prop
 |mk (t c:Z1) (prs:Prs) (i j:Nat) (h0:vs=[Ê t,Ê c]) (h1:ľ) (h2:Ĕ) (h3:Ķc) (h4:(Ĭd)) (h5:∀H',Ŀd->Åb c1)
theorem Ur(hk:Ëd c1)(hm:Ūb "NoCell" c1) (D:é "need_cell" NQ Į) (G:Ä 4 "is_cell" Į spIsCX):Ā 5 "need_cell" Į (spNcX c1):=by
 refine Æb AY
 ·obtain⟨t,c,prs,i,j,rfl,_⟩:=h;rfl
 ·obtain⟨t,c,prs,i,j,rfl,hT,hg,hC,ho,q⟩:=h;refine āc (ŭ G ųd) ła;exact⟨_,Z,_,Z,t,c,prs,i,j,Z,hT,hg,hC,ho,λH' sm=>ža (Ŧb ŀd)⟩
end
open PySem L2 PyProof.Rows
section
variable {P:Z3}{w:Z5}{K:ZC}{mg:Ą}{base:Z8}{c1 c3 c6 c7:Z1}
inductive spChX(c1 c7:Z1)(vs:ĝ)(H:Hp)(z2_:VK)(E:XK):Prop
 |mk (t c:Z1) (prs:Prs) (i j:Nat) (x:Int) (h0:vs=[Ê t,Ê c,ô x]) (h1:ľ) (h2:Ĕ) (h3:Ķc) (h4:(((Ĭd)/\∀H',Ŀd->Åb c1)\/(Ĵb i/\j<ĺ/\UT ña=false/\∀H',Ŀd->Åb c7)))
theorem Ky(h:Sm prs)(e:Õb (·.2)=ña):Sm qs:=by
 have hl:qs.length=prs.length:=by
  have:=õ e;unfold setR at this;rw[ZD,QJ,ZD]at this;exact this
 refine ã (by rw[hl];exact h.1) Åc;have hm:p.2∈ña:=by rw[<- e];exact Ń p hp
 unfold setR at hm;rcases ŀb hm with hm | hm
 ·obtain⟨q,hq,hq2⟩:=Áb hm;rw[<- hq2];exact h.2 q hq
 ·rw[hm,QJ]
  by_cases hi:Ĵb i
  ·rw[WY,ZX,Ÿd];exact h.2 _ (YE hi)
  ·rw[WY,ZX,ōb À];exact WW _
theorem Uj(hk:Ëd c7)(hm:Ūb "NoFit" c7) (D:é "changed_table" M4 Úa) (G1:Ä 5 "need_cell" Į spNeedCell) (G1X:Ā 5 "need_cell" Į (spNcX c1))
  (G2:Ţa) (G3:Ä 2 "table_with" Úa spWith) (G4:ñb):Ā 6 "changed_table" Úa (spChX c1 c7):=by
 refine Æb sc_changed
 ·obtain⟨t,c,prs,i,j,x,rfl,_⟩:=h;rfl
 ·obtain⟨t,c,prs,i,j,x,rfl,hT,hg,hc,h⟩:=h;have nd:=sc_changed.nd;rcases h with⟨ho,he⟩ | ⟨hi,hj,ok,he⟩
  ·refine ë (ZG (Y9 (UX G1X hr VZ ųd)) WG);exact⟨_,Z,_,Z,t,c,prs,i,j,Z,hT,hg,hc,ho,he⟩
  ·obtain⟨g,g1,g2,g3,g4⟩:=łd;have hli:î Ĝc=ĺ:=by
    obtain⟨p,hp,_,e⟩:=T7 hi;rw[e];exact ŝb
   refine ľb (Ýa G1 hr Ü 1) 2 (Ħ (È 3 (pe_f G3 Ĩd (ZF Ü (ýa ó 2)))) (ZZ (ŭ G4 (ß 3)) ła W0) WG)
   refine Ãe;refine Òc;refine Řc t' prs' hT2 (Ky (VI hg) hrows) (λH3 s3=>ë Z);rw[SD hrows,ok];exact Ŧb (he H3 (Ľ Ųd))
noncomputable def XE(r:Nat):Bool:=ēa 1 r 4
inductive spSideN(vs:ĝ)(H:Hp)(Q:VK)(z3_:XK):Prop
 |mk (r:Nat) (h0:vs=[Ó r]) (h1:ŉb (XE r))
theorem Ks:ä Ę Ę PK:=scm
theorem My(T:ûa)(D:é "is_side" PK Ę) (G:Īa):Ä 2 "is_side" Ę spSideN:=by
 refine Á Ks
 ·obtain⟨r,rfl,_⟩:=h;rfl
 ·obtain⟨r,rfl,q⟩:=h;obtain⟨t,ht⟩:=T.ms;refine ýe űb (XN o_le o_le ZB Ü (YX (v:=ô 4) rfl ht Ôe));refine Ŀb Z _ (Ŧb (Ìa ?_));unfold XE at q
  by_cases h1:1<=r
  ·rw[ZS h1,Bool.true_and]at q;rw[ZS (show Þ 1<=ũ r by omega)];refine Ŧb (şc _ Z Z ?_);rw[show è (Ý r<=4)=è (r<=4) by rw[XA];omega];exact q
  ·rw[ZW h1,Bool.false_and]at q;rw[ZW (show ¬Þ 1<=ũ r by omega)];exact ĭb q
inductive spNsX(c3:Z1)(vs:ĝ)(H:Hp)(z2_:VK)(E:XK):Prop
 |mk (r p:Nat) (h0:vs=şb) (h1:Ķb (XE r&&XE p)) (h2:E (Ê c3) none H)
theorem Tj:ä Ša Ša O0:=scm
theorem Us(hk:Ëd c3)(hm:Ūb "NoSize" c3) (D:é "need_size" O0 Ša) (G:Ä 2 "is_side" Ę spSideN):Ā 3 "need_size" Ša (spNsX c3):=by
 refine Æb Tj
 ·obtain⟨r,p,rfl,_⟩:=h;rfl
 ·obtain⟨r,p,rfl,ho,q⟩:=h;refine āc (řb (Ģd űb) (ŭ G éc)) ła;refine Ŀb Z r ?_;cases e1:XE r with
  |false=>exact Ŧb (Ŧb q)
  |true =>
   rw[e1,Bool.true_and]at ho;refine ĭb (Ŀb Z p ?_);rw[ho];exact Ŧb q
theorem Th:ä Ša Ša PJ:=scm
theorem Uk(D:é "fewest_looks" PJ Ša) (G1:Ā 3 "need_size" Ša (spNsX c3)):Ā 4 "fewest_looks" Ša (spNsX c3):=by
 refine Æb Th
 ·obtain⟨r,p,rfl,_⟩:=h;rfl
 ·obtain⟨r,p,rfl,ho,q⟩:=h;refine ë (ZG (Y9 (UX G1 hr VZ ųd)) WG);exact⟨_,Z,_,Z,r,p,Z,ho,q⟩
end
open PySem L2 PyProof.Rows
theorem UP(r:õc A):ĕb 1:=ŵc 1
structure DkK(K:ZC)(C:Z1):Prop where
 cls:Cls K C
 nt:NoAttr K C "tables"
noncomputable abbrev Ts:=ġa (Z1×Prs)
noncomputable def kvs(ts:Ts):Âb:=îc (λe=>(ça e.1,Ŷ e.2.1))
structure DeskAt(H:Hp)(C a dx d:Z1)(ts:Ts):Prop where
 ob:Ŵb [("tables", Ê d)]
 D:H d=Ã (.dK Łc)
 T:∀e∈ts,Tab H e.2.1 e.2.2/\tabB e.2.2=true
 nd:Çe (îc (·.1))
theorem DeskAt.same{H H':Hp}{C a dx d:Z1}{ts:Ts}(h:Ĳb)(s:Ŀd):Ď H' ts :=
 ⟨s _ _ h.ob,s _ _ h.D,ůc ((h.T e he).1.same s) he,h.nd⟩
theorem VW:∀{ts:Ts}{n:Str}{t:Z1}{prs:Prs},Çe (îc (·.1))->(n,t,prs)∈ts->L2.valV Łc Öa=Ú t
 |e::ts,n,t,prs,nd,h=>by
  rw[Y8,VC]at nd;rcases ĳd h with h | h
  ·subst h;exact L2.V9 rfl
  ·have ne:¬(ça e.1:Key)=Öa:=λz=>nd.1 (by
    have z:e.1=n:=by injection z
    rw[z]
    exact Ń _ h)
   exact(L2.V2 (p:=(ça e.1,Ŷ e.2.1)) ne).trans (VW nd.2 h)
theorem EX:∀{ts:Ts}{n:Str},n∉îc (·.1)->L2.valV Łc Öa=none
 | [],_,_=>rfl
 |e::ts,n,h=>by
  rw[Y8,W9,not_or]at h;have ne:¬(ça e.1:Key)=Öa:=λz=>h.1 (by injection z with z;exact z.symm);exact(L2.V2 (p:=(ça e.1,Ŷ e.2.1)) ne).trans (EX h.2)
section
variable {P:Z3}{w:Z5}{K:ZC}{mg:Ą}{base:Z8}{C c:Z1}
theorem sc_sot:ä ["self","words","table"] ["self","words"] (WQ U8 3):=scm
inductive spSot1(C:Z1)(vs:ĝ)(H:Hp)(Q:VK)(z3_:XK):Prop
 |mk (a dx d p t:Z1) (ts:Ts) (n:Str) (prs:Prs) (h0:vs=[œ,Ê p]) (h1:Ĳb) (h2:H p=Ù ([ć "show",n].map V.str)) (h3:(n,t,prs)∈ts) (h4:(∀q∈prs,Bd50 q.2)) (h5:∀H',ū (ĉ (ĉa (tabS ð) "\n" "/")))
theorem YD(h:è (a=b)=r):è (Æd a=Æd b)=r:=decS.trans h
theorem Sz(kc:ţc)(D:Ŝ C) (G:Ä 7 "show_table" Ŏ spST):Âa (spSot1 C):=by
 refine Ěb sc_sot
 ·obtain⟨a,dx,d,p,t,ts,n,prs,rfl,_⟩:=h;rfl
 ·obtain⟨a,dx,d,p,t,ts,n,prs,rfl,hd,hp,hm,hb,q⟩:=h;have nd:=sc_sot.nd;have hu:=UP hr;have hr7:Ŷc 7:=ż (show 7<=9 by decide);obtain⟨hT,hg⟩:=hd.T _ hm;have g:Óc H:=by
   have:=DGet.k (k:=Öa) hd.D;rw[VW hd.nd hm]at this;exact this
  refine Ňc ňd Êa WG (ZG (Xy (Nt WH Êa DE (U0 _)) (KY (KW (pe_f G hr7 (ß 2)))) W0) WG)
  refine Ŗ hd.ob hp (WE (i:=1) rfl) g ?_;refine ö hp;rw[YD (r:=false) Â];refine ĭb (ö hp);rw[YD (r:=false) Â];refine ĭb (ö hp);rw[YD (r:=true) Â];refine Ŧb (Ŏa hg hb (Óe ?_ Łd));obtain⟨g,g1,g2,g3,g4⟩:=łd;refine WB (C8 (B:=312) (M:=2000) (λr hr=>?_) ?_) Ç
  ·obtain⟨q,hq,rfl⟩:=Áb hr;exact Ņd
  ·rw[ZD];have g2:ėa:=g2;omega
inductive spSot2(C:Z1)(sp:Sp)(vs:ĝ)(H:Hp)(Q:VK)(E:XK):Prop
 |mk (a dx d p t:Z1) (ts:Ts) (f n:Str) (x:Int) (prs:Prs) (h0:vs=[œ,Ê p]) (h1:Ĳb) (h2:H p=Ù ([f,n,ZM x].map V.str)) (h3:(n,t,prs)∈ts) (h4:f ≠ "cell") (h5:f ≠ "drop") (h6:f ≠ "show") (h7:űd x) (h8:sp [Ê t,ĉ f,ô x] H Q λcls _ H'=>E cls none H')
theorem EK(T:ûa)(kc:ţc)(D:Ŝ C) (G:Ā 9 "answer_of" ëb sp):Âa (spSot2 C sp):=by
 refine Ěb sc_sot
 ·obtain⟨a,dx,d,p,t,ts,f,n,x,prs,rfl,_⟩:=h;rfl
 ·obtain⟨a,dx,d,p,t,ts,f,n,x,prs,rfl,hd,hp,hm,f1,f2,f3,hl,q⟩:=h;have nd:=sc_sot.nd;have hu:=UP hr;have g:Óc H:=by
   have:=DGet.k (k:=Öa) hd.D;rw[VW hd.nd hm]at this;exact this
  refine Ňc ňd Êa WG (ĉc (ša WH Êa ZR WG) (UX G hr VZ (ZF Ķa (į Êa Åa))))
  refine Ŗ hd.ob hp (WE (i:=1) rfl) g ?_;refine ö hp;rw[YD (r:=false) (ZW f1)];refine ĭb (ö hp);rw[YD (r:=false) (ZW f2)];refine ĭb (ö hp);rw[YD (r:=false) (ZW f3)];exact ĭb ⟨_,Z,_,Z,p,_,0,_,Z,Z,sqo hp,WE (i:=0) rfl,_,Z,p,_,2,_,Z,Z,sqo hp,WE (i:=2) rfl,_,_,Z,XM À,hl,q⟩
inductive spSot3(C c1 c7:Z1)(vs:ĝ)(H:Hp)(z2_:VK)(E:XK):Prop
 |mk (a dx d p t:Z1) (ts:Ts) (n:Str) (prs:Prs) (i j:Nat) (x:Int) (h0:vs=[œ,Ê p]) (h1:Ĳb) (h2:H p=Ù ([ć "cell",n,ĭ i,ĭ j,ZM x].map V.str)) (h3:(n,t,prs)∈ts) (h4:śa i) (h5:śa j) (h6:űd x) (h7:(((Ĭd)/\∀H',Ŀd->Åb c1)\/(Ĵb i/\j<ĺ/\UT ña=false/\∀H',Ŀd->Åb c7)))
theorem Ob(T:ûa)(kc:ţc)(D:Ŝ C) (G:Ā 6 "changed_table" Úa (spChX c1 c7)):Âa (spSot3 C c1 c7):=by
 refine Ěb sc_sot
 ·obtain⟨a,dx,d,p,t,ts,n,prs,i,j,x,rfl,_⟩:=h;rfl
 ·obtain⟨a,dx,d,p,t,ts,n,prs,i,j,x,rfl,hd,hp,hm,l1,l2,l3,q⟩:=h;have nd:=sc_sot.nd;have hu:=UP hr;have hr6:Ŷc 6:=ż (show 6<=9 by decide);obtain⟨hT,hg⟩:=hd.T _ hm;have g:Óc H:=by
   have:=DGet.k (k:=Öa) hd.D;rw[VW hd.nd hm]at this;exact this
  refine ĉb (È 2 ňd) (ša WH Êa ZR (ZG (Q5 hu Ìb Êa (UX G hr6 VZ (ZF Ķa (į (US (į Åa Åa)) Åa))) rfl) WG)) WG
  refine Ŗ hd.ob hp (WE (i:=1) rfl) g ?_;refine ö hp;rw[YD (r:=true) Â];refine Ŧb (Ûd (WE (i:=2) rfl) (WE (i:=3) rfl));have s1:=snw (o:=.tup [Ŧd,Ó j]) hq2;refine⟨_,Z,p,_,4,_,Z,Z,sqo (Ųc hp),WE (i:=4) rfl,_,_,Z,XM À,l3,t,q2,prs,i,j,x,Z,ëa s1,hg,ZI,?_⟩;rcases q with⟨h1,h2⟩ | ⟨h1,h2,h3,h4⟩
  ·exact ìb h1 (λH' s'=>h2 H' (Ľ s'))
  ·exact Ŀ ⟨h1,h2,h3,λH' s'=>h4 H' (Ľ s')⟩
end
open PySem L2 PyProof.Rows
section
variable {P:Z3}{w:Z5}{K:ZC}{mg:Ą}{base:Z8}{C c:Z1}
theorem sc_say:ä ["self","row","words"] ["self","row"] (WQ U8 2):=scm
inductive spSay1(C c:Z1)(vs:ĝ)(H:Hp)(z2_:VK)(E:XK):Prop
 |mk (a:Z1) (x:V) (d:PyData) (h0:vs=[œ,x]) (h1:RdS [] H x d) (h2:(FT d=false\/∃z,d=ĉ z/\z.length<=2900/\hfB (spl z)=false)) (h3:∀H',Ŀd->Åb c)
theorem Sw(D:åa C) (G:Ā 6 "words_of" Ïb (spWOX c)):Č P C (spSay1 C c):=by
 refine Ěb sc_say
 ·obtain⟨a,x,d,rfl,_⟩:=h;rfl
 ·obtain⟨a,x,d,rfl,rd,hc,he⟩:=h;have nd:=sc_say.nd;have hr6:Ŷc 6:=ż (show 6<=37 by decide);refine ë (ZG (È 2 (UX G hr6 VZ éc)) WG);exact Řc x d rd hc he
inductive spSay2(C c:Z1)(vs:ĝ)(H:Hp)(z2_:VK)(E:XK):Prop
 |mk (a dx d:Z1) (ts:Ts) (x f n:Str) (ws:ù) (h0:vs=[œ,íd]) (h1:Ĳb) (h2:x.length<=2900) (h3:ĺc (spl x)) (h4:spl x=f::n::ws) (h5:f ≠ "looks") (h6:ľc) (h7:n∉îc (·.1)) (h8:∀H',Ŀd->Åb c)
theorem Sx(kc:ţc)(hk:Ëd c)(hm:Ūb "NoName" c) (D:åa C) (G:ěc):Č P C (spSay2 C c):=by
 refine Ěb sc_say
 ·obtain⟨a,dx,d,ts,x,f,n,ws,rfl,_⟩:=h;rfl
 ·obtain⟨a,dx,d,ts,x,f,n,ws,rfl,hd,hl,hf,hs,f1,f2,hn,he⟩:=h;have nd:=sc_say.nd;have hu:=UP hr;have hr6:Ŷc 6:=ż (show 6<=37 by decide);refine Ňc (pe_f G hr6 éc) Ûe WG (ZG (ZZ (P3 (JT hu Ûe Ìb)) ła W0) WG)
  refine ëd;rw[hs]at e1;have d1:=Ęc;have g:DGet H1 d (kV Öa) none:=by
   have:=DGet.k (k:=Öa) d1.D;rw[EX hn]at this;exact this
  refine ö e1;rw[YD (r:=false) (ZW f1)];refine ĭb (ö e1);rw[YD (r:=false) (ZW f2)];refine ĭb (Äe (WE (i:=1) rfl) none);exact Ŧb (he H1 s1)
inductive spSay3(C:Z1)(sp:Sp)(vs:ĝ)(H:Hp)(Q:VK)(E:XK):Prop
 |mk (a dx d t:Z1) (ts:Ts) (x f n:Str) (ws:ù) (prs:Prs) (h0:vs=[œ,íd]) (h1:Ĳb) (h2:x.length<=2900) (h3:ĺc (spl x)) (h4:spl x=f::n::ws) (h5:f ≠ "looks") (h6:ľc) (h7:(n,t,prs)∈ts) (h8:∀p H',ē p->Ŀd->H' p=Ù ((spl x).map V.str)->sp [œ,Ê p] H' Q λcls _ H2=>E cls none H2)
theorem EH(kc:ţc)(D:åa C) (G:ěc) (M:Âa sp):Č P C (spSay3 C sp):=by
 refine Ěb sc_say
 ·obtain⟨a,dx,d,t,ts,x,f,n,ws,prs,rfl,_⟩:=h;rfl
 ·obtain⟨a,dx,d,t,ts,x,f,n,ws,prs,rfl,hd,hl,hf,hs,f1,f2,hm,q⟩:=h;have nd:=sc_say.nd;have hu:=UP hr;have hr6:Ŷc 6:=ż (show 6<=37 by decide);have hr10:Ŷc 10:=ż (show 10<=37 by decide);refine Ňc (pe_f G hr6 éc) Ûe WG (ĉc (ZZ (P3 (JT hu Ûe Ìb)) WG W0) (O8 M kc.cls hr10 VZ Ü (ß 2)))
  refine⟨_,Z,x,Z,hl,hf,λp H1 hp s1 e0=>?_⟩;have e1:=e0;rw[hs]at e1;have d1:=Ęc;have g:Óc H1:=by
   have:=DGet.k (k:=Öa) d1.D;rw[VW hd.nd hm]at this;exact this
  refine ö e1;rw[YD (r:=false) (ZW f1)];refine ĭb (ö e1);rw[YD (r:=false) (ZW f2)];refine ĭb (Äe (WE (i:=1) rfl) (Ú t));exact ĭb ⟨_,Z,a,dx,_,Z,d1.ob,Z,_,Z,q p H1 hp s1 e0⟩
end
open PySem L2 PyProof.Rows
section
variable {P:Z3}{w:Z5}{K:ZC}{mg:Ą}{base:Z8}{C c:Z1}
inductive spSay4(C:Z1)(sp:Sp)(vs:ĝ)(H:Hp)(Q:VK)(E:XK):Prop
 |mk (a:Z1) (x:Str) (r p:Nat) (h0:vs=[œ,íd]) (h1:x.length<=2900) (h2:ĺc (spl x)) (h3:spl x=[ć "looks",ĭ r,ĭ p]) (h4:śa r) (h5:śa p) (h6:∀H',Ŀd->sp şb H' (λv H2=>∃k:Int,[v]=[Žb k]/\k.natAbs.log2<1920/\Q (ĉ (ZM k)) H2) λcls _ H2=>E cls none H2)
theorem EI(T:ûa)(hstr:Þc) (D:åa C) (G:ěc) (G2:Ā 36 "fewest_looks" Ša sp):Č P C (spSay4 C sp):=by
 refine Ěb sc_say
 ·obtain⟨a,x,r,p,rfl,_⟩:=h;rfl
 ·obtain⟨a,x,r,p2,rfl,hl,hf,hs,l1,l2,q⟩:=h;have nd:=sc_say.nd;have hr6:Ŷc 6:=ż (show 6<=37 by decide);have hr36:Ŷc 36:=ż (show 36<=37 by decide);refine ĉb (È 2 (pe_f G hr6 éc)) (ša WH Ûe ZR (Ġ (Ďa (pa1 (UX G2 hr36 VZ (į (pe_t XI T.int boot_int (pa1 Ûe)) (pe_t XI T.int boot_int (pa1 Ûe)))))))) WG
  refine ëd;rw[hs]at e1;refine ö e1;rw[YD (r:=true) Â];refine Ŧb ⟨_,Z,p,_,1,_,Z,Z,ťc,WE (i:=1) rfl,_,_,Z,XM À,l1,_,Z,p,_,2,_,Z,Z,ťc,WE (i:=2) rfl,_,_,Z,XM À,l2,?_⟩;exact Łd
inductive spSay5(C:Z1)(sp:Sp)(vs:ĝ)(H:Hp)(Q:VK)(E:XK):Prop
 |mk (a dx d:Z1) (ts:Ts) (x n tx:Str) (h0:vs=[œ,íd]) (h1:Ĳb) (h2:ts.length<=3000) (h3:x.length<=2900) (h4:ĺc (spl x)) (h5:spl x=[ć "table",n,tx]) (h6:∀H1,ńa H1->sp [ĉ tx] H1 (λv H2=>Same H1 H2/\Q (ĉ "ok") (ħc H2 v)) λcls _ H2=>E cls none H2)
noncomputable def Mono(sp:Sp):Prop:=∀vs H (Q Q':VK) E,(∀v H',Q v H'->Q' v H')->ĥa->sp vs H Q' E
theorem EJ(ms:Mono sp)(kc:ţc)(D:åa C) (G:ěc) (G2:Ā 7 "read_slashed" ["text"] sp):Č P C (spSay5 C sp):=by
 refine Ěb sc_say
 ·obtain⟨a,dx,d,ts,x,n,tx,rfl,_⟩:=h;rfl
 ·obtain⟨a,dx,d,ts,x,n,tx,rfl,hd,hn,hl,hf,hs,q⟩:=h;have nd:=sc_say.nd;have hu:=UP hr;have hr6:Ŷc 6:=ż (show 6<=37 by decide);have hr7:Ŷc 7:=ż (show 7<=37 by decide);refine Ňc (pe_f G hr6 éc) Ûe (ĉc (Q5 hu Ìb Ûe (UX G2 hr7 VZ (pa1 Ûe)) rfl) ZR) WG
  refine ëd;rw[hs]at e1;refine ö e1;rw[YD (r:=false) Â];refine ĭb (ö e1);rw[YD (r:=true) Â];refine Ŧb ⟨_,Z,p,_,2,_,Z,Z,ťc,WE (i:=2) rfl,?_⟩;refine ms _ _ _ _ _ ?_ Łd;rintro v H2 ⟨s2,q2⟩;have d2:=hd.same Äc;exact Ŗ d2.ob (űc e1) (WE (i:=1) rfl) (DPut.k (k:=Öa) d2.D (by unfold kvs;rw[ZD];exact T8 À)) q2
theorem Mc:ş "self" (WQ U8 0):=scm
inductive spDInit(C:Z1)(vs:ĝ)(H:Hp)(Q:VK)(z3_:XK):Prop
 |mk (a dx:Z1) (h0:vs=[œ]) (h1:Ŵb []) (h2:∀d H',ē d->d≠a->(∀b o,ŕa a)->Ď H' []->Q .non H')
theorem Mm(kc:ţc)(D:Y6 K C "__init__" "Desk.__init__" (WQ U8 0) ["self"]):İ 1 "__init__" ["self"] (spDInit C):=by
 refine þd Mc
 ·obtain⟨a,dx,rfl,_⟩:=h;rfl
 ·obtain⟨a,dx,rfl,ea,q⟩:=h;refine ë (ZL (OO Ü CY rfl));intro d hd;have s1:=snw (o:=.dK []) hd;have nda:d≠a:=λz=>by rw[z,ea]at hd;cases hd
  refine êe [] (Ųc ea) kc.nt Ç;refine q d _ hd nda (λb o n e=>Řa n (Ųc e)) ⟨ZI,?_,(λe he=>nomatch he),.nil⟩;rw[ZP nda];exact ZI
end
end Seek
namespace L2
open PySem PySem.Spec PyProof.Rows
theorem Pg(F:ģb "__init__") (hmk:īb X.K=true) (hkp:Ũ X.K C=true) (hr:Room (k+1) X.A) (hg:ÿe) (hm:X.mg x=Ú C)
  (hdb:Ķd:=by decide):Œ (Ň x []) (ďa (∀x dx,ē x->ē dx->dx≠x->sp [Ê x] (ăa H) ėc E0)):=by
 obtain⟨f,fd,F,hmt,hb⟩:=F;have q:=Lj (p:=p) (pos:=pos) ⟨hmk,hmt.at_,hmt.fn,hkp⟩ F hr hg hm hb .nil (QS (X:=X)) hdb;intro pins s σ H Q I h;refine q pins s σ H Q I ?_;unfold OH;simp only[List.append_nil];exact h
end L2
namespace Seek
open PySem L2 PyProof.Rows
structure Err(K:ZC)(S:Z1)(cs:ãb)(i:Nat)(C:Z1):Prop where
 k:Ëd C
 sk:ıc (Ê S)=Ĥe
 kv:Ű K Âe (Ŀa "ValueError")=Ĥe
 ks:∀j D,cs[j]?=Ã D->ĵ D=Ã (è (j=i))
end Seek
namespace L2
open PySem PySem.Spec PyProof.Rows
theorem Bi:bootBuiltins "ValueError" = Ã (Ŀa "ValueError"):=by kernel_rfl
section
variable {X:Cx}
theorem RC(K:ZC)(hK:X.K=K:=by rfl):ĸ "isinstance" (∃e C D b,xs=[čc,Ê D]/\H e=Ã (excO e C)/\Ëd C/\ĵ D=Ã b/\ŉb b):=by
 subst hK;intro pins s σ H xs us Q I rv h;obtain⟨e,C,D,b,rfl,he,kC,hk,q⟩:=h;obtain⟨u,v,rfl,r1,r2⟩:=rv.two;obtain rfl:u=čc:=r1;obtain rfl:v=Ê D:=r2;exact żd (nomatch z)
theorem Cn(K:ZC)(hK:X.K=K:=by rfl):ĸ "isinstance" (∃e C T b,xs=[čc,.ty T]/\H e=Ã (excO e C)/\Ëd C/\Ű K Âe (Ŀa T)=Ã b/\ŉb b):=by
 subst hK;intro pins s σ H xs us Q I rv h;obtain⟨e,C,T,b,rfl,he,kC,hk,q⟩:=h;obtain⟨u,v,rfl,r1,r2⟩:=rv.two;obtain rfl:u=čc:=r1;obtain rfl:v=Ŀa T:=r2;exact żd (nomatch z)
end
open PySem PySem.Spec PyProof.Rows
section
variable {X:Cx}
theorem AE:∀{ds:ãb}{us:š},Ŝa (ds.map V.ref)->us=ds.map Value.ref
 | [],_,.nil=>rfl
 |d::ds,_,.cons r t=>by
  obtain rfl:=(r:_=ĩ d);rw[AE t];rfl
theorem Co(K:ZC)(hK:X.K=K:=by rfl):ĸ "isinstance" (∃(e C tp:Z1) (ds:ãb) (b:Bool),xs=[čc,Ê tp]/\H e=Ã (excO e C)/\Ëd C/\łb tp (ds.map V.ref)/\PySem.W.kitAny K Âe (ds.map Value.ref)=Ã b/\ŉb b):=by
 subst hK;intro pins s σ H xs us Q I rv h;obtain⟨e,C,tp,ds,b,rfl,he,kC,ht,hk,q⟩:=h;obtain⟨u,v,rfl,r1,r2⟩:=rv.two;obtain rfl:u=čc:=r1;obtain rfl:v=Ê tp:=r2;obtain⟨its,r,pl,hz⟩:=I.tuple ht;have ei:=AE r;subst ei;obtain⟨⟨cls,dd,data,sl⟩,e1,e2,e3⟩:=pl;obtain⟨n,e3⟩:=e3;simp only at e2 e3;subst e2 e3;exact PySem.W.kia_tup (JE kC) I.kIn (KM I he) e1 hk (λz=>nomatch z) λtk=>Ĕc b (I.tok tk)
end
end L2
namespace Seek
open PySem L2 PyProof.Rows
structure Nms(mg:Ą)(S:Z1)(cs:ãb):Prop where
 len:cs.length=12
 seek:Ūb "SeekError" S
 n0:Ūb "NoTable" (Ś 0)
 n1:Ūb "NoCell" (Ś 1)
 n2:Ūb "NoNumber" (Ś 2)
 n3:Ūb "NoSize" (Ś 3)
 n4:Ūb "NoStair" (Ś 4)
 n5:Ūb "NoLook" (Ś 5)
 n6:Ūb "NoPlace" (Ś 6)
 n7:Ūb "NoFit" (Ś 7)
 n8:Ūb "NoChange" (Ś 8)
 n9:Ūb "NoText" (Ś 9)
 n10:Ūb "NoName" (Ś 10)
 n11:Ūb "NoRow" (Ś 11)
theorem Err.kit{K:ZC}{S:Z1}{cs:ãb}{i:Nat}{C:Z1}(h:Err K S cs i C)(hl:cs.length=12)(j:Nat)(hj:j<12):ĵ (Ś j)=Ã (è (j=i)) :=
 h.ks j _ (by rw[WY,WA À];rfl)
end Seek
namespace L2
open PySem PySem.Spec PyProof.Rows
theorem Ij(K:ZC)(hK:X.K=K:=by rfl):MtM X "list.count" (Ŕd (∃(l:Z1) (bs:Æ Bool),x=Ê l/\vs=[Ĩ]/\Èb l ōd/\Q (Ó (bs.countP id)) H)):=by subst hK;exact Ii
theorem Il(K:ZC)(hK:X.K=K:=by rfl):MtM X "list.index" (Ŕd (∃(l:Z1) (bs:Æ Bool) (j:Nat),x=Ê l/\vs=[Ĩ]/\Èb l ōd/\bs[j]?=Ĥe/\(∀m,m<j->bs[m]?=Ã false)/\j<=1000/\Q (Ó j) H)):=by subst hK;exact Ik
end L2
namespace Seek
open PySem L2 PyProof.Rows
noncomputable def hdlO:Z6->Æ Z6
 | .Try _ [.ExceptHandler _ _ b _] _ _ _=>b
 |_=>[]
theorem AU{K:ZC}{C:Z1}:∀{ds:ãb},(∀d∈ds,ĵ d=Ã false)->PySem.W.kitAny K Âe (ds.map Value.ref)=Ã false
 | [],_=>rfl
 |d::ds,h=>by
  rw[Y8];unfold PySem.W.kitAny;rw[h d ůb];exact AU λd' hd=>h d' (.tail _ hd)
noncomputable def kdL:Ŧa:=[1,7,10,6,11,3,9]
noncomputable def kdW:ù:=[ć "cell", "fit","name","place","row","size","text"]
noncomputable def kdB(j:Nat):Æ Bool:=kdL.map λm=>è (m=Ĉc)
theorem Vi(h:j<7):(kdB j).countP id=1:=(Ç:∀j:Fin 7,(kdB j).countP id=1) (ã j h)
theorem Wz(h:j<7):(kdB j)[j]?=Ĥe:=(Ç:∀j:Fin 7,(kdB j)[ũ j]?=Ĥe) (ã j h)
theorem Nf(h:j<7)(m:Nat)(hm:m<j):(kdB j)[m]?=Ã false:=(Ç:∀j:Fin 7,∀m:Fin 7,ũ m<j->(kdB j)[ũ m]?=Ã false) (ã j h) (Ąd m) hm
theorem Ir(h:j<7):∀m∈[8,5,2,4,0],m≠Ĉc:=(Ç:∀j:Fin 7,∀m∈[8,5,2,4,0],m≠kdL.getD (ũ j) 0) (ã j h)
theorem Ro(h:j<7):kdW[j]?=Ã Śd:=by
 rw[WY,WA (show j<kdW.length from h)];rfl
section
variable {P:Z3}{w:Z5}{K:ZC}{mg:Ą}{base:Z8}{S C:Z1}{cs:ãb}
noncomputable def Refs(cs:ãb)(sp:Sp)(H:Hp)(a:Z1)(x:V)(i:Nat):Prop:=∀(H1:Hp) (Q:VK) (E:XK),ńa H1->(∀H',ç H1->Åb (Ś i))->sp [œ,x] H1 Q E
inductive spSaid(C:Z1)(cs:ãb)(sp:Sp)(vs:ĝ)(H:Hp)(Q:VK)(z3_:XK):Prop
 |mk (a dx:Z1) (fs:ġa V) (x:V) (j:Nat) (h0:vs=[œ,x]) (h1:Ŵb fs) (h2:Ġb (ć "say")=none) (h3:j<7) (h4:Refs cs sp H a x Ĉc) (h5:∀F H',ē F->Àa H F [Ĩ,ĉ Śd])
noncomputable abbrev sdN:ù:=["desk","row","found","e","kinds","others","words"]
theorem sc_said:ä sdN ["desk","row"] RN:=scm
theorem Sv{sp:Sp}(T:ûa)(hve:ě "ValueError") (N:Nms mg S cs) (kS:Ëd S) (kc:ţc) (Er:∀j,j<7->Err K S cs Ĉc (Ś Ĉc)) (D:Űd)
  (M:Č P C sp):Ä 39 "_law_said" ["desk","row"] (spSaid C cs sp):=by
 refine Á sc_said
 ·obtain⟨a,dx,fs,x,j,rfl,_⟩:=h;rfl
 ·obtain⟨a,dx,fs,x,j,rfl,ha,hfs,hj,hrf,q⟩:=h;have nd:=sc_said.nd;have er:=Er j hj;obtain⟨th,hth,hq⟩:∃th:TS,(∀v,PSs ((û CX0 sdN "_law_said" (ZJ RN) gv ou).nox.hand v) (hdlO (ÿ RN 1)) th) /\ ∀(e F:Z1) (H':Hp) (D:Ends),H' e=Ã (excO e (Ś Ĉc)) -> (∀F2 H2 o4 o5 o6,Ďe F2->Same H' H2->H2 F2=Ù [Ĩ,ĉ Śd]->D.nx [Ú a,äd,Ú F2,Ú e,o4,o5,o6] H2)->th D [Ú a,äd,Ú F,Ú e,none,none,none] H':=by
   refine ë (λv=>Ħ (È 4 (WN (ZF (Ÿc (YX (v:=Ê _) rfl N.n1 rfl)) (į (Ÿc (YX (v:=Ê _) rfl N.n7 rfl)) (Ÿc (YX (v:=Ê _) rfl N.n10 rfl)))))) (È 4 (ZN SN ŕc (WN (į (Ÿc (YX (v:=Ê _) rfl N.n6 rfl)) (Ÿc (YX (v:=Ê _) rfl N.n11 rfl)))))) (Ħ (È 4 (ZN SN ŕc (WN (į (Ÿc (YX (v:=Ê _) rfl N.n3 rfl)) (Ÿc (YX (v:=Ê _) rfl N.n9 rfl)))))) (È 5 (Ĉ (Co K) (â 3 (US (ZF (YX (v:=Ê _) rfl N.n8 rfl) (ZF (YX (v:=Ê _) rfl N.n5 rfl) (ZF (YX (v:=Ê _) rfl N.n2 rfl) (į (YX (v:=Ê _) rfl N.n4 rfl) (YX (v:=Ê _) rfl N.n0 rfl))))))))) (ZG (Ģe 2 ZR) (ZL (ZZ (PW.pt (RV (WP (Ĉ (Cn K) (â 3 (V6 hve Bi)))) (RV (Ģd (pv 5)) (PB (pcm WH (K6 K X3 PySem.F.slot_list_count PySem.F.type_list_count (Ij K) ŕc (pa1 U9)) ZB))))) (ZG (È 6 (ũb ZR (ZF ZR (ZF ZR (ZF ZR (į ZR ZR)))))) (ZL (Ģe 2 (pix (ixL K) (pv 6) (K6 K X3 PySem.F.slot_list_index PySem.F.type_list_index (Il K) ŕc (pa1 U9)))))) W0)))))
   intro e F H' D he q;have kk:=er.kit N.len;have hr2:ø 2:=Ç
   refine⟨_,Z,e,_,_,_,Z,he,er.k,kk 1 Ç,_,Z,e,_,_,_,Z,he,er.k,kk 7 Ç,_,Z,e,_,_,_,Z,he,er.k,kk 10 Ç,(by show ø 3;decide),λl1 h1=>?_⟩;have s1:=snw (o:=.lst ((kdB j).take 3 |>.map V.bl)) h1;have e1:(Ï H' l1 ((kdB j).take 3 |>.map V.bl)) l1=Ù ((kdB j).take 3 |>.map V.bl):=ZI;have s1':Ĝa H' H' l1 Ēe:=s1;have e1':(Ï H' l1 Ēe) l1=Ù Ēe:=e1;clear s1 e1;generalize Ï H' l1 Ēe=H2 at s1' e1' ⊢;have he2:=s1' _ _ he;refine⟨_,Z,_,Z,e,_,_,_,Z,he2,er.k,kk 6 Ç,_,Z,e,_,_,_,Z,he2,er.k,kk 11 Ç,hr2,λl2 h2=>⟨l1,l2,_,_,Z,Z,snw h2 _ _ e1',ZI,(by show ø 5;decide),λl3 h3=>?_⟩⟩;have s3:Ĝa H2 (Ï H2 l2 [Î 6,Î 11]) l3 (Ēe++[Î 6,Î 11]):=(snw h2).trans (snw h3);have e3:(Ï (Ï H2 l2 [Î 6,Î 11]) l3 (Ēe++[Î 6,Î 11])) l3=Ù ğe:=ZI;generalize Ï (Ï H2 l2 [Î 6,Î 11]) l3 (Ēe++[Î 6,Î 11])=H3 at s3 e3 ⊢;have he3:=øe he2;refine⟨_,Z,_,Z,e,_,_,_,Z,he3,er.k,kk 3 Ç,_,Z,e,_,_,_,Z,he3,er.k,kk 9 Ç,hr2,λl4 h4=>⟨l3,l4,_,_,Z,Z,snw h4 _ _ e3,ZI,(by show ø 7;decide),λl5 h5=>?_⟩⟩;have s5:Ĝa H3 (Ï H3 l4 [Î 3,Î 9]) l5 (ğe++[Î 3,Î 9]):=(snw h4).trans (snw h5);have e5:(Ï (Ï H3 l4 [Î 3,Î 9]) l5 (ğe++[Î 3,Î 9])) l5=Ù ((kdB j).map V.bl):=ZI;generalize Ï (Ï H3 l4 [Î 3,Î 9]) l5 (ğe++[Î 3,Î 9])=H5 at s5 e5 ⊢;have he5:=s5 _ _ he3;have s15:=(s1'.trans s3).trans s5;refine Óe (by show ø 5;decide) (λp2 h6=>⟨e,_,p2,[Ś 8,Ś 5,Ś 2,Ś 4,Ś 0],false,Z,snw h6 _ _ he5,er.k,sqt ZI,AU λd hd=>?_,?_⟩)
   ·have ko:=Ir hj;simp only[W9,YH,or_false]at hd;rcases hd with rfl | rfl | rfl | rfl | rfl
    ·rw[kk 8 Ç,ZW (ko 8 Ç)]
    ·rw[kk 5 Ç,ZW (ko 5 Ç)]
    ·rw[kk 2 Ç,ZW (ko 2 Ç)]
    ·rw[kk 4 Ç,ZW (ko 4 Ç)]
    ·rw[kk 0 Ç,ZW (ko 0 Ç)]
   have s6:=snw (o:=.tup [Ê (Ś 8),Ê (Ś 5),Ê (Ś 2),Ê (Ś 4),Ê (Ś 0)]) h6;have e6:=s6 _ _ e5;have he6:=s6 _ _ he5;have s16:=s15.trans s6;generalize Ě H5 p2 [Ê (Ś 8),Ê (Ś 5),Ê (Ś 2),Ê (Ś 4),Ê (Ś 0)]=H6 at s6 e6 he6 s16 ⊢;refine ã hr2 (λp4 h7=>?_);have s7:=snw (o:=.lst [Ĩ,ĉ "other"]) h7;have e7:=s7 _ _ e6;have he7:=s7 _ _ he6;have s17:=s16.trans s7;generalize Ï H6 p4 [Ĩ,ĉ "other"]=H7 at s7 e7 he7 s17 ⊢;refine⟨_,Z,e,_,_,_,Z,he7,er.k,er.kv,_,Z,Ŧb (şc Z _ Z (Ŧb ⟨_,Z,õb e7,l5,kdB j,Z,Z,sqo e7,Z,_,Z,?_⟩))⟩;rw[Vi hj,show è (Žb (Ý 1)=Žb 1)=true from ZS rfl];refine Ŧb (ã (by show ø 7;decide) (λp5 h8=>?_));have s8:=snw (o:=.lst (kdW.map V.str)) h8;refine⟨_,Z,_,Z,õb (s8 _ _ e7),l5,kdB j,j,Z,Z,sqo (s8 _ _ e7),Wz hj,Nf hj,À,p5,kdW.map V.str,Þ j,ĉ Śd,Z,Z,sqo ZI,WE (by rw[ZX,Ro hj];rfl),hr2,λp6 h9=>?_⟩;exact q p6 _ _ _ _ (s17.free (s8.free h9)) ((s17.trans s8).trans (snw h9)) ZI
  refine ĉb (Ģe 2 F8) (FB (i:=3) rfl rfl nd kS N.seek Ŗd (λv=>hth v)) (Ġ Ķa)
  refine ã (by show ø 2;decide) (λF hF=>?_);have sF:=snw (o:=.lst İd) hF;generalize Ï H F İd=H1 at sF ⊢;refine⟨_,Z,a,dx,fs,Z,sF _ _ ha,hfs,_,Z,hrf H1 _ _ sF λH' s'=>?_⟩;refine şc Z er.k er.sk (λe he=>hq e F _ _ ZI λF2 H2 o4 o5 o6 h2 s2 e2=>?_);have sB:=(sF.trans s').trans (snw (o:=excO e (Ś Ĉc)) he);exact ža (q F2 H2 (sB.free h2) (sB.trans s2) e2)
end
open PySem L2 PyProof.Rows
section
variable {P:Z3}{w:Z5}{K:ZC}{mg:Ą}{base:Z8}{C c:Z1}
theorem Mg:ş "self" (WQ U8 1):=scm
inductive spNames(C:Z1)(vs:ĝ)(H:Hp)(Q:VK)(z3_:XK):Prop
 |mk (a dx d:Z1) (ts:Ts) (h0:vs=[œ]) (h1:Ĳb) (h2:ts.length<64) (h3:∀(D:Z1) (ss:ù),ē D->ss.Perm (îc (·.1))->sortedS ss=true->èc D (ss.map V.str))
theorem QC(ts:Ts):(Łc).map (·.1)=(îc (·.1)).map Sum.inr:=by
 unfold kvs;rw[W7,W7];rfl
theorem Mt(hso:ěb) (kc:ţc) (D:Y6 K C "names" "Desk.names" (WQ U8 1) ["self"]):ãc:=by
 refine þd Mg
 ·obtain⟨a,dx,d,ts,rfl,_⟩:=h;rfl
 ·obtain⟨a,dx,d,ts,rfl,hd,hn,q⟩:=h;refine Ňb (ßb (Dj rfl) (pa1 Ìb));exact⟨_,Z,a,C,dx,_,_,Z,hd.ob,kc.cls,kc.nt,Z,d,Łc,îc (·.1),Z,hd.D,QC ts,by rw[ZD];exact hn,q⟩
end
open PySem L2 PyProof.Rows
structure StairP(r p:Nat)(ns:Ċ):Prop where
 len:ns.length=r
 bd:∀n∈ns,0<=n/\n<=Þ p
 down:∀i,ďe ůa->Ģa ůa<=Ģa i
theorem CG{ns:Ċ}{i:Nat}(h:ďe i):ns.reverse.getD i 0=Ģa (ns.length-1-i):=by
 rw[WY,WY,List.getElem?_reverse h]
theorem StairP.nf{r p:Nat}{ns:Ċ}(h:StairP r p ns):nfB ns.reverse=true:=by
 refine nfB_iff.mpr λi hi=>?_;rw[List.length_reverse]at hi;rw[CG À,CG hi];have:=h.down (ns.length-1-(ůa)) À;rw[show ns.length-1-(ůa)+1=ns.length-1-i by omega]at this;exact this
open PySem L2 PyProof.Rows
section
variable {P:Z3}{w:Z5}{K:ZC}{mg:Ą}{base:Z8}
inductive spIsStair(vs:ĝ)(H:Hp)(Q:VK)(z3_:XK):Prop
 |mk (a:Z1) (ns:Ċ) (r p:Nat) (h0:vs=[œ,Ó r,Ó p]) (h1:Üe) (h2:StairP r p ns) (h3:r<=100) (h4:∀H',ū Ĩ)
theorem Fj:ä ûc ûc M6:=scm
theorem Ek(T:ûa)(hre:ě "reversed") (D:é "is_stair" M6 ûc) (G1:čb (spAllWhole K)) (G2:Ä 1 "never_falls" ["numbers"] spNF):Ä 3 "is_stair" ûc spIsStair:=by
 refine Á Fj
 ·obtain⟨a,ns,r,p,rfl,_⟩:=h;rfl
 ·obtain⟨a,ns,r,p,rfl,hR,hs,hr4,q⟩:=h;have hn:ns.length<=1000:=by rw[hs.len];omega
  have nd1:(["step","places"]:ù).Nodup:=Â
  refine ĉb (pifF (PW.pt (U6 (Ģd îd) (U6 (pcm SJ Ïd ó) (UO (Ģd (Ĺ G1 hr))))))) (pifF (Ģd (Ē ["step","places"] [none,Ã 2] M6 ûc (Y7 Ü) nd1 (XN o_le o_le ZB Ü ó)))) (Ġ (pe_f G2 Ĩd (pa1 (Eu rfl T.list hre Ü))))
  refine Îd _ (.lst hR) (LS _) (ĭb ⟨_,Z,a,_,Z,Ė hR.sq,_,Z,Z,_,Z,?_⟩);rw[ZD,hs.len,ZS rfl];refine ĭb (Řc a ns hR hn (λH1 s1=>ža (ĭb ?_)));have hR1:=hR.same s1;refine Ća a hR1.sq (V0 V.int (λ_=>Ĩ) hR1.sq (sl6 hn) (λn hx H' Q' sm q'=>?_) λD1 H2 hD1 s2 hDl=>?_)
  ·obtain⟨b1,b2⟩:=hs.bd n hx;refine Ìa ?_;rw[ZS b1];refine Ŧb ⟨_,Z,_,_,Z,Z,?_⟩;rw[ZS b2];exact Īc
  ·refine⟨D1,ns.map řd,Z,sqo (by rw[hDl];simp[Function.comp]),_,Z,?_⟩;rw[KQ];have hR2:=hR1.same s2;refine ĭb ⟨_,Z,a,_,Z,hR2.sq,λp2 hp2=>?_⟩;have r3:Row (Ï H2 p2 (Æa).reverse) p2 ns.reverse:=by
    unfold Row;rw[ZI,List.map_reverse]
   refine⟨p2,ns.reverse,Z,r3,by rw[List.length_reverse];exact hn,λH3 s3=>?_⟩;rw[hs.nf];exact q H3 (Ľ (s2.trans ((snw hp2).trans s3)))
inductive spIsSide(vs:ĝ)(H:Hp)(Q:VK)(z3_:XK):Prop
 |mk (r:Nat) (h0:vs=[Ó r]) (h1:1<=r) (h2:r<=4) (h3:Q Ĩ H)
theorem Gz:ä Ę Ę PK:=scm
theorem Jo(T:ûa)(D:é "is_side" PK Ę) (G:Īa):Ä 2 "is_side" Ę spIsSide:=by
 refine Á Gz
 ·obtain⟨r,rfl,_⟩:=h;rfl
 ·obtain⟨r,rfl,h1,h4,q⟩:=h;obtain⟨tk,ms⟩:=T.ms;refine ýe űb (XN o_le o_le ZB Ü (YX (v:=ô 4) rfl ms Ôe));refine Ŀb Z _ (Ŧb (Ìa ?_));rw[ZS (show Þ 1<=ũ r by omega)];refine Ŧb (şc _ Z Z ?_);rw[ZS (show Ý r<=4 by omega)];exact q
inductive spNeedSize(vs:ĝ)(H:Hp)(Q:VK)(z3_:XK):Prop
 |mk (r p:Nat) (h0:vs=şb) (h1:1<=r) (h2:r<=4) (h3:1<=p) (h4:p<=4) (h5:Q .non H)
theorem Dg:ä Ša Ša O0:=scm
theorem Dv(D:é "need_size" O0 Ša) (G:Ä 2 "is_side" Ę spIsSide):Ä 3 "need_size" Ša spNeedSize:=by
 refine Á Dg
 ·obtain⟨r,p,rfl,_⟩:=h;rfl
 ·obtain⟨r,p,rfl,h1,h2,h3,h4,q⟩:=h;refine āc (řb (Ģd űb) (ŭ G éc)) WG;exact⟨_,Z,r,Z,h1,h2,_,Z,ĭb ⟨_,Z,p,Z,h3,h4,_,Z,ĭb q⟩⟩
inductive spAbove(vs:ĝ)(H:Hp)(Q:VK)(z3_:XK):Prop
 |mk (a b:Z1) (ls hs:Ċ) (h0:vs=[œ,ťd]) (h1:Row H a ls) (h2:Row H b hs) (h3:ls.length=hs.length) (h4:ls.length<=100) (h5:(∀i,i<ls.length->ls.getD i 0<=hs.getD i 0)) (h6:∀H',ū Ĩ)
theorem Ma:ä ["low","high"] ["low","high"] OK:=scm
theorem Lq(T:ûa)(hzip:ě "zip") (D:é "is_at_no_row_above" OK ["low","high"]):Ä 1 "is_at_no_row_above" ["low","high"] spAbove:=by
 refine Á Ma
 ·obtain⟨a,b,ls,hs,rfl,_⟩:=h;rfl
 ·obtain⟨a,b,ls,hs,rfl,hA,hB,hl,hn,hle,q⟩:=h;have nd1:(["lower","higher"]:ù).Nodup:=Â
  refine Ňb (pe_b (V7 rfl) T.all boot_all (pa1 (Ì ["lower","higher"] [none,none] OK ["low","high"] (Xx rfl hzip ųd) (O9 K rfl nd1) Y0 (Æe o_le Ü ó))))
  refine⟨_,Z,_,Z,a,b,Z,Ņ hA.sq,Ņ hB.sq,Kq (λ_=>Ĩ) hA.sq hB.sq hl À (λi hi H' Q' sm q'=>?_) λD1 H2 hD1 s2 hDl=>?_⟩
  ·refine⟨_,Z,_,Z,_,_,Z,Z,?_⟩;rw[ZS (hle i hi)];exact Īc
  ·refine ŗd D1 ((Ĵ ls.length).map řd) (by rw[hDl];simp[Function.comp]) ?_;rw[KQ];exact q H2 s2
structure TwoSt(r p:Nat)(ls hs:Ċ):Prop where
 lo:StairP r p ls
 hi:StairP r p hs
 le:∀i,i<r->ls.getD i 0<=hs.getD i 0
inductive spNeedStairs(vs:ĝ)(H:Hp)(Q:VK)(z3_:XK):Prop
 |mk (r p:Nat) (a b:Z1) (ls hs:Ċ) (h0:vs=[Ó r,Ó p,œ,ťd]) (h1:r<=4) (h2:Row H a ls) (h3:Row H b hs) (h4:TwoSt r p ls hs) (h5:∀H',ū .non)
theorem Ba:ä Ċa Ċa IV:=scm
theorem Bd(D:é "need_stairs" IV Ċa) (G1:Ä 3 "is_stair" ûc spIsStair) (G2:Ä 1 "is_at_no_row_above" ["low","high"] spAbove):Ä 4 "need_stairs" Ċa spNeedStairs:=by
 refine Á Ba
 ·obtain⟨r,p,a,b,ls,hs,rfl,_⟩:=h;rfl
 ·obtain⟨r,p,a,b,ls,hs,rfl,h4,hA,hB,hS,q⟩:=h;refine āc (PW.pt (U6 (ŭ G1 (ZF Ķa ųd)) (U6 (ŭ G1 (ZF Żc ųd)) (UO (Ģd (Ýa G2 Ĩd Ķa 3)))))) WG;exact⟨_,Z,_,Z,_,Z,a,ls,r,p,Z,hA,hS.lo,À,λH1 s1=>ža (ĭb ⟨_,Z,_,Z,_,Z,b,hs,r,p,Z,hB.same s1,hS.hi,À,λH2 s2=>ža (ĭb ⟨_,Z,_,Z,a,b,ls,hs,Z,(hA.same s1).same s2,(hB.same s1).same s2,by rw[hS.lo.len,hS.hi.len],by rw[hS.lo.len];omega,λi hi=>hS.le i (by rw[<- hS.lo.len];exact hi),λH3 s3=>ža (ĭb (q H3 (Ľ Ųd)))⟩)⟩)⟩
noncomputable def opnB(ls hs:Ċ)(i j:Nat):Bool:=è (ls.getD i 0<=Þ j)&&è (Þ j<hs.getD i 0)
inductive spLeftOpenB(vs:ĝ)(H:Hp)(Q:VK)(z3_:XK):Prop
 |mk (a b c:Z1) (ls hs:Ċ) (i j:Nat) (h0:vs=[œ,ťd,Ê c]) (h1:Row H a ls) (h2:Row H b hs) (h3:Ķc) (h4:i<ls.length) (h5:i<hs.length) (h6:ŉb (opnB ls hs i j))
theorem Df:ä Ýc Ýc IA:=scm
theorem Cq(D:é "is_left_open" IA Ýc):Ä 1 "is_left_open" Ýc spLeftOpenB:=by
 refine Á Df
 ·obtain⟨a,b,c,ls,hs,i,j,rfl,_⟩:=h;rfl
 ·obtain⟨a,b,c,ls,hs,i,j,rfl,hA,hB,hC,i1,i2,q⟩:=h;refine Ňb (XN o_le o_lt (Èe Ü (ü VF 2)) (ü VF 2) (Èe ó (ü VF 2)));refine⟨_,Z,_,Z,c,_,0,Ŧd,Z,Z,sqt hC,Z,a,_,_,ô (ls.getD i 0),Z,Z,hA.sq,XG i1,_,Z,c,_,1,Ó j,Z,Z,sqt hC,Z,_,_,Z,Z,_,Z,?_⟩;unfold opnB at q
  by_cases h1:ls.getD i 0<=Þ j
  ·rw[ZS h1]at q ⊢;refine Ŧb ⟨_,Z,_,Z,c,_,0,Ŧd,Z,Z,sqt hC,Z,b,_,_,ô (hs.getD i 0),Z,Z,hB.sq,XG i2,_,_,Z,Z,?_⟩;rw[Bool.true_and]at q;exact q
  ·rw[ZW h1]at q ⊢;rw[Bool.false_and]at q;exact ĭb q
end
end Seek
namespace Seek
noncomputable def lsI(w c o:Nat):Bool:=è (o/w<c/w)||è (o%w<c%w)
noncomputable def mrI(w c o:Nat):Bool:=è (c/w<o/w)||è (c%w<o%w)
noncomputable def minN:Ŧa->Nat
 | []=>0
 | [a]=>a
 |a::b::r=>min a (minN (b::r))
theorem KC:∀{L:Ŧa}{a:Nat},a∈L->minN L<=a
 | [],_,h=>nomatch h
 | [x],a,h=>by
  have:a=x:=by simpa using h
  subst this;exact ħ
 |x::y::r,a,h=>by
  rcases ĳd h with z | z
  ·subst z;exact Nat.min_le_left _ _
  ·exact WB (Nat.min_le_right _ _) (KC z)
theorem CO:∀{L:Ŧa},L≠[]->minN L∈L
 | [],h=>ń rfl h
 | [x],_=>by simp[minN]
 |x::y::r,_=>by
  have ih:minN (y::r)∈y::r:=CO Í;unfold minN;rcases Nat.le_total x (minN (y::r))with z | z
  ·rw[Nat.min_eq_left z];exact ůb
  ·rw[Nat.min_eq_right z];exact .tail _ ih
theorem Sa(h:M∈L)(hm:∀a∈L,M<=a):M=minN L :=
 Nat.le_antisymm (hm _ (CO (λz=>by rw[z]at h;nomatch h))) (KC h)
noncomputable def fwN(w:Nat):Nat->Ŧa->Nat
 | 0,_=>0
 |n+1,L=>minN (L.map λc=>1+max (fwN w n (L.filter (lsI w c))) (fwN w n Ăd))
theorem QL{w c:Nat}{L:Ŧa}(h:c∈L):î (L.filter (lsI w c))<L.length:=List.length_filter_lt_length_iff_exists.mpr (ő c h (by simp[lsI]))
theorem QM{w c:Nat}{L:Ŧa}(h:c∈L):î Ăd<L.length:=List.length_filter_lt_length_iff_exists.mpr (ő c h (by simp[mrI]))
theorem NC(w n:Nat):fwN w n []=0:=by cases n<;>simp[fwN,minN]
theorem P5(w:Nat):∀(n m:Nat) (L:Ŧa),L.length<=n->L.length<=m->fwN w n L=fwN w m L
 | 0,m,L,h,_=>by
  have:L=[]:=Ğb À;rw[this,NC,NC]
 |n+1,0,L,_,h=>by
  have:L=[]:=Ğb À;rw[this,NC,NC]
 |n+1,m+1,L,h1,h2=>by
  unfold fwN;refine ęb minN (Ź (èd ?_));have a1:=QL (w:=w) hc;have a2:=QM (w:=w) hc;rw[P5 w n m _ À À,P5 w n m _ À À]
noncomputable def fw(w:Nat)(L:Ŧa):Nat:=fwN w L.length L
noncomputable def thr(w:Nat)(L:Ŧa)(c:Nat):Nat:=1+max (fw w (L.filter (lsI w c))) (fw w Ăd)
theorem LV(w:Nat):fw w []=0:=rfl
theorem MZ(w:Nat)(L:Ŧa):fw w L=minN (L.map (thr w L)):=by
 unfold fw;rw[P5 w L.length (L.length+1) L ħ Æc];unfold fwN;refine ęb minN (Ź (èd ?_));have a1:=QL (w:=w) hc;have a2:=QM (w:=w) hc;unfold thr fw;rw[P5 w L.length _ _ À ħ,P5 w L.length _ Ăd À ħ]
theorem O6(w:Nat):∀(n:Nat) (L:Ŧa),L.length<=n->fw w L<=L.length
 | 0,L,h=>by
  have:L=[]:=Ğb À;rw[this,LV];exact ħ
 |n+1,[],_=>by rw[LV];exact ħ
 |n+1,c::r,h=>by
  have hc:c∈c::r:=ůb;have a1:=QL (w:=w) hc;have a2:=QM (w:=w) hc;have b1:=O6 w n ((c::r).filter (lsI w c)) À;have b2:=O6 w n ((c::r).filter (mrI w c)) À;rw[MZ];have:=KC (L:=(c::r).map (thr w (c::r))) (a:=thr w (c::r) c) (Ń c hc);unfold thr at this ⊢;have m:max (fw w ((c::r).filter (lsI w c))) (fw w ((c::r).filter (mrI w c)))<=î (c::r)-1:=Nat.max_le.mpr (Ąd À);omega
theorem IW{α β:Type}(g:α->β)(q:β->Bool):∀L:Æ α,(L.map g).filter q=(L.filter λa=>q (g a)).map g
 | []=>rfl
 |a::r=>by
  rw[Y8,List.filter_cons,List.filter_cons,IW g q r];split<;>simp
theorem KO(hg:∀i,g i/w'=i/w/\g i%w'=i%w):∀(n:Nat) (L:Ŧa),fwN w' n (L.map g)=fwN w n L
 | 0,_=>rfl
 |n+1,L=>by
  unfold fwN;rw[W7];refine ęb minN (Ź (èd ?_));have e1:(L.map g).filter (lsI w' (g c))=(L.filter (lsI w c)).map g:=by
   rw[IW]
   congr 2
   funext o
   unfold lsI;rw[(hg o).1,(hg o).2,(hg c).1,(hg c).2]
  have e2:(L.map g).filter (mrI w' (g c))=(Ăd).map g:=by
   rw[IW]
   congr 2
   funext o
   unfold mrI;rw[(hg o).1,(hg o).2,(hg c).1,(hg c).2]
  show 1+max (fwN w' n ((L.map g).filter (lsI w' (g c)))) (fwN w' n ((L.map g).filter (mrI w' (g c))))=_;rw[e1,e2,KO hg n,KO hg n]
theorem Ve(hg:∀i,g i/w'=i/w/\g i%w'=i%w)(L:Ŧa):fw w' (L.map g)=fw w L:=by
 unfold fw;rw[ZD,KO hg]
noncomputable def phi(p i:Nat):Nat:=4*(i/p)+i%p
theorem Xw(h1:1<=p)(h4:p<=4)(i:Nat):phi p i/4=i/p/\phi p i%4=i%p:=by
 have:i%p<4:=WT (X9 i h1) h4;unfold phi;omega
noncomputable def W3(n m:Nat):Ŧa:=(Ĵ n).filter λi=>ße
theorem JX(n m:Nat):î ĝb<=n:=by
 have:=X2 (λi=>ße) (Ĵ n);rw[List.length_range]at this;exact this
theorem mem_bitsN:i∈ĝb ↔ i<n/\ße=true:=by
 unfold W3;rw[List.mem_filter,List.mem_range]
theorem Kk(n m k:Nat):W3 n (m &&& k)=(ĝb).filter λi=>k.testBit i:=by
 unfold W3;rw[List.filter_filter]
 congr 1
 funext i
 rw[Nat.testBit_and,Bool.and_comm]
theorem MF(h:∀i,i<n->k.testBit i=q i):W3 n (m &&& k)=(ĝb).filter q:=by
 rw[Kk];refine List.filter_congr λi hi=>h i (mem_bitsN.mp hi).1
theorem Gn(n:Nat):W3 n 0=[]:=by
 unfold W3;rw[List.filter_eq_nil_iff];intro i _;simp
noncomputable def msum(n:Nat)(S:Nat->Bool):Nat:=(((Ĵ n).filter S).map λi=>2 ^ i).sum
theorem A7(n:Nat)(S:Nat->Bool):msum (n+1) S=msum n S+if S n then 2 ^ n else 0:=by
 unfold msum;rw[List.range_succ,List.filter_append,W2,List.sum_append]
 congr 1
 by_cases h:S n=true
 ·rw[ZH h,List.filter_cons,ZH h];simp
 ·rw[ZE h,List.filter_cons,ZE h];simp
theorem NG(S:Nat->Bool):∀n,msum n S<2 ^ n
 | 0=>by simp[msum]
 |n+1=>by
  rw[A7,Nat.pow_succ];have:=NG S n;split<;>omega
theorem QD(S:Nat->Bool):∀n i,(msum n S).testBit i=(è (i<n)&&S i)
 | 0,i=>by simp[msum]
 |n+1,i=>by
  rw[A7];have hl:=NG S n;have ih:=QD S n;rcases Nat.lt_trichotomy i n with z | z | z
  ·rw[ZS (show i<n+1 by omega)];split
   ·rw[Nat.add_comm,Nat.testBit_two_pow_add_gt z,ih i,ZS z]
   ·rw[Nat.add_zero,ih i,ZS z]
  ·subst z;rw[ZS (show i<ůa by omega)];split
   ·rename_i h
    rw[Nat.add_comm,Nat.testBit_two_pow_add_eq,Āe hl,h];rfl
   ·rename_i h
    rw[Nat.add_zero,Āe hl];simp at h;rw[h];rfl
  ·rw[ZW (show ¬i<n+1 by omega),Bool.false_and];refine Āe (WT (m:=2 ^ (n+1)) ?_ (ŝa z));rw[Nat.pow_succ];split<;>omega
theorem IH(n:Nat)(S:Nat->Bool):W3 n (msum n S)=(Ĵ n).filter S:=by
 unfold W3;refine List.filter_congr λi hi=>?_;rw[QD,ZS (Àc hi),Bool.true_and]
theorem Rv:(m &&& 2 ^ i=0)=(ße=false):=by
 apply propext;constructor
 ·intro h;have:=ęb (λz=>z.testBit i) h;simp only[Nat.testBit_and,Nat.testBit_two_pow_self,Bool.and_true,Nat.zero_testBit]at this;exact this
 ·intro h;apply Nat.eq_of_testBit_eq;intro j;rw[Nat.testBit_and,Nat.testBit_two_pow,Nat.zero_testBit]
  by_cases e:i=j
  ·subst e;rw[h];rfl
  ·rw[ZW e,Bool.and_false]
open PySem L2 PyProof.Rows
section
variable {P:Z3}{w:Z5}{K:ZC}{mg:Ą}{base:Z8}
end
end Seek
namespace Seek
theorem MS:∀(N:Nat) (l:Ŧa),l.Nodup->(∀x∈l,x<N)->l.length<=N
 | 0,[],_,_=>ħ
 | 0,x::r,_,h=>ń (h x ůb) À
 |N+1,l,hn,h=>by
  have h1:=MS N (l.filter λx=>è (x≠N)) (hn.filter _) (λx hx=>by
   have:=Üd hx;have h2:=h x this.1;have h3:x≠N:=by simpa using this.2
   omega)
  have h2:î (l.filter λx=>! è (x≠N))<=1:=by
   have hn2:Çe (l.filter λx=>! è (x≠N)):=hn.filter _;have hm:∀x∈l.filter (λx=>! è (x≠N)),x=N:=λx hx=>by simpa using(Üd hx).2
   generalize l.filter (λx=>! è (x≠N))=q at hn2 hm
   match q,hn2,hm with
   | [],_,_=>exact WW _
   | [_],_,_=>exact ħ
   |a::b::r,hn2,hm =>
    exfalso;have e1:=hm a ůb;have e2:=hm b (.tail _ ůb);have:=(VC.mp hn2).1;exact this (by rw[e1,<- e2];exact ůb)
  have h3:=List.length_eq_countP_add_countP (λx=>è (x≠N)) (l:=l);rw[List.countP_eq_length_filter,List.countP_eq_length_filter]at h3;have e:(l.filter λx=>è (¬è (x≠N)=true))=l.filter λx=>! è (x≠N):=by
   congr 1
   funext x
   by_cases z:x=N<;>simp[z]
  rw[e]at h3;omega
theorem Kl(hm:m<2 ^ n)(h:ĝb=[]):m=0:=by
 apply Nat.eq_of_testBit_eq;intro i;rw[Nat.zero_testBit]
 by_cases hi:i<n
 ·cases e:ße with
  |false=>rfl
  |true =>
   have:i∈ĝb:=mem_bitsN.mpr (ã hi e);rw[h]at this
   nomatch this
 ·exact Āe (WT hm (ŝa À))
theorem OI(h:m<2 ^ n):m &&& k<2 ^ n:=UW Nat.and_le_left h
theorem Ua(h1:∀c∈L,b<=thr w L c)(h2:∃c∈L,b=thr w L c):b=fw w L:=by
 rw[MZ];obtain⟨c,hc,e⟩:=h2;refine Sa (ZT.mpr (ő c hc e.symm)) λa ha=>?_;obtain⟨c',hc',rfl⟩:=Áb ha;exact h1 c' hc'
open PySem L2 PyProof.Rows
noncomputable def But1(s:Z1)(H H':Hp):Prop:=∀b o,ŕa s
theorem But1.refl(s:Z1)(H:Hp):But1 s H H:=λ_ _ _ e=>e
theorem But1.trans{s:Z1}{H H1 H2:Hp}(a:But1 s H H1)(b:But1 s H1 H2):But1 s H H2:=λc o n e=>b c o n (a c o n e)
structure Kno(w n:Nat)(kvs:Âb):Prop where
 nd:Çe (kvs.map (·.1))
 ok:∀k v,ġe=ôc->∃m:Nat,k=Ŋc/\m<2 ^ n/\v=Êb w n
theorem Kh{kvs:Âb}{p:Key×V}(h:p∈kvs):∃v,Ęa p.1=ôc:=by
 cases e:Ęa p.1 with
 |some v=>exact ã v Z
 |none=>exact ń (Ń p h) (NY e)
theorem Kno.len{w n:Nat}{kvs:Âb}(h:Kno w n kvs):kvs.length<=2 ^ n:=by
 have f:∀p∈kvs,∃m:Nat,p.1=Ŋc/\m<2 ^ n:=Ļ (by
  obtain⟨v,e⟩:=Kh hp;obtain⟨m,h1,h2,_⟩:=h.ok _ _ e;exact ő m h1 h2)
 let g:Key->Nat:=λk=>match k with | .inl i=>i.toNat | .inr _=>0
 have hg:∀p∈kvs,p.1=Ė (Ý (g p.1))/\g p.1<2 ^ n:=Ļ (by
  obtain⟨m,h1,h2⟩:=f p hp;have:g p.1=m:=by rw[h1];exact YR m
  rw[this];exact ã h1 h2)
 have h1:Çe ((kvs.map (·.1)).map g):=by
  refine List.pairwise_map.mpr (List.Pairwise.imp_of_mem ?_ h.nd);intro a b ha hb hne e;obtain⟨p,hp,rfl⟩:=Áb ha;obtain⟨q,hq,rfl⟩:=Áb hb;exact hne (by rw[(hg p hp).1,(hg q hq).1,e])
 have:=MS (2 ^ n) _ h1 (λx hx=>by
  obtain⟨k,hk,rfl⟩:=Áb hx;obtain⟨p,hp,rfl⟩:=Áb hk
  exact(hg p hp).2)
 rw[ZD,ZD]at this;exact this
theorem Kno.put'{w n m:Nat}{kvs:Âb}(h:Kno w n kvs)(hm:m<2 ^ n):Kno w n (Ċb Ŋc (Êb w n)):=by
 refine ã ?_ (λk v e=>?_)
 ·cases hv:Ęa Ŋc with
  |none=>exact Sh _ h.nd hv
  |some v =>
   have:(Ċb Ŋc (Êb w n)).map (·.1)=kvs.map (·.1):=by
    unfold putK;rw[ZH (by rw[XR,hv];rfl),W7];refine Ź Åc;show(if p.1=_ then _ else p).1=p.1;split<;>rfl
   rw[this];exact h.nd
 ·rw[SY]at e
  by_cases hk:k=Ŋc
  ·rw[ZH hk]at e;cases e;exact⟨m,hk,hm,Z⟩
  ·rw[ZE hk]at e;exact h.ok k v e
section
variable {P:Z3}{w:Z5}{K:ZC}{mg:Ą}{base:Z8}
end
open PySem L2 PyProof.Rows
section
variable {P:Z3}{w:Z5}{K:ZC}{mg:Ą}{base:Z8}
theorem Sj(h:Ġd H):OF D σ H:=h
theorem RX(r:õc A):ĕb 1:=ŵc 1
end
open PySem L2 PyProof.Rows
theorem ND(C:(Ť L2.St)->Prop)(h:C (u D))(hA:C (u D)->tc σ0 H0 (λb H1=>if b=true then t { D with nx:=u D } σ0 H1 else u D σ0 H1)):tSeq (tIfS tc t OF) u D σ0 H0:=hA h
open PySem L2 PyProof.Rows
theorem BP{o:Obj}{d:Z1}{kvs:ĩc}{σ0:L2.St}{H1:Hp}{tc:TT}{te:TE}{Q:VK}(p:Nat->Bool)(R:Nat->Ť V)(hq:H1 d=Ã Ōd)(hn:kvs.length<=1000)
  (hR:∀i y H H',Ŀd->R i y H->R i y H') (hU:∀i y H D ys u,H D=Ù ys->R i y H->R i y (upd H D u))
  (ht:∀i ks v b,kvs[i]?=Ã (ks,v)->∀H',ç H1->H' b=Ĥ ſc->PuT tc (Ōb (Ú b)) H' (p i))
  (he:∀i ks v b,kvs[i]?=Ã (ks,v)->p i=true->∀(H':Hp) (Q':VK),ç H1->H' b=Ĥ ſc->(∀y H'',ħd->R i y H''->Q' y H'')->te (Ōb (Ú b)) H' Q')
  (fin:∀D H' (zs:śd V),Źd->ç H1->H' D=Ù (zs.map (·.2))->zs.map (·.1)=(Ĵ kvs.length).filter p->(∀z∈zs,R z.1 z.2 H')->Ŕ D H'):Èa (Itd o d kvs) tc:=by
 intro D hD;refine X6 (n:=kvs.length) (λi ys H'=>∃zs:śd V,ç H1/\Ľb/\ys=zs.map (·.2)/\zs.map (·.1)=(Ĵ i).filter p/\∀z∈zs,R z.1 z.2 H') ⟨[],snw hD,ZI,Z,Z,λz hz=>nomatch hz⟩ (λi ys H' _ ⟨_,_,h,_⟩=>h) (λi ys H' hi ⟨_,sm,_⟩=>ã (sm _ _ hq) hi) (λys H' ⟨_,sm,_⟩=>ã (sm _ _ hq) ħ) ?_ ?_
 ·rintro i ys H' x H2 hi ⟨zs,sm,hDl,rfl,hz1,hzR⟩ ⟨rfl,b,ks,v,hk,rfl,hb⟩;refine ht i ks v b hk H2 sm hb H2 _ ŵ λH4 s4=>?_;cases hp:p i with
  |false =>
   refine ĭb ⟨zs,Şa s4,s4 _ _ hDl,Z,?_,λz hz=>hR _ _ _ _ s4 (hzR z hz)⟩;rw[hz1,List.range_succ,List.filter_append,List.filter_cons,hp];simp
  |true =>
   refine Ŧb (he i ks v b hk hp H4 _ (Şa s4) (s4 _ _ hb) λy H5 s5 hy=>⟨ød hDl,?_,zs++[(i,y)],((Şa s4).trans s5).upd hD,ZI,?_,?_,ĵd⟩)
   ·rw[ZD];have e:=õ hz1;rw[ZD]at e;have e2:=X2 p (Ĵ i);rw[List.length_range]at e2;exact UB À
   ·rw[W2];rfl
   ·rw[W2,hz1,List.range_succ,List.filter_append,List.filter_cons,hp];simp
   ·refine hU _ _ _ _ _ _ (ød hDl) ?_;rcases ũd hz with z1 | z1
    ·exact hR _ _ _ _ (s4.trans s5) (hzR z z1)
    ·have e:z=(i,y):=by simpa using z1
     subst e;exact hy
 ·rintro ys H' ⟨zs,sm,hDl,rfl,hz1,hzR⟩;exact fin D H' zs hD sm hDl hz1 hzR
theorem IJ{o:Obj}{d:Z1}{kvs:ĩc}{σ0:L2.St}{H1:Hp}{tc:TT}{te:TE}{Q:VK}(p:Nat->Bool)(f:Nat->V)(hq:H1 d=Ã Ōd)(hn:kvs.length<=1000)
  (ht:∀i ks v b,kvs[i]?=Ã (ks,v)->∀H',ç H1->H' b=Ĥ ſc->PuT tc (Ōb (Ú b)) H' (p i))
  (he:∀i ks v b,kvs[i]?=Ã (ks,v)->∀H',ç H1->H' b=Ĥ ſc->Pu te (Ōb (Ú b)) H' (f i))
  (fin:∀D H',Źd->Ée (((Ĵ kvs.length).filter p).map f)):Èa (Itd o d kvs) tc :=
 BP p (λi y _=>y=f i) hq hn (λ_ _ _ _ _ h=>h) (λ_ _ _ _ _ _ _ h=>h) ht (λi ks v b hk _ H' Q' sm hb q'=>he i ks v b hk H' sm hb H' Q' ŵ λH'' s=>q' _ _ s rfl) λD H' zs hD sm hDl hz hR=>Đc (by
   rw[hDl,<- hz,W7]
   congr 2
   exact Ź (λz hz=>hR z hz))
noncomputable def YJ(p i:Nat):Đ:=[Ė (Ý (i/p)),Ė (Ý (i%p))]
noncomputable def YZ(p n:Nat):ĩc:=(Ĵ n).map λi=>(YJ p i,Žb (ćd i))
theorem T9(p n:Nat):î (YZ p n)=n:=by
 unfold YZ;rw[ZD,List.length_range]
theorem RE(h:(YZ p n)[i]?=Ã (ks,v)):i<n/\ks=YJ p i/\v=ô (ćd i):=by
 unfold YZ at h;rw[ZX]at h
 by_cases hi:i<n
 ·rw[List.getElem?_range hi]at h;have h:=WC h;injection h with h1 h2;exact ő hi h1.symm h2.symm
 ·rw[ōb (by rw[List.length_range];omega)]at h;cases h
theorem JP(h:YJ p i=YJ p j):i=j:=by
 unfold YJ at h;injection h with h1 h2;injection h2 with h2 _;have h1:=Sum.inl.inj h1;have h2:=Sum.inl.inj h2;have a:i/p=j/p:=À
 have b:i%p=j%p:=À
 rw[<- Nat.div_add_mod i p,<- Nat.div_add_mod j p,a,b]
theorem Gk(p n:Nat):valV (YZ p n) (YJ p n)=none:=by
 cases e:valV (YZ p n) (YJ p n)with
 |none=>rfl
 |some v =>
  have:=Qw e;unfold YZ at this;rw[W7]at this;obtain⟨i,hi,e2⟩:=Áb this;have:=JP e2;have:=Àc hi;omega
theorem Zb(p n:Nat):putK (YZ p n) (YJ p n) (ô (ćd n))=YZ p (n+1):=by
 rw[KZ _ (Gk p n)];unfold YZ;rw[List.range_succ,W2];rfl
theorem ME(h:i<n):valV (YZ p n) (YJ p i)=ļ (ćd i):=by
 induction n with
 |zero=>omega
 |succ n ih =>
  rw[<- Zb,SY]
  by_cases e:i=n
  ·subst e;rw[ŧb]
  ·rw[ZE (λz=>e (JP z))];exact ih À
section
variable {P:Z3}{w:Z5}{K:ZC}{mg:Ą}{base:Z8}
inductive spBitsOf(vs:ĝ)(H:Hp)(Q:VK)(z3_:XK):Prop
 |mk (r p:Nat) (h0:vs=şb) (h1:r<=4) (h2:1<=p) (h3:p<=4) (h4:∀d H',ē d->Ŀd->H' d=Ã (.dT (YZ p (r*p)))->Ŕ d H')
theorem sc_bitsOf:ä ["r","p","bits","bit","row","place"] Ša KL:=scm
theorem Jh(T:ûa)(D:é "bits_of_cells" KL Ša):Ä 1 "bits_of_cells" Ša spBitsOf:=by
 refine Á sc_bitsOf
 ·obtain⟨r,p,rfl,_⟩:=h;rfl
 ·obtain⟨r,p,rfl,r4,p1,p4,q⟩:=h;have nd:=sc_bitsOf.nd;have hu1:=RX hr;refine ĉb (È 2 CZ) (È 3 ZB) (ĉc (ňa (ňb Ş) (YQ (i:=4) nd rfl Ô) (ZL (ňa (ňb éc) (YQ (i:=5) nd rfl Ô) (ZG (Q5 hu1 Ķa (US (ýa ŕc 5)) Żc rfl) (ZL (LZ (i:=3) nd rfl Ô Żc Rn)))))) Ķa)
  intro bd hbd;have e0:(upd H bd (.dT [])) bd=Ã (.dT []):=ZI;have s0:ńa (upd H bd (.dT [])):=snw hbd;generalize upd H bd (.dT [])=H0 at e0 s0 ⊢;refine ěe _ (λi σ H2=>∃(o4 o5:Z9 V),σ = [Ğe r,Ğe p,Ú bd,ļ (ćd (i*p)),o4,o5]/\ńa H2/\H2 bd=Ã (.dT (YZ p (i*p)))) ⟨none,none,by rw[Nat.zero_mul];rfl,s0,by rw[Nat.zero_mul];exact e0⟩
  ·rintro i σ H2 hi ⟨o4,o5,rfl,sm,eD⟩;refine ěe _ (λj σ H2=>∃(o5:Z9 V),σ = [Ğe r,Ğe p,Ú bd,ļ (ćd (i*p+j)),ļ (0+ũ i),o5]/\ńa H2/\H2 bd=Ã (.dT (YZ p (i*p+j)))) ⟨o5,Z,sm,eD⟩
   ·rintro j σ H3 hj ⟨o5,rfl,sm,eD⟩;rw[YR]at hj;refine⟨_,Z,_,Z,_,Z,_,Z,len2,λtb htb=>?_⟩;have ed:(Ě H3 tb ůd) bd=Ã (.dT (YZ p (i*p+j))):=(snw htb) _ _ eD;have et:(Ě H3 tb ůd) tb=Ĥ ((YJ p (i*p+j)).map kV):=by
     have a:(i*p+j)/p=i:=by rw[Nat.mul_comm,Nat.mul_add_div À,Nat.div_eq_of_lt hj,Nat.add_zero]
     have b:(i*p+j)%p=j:=by rw[Nat.mul_comm,Nat.mul_add_mod,Nat.mod_eq_of_lt hj]
     rw[ZI];unfold YJ;rw[a,b,Int.zero_add,Int.zero_add];rfl
    have smt:ńa (Ě H3 tb ůd):=Şa (snw htb);generalize Ě H3 tb ůd=H4 at ed et smt ⊢;refine⟨bd,_,Z,DPut.t ed et (by rw[T9];have:=Nat.mul_le_mul_right p (show i<=4 by omega);exact UB À),?_⟩;refine⟨_,Z,_,Z,_,_,Z,Z,?_⟩;refine⟨ļ (0+ũ j),?_,smt.upd hbd,by rw[ZI,Zb];rfl⟩;show [Ã (Žb (ũ r)),Ğe p,Ú bd,ļ (ćd (i*p+j)+ćd (i*p+j)),ļ (0+ũ i),ļ (0+ũ j)]=_;rw[show ćd (i*p+j)+ćd (i*p+j)=ćd (i*p+(j+1)) by rw[<- Nat.add_assoc,Nat.pow_succ];omega]
   ·rintro σ H3 ⟨o5,rfl,sm,eD⟩;rw[YR]at *;refine⟨ļ (0+ũ i),o5,?_,sm,by rw[eD,Nat.succ_mul]⟩;rw[Nat.succ_mul]
  ·rintro σ H2 ⟨o4,o5,rfl,sm,eD⟩;exact ža (q bd H2 hbd sm eD)
end
open PySem L2 PyProof.Rows
theorem C6(g:Nat->Nat):∀L:Ŧa,(L.map λi=>Ý (g i)).sum=Ý (L.map g).sum
 | []=>rfl
 |a::r=>by
  rw[Y8,List.sum_cons,C6 g r,Y8,List.sum_cons];omega
theorem QB(n:Nat)(S:Nat->Bool):((((Ĵ n).filter S).map λi=>Žb (ćd i))=(((Ĵ n).filter S).map λi=>ćd i).map V.int)/\(((Ĵ n).filter S).map λi=>ćd i).sum=Ý (msum n S) :=
 ã (by rw[W7];rfl) (C6 (λi=>2 ^ i) _)
theorem ST{a b:Nat}:è (Þ a<Þ b)=è (a<b):=by
 by_cases h:a<b
 ·rw[ZS h,ZS À]
 ·rw[ZW h,ZW À]
section
variable {P:Z3}{w:Z5}{K:ZC}{mg:Ą}{base:Z8}
inductive spBy(S:Nat->Nat->Nat->Bool)(vs:ĝ)(H:Hp)(Q:VK)(z3_:XK):Prop
 |mk (d c:Z1) (o:Obj) (p n i:Nat) (h0:vs=[Ê d,Ê c]) (h1:H d=Ã (őa (YZ p n))) (h2:n<=16) (h3:H c=Ĥ ((YJ p i).map kV)) (h4:∀H',ū (ô (Ý (msum n (S p i)))))
theorem Gx:ä ["bits","cell"] ["bits","cell"] N2:=scm
theorem Qd:ä ["bits","cell"] ["bits","cell"] O4:=scm
theorem key0:atI ((YJ p i).map kV) 0=ļ (Ý (i/p)):=rfl
theorem key1:atI ((YJ p i).map kV) 1=ļ (Ý (i%p)):=rfl
theorem Ji(hsum:ě "sum") (D:é "left_by_less" N2 ["bits","cell"]):Ä 1 "left_by_less" ["bits","cell"] (spBy lsI):=by
 refine Á Gx
 ·obtain⟨d,c,o,p,n,i,rfl,_⟩:=h;rfl
 ·obtain⟨d,c,o,p,n,i,rfl,hd,hn,hc,q⟩:=h;have nd1:(["other","bits","cell"]:ù).Nodup:=Â
  have hu1:=RX hr;refine ë (Ôa N2 o_lt)
  refine⟨_,Z,d,_,Z,Ŀ (ő o hd (Ía (lsI p i) hd (by rw[T9];omega)))⟩
  ·obtain⟨hj1,rfl,rfl⟩:=RE hj;refine øa 0 key0 ((Äc) _ _ hc);have q3:=q2 H2 ŵ;unfold lsI at q3;rw[ST]
   by_cases h1:j/p<i/p
   ·rw[ZS h1]at q3 ⊢;exact Ŧb q3
   ·rw[ZW h1,Bool.false_or]at q3;rw[ZW h1];refine ĭb (øa 1 key1 ((Äc) _ _ hc));rw[ST];exact q3
  ·obtain⟨hj1,rfl,rfl⟩:=RE hj;refine⟨_,Z,_,Z,d,_,Z,?_,q2 H2 ŵ⟩;exact Ŀ (Ťd ((Äc) _ _ hd))
  ·rw[T9,(QB n (lsI p i)).1]at hDl;refine ŗd D _ hDl ?_;rw[(QB n (lsI p i)).2];exact ŀd
theorem Sn(hsum:ě "sum") (D:é "left_by_greater" O4 ["bits","cell"]):Ä 1 "left_by_greater" ["bits","cell"] (spBy mrI):=by
 refine Á Qd
 ·obtain⟨d,c,o,p,n,i,rfl,_⟩:=h;rfl
 ·obtain⟨d,c,o,p,n,i,rfl,hd,hn,hc,q⟩:=h;have nd1:(["other","bits","cell"]:ù).Nodup:=Â
  have hu1:=RX hr;refine ë (Ôa O4 o_gt)
  refine⟨_,Z,d,_,Z,Ŀ (ő o hd (Ía (mrI p i) hd (by rw[T9];omega)))⟩
  ·obtain⟨hj1,rfl,rfl⟩:=RE hj;refine øa 0 key0 ((Äc) _ _ hc);have q3:=q2 H2 ŵ;unfold mrI at q3;rw[ST]
   by_cases h1:i/p<j/p
   ·rw[ZS h1]at q3 ⊢;exact Ŧb q3
   ·rw[ZW h1,Bool.false_or]at q3;rw[ZW h1];refine ĭb (øa 1 key1 ((Äc) _ _ hc));rw[ST];exact q3
  ·obtain⟨hj1,rfl,rfl⟩:=RE hj;refine⟨_,Z,_,Z,d,_,Z,?_,q2 H2 ŵ⟩;exact Ŀ (Ťd ((Äc) _ _ hd))
  ·rw[T9,(QB n (mrI p i)).1]at hDl;refine ŗd D _ hDl ?_;rw[(QB n (mrI p i)).2];exact ŀd
end
end Seek
namespace L2
open PySem PySem.Spec PyProof.Rows
theorem N4(K:ZC)(he:Œ e ta)(hb:ģa e f=í e)(hK:X.K=K:=by rfl):Œ (.Attribute e f pos) (tFld K ta f):=by
 subst hK;exact UH he hb
end L2
namespace Seek
open PySem L2 PyProof.Rows
structure RkC(K:ZC)(C:Z1):Prop where
 cls:Cls K C
 nb:NoAttr K C "bits"
 nl:NoAttr K C "looks"
 nk:NoAttr K C "known"
noncomputable abbrev rkF(db dl dk:Z1):ġa V:=[("bits", Ê db),("looks", Ê dl),("known", Ê dk)]
structure Rk(H:Hp)(C a dx db dl dk:Z1)(o:Obj)(p n:Nat)(qs:ċ Z1 Z1)(kvs:Âb):Prop where
 ob:Ŵb (rkF db dl dk)
 hb:H db=Ã (őa (YZ p n))
 hl:H dl=Ù ņa
 ln:qs.length=n
 hq:∀i q,qs[i]?=Ã q->H q.1=Ĥ [Ê q.2,ô (Ý (msum n (lsI p i))),ô (Ý (msum n (mrI p i)))]/\H q.2=Ĥ ((YJ p i).map kV)
 hk:H dk=Ã ŭb
 kn:Kno p n kvs
 kz:íe (Ęa (Ė 0))=true
 n16:n<=16
theorem Rk.same{H H':Hp}{C a dx db dl dk:Z1}{o:Obj}{p n:Nat}{qs:ċ Z1 Z1}{kvs:Âb}(h:Ña H n kvs)(s:Ŀd):Ña H' n kvs :=
 ⟨s _ _ h.ob,s _ _ h.hb,s _ _ h.hl,h.ln,λi q hi=>let ⟨h1,h2⟩:=h.hq i q hi;ã (s _ _ h1) (s _ _ h2),s _ _ h.hk,h.kn,h.kz,h.n16⟩
theorem Rk.but{H H':Hp}{C a dx db dl dk:Z1}{o:Obj}{p n:Nat}{qs:ċ Z1 Z1}{kvs kvs':Âb}(h:Ña H n kvs)(b:But1 dk H H')(e:H' dk=Ã (.dK kvs'))(k:Kno p n kvs')(kz:íe (valV kvs' (Ė 0))=true):Ña H' n kvs':=by
 have f:∀{x:Z1}{u:HO},H x=Ã u->(∀kv,u≠.dK kv)->H' x=Ã u:=λ{x u} hx hu=>b _ _ (λz=>by
  rw[z,h.hk]at hx
  exact hu _ (WC hx).symm) hx
 exact⟨f h.ob (λ_ z=>by cases z),f h.hb (λ_ z=>by cases z),f h.hl (λ_ z=>by cases z),h.ln,λi q hi=>let ⟨h1,h2⟩:=h.hq i q hi;ã (f h1 (λ_ z=>by cases z)) (f h2 (λ_ z=>by cases z)),e,k,kz,h.n16⟩
section
variable {P:Z3}{w:Z5}{K:ZC}{mg:Ą}{base:Z8}{C:Z1}
theorem sc_rInit:ä ŉc ŉc (WQ YW 0):=scm
noncomputable def kn0:Âb:=[(Ė 0,ô 0)]
theorem Vq(p n:Nat):Kno p n kn0:=by
 refine ã (by unfold kn0;simp) (λk v e=>?_);unfold kn0 at e
 by_cases hk:(Sum.inl 0:Key)=k
 ·rw[V9 hk]at e;cases e;exact⟨0,hk.symm,Nat.pow_pos Ç,by rw[Gn,LV];rfl⟩
 ·rw[V2 hk,Ki]at e;cases e
inductive spRInit(C:Z1)(vs:ĝ)(H:Hp)(Q:VK)(z3_:XK):Prop
 |mk (a dx:Z1) (r p:Nat) (h0:vs=[œ,Ó r,Ó p]) (h1:Ŵb []) (h2:r<=4) (h3:1<=p) (h4:p<=4) (h5:∀db dl dk o qs H',But1 a H H'->ē db->ē dl->ē dk->Ña H' (r*p) kn0->Q .non H')
theorem Mu(kc:RkC K C)(D:Y6 K C "__init__" "Reckoning.__init__" (WQ YW 0) ŉc) (G1:Ä 1 "bits_of_cells" Ša spBitsOf) (G2:Ä 1 "left_by_less" ["bits","cell"] (spBy lsI)) (G3:Ä 1 "left_by_greater" ["bits","cell"] (spBy mrI)) :
  İ 2 "__init__" ŉc (spRInit C):=by
 refine þd sc_rInit
 ·obtain⟨a,dx,r,p,rfl,_⟩:=h;rfl
 ·obtain⟨a,dx,r,p,rfl,ea,r4,p1,p4,q⟩:=h;have nd:=sc_rInit.nd;have nd1:(["cell","self"]:ù).Nodup:=Â
  refine ĉb (OO Ü (Ýa G1 hr ó 2) rfl) (OO Ü (Ì ["cell","self"] [none,Ã 0] (WQ YW 0) ŉc (N9 Ìb) ň Y0 (US (ZF Ü (į (pe_f G2 hr (į (N4 K ó rfl) Ü)) (pe_f G3 hr (į (N4 K ó rfl) Ü)))))) rfl) (ZL (OO Ü (Pb (Nn ZB ZB Pp) rfl rfl (List.cons_ne_nil _ _) (show 1<=15 by decide)) rfl))
  refine⟨_,Z,_,Z,r,p,Z,r4,p1,p4,λdb H1 hdb s1 e1=>?_⟩;refine êe [] (Ųc ea) kc.nb Ç;have nba:db≠a:=λz=>by rw[z,ea]at hdb;cases hdb
  have k2:∀b o,b≠a->H1 b=ţ->(Āb H1 "bits" db []) b=ţ:=λb o n e=>Řa n e
  have e2:(Āb H1 "bits" db []) a=Ã (Ŧ [("bits", Ê db)]):=ZI;have d2:=k2 _ _ nba e1;generalize Āb H1 "bits" db []=H2 at k2 e2 d2 ⊢;have B2:But1 a H H2:=λb o n e=>k2 b o n (Ųc e);refine⟨_,Z,a,C,dx,_,_,Z,e2,kc.cls,kc.nb,Z,db,_,Z,ìb d2 (λo=>?_)⟩;have f3:(Řb) db=Ã (őa (YZ p (r*p))):=ZI;have e3:(Řb) a=Ã (Ŧ [("bits", Ê db)]):=Řa (ĥ nba) e2
  have B3:But1 a H Řb:=λb u n e=>Řa (λz=>by rw[z,hdb]at e;cases e) (B2 b u n e)
  have free3:∀x,(Řb) x=none->x≠a->ē x:=λx hx n=>by
   cases e:H x with
   |none=>rfl
   |some u=>rw[B3 x u n e]at hx;cases hx
  generalize Řb=H3 at f3 e3 B3 free3 ⊢;have hn:r*p<=16:=by
   have:=Nat.mul_le_mul r4 p4;omega
  refine BP řd (λi y H'=>∃q b:Z1,y=Ê q/\H' q=Ĥ [ťd,ô (Ý (msum (r*p) (lsI p i))),ô (Ý (msum (r*p) (mrI p i)))]/\H' b=Ĥ ((YJ p i).map kV)) f3 (by rw[T9];omega) (λi y H4 H5 s5 ⟨q,b,h1,h2,h3⟩=>⟨q,b,h1,s5 _ _ h2,s5 _ _ h3⟩) (λi y H4 D ys u hD ⟨q,b,h1,h2,h3⟩=>⟨q,b,h1,Řa (λz=>by rw[z,hD]at h2;cases h2) h2,Řa (λz=>by rw[z,hD]at h3;cases h3) h3⟩) (λi ks v b _ H4 _ _=>DT) (λi ks v b hk _ H4 Q4 s4 hb q4=>?_) λDl H4 zs hDl s4 eDl hz hzR=>?_
  ·obtain⟨hi,rfl,rfl⟩:=RE hk;refine⟨_,Z,_,Z,a,C,dx,_,_,Z,s4 _ _ e3,kc.cls,kc.nb,Z,_,Z,db,b,o,p,r*p,i,Z,s4 _ _ f3,hn,hb,λH5 s5=>?_⟩;refine⟨_,Z,a,C,dx,_,_,Z,ød e3,kc.cls,kc.nb,Z,_,Z,db,b,o,p,r*p,i,Z,ød f3,hn,s5 _ _ hb,λH6 s6=>?_⟩;refine ã len3 (λt ht=>q4 _ _ ((s5.trans s6).trans (snw ht)) ⟨t,b,Z,ZI,?_⟩);exact(snw ht) _ _ (s6 _ _ (s5 _ _ hb))
  ·have hzl:zs.map (·.1)=Ĵ (r*p):=by
    rw[hz,T9];exact List.filter_eq_self.mpr Ÿ
   have nDa:Dl≠a:=λz=>by rw[z,e3]at hDl;cases hDl
   refine êe _ (s4 _ _ e3) kc.nl (by show 1<1000;decide);have k5:∀b u,b≠a->H4 b=Ã u->(Āb H4 "looks" Dl [("bits", Ê db)]) b=Ã u:=λb u n e=>Řa n e
   have e5:(Āb H4 "looks" Dl [("bits", Ê db)]) a=Ã (Ŧ [("bits", Ê db),("looks", Ê Dl)]):=ZI;generalize Āb H4 "looks" Dl [("bits", Ê db)]=H5 at k5 e5 ⊢;have B5:But1 a H H5:=λb u n e=>k5 b u n (s4 _ _ (B3 b u n e));intro dk hdk;refine⟨ZI,[(Ė 0,ô 0)],Z,Ç,?_⟩;have nka:dk≠a:=λz=>by rw[z,e5]at hdk;cases hdk
   have s6:Same H5 (ſa (ſa H5 dk []) dk (TW [] [(Ė 0,ô 0)])):=((srf H5).upd hdk).upd hdk;have e6:(ſa (ſa H5 dk []) dk (TW [] [(Ė 0,ô 0)])) dk=Ã (.dK kn0):=ZI;generalize ſa (ſa H5 dk []) dk (TW [] [(Ė 0,ô 0)])=H6 at s6 e6 ⊢;refine êe _ (s6 _ _ e5) kc.nk (by show 2<1000;decide);have k7:∀b u,b≠a->H6 b=Ã u->(Āb H6 "known" dk [("bits", Ê db),("looks", Ê Dl)]) b=Ã u:=λb u n e=>Řa n e
   have na:∀{x:Z1}{u:HO},H4 x=Ã u->(∀fs,u≠Ŧ fs)->x≠a:=λ{x u} hx hu z=>by
    rw[z,s4 _ _ e3]at hx;exact hu _ (WC hx).symm
   have up:∀{x:Z1}{u:HO},H4 x=Ã u->(∀fs,u≠Ŧ fs)->(Āb H6 "known" dk [("bits", Ê db),("looks", Ê Dl)]) x=Ã u:=λ{x u} hx hu=>k7 _ _ (na hx hu) (s6 _ _ (k5 _ _ (na hx hu) hx));have hdk0:ē dk:=by
    cases e:H dk with
    |none=>rfl
    |some u=>rw[B5 dk u nka e]at hdk;cases hdk
   refine q db Dl dk o (zs.map λz=>match z.2 with | .ref q=>(q,match H4 q with | some (.tup (.ref b::_))=>b | _=>0) | _=>(0,0)) _ (λb u n e=>k7 b u n (s6 _ _ (B5 b u n e))) hdb (free3 Dl hDl nDa) hdk0 ⟨ZI,up (s4 _ _ f3) (λ_ z=>by cases z),?_,?_,?_,k7 _ _ nka e6,Vq _ _,Z,hn⟩
   ·rw[up eDl (λ_ z=>by cases z),W7]
    congr 2
    refine Ź (λz hz'=>?_);obtain⟨q,b,h1,_⟩:=hzR z hz';show z.2=_;simp only[Function.comp,h1]
   ·rw[ZD];have:=õ hzl;rw[ZD,List.length_range]at this;exact this
   ·intro i q' hi;rw[ZX]at hi;cases ez:zs[i]? with
    |none=>rw[ez]at hi;cases hi
    |some z =>
     rw[ez]at hi;have hi:=WC hi;have hz':=UF ez;obtain⟨q,b,h1,h2,h3⟩:=hzR z hz';have e1:z.1=i:=by
      have h5:(zs.map (·.1))[i]?=Ã z.1:=by rw[ZX,ez];rfl
      rw[hzl]at h5;have h6:=(YK.mp h5);obtain⟨h7,h8⟩:=h6;rw[List.getElem_range]at h8;exact h8.symm
     rw[e1]at h2 h3;have e2:q'=(q,b):=by
      rw[<- hi];simp only[h1,h2]
     subst e2;exact ã (up h2 (λ_ z=>by cases z)) (up h3 (λ_ z=>by cases z))
end
end Seek
namespace L2
open PySem PySem.Spec PyProof.Rows
noncomputable def tI(t:TE):TT:=Šb (λx H1=>∃i:Int,x=ïe/\Q (i != 0) H1)
theorem Xz(h:Œ e t)(he:∀whole,isTrue e X.env whole=(do let v <- whole;standAt e.pos;holding [v] (truthy v)):=by intro _;rfl):PT X e (tI t):=by
 intro pins s σ H Q I hw;refine isTrue_plain (thn (ßc _ hw) λv s1 ⟨x,H1,I1,r1,q1⟩=>?_) (he _);obtain⟨i,rfl,q⟩:=q1;obtain⟨t,rfl⟩:=r1;exact PySem.P.truthy_int (ő H1 I1 q)
end L2
namespace Seek
open PySem L2 PyProof.Rows
theorem Gi(m i:Nat):(Ý ((m:Int).toNat &&& (ũ (2 ^ i):Int).toNat) != 0)=ße:=by
 rw[YR,YR];have h:=Rv (m:=m) (i:=i);cases e:ße with
 |false =>
  rw[e]at h;rw[show m &&& 2 ^ i=0 from by rw[h]];rfl
 |true =>
  rw[e]at h;have h2:m &&& 2 ^ i≠0:=by rw[Ne,h];simp
  rw[bne_iff_ne];omega
section
variable {P:Z3}{w:Z5}{K:ZC}{mg:Ą}{base:Z8}{C:Z1}
inductive spLeftB(C:Z1)(vs:ĝ)(H:Hp)(Q:VK)(z3_:XK):Prop
 |mk (a dx db dl dk la lb:Z1) (o:Obj) (r p:Nat) (qs:ċ Z1 Z1) (kvs:Âb) (ls hs:Ċ) (h0:vs=[œ,Ê la,Ê lb]) (h1:Ña H (r*p) kvs) (h2:Row H la ls) (h3:Row H lb hs) (h4:ls.length=r) (h5:hs.length=r) (h6:∀H',ū (ô (Ý (msum (r*p) Űb))))
theorem Mf:ä İb İb (WQ YW 1):=scm
theorem Mq(hsum:ě "sum") (kc:RkC K C) (D:Áe) (G:Ä 1 "is_left_open" Ýc spLeftOpenB):İ 2 "left_between" İb (spLeftB C):=by
 refine þd Mf
 ·obtain⟨a,dx,db,dl,dk,la,lb,o,r,p,qs,kvs,ls,hs,rfl,_⟩:=h;rfl
 ·obtain⟨a,dx,db,dl,dk,la,lb,o,r,p,qs,kvs,ls,hs,rfl,R,hA,hB,hla,hlb,q⟩:=h;have nd1:(["cell","high","low","self"]:ù).Nodup:=Â
  have hu1:=RX hr;refine Ňb (pe_b (NZ rfl) hsum boot_sum (pa1 (Ì ["cell","high","low","self"] [none,Ã 2,Ã 1,Ã 0] (WQ YW 1) İb (N9 Ìb) ň (X5 (WP (pe_f G hr (ZF Ķa (â 1 Ü))))) (XS hu1 (N4 K Żc rfl) Ü Ÿ))))
  refine⟨_,Z,a,C,dx,_,_,Z,R.ob,kc.cls,kc.nb,Z,db,_,Z,Ŀ (ő o R.hb (Ía Űb R.hb (by rw[T9];have:=R.n16;omega)))⟩
  ·obtain⟨hj1,rfl,rfl⟩:=RE hj;have hjr:j/p<r:=Nat.div_lt_of_lt_mul (by rw[Nat.mul_comm];exact hj1);exact⟨_,Z,_,Z,_,Z,la,lb,b,ls,hs,j/p,j%p,Z,(hA.same s1).same s2,(hB.same s1).same s2,űc hb,À,À,_,Z,q2 H2 ŵ⟩
  ·obtain⟨hj1,rfl,rfl⟩:=RE hj;refine⟨_,Z,a,C,dx,_,_,Z,(Äc) _ _ R.ob,kc.cls,kc.nb,Z,_,Z,db,_,Z,?_,q2 H2 ŵ⟩;exact Ŀ (Ťd ((Äc) _ _ R.hb))
  ·rw[T9,(QB (r*p) _).1]at hDl;refine ŗd D _ hDl ?_;rw[(QB (r*p) _).2];exact ŀd
noncomputable abbrev TN(qs:ċ Z1 Z1)(i:Nat):Z1:=(qs.getD i (0,0)).1
theorem NF{qs:ċ Z1 Z1}{i:Nat}(h:i<qs.length):qs[i]?=Ã (qs.getD i (0,0)):=by
 rw[WY,WA h];rfl
theorem Jy{qs:ċ Z1 Z1}{n:Nat}(h:qs.length=n):(ņa)=(Ĵ n).map ðc:=by
 apply List.ext_getElem?;intro i;rw[ZX,ZX]
 by_cases hi:i<n
 ·rw[NF À,List.getElem?_range hi];rfl
 ·rw[ōb À,ōb (by rw[List.length_range];omega)];rfl
inductive spLooksAt(C:Z1)(vs:ĝ)(H:Hp)(Q:VK)(z3_:XK):Prop
 |mk (a dx db dl dk:Z1) (o:Obj) (p n m:Nat) (qs:ċ Z1 Z1) (kvs:Âb) (h0:vs=[œ,ô (Ý m)]) (h1:Ña H n kvs) (h2:∀D H',ē D->Àa H D ((ĝb).map ðc))
theorem Fo:ä Ða Ða (WQ YW 3):=scm
theorem En(kc:RkC K C)(D:Y6 K C "looks_at" "Reckoning.looks_at" (WQ YW 3) Ða):âc:=by
 refine þd Fo
 ·obtain⟨a,dx,db,dl,dk,o,p,n,m,qs,kvs,rfl,_⟩:=h;rfl
 ·obtain⟨a,dx,db,dl,dk,o,p,n,m,qs,kvs,rfl,R,q⟩:=h;have nd1:(["look","left","self"]:ù).Nodup:=Â
  have hu1:=RX hr;have hn:=R.n16;refine Ňb (Ì ["look","left","self"] [none,Ã 1,Ã 0] (WQ YW 3) Ða (Y7 Ìb) ň (X5 (Xz (ZN MT ó (XS hu1 (N4 K Ķa rfl) (pix (ixT K) Ü ZB) Ÿ)))) Ü)
  have hl:Èb dl ((Ĵ n).map ðc):=by
   rw[<- Jy R.ln];exact sqo R.hl
  refine⟨_,Z,a,C,dx,_,_,Z,R.ob,kc.cls,kc.nl,Z,dl,Z,Ņ hl,Q7 (ms:=Ĵ n) ðc (λi=>ße) ðc hl (sl6 (by rw[List.length_range];omega)) (λi hi H1 Q1 s1 q1=>?_) (λi hi _ H1 Q1 s1 q1=>ža (q1 _ ŵ)) λD H' hD sm hDl=>q D H' hD sm hDl⟩;have hi:=Àc hi;obtain⟨h1,h2⟩:=R.hq i _ (NF (by rw[R.ln];exact hi));refine⟨_,Z,_,Z,a,C,dx,_,_,Z,Ųc R.ob,kc.cls,kc.nb,Z,_,Z,_,_,0,_,Z,Z,sqt (Ųc h1),Z,db,ô (ćd i),Z,Ŀ ⟨_,_,_,ūb o (Ųc R.hb),Z,Ųc h2,(ME hi).symm⟩,_,_,Z,Z,ã (RF _) (RF _),_,Z,?_⟩;rw[Gi];exact q1 _ ŵ
end
open PySem L2 PyProof.Rows
theorem DH{m k:Nat}:((m:Int).toNat &&& (ũ k:Int).toNat)=(m &&& k):=by
 rw[YR,YR]
theorem Same.but1(s:Ŀd):But1 x H H':=λ_ _ _ e=>s _ _ e
theorem Os{K:ZC}{Dl:Z1}{ms:Ŧa}{σ0:L2.St}{H1:Hp}{te:TE}{Q:VK}(u f:Nat->V)(J:Ť Z1)(hn:ms.length<=1000)(h0:∀D,Źd->J D (Ŗc D))(hq:∀D H',Źd->J D H'->SqL K H' Dl Įb)
  (step:∀D c H' ys Q',Źd->c∈ms->J D H'->Ľb->(∀H'',J D H''->H'' D=Ù ys->Q' (f c) H'')->Čd c)
  (hU:∀D H' ys zs,Źd->J D H'->Ľb->J D (Ï H' D zs)) (fin:∀D H',Źd->J D H'->H' D=Ù (ms.map f)->Ŕ D H'):Èa (Itl K Dl) YN:=by
 intro D hD;refine X6 (n:=ms.length) (λi ys H'=>J D H'/\Ľb/\ys=(ms.take i).map f) (ő (h0 D hD) ZI Í) (Ĺd q.2.1) (Ìe ⟨_,u ms[i],hq D H' hD q.1,by simp[hi]⟩) (ðe (ő _ (hq D H' hD q.1) Í)) ?_ ?_
 ·rintro i ys H' x H2 hi ⟨j,eD,rfl⟩ ⟨rfl,hy⟩;have hx:=hy _ (hq D H2 hD j);rw[ZX,Ÿd]at hx;have hx:u ms[i]=x:=WC hx;subst hx;unfold YN;refine Ŧb (step D ms[i] H2 _ _ hD (YE hi) j eD λH'' j2 e2=>⟨e2,?_,hU D H'' _ _ hD j2 e2,ZI,?_⟩)
  ·rw[ZD,VO];exact UB À
  ·rw[List.take_add_one,Ÿd,W2];rfl
 ·rintro ys H' ⟨j,eD,rfl⟩;rw[List.take_length]at eD;exact fin D H' hD j eD
section
variable {P:Z3}{w:Z5}{K:ZC}{mg:Ą}{base:Z8}{C:Z1}
noncomputable def RkQ(H:Hp)(C a dx db dl dk:Z1)(o:Obj)(p n:Nat)(qs:ċ Z1 Z1)(Q:VK)(v:Nat):Prop:=∀kvs' H',But1 dk H H'->Ña H' n kvs'->Q (ô (Ý v)) H'
inductive spFew(C:Z1)(k:Nat)(vs:ĝ)(H:Hp)(Q:VK)(z3_:XK):Prop
 |mk (a dx db dl dk:Z1) (o:Obj) (p n m:Nat) (qs:ċ Z1 Z1) (kvs:Âb) (h0:vs=[œ,ô (Ý m)]) (h1:m<2 ^ n) (h2:î ĝb<=k) (h3:Ña H n kvs) (h4:RkQ H C a dx db dl dk o p n qs Q (fw p ĝb))
inductive spThru(C:Z1)(k:Nat)(vs:ĝ)(H:Hp)(Q:VK)(z3_:XK):Prop
 |mk (a dx db dl dk:Z1) (o:Obj) (p n m i:Nat) (qs:ċ Z1 Z1) (kvs:Âb) (h0:vs=[œ,ô (Ý m),Ê (TN qs i)]) (h1:m<2 ^ n) (h2:î ĝb<=k) (h3:i∈ĝb) (h4:Ña H n kvs) (h5:RkQ H C a dx db dl dk o p n qs Q (thr p ĝb i))
theorem Tg:ä Ða Ða (WQ YW 2):=scm
theorem DC:ä Żb Żb (WQ YW 4):=scm
theorem CV(D:ś):ăc 1 0:=by
 have no:∀{vs H Q E},spThru C 0 vs H Q E->False:=λ{vs H Q E} h=>by
  obtain⟨a,dx,db,dl,dk,o,p,n,m,i,qs,kvs,rfl,h1,h2,h3,_⟩:=h;have:ĝb=[]:=Ğb À;rw[this]at h3
  nomatch h3
 exact MtAt.of D DC (λvs H Q E h=>(no h).elim) (λf gv A ou s H vs Q E hr h=>(no h).elim)
theorem Le(T:ûa)(kc:RkC K C){k:Nat}(D:ś) (G:ĥc (2*k+2) k):ăc (2*k+3) (k+1):=by
 refine þd DC
 ·obtain⟨a,dx,db,dl,dk,o,p,n,m,i,qs,kvs,rfl,_⟩:=h;rfl
 ·obtain⟨a,dx,db,dl,dk,o,p,n,m,i,qs,kvs,rfl,hm,hk,hi,R,q⟩:=h;have hin:i<n:=(mem_bitsN.mp hi).1;refine Ňb (ZN U7 ZB (ŵb (į (pe_m G kc.cls hr Ü (pa1 (ZN MT ó (ü VF 2)))) (pe_m G kc.cls hr Ü (pa1 (ZN MT ó (ü VF 2)))))));obtain⟨h1,h2⟩:=R.hq i _ (NF (by rw[R.ln];exact hin));have b1:ģd n (lsI p i)=(ĝb).filter (lsI p i):=MF λj hj=>by rw[QD,ZS hj,Bool.true_and]
  have b2:ģd n (mrI p i)=(ĝb).filter (mrI p i):=MF λj hj=>by rw[QD,ZS hj,Bool.true_and]
  have s1:=QL (w:=p) hi;have s2:=QM (w:=p) hi;refine Þe R.ob 1 h1;rw[DH];refine⟨a,dx,db,dl,dk,o,p,n,_,qs,kvs,Z,OI hm,by rw[b1];omega,R,λkv1 H1 B1 R1=>?_⟩;obtain⟨h1',_⟩:=R1.hq i _ (NF (by rw[R1.ln];exact hin));refine Þe R1.ob 2 h1';rw[DH];refine⟨a,dx,db,dl,dk,o,p,n,_,qs,kv1,Z,OI hm,by rw[b2];omega,R1,λkv2 H2 B2 R2=>⟨_,_,Z,_,_,Z,Z,?_⟩⟩;have:=q kv2 H2 (B1.trans B2) R2;unfold thr at this;rw[b1,b2];generalize fw p ((ĝb).filter (lsI p i))=x at this ⊢;generalize fw p ((ĝb).filter (mrI p i))=y at this ⊢;have e:Þ 1+(if Þ y>Þ x then Þ y else Þ x)=Ý (1+max x y):=by
   rw[Nat.max_def];split<;>split<;>omega
  rw[e];exact this
theorem GZ(hmin:ě "min") (kc:RkC K C) {k:Nat} (D:Ñb) (G:ăc (2*k+1) k) (G2:âc):ĥc (2*k+2) k:=by
 refine þd Tg
 ·obtain⟨a,dx,db,dl,dk,o,p,n,m,qs,kvs,rfl,_⟩:=h;rfl
 ·obtain⟨a,dx,db,dl,dk,o,p,n,m,qs,kvs,rfl,hm,hk,R,q⟩:=h;have nd1:(["look","left","self"]:ù).Nodup:=Â
  have hu1:=RX hr;have hr1:Ŷc 1:=ż (show 1<=2*k+1 by omega);refine ë (ĉc (ZZ (P3 (JT hu1 ó Ìb)) (ZL (Q5 hu1 Ìb ó (pe_b (Km rfl) hmin boot_min (pa1 (Ì ["look","left","self"] [none,Ã 1,Ã 0] (WQ YW 2) Ða (Y7 (pe_m G2 kc.cls hr1 Ü éc)) ň Y0 (pe_m G kc.cls hr Ķa (â 1 Ü))))) rfl)) W0) (XS hu1 Ìb ó Ÿ))
  refine ND (λN=>∀kv H',But1 dk H H'->Ña H' n kv->valV kv Ŋc=ļ (Ý (fw p ĝb))->N [Ú a,ļ (Ý m)] H') (λkv H' B R' hv=>?_) (λtail=>?_)
  ·refine⟨_,Z,a,C,dx,_,_,Z,R'.ob,kc.cls,kc.nk,Z,_,Z,dk,Êb p n,Z,?_,q kv H' B R'⟩;rw[<- hv];exact DGet.k (k:=Ŋc) R'.hk
  ·refine⟨_,Z,_,Z,a,C,dx,_,_,Z,R.ob,kc.cls,kc.nk,Z,dk,_,Z,DGet.k (k:=Ŋc) R.hk,_,Z,?_⟩;cases hv:Ęa Ŋc with
   |some v =>
    obtain⟨m',e1,e2,e3⟩:=R.kn.ok _ _ hv;have e4:m=m':=by
     have:=Sum.inl.inj e1;omega
    subst e4;exact ĭb (tail kvs H (But1.refl _ _) R (by rw[hv,e3]))
   |none =>
    have m0:m≠0:=λz=>by
     have:=R.kz;rw[z]at hv;rw[show(Sum.inl 0:Key)=Ė (Ý 0) from rfl,hv]at this;cases this
    have hne:ĝb≠[]:=λz=>m0 (Kl hm z);have hn:=R.n16;have hbl:=JX n m;refine Ŧb ?_;refine⟨_,Z,a,dx,_,Z,R.ob,Z,_,Z,a,dx,db,dl,dk,o,p,n,m,qs,kvs,Z,R,λDl H1 hDl s1 eDl=>?_⟩;have R1:=R.same s1;have sq1:SqL K H1 Dl ((ĝb).map ðc):=sqo eDl;have nDk:Dl≠dk:=λz=>by rw[z,R.hk]at hDl;cases hDl
    refine⟨Dl,Z,Ņ sq1,Os ðc (λc=>Žb (Ý (thr p ĝb c))) (λD H'=>But1 dk H1 H'/\∃kv,Ña H' n kv) À (λD hD=>ő (Same.but1 (snw hD)) kvs (R1.same (snw hD))) (λD H' _ h=>sqo (h.1 _ _ nDk eDl)) ?_ ?_ ?_⟩
    ·rintro DD c H' ys Q' hDD hc ⟨B',kv,R'⟩ eDD q';have nDD:DD≠dk:=λz=>by rw[z,R1.hk]at hDD;cases hDD
     exact⟨_,Z,a,dx,_,Z,R'.ob,Z,_,Z,_,Z,a,dx,db,dl,dk,o,p,n,m,c,qs,kv,Z,hm,hk,hc,R',λkv3 H3 B3 R3=>q' H3 (ő (B'.trans B3) kv3 R3) (B3 _ _ nDD eDD)⟩
    ·rintro DD H3 ys zs hDD ⟨B',kv,R3⟩ eDD;have nDD:DD≠dk:=λz=>by rw[z,R1.hk]at hDD;cases hDD
     have f:∀{x:Z1}{u:HO},H3 x=Ã u->(∀ys,u≠.lst ys)->x≠DD:=λ{x u} h1 h2 z=>by
      rw[z,eDD]at h1;exact h2 _ (WC h1).symm
     have dd1:dl≠DD:=λz=>by rw[<- z,R1.hl]at hDD;cases hDD
     exact⟨λb u nb e=>Řa (WX e hDD) (B' _ _ nb e),kv,Řa (f R3.ob (λ_ z=>by cases z)) R3.ob,Řa (f R3.hb (λ_ z=>by cases z)) R3.hb,Řa dd1 R3.hl,R3.ln, λj q hj=>let ⟨g1,g2⟩:=R3.hq j q hj;ã (Řa (f g1 (λ_ z=>by cases z)) g1) (Řa (f g2 (λ_ z=>by cases z)) g2),Řa (ĥ nDD) R3.hk,R3.kn,R3.kz,R3.n16⟩
    ·rintro DD H' hDD ⟨B',kv,R'⟩ eDD;have sqD:SqL K H' DD (((ĝb).map λc=>Ý (thr p ĝb c)).map V.int):=sqo (by rw[eDD,W7];rfl);refine⟨DD,_,Z,sqD,?_,λM hM hle=>?_⟩
     ·rw[ZD];exact Åe hne
     have hMe:M=Ý (fw p ĝb):=by
      obtain⟨c,hc,e⟩:=Áb hM;rw[<- e]
      congr 1
      refine Ua (λc' hc'=>?_) (ő c hc Z);have:=hle _ (Ń c' hc');omega
     subst hMe;have hz:kv.length<sizeLine:=by
      have h1:=R'.kn.len;have h2:=Nat.pow_le_pow_right (show 0<2 by decide) hn;rw[sizeLine_eq];have e:2 ^ 16=65536:=Ç
      omega
     refine⟨_,Z,a,C,dx,_,_,Z,R'.ob,kc.cls,kc.nk,Z,_,Z,dk,_,Z,DPut.k (k:=Ŋc) R'.hk hz,?_⟩;have Bk:But1 dk H' (ſa H' dk (putK kv Ŋc (Êb p n))):=λb u nb e=>Řa nb e
     refine tail _ _ ((Same.but1 s1).trans (B'.trans Bk)) (R'.but Bk ZI (R'.kn.put' hm) ?_) (by rw[SY,ŧb]);rw[SY];split
     ·rfl
     ·exact R'.kz
theorem EG(T:ûa)(hmin:ě "min") (kc:RkC K C) (D1:Ñb) (D2:ś) (G2:âc) :
  ∀k,ăc (2*k+1) k/\ĥc (2*k+2) k
 | 0=>ã (CV D2) (GZ (k:=0) hmin kc D1 (CV D2) G2)
 |k+1=>by
  have h:=Le T kc D2 (EG T hmin kc D1 D2 G2 k).2;exact ã h (GZ (k:=k+1) hmin kc D1 h G2)
theorem Jl(T:ûa)(hmin:ě "min") (kc:RkC K C) (D1:Ñb) (D2:ś) (G2:âc) :
  ĥc 34 16:=(EG T hmin kc D1 D2 G2 16).2
end
end Seek
namespace L2
open PySem PySem.Spec PyProof.Rows
noncomputable def tNew(C:Z1)(sp:Sp)(t:TA):TE:=Šb (λvs H1=>∀x dx,œa x->œa dx->dx≠x->sp (Ê x::vs) (ăa H1) ėc E0)
theorem Tv(F:ģb "__init__") (hmk:īb X.K=true) (hkp:Ũ X.K C=true) (hr:Room (k+1) X.A) (hg:ÿe) (hm:X.mg x=Ú C)
  (ha:Ōc) (hdb:Ķd:=by decide) (he:Õ ŀ=(false,í e)::Õ es:=by rfl) (hpl:(ąb).any (·.1)=false:=by rfl) :
  Œ ŋd (tNew C sp t):=by
 obtain⟨f,fd,F,hmt,hb⟩:=F;have q:=Pe (p:=p) (pos:=pos) ⟨hmk,hmt.at_,hmt.fn,hkp⟩ F hr hg hm hb .nil (QS (X:=X)) ha hdb he hpl;intro pins s σ H Q I h;refine q pins s σ H Q I ?_;unfold OH;simp only[List.append_nil];exact h
theorem ZjQ{K:ZC}{C f:Z1}{m qual:Str}{st:Z6}{ps:ù}{od an:Z9 Z1}{sl:Array (Z9 Z0)}{oc kV dc pm cd ct:Z0}
  (a:ı m=Ã (Ú f)) (i:þe=true) (l:Ľd f=Ã ⟨oc,od,.func (ğ m qual dc cd),sl⟩) (c:PySem.W.codeIn K cd qual=true) (k:Ũ K f=true)
  (b:∀(kV doc pm:Z0) (an:Z9 Z1) (gv ct:Z0) (us:š),us.length=ps.length->bindArgs (ğ m qual doc gv) (ã us [])=pure ĕc):Y6 K C m qual st ps:=by
 have F:=FR (st:=st) l c k;exact⟨f,_,F,ő a i k,F.binds b⟩
end L2
namespace Seek
open PySem L2 PyProof.Rows
structure RkM(K:ZC)(mg:Ą)(C:Z1):Prop where
 c:RkC K C
 gl:Ūb "Reckoning" C
 mks:īb K=true
 kp:Ũ K C=true
theorem ZrM{K:ZC}{h:Z8}{mg:Ą}{C:Z1}(X:K.In h)(G:ŷa)(aC:õe "Reckoning" C)
  (pg:ģc Str.empty=true) (hd:Íd=true) (po:öe=true) (sa:ża) (mk:īb K=true) (kc:Ũ K C=true)
  (n1:ı "bits" = Ã none) (n2:ı "looks" = Ã none) (n3:ı "known" = Ã none):RkM K mg C:=⟨⟨⟨pg,hd,po,sa⟩,n1,n2,n3⟩,õd aC,mk,kc⟩
noncomputable def opnL(r p:Nat)(ls hs:Ċ):Ŧa:=(Ĵ (r*p)).filter Űb
section
variable {P:Z3}{w:Z5}{K:ZC}{mg:Ą}{base:Z8}{C:Z1}
inductive spLooksLeft(vs:ĝ)(H:Hp)(Q:VK)(z3_:XK):Prop
 |mk (r p:Nat) (a b:Z1) (ls hs:Ċ) (h0:vs=[Ó r,Ó p,œ,ťd]) (h1:1<=r) (h2:r<=4) (h3:1<=p) (h4:p<=4) (h5:Row H a ls) (h6:Row H b hs) (h7:TwoSt r p ls hs) (h8:∀H',ū (ô (Ý (fw p (opnL r p ls hs)))))
theorem sc_looksLeft:ä ["r","p","low","high","reckoning"] Ċa IL:=scm
theorem Cr(zK:RkM K mg C)(D:é "looks_left" IL Ċa) (G1:Ä 3 "need_size" Ša spNeedSize) (G2:Ä 4 "need_stairs" Ċa spNeedStairs)
  (M0:İ 2 "__init__" ŉc (spRInit C)) (M1:İ 2 "left_between" İb (spLeftB C)) (M2:ĥc 34 16):Ä 35 "looks_left" Ċa spLooksLeft:=by
 refine Á sc_looksLeft
 ·obtain⟨r,p,a,b,ls,hs,rfl,_⟩:=h;rfl
 ·obtain⟨r,p,a,b,ls,hs,rfl,r1,r4,p1,p4,hA,hB,S,q⟩:=h;have nd:=sc_looksLeft.nd;have hr3:Ŷc 3:=ż (show 3<=34 by decide);have hr4:Ŷc 4:=ż (show 4<=34 by decide);have hr2:Ŷc 2:=ż (show 2<=34 by decide);refine ĉb (Y9 (Ýa G1 hr3 Ü 1)) (Y9 (pe_f G2 hr4 (ZF Ü (ZF ó (ýa Ķa 3))))) (ĉc (È 4 (Tv M0 zK.mks zK.kp hr3 rfl zK.gl ųd)) (pe_m M2 zK.c.cls hr ŕc (pa1 (pe_m M1 zK.c.cls hr2 ŕc (ýa Ķa 3)))))
  refine⟨_,Z,_,Z,r,p,Z,r1,r4,p1,p4,_,Z,_,Z,_,Z,_,Z,r,p,a,b,ls,hs,Z,r4,hA,hB,S,λH1 s1=>?_⟩;refine şc Z _ Z (λx dx hx hdx ndx=>?_);have s2:Same H1 (ăa H1):=((srf H1).upd hdx).upd hx;have e2:(ăa H1) x=Ã (Ŧ []):=ZI;generalize ăa H1=H2 at s2 e2 ⊢;refine⟨x,dx,r,p,Z,e2,r4,p1,p4,λdb dl dk o qs H3 B3 hdb hdl hdk R=>ųb Z⟩;have s3:Same H1 H3:=λb u e=>B3 _ _ (WX e hx) (űc e);have hdk1:œa dk:=s2.free hdk;refine⟨_,Z,x,dx,_,Z,R.ob,Z,_,Z,x,dx,_,Z,R.ob,Z,_,Z,_,Z,x,dx,db,dl,dk,a,b,o,r,p,qs,kn0,ls,hs,Z,R,(hA.same s1).same s3,(hB.same s1).same s3,S.lo.len,S.hi.len,λH4 s4=>?_⟩;have R4:=R.same s4;have eb:W3 (r*p) (msum (r*p) Űb)=opnL r p ls hs:=IH _ _;refine⟨x,dx,db,dl,dk,o,p,r*p,_,qs,kn0,Z,NG _ _,?_,R4,λkv H5 B5 R5=>?_⟩
  ·have:=JX (r*p) (msum (r*p) Űb);have:=R.n16;omega
  ·rw[eb];exact q H5 λb u e=>B5 _ _ (WX (Ųc e) hdk1) (s4 _ _ (øe (Ųc e)))
end
open PySem L2 PyProof.Rows
theorem BH(k:Nat)(c:Int):(ŕ k [Žb c]).flatten=(ŕ k c).map V.int:=by
 induction k with
 |zero=>rfl
 |succ k ih=>rw[List.replicate_succ,List.flatten_cons,ih,List.replicate_succ];rfl
open PySem L2 PyProof.Rows
theorem BX{r p:Nat}{c:Int}(h0:0<=c)(h1:c<=p):StairP r p (ŕ r c):=by
 refine ő List.length_replicate (λn hn=>?_) (λi hi=>?_)
 ·rw[List.eq_of_mem_replicate hn];exact ã h0 h1
 ·rw[List.length_replicate]at hi;have e:∀k,k<r->(ŕ r c).getD k 0=c:=λk hk=>by simp[hk]
  rw[e _ hi,e _ À];exact Int.le_refl _
open PySem L2 PyProof.Rows
theorem Qu{r p:Nat}{a b:Int}(ha:0<=a)(hab:a<=b)(hb:b<=p):TwoSt r p (ŕ r a) (ŕ r b) :=
 ő (BX ha À) (BX À hb) (λi hi=>by
  rw[WY,WY,List.getElem?_replicate,List.getElem?_replicate,ZH hi,ZH hi]
  exact hab)
open PySem L2 PyProof.Rows
section
variable {P:Z3}{w:Z5}{K:ZC}{mg:Ą}{base:Z8}
noncomputable def allL(r p:Nat):Ŧa:=opnL r p (ŕ r 0) (ŕ r (Þ p))
inductive spFewestL(vs:ĝ)(H:Hp)(Q:VK)(z3_:XK):Prop
 |mk (r p:Nat) (h0:vs=şb) (h1:1<=r) (h2:r<=4) (h3:1<=p) (h4:p<=4) (h5:∀H',ū (ô (Ý Ÿb)))
theorem Fi:ä Ša Ša PJ:=scm
theorem Ej(D:é "fewest_looks" PJ Ša) (G1:Ä 3 "need_size" Ša spNeedSize) (G2:Ä 35 "looks_left" Ċa spLooksLeft):Ä 36 "fewest_looks" Ša spFewestL:=by
 refine Á Fi
 ·obtain⟨r,p,rfl,_⟩:=h;rfl
 ·obtain⟨r,p,rfl,r1,r4,p1,p4,q⟩:=h;have hr3:Ŷc 3:=ż (show 3<=35 by decide);refine ë (ĉc (Y9 (Ýa G1 hr3 Ü 1)) (pe_f G2 hr (ZF Ü (ZF ó (į (ZN F3 (WN (pa1 ZB)) Ü) (ZN F3 (WN éc) Ü))))));refine⟨_,Z,_,Z,r,p,Z,r1,r4,p1,p4,_,Z,_,Z,len1,λl1 h1=>?_⟩;have s1:Ĝa H H l1 [ô 0]:=snw h1;have e1:(Ï H l1 [ô 0]) l1=Ù [ô 0]:=ZI;generalize Ï H l1 [ô 0]=H1 at s1 e1 ⊢;refine⟨_,Z,l1,_,_,Z,Z,e1,À,À,?_,λl2 h2=>?_⟩
  ·rw[YR];exact sl6 (by simp;omega)
  rw[YR,BH];have s2:Ĝa H1 H1 l2 ((ŕ r (Þ 0)).map V.int):=snw h2;have e2:Row (Ï H1 l2 ((ŕ r (Þ 0)).map V.int)) l2 (ŕ r 0):=ZI;generalize Ï H1 l2 ((ŕ r (Þ 0)).map V.int)=H2 at s2 e2 ⊢;refine Óe len1 (λl3 h3=>?_);have s3:Ĝa H2 H2 l3 [Ó p]:=snw h3;have e3:(Ï H2 l3 [Ó p]) l3=Ù [Ó p]:=ZI;generalize Ï H2 l3 [Ó p]=H3 at s3 e3 ⊢;refine⟨_,Z,l3,_,_,Z,Z,e3,À,À,?_,λl4 h4=>?_⟩
  ·rw[YR];exact sl6 (by simp;omega)
  rw[YR,BH];have s4:Ĝa H3 H3 l4 ((ŕ r (Þ p)).map V.int):=snw h4;have e4:Row (Ï H3 l4 ((ŕ r (Þ p)).map V.int)) l4 (ŕ r (Þ p)):=ZI;generalize Ï H3 l4 ((ŕ r (Þ p)).map V.int)=H4 at s4 e4 ⊢;exact⟨r,p,l2,l4,_,_,Z,r1,r4,p1,p4,(e2.same s3).same s4,e4,Qu Ç À À,λH5 s5=>q H5 (Ľ (s2.trans (s3.trans (s4.trans s5))))⟩
end
open PySem L2 PyProof.Rows
section
variable {P:Z3}{w:Z5}{K:ZC}{mg:Ą}{base:Z8}{S C:Z1}{cs:ãb}
inductive spSaidG(C:Z1)(sp:Sp)(vs:ĝ)(H:Hp)(Q:VK)(z3_:XK):Prop
 |mk (a dx:Z1) (fs:ġa V) (x:V) (h0:vs=[œ,x]) (h1:Ŵb fs) (h2:Ġb (ć "say")=none) (h3:∀F H1 E',ē F->ńa H1->H1 F=Ù İd->sp [œ,x] H1 (λv H2=>H2 F=Ù İd/\Ŕ F (Ï H2 F [öa,v])) E')
theorem Mv(ms:Mono sp)(N:Nms mg S cs)(kS:Ëd S)(kc:ţc)(D:Űd) (M:Č P C sp):Ä 39 "_law_said" ["desk","row"] (spSaidG C sp):=by
 refine Á sc_said
 ·obtain⟨a,dx,fs,x,rfl,_⟩:=h;rfl
 ·obtain⟨a,dx,fs,x,rfl,ha,hfs,q⟩:=h;have nd:=sc_said.nd;refine ĉb (Ģe 2 F8) (FB (i:=3) rfl rfl nd kS N.seek Ŗd (λv=>WG)) (Ġ Ķa)
  refine ã (by show ø 2;decide) (λF hF=>?_);have sF:=snw (o:=.lst İd) hF;have eF:(Ï H F İd) F=Ù İd:=ZI;generalize Ï H F İd=H1 at sF eF ⊢;refine⟨_,Z,a,dx,fs,Z,sF _ _ ha,hfs,_,Z,?_⟩;refine ms _ _ _ _ _ ?_ (q F H1 _ hF sF eF);rintro v H2 ⟨e2,q2⟩;exact⟨_,Z,F,_,_,1,Z,Z,e2,Z,_,Z,q2⟩
end
open PySem L2 PyProof.Rows
noncomputable def Bd27(ns:Ċ):Prop:=∀n∈ns,n.natAbs<10 ^ 27
theorem e25n:Þ 10 ^ (25:Int).toNat=10000000000000000000000000:=Ç
theorem e12n:Þ 10 ^ (12:Int).toNat=1000000000000:=Ç
noncomputable def Stq(m:Int)(n:Int):Prop:=-40<=n/\n<=10000000000000000000000000+m*1000000000000
theorem Zu[Decidable p](h:¬è p=true):¬p:=λz=>h (ZS z)
section
variable {P:Z3}{w:Z5}{K:ZC}{mg:Ą}{base:Z8}
inductive spMixed(vs:ĝ)(H:Hp)(Q:VK)(z3_:XK):Prop
 |mk (c:Int) (k:Nat) (h0:vs=[ô c,Ó k]) (h1:k<=100) (h2:∀v H',0<=v->v<10000000000000->ū (ô v))
theorem sc_mixed:ä ["cell","k","number","some"] ["cell","k"] LG:=scm
theorem Ms(D:é "_law_mixed" LG ["cell","k"]):Ĺb:=by
 refine Á sc_mixed
 ·obtain⟨c,k,rfl,_⟩:=h;rfl
 ·obtain⟨c,k,rfl,hk,q⟩:=h;have nd:=sc_mixed.nd;refine ĉb (È 2 (ZN WS (ZN U7 (ZN U7 (ZN U7 (ZN V5 Ü ZB) (ZN V5 (ZN V5 ZB ó) ó)) (ZN V5 ZB ó)) ZB) ZB)) (È 3 (ũb ZB (ZF ZB (ZF ZB (ZF ZB (į ZB ZB)))))) (ĉc (È 2 (ZN WS (ZN V5 Ķa Ķa) (ă 3 (ZN WS ó ZB)))) (ZN YM (ZN U7 (ċa V5 2) (ZN WS Ü ZB)) ZB))
  refine⟨_,Z,_,_,Z,Z,ūb Ç Ç,_,Z,_,_,Z,Z,ìb Ç Ç,_,Z,_,_,Z,Z,ūb À À,_,_,Z,Z,_,Z,_,_,Z,Z,ìb Ç Ç,_,_,Z,Z,_,_,Z,Z,_,_,Z,Z,Ç,?_⟩;have m0:=Int.emod_nonneg (c*48271+7919*Ùe*Ùe+104729*Ùe+11) (show Þ 2147483647≠0 by decide);have m1:=O3 (c*48271+7919*Ùe*Ùe+104729*Ùe+11) (show Þ 0<2147483647 by decide);generalize (c*48271+7919*Ùe*Ùe+104729*Ùe+11)%2147483647=m at m0 m1;refine ã (sl6 Ç) (λl hl=>?_);have s1:Ĝa H H l Ġa:=snw hl;have e1:(Ï H l Ġa) l=Ù ([2147483629,2147483587,2147483579,2147483563,2147483549,2147483543,2147483497].map V.int):=ZI;generalize Ï H l Ġa=H1 at s1 e1 ⊢;obtain⟨r,hr1,hr2⟩:=LN (ns:=[2147483629,2147483587,2147483579,2147483563,2147483549,2147483543,2147483497]) (d:=Ùe%7) À (show Ùe%7<7 by omega);have hr3:0<r/\r<2147483647:=by
   simp only[W9,YH,or_false]at hr1;omega
  refine⟨_,Z,_,Z,_,_,Z,Z,ìb À À,_,Z,_,Z,_,_,Z,Z,Ç,l,_,_,ô r,Z,Z,ťc,hr2,_,_,Z,Z,hr3.1,?_⟩;have n0:=Int.emod_nonneg (m*m) (show r≠0 by omega);have n1:=O3 (m*m) hr3.1;generalize m*m%r=n at n0 n1;refine⟨_,Z,_,_,Z,Z,ìb À À,_,Z,_,_,Z,Z,Ç,_,_,Z,Z,_,_,Z,Z,ã Ç Ç,q _ H1 À À s1⟩
inductive spTab34(vs:ĝ)(H:Hp)(Q:VK)(z3_:XK):Prop
 |mk (c:Int) (h0:vs=[ô c,ô 6]) (h1:0<=c) (h2:∀t prs H',ē t->(∀p∈prs,ē p.1)->Çe (prs.map (·.1))->Ŀd->ıd H'->Ĕ->(∀p∈prs,Bd27 p.2)->Ŕ t H')
theorem sc_tab34:ä ["cell","most","rows","places","kind","first","table","r","row","c","least","one","some"] ["cell","most"] LI:=scm
theorem Lc(T:ûa)(D:é "_law_table" LI ["cell","most"]) (G:Ĺb):ķb:=by
 refine Á sc_tab34
 ·obtain⟨c,rfl,_⟩:=h;rfl
 ·obtain⟨cc,rfl,hc0,q⟩:=h;have nd:=sc_tab34.nd;refine ĉb (K1 (i:=2) (j:=3) rfl nd rfl rfl Ç rfl rfl (į (ZN U7 ZB (ZN WS Ü ó)) (ZN U7 ZB (ZN WS (ZN YM Ü ó) ó))) rfl) (È 4 (ZN WS (ZN YM Ü (ZN V5 ó ó)) ZB)) (Ħ (È 5 (Èe (ũb ZB (ZF (SK SI ZB) (į (ZN OD ZB ZB) (SK SI ZB)))) ŕc)) (Ćd 6) (ĉc (ňa (ňb (ß 2)) (YQ (i:=7) nd rfl Ô) (Ħ (Ćd 8) (ňa (ňb (ß 3)) (YQ (i:=9) nd rfl Ô) (Ħ (È 10 (pv 5)) (ša o_gt (pv 7) ZB (ZL (È 10 (Èe (ă 6 (ċa RL 7)) (pv 9))))) (Ħ (ša o_gt (pv 9) ZB (ZL (È 10 (ŵb (â 10 (ă 8 (SK SI ZB))))))) (È 11 (pe_f G hr (į Ü (ZN U7 (ZN V5 ZB (pv 7)) (pv 9))))) (ZG (È 12 (ũb (ċa WS 11) (ZF (ZN U7 ZB (ċa WS 11)) (į (ZN WS (pv 11) (ZN OD ZB ZB)) (ZN YM (ċa WS 11) ZB))))) (ZL (Y9 (YF X3 QI QH TC (pv 8) (pa1 (ZN U7 (pv 10) (ă 12 ŕc)))))))))) (ZL (Y9 (YF X3 QI QH TC (pv 6) (ß 8)))))) (pv 6)))
  refine⟨_,Z,_,Z,_,_,Z,Z,Ç,_,_,Z,Z,_,Z,_,Z,_,_,Z,Z,ã Ç Ç,_,Z,_,_,Z,Z,Ç,_,_,Z,Z,_,_,Z,?_⟩;have r1:1<=1+cc%6/\1+cc%6<=6:=À
  have p1:1<=1+cc/6%6/\1+cc/6%6<=6:=À
  generalize 1+cc%6=rows at r1 ⊢;generalize 1+cc/6%6=wide at p1 ⊢;refine⟨_,Z,_,Z,_,Z,_,_,Z,Z,ìb Ç Ç,_,_,Z,Z,ã Ç Ç,_,_,Z,Z,Ç,?_⟩;have k0:0<=cc/(6*6)%5:=À
  have k1:cc/(6*6)%5<5:=À
  generalize cc/(6*6)%5=kind at k0 k1 ⊢;refine⟨_,Z,_,_,Z,Z,ő Ç Ç Ç,_,Z,len5,λl3 hl3=>?_⟩;rw[e25n];obtain⟨first,hf1,hf2⟩:=LN (ns:=[0,0,-3,10000000000000000000000000,-40]) k0 k1;have hfirst:Stq 0 first:=by
   simp only[W9,YH,or_false]at hf1;unfold Stq;omega
  refine⟨_,Z,l3,_,_,ô first,Z,Z,sqo ZI,hf2,?_⟩;have s3:Ĝa H H l3 [ô 0,ô 0,ô (-3),ô 10000000000000000000000000,ô (-40)]:=snw hl3;generalize Ï H l3 [ô 0,ô 0,ô (-3),ô 10000000000000000000000000,ô (-40)]=H2 at s3 ⊢;have B6:=s3;clear s3 hf1 hf2;refine ã len0 (λtb htb=>?_);have tb0:ē tb:=B6.free htb;refine ěe rows (λi σ H2=>∃(prs:Prs) (o7 o8 o9 o10 o11 o12:Z9 V),σ = ċb o7 o8 o9 o10 /\ ńa H2/\Tab H2 tb prs/\prs.length=i/\GoodP wide.toNat prs/\Çe (prs.map (·.1))/\(∀p∈prs,ē p.1)/\∀p∈prs,∀n∈p.2,Stq (6*ũ i) n) ⟨[],none,none,none,none,none,none,Z,B6.trans (snw htb),ã ZI (Ļ (nomatch hp)),Z,ő (Ļ (nomatch hp)) (Ļ (nomatch hp)) (λi hi=>ń hi Í),Í,(Ļ (nomatch hp)),Ļ (nomatch hp)⟩
  ·rintro i σ H2 hi ⟨prs,o7,o8,o9,o10,o11,o12,rfl,B,hT,hlen,hg,hnd,hfr,hbd⟩;refine ã len0 (λnn hnn=>?_);have nn0:ē nn:=B.free hnn;have nnt:tb≠nn:=WX hT.l hnn;have nnp:∀p∈prs,p.1≠nn:=Ļ (WX (hT.r p hp) hnn);refine ěe wide (λj σ H3=>∃(cur:Ċ) (o9 o10 o11 o12:Z9 V),σ = ċb (ļ (0+ũ i)) (Ú nn) o9 o10 /\ ńa H3/\Tab H3 tb prs/\Row H3 nn cur/\cur.length=j/\nfP cur/\(i=0\/∀k,k<j->(Y3 prs (i-1)).getD k 0<=cur.getD k 0)/\∀n∈cur,Stq (6*ũ i+ũ j) n) ⟨[],o9,o10,o11,o12,Z,B.trans (snw hnn),ëa (snw hnn),Row.new,Z,λk hk=>ń hk Í,Ŀ (λk hk=>ń hk Í),λn hn=>nomatch hn⟩
   ·rintro j σ H3 hj ⟨cur,o9,o10,o11,o12,rfl,B3,hT3,hR3,hcl,hnf,hab,hcb⟩;have hd1:∀(ah:Int) (mo:Int) (H6:Hp),0<=mo->mo<=1000000000000->Same H3 H6->(i=0\/(Y3 prs (i-1)).getD j 0<=ah)->(∀k,k+1=cur.length->cur.getD k 0<=ah)->Stq (6*ũ i+ũ j) ah -> Ĝa H H6 nn (cur.map V.int++[ô (ah+mo)])/\Tab (Ï H6 nn (cur.map V.int++[ô (ah+mo)])) tb prs/\î (cur++[ah+mo])=j+1/\nfP (cur++[ah+mo])/\(i=0\/∀k,k<j+1->(Y3 prs (i-1)).getD k 0<=(cur++[ah+mo]).getD k 0)/\∀n∈cur++[ah+mo],Stq (6*ũ i+ũ (j+1)) n:=by
     intro ah mo H6 mo0 mo1 s6 hm1 hm2 hm3;refine⟨λb o e=>?_,ã (by rw[ZP nnt];exact(hT3.same s6).l) Åc,?_,?_,?_,?_⟩
     ·rw[ZP (WX e nn0)];exact s6 _ _ (B3 b o e)
     ·unfold Row;rw[ZP (nnp p hp)];exact(hT3.same s6).r p hp
     ·rw[WK,VP,hcl]
     ·refine Lo hnf λk hk=>?_;have:=hm2 k hk;omega
     ·rcases hab with z | z
      ·exact Ė z
      ·rcases hm1 with z2 | z2
       ·exact Ė z2
       ·refine Ŀ (λk hk=>?_);rw[ID]
        by_cases hkj:k<cur.length
        ·rw[ZH hkj];exact z k À
        ·rw[ZE hkj,ZH À,show k=j by omega];omega
     ·intro n hn;rcases ũd hn with z | z
      ·have:=hcb n z;unfold Stq at this ⊢;omega
      ·rw[V3.mp z];unfold Stq at hm3 ⊢;omega
    have hfirst':Stq (6*ũ i+ũ j) first:=by
     unfold Stq at hfirst ⊢;omega
    refine ë Z;dsimp only[WV];refine ND (λN=>∀ah:Int,(i=0\/(Y3 prs (i-1)).getD j 0<=ah)->Stq (6*ũ i+ũ j) ah->N (ċb (ļ (0+ũ i)) (Ú nn) (ļ (0+ũ j)) (ļ ah)) H3) (λah hm1 hm3=>?_) (λtail=>?_)
    ·refine ND (λN=>∀ah:Int,(i=0\/(Y3 prs (i-1)).getD j 0<=ah)->(∀k,k+1=cur.length->cur.getD k 0<=ah)->Stq (6*ũ i+ũ j) ah->N (ċb (ļ (0+ũ i)) (Ú nn) (ļ (0+ũ j)) (ļ ah)) H3) (λah hm1 hm2 hm3=>?_) (λtail=>?_)
     ·refine⟨_,Z,_,Z,_,_,Z,Z,ìb Ç Ç,_,Z,_,_,Z,Z,cc,7*i+j,?_,À,λmo H5 m0 m1 s5=>?_⟩
      ·rw[show 7*(0+Þ i)+(0+Þ j)=Ý (7*i+j) by omega]
      refine⟨_,Z,_,_,Z,Z,Ç,_,Z,_,_,Z,Z,Ç,_,Z,_,_,Z,Z,Ç,_,_,Z,Z,_,Z,_,_,Z,Z,ő Ç Ç Ç,_,_,Z,Z,(by rw[e12n];decide),_,Z,_,_,Z,Z,Ç,_,_,Z,Z,ã Ç Ç,len5,λls hls=>?_⟩;rw[e12n];have sls:Ĝa H5 H5 ls Đe:=snw hls;have hls2:(Ï H5 ls Đe) ls=Ù ([mo%2,mo%3,1+mo%4,ŷd,mo%7/5].map V.int):=ZI;generalize Ï H5 ls Đe=H6 at sls hls2 ⊢;obtain⟨r,hr1,hr2⟩:=LN (ns:=[mo%2,mo%3,1+mo%4,ŷd,mo%7/5]) k0 k1;have hr0:0<=r/\r<=1000000000000:=by
       simp only[W9,YH,or_false]at hr1;omega
      have s6:=s5.trans sls;have hR6:=hR3.same s6;refine⟨_,Z,Ė (ő Z _ hR6.sq),_,Z,_,Z,_,Z,ls,_,_,ô r,Z,Z,sqo hls2,hr2,_,_,Z,Z,nn,_,_,Z,Z,hR6,?_,?_⟩
      ·rw[ZD];exact UB À
      ·obtain⟨z1,z2,z3,z4,z5,z6⟩:=hd1 ah r H6 hr0.1 hr0.2 s6 hm1 hm2 hm3;exact⟨cur++[ah+r],_,_,_,_,Z,z1,z2,Row.push,z3,z4,z5,z6⟩
     ·refine Ìa (ite2 (λhcol=>?_) (λhcol=>?_))
      ·have hcol:=ġ hcol;refine⟨_,Z,_,Z,_,Z,nn,_,_,_,Z,Z,hR3.sq,Qa À,_,_,Z,?_⟩;have hla:=hcb (cur.getD (cur.length-1) 0) (by rw[WY,WA À];exact YE _);have hlk:∀k,k+1=cur.length->cur.getD k 0=cur.getD (cur.length-1) 0:=λk hk=>by rw[show cur.length-1=k by omega]
       generalize cur.getD (cur.length-1) 0=la at hla hlk ⊢;refine tail _ ?_ (λk hk=>?_) ?_
       ·rcases hm1 with z | z
        ·exact Ė z
        ·exact Ŀ (by split<;>omega)
       ·rw[hlk k hk];split<;>omega
       ·split
        ·exact hla
        ·exact hm3
      ·have hcol:=Zu hcol;exact tail ah hm1 (λk hk=>À) hm3
    ·refine Ìa (ite2 (λhrow=>?_) (λhrow=>?_))
     ·have hrow:=ġ hrow;obtain⟨p,hp1,hp2,hp3⟩:=T7 (prs:=prs) (i:=i-1) À;have hpl:=hg.len p hp1;refine⟨_,Z,_,Z,_,_,Z,Z,tb,_,_,Ê p.1,Z,Z,hT3.sq,?_,_,Z,p.1,_,_,ô (p.2.getD j 0),Z,Z,(hT3.r p hp1).sq,?_,tail _ (Ŀ (by rw[hp3];exact Int.le_refl _)) ?_⟩
      ·rw[show Þ 0+Þ i-1=Ý (i-1) by omega];exact UM (by rw[ZX,hp2];rfl)
      ·rw[Int.zero_add];exact XG À
      ·have:=hbd p hp1 (p.2.getD j 0) (by rw[WY,WA À];exact YE _);unfold Stq at this ⊢;omega
     ·have hrow:=Zu hrow;exact tail first (Ė À) hfirst'
   ·
    rintro σ H3 ⟨cur,o9,o10,o11,o12,rfl,B3,hT3,hR3,hcl,hnf,hab,hcb⟩;refine⟨_,Z,Ė (ő Z _ hT3.sq),_,Z,tb,_,_,Z,Z,hT3.l,?_,?_⟩
    ·rw[ZD];exact UB À
    ·have key:∀b o,b≠tb->H3 b=ţ->(Ï H3 tb ((Ų Śb)++[Ê nn])) b=ţ:=λb o hb e=>Řa hb e
     have ntb:∀p∈prs,p.1≠tb:=λp hp z=>by
      have h1:=hT3.r p hp;rw[z]at h1;have h2:=hT3.l;unfold Row at h1;rw[h1]at h2;have h3:=hg.len p hp;cases e:p.2 with
      |nil=>rw[e]at h3;simp at h3;omega
      |cons u v =>
       rw[e]at h2;cases prs with
       |nil=>simp at h2
       |cons a b=>simp at h2
     refine⟨prs++[(nn,cur)],_,_,_,_,_,_,Z,?_,?_,?_,?_,?_,?_,?_⟩
     ·intro b o e;exact key b o (WX e tb0) (B3 b o e)
     ·refine ã (by rw[ZI,W2];rfl) Åc;rcases ũd hp with z | z
      ·exact key _ _ (ntb p z) (hT3.r p z)
      ·have:p=(nn,cur):=by simpa using z
       subst this;exact key _ _ (ĥ nnt) hR3
     ·rw[WK,VP,hlen]
     ·refine Im hg À hnf ?_;rcases hab with z | z
      ·exact Ė À
      ·refine Ŀ (λk hk=>?_);rw[hlen];exact z k À
     ·rw[W2,List.nodup_append];refine ő hnd Í (λa ha b hb=>?_);obtain⟨p,hp,rfl⟩:=Áb ha;have:b=nn:=by simpa using hb
      subst this;exact nnp p hp
     ·intro p hp;rcases ũd hp with z | z
      ·exact hfr p z
      ·have:p=(nn,cur):=by simpa using z
       subst this;exact nn0
     ·intro p hp n hn;rcases ũd hp with z | z
      ·have:=hbd p z n hn;unfold Stq at this ⊢;omega
      ·have:p=(nn,cur):=by simpa using z
       subst this;have:=hcb n hn;unfold Stq at this ⊢;omega
  ·rintro σ H2 ⟨prs,o7,o8,o9,o10,o11,o12,rfl,B,hT,hlen,hg,hnd,hfr,hbd⟩;refine ža (q tb prs H2 tb0 hfr hnd B hT (Qq hg À À À À) λp hp n hn=>?_);have:=hbd p hp n hn;unfold Stq at this;omega
end
end Seek
namespace L2
open PySem PySem.Spec PyProof.Rows
end L2
namespace Seek
open PySem L2 PyProof.Rows
section
variable {P:Z3}{w:Z5}{K:ZC}{mg:Ą}{base:Z8}
theorem We:ä Ŏ Ŏ M9:=scm
theorem Et(hstr:Þc) (D:é "_law_written" M9 Ŏ):Ä 1 "_law_written" Ŏ spST:=by
 refine Á We
 ·obtain⟨t,prs,rfl,_⟩:=h;rfl
 ·obtain⟨t,prs,rfl,hT,hg,hb,q⟩:=h;have nd1:(Ïb:ù).Nodup:=Â
  have nd2:(["number"]:ù).Nodup:=Â
  obtain⟨g,g1,g2,g3,g4⟩:=łd;refine Ňb (Ņc M9 (K6 K F.plainAttrs_str F.slot_str_join F.type_str_join TZ ZR (pa1 (Ff ["number"] [none] rfl (Gp K Ü) (by kernel_rfl) (Ö (pg_c 0 nd2)) (Ö Y0) (Ö (Ďa Ş))))))
  refine⟨Z,_,Z,t,Z,Ņ hT.sq,V0 (ms:=prs) (λp:Z1×Ċ=>Śb) (λp=>Æd (rowS p.2)) hT.sq Ĭb (Œd ?_) λD2 H2 hD s2 eD=>?_⟩
  ·have hR:=(ëa sm).r p hp;have h6:p.2.length<=6:=ú ŝb g4
   refine⟨Z,_,Z,p.1,Z,Ņ hR.sq,V0 (ms:=p.2) V.int (λn=>Æd (ZM n)) hR.sq Ĭb (λn hn H3 Q3 sm3 q3=>Ğc n (KB (hb p hp n hn)) (q3 _ ŵ)) λD3 H3 hD3 s3 eD3=>?_⟩;exact⟨_,D3,p.2.map ZM,Z,Z,by rw[eD3,W7];rfl,FD h6 (hb p hp),q' _ s3⟩
  ·exact⟨_,D2,(List.map (λp:Z1×Ċ=>p.2) prs).map rowS,Z,Z,by rw[eD];simp only[W7];rfl,BZ hg hb,q H2 s2⟩
end
end Seek
namespace L2
open PySem PySem.Spec PyProof.Rows
noncomputable def FnAtT(P:Z3)(w:Z5)(K:ZC)(mg:Ą)(base:Z8)(k:Nat)(x:Str)(ps:ù)(sp:Sp):Prop :=
 ∃f,mg x=Ú f/\Ũ K f=true/\(∀vs H Q E,Če) /\ ∀(A:Z4) (ou:êb) (s:Z2) (H:Hp) (us:š) (vs:ĝ) (Q:VK) (E:XK),õc A->1<=s.toks->Env0 P w K mg base A ou s H->Ŝa vs->ĥa->ŕd ou
section
variable {P:Z3}{w:Z5}{K:ZC}{mg:Ą}{base:Z8}{j k:Nat}{x:Str}{ps:ù}{sp sp':Sp}
theorem FnAtT.of{st:Z6}{N:ù}(D:é x st ps)(S:ä N ps st)(len:∀vs H Q E,Če)
  (hbody:∀(f:Z1) (gv:Z0) (A:Z4) (ou:êb) (s:Z2) (H:Hp) (vs:ĝ) (Q:VK) (E:XK),õc (äc x (ZJ st) gv)->ĥa -> ∃t,PSst (û ũc N x (ZJ st) gv ou) (WI st) t/\t { nx:=λ_ H'=>Q .non H',rt:=Q } Ŋd H):FnAtT P w K mg base (k+1) x ps sp:=by
 obtain⟨f,fd,F,hm,hb⟩:=D;obtain⟨oc,od,kV,doc,pm,an,gv,ct,osl,rfl,lk,hcd⟩:=F.ex;refine⟨f,hm,F.kp,len,λA ou s H us vs Q E hr tk e0 r hsp=>?_⟩;have hl:=len _ _ _ _ hsp;have hlu:us.length=ps.length:=by rw[<- r.length];exact hl
 have KX:Éd:=e0.mod.kin.keeps Ŗb;have lim:s.heap.NoLimit:=e0.mod.nolimit.keeps Ŗb;have hbd:Ůc (ğ x x doc gv) us ĕc:=by simpa using hb s us KX (by simpa using hlu)
 have hkind:∀y∈ĕc,(ZJ st).names.lookup y.1=ēe\/((ZJ st).names.lookup y.1=Ã .cell/\íe ((cellsFrom Ýd (ZJ st).names []).lookup y.1)=true):=λ⟨n,v⟩ hy=>by
  rcases S.par n (List.of_mem_zip hy).1 with q | q
  ·exact Ė q
  ·exact Ļc
 refine ĺa (hbd _ _ _ _ ?_);refine īa (SH tk (wpAny_newFunctionEnv_cells (Q:=þa) (E:=Õa) S.kind hkind λenv he s1 ic=>ã he ic)) ?_ z.elim;rintro env s1 ⟨tk1,he,ic⟩;subst he;refine ã (lim.keeps ic.toInCall.keep) (codeAny_func ?_);obtain⟨t,ht,hq⟩:=hbody f gv A ou s H vs Q E (hr.deeper _) hsp;have I:Inv (û ũc N x (ZJ st) gv ou) [] Ŋd H s1:=JO S hr.hd e0 hl r ic;refine WL (ht [] s1 Ŋd H _ tk1 I hq) (λfl s' hs=>?_) λe s' hs=>hs;have fin:∀{σ':St}{H':Hp}{v:V}{u:Z0},őb (û ũc N x (ZJ st) gv ou) []->Őa v->Q v H'->CE ou P w H s Q u s' :=
  λ{σ' H' v u} J rv q=>⟨v,H',J.os,J.bare,J.base,J.hok,rv,q⟩
 cases fl with
 |ret u =>
  obtain⟨v,σ',H',J,rv,q⟩:=hs;exact fin J rv q
 |next =>
  obtain⟨σ',H',J,q⟩:=hs;exact fin (v:=V.non) (u:=Value.none) J rfl q
 |brk =>
  obtain⟨_,_,_,q⟩:=hs;exact Ő q
 |cont =>
  obtain⟨_,_,_,q⟩:=hs;exact Ő q
end
section
variable {X:Cx}{k:Nat}{x:Str}{ps:ù}{sp:Sp}{e:Z7}{es:Šc}{t:TA}{p pos:Pos}{R:St->Ť Z0}
end
end L2
namespace Seek
open PySem L2 PyProof.Rows
section
variable {P:Z3}{w:Z5}{K:ZC}{mg:Ą}{base:Z8}
noncomputable def shS(prs:Prs):Str:=ĉa (tabS ð) "\n" "/"
inductive spShown(vs:ĝ)(H:Hp)(Q:VK)(z3_:XK):Prop
 |mk (t:Z1) (prs:Prs) (h0:vs=[Ê t]) (h1:ľ) (h2:Ĕ) (h3:(∀p∈prs,Bd50 p.2)) (h4:∀H',ū (ĉ Ñd))
theorem Mi:ä Ŏ Ŏ LH:=scm
theorem MM(hg:Ĕ)(hb:∀p∈prs,Bd50 p.2):î (tabS ð)<=2000:=by
 obtain⟨g,g1,g2,g3,g4⟩:=łd;refine C8 (B:=312) (M:=2000) (λr hr=>?_) ?_
 ·obtain⟨q,hq,rfl⟩:=Áb hr;exact Ņd
 ·rw[ZD];have g2:ėa:=g2;omega
theorem Mx(D:é "_law_shown" LH Ŏ) (G:Ä 1 "_law_written" Ŏ spST):Ŋ:=by
 refine FnAtT.of D Mi ę Å
 ·obtain⟨t,prs,rfl,_⟩:=h;rfl
 ·obtain⟨t,prs,rfl,hT,hg,hb,q⟩:=h;refine ë (KY (KW (UX G.toX hr VZ Ş)));exact⟨_,Z,t,prs,Z,hT,hg,hb,λH' s'=>Óe (WB (MM hg hb) Ç) (q H' s')⟩
end
open PySem L2 PyProof.Rows
noncomputable def dCel(c:Ġc):PyData:=.tuple [Ó c.1,Ó c.2]
theorem DL{K:ZC}{H:Hp}:∀{cs:ċ Z1 Ġc},(∀c∈cs,O7 H c)->RdAll K H (Õc (λc=>Ŷ c.1)) (Õc (λc=>dCel c.2))
 | [],_=>.nil
 |c::cs,h=>Ŭb (.tup (sqt (h c (XB ..))) (Ŭb (ô _) (Ŭb (ô _) .nil))) (DL λd hd=>h d (UV _ hd))
theorem CM:∀cs:śd Nat,PyData.canLayAll0 (Õc dCel)=true/\PyData.depthAll (Õc dCel)<=2
 | []=>ã Z (by simp[PyData.depthAll])
 |c::cs=>by
  have:=CM cs;refine ųb (by simp[PyData.canLayAll0,PyData.canLay0,dCel,this.1]);simp[PyData.depthAll,PyData.depth,dCel];have:=this.2;omega
theorem Za(cs:śd Nat):SeqAt.shaped (.list (Õc dCel))=true:=by
 have h:=CM cs;unfold SeqAt.shaped;simp[PyData.canLay0,PyData.depth,h.1];omega
theorem Ly(cs:śd Nat):PyData.eqv (.list (Õc dCel)) (.list [])=cs.isEmpty:=by
 cases cs<;>simp[PyData.eqv,PyData.eqvAll]
section
variable {P:Z3}{w:Z5}{K:ZC}{mg:Ą}{base:Z8}
theorem Fa:ş "cells" NM:=scm
theorem Jp(hstr:Þc) (D:é "_law_cells" NM ["cells"]):ác:=by
 refine Á Fa
 ·obtain⟨a,cs,rfl,_⟩:=h;rfl
 ·obtain⟨a,cs,rfl,ha,hc,hn,q⟩:=h;have nd1:(["r","c"]:ù).Nodup:=Â
  refine ë (ĉc (ša (K4 hr.units) Ü (WN U1) (Ġ ZR)) (Ū ["r","c"] [none,none] NM "cells" (O9 K rfl nd1) (ZN UC (ZN UC (Ďa Ş) ZR) (Ďa éc))))
  refine Óe (sl6 Ç) (λl hl=>?_);have s1:=snw (o:=.lst []) hl;have e1:(Ï H l []) l=Ù []:=ZI;generalize Ï H l []=H1 at s1 e1 ⊢;have hc1:∀c∈cs,O7 H1 c:=λc h=>Ųc (hc c h).1;have ha1:=Ųc ha;refine⟨.list ((Õc (·.2)).map dCel),.list [],.lst (sqo ha1) (by rw[W7];exact DL hc1),.lst ťc .nil,Za _,Za [],_,Z,?_⟩;rw[Ly];cases hcs:cs with
  |nil =>
   rw[hcs]at q;exact Ŧb Łd
  |cons c0 cs0 =>
   rw[<- hcs];have hne:Õc (·.2)≠[]:=by rw[hcs];simp
   rw[show(Õc (·.2)).isEmpty=false by rw[hcs];rfl];have qf:TU (Õc (·.2))=SQ (Õc (·.2)):=ZE hne;rw[qf]at q;refine ĭb (ńc ha1 (λc:Z1×Ġc=>c.1) c.2.1 c.2.2 hc1)
   ·obtain⟨_,h1,h2⟩:=hc c h;have f1:=fig6 h1;have f2:=fig6 h2;have f1':î (ĭ c.2.1)=1:=f1.2;have f2':î (ĭ c.2.2)=1:=f2.2;have l1:āb ":"=1:=Â
    exact⟨_,Z,_,Z,f1.1,_,_,Z,Z,Ĭb,_,Z,_,Z,f2.1,_,_,Z,Z,sl6 (by rw[TX];omega),Īc⟩
   ·refine⟨_,D,(Õc (λc:Z1×Ġc=>c.2)).map SG,Z,Z,?_,?_,q H2 Äc⟩
    ·rw[hDl,W7,W7];rfl
    ·rw[show(ć " ")=ű #[32] from YO];refine RZ (B:=3) Ĳc ?_
     ·obtain⟨c,hc2,rfl⟩:=Áb hw;obtain⟨c2,hc3,rfl⟩:=Áb hc2;rw[BN (hc c2 hc3).2.1 (hc c2 hc3).2.2];exact ħ
     ·rw[ZD,ZD];omega
end
open PySem L2 PyProof.Rows
section
variable {P:Z3}{w:Z5}{K:ZC}{mg:Ą}{base:Z8}
theorem sc_lwalk:ä ["table","x","r","c","found"] ž LF:=scm
theorem Mr(T:ûa)(D:é "_law_walk" LF ž):Ä 1 "_law_walk" ž spWalk:=by
 refine Á sc_lwalk
 ·obtain⟨t,prs,x,rfl,_⟩:=h;rfl
 ·obtain⟨t,prs,x,rfl,hT,hg,q⟩:=h;obtain⟨g,g1,g2,g3,g4⟩:=łd;obtain⟨p0,hp0,hm0,hx0⟩:=X0 (prs:=prs) g1;have nd:=sc_lwalk.nd;refine ĉb (K1 (i:=2) (j:=3) rfl nd rfl rfl Ç rfl rfl (į ZB (ZN RL Ŷb ZB)) rfl) (Ćd 4) (ĉc (ğb Ķa 3 ŕc (ša WH (Èe (Èe Ü Ķa) Żc) ó (Ġ ŕc)) (ZL (ZZ (pcm o_lt ó (Èe (Èe Ü Ķa) Żc)) (ZL (È 3 (ċa RL 3))) (ZL (È 2 (ċa U7 2)))))) ŕc)
  refine⟨_,Z,t,_,0,Ê p0.1,Z,Z,hT.sq,UM (j:=0) (by rw[ZX,hx0];rfl),p0.1,_,Z,ļd,_,_,Z,Z,_,_,Z,len0,Ĵd⟩;rw[ZD,g.len p0 hm0];have L0:ē L:=hL;have s2:Ĝa H H L []:=snw hL;have e2:(Ï H L []) L=Ù []:=ZI;generalize Ï H L []=H2 at s2 e2 ⊢;refine ő (λm σ H3=>∃(r p:Nat) (rr qq:Int) (cs:Cs),m=(prs.length-r)+p/\r<=prs.length/\p<=ĺ/\rr=ũ r/\qq=ũ p-1/\σ = [Ú t,ļ x,ļ rr,ļ qq,Ú L]/\ńa H3/\H3 L=Ù (Õc UG) /\ (∀c∈cs,YC H3 c/\ē c.1)/\Õc (·.2)++UQ prs x m r p=Ůb/\cs.length+m<=12) ⟨_,0,ĺ,0,_,[],Z,À,À,Z,Z,Z,s2,e2,èd (nomatch hc),Z,by simp;omega⟩ ?_
  rintro m σ H3 ⟨r,p,rr,qq,cs,hm,hr1,hp1,hrr,hqq,rfl,sm,hLl,hcs,hcw,hcl⟩;have hT3:=ëa sm;have fin:¬(Ĵb r/\0<p)->Ŕ L H3:=λhn=>by
   rw[Zk hn,List.append_nil]at hcw;exact q L cs H3 L0 sm hLl hcs hcw
  refine íc t hT3.sq;rw[ZD];refine Ŋa
  rotate_left
  ·refine ĭb (ža (fin λz=>h1 (ZS À)))
  have h1':=ġ h1;have hrl:Ĵb r:=À
  clear h1';refine Ìa ŗc
  rotate_left
  ·exact ža (fin λz=>h2 (ZS À))
  have h2:=ġ h2;obtain⟨k,rfl⟩:∃k,p=k+1:=Ąd (p-1);have hk:qq=ũ k:=À
  subst hk hrr;obtain⟨mm,rfl⟩:∃mm,m=mm+1:=Ąd (m-1);rw[Zj hrl À,Nat.add_sub_cancel]at hcw;refine ő _ (λ_ _ hh=>hh) ⟨_,Z,õb hLl,_,Z,_,Z,len2,λT1 hT1=>?_⟩;have s3:ıb H3 T1 [Ó r,Ó k]:=snw hT1;have e3:YC (Ě H3 T1 [Ó r,Ó k]) (T1,r,k):=ZI;generalize Ě H3 T1 [Ó r,Ó k]=H4 at s3 e3 ⊢;have hL4:=øe hLl;refine⟨L,_,_,Z,Z,hL4,by rw[ZD];exact UB À,?_⟩;have e5:(ĝa) L=Ù ((cs++[(T1,r,k)]).map UG):=by
   rw[ZI,W2];rfl
  have s5:Ĝa H H4 L (Õc UG++[Ê T1]):=(Şa s3).upd L0;have c5:∀c∈cs++[(T1,r,k)],YC ĝa c/\ē c.1:=èd (by
   have h4:YC H4 c/\ē c.1:=by
    rcases ũd hc with z | z
    ·exact ã (øe (hcs c z).1) (hcs c z).2
    ·have:c=(T1,r,k):=by simpa using z
     subst this;exact ã e3 (sm.free hT1)
   refine ã ?_ h4.2;unfold YC;rw[ZP (DK h4.1 hL4)];exact h4.1)
  generalize ĝa=H5 at e5 s5 c5 ⊢;have hT5:=ëa s5;obtain⟨pr,hp1',hp2,hp3⟩:=T7 hrl;have hpl:=g.len pr hp1';have ev:valN prs r k=pr.2.getD k 0:=by
   unfold valN;rw[hp3]
  have at1:atI ((Ų Śb)) (Ý r)=Ã (Ŷ pr.1):=UM (by rw[ZX,hp2];rfl);have at2:atI (pr.2.map V.int) (Ý k)=Ã (Žb (pr.2.getD k 0)):=XG À;rw[<- ev]at at2;generalize valN prs r k=n at hcw at2;refine⟨_,Z,_,Z,t,_,_,Ê pr.1,Z,Z,hT5.sq,at1,_,Z,pr.1,_,_,ô n,Z,Z,(hT5.r pr hp1').sq,at2,_,Z,Z,_,Z,?_⟩
  by_cases hx:n=x
  ·rw[ZS (by rw[hx])];refine Ŧb (ža (q L _ H5 L0 s5 e5 c5 ?_));rw[ZH hx]at hcw;rw[W2];exact hcw
  ·rw[ZW (by intro z;injection z with z;exact hx z)];rw[ZE hx]at hcw;refine ĭb ⟨_,Z,_,Z,_,Z,t,_,_,Ê pr.1,Z,Z,hT5.sq,at1,_,Z,pr.1,_,_,ô n,Z,Z,(hT5.r pr hp1').sq,at2,_,_,Z,Z,_,Z,ite2 (λh3=>?_) (λh3=>?_)⟩
   ·have h3:=ġ h3;rw[ZH h3]at hcw;refine⟨_,Z,_,_,Z,Z,mm,À,r,k,_,_,cs++[(T1,r,k)],À,hr1,À,Z,Z,Z,s5,e5,c5,?_,?_⟩
    ·rw[W2,List.append_assoc];exact hcw
    ·rw[WK,VP];omega
   ·have h3:¬x<n:=λz=>h3 (ZS z);rw[ZE h3]at hcw;refine⟨_,Z,_,_,Z,Z,mm,À,r+1,k+1,_,_,cs++[(T1,r,k)],À,À,hp1,Z,À,Z,s5,e5,c5,?_,?_⟩
    ·rw[W2,List.append_assoc];exact hcw
    ·rw[WK,VP];omega
end
open PySem L2 PyProof.Rows
section
variable {P:Z3}{w:Z5}{K:ZC}{mg:Ą}{base:Z8}
inductive spLNum(vs:ĝ)(H:Hp)(Q:VK)(z3_:XK):Prop
 |mk (t:Z1) (prs:Prs) (c:Nat) (h0:vs=[Ê t,Ó c]) (h1:ľ) (h2:Ĕ) (h3:∀x H',-999999999<=x->x<=999999999->ū (ô x))
theorem sc_lnum:ä ["table","cell","numbers","row","one"] ["table","cell"] JM:=scm
theorem LM{α:Type}{f:α->V}{xs:Æ α}{c:Nat}(h:0<xs.length):∃x,atI (xs.map f) (Þ c%Þ (î (xs.map f)))=Ã (f x):=by
 have hm:c%xs.length<xs.length:=X9 _ h;refine ųb (xs[c%xs.length]);rw[ZD,show(Þ c%Þ xs.length)=Ý (c%xs.length) from(Int.natCast_emod _ _).symm];exact WE (by rw[ZX,WA hm];rfl)
theorem Ry{a b c d:Int}(m:Nat):∃x,atI [Žb a,ô b,ô c,ô d] (Þ m%4)=Ã (Žb x):=LM (f:=V.int) (xs:=[a,b,c,d]) (c:=m) Í
theorem Rx{a b:Int}(m:Nat):∃x,atI [Žb a,ô b] (Þ m%2)=Ã (Žb x):=LM (f:=V.int) (xs:=[a,b]) (c:=m) Í
theorem Sr(T:ûa)(hmin:ě "min") (D:é "_law_number" JM ["table","cell"]):Ŏc:=by
 refine Á sc_lnum
 ·obtain⟨t,prs,c,rfl,_⟩:=h;rfl
 ·obtain⟨t,prs,c,rfl,hT,hg,q⟩:=h;obtain⟨g,g1,g2,g3,g4⟩:=łd;have nd:=sc_lnum.nd;refine ĉb (Ćd 2) (ňa (Y7 Ü) (YQ (i:=3) nd rfl Ô) (ZL (È 2 (ZN SN Ķa Żc)))) (Ħ (È 4 (ZN U7 (ă 2 (ZN WS ó (pln T Ķa))) (Èe (ũb ZB (į ZB (SK SI ZB))) (Ča ó ZB)))) (ša WH (Ča ó ZB) ZB (ZL (È 4 (ZN V5 (Ča ó (ZN OD ZB ZB)) (Èe (WN (į ZB (SK SI ZB))) (Ča ó ZB)))))) (Ġ (ŵb (į (SK SI ZB) (pe_b (JY rfl) hmin boot_min (ýa ZB 4))))))
  refine ã len0 (λp0 hp0=>?_);have s0:=snw (o:=.lst []) hp0;have e0:(Ï H p0 []) p0=Ù (([]:Ċ).map V.int):=ZI;generalize Ï H p0 []=H0 at s0 e0 ⊢;refine Ća t (ĉd s0) (JA (xs:=Ų Śb) (λi σ H1=>∃(o3:Z9 V) (n:Z1) (ns:Ċ),σ = [Ú t,Ğe c,Ú n,o3,none]/\ńa H1/\H1 n=Ù Æa/\ns.length=i*ĺ) ⟨none,p0,[],Z,s0,e0,Í⟩ (λi σ H1 _ ⟨_,_,_,_,s1,_⟩=>ĉd s1) (λi x σ H1 hx ⟨o3,n,ns,es,s1,en,ln⟩=>?_) (λσ H1 ⟨o3,n,ns,es,s1,en,ln⟩=>?_))
  ·subst es;rw[ZX]at hx;cases hp:prs[i]? with
   |none=>rw[hp]at hx;cases hx
   |some p =>
    rw[hp]at hx;have hx:Śb=x:=WC hx;subst hx;have hpm:=UF hp;have hi:Ĵb i:=Ăb hp;have hR:H1 p.1=Ù (p.2.map V.int):=(ëa s1).r p hpm;have hl:=g.len p hpm;have h36:i*ĺ<=6*6:=Nat.mul_le_mul À g4;refine⟨_,Z,_,Z,n,p.1,_,_,Z,Z,en,hR,sl6 (by rw[ZD,ZD];omega),λm hm=>⟨_,m,ns++p.2,Z,Ľ (snw hm),by rw[ZI,W2],?_⟩⟩;rw[WK,ln,hl,Nat.add_mul,Nat.one_mul]
  ·subst es;rw[ZD]at ln;have hpos:ďe 0:=by
    rw[ln];exact Nat.mul_pos g1 g3
   obtain⟨x1,a1⟩:=LM (f:=V.int) (xs:=ns) (c:=c) hpos;obtain⟨x2,a2⟩:=Ry (a:=0) (b:=0) (c:=1) (d:=-1) (c/36);obtain⟨x3,a3⟩:=Rx (a:=1) (b:=-1) (c/864);refine⟨_,Z,_,Z,_,Z,n,_,Z,Ė (sqo en),_,_,Z,Z,by rw[ZD];omega,n,_,_,_,Z,Z,sqo en,a1,1,Z,sl6 Í,λl hl=>?_⟩;have s2:=snw (o:=.lst [Žb 0,ô 0,ô 1,ô (-1)]) hl;have e2:(Ï H1 l [Žb 0,ô 0,ô 1,ô (-1)]) l=_:=ZI;generalize Ï H1 l [Žb 0,ô 0,ô 1,ô (-1)]=H2 at s2 e2 ⊢;refine⟨_,Z,_,_,Z,Z,ã Ç Ç,_,_,Z,Z,Ç,l,_,_,_,Z,Z,sqo e2,ú (show(Þ c/36)=Ý (c/36) by omega) a2,_,_,Z,Z,?_⟩;refine Àb (ã Ç Ç) ?_
   ·refine⟨_,Z,_,_,Z,Z,ã Ç Ç,10,9,Z,Z,ő Ç Ç Ç,_,_,Z,Z,Ç,1,Z,sl6 Í,λl3 hl3=>?_⟩;have s3:=snw (o:=.lst [Žb 1,ô (-1)]) hl3;have e3:(Ï H2 l3 [Žb 1,ô (-1)]) l3=_:=ZI;generalize Ï H2 l3 [Žb 1,ô (-1)]=H3 at s3 e3 ⊢;have hc:0<=Þ c/900%10 ^ (9:Int).toNat/\Þ c/900%10 ^ (9:Int).toNat<2 ^ 64:=ã (Int.emod_nonneg _ Ç) (Int.lt_of_lt_of_le (O3 _ Ç) Ç);refine⟨_,Z,_,_,Z,Z,ã Ç Ç,_,_,Z,Z,Ç,l3,_,_,_,Z,Z,sqo e3,ú (show(Þ c/864)=Ý (c/864) by omega) a3,_,_,Z,Z,ìb (Int.lt_of_lt_of_le Ç hc.1) hc.2,?_⟩;generalize Þ c/900%10 ^ (9:Int).toNat*x3=y;refine⟨999999999,Z,_,Z,_,_,Z,_,_,Z,q _ H3 ?_ ?_ ((Äc).trans s3)⟩
    ·split<;>(try split)<;>omega
    ·split<;>(try split)<;>omega
   ·generalize x1+x2=y;refine⟨999999999,Z,_,Z,_,_,Z,_,_,Z,q _ H2 ?_ ?_ Äc⟩
    ·split<;>(try split)<;>omega
    ·split<;>(try split)<;>omega
end
end Seek
namespace L2
open PySem PySem.Spec PyProof.Rows Builtin Builtin.Str
section
variable {X:Cx}
theorem Ja:MtR X "str.index" (Ŕd (∃(z y:Str) (i:Nat) (rest:Ŧa),x=ĉ z/\vs=[ĉ y]/\occurrences z y 0 z.length 1=i::rest/\Q Ŧd H)):=by
 intro pins s σ H x vs v us Q I rx rv h;obtain⟨z,y,i,rest,rfl,rfl,ho,q⟩:=h;obtain⟨t,rfl⟩:=rx;obtain⟨u,rfl,ru⟩:=rv.one;obtain⟨tu,rfl⟩:=ru;refine call_gives F.slot_str_index (typeIs_str _ _ _) F.entry_str_index (F.args_str_index_2 _ _) (gives_str_index z y t tu i rest ho) ?_;exact Ãa Ŧd
noncomputable def revS(x:Str):Str:=ű ((üe none none (-1)).filterMap (x.cps[·]?)).toArray
end
end L2
namespace Seek
open PySem L2 PyProof.Rows Builtin Builtin.Str
noncomputable def ltS:Str := "abcdefghijklmnopqrstuvwxyz"
noncomputable def Ltr(c:Nat):Prop:=97<=c/\c<=122
noncomputable def XU(x:Str):Prop:=∀c∈x.cps.toList,Ltr c
theorem GV:∀c∈ltS.cps.toList,97<=c/\c<=122:=Â
theorem Vs:ltS.length=26:=Â
theorem Ya:∀k:_root_.Fin 26,occurrences ltS (ű #[97+k.val]) 0 ltS.length 1=[k.val]:=Â
theorem OS(h:XU x)(h1:1<=x.length)(h8:x.length<=8):Y2 x.cps.toList=true:=by
 unfold Y2;rw[WR,ZS h1,ZS h8,Bool.true_and,Bool.true_and,UK];intro c hc;have:=h c hc;rw[ZS this.1,ZS this.2];rfl
theorem XU.app(hx:XU x)(hy:XU y):XU (x++y):=èd (by
 have hc:c∈(x.cps++y.cps).toList:=hc;rw[Array.toList_append]at hc;rcases ũd hc with h | h
 ·exact hx c h
 ·exact hy c h)
theorem YY(x y:Str):î (x++y)=x.length+y.length:=by
 show(x.cps++y.cps).size=_;rw[Array.size_append];rfl
theorem NW:∀c∈ñ (Txt.slice x a b),c∈x.cps.toList:=èd (by
 unfold Txt.slice at hc;split at hc
 ·exact hc
 ·have hc:c∈((üe a b 1).filterMap (x.cps[·]?)):=by simpa using hc
  obtain⟨i,_,hi⟩:=List.mem_filterMap.mp hc;rw[<- SE]at hi;exact UF hi)
end Seek
namespace Seek
open PySem L2 PyProof.Rows Builtin Builtin.Str
section
variable {P:Z3}{w:Z5}{K:ZC}{mg:Ą}{base:Z8}
theorem sc_lname:ä Ţb ["cell","k"] YV:=scm
theorem Tc:strSliceIndices none none (-1) 8=[7,6,5,4,3,2,1,0]:=Â
theorem Td(h:XU x)(h8:x.length=8):XU (revS x)/\î (revS x)=8:=by
 constructor
 ·intro c hc;unfold revS at hc;have hc:c∈((üe none none (-1)).filterMap (x.cps[·]?)):=by simpa using hc
  obtain⟨i,_,hi⟩:=List.mem_filterMap.mp hc;rw[<- SE]at hi;exact h c (UF hi)
 ·unfold revS;rw[h8,Tc];have hz:x.cps.size=8:=h8;show(List.filterMap (x.cps[·]?) [7,6,5,4,3,2,1,0]).toArray.size=8;simp[hz]
end
end Seek
namespace Seek
open PySem L2 PyProof.Rows Builtin Builtin.Str
theorem Vw{x:Str}{k:Nat}(h:k<=x.cps.toList.length):ñ (Txt.slice x none (Ã Ùe))=x.cps.toList.take k:=by
 have hh:=StrLaws.sliceText_to (x:=x) (j:=Ùe) (Ąd À);rw[show Txt.slice x none (Ã Ùe)=StrLaws.sliceText x none (Ã Ùe) from rfl,hh];simp
theorem Ou{x:Str}{k:Nat}(h:k<=x.cps.toList.length+1):ñ (øb Ùe)=x.cps.toList.drop k:=by
 rcases Nat.lt_or_ge x.cps.toList.length k with z | z
 ·rw[ûe À];have hs:üe (Ã Ùe) none 1=[]:=by
   rw[WR]at z h;unfold strSliceIndices sliceRange;simp only[show Þ 1>0 by decide,if_true];rw[List.map_eq_nil_iff,List.range_eq_nil];split<;>(try split)<;>(try split)<;>(try simp only[Int.ediv_one])<;>omega
  unfold Txt.slice;rw[hs];split
  ·next e =>
   simp at e;apply List.eq_nil_of_length_eq_zero;rw[WR];omega
  ·rfl
 ·have hh:=StrLaws.sliceText_from (x:=x) (i:=Ùe) (Ąd À);rw[show øb Ùe=StrLaws.sliceText x (Ã Ùe) none from rfl,hh];simp only[YR];rw[QG (by rw[List.length_drop];omega)]
section
variable {P:Z3}{w:Z5}{K:ZC}{mg:Ą}{base:Z8}
theorem FL{x:Str}{k:Nat}(h:k<=x.length):î (Txt.slice x none (Ã Ùe))=k:=by
 rw[<- WR,Vw (by rw[WR];exact h),VO,WR];omega
theorem CD{x:Str}{k:Nat}(h:k<=x.length+1):î (øb Ùe)=x.length-k:=by
 rw[<- WR,Ou (by rw[WR];exact h),List.length_drop,WR]
noncomputable abbrev lnX(P:Z3)(w:Z5)(K:ZC)(mg:Ą)(base:Z8)(f:Z1)(gv:Z0)(A:Z4)(ou:êb)(s:Z2)(H:Hp)(E:XK):Cx:=Çb Ţb "_law_name" YV gv ou
theorem Uf:∀i:_root_.Fin 26,∃c∈ltS.cps.toList,atI ltS.cps.toList (Þ i.val-1)=Ã c:=Â
theorem BS:∀n∈[Ø "table","find"],ća=true:=Â
end
open PySem L2 PyProof.Rows
noncomputable def keyN(m:Nat):ŋa:=(ûb).map (YJ 4)
theorem Ng(h:keyN a=keyN b):W3 16 a=W3 16 b:=by
 unfold keyN at h;exact(List.map_inj_right λ_ _ z=>JP z).mp h
structure KnN(kvs:ŷb):Prop where
 nd:Çe (kvs.map (·.1))
 ok:∀k v,ġe=ôc->∃m:Nat,k=Ŭd/\m<2 ^ 16/\v=Êb 4 16
theorem KnN.nil:KnN []:=ã .nil (λk v e=>by cases e)
theorem A0{kvs:ŷb}{p:ŋa×V}(h:p∈kvs):∃v,Ęa p.1=ôc:=by
 cases e:Ęa p.1 with
 |some v=>exact ã v Z
 |none=>exact ń (Ń p h) (NY e)
theorem KnN.len{kvs:ŷb}(h:KnN kvs):kvs.length<=2 ^ 16:=by
 have f:∀k∈kvs.map (·.1),∃m:Nat,k=Ŭd/\m<2 ^ 16:=λk hk=>by
  obtain⟨p,hp,rfl⟩:=Áb hk;obtain⟨v,e⟩:=A0 hp;obtain⟨m,h1,h2,_⟩:=h.ok _ _ e;exact ő m h1 h2
 have key:∀(l:Æ ŋa),l.Nodup->(∀k∈l,∃m:Nat,k=Ŭd/\m<2 ^ 16)->∃ms:Ŧa,ms.Nodup/\(∀m∈ms,m<2 ^ 16)/\ms.map keyN=l:=by
  intro l
  induction l with
  |nil=>intro _ _;exact⟨[],.nil,(λ_ z=>nomatch z),Z⟩
  |cons k l ih =>
   intro n a;rw[VC]at n;obtain⟨ms,h1,h2,h3⟩:=ih n.2 λx hx=>a x (.tail _ hx);obtain⟨m,e,hm⟩:=a k ůb;refine⟨m::ms,VC.mpr (ã (λz=>n.1 ?_) h1),λx hx=>?_,by rw[Y8,h3,e]⟩
   ·rw[<- h3,e];exact Ń m z
   ·rcases ĳd hx with z | z
    ·rw[z];exact hm
    ·exact h2 x z
 obtain⟨ms,h1,h2,h3⟩:=key _ h.nd f;have:=MS (2 ^ 16) ms h1 h2;have e:=õ h3;rw[ZD,ZD]at e;omega
theorem KnN.put{kvs:ŷb}{m:Nat}(h:KnN kvs)(hm:m<2 ^ 16):KnN (Ċb Ŭd (Êb 4 16)):=by
 refine ã ?_ (λk v e=>?_)
 ·cases hv:Ęa Ŭd with
  |none =>
   rw[KZ _ hv,W2];refine List.nodup_append.mpr (ő h.nd Í (λa ha b hb z=>?_));have hb:b=Ŭd:=by simpa using hb
   subst hb z;obtain⟨p,hp,e⟩:=Áb ha;obtain⟨v,e2⟩:=A0 hp;rw[e,hv]at e2;cases e2
  |some v =>
   have:(Ċb Ŭd (Êb 4 16)).map (·.1)=kvs.map (·.1):=by
    unfold putK;rw[ZH (by rw[XR,hv];rfl),W7];refine Ź Åc;show(if p.1=_ then _ else p).1=p.1;split<;>rfl
   rw[this];exact h.nd
 ·rw[SY]at e
  by_cases hk:k=Ŭd
  ·rw[ZH hk]at e;cases e;exact⟨m,hk,hm,Z⟩
  ·rw[ZE hk]at e;exact h.ok k v e
theorem KnN.at{kvs:ŷb}{m:Nat}{v:V}(h:KnN kvs)(e:Ęa Ŭd=ôc):v=Êb 4 16:=by
 obtain⟨m',h1,_,h3⟩:=h.ok _ _ e;rw[h3,Ng h1]
noncomputable def minT(b:Nat):Ŧa->Nat
 | []=>b
 |a::r=>minT (min b a) r
theorem CP:∀(L:Ŧa) (b:Nat),minT b L=if L=[]then b else min b (minN L)
 | [],b=>rfl
 | [a],b=>rfl
 |a::c::r,b=>by
  show minT (min b a) (c::r)=_;rw[CP (c::r)];simp only[reduceCtorEq,if_false];show min (min b a) (minN (c::r))=min b (min a (minN (c::r)));omega
theorem A3:∀(L:Ŧa) (b a:Nat),minT b (L++[a])=min (minT b L) a
 | [],b,a=>rfl
 |c::r,b,a=>A3 r (min b c) a
theorem Rj(h:L≠[]):minT L.length (L.map (thr 4 L))=fw 4 L:=by
 rw[CP,ZE (by simpa using h),<- MZ];exact Nat.min_eq_right (O6 4 _ L ħ)
open PySem L2 PyProof.Rows
structure Cls(H:Hp)(b:Z1)(ps:śd Z1):Prop where
 t:H b=Ĥ (ps.map λp=>Ŷ p.2)
 c:∀p∈ps,H p.2=Ĥ ((YJ 4 p.1).map kV)
theorem Cls.nt{H:Hp}{b:Z1}{ps:śd Z1}(h:Cls H b ps):NT H b ((ps.map (·.1)).map (YJ 4)):=by
 refine ő (ps.map (·.2)) (by rw[W7];exact h.t) ?_;have:=h.c;clear h
 induction ps with
 |nil=>exact .nil
 |cons p r ih=>exact Ŭb (this p ůb) (ih λq hq=>this q (.tail _ hq))
theorem Cls.keeps{H H':Hp}{b:Z1}{ps:śd Z1}(h:Cls H b ps)(t:TupS H H'):Cls H' b ps:=ã (t _ _ h.t) (Ļ (t _ _ (h.c p hp)))
theorem Same.tupS{H H':Hp}(s:Ŀd):TupS H H':=λ_ _ e=>s _ _ e
theorem UY{P:Z3}{w:Z5}{H H':Hp}{d:Z1}{kvs:ŷb}(x:Ñc H d)(s:Ŀd):Ñc H' d:=x.keeps (let ⟨xs,e,_⟩:=x;by rw[s _ _ e,e]) (Same.tupS s)
theorem Yx{P:Z3}{w:Z5}{H:Hp}{d b:Z1}{kvs:ŷb}{ys:ĝ}(x:Ñc H d)(e:H b=Ĥ ys):b≠d:=λz=>by
 obtain⟨xs,e2,_⟩:=x;rw[<- z,e]at e2;cases e2
theorem KR{P:Z3}{w:Z5}{H H':Hp}{d:Z1}{kvs:ŷb}(B:But1 d H H')(x:Ñc H d):TupS H H':=λb ys e=>B _ _ (Yx x e) e
noncomputable def celD(i:Nat):PyData:=.tuple [ô (Ý (i/4)),ô (Ý (i%4))]
theorem CL:∀cs:Ŧa,PyData.canLayAll0 (Õc celD)=true/\PyData.depthAll (Õc celD)<=2
 | []=>ã Z (by simp[PyData.depthAll])
 |c::cs=>by
  have:=CL cs;refine ųb (by simp[PyData.canLayAll0,PyData.canLay0,celD,this.1]);simp[PyData.depthAll,PyData.depth,celD];have:=this.2;omega
theorem MD(cs:Ŧa):SeqAt.shaped (.tuple (Õc celD))=true:=by
 have h:=CL cs;unfold SeqAt.shaped;simp[PyData.canLay0,PyData.depth,h.1];omega
theorem BF(cs:Ŧa):PyData.eqv (.tuple (Õc celD)) (.tuple [])=cs.isEmpty:=by
 cases cs<;>simp[PyData.eqv,PyData.eqvAll]
theorem Cls.rd{K:ZC}{H:Hp}:∀{ps:śd Z1},(∀p∈ps,H p.2=Ĥ ((YJ 4 p.1).map kV))->RdAll K H (ps.map λp=>Ŷ p.2) ((ps.map (·.1)).map celD)
 | [],_=>.nil
 |p::ps,h=>Ŭb (.tup (sqt (h p ůb)) (Ŭb (ô _) (Ŭb (ô _) .nil))) (Cls.rd λq hq=>h q (.tail _ hq))
theorem FP{a b:Nat}:è (Þ a>Þ b)=è (b<a):=ST
theorem Yb{a b c:Nat}:(if(1+if Þ b>Þ a then Þ b else Þ a)<Þ c then(1+if Þ b>Þ a then Þ b else Þ a)else Þ c)=Ý (min c (1+max a b)):=by
 have e:(if Þ b>Þ a then Þ b else Þ a)=Ý (max a b):=by
  rw[Nat.max_def];split<;>split<;>omega
 rw[e];generalize max a b=z;split<;>omega
theorem J9{α:Type}(q:Nat->Bool):∀ps:śd α,(ps.filter λp=>q p.1).map (·.1)=(ps.map (·.1)).filter q
 | []=>rfl
 |p::ps=>by
  rw[List.filter_cons,Y8,List.filter_cons];cases q p.1<;>simp[J9 q ps]
section
variable {P:Z3}{w:Z5}{K:ZC}{mg:Ą}{base:Z8}
inductive spLk(P:Z3)(w:Z5)(k:Nat)(vs:ĝ)(H:Hp)(Q:VK)(z3_:XK):Prop
 |mk (b d:Z1) (ps:śd Z1) (m:Nat) (kvs:ŷb) (h0:vs=[ťd,Ê d]) (h1:Cls H b ps) (h2:ps.map (·.1)=ûb) (h3:m<2 ^ 16) (h4:ps.length<=k) (h5:Ñc H d) (h6:KnN kvs) (h7:∀kvs' H',But1 d H H'->DN P w H' d kvs'->KnN kvs'->Q (Êb 4 16) H')
noncomputable abbrev lkN:ù:=["cells","known","best","r","c","less","more","here"]
theorem sc_looks:ä lkN ["cells","known"] SR:=scm
theorem EC{H H1:Hp}{b l t:Z1}{ps:śd Z1}(h:Cls H b ps)(q:Nat->Bool)(s:ńa H1)(ht:œa t):Cls (Ě H1 t ((ps.filter λp=>q p.1).map λp=>Ŷ p.2)) t (ps.filter λp=>q p.1) :=
 ã ZI (Ļ (by
  have e:=s _ _ (h.c p (Üd hp).1);rw[ZP (WX e ht)]
  exact e))
theorem Te{k:Nat}{A:Z4}(r:õc A):ĕb 9:=ŵc 9
theorem Um(D:ťb):ļb 1 0:=by
 refine Á sc_looks
 ·obtain⟨b,d,ps,m,kvs,rfl,_⟩:=h;rfl
 ·obtain⟨b,d,ps,m,kvs,rfl,hC,hm,hm2,hk,hD,hN,q⟩:=h;obtain rfl:ps=[]:=Ğb À;refine ë (ZG (ša (K4 hr.units) Ü (US U1) (Ġ ZB)) WG);refine Óe (sl6 Ç) (λt ht=>?_);have s1:=snw (o:=.tup []) ht;refine⟨.tuple (([]:Ŧa).map celD),.tuple (([]:Ŧa).map celD),.tup (sqt (Ųc hC.t)) .nil,.tup (sqt ZI) .nil,MD [],MD [],_,Z,?_⟩;rw[show PyData.eqv (.tuple (([]:Ŧa).map celD)) (.tuple (([]:Ŧa).map celD))=true from BF []];have e:=q kvs _ (Same.but1 s1) (UY hD s1) hN;rw[<- hm]at e;exact Ŧb e
theorem Uo(T:ûa)(htup:ě "tuple") (hmin:ě "min") {k:Nat} (D:ťb) (G:ļb (k+1) k):ļb (k+2) (k+1):=by
 refine Á sc_looks
 ·obtain⟨b,d,ps,m,kvs,rfl,_⟩:=h;rfl
 ·obtain⟨b,d,ps,m,kvs,rfl,hC,hm,hm2,hk,hD,hN,q⟩:=h;have nd:=sc_looks.nd;have nd1:(["spot","c","r"]:ù).Nodup:=Â
  have hu9:=Te hr;refine ĉb (ša (K4 hr.units) Ü (US U1) (Ġ ZB)) (ZZ (P3 (Qy hu9 Ü ó)) (Ħ (È 2 Ïd) (ňa (OM Ü) (P0 rfl (XO (YQ (i:=3) nd rfl äb) (XO (YQ (i:=4) nd rfl äb) P9))) (Ħ (Q6 ["spot","c","r"] [none,Ã 4,Ã 3] (ZJ SR) lkN (i:=5) nd rfl Ô rfl (OM Ü) Â (Ö ň) (Ö (âa o_lt Ķa ó)) (Ö Ü)) (Q6 ["spot","c","r"] [none,Ã 4,Ã 3] (ZJ SR) lkN (i:=6) nd rfl Ô rfl (OM Ü) Â (Ö ň) (Ö (âa o_gt Ķa ó)) (Ö Ü)) (ZG (È 7 (ŵb (į (Ýa G hr (pe_t IQ htup boot_tuple (ß 5)) 1) (Ýa G hr (pe_t IQ htup boot_tuple (ß 6)) 1)))) (ZL (È 2 (pe_b (JY rfl) hmin boot_min (â 2 (ZN U7 ZB (pv 7))))))))) (ZL (Ps hu9 ó Ü Ķa rfl))) W0) (Ġ (Ph hu9 ó Ü Ÿ))
  have hne0:∀t H1,ńa H1->œa t->ńa (Ě H1 t []):=λt H1 s1 ht=>Ľ (snw ht);refine Óe (sl6 Ç) (λt ht=>?_);have s1:ńa (Ě H t []):=snw ht;have e1:(Ě H t []) t=Ĥ []:=ZI;generalize Ě H t []=H1 at s1 e1 ⊢;refine⟨.tuple ((ps.map (·.1)).map celD),.tuple [],.tup (sqt (Ųc hC.t)) (Cls.rd (Ļ (Ųc (hC.c p hp)))),.tup (sqt e1) .nil,MD _,MD [],_,Z,?_⟩;rw[BF];have hD1:=UY hD s1;have hC1:=hC.keeps (Same.tupS s1);cases hps:ps with
  |nil =>
   have e:=q kvs _ (Same.but1 s1) hD1 hN;rw[<- hm,hps]at e;exact Ŧb e
  |cons p0 pr =>
   rw[<- hps];have hne:ûb≠[]:=by rw[<- hm,hps];simp
   rw[show(ps.map (·.1)).isEmpty=false by rw[hps];rfl];refine ĭb (Sj ?_);dsimp only;have hkey:(ps.map (·.1)).map (YJ 4)=Ŭd:=by rw[hm];rfl
   have hnt:∀{H'},Cls H' b ps->NT H' b Ŭd:=λh=>by rw[<- hkey];exact h.nt
   refine ND (λN=>∀kv H' o2 o3 o4 o5 o6 o7,But1 d H H'->DN P w H' d kv->KnN kv->valV kv Ŭd=ļ (Ý (fw 4 ûb))->Cls H' b ps->N [Ú b,Ú d,o2,o3,o4,o5,o6,o7] H') (λkv H' o2 o3 o4 o5 o6 o7 B' D' N' hv C'=>?_) (λtail=>?_)
   ·exact⟨_,Z,_,Z,d,b,kv,Ŭd,_,Z,Z,D',hnt C',hv,q kv H' B' D' N'⟩
   refine⟨_,Z,_,Z,d,b,kvs,Ŭd,Z,Z,hD1,hnt hC1,_,Z,?_⟩;cases hv:Ęa Ŭd with
   |some v =>
    have:=hN.at hv;subst this;exact ĭb (tail kvs H1 _ _ _ _ _ _ (Same.but1 s1) hD1 hN hv hC1)
   |none =>
    refine Ŧb ⟨_,Z,b,_,Z,Ŀ (sqt hC1.t),?_⟩;rw[ZD];have hLl:ps.length=î ûb:=by rw[<- hm,ZD]
    refine Ća b (sqt hC1.t) (Rh (λi σ H'=>∃o3 o4 o5 o6 o7,σ = [Ú b,Ú d,ļ (Ý (minT ps.length ((ps.take i).map Ŵd))),o3,o4,o5,o6,o7]/\But1 d H1 H'/\Cls H' b ps/\∃kv,DN P w H' d kv/\KnN kv) ⟨none,none,none,none,none,Z,But1.refl _ _,hC1,kvs,hD1,hN⟩ (λi σ H' _ h=>by obtain⟨_,_,_,_,_,_,_,C',_⟩:=h;exact sqt C'.t) ?_ ?_)
    ·rintro i x σ H' hx ⟨o3,o4,o5,o6,o7,rfl,B',C',kv,D',N'⟩;rw[ZX]at hx;cases hp:ps[i]? with
     |none=>rw[hp]at hx;cases hx
     |some p =>
      rw[hp]at hx;have hx:Ŷ p.2=x:=WC hx;subst hx;have hpm:p∈ps:=UF hp;have hpb:p.1∈ûb:=by rw[<- hm];exact Ń p hpm
      have cp:=C'.c p hpm;refine Ąa p.2 cp;have hn16:ø ps.length:=by
       have:=JX 16 m;exact Ĭb
      refine Ća b (sqt C'.t) (DM (ms:=ps) (λp=>Ŷ p.2) (λp'=>lsI 4 p.1 p'.1) (λp'=>Ŷ p'.2) (sqt C'.t) hn16 (λp' hp' H2 Q2 s2 q2=>?_) (λp' hp' _ H2 Q2 s2 q2=>ža (q2 _ ŵ)) λl1 H2 hl1 s2 e5=>?_)
      ·refine ġb 0 (űc (C'.c p' hp')) key0;have q3:=q2 H2 ŵ;unfold lsI at q3;rw[ST]
       by_cases h1:p'.1/4<p.1/4
       ·rw[ZS h1]at q3 ⊢;exact Ŧb q3
       ·rw[ZW h1,Bool.false_or]at q3;rw[ZW h1];refine ĭb (ġb 1 (űc (C'.c p' hp')) key1);rw[ST];exact q3
      have C2:=C'.keeps (Same.tupS s2);refine Ća b (sqt C2.t) (DM (ms:=ps) (λp=>Ŷ p.2) (λp'=>mrI 4 p.1 p'.1) (λp'=>Ŷ p'.2) (sqt C2.t) hn16 (λp' hp' H3 Q3 s3 q3=>?_) (λp' hp' _ H3 Q3 s3 q3=>ža (q3 _ ŵ)) λl2 H3 hl2 s3 e6=>?_)
      ·refine ġb 0 (øe (C2.c p' hp')) key0;have q4:=q3 H3 ŵ;unfold mrI at q4;rw[FP]
       by_cases h1:p.1/4<p'.1/4
       ·rw[ZS h1]at q4 ⊢;exact Ŧb q4
       ·rw[ZW h1,Bool.false_or]at q4;rw[ZW h1];refine ĭb (ġb 1 (øe (C2.c p' hp')) key1);rw[FP];exact q4
      have C3:=C2.keeps (Same.tupS s3);have D3:=UY (UY D' s2) s3;have e5':=øe e5;have b1:ģd 16 (lsI 4 p.1)=(ûb).filter (lsI 4 p.1):=MF λj hj=>by rw[QD,ZS hj,Bool.true_and]
      have b2:ģd 16 (mrI 4 p.1)=(ûb).filter (mrI 4 p.1):=MF λj hj=>by rw[QD,ZS hj,Bool.true_and]
      have f1:(ps.filter λp'=>lsI 4 p.1 p'.1).map (·.1)=ģd 16 (lsI 4 p.1):=by rw[J9,hm,b1]
      have f2:(ps.filter λp'=>mrI 4 p.1 p'.1).map (·.1)=ģd 16 (mrI 4 p.1):=by rw[J9,hm,b2]
      have n1:=QL (w:=4) hpb;have n2:=QM (w:=4) hpb;have g1:=õ f1;have g2:=õ f2;rw[ZD,b1]at g1;rw[ZD,b2]at g2;refine⟨_,Z,l1,_,Z,ìb (sqo e5') (λt1 ht1=>?_)⟩;have s4:ıb H3 t1 ((ps.filter λp'=>lsI 4 p.1 p'.1).map λp'=>Ŷ p'.2):=snw ht1;have c4:=EC (l:=0) C3 (lsI 4 p.1) ŵ ht1;generalize Ě H3 t1 ((ps.filter λp'=>lsI 4 p.1 p'.1).map λp'=>Ŷ p'.2)=H4 at s4 c4 ⊢;refine⟨_,Z,t1,d,_,m &&& msum 16 (lsI 4 p.1),kv,Z,c4,f1,OI hm2,À,UY D3 s4,N',λkv5 H5 B5 D5 N5=>?_⟩;have nl2:l2≠d:=λz=>by
       obtain⟨xs,e,_⟩:=UY D' s2;rw[z,e]at hl2;cases hl2
      have e6':=B5 _ _ nl2 (s4 _ _ e6);refine⟨_,Z,l2,_,Z,ìb (sqo e6') (λt2 ht2=>?_)⟩;have C5:=(C3.keeps (Same.tupS s4)).keeps (KR B5 (UY D3 s4));have s6:ıb H5 t2 ((ps.filter λp'=>mrI 4 p.1 p'.1).map λp'=>Ŷ p'.2):=snw ht2;have c6:=EC (l:=0) C5 (mrI 4 p.1) ŵ ht2;generalize Ě H5 t2 ((ps.filter λp'=>mrI 4 p.1 p'.1).map λp'=>Ŷ p'.2)=H6 at s6 c6 ⊢;refine⟨_,Z,t2,d,_,m &&& msum 16 (mrI 4 p.1),kv5,Z,c6,f2,OI hm2,À,UY D5 s6,N5,λkv7 H7 B7 D7 N7=>⟨_,_,Z,?_⟩⟩;refine Îd Z Z _ ?_;have C7:=(C5.keeps (Same.tupS s6)).keeps (KR B7 (UY D5 s6));have ev:minT ps.length ((ps.take ůa).map Ŵd)=min (minT ps.length ((ps.take i).map Ŵd)) (thr 4 ûb p.1):=by
       rw[List.take_add_one,hp,W2];exact A3 _ _ _
      have ev':min (minT ps.length ((ps.take i).map Ŵd)) (1+max (fw 4 ((ûb).filter (lsI 4 p.1))) (fw 4 ((ûb).filter (mrI 4 p.1))))=_:=ev.symm;rw[b1,b2,Yb,ev'];exact⟨_,_,_,_,_,Z,B'.trans ((Same.but1 s2).trans ((Same.but1 s3).trans ((Same.but1 s4).trans (B5.trans ((Same.but1 s6).trans B7))))),C7,kv7,D7,N7⟩
    ·rintro σ H' ⟨o3,o4,o5,o6,o7,rfl,B',C',kv,D',N'⟩;have hz:kv.length<sizeLine:=by
      have h1:=N'.len;rw[sizeLine_eq];have e:2 ^ 16=65536:=Ç
      omega
     have ev:minT ps.length ((ps.take (î (ps.map λp=>Ŷ p.2))).map Ŵd)=fw 4 ûb:=by
      rw[ZD,List.take_length,hLl,<- Rj hne,<- hm,W7];rfl
     rw[ev];refine⟨_,Z,_,Z,_,Z,d,b,kv,Ŭd,Z,Z,D',hnt C',hz,λH4 e4 D4=>?_⟩;have B4:But1 d H' H4:=λc o n e=>ú (e4 c n) e
     exact tail _ _ _ _ _ _ _ _ ((Same.but1 s1).trans (B'.trans B4)) D4 (N'.put hm2) (by rw[SY,ŧb]) (C'.keeps (KR B4 D'))
theorem G9(T:ûa)(htup:ě "tuple") (hmin:ě "min") (D:ťb):∀k,ļb (k+1) k
 | 0=>Um D
 |k+1=>Uo T htup hmin D (G9 T htup hmin D k)
end
open PySem L2 PyProof.Rows
theorem Ix(h:ws≠[])(hf:∀w∈ws,32∉w.cps.toList)(hs:īc (ŭa " " ws) "table " = false):spl (ŭa " " ws)=ws:=by
 unfold spl;rw[hs,ZE Ç,show(ć " ")=ű #[32] from YO];exact QF h hf
end Seek
namespace Seek
open PySem L2 PyProof.Rows Builtin Builtin.Str
theorem LR(s sub:Str)(hi M:Nat):∀(l:Ŧa) (st:Ła×Nat),st.fst.size<=(Îa st M).run.fst.size
 | [],st=>ħ
 |a::l,st=>by
  rw[List.forIn_cons];unfold StrLaws.occBody;split
  ·refine WB ?_ (LR s sub hi M l _);simp only[Array.size_push];omega
  ·exact LR s sub hi M l _
theorem NI(s sub:Str)(hi:Nat)(hM:L<=M):∀(l:Ŧa) (st:Ła×Nat),(Îa st M).run.fst.size<=L->(Îa st L).run=(Îa st M).run
 | [],st,_=>rfl
 |a::l,st,h=>by
  rw[List.forIn_cons]at h ⊢;rw[List.forIn_cons]
  by_cases c:((st.fst.size<M/\st.snd<=a)/\a+sub.length<=hi)/\subAt s sub a=true
  ·have e:ìa M=ŝ (st.fst.push a,a+sub.length):=ZH c;rw[e]at h ⊢;have h:(Îa (st.fst.push a,a+sub.length) M).run.fst.size<=L:=h;have u:=LR s sub hi M l (st.fst.push a,a+sub.length);dsimp only at u;rw[Array.size_push]at u;have e2:ìa L=ŝ (st.fst.push a,a+sub.length):=ZH (ã (ã (ã À c.1.1.2) c.1.2) c.2);rw[e2];exact NI s sub hi hM l _ h
  ·have e:ìa M=ŝ (st.fst,st.snd):=ZE c;rw[e]at h ⊢;have e2:ìa L=ŝ (st.fst,st.snd):=ZE λc'=>c (ã (ã (ã (by have:=c'.1.1.1;omega) c'.1.1.2) c'.1.2) c'.2);rw[e2];exact NI s sub hi hM l _ h
theorem Ib(h:î (ō x y)<=3):Ĵc x y 2=ō x y:=by
 unfold Txt.split at h ⊢;unfold Txt.splitMax;have key:î (ŷc y)<=2->ía y (limitOf x 2)=ŷc y:=λk=>by
  show ía y 2=_;rw[StrLaws.occ_eq,U5]at k;rcases Nat.lt_or_ge (x.length+1) 2 with z | z
  ·have z0:x.length=0:=À
   have k2:=StrLaws.occ_length_le_len x y 0 x.length 2;rw[StrLaws.occ_eq,U5]at k2;rw[StrLaws.occ_eq,StrLaws.occ_eq];exact ęb _ (ęb _ (NI x y x.length (Nat.le_of_lt z) _ _ À).symm)
  ·rw[StrLaws.occ_eq,StrLaws.occ_eq];exact ęb _ (ęb _ (NI x y x.length z _ _ k))
 split
 ·rfl
 ·next h1 =>
  rw[ZE h1]at h
  by_cases h2:(ŷc y).isEmpty=true
  ·have e:ŷc y=[]:=List.isEmpty_iff.mp h2;rw[key (by rw[e];exact WW _)]
  ·rw[ZE h2]at h;have:î (ŷc y)<=2:=by
    unfold partsBetween at h;rw[ZD,List.length_zip,YL,ZD,WK,VP,Nat.min_self]at h;omega
   rw[key this]
theorem Qs(h:32∉l)(hp:Ťc <+: l++32::t):l=[116,97,98,108,101]:=by
 obtain⟨r,e⟩:=hp
 match l,h,e with
 | [],h,e=>simp at e
 | [a],h,e=>simp at e
 | [a,b],h,e=>simp at e
 | [a,b,c],h,e=>simp at e
 | [a,b,c,d],h,e=>simp at e
 | [a,b,c,d,f],h,e =>
  simp at e;obtain⟨rfl,rfl,rfl,rfl,rfl,_⟩:=e;rfl
 |a::b::c::d::f::g::l,h,e =>
  simp at e;obtain⟨rfl,rfl,rfl,rfl,rfl,rfl,_⟩:=e;exact ń Í h
theorem UJ(f:Str):ñ (ŭa " " (f::g::ws))=f.cps.toList++32::ñ (ŭa " " (g::ws)):=by
 rw[show(ć " ")=ű #[32] from YO,VY,VY];show ñ (f++(ű #[32]:Str)++Òb #[32] (g::ws))=_;show((f.cps ++ #[32])++(Òb #[32] (g::ws)).cps).toList=_;simp
theorem Fs(h:īc y "table " = true):Ťc <+: y.cps.toList:=by
 unfold Txt.startswith at h;rw[YT,StrLaws.subAt_eq,List.drop_zero,beq_iff_eq]at h;have e:ąa "table "=Ťc:=Â
 rw[<- e];have:=List.take_prefix (āb "table ") y.cps.toList;rw[h.2]at this;exact this
theorem QY{u v:Str}(h:u.cps.toList=v.cps.toList):u=v:=by
 cases u;cases v;simp only[Str.mk.injEq];exact Array.toList_inj.mp h
theorem Qn{ws:ù}(h:ws≠[])(hf:∀w∈ws,32∉w.cps.toList)(ht:ws.length<=3\/ws.head?≠Ã (Ø "table")):spl (ŭa " " ws)=ws:=by
 have es:ō (ŭa " " ws) " " = ws:=ú (show(ć " ")=ű #[32] from YO) (QF h hf)
 cases hs:īc (ŭa " " ws) "table " with
 |false=>exact Ix h hf hs
 |true =>
  unfold spl;rw[ZH hs];rcases ht with ht | ht
  ·rw[Ib (by rw[es];exact ht),es]
  ·exfalso;have hp:=Fs hs
   match ws,h,hf,ht,hp with
   | [f],_,hf,_,hp =>
    rw[show(ć " ")=ű #[32] from YO,VY]at hp;obtain⟨r,e⟩:=hp;have e:_=f.cps.toList:=e;exact hf f Í (by rw[<- e];simp)
   |f::g::ws,_,hf,ht,hp =>
    rw[UJ]at hp;have:=Qs (hf f Í) hp;exact ht (ęb some (QY (this.trans Â)))
end Seek
namespace Seek
open PySem L2 PyProof.Rows Builtin Builtin.Str
theorem KD(s sub:Str)(hi M:Nat):∀(l:Ŧa) (st:Ła×Nat),st.fst.toList <+: (Îa st M).run.fst.toList
 | [],st=>List.prefix_refl _
 |a::l,st=>by
  rw[List.forIn_cons];unfold StrLaws.occBody;split
  ·refine List.IsPrefix.trans ?_ (KD s sub hi M l _);rw[Array.toList_push];exact List.prefix_append _ _
  ·exact KD s sub hi M l _
theorem CU(s sub:Str)(hi L:Nat):∀(l:Ŧa) (st:Ła×Nat),L<=st.fst.size->(Îa st L).run.fst=st.fst
 | [],st,_=>rfl
 |a::l,st,h=>by
  rw[List.forIn_cons,show ìa L=ŝ (st.fst,st.snd) from ZE λc=>by have:=c.1.1.1;omega];exact CU s sub hi L l _ h
theorem JJ(s sub:Str)(hi:Nat)(hM:L<=M):∀(l:Ŧa) (st:Ła×Nat),st.fst.size<=L->(Îa st L).run.fst.toList=(Îa st M).run.fst.toList.take L
 | [],st,h=>by
  show st.fst.toList=st.fst.toList.take L;rw[QG (by rw[U5];exact h)]
 |a::l,st,h=>by
  rcases Nat.lt_or_ge st.fst.size L with z | z
  ·rw[List.forIn_cons,List.forIn_cons]
   by_cases c:((st.fst.size<M/\st.snd<=a)/\a+sub.length<=hi)/\subAt s sub a=true
   ·rw[show ìa M=ŝ (st.fst.push a,a+sub.length) from ZH c,show ìa L=ŝ (st.fst.push a,a+sub.length) from ZH (ã (ã (ã z c.1.1.2) c.1.2) c.2)];exact JJ s sub hi hM l _ (by rw[Array.size_push];omega)
   ·rw[show ìa M=ŝ (st.fst,st.snd) from ZE c,show ìa L=ŝ (st.fst,st.snd) from ZE λc'=>c (ã (ã (ã À c'.1.1.2) c'.1.2) c'.2)];exact JJ s sub hi hM l _ h
  ·rw[CU s sub hi L _ _ z];have p:=KD s sub hi M (a::l) st;have e:st.fst.toList.length=L:=by rw[U5];omega
   rw[<- e];exact List.prefix_iff_eq_take.mp p
theorem Dh(ha:32∉a.cps.toList)(hb:32∉b.cps.toList):ō (ŭa " " [a,b,t]) " " = a::b::ō t " " := by
 have e:ŭa " " [a,b,t]=ŭa " " (a::b::ō t " "):=by
  apply QY;cases hs:ō t " " with
  |nil=>exact ń hs (K9 t " ")
  |cons u r =>
   rw[UJ,UJ,UJ,UJ,<- hs];rw[show(ŭa " " (ō t " "))=ŭa " " [t] by
    rw[show(ć " ")=ű #[32] from YO];have h1:ŭa (ű #[32]) (ō t (ű #[32]))=t:=by
     show(Builtin.Str.glued _ _)=_;rw[StrLaws.glued_eq_join];exact StrLaws.join_split _ _
    rw[h1,VY]
    rfl]
 rw[e,show(ć " ")=ű #[32] from YO];refine QF Í Ĳc;rcases ĳd hw with z | hw
 ·rw[z];exact ha
 ·rcases ĳd hw with z | hw
  ·rw[z];exact hb
  ·exact StrLaws.split_free _ _ w hw
theorem Ic(ha:32∉a.cps.toList)(hb:32∉b.cps.toList)(hb1:b.length≠0):Ĵc (ŭa " " [a,b,t]) " " 2=[a,b,t]:=by
 have hs:=Dh (t:=t) ha hb;have hx:ñ (ŭa " " [a,b,t])=a.cps.toList++32::(b.cps.toList++32::t.cps.toList):=by
  rw[UJ,UJ]
  congr 3
 have y1:(" " : Str).length=1:=Â
 generalize hX:ŭa " " [a,b,t]=x at hs hx ⊢;have hxl:x.length=a.length+(b.length+t.length+1)+1:=by
  have:=õ hx;simp only[WK,YL,<- WR]at this ⊢;omega
 have h3:3<=î (ō x " "):=by
  rw[hs];have:=Åe (K9 t " ");simp only[YL];omega
 unfold Txt.split at hs h3;unfold Txt.splitMax;split at h3
 ·simp at h3
 ·next h1 =>
  rw[ZE h1]at hs ⊢;split at h3
  ·simp at h3
  ·next h2 =>
   rw[ZE h2]at hs;have hM:2<=x.length+1:=À
   have key:ía " " (limitOf x 2)=(ŷc " ").take 2:=by
    show ía " " 2=_;rw[StrLaws.occ_eq,StrLaws.occ_eq];exact JJ x " " x.length hM _ _ Í
   have hsp:=StrLaws.occ_spec x " " 0 x.length (x.length+1);rw[key];generalize ŷc " "=occ at hs h2 h3 hsp ⊢
   match occ,hs,h2,h3,hsp with
   | [],hs,h2,h3,hsp=>simp at h2
   | [p],hs,h2,h3,hsp=>simp[partsBetween]at h3
   |p::q::r,hs,h2,h3,hsp =>
    have e1:strSub x 0 p=a:=by
     have:=ęb (λl=>l.head?) hs;simpa [partsBetween]using this
    have e2:strSub x (p+1) q=b:=by
     have:=ęb (λl=>l[1]?) hs;simpa [partsBetween,y1]using this
    have hp:=(hsp p Í).1;have hq:=(hsp q Í).1;rw[y1]at hp hq;have l1:p-0=a.length:=by rw[<- e1,StrLaws.sub_len x 0 p À]
    have l2:q-(p+1)=b.length:=by rw[<- e2,StrLaws.sub_len x (p+1) q À]
    have e3:strSub x (q+1) x.length=t:=by
     apply QY;rw[StrLaws.strSub_toList,hx,List.drop_append,ûe (by rw[WR];omega),List.nil_append,QG]
     ·rw[show q+1-a.cps.toList.length=(b.length+1)+1 by rw[WR];omega,List.drop_succ_cons,List.drop_append,ûe (by rw[WR];omega),List.nil_append,show b.length+1-b.cps.toList.length=0+1 by rw[WR];omega];rfl
     ·simp only[List.length_drop,YL,WK,WR];omega
    show(if([p,q]:Ŧa).isEmpty=true then [x]else partsBetween x [p,q] (" " : Str).length)=_;rw[ZE Í,y1];show [strSub x 0 p,strSub x (p+1) q,strSub x (q+1) x.length]=_;rw[e1,e2,e3]
theorem Iw(hn:32∉n.cps.toList)(h1:n.length≠0):spl (ŭa " " šc)=šc:=by
 have hs:īc (ŭa " " šc) "table " = true:=by
  have e:ñ (ŭa " " šc)=Ťc++ñ (ŭa " " [n,t]):=by
   rw[UJ,show ąa "table"=[116,97,98,108,101] by decide +kernel];rfl
  have f:ąa "table "=Ťc:=Â
  have g:āb "table "=6:=Â
  unfold Txt.startswith;rw[YT,StrLaws.subAt_eq,List.drop_zero,beq_iff_eq,e,f,g];refine ã ?_ Í;have:=õ e;rw[WR]at this;simp only[WK,YL,List.length_nil]at this;simp;omega
 unfold spl;rw[hs,ŧb];exact Ic Â hn h1
open PySem L2 PyProof.Rows
theorem PU(f:Str):ñ (ŭa " " [f])=f.cps.toList:=by
 rw[show(ć " ")=ű #[32] from YO,VY];rfl
theorem QV(h:k<100):isSC (ñ (ĭ k))=true:=by
 unfold isSC;rw[X8,LJ,ZS (QU (k:=2) À Ç)];rfl
theorem E4(m:Nat):(dg m).dropWhile (λc=>c==45)=dg m:=by
 cases e:dg m with
 |nil=>rfl
 |cons c r =>
  have:=TB m c (by rw[e];exact ůb);have h:Ķb (c==45):=VQ.mpr À;simp[List.dropWhile_cons,h]
theorem FH(h1:-999999999<=x)(h2:x<=999999999):isSN (ñ (ZM x))=true:=by
 unfold isSN;rw[GY,Bool.true_and,TF];cases x with
 |ofNat m =>
  rw[show(Int.ofNat m)=Þ m from rfl,X8,E4];exact QU (k:=9) (by have h2:Þ m<=999999999:=h2;omega) Ç
 |negSucc m =>
  rw[RD,List.dropWhile_cons];simp only[beq_self_eq_true,if_true];rw[E4];exact QU (k:=9) À Ç
theorem QW(h1:-999999999<=x)(h2:x<=999999999):î (ZM x)<=10:=P8 (k:=9) À Ç
theorem VU(h:k<100):î (ĭ k)<=3:=P8 (k:=2) À Ç
theorem VX{n:Str}(h:ća=true):32∉n.cps.toList/\1<=n.length/\n.length<=8:=by
 unfold Y2 at h;simp only[YT,decide_eq_true_eq,UK]at h;rw[WR]at h;exact ő (λz=>by have:=h.2 32 z;omega) h.1.1 h.1.2
theorem SM(x:Int):32∉ñ (ZM x):=JI Ç
theorem PH(n:Str):wrB "NAME" n=ća:=ŧb
theorem wr_x(n:Str):wrB "X" n=isSN n.cps.toList:=(ZE Â).trans ŧb
theorem wr_k(h:k∈[ć "R", "C","K","P"]) (n:Str):wrB k n=isSC n.cps.toList:=by
 have a:=(Â:∀k∈[ć "R", "C","K","P"],k ≠ "NAME" /\ k ≠ "X" /\ k ≠ "TEXT") k h;unfold wrB;rw[ZE a.1,ZE a.2.1,ZW a.2.2,Bool.false_or]
theorem wr_t(n:Str):wrB "TEXT" n=true:=by
 unfold wrB;rw[ZE Â,ZE Â,ZS rfl,Bool.true_or]
theorem RJ(h:ėd=Ã ks)(hl:ws.length=ks.length)(ha:(Ũc).all id=true):ĺc (f::ws):=by
 show(match ėd with | none=>false | some ks=>è (ws.length=ks.length)&&(Ũc).all id)=true;rw[h];show(è (ws.length=ks.length)&&_)=true;rw[ZS hl,ha];rfl
theorem hf_n(h:f∈[ć "drop", "show"]) (hn:ća=true):ĺc [f,n] :=
 RJ (ks:=["NAME"]) ((Â:∀f∈[ć "drop", "show"],ėd=Ã [ć "NAME"]) f h) rfl (by simp[PH,hn])
theorem Uc(h:f∈Ř) (hn:ća=true) (h1:-999999999<=x) (h2:x<=999999999):ĺc [f,n,ZM x] :=
 RJ (ks:=["NAME","X"]) ((Â:∀f∈Ř,ėd=Ã [ć "NAME", "X"]) f h) rfl (by simp[PH,wr_x,hn,FH h1 h2])
theorem Ub(hn:ća=true)(h:k<100):ĺc [ć "nth",n,ĭ k] :=
 RJ (ks:=["NAME","K"]) Â rfl (by simp[PH,wr_k,hn,QV h])
theorem Rm(hn:ća=true)(hi:i<100)(hj:j<100)(h1:-999999999<=x)(h2:x<=999999999):ĺc [ć "cell",n,ĭ i,ĭ j,ZM x] :=
 RJ (ks:=["NAME","R","C","X"]) Â rfl (by simp[PH,wr_x,wr_k,hn,QV hi,QV hj,FH h1 h2])
theorem Na(hi:i<100)(hj:j<100):ĺc [ć "looks",ĭ i,ĭ j] :=
 RJ (ks:=["R","P"]) Â rfl (by simp[wr_k,QV hi,QV hj])
theorem Nc(hn:ća=true):ĺc šc :=
 RJ (ks:=["NAME","TEXT"]) Â rfl (by simp[PH,wr_t,hn])
structure RowW(x:Str)(ws:ù):Prop where
 l:x.length<=2900
 s:spl x=ws
 f:ĺc ws
theorem K8(hx:x.cps.toList=ñ (ŭa " " ws)) (hne:ws≠[]) (hl:ws.length<=6) (hf:∀w∈ws,32∉w.cps.toList/\w.length<=20) (ht:ws.head?≠Ã (Ø "table")) (hh:ĺc ws):RowW x ws:=by
 have e:=QY hx;subst e;refine ő ?_ (Qn hne (λw hw=>(hf w hw).1) (Ŀ ht)) hh;have:=JD (c:=32) (B:=20) (ws:=ws) λw hw=>(hf w hw).2;rw[show(ć " ")=ű #[32] from YO];have:=Nat.mul_le_mul_right 21 hl;omega
theorem OA{f n x:Str}(h:f∈[ć "drop", "show"]) (hn:ća=true) (hx:x.cps.toList=f.cps.toList++32::n.cps.toList):RowW x [f,n]:=by
 have a:=(Â:∀f∈[ć "drop", "show"],32∉f.cps.toList/\f.length<=20/\ľc) f h;have b:=VX hn;refine K8 (by rw[hx,UJ,PU]) Í Í Ĳc (λz=>a.2.2 (WC z)) (hf_n h hn);rcases ĳd hw with z | hw
 ·subst z;exact ã a.1 a.2.1
 ·have:=V3.mp hw;subst this;exact Ąd b.1
theorem L9{f n k x:Str}(hf:32∉f.cps.toList/\f.length<=20/\ľc) (hn:32∉n.cps.toList/\n.length<=20) (hk:32∉k.cps.toList/\k.length<=20) (hh:ĺc [f,n,k]) (hx:x.cps.toList=f.cps.toList++32::(Ũd k.cps.toList)):RowW x [f,n,k]:=by
 refine K8 (by rw[hx,UJ,UJ,PU]) Í Í Ĳc (λz=>hf.2.2 (WC z)) hh;rcases ĳd hw with z | hw
 ·subst z;exact ã hf.1 hf.2.1
 ·rcases ĳd hw with z | hw
  ·subst z;exact hn
  ·have:=V3.mp hw;subst this;exact hk
theorem P4{f n x:Str}{k:Int}(h:f∈Ř) (hn:ća=true) (h1:-999999999<=k) (h2:k<=999999999) (hx:x.cps.toList=f.cps.toList++32::(Ũd (ñ (ZM k)))):RowW x [f,n,ZM k] :=
 have b:=VX hn;have c:=QW h1 h2
 L9 ((Â:∀f∈Ř,32∉f.cps.toList/\f.length<=20/\ľc) f h) (Ąd b.1) (Ąd (SM k)) (Uc h hn h1 h2) hx
theorem FC{n x:Str}{k:Nat}(hn:ća=true)(hk:k<100)(hx:x.cps.toList=ąa "nth"++32::(Ũd (ñ (ĭ k)))):RowW x [ć "nth",n,ĭ k] :=
 have b:=VX hn;have c:=VU hk
 L9 Â (Ąd b.1) (Ąd (SM k)) (Ub hn hk) hx
theorem Gv{x:Str}{i j:Nat}(hi:i<100)(hj:j<100)(hx:x.cps.toList=ąa "looks"++32::(ñ (ĭ i)++32::ñ (ĭ j))):RowW x [ć "looks",ĭ i,ĭ j] :=
 have b:=VU hi;have c:=VU hj
 L9 Â (Ąd (SM i)) (Ąd (SM j)) (Na hi hj) hx
theorem DY{n x:Str}{i j:Nat}{k:Int}(hn:ća=true)(hi:i<100)(hj:j<100)(h1:-999999999<=k)(h2:k<=999999999)
  (hx:x.cps.toList=ąa "cell"++32::(Ũd (ñ (ĭ i)++32::(ñ (ĭ j)++32::ñ (ZM k))))):ïc:=by
 have b:=VX hn;have c:=QW h1 h2;have e:=VU hi;have g:=VU hj;have a:32∉ąa "cell"/\āb "cell"<=20/\Ø "cell" ≠ Ø "table" := Â
 refine K8 (by rw[hx,UJ,UJ,UJ,UJ,PU]) Í Í Ĳc (λz=>a.2.2 (WC z)) (Rm hn hi hj h1 h2);simp only[W9,YH,or_false]at hw;rcases hw with rfl | rfl | rfl | rfl | rfl
 ·exact ã a.1 a.2.1
 ·exact Ąd b.1
 ·exact Ąd (SM _)
 ·exact Ąd (SM _)
 ·exact Ąd (SM _)
theorem Gw{n t x:Str}(hn:ća=true)(ht:t.length<=2000)(hx:x.cps.toList=ąa "table"++32::(Ũd t.cps.toList)):RowW x šc:=by
 have b:=VX hn;have e:x=ŭa " " šc:=QY (by rw[hx,UJ,UJ,PU]);refine ő ?_ (by rw[e];exact Iw b.1 À) (Nc hn);have h:=õ hx;have l5:āb "table"=5:=Â
 rw[WR]at h;simp only[WK,YL,WR]at h;omega
theorem Yz:∀f∈Žc,f ≠ "cell" /\ f ≠ "drop" /\ f ≠ "show" /\ f ≠ "looks" /\ ľc := Â
end Seek
namespace L2
open PySem PySem.Spec PyProof.Rows Builtin Builtin.Str
section
variable {X:Cx}
noncomputable def nRev(te:TE)(ts:TO):TEN:=Äd (1<=n/\te σ H λx H1=>ts σ H1 λst H2=>∃z:Str,st=Ã (-1)/\x=ĉ z/\ø (î (revS z))/\∀m,n<=m->Q m (.sT (revS z) m) H2)
theorem Pj(he:Œ e te)(hs:PO X (Ã se) ts):ùe (Ýb e (.Slice none none (Ã se) p2) pos) (nRev te ts):=by
 intro pins s σ H n Q hn I ⟨h0,h⟩;refine Subscript_ (Êc hn Òa (λv s1 ⟨k1,x,H1,I1,r1,q1⟩=>?_));refine wpAny_Slice ?_;rw[evalPart_none];refine Ôc;refine Ôc;refine Êc k1 (hs pins s1 σ H1 _ I1 q1) (λvs s2 ⟨k2,st,H2,I2,pst,q2⟩=>?_);obtain⟨z,rfl,rfl,hz,q⟩:=q2;obtain⟨t,rfl⟩:=r1;have I4:É H2 { s2 with heap:=s2.heap.push (Įa "slice" #[ħb,ħb,vs]) }:=I2.kept (t':=s2.toks) λb ob q=>WD _ q;show Ë (subscriptTail e (.Slice none none (Ã se) p2) (.str z t) (Ê s2.heap.objs.size)) (EPN X pins σ Q) { s2 with heap:=s2.heap.push (Įa "slice" #[ħb,ħb,vs]) };refine tail_any (ops:=[.str z t,Ê s2.heap.objs.size]) (typeIs_str _ _ _) F.slot_str_getitem.lookup ?_ rfl;cases pst with
 |int j tj =>
  refine wpAny_getItem_str_slice (l:=none) (u:=none) (st:=Ã (-1,tj)) (Heap.IsSliceOf.new ..) rfl ?_;exact⟨hz,s2.toks+1,ħ,.sT (revS z) (s2.toks+1),H2,I4.tok _,Óe (WB h0 k2) Ģb,q _ (Ĉd k2)⟩
end
end L2
namespace Seek
open PySem L2 PyProof.Rows Builtin Builtin.Str
section
variable {P:Z3}{w:Z5}{K:ZC}{mg:Ą}{base:Z8}
inductive spLNameN(n:Nat)(vs:ĝ)(H:Hp)(Q:VN)(z4_:XK):Prop
 |mk (c:Int) (k:Nat) (h0:vs=[ô c,Ó k]) (h1:∀x m m' H',Y2 x.cps.toList=true->n<=m->m'<=m->Ŀd->Q m (.sT x m') H')
theorem Dd{lo:Int}{N:Nat}{σ0:L2.St}{H1:Hp}{te:TEN}{n0:Nat}{Q:VN}(G:Nat->Û Nat V)(hN:N<sizeLine)
  (up:∀i n m v,G i n v->n<=m->G i m v)
  (he:∀i,i<N->∀n H' Q',n0<=n->ç H1->(∀m y,n<=m->G i m y->Q' m y H')->te n źd H' Q')
  (fin:∀D H' n ys,n0<=n->Źd->ç H1->Ľb->ys.length=N->(∀i y,ys[i]?=Ã y->G i n y)->Q n (Ê D) H') :
  KP (Itr lo N) (WV 0) te σ0 H1 n0 Q:=by
 intro D hD;refine ő (λi m n ys σ' H'=>m=N-i/\i<=N/\n0<=n/\(∀u,σ'.set 0 u=Ōb u)/\ç H1/\Ľb/\ys.length=i/\∀j y,ys[j]?=Ã y->G j n y) ⟨N,Í,WW _,ħ,λ_=>rfl,snw hD,ZI,Z,λj y z=>by simp at z⟩ ?_;rintro i m n ys σ' H' ⟨rfl,hi,hn,es,sm,hDl,hys,hg⟩;refine ųb hDl
 by_cases hlt:i<N
 ·refine Ìd hlt;obtain⟨e,y⟩:=y;subst e y;show te n (σ'.set 0 (ļ (lo+i))) _ _;rw[es];refine he i hlt n _ _ hn sm λm y hm gy=>⟨hDl,À,N-(ůa),À,Z,hlt,WB hn hm,λ_=>by rw[List.set_set],sm.upd hD,ZI,by rw[WK,hys];rfl,λj y' hj=>?_⟩;rcases Nat.lt_or_ge j ys.length with z | z
  ·rw[ĸd z]at hj;exact up j n m y' (hg j y' hj) hm
  ·rw[List.getElem?_append_right z]at hj;have hj0:j-ys.length=0:=by
    have:=Ăb hj;simp at this;omega
   rw[hj0]at hj;have:y=y':=by simpa using hj
   subst this;rw[show j=i by omega];exact gy
 ·have e:i=N:=À
  subst e;exact ìb ħ (fin D H' n ys hn hD sm hDl hys hg)
theorem Jq(T:ûa)(D:é "_law_name" YV ["cell","k"]) (G:Ĺb):ĩa:=by
 refine FnAtN.of D sc_lname (λn vs H Q E h=>?_) (λf gv A ou s H vs n Q E hr h=>?_)
 ·obtain⟨c,k,rfl,_⟩:=h;rfl
 ·obtain⟨c,k,rfl,q⟩:=h;have nd:=sc_lname.nd;have nd2:(["at","word"]:ù).Nodup:=Â
  have B0:Ùa 0:=T4 (i:=2) nd rfl Ô KE;have B1:Ùa 1:=T4 (i:=3) nd rfl äb KI;have B2:Ùa 2:=LY PassesOwn.never rfl (ňb (pa1 ZB)) (YQ (i:=4) nd rfl Ô) (UR (T4 (i:=3) nd rfl äb (KG (UI Żc) (DF Ķa (ZN WS (Ýa G hr Ü 4) ZB) Ÿ))));have B3:Ùa 3:=SL (pcm o_lt (ZN WS ó ZB) ZB) (Y1 (YG (È 5 (ZN WS ó ZB))) (Y1 (T4 (i:=6) nd rfl Ô (DF Ķa (ZN RL (YF PySem.F.plainAttrs_str PySem.F.slot_str_index PySem.F.type_str_index Ja Ķa (pa1 (pix FU (pvw 3) (pv 5)))) ZB) Ÿ)) (UR (ON (KG (KG (NV (UI Żc) Q0 (RA (pv 5))) (UI (pv 6))) (NV (UI Żc) (RA (ċa U7 5)) Q0)))))) KJ
  have B4:Ùa 4:=Po ["at","word"] [none,Ã 3] (ZJ YV) Ţb (i:=7) nd rfl Ô rfl (AD rfl T.rng (į ZB ZB)) Â (Ö (pg_c 0 nd2)) (Ö (NV (UI ó) Q0 (RA Ü)));have B5:Ùa 5:=ON (Xt ZY (QZ SN (UI (pv 7)) (D6 (V8 KI (V8 KI (V8 (Pj (pvw 3) (RA (SK SI ZB))) (V8 (NV (UI Żc) (RA ZB) Q0) SZ)))))) (UI (ZN RL (ZN WS ó ZB) ZB)) Ÿ);have eB:WI YV=[ÿ YV 0,ÿ YV 1,ÿ YV 2,ÿ YV 3,ÿ YV 4,ÿ YV 5]:=by kernel_rfl
  rw[eB];clear eB;generalize ÿ YV 0=S0 at B0 ⊢;generalize ÿ YV 1=S1 at B1 ⊢;generalize ÿ YV 2=S2 at B2 ⊢;generalize ÿ YV 3=S3 at B3 ⊢;generalize ÿ YV 4=S4 at B4 ⊢;generalize ÿ YV 5=S5 at B5 ⊢;refine ë (Y1 B0 (Y1 B1 (Y1 B2 (Y1 B3 (Y1 B4 (UR B5))))));clear B0 B1 B2 B3 B4 B5;have l26:=Vs;intro n1 hn1 hnn1;refine ã hn1 (λn2 hn2=>?_);refine⟨8,Z,Ç,Ç,AS (λi n' σ H1=>∃(o4:Z9 V) (x:Str) (m:Nat),σ = [ļ c,Ğe k,Ã (ĉ ltS),Ã (.sT x m),o4,none,none,none]/\n<=n'/\1<=n'/\m<=n'/\ńa H1/\XU x/\x.length=i) ⟨none,Str.empty,n2,Z,À,À,ħ,ŵ,(λd hd=>by simp[Str.empty]at hd),Z⟩ ?_ (λn3 σ H1 ⟨o4,x,mx,es,hn3,h13,hmx,s1,hw,hl⟩=>?_)⟩
  ·rintro i n3 σ H1 hi ⟨o4,x,mx,rfl,hn3,h13,hmx,s1,hw,hl⟩;have hi:i<8:=hi;refine⟨_,Z,h13,_,Z,_,Z,_,Z,c,i,by rw[Int.zero_add],À,λv H2 v0 v1 s2=>⟨_,_,Z,Z,Ç,?_⟩⟩;obtain⟨m,em⟩:∃m:Nat,v%26=Þ m:=Ņ (Int.toNat_of_nonneg (Int.emod_nonneg _ Ç)).symm;have hm:m<ltS.cps.toList.length:=by
    rw[WR,l26];have:=O3 v (show Þ 0<26 by decide);omega
   refine⟨ltS,_,_,Z,Z,Ĭb,by rw[em];exact WE (WA hm),λn4 h34=>?_⟩;have hc:=GV _ (YE hm);generalize ltS.cps.toList[m]=ch at hc;have l1:(ű #[ch]:Str).length=1:=rfl;refine⟨_,_,_,_,Z,Z,À,ħ,À,Ĭb,λn5 h45=>⟨_,x++ű #[ch],n5,Z,À,À,ħ,Äc,hw.app (λd hd=>?_),?_⟩⟩
   ·have:d=ch:=by simpa using hd
    rw[this];exact hc
   ·rw[YY,l1];omega
  ·subst es;have hl:x.length=8:=hl;have hk20:Ùe%20=Ý (k%20):=À
   refine⟨_,Z,_,_,Z,Z,Ç,_,_,Z,Z,_,Z,Ŋa⟩
   ·have h1:k%20<8:=by
     have:=ġ h1;omega
    refine Řc _ _ Z Ç ?_;have hat:k%20<x.cps.toList.length:=by rw[WR];omega
    have hc:=hw _ (YE hat);obtain⟨j,hj⟩:∃j:_root_.Fin 26,x.cps.toList[k%20]=97+j.val:=ã (ã (x.cps.toList[k%20]-97) (by have:=hc.2;omega)) (by have:=hc.1;show _=97+(_-97);omega);obtain⟨c2,hc2,e2⟩:=Uf j;refine⟨h13,_,Z,_,Z,Z,x,Ôe,_,Z,x,_,_,Z,Z,Ĭb,by rw[hk20];exact WE (WA hat),ltS,_,j.val,[],Z,Z,by rw[hj];exact Ya j,_,_,Z,Z,ltS,_,c2,Z,Z,Ĭb,e2,λn4 h34=>?_⟩;have hc2:=GV c2 hc2;have l1:(ű #[c2]:Str).length=1:=rfl;have z1:î (Txt.slice x none (Ã (Ùe%20)))=k%20:=by rw[hk20];exact FL À
    have z2:î (øb (Ùe%20+1))=8-(k%20+1):=by
     rw[hk20,show(Ý (k%20)+1)=Ý (k%20+1) by omega,CD À,hl]
    refine⟨_,Z,_,Z,_,Z,x,_,Z,À,À,Ĭb,λn5 h45=>⟨_,Z,_,_,_,_,Z,Z,ħ,h45,À,Ĭb,λn6 h56=>⟨_,Z,_,Z,_,_,Z,Z,_,Z,x,_,Z,À,À,Ĭb,λn7 h67=>⟨_,_,_,_,Z,Z,h67,ħ,À,sl6 (by rw[YY];omega),λn8 h78=>q _ _ _ _ (OS ?_ ?_ ?_) À ħ s1⟩⟩⟩⟩
    ·refine XU.app (XU.app ķd (λd hd=>?_)) ķd;have:d=c2:=by simpa using hd
     rw[this];exact hc2
    ·rw[YY,YY];omega
    ·rw[YY,YY];omega
   ·have h1:8<=k%20:=by
     by_cases z:k%20<8
     ·exact ń (ZS (show Ùe%20<8 by omega)) h1
     ·omega
    refine⟨1,9,Z,⟨Ç,Ç,Ç,Ç⟩,Dd (λi n v=>∃y m,v=V.sT y m/\m<=n/\Y2 y.cps.toList=true) (UB Ç) (λi n m v ⟨y,m',e,l,z⟩ hm=>⟨y,m',e,WB l hm,z⟩) (λi hi n4 H' Q' h4 sm q'=>?_) λD2 H2 n4 ys h34 hD2 s2 eD2 ly gy=>?_⟩
    ·have hi:i<8:=hi;refine⟨_,Z,_,Z,_,Z,x,_,Z,À,À,Ĭb,λn5 h45=>q' _ _ h45 (şc _ Z ħ ?_)⟩;rw[show(1+Þ i)=Ý (1+i) by omega];refine OS ķd ?_ ?_<;>rw[FL À]<;>omega
    ·have hrev:=Td hw hl;have hz:(Þ 1)=Ý 1:=rfl;have z1:î (øb 1)=7:=by rw[hz,CD À,hl]
     refine Óe À (λn5 h45=>ã À (λn6 h56=>⟨À,x,Ôe,1,Z,_,Z,x,Z,Z,Ĭb,λn7 h67=>⟨_,Z,_,Z,x,_,Z,À,À,Ĭb,λn8 h78=>ã (sl6 Í) (λp2 hp2=>?_)⟩⟩));generalize eL:[V.sT "table" n5,V.sT "find" n6,V.sT (revS x) n7,V.sT (øb 1) n8]=L4;have gL:∀v∈L4,∃y m,v=V.sT y m/\m<=n8/\Y2 y.cps.toList=true:=λv hv=>by
      rw[<- eL]at hv;simp only[W9,YH,or_false]at hv;rcases hv with rfl | rfl | rfl | rfl
      ·exact şc _ Z À (BS _ Í)
      ·exact şc _ Z À (BS _ Í)
      ·exact şc _ Z À (OS hrev.1 À À)
      ·exact şc _ Z À (OS ķd À À)
     have lL:L4.length=4:=by rw[<- eL];rfl
     have s3:=snw (o:=.lst L4) hp2;have e3:(Ï H2 p2 L4) p2=_:=ZI;generalize Ï H2 p2 L4=H3 at s3 e3 ⊢;have eD3:=øe eD2;refine⟨D2,p2,_,_,Z,Z,eD3,e3,Ĭb,λp4 hp4=>?_⟩;have hix:k%20-8<î (ys++L4):=by
      rw[WK,ly,lL];omega
     obtain⟨y,m,hv,hm,hnam⟩:∃y m,(ys++L4)[k%20-8]=V.sT y m/\m<=n8/\Y2 y.cps.toList=true:=by
      rcases ũd (YE hix)with hh | hh
      ·obtain⟨j,hj⟩:=List.getElem?_of_mem hh;obtain⟨y,m,e,l,z⟩:=gy j _ hj;exact⟨y,m,e,À,z⟩
      ·exact gL _ hh
     refine⟨_,Z,_,_,Z,Z,Ç,_,_,Z,Z,p4,_,_,V.sT y m,Z,Z,sqo ZI,?_,?_⟩
     ·rw[hk20,show(Ý (k%20)-8)=Ý (k%20-8) by omega];have hh:=WA hix;rw[hv]at hh;exact WE hh
     ·exact q y n8 m _ hnam À hm (((Äc).trans s3).trans (snw hp4))
end
end Seek
namespace L2
open PySem PySem.Spec PyProof.Rows
theorem FnAtT.toN{P:Z3}{w:Z5}{K:ZC}{mg:Ą}{base:Z8}{k:Nat}{x:Str}{ps:ù}{sp:Sp}(F:FnAtT P w K mg base k x ps sp):ī k x ps (λn vs H Q E=>1<=n/\sp vs H (Q n) E):=by
 obtain⟨f,a,b,c,d⟩:=F;refine⟨f,a,b,λn vs H Q E z=>c _ _ _ _ z.2,λA ou s H us vs n Q E hr hn e0 r q=>?_⟩;refine Āa (codeAny_toks_of hn (d A ou s H us vs (Q n) E hr (WB q.1 hn) e0 r q.2));obtain⟨k',hq⟩:=hq;cases res with
 |error ev=>exact hq
 |ok fl =>
  cases fl with
  |ret u=>exact ő n k' hq
  |next=>exact hq
  |brk=>exact hq
  |cont=>exact hq
theorem X7(hu:X.A.units<cLine):ķ .Eq (λu v H Q=>∃a c b x,u=œ/\v=Ê c/\H a=Ù [.bl b,íd]/\H c=Ù [.bl b,íd]/\Q Ĩ H):=by
 intro pins s σ H u v uv vv Q I ru rv h;obtain⟨a,c,b,x,rfl,rfl,h1,h2,q⟩:=h;cases ru;cases rv;obtain⟨its,r,pl,hz⟩:=I.list (sqo h1);obtain⟨its2,r2,pl2,hz2⟩:=I.list (sqo h2);cases r with
 |cons p1 t1 =>
  cases t1 with
  |cons p2 t2 =>
   cases t2;cases r2 with
   |cons k1 m1 =>
    cases m1 with
    |cons k2 m2 =>
     cases m2;cases p1;cases k1;obtain⟨tk,rfl⟩:=p2;obtain⟨tk2,rfl⟩:=k2;have R:=SeqAt.RcAt.lists (A:=X.A) (e:=λj=>if j=0 then(b==b)else(x==x)) pl.isList pl2.isList rfl hu (λj g1 g2=>by
      have g1:j<2:=g1;rcases(show j=0\/j=1 by omega)with z | z<;>subst z
      ·exact SeqAt.EqAt.bool_bool b b
      ·exact SeqAt.EqAt.str_str x tk x tk2)
     have e:((Ĵ [Value.bool b,Value.str x tk].toArray.size).all λj=>if j=0 then(b==b)else(x==x))=true:=by
      show(([0,1]:Ŧa).all λj=>if j=0 then(b==b)else(x==x))=true;simp
     rw[e]at R;exact R _ _ _ _ ⟨Ĩ,H,I,Z,q⟩
theorem IF{n:Nat}:∀{xs:ù}{us:š},Ŝa (xs.map V.str)->∀(j:Nat) (h:j<us.length),∃t,us[j]=Čc Ėd
 | [],_,.nil,j,h=>ń h (Nat.not_lt_zero _)
 |x::xs,u::us,.cons r t,0,h=>by obtain⟨t,e⟩:=r;exact ã t e
 |x::xs,u::us,.cons r t,j+1,h=>by
  obtain⟨t,e⟩:=IF (n:=n) t j (by simpa using h);exact ã t (by simpa using e)
theorem EZ:∀{xs:ù}{us:š},Ŝa (xs.map λx=>V.sT x n)->Ŝa (xs.map V.str)
 | [],_,.nil=>.nil
 |_::_,_,.cons r t=>Ŭb r.wk (EZ t)
theorem Oi{X:Cx}(hu:X.A.units<cLine):ķ .NotEq (λu v H Q=>∃(a c:Z1) (n:Nat) (xs:ù),u=œ/\v=Ê c/\H a=Ù (xs.map V.str)/\H c=Ù (xs.map λx=>V.sT x n)/\Q öa H):=by
 intro pins s σ H u v uv vv Q I ru rv h;obtain⟨a,c,n,xs,rfl,rfl,h1,h2,q⟩:=h;cases ru;cases rv;obtain⟨its,r,pl,hz⟩:=I.list (sqo h1);obtain⟨its2,r2,pl2,hz2⟩:=I.list (sqo h2);have r2:=EZ r2;have l1:=r.length;have l2:=r2.length;have R:=SeqAt.RcNeAt.lists (A:=X.A) (e:=λj=>(Ėd==Ėd)) pl.isList pl2.isList (by rw[WZ,WZ,<- l1,<- l2]) hu (λj g1 g2=>by
  obtain⟨t,e⟩:=IF (n:=n) r j (by simpa using g1);obtain⟨t2,e2⟩:=IF (n:=n) r2 j (by simpa using g2);rw[List.getElem_toArray,List.getElem_toArray,e,e2]
  exact SeqAt.EqAt.str_str _ t _ t2)
 have e:Ķb (!(Ĵ its.toArray.size).all λj=>(Ėd==Ėd)):=Í
 rw[e]at R;exact R _ _ _ _ ⟨öa,H,I,Z,q⟩
end L2
namespace Seek
open PySem L2 PyProof.Rows
noncomputable def putT(ts:Ts)(n:Str)(t:Z1)(prs:Prs):Ts:=if n∈îc (·.1)then îc (λe=>if e.1=n then(n,t,prs)else e)else ts++[(n,t,prs)]
noncomputable def VE(ts:Ts)(n:Str):Ts:=ts.filter λe=>è (e.1≠n)
noncomputable def fT(e:Str×Z1×Prs):Str×Æ Ċ:=(e.1,e.2.2.map (·.2))
theorem Rq(ts:Ts)(n:Str):(Łc).any (λkv=>è (kv.1=Öa))=è (n∈îc (·.1)):=by
 rw[Bool.eq_iff_iff,List.any_eq_true,TF];unfold kvs;constructor
 ·rintro⟨kv,hkv,e⟩;obtain⟨x,hx,rfl⟩:=Áb hkv;have e:=ġ e;injection e with e;exact ZT.mpr (ő x hx e)
 ·intro h;obtain⟨x,hx,rfl⟩:=Áb h;exact ő _ (Ń x hx) (ZS rfl)
theorem EL(ts:Ts)(n:Str)(t:Z1)(prs:Prs):putK Łc Öa (Ê t)=kvs (Ũb ts n):=by
 unfold putK putT;rw[Rq]
 by_cases h:n∈îc (·.1)
 ·rw[ZH (ZS h),ZH h];unfold kvs;rw[W7,W7];refine Ź (λe _=>?_);dsimp only[Function.comp]
  by_cases c:e.1=n
  ·rw[ZH (by rw[c]),ZH c,c]
  ·rw[ZE (λz=>c (by injection z)),ZE c]
 ·rw[ZE (ú (ZW h) YS),ZE h];unfold kvs;rw[W2];rfl
theorem CK(ts:Ts)(n:Str):VD Łc Öa=kvs (VE ts n):=by
 unfold VD VE kvs;rw[List.filter_map]
 congr 1
 refine List.filter_congr λe _=>?_;dsimp only[Function.comp];rw[XA];exact ã (λh z=>h (by rw[z])) (λh z=>h (by injection z))
theorem Ev(ts:Ts)(n:Str)(t:Z1)(prs:Prs):(Ũb ts n).map (·.1)=if n∈îc (·.1)then îc (·.1)else îc (·.1)++[n]:=by
 unfold putT
 by_cases h:n∈îc (·.1)
 ·rw[ZH h,ZH h,W7];refine Ź (λe _=>?_);dsimp only[Function.comp]
  by_cases c:e.1=n
  ·rw[ZH c,c]
  ·rw[ZE c]
 ·rw[ZE h,ZE h,W2];rfl
theorem DA(h:Çe (îc (·.1)))(n:Str)(t:Z1)(prs:Prs):Çe ((Ũb ts n).map (·.1)):=by
 rw[Ev]
 by_cases c:n∈îc (·.1)
 ·rw[ZH c];exact h
 ·rw[ZE c,List.nodup_append];refine ő h Í (λx hx y hy z=>?_);have hy:y=n:=by simpa using hy
  rw[z,hy]at hx;exact c hx
theorem PX(h:e∈Ũb ts n):e∈ts\/e=(n,t,prs):=by
 unfold putT at h
 by_cases c:n∈îc (·.1)
 ·rw[ZH c]at h;obtain⟨x,hx,rfl⟩:=Áb h
  by_cases d:x.1=n
  ·rw[ZH d];exact ôe
  ·rw[ZE d];exact Ė hx
 ·rw[ZE c]at h;rcases ũd h with h | h
  ·exact Ė h
  ·exact Ŀ (V3.mp h)
theorem D9(ts:Ts)(n:Str)(t:Z1)(prs:Prs):(n,t,prs)∈Ũb ts n:=by
 unfold putT
 by_cases c:n∈îc (·.1)
 ·rw[ZH c];obtain⟨x,hx,e⟩:=Áb c;exact ZT.mpr (ő x hx (ZH e))
 ·rw[ZE c];exact U4 _ (V3.mpr rfl)
theorem DU(ts:Ts)(n:Str)(t:Z1)(prs:Prs):î (Ũb ts n)<=ts.length+1:=by
 unfold putT;split
 ·rw[ZD];omega
 ·rw[WK];exact ħ
theorem J8{us ts:Ts}(h:us.map fT=îc fT):us.map (·.1)=îc (·.1):=by
 have:=ęb (List.map (·.1)) h;rw[W7,W7]at this;exact this
theorem FQ{us ts:Ts}(h:us.map fT=îc fT)(n:Str)(t t':Z1){prs prs':Prs}(hr:ð=prs'.map (·.2)):(Ũb us n).map fT=(ùd n).map fT:=by
 unfold putT;rw[J8 h];have key:∀(l:Ts) (t:Z1) (prs:Prs),(l.map λe=>if e.1=n then(n,t,prs)else e).map fT=(l.map fT).map λp=>if p.1=n then(n,ð)else p:=λl t prs=>by
  rw[W7,W7];refine Ź (λe _=>?_);dsimp only[Function.comp]
  by_cases c:e.1=n
  ·rw[ZH c,ZH (show(fT e).1=n from c)];rfl
  ·rw[ZE c,ZE (show ¬(fT e).1=n from c)]
 by_cases c:n∈îc (·.1)
 ·rw[ZH c,ZH c,key,key,h,hr]
 ·rw[ZE c,ZE c,W2,W2,h]
  congr 1
  show [(n,_)]=[(n,_)];rw[hr]
theorem Rf(h:us.map fT=îc fT)(n:Str):(VE us n).map fT=(VE ts n).map fT:=by
 have key:∀l:Ts,(VE l n).map fT=(l.map fT).filter λp=>è (p.1≠n):=λl=>by
  unfold VE;rw[List.filter_map];rfl
 rw[key,key,h]
theorem QA(h:e∈VE ts n):e∈ts/\e.1≠n:=by
 obtain⟨h1,h2⟩:=Üd h;exact ã h1 (ġ h2)
theorem BD(h:Çe (îc (·.1)))(n:Str):Çe ((VE ts n).map (·.1)):=List.Sublist.nodup (List.Sublist.map _ List.filter_sublist) h
theorem Lv(ts:Ts)(n:Str):n∉(VE ts n).map (·.1):=λz=>by
 obtain⟨e,he,h⟩:=Áb z;exact(QA he).2 h
theorem PM{us ts:Ts}(h:us.map fT=îc fT){n:Str}{t:Z1}{prs:Prs}(hm:(n,t,prs)∈us):∃t' prs',(n,t',prs')∈ts/\prs'.map (·.2)=ð:=by
 have h1:fT (n,t,prs)∈îc fT:=by rw[<- h];exact Ń _ hm
 obtain⟨⟨n',t',prs'⟩,he,e⟩:=Áb h1;unfold fT at e;injection e with e1 e2;have e1:n'=n:=e1;subst e1;exact⟨t',prs',he,e2⟩
theorem Tab.nl(h:ľ)(hd:∀xs,H d≠Ù xs):ıd (upd H d o) :=
 ã ((ZP λz=>hd _ (by rw[<- z];exact h.l)).trans h.l) (Ļ ((ZP λz=>hd _ (by rw[<- z];exact h.r p hp)).trans (h.r p hp)))
theorem DeskAt.set{H:Hp}{C a dx d:Z1}{ts ts':Ts}(h:Ĳb)(hT:∀e∈ts',Tab H e.2.1 e.2.2/\tabB e.2.2=true)(nd:Çe (ts'.map (·.1))):Ď (ſa H d (kvs ts')) ts':=by
 have hl:∀xs,H d≠Ù xs:=λxs z=>by rw[h.D]at z;cases z
 refine⟨(ZP Îc).trans h.ob,ZI,λe he=>ã ((hT e he).1.nl hl) (hT e he).2,nd⟩;have:=h.ob;rw[z,h.D]at this;cases this
theorem DeskAt.put6(h:Ĳb)(hT:ľ)(hg:Ĕ):Ď (ħc H (Ê t)) (Ũb ts n):=by
 rw[EL ts n t prs];refine h.set (λe he=>?_) (DA h.nd n t prs);rcases PX he with he | rfl
 ·exact h.T e he
 ·exact ã hT hg
theorem DeskAt.drop6(n:Str)(h:Ĳb):Ď (ſa H d (VD Łc Öa)) (VE ts n):=by
 rw[CK];exact h.set (λe he=>h.T e (QA he).1) (BD h.nd n)
section
variable {P:Z3}{w:Z5}{K:ZC}{mg:Ą}{base:Z8}{C c:Z1}
inductive spSot4(C:Z1)(vs:ĝ)(H:Hp)(Q:VK)(z3_:XK):Prop
 |mk (a dx d p t:Z1) (ts:Ts) (n:Str) (prs:Prs) (i j:Nat) (x:Int) (h0:vs=[œ,Ê p]) (h1:Ĳb) (h2:ts.length<=900) (h3:H p=Ù ([ć "cell",n,ĭ i,ĭ j,ZM x].map V.str)) (h4:(n,t,prs)∈ts) (h5:śa i) (h6:śa j) (h7:űd x) (h8:Ĵb i) (h9:j<ĺ) (h10:UT ña=true) (h11:∀t' prs' H',ē t'->(∀p∈prs',ē p.1)->Ŀd->Tab H' t' prs'->prs'.map (·.2)=ña->Q (ĉ "ok") (ħc H' (Ê t')))
theorem Oc(T:ûa)(kc:ţc)(D:Ŝ C) (G:Ä 6 "changed_table" Úa spChanged):Âa (spSot4 C):=by
 refine Ěb sc_sot
 ·obtain⟨a,dx,d,p,t,ts,n,prs,i,j,x,rfl,_⟩:=h;rfl
 ·obtain⟨a,dx,d,p,t,ts,n,prs,i,j,x,rfl,hd,hts,hp,hm,l1,l2,l3,hi,hj,hok,q⟩:=h;have nd:=sc_sot.nd;have hu:=UP hr;have hr6:Ŷc 6:=ż (show 6<=9 by decide);obtain⟨hT,hg⟩:=hd.T _ hm;have g:Óc H:=by
   have:=DGet.k (k:=Öa) hd.D;rw[VW hd.nd hm]at this;exact this
  refine ĉb (È 2 ňd) (ša WH Êa ZR (ĉc (Q5 hu Ìb Êa (pe_f G hr6 (ZF Ķa (į (US (į Åa Åa)) Åa))) rfl) ZR)) WG
  refine Ŗ hd.ob hp (WE (i:=1) rfl) g ?_;refine ö hp;rw[YD (r:=true) Â];refine Ŧb (Ûd (WE (i:=2) rfl) (WE (i:=3) rfl));have s1:=snw (o:=.tup [Ŧd,Ó j]) hq2;refine⟨_,Z,p,_,4,_,Z,Z,sqo (Ųc hp),WE (i:=4) rfl,_,_,Z,XM À,l3,t,q2,prs,i,j,x,Z,ëa s1,hg,ZI,hi,hj,hok,λt' prs' H2 f1 f2 _ s2 hT2 hr2=>?_⟩;have d2:=hd.same Äc;have hp2:=(Äc) _ _ hp;exact Ŗ d2.ob hp2 (WE (i:=1) rfl) (DPut.k (k:=Öa) d2.D (by unfold kvs;rw[ZD];exact UB À)) (q t' prs' H2 (ğd f1) (Ļ (ğd (f2 p hp).1)) Äc hT2 hr2)
inductive spSot5(C:Z1)(vs:ĝ)(H:Hp)(Q:VK)(z3_:XK):Prop
 |mk (a dx d p t:Z1) (ts:Ts) (n:Str) (prs:Prs) (h0:vs=[œ,Ê p]) (h1:Ĳb) (h2:H p=Ù ([ć "drop",n].map V.str)) (h3:(n,t,prs)∈ts) (h4:Q (ĉ "ok") (ſa H d (VD Łc Öa)))
theorem Od(kc:ţc)(D:Ŝ C):Âa (spSot5 C):=by
 refine Ěb sc_sot
 ·obtain⟨a,dx,d,p,t,ts,n,prs,rfl,_⟩:=h;rfl
 ·obtain⟨a,dx,d,p,t,ts,n,prs,rfl,hd,hp,hm,q⟩:=h;have nd:=sc_sot.nd;have hu:=UP hr;have hv:=VW hd.nd hm;have g:Óc H:=by
   have:=DGet.k (k:=Öa) hd.D;rw[hv]at this;exact this
  refine Ňc ňd Êa (ĉc (Y9 (Lh Ìb Êa ⟨Z,Z,Z,Z⟩)) ZR) WG
  refine Ŗ hd.ob hp (WE (i:=1) rfl) g ?_;refine ö hp;rw[YD (r:=false) Â];refine ĭb (ö hp);rw[YD (r:=true) Â];exact Ŧb ⟨_,Z,a,C,dx,_,_,Z,hd.ob,kc.cls,kc.nt,Z,d,Z,Ė (Ņ (Ė hd.D)),_,Z,p,_,1,_,Z,Z,sqo hp,WE (i:=1) rfl,Łc,Öa,_,hd.D,Z,hv,q⟩
end
open PySem L2 PyProof.Rows
noncomputable def spRf(C:Z1)(cs:ãb):Sp:=λvs H Q E=>spSay1 C (Ś 11) vs H Q E\/spSay2 C (Ś 10) vs H Q E \/ spSay3 C (λvs H Q E=>spSot3 C (Ś 1) (Ś 7) vs H Q E\/spSot2 C (spAnsX (Ś 6)) vs H Q E) vs H Q E\/spSay4 C (spNsX (Ś 3)) vs H Q E \/ spSay5 C (spRS (Ś 9) (λvs H Q E=>spRTX2 (Ś 9) vs H Q E\/spRTX3 (Ś 9) vs H Q E)) vs H Q E
noncomputable def spAw(C:Z1):Sp:=λvs H Q E=>spSot1 C vs H Q E\/spSot2 C spAns vs H Q E\/spSot4 C vs H Q E\/spSot5 C vs H Q E
noncomputable def spOk(C c9:Z1):Sp:=λvs H Q E=>spSay3 C (spAw C) vs H Q E\/spSay4 C spFewestL vs H Q E\/spSay5 C (spRS c9 spRTA) vs H Q E
theorem AnsOk.mono{prs:Prs}{f:Str}{x:Int}{R R':Str->Prop}(h:AnsOk prs f x R)(m:∀y,R y->R' y):AnsOk prs f x R':=by
 unfold AnsOk at h ⊢;split
 ·rename_i c;rw[ZH c]at h;exact m _ h
 ·rename_i c;rw[ZE c]at h
  split
  ·rename_i c;rw[ZH c]at h;exact m _ h
  ·rename_i c;rw[ZE c]at h
   split
   ·rename_i c;rw[ZH c]at h;exact m _ h
   ·rename_i c;rw[ZE c]at h
    split
    ·rename_i c;rw[ZH c]at h;exact m _ h
    ·rename_i c;rw[ZE c]at h
     obtain⟨k,e,hk,q⟩:=h;exact⟨k,e,hk,λfs hs=>ã (q fs hs).1 (m _ (q fs hs).2)⟩
theorem CQ(h:Mono sp)(h':Mono sp'):Mono Ģc:=λvs H Q Q' E m q=>q.elim (λz=>Ė (h vs H Q Q' E m z)) λz=>Ŀ (h' vs H Q Q' E m z)
theorem Ie(h:Mono sp):Mono (spSay3 C sp):=λvs H Q Q' E m ⟨a,dx,d,t,ts,x,f,n,ws,prs,e,hd,l,hf,hs,f1,f2,hm,q⟩=>⟨a,dx,d,t,ts,x,f,n,ws,prs,e,hd,l,hf,hs,f1,f2,hm,λp H' hp s e=>h _ _ _ _ _ m (q p H' hp s e)⟩
theorem Ig(h:Mono sp):Mono (spSay4 C sp):=λvs H Q Q' E m ⟨a,x,r,p,e,l,hf,hs,l1,l2,q⟩=>⟨a,x,r,p,e,l,hf,hs,l1,l2,λH' s=>h _ _ _ _ _ (λv H2 ⟨k,z1,z2,z3⟩=>⟨k,z1,z2,m _ _ z3⟩) (q H' s)⟩
theorem Ih(h:Mono sp):Mono (spSay5 C sp):=λvs H Q Q' E m ⟨a,dx,d,ts,x,n,tx,e,hd,hn,l,hf,hs,q⟩=>⟨a,dx,d,ts,x,n,tx,e,hd,hn,l,hf,hs,λH1 s=>h _ _ _ _ _ (λv H2 ⟨z1,z2⟩=>ã z1 (m _ _ z2)) (q H1 s)⟩
theorem Ln:Mono spFewestL:=λvs H Q Q' E m ⟨r,p,e,h1,h2,h3,h4,q⟩=>⟨r,p,e,h1,h2,h3,h4,λH' s=>m _ _ (q H' s)⟩
theorem A4:Mono spRTA:=λvs H Q Q' E m ⟨x,rows,e,h1,h2,h3,q⟩=>⟨x,rows,e,h1,h2,h3,λt prs H' a b c d e=>m _ _ (q t prs H' a b c d e)⟩
theorem CS(h:Mono sp):Mono (spRS c sp):=λvs H Q Q' E m ⟨x,e,l,q⟩=>⟨x,e,l,q.elim .inl λz=>ūb z.1 (h _ _ _ _ _ m z.2)⟩
theorem Lm:Mono spAns:=λvs H Q Q' E m ⟨t,prs,f,x,e,hT,hg,q⟩=>⟨t,prs,f,x,e,hT,hg,q.mono λy z H' s=>m _ _ (z H' s)⟩
theorem Sb:Mono (spAw C):=λvs H Q Q' E m h=>by
 rcases h with⟨a,dx,d,p,t,ts,n,prs,e,hd,hp,hm,hb,q⟩ | ⟨a,dx,d,p,t,ts,f,n,x,prs,e,hd,hp,hm,f1,f2,f3,hl,q⟩ | ⟨a,dx,d,p,t,ts,n,prs,i,j,x,e,hd,hts,hp,hm,l1,l2,l3,hi,hj,hok,q⟩ | ⟨a,dx,d,p,t,ts,n,prs,e,hd,hp,hm,q⟩
 ·exact Ė ⟨a,dx,d,p,t,ts,n,prs,e,hd,hp,hm,hb,λH' s=>m _ _ (q H' s)⟩
 ·exact Ŀ (Ė ⟨a,dx,d,p,t,ts,f,n,x,prs,e,hd,hp,hm,f1,f2,f3,hl,Lm _ _ _ _ _ m q⟩)
 ·exact Ŀ (Ŀ (Ė ⟨a,dx,d,p,t,ts,n,prs,i,j,x,e,hd,hts,hp,hm,l1,l2,l3,hi,hj,hok,λt' prs' H' z1 z2 z3 z4 z5=>m _ _ (q t' prs' H' z1 z2 z3 z4 z5)⟩))
 ·exact Ŀ (Ŀ (Ŀ ⟨a,dx,d,p,t,ts,n,prs,e,hd,hp,hm,m _ _ q⟩))
theorem Sc:Mono (spOk C c9):=CQ (Ie Sb) (CQ (Ig Ln) (Ih (CS A4)))
noncomputable def spSd(C:Z1)(cs:ãb):Sp:=λvs H Q E=>spSaidG C (spOk C (Ś 9)) vs H Q E\/spSaid C cs (spRf C cs) vs H Q E
section
variable {C:Z1}{cs:ãb}{H:Hp}{a dx d:Z1}{ts:Ts}{Q:VK}{E:XK}{x:Str}
theorem J0(hd:Ĳb)(hm:(n,t,prs)∈ts)(hw:RowW x (f::n::ws))(f1:f ≠ "looks") (f2:ľc)
  (q:∀F p H1,ē F->ńa H1->H1 F=Ù İd->H1 p=Ù ((f::n::ws).map V.str)->p≠F->∀E':XK,spAw C [œ,Ê p] H1 (λv H2=>H2 F=Ù İd/\Ŕ F (Ï H2 F [öa,v])) E'):Ċc:=by
 refine Ė ⟨a,dx,_,íd,Z,hd.ob,Z,λF H1 E' hF s1 eF=>Ė ⟨a,dx,d,t,ts,x,f,n,ws,prs,Z,Ęc,hw.l,by rw[hw.s];exact hw.f,hw.s,f1,f2,hm,λp H2 hp s2 e2=>?_⟩⟩;rw[hw.s]at e2;exact q F p H2 hF Äc (űc eF) e2 (λz=>by rw[z,eF]at hp;cases hp) _
theorem FF(hd:Ĳb)(hm:(n,t,prs)∈ts)(hw:RowW x [f,n,ZM k])(hf:f∈Žc) (hk:űd k)
  (q:AnsOk prs f k λy=>∀F H',ē F->Àa H F [öa,ĉ y]):Ċc:=by
 have ff:=Yz f hf;refine J0 hd hm hw ff.2.2.2.1 ff.2.2.2.2 λF p H1 hF s1 eF ep np _=>Ŀ (Ė ⟨a,dx,d,p,t,ts,f,n,k,prs,Z,Ęc,ep,hm,ff.1,ff.2.1,ff.2.2.1,hk,t,prs,f,k,Z,(hd.T _ hm).1.same s1,(hd.T _ hm).2,q.mono λy hy H' s'=>ųb (s' _ _ eF)⟩);refine hy F _ hF ?_ ZI;exact(Ľ s').upd hF
theorem Qj(hd:Ĳb)(hm:(n,t,prs)∈ts)(hw:RowW x [ć "show",n]) (hb:∀q∈prs,Bd50 q.2)
  (q:∀F H',ē F->Àa H F [öa,ĉ Ñd]):Ċc:=by
 refine J0 hd hm hw Â Â λF p H1 hF s1 eF ep np _=>Ė ⟨a,dx,d,p,t,ts,n,prs,Z,Ęc,ep,hm,hb,λH' s'=>ųb (s' _ _ eF)⟩;exact q F _ hF ((Ľ s').upd hF) ZI
theorem Qi(hd:Ĳb)(hts:ts.length<=900)(hm:(n,t,prs)∈ts)(hw:ïc) (l1:śa i) (l2:śa j) (l3:űd k)
  (hi:Ĵb i) (hj:j<ĺ) (hok:UT (setR ð i j k)=true)
  (q:∀F H' t' prs',ē F->ē t'->(∀p∈prs',ē p.1)->(∀b o,ŕa d)->H' F=Ù [öa,ĉ "ok"]->prs'.map (·.2)=setR ð i j k->Ď H' (ùd n)->Ŕ F H'):Ċc:=by
 refine J0 hd hm hw Â Â λF p H1 hF s1 eF ep np _=>Ŀ (Ŀ (Ė ⟨a,dx,d,p,t,ts,n,prs,i,j,k,Z,Ęc,hts,ep,hm,l1,l2,l3,hi,hj,hok,λt' prs' H' f1 f2 s' hT' hr'=>?_⟩));have nFd:F≠d:=λz=>by rw[z,hd.D]at hF;cases hF
 have d1:=(Ęc).same s';have eF':=s' _ _ eF;refine ųb ((ZP nFd).trans eF');have dk:=d1.put6 (n:=n) hT' (ú (SD hr') hok);refine q F _ t' prs' hF (ğd f1) (Ļ (ğd (f2 p hp))) (λb o nb e=>?_) ZI hr' ?_
 ·rw[ZP (WX e hF),ZP nb];exact s' _ _ (Ųc e)
 ·have hl:∀e∈ùd n,Tab (Ï (ħc H' (Ê t')) F [öa,ĉ "ok"]) e.2.1 e.2.2/\tabB e.2.2=true:=λe he=>by
   refine ã ?_ (dk.T e he).2;have h1:=(dk.T e he).1;have key:∀b (xs:ĝ),(ħc H' (Ê t')) b=Ù xs->(∀v∈xs,(∃z:Z1,v=Ê z)\/∃z,v=ô z)->b≠F:=λb xs eb hv z=>by
    rw[z,ZP nFd,eF']at eb;have eb:=WC eb;injection eb with eb;rcases hv öa (by rw[<- eb];exact XB ..)with⟨_,h⟩ | ⟨_,h⟩<;>cases h
   refine ã ((ZP (key _ _ h1.l λv hv=>?_)).trans h1.l) (λq hq=>(ZP (key _ _ (h1.r q hq) λv hv=>?_)).trans (h1.r q hq))
   ·obtain⟨z,_,rfl⟩:=Áb hv;exact Ė Ôe
   ·obtain⟨z,_,rfl⟩:=Áb hv;exact Ŀ Ôe
  refine⟨(ZP Îc).trans dk.ob,(ZP (ĥ nFd)).trans dk.D,hl,dk.nd⟩;have:=hd.ob;rw[z,hF]at this;cases this
theorem Kv(ha:Ŵb fs)(hfs:Ġb (ć "say")=none) (hw:RowW x [ć "looks",ĭ r,ĭ p]) (l1:śa r) (l2:śa p) (h1:1<=r) (h2:r<=4) (h3:1<=p) (h4:p<=4)
  (hlog:(ũ Ÿb:Int).natAbs.log2<1920)
  (q:∀F H',ē F->Àa H F [öa,ĉ (ZM (Ý Ÿb))]):Ċc:=by
 refine Ė ⟨a,dx,fs,íd,Z,ha,hfs,λF H1 E' hF s1 eF=>Ŀ (Ė ⟨a,x,r,p,Z,hw.l,by rw[hw.s];exact hw.f,hw.s,l1,l2,λH2 s2=>⟨r,p,Z,h1,h2,h3,h4,λH3 s3=>şc Z hlog (øe (űc eF)) ?_⟩⟩)⟩;exact q F _ hF (((Äc).trans s3).upd hF) ZI
theorem RY(ha:Ŵb fs)(hfs:Ġb (ć "say")=none) (hj:j<7) (hr:Refs cs (spRf C cs) H a v Ĉc) (q:∀F H',ē F->Àa H F [Ĩ,ĉ Śd]):spSd C cs [œ,v] H Q E :=
 Ŀ ⟨a,dx,fs,v,j,Z,ha,hfs,hj,hr,q⟩
theorem Oa(hl:z.length<=500)(h:hfB (spl z)=false):Ĺa z 11:=λH1 Q E s1 he=>Ė ⟨a,ĉ z,ĉ z,Z,ĉ z,Ŀ ⟨z,Z,WB hl Ç,h⟩,he⟩
theorem Nv(hd:Ĳb)(hw:RowW x (f::n::ws))(f1:f ≠ "looks") (f2:ľc) (hn:n∉îc (·.1)):Ĺa x 10:=λH1 Q E s1 he=>Ŀ (Ė ⟨a,dx,d,ts,x,f,n,ws,Z,Ęc,hw.l,by rw[hw.s];exact hw.f,hw.s,f1,f2,hn,he⟩)
theorem Gu(hd:Ĳb)(hm:(n,t,prs)∈ts)(hw:RowW x [ć "nth",n,ĭ k]) (hk:śa k) (h:Ĳa<=k):Ĺa x 6:=Ĕa "nth" (by rw[hw.s];exact hw.f) (Ŀ ⟨a,dx,d,p,t,ts, "nth",n,Ùe,prs,Z,(Ęc).same s2,by rw[hw.s]at e2;exact e2,hm,Â,Â,Â,hk, t,prs,k,Z,((hd.T _ hm).1.same s1).same s2,(hd.T _ hm).2,h,šb⟩)
theorem Nu(hd:Ĳb)(hm:(n,t,prs)∈ts)(hw:ïc) (l1:śa i) (l2:śa j) (l3:űd k)
  (h:Ĭd):Ĺa x 1:=Ĕa "cell" (by rw[hw.s];exact hw.f) (Ė ⟨a,dx,d,p,t,ts,n,prs,i,j,k,Z,(Ęc).same s2,by rw[hw.s]at e2;exact e2,hm,l1,l2,l3,ìb h šb⟩)
theorem Pz(hd:Ĳb)(hm:(n,t,prs)∈ts)(hw:ïc) (l1:śa i) (l2:śa j) (l3:űd k)
  (hi:Ĵb i) (hj:j<ĺ) (h:UT (setR ð i j k)=false):Ĺa x 7:=Ĕa "cell" (by rw[hw.s];exact hw.f) (Ė ⟨a,dx,d,p,t,ts,n,prs,i,j,k,Z,(Ęc).same s2,by rw[hw.s]at e2;exact e2,hm,l1,l2,l3,Ŀ ⟨hi,hj,h,šb⟩⟩)
theorem Nx(hw:RowW x [ć "looks",ĭ r,ĭ p]) (l1:śa r) (l2:śa p) (h:Ķb (XE r&&XE p)):Ĺa x 3:=λH1 Q E s1 he => Ŀ (Ŀ (Ŀ (Ė ⟨a,x,r,p,Z,hw.l,by rw[hw.s];exact hw.f,hw.s,l1,l2,λH2 s2=>⟨r,p,Z,h,he H2 s2⟩⟩)))
theorem DW(hd:Ĳb)(hts:ts.length<=500)(hx:x.length<=500)(hf:ĺc (spl x))(hs:spl x=[ć "table",n,tx]) (htx:tx.length<=500) (hnl:XX tx=false) (h:(SF (ĉa tx "/" "\n")/\LB (ĉa tx "/" "\n")=false)\/∃rows,SF (ĉa tx "/" "\n")/\RowsOf (ĉa tx "/" "\n") rows/\UT rows=false):Ĺa x 9:=λH1 Q E s1 he => Ŀ (Ŀ (Ŀ (Ŀ ⟨a,dx,d,ts,x,n,tx,Z,Ęc,WB hts Ç,WB hx Ç,hf,hs,λH2 s2=>⟨tx,Z,WB htx Ç,ūb hnl (by
  rcases h with⟨h1,h2⟩ | ⟨rows,h1,h2,h3⟩
  ·exact Ė (şc Z h1 h2 šb)
  ·exact Ŀ ⟨_,rows,Z,h1,h2,h3,šb⟩)⟩⟩)))
end
open PySem L2 PyProof.Rows
structure L6(P:Z3)(w:Z5)(H:Hp)(tb:Z1)(n:Nat)(us:Ts):Prop where
 g:DG P w H tb n Ėb
 T:∀e∈us,Tab H e.2.1 e.2.2/\tabB e.2.2=true
 b:∀e∈us,∀q∈e.2.2,Bd50 q.2
 m:∀e∈us,Y2 e.1.cps.toList=true
 nd:Çe (us.map (·.1))
structure W6(P:Z3)(w:Z5)(C:Z1)(H:Hp)(a dx d tb:Z1)(n:Nat)(ts us:Ts):Prop where
 dk:Ĳb
 l:żc H
 e:us.map fT=îc fT
 len:us.length<=50
theorem L6.same{P:Z3}{w:Z5}{H H':Hp}{tb:Z1}{n:Nat}{us:Ts}(h:żc H)(s:Ŀd):żc H' :=
 ⟨h.g.keeps (by obtain⟨vs,e,_⟩:=h.g;rw[s _ _ e,e]),ůc ((h.T e he).1.same s) he,h.b,h.m,h.nd⟩
theorem W6.same{P:Z3}{w:Z5}{C:Z1}{H H':Hp}{a dx d tb:Z1}{n:Nat}{ts us:Ts}(h:Ĳd)(s:Ŀd):Ż H' ts us:=⟨h.dk.same s,h.l.same s,h.e,h.len⟩
theorem W6.tlen(h:Ĳd):ts.length<=50:=by
 have:=õ h.e;rw[ZD,ZD]at this;have:=h.len;omega
theorem L6.pick{P:Z3}{w:Z5}{H:Hp}{tb:Z1}{n:Nat}{us:Ts}(h:żc H){ss:ù}(hp:ss.Perm (us.map (·.1)))(hne:us≠[])(c:Nat):∃x t prs,(x,t,prs)∈us/\atI éa (Þ c%Þ (î Ėb))=Ã (V.sT x n)/\Þ (î Ėb)≠0/\0<Þ (î Ėb):=by
 have hl:ss.length=us.length:=by rw[hp.length_eq,ZD]
 have hk:î Ėb=us.length:=by unfold kvs;rw[ZD]
 have h0:0<us.length:=Åe hne;have hm:c%us.length<ss.length:=by rw[hl];exact X9 _ h0
 have hx:=hp.mem_iff.mp (YE hm);obtain⟨⟨x,t,prs⟩,he,ex⟩:=Áb hx;have ex:x=ss[c%us.length]:=ex;refine⟨x,t,prs,he,?_,À,À⟩;rw[hk,show(Þ c%Þ us.length)=Ý (c%us.length) from(Int.natCast_emod _ _).symm,ex];exact WE (by rw[ZX,WA hm];rfl)
theorem kth6{prs:Prs}{fs:Æ Ċ}{ms:Ċ}(S:Sorted prs fs)(hp:ms.Perm Ůa)(hs:ms.Pairwise (·<=·))(k:Nat)(hk:k<ms.length):hdI (fs.getD k [])=ms.getD k 0:=by
 have e:fs.map hdI=ms:=(S.heads.1.trans hp.symm).eq_of_pairwise (le:=(·<=·)) (λa b _ _ h1 h2=>À) S.heads.2 hs;have hf:k<fs.length:=by rw[<- e,ZD]at hk;exact hk
 rw[<- e,WY,WY,ZX,WA hf];rfl
theorem Kp{lo:Int}{N:Nat}{σ0:L2.St}{H1:Hp}{tc:TT}{te:TE}{Q:VK}(Pv:Z1->Nat->Ť ĝ)(h0:∀D,Źd->Pv D 0 [] (Ŗc D))
  (hl:∀D i ys H',Źd->i<=N->Pv D i ys H'->Ľb)
  (step:∀D i ys H',Źd->i<N->Pv D i ys H'->tc źd H' λb H4 => if b=true then Þa źd (Pv D ůa Ħb Ęb)else Pv D ůa ys H4)
  (fin:∀D ys H',Źd->Pv D N ys H'->Ŕ D H'):Èa (Itr lo N) tc :=
 λD hD=>X6 (J:=Itr lo N) (n:=N) (Pv D) (h0 D hD) (λi ys H' hi p=>hl D i ys H' hD hi p) (λi ys H' hi p=>hi) (λys H' p=>ħ) (λi ys H' x H2 hi p y=>by
   obtain⟨e1,e2⟩:=y;subst e1 e2
   exact step D i ys _ hD hi p) λys H' p=>fin D ys H' hD p
noncomputable def tT6(N N':Ť L2.St):TS:=λE σ H=>N σ H/\∀σ' H',N' σ' H'->E.nx σ' H'
theorem ps6(h:PS X s t)(i:∀E σ H,t' E σ H->t E σ H):PS X s t':=λpins s' σ H D I q=>h pins s' σ H D I (i D σ H q)
section
variable {P:Z3}{w:Z5}{K:ZC}{mg:Ą}{base:Z8}{C:Z1}{cs:ãb}
noncomputable abbrev agN:ù:=["desk","tables","cell","name","table","kind","numbers","row","k","due","x","some","r","words"]
theorem sc_ag:ä agN č T5:=scm
noncomputable abbrev agX(P:Z3)(w:Z5)(K:ZC)(mg:Ą)(base:Z8)(f:Z1)(gv:Z0)(A:Z4)(ou:êb)(s:Z2)(H:Hp)(E:XK):Cx:=Çb agN "_law_asked_good" T5 gv ou
noncomputable def agS(k:Nat):Z6:=ÿ T5 k
variable {f:Z1}{gv:Z0}{A:Z4}{ou:êb}{s:Z2}{H:Hp}{E:XK}
noncomputable def Ag(H:Hp)(a tb t nb:Z1)(c:Nat)(nm:Str)(n:Nat)(kd:Str)(prs:Prs)(x:Int)(y:Str)(σ:L2.St)(H1:Hp):Prop:=∃o7 o8 o11 o12 o13:Z9 V, σ = Ňd (Ã (ĉ y)) o13/\ńa H1/\ċd H1
variable {a tb t nb:Z1}{c n:Nat}{nm kd y:Str}{prs:Prs}{x:Int}
theorem ag9(T:ûa)(hT:ľ)(hg:Ĕ)(G:ác) (hr:Îb 1 à):Þb 9 (tT6 (ŏa y) (ŏa (if kd = "find" then TU Ëb else y))):=by
 have nd:=sc_ag.nd;have nd1:(["c","r","table","x"]:ù).Nodup:=Â
 obtain⟨g,g1,g2,g3,g4⟩:=łd;have hF:Þb 9 _:=ša WH (pv 5) ZR (Ħ (Ćd 11) (ŷ (ňb (pa1 (pln T ŕc))) (YQ (i:=12) nd rfl äb) (pv 11) (Ì ["c","r","table","x"] [none,Ã 12,Ã 4,Ã 10] T5 agN (ňb (pa1 (pln T (ă 4 (pv 12))))) ň (X5 (pcm WH (pix (ixL K) (pix (ixL K) Ķa ó) Ü) Żc)) (US (â 1 Ü)))) (ZL (È 9 (pe_f G hr (ß 11)))))
 generalize agS 9=S at hF;refine ps6 hF ?_;rintro D σ H1 ⟨⟨o7,o8,o11,o12,o13,rfl,s1,eN⟩,q⟩;refine ų
 by_cases hk:kd = "find"
 ·rw[YD (r:=true) (ZS hk)];rw[ZH hk]at q;refine Ŧb (ã len0 Ĵd);have L0:ē L:=ğd hL;have nNL:nb≠L:=WX eN hL;have s2:Ĝa H H1 L []:=Ľ (snw hL);have eN2:(Ŗc L) nb=_:=snw hL _ _ eN;have eL:(Ŗc L) L=Ù (([]:Cs).map UG):=ZI;generalize Ŗc L=H2 at s2 eN2 eL ⊢;refine⟨_,Z,t,_,Z,Ė (ĉd s2),_,Z,À,by rw[ZD];omega,?_⟩;rw[ZD];refine SB (λi σ H3=>∃(zs:Cs) (o12:Z9 V),σ = đ o8 (Ã (ĉ y)) (ļ x) (Ú L) o12 o13/\ńa H3/\ċd H3/\H3 L=Ù (zs.map UG) /\ (∀z∈zs,YC H3 z/\ē z.1/\z.1≠L)/\zs.map (·.2)=UD prs x i/\zs.length<=6*i) ⟨[],o12,Z,s2,eN2,eL,λz hz=>(nomatch hz),Z,Í⟩ ?_ ?_
  ·rintro i σ H3 hi ⟨zs,o12',rfl,sm,eN3,hLl,hzs,hzm,hzl⟩;have hil:Ĵb i:=by simpa using hi
   obtain⟨p,hp1,hp2,hp3⟩:=T7 hil;have hpl:=g.len p hp1;have hR3:=(ëa sm).r p hp1;have hix:∀{H':Hp},ç H3->∃(q:Z1) (xs:ĝ) (j:Int) (v:V),Ŷ t=Ê q/\Žb (0+Þ i)=ô j/\SqL K H' q xs/\atI xs j=ôc/\v=Śb:=λsm'=>⟨t,_,_,Śb,Z,Z,ĉd (Şa sm'),by rw[Int.zero_add];exact WE (by rw[ZX,hp2];rfl),Z⟩;refine⟨_,Z,õb hLl,_,Z,_,Z,t,_,_,Śb,Z,Z,ĉd sm,by rw[Int.zero_add];exact WE (by rw[ZX,hp2];rfl),p.1,_,Z,Ė hR3.sq,_,Z,À,by rw[ZD];omega,?_⟩;rw[ZD];refine Kp (λD2 k ys H'=>∃qs:Cs,ç H3/\H' D2=Ù ys/\ys=Õb UG/\(∀z∈qs,YC H' z/\H3 z.1=none/\z.1≠D2)/\Õb (·.2)=rc i p.2 x k) (λD2 hD2=>⟨[],snw hD2,ZI,Z,λz hz=>(nomatch hz),Z⟩) (λD2 k ys H' _ _ ⟨_,_,e,_⟩=>e) ?_ ?_
   ·rintro D2 k ys H' hD2 hk' ⟨qs,sm',eD,hys,hqs,hqm⟩;have hkl:k<p.2.length:=hk';have ql:qs.length<=k:=by
     have:=õ hqm;rw[ZD]at this;rw[this];exact OP _ _ _ _
    have hRk:=(ëa (Şa sm')).r p hp1;have e0:(Þ 0+Ùe)=Ý k:=À
    refine⟨_,Z,_,Z,t,_,_,Śb,Z,Z,ĉd (Şa sm'),by rw[Int.zero_add];exact WE (by rw[ZX,hp2];rfl),_,Z,p.1,_,_,Žb (p.2.getD k 0),Z,Z,hRk.sq,?_,_,Z,Z,_,Z,?_⟩
    ·rw[e0];exact WE (by rw[ZX,WA hkl,WY,WA hkl];rfl)
    rw[GG]
    by_cases hx:p.2.getD k 0=x
    ·rw[ZS hx];refine Ŧb (Ğc _ len2 (λT3 hT3=>?_));have nT3:D2≠T3:=WX eD hT3;rw[Int.zero_add,Int.zero_add]at *;have s3T:ıb H' T3 [Ŧd,Ó k]:=snw hT3;refine⟨s3T _ _ eD,?_,qs++[(T3,i,k)],(sm'.trans s3T).upd hD2,ZI,?_,ĵd,?_⟩
     ·rw[hys,ZD];exact UB À
     ·rw[hys,W2];rfl
     ·rcases ũd hz with z1 | z1
      ·obtain⟨z1,z2,z3⟩:=hqs z z1;refine ő ?_ z2 z3;unfold YC;rw[ZP z3];exact s3T _ _ z1
      ·have:z=(T3,i,k):=by simpa using z1
       subst this;refine ő ?_ (sm'.free hT3) (ĥ nT3);unfold YC;rw[ZP (ĥ nT3)];exact ZI
     ·rw[W2,hqm,NA,ZH hx];rfl
    ·rw[ZW hx];refine ĭb ⟨qs,sm',eD,hys,hqs,?_⟩;rw[hqm,NA,ZE hx,List.append_nil]
   ·rintro D2 ys H' hD2 ⟨qs,sm',eD,hys,hqs,hqm⟩;have ql:qs.length<=p.2.length:=by
     have:=õ hqm;rw[ZD]at this;rw[this];exact OP _ _ _ _
    have hL4:=sm' _ _ hLl;refine Öe
    ·rw[ZD,hys,ZD];exact Ĭb
    ·have nL:∀z:Z1×Ġc,YC H' z->z.1≠L:=λz h=>XY h hL4 (by intro z;cases z);refine⟨zs++qs,_,Z,(Şa sm').upd L0,(ZP nNL).trans (sm' _ _ eN3),?_,ĵd,?_,?_⟩
     ·rw[ZI,hys,W2]
     ·rcases ũd hz with z1 | z1
      ·obtain⟨z1,z2,z3⟩:=hzs z z1;have z4:YC H' z:=sm' _ _ z1;refine ő ?_ z2 z3;unfold YC;rw[ZP z3];exact z4
      ·obtain⟨z1,z2,z3⟩:=hqs z z1;refine ő ?_ (sm.free z2) (nL z z1);unfold YC;rw[ZP (nL z z1)];exact z1
     ·rw[W2,hzm,hqm];unfold UD;rw[List.range_succ,List.flatMap_append];simp[hp3]
     ·rw[WK];omega
  ·rintro σ H3 ⟨zs,o12',rfl,sm,eN3,hLl,hzs,hzm,hzl⟩;have hzm:zs.map (·.2)=Ëb:=hzm;have hzl:zs.length<=6*prs.length:=hzl;have g2:ėa:=g2;refine⟨_,Z,L,zs,Z,hLl,ĵd,À,λH4 s4=>?_⟩
   ·have hm:z.2∈Ëb:=by rw[<- hzm];exact Ń z hz
    exact ã (hzs z hz).1 (up6 hg hm)
   ·rw[hzm];exact q _ _ ⟨_,_,_,_,_,Z,Şa s4,s4 _ _ eN3⟩
 ·rw[YD (r:=false) (ZW hk)];rw[ZE hk]at q;exact ĭb (q _ _ ⟨o7,o8,o11,o12,o13,Z,s1,eN⟩)
end
open PySem L2 PyProof.Rows
section
variable {P:Z3}{w:Z5}{K:ZC}{mg:Ą}{base:Z8}{C:Z1}{cs:ãb}
variable {f:Z1}{gv:Z0}{A:Z4}{ou:êb}{s:Z2}{H:Hp}{E:XK}
variable {a tb t nb:Z1}{c n:Nat}{nm kd y:Str}{prs:Prs}{x:Int}
theorem LU(h:ns.length<=36):(lessN x ns:Int).natAbs.log2<1920/\î (ĭ (lessN x ns))<=3:=by
 have h1:lessN x ns<=36:=WB (X2 _ _) h;refine ã (VM ?_) (P8 (k:=2) ?_ Ç)
 ·have:ũ 10 ^ 2<=Īd:=ŝa Ç;omega
 ·omega
theorem ag8(T:ûa)(hstr:Þc) (hg:Ĕ):Þb 8 (tT6 (λσ H1=>∃o7 o8 o11 o12 o13:Z9 V, σ = Ňd o9 o13/\ńa H1/\ċd H1) (ŏa æd)):=by
 have nd:=sc_ag.nd;have nd1:(["one","x"]:ù).Nodup:=Â
 obtain⟨g,g1,g2,g3,g4⟩:=łd;have hF:Þb 8 _:=È 9 (Ďa (pa1 (pln T (ēd "one" 10 T5 agN (pv 6) o_lt))));generalize agS 8=S at hF;refine ps6 hF ?_;rintro D σ H1 ⟨⟨o7,o8,o11,o12,o13,rfl,s1,eN⟩,q⟩;have hl:î Ůa<=36:=by
  have g2:ėa:=g2;have:=MA prs (Ļ (ú ŝb g4))
  omega
 refine Ća nb eN.sq (çd eN.sq (λD2 H2 hD2 s2 eD2=>?_))
 ·exact Űc Z _ _ Z _ Z Īc
 ·exact ža Īc
 ·refine⟨D2,_,Z,Ė (sqo eD2),_,Z,?_,?_⟩
  ·rw[ZD];exact(LU hl).1
  ·rw[ZD];exact q _ _ ⟨_,_,_,_,_,Z,Äc,űc eN⟩
theorem ag10(T:ûa)(hstr:Þc) (hT:ľ) (hg:Ĕ):Þb 10 (tT6 (ŏa y) (ŏa (if kd = "stair" then ņd else y))):=by
 have nd:=sc_ag.nd;have nd1:(["one","x"]:ù).Nodup:=Â
 obtain⟨g,g1,g2,g3,g4⟩:=łd;have hF:Þb 10 _:=ša WH (pv 5) ZR (Ħ (Ćd 13) (ňa (Y7 ŕc) (YQ (i:=7) nd rfl Ô) (ZL (Y9 (YF X3 QI QH TC (pv 13) (pa1 (Ďa (pa1 (pln T (ēd "one" 10 T5 agN (pv 7) o_lt))))))))) (ZL (È 9 (ûd (ß 13)))))
 generalize agS 10=S at hF;refine ps6 hF ?_;rintro D σ H1 ⟨⟨o7,o8,o11,o12,o13,rfl,s1,eN⟩,q⟩;refine ų
 by_cases hk:kd = "stair"
 ·rw[YD (r:=true) (ZS hk)];rw[ZH hk]at q;refine Ŧb (ã len0 Ĵd);have L0:ē L:=ğd hL;have nNL:nb≠L:=WX eN hL;have s2:Ĝa H H1 L []:=Ľ (snw hL);have eN2:ċd (Ŗc L):=snw hL _ _ eN;have eL:(Ŗc L) L=Ù ((((prs.take 0).map λp=>ĭ Ãb)).map V.str):=ZI;generalize Ŗc L=H2 at s2 eN2 eL ⊢;refine Ća t (ĉd s2) (JA (xs:=Ų Śb) (λi σ H3=>∃(o7:Z9 V),σ = Ňd (Ã (ĉ y)) (Ú L)/\ńa H3/\ċd H3/\H3 L=Ù (((prs.take i).map λp=>ĭ Ãb).map V.str)) ⟨o7,Z,s2,eN2,eL⟩ (λi σ H3 _ ⟨_,_,s3,_⟩=>ĉd s3) ?_ ?_)
  ·rintro i z σ H3 hz ⟨o7',rfl,s3,eN3,eL3⟩;rw[ZX]at hz;cases hp:prs[i]? with
   |none=>rw[hp]at hz;cases hz
   |some p =>
    rw[hp]at hz;have hz:Śb=z:=WC hz;subst hz;have hpm:=UF hp;have hi:Ĵb i:=Ăb hp;have hR:Row H3 p.1 p.2:=(ëa s3).r p hpm;have hpl:p.2.length<=36:=by rw[g.len p hpm];omega
    have g2:ėa:=g2;refine⟨_,Z,õb eL3,_,Z,p.1,Z,Ņ hR.sq,çd hR.sq (λD2 H4 hD2 s4 eD2=>?_)⟩
    ·exact Űc Z _ _ Z _ Z Īc
    ·exact ža Īc
    ·refine⟨D2,_,Z,Ė (sqo eD2),_,Z,?_,?_⟩
     ·rw[ZD];exact(LU hpl).1
     ·rw[ZD];refine⟨L,_,_,Z,Z,s4 _ _ eL3,?_,_,Z,(s3.trans s4).upd L0,(ZP nNL).trans (s4 _ _ eN3),?_⟩
      ·rw[ZD,ZD,VO];exact UB À
      ·rw[ZI,List.take_add_one,hp,W2,W2];rfl
  ·rintro σ H3 ⟨o7',rfl,s3,eN3,eL3⟩;rw[ZD,List.take_length]at eL3;refine⟨Z,_,Z,_,L,(Ų (ĭ Ãb)),Z,Z,eL3,?_,?_⟩
   ·rw[show(ć " ")=ű #[32] from YO];refine RZ (B:=3) Ĳc ?_
    ·obtain⟨p,hp,rfl⟩:=Áb hw;exact(LU (by rw[ŝb];omega)).2
    ·rw[ZD];have g2:ėa:=g2;omega
   ·have e:ņd=ŭa " " (Ų (ĭ Ãb)):=by
     unfold rowS;rw[W7];rfl
    rw[e]at q;exact q _ _ ⟨_,_,_,_,_,Z,s3,eN3⟩
 ·rw[YD (r:=false) (ZW hk)];rw[ZE hk]at q;exact ĭb (q _ _ ⟨o7,o8,o11,o12,o13,Z,s1,eN⟩)
theorem ag11(hT:ľ)(hg:Ĕ)(G:ác) (G2:Ä 1 "_law_walk" ž spWalk) (hr:Îb 1 à) (hw0:Ůb≠[]) (hwl:î Ůb<=36):Þb 11 (tT6 (ŏa y) (ŏa (if kd = "walk" then SQ Ůb else y))):=by
 have nd:=sc_ag.nd;have hF:Þb 11 _:=ša WH (pv 5) ZR (ZL (È 9 (pe_f G hr (pa1 (Ýa G2 hr ŕc 10)))));generalize agS 11=S at hF;refine ps6 hF ?_;rintro D σ H1 ⟨⟨o7,o8,o11,o12,o13,rfl,s1,eN⟩,q⟩;refine ų
 by_cases hk:kd = "walk"
 ·rw[YD (r:=true) (ZS hk)];rw[ZH hk]at q;refine Ŧb (Űc Z t prs x (ëa s1) hg (λL zs H2 hL s2 eL hzs hzm=>⟨L,zs,Z,eL,ĵd,?_,λH3 s3=>?_⟩))
  ·have hm:z.2∈Ůb:=by rw[<- hzm];exact Ń z hz
   exact ã (hzs z hz).1 (GL hg hm)
  ·rw[<- hzm,ZD]at hwl;exact hwl
  ·rw[hzm,show TU Ůb=SQ Ůb from ZE hw0];exact q _ _ ⟨_,_,_,_,_,Z,(Äc).trans s3,øe (űc eN)⟩
 ·rw[YD (r:=false) (ZW hk)];rw[ZE hk]at q;exact ĭb (q _ _ ⟨o7,o8,o11,o12,o13,Z,s1,eN⟩)
theorem Om{f:Str}(hf:f∈Ř) {R:Str->Prop} (h:R (if f = "walk" then SQ Ůb else if f = "stair" then ņd else if f = "find" then TU Ëb else æd)):AnsOk prs f x R:=by
 have n1:ć "stair" ≠ "find" /\ žb "walk" (žb "below" (ć "below" ≠ "walk")) := Â
 obtain⟨a1,a2,a3,a4,a5,a6⟩:=n1;simp only[W9,YH,or_false]at hf;unfold AnsOk;rcases hf with rfl | rfl | rfl | rfl
 ·rw[ŧb];rw[ZE (ĥ a2),ZE (ĥ a1),ŧb]at h;exact h
 ·rw[ZE a1,ŧb];rw[ZE (ĥ a3),ŧb]at h;exact h
 ·rw[ZE a2,ZE a3,ŧb];rw[ŧb]at h;exact h
 ·rw[ZE a4,ZE a5,ZE a6,ŧb];rw[ZE a6,ZE a5,ZE a4]at h;exact h
theorem On{ps qs:Prs}(h:Õb (·.2)=ps.map (·.2)){f:Str}(hf:f∈Ř) {R:Str->Prop} (q:AnsOk ps f x R):AnsOk qs f x R:=by
 have e1:UD qs x qs.length=UD ps x ps.length:=by
  unfold UD;rw[SV h]
  congr 1
  funext i
  rw[Zh h]
 have e2:(Õb (λp=>Þ Ãb))=ps.map λp=>Þ Ãb:=by
  have:=ęb (List.map λr=>Þ (lessN x r)) h;rw[W7,W7]at this;exact this
 have e3:WJ qs=WJ ps:=by
  unfold WJ;rw[h]
 have n1:žb "below" (ć "below" ≠ "walk") := Â
 unfold AnsOk at q ⊢;rw[e1,e2,e3,Fw h]
 by_cases c1:f = "find"
 ·rw[ZH c1]at q ⊢;exact q
 ·rw[ZE c1]at q ⊢
  by_cases c2:f = "stair"
  ·rw[ZH c2]at q ⊢;exact q
  ·rw[ZE c2]at q ⊢
   by_cases c3:f = "walk"
   ·rw[ZH c3]at q ⊢;exact q
   ·rw[ZE c3]at q ⊢;have c4:f = "below" := by
     simp only[W9,YH,or_false]at hf;rcases hf with z | z | z | z
     ·exact ń z c1
     ·exact ń z c2
     ·exact ń z c3
     ·exact z
    rw[ZH c4]at q ⊢;exact q
end
open PySem L2 PyProof.Rows
theorem UZ:VR X ďc:=λ_ _ _ _ _ _ _ _ _ _ h=>h.elim
theorem D0(hg:Ĕ)(x:Int):Ůb≠[]/\î Ůb<=36:=by
 obtain⟨g,g1,g2,g3,g4⟩:=łd;have g2:ėa:=g2;have wl:î Ůb<=prs.length+ĺ:=MO prs x _ _ _;refine Ąd ?_;unfold UA;obtain⟨f,hf⟩:∃f,prs.length+ĺ=f+1:=Ąd (prs.length+ĺ-1);rw[hf];unfold UQ;rw[ZH (Ąd À)];split<;>simp
noncomputable def six:ù:=["find","stair","walk","below","nth","show"]
theorem Iv(h:f∈six):f∈Ř\/f = "nth" \/ f = "show" := by
 simp only[six,W9,YH,or_false]at h ⊢;rcases h with h | h | h | h | h | h
 ·exact Ė (Ė h)
 ·exact Ė (Ŀ (Ė h))
 ·exact Ė (Ŀ (Ŀ (Ė h)))
 ·exact Ė (Ŀ (Ŀ (Ŀ h)))
 ·exact Ŀ (Ė h)
 ·exact Ŀ (Ŀ h)
theorem Ri:∀f∈Ř,f ≠ "nth" /\ f ≠ "show" /\ f∈Žc/\f.length<=5:=Â
theorem UN(x y:Str):ñ (x++y)=x.cps.toList++y.cps.toList:=by
 show(x.cps++y.cps).toList=_;rw[Array.toList_append]
theorem QX:ąa " "=[32]:=Â
theorem Rz(m:Nat):∃z,atI [Žb u,ô v] (Þ m%2)=Ã (Žb z)/\(z=u\/z=v):=by
 rcases(show m%2=0\/m%2=1 by omega)with h | h
 ·exact ő u (ú (show(Þ m%2)=Ý 0 by omega) (WE rfl)) ĭa
 ·exact ő v (ú (show(Þ m%2)=Ý 1 by omega) (WE rfl)) ôe
section
variable {P:Z3}{w:Z5}{K:ZC}{mg:Ą}{base:Z8}{C:Z1}{cs:ãb}
variable {f:Z1}{gv:Z0}{A:Z4}{ou:êb}{s:Z2}{H:Hp}{E:XK}
variable {a dx d tb t nb:Z1}{c n:Nat}{nm kd y:Str}{prs:Prs}{x:Int}{ts us:Ts}
theorem ag12(hstr:Þc) (W:Ĳd) (hm:(nm,t,prs)∈us) (G:Ů) (hr:Îb 39 à) (hk:kd∈Ř) (h1:-999999999<=x) (h2:x<=999999999)
  (hy:AnsOk prs kd x λz=>z=y):Þb 12 (λD σ H1=>Ag H a tb t nb c nm n kd prs x y σ H1/\∀H',Ŀd->Úc):=by
 have fx:=Ri kd hk;have hnm:=W.l.m _ hm;have hnf:=VX hnm;have hxl:=QW h1 h2;have hF:Þb 12 _:=ZU (Æe (X7 ąc) (ďb (ZN UC (pv 5) ZR) (pvw 3) (Ďa (ß 10))) (WN (ýa U9 9)));generalize agS 12=S at hF;refine ps6 hF ?_;rintro D σ H1 ⟨⟨o7,o8,o11,o12,o13,rfl,s1,eN⟩,q⟩;have ls:āb " "=1:=Â
 have hlog:x.natAbs.log2<1920:=VM (by have:ũ 10 ^ 10<=Īd:=ŝa Ç;omega);have W1:=W.same s1;obtain⟨t',prs',hm',hr'⟩:=PM W.e hm;have hnf:32∉nm.cps.toList/\1<=nm.length/\nm.length<=8:=hnf;have hxl:î (űa x)<=10:=hxl;refine⟨_,Z,_,Z,_,_,Z,Z,Ĭb,nm,ã n Z,_,_,Z,Z,sl6 (by rw[YY];omega),_,_,Z,Z,sl6 (by rw[YY,YY];omega),_,Z,x,Z,hlog,_,_,Z,Z,sl6 (by rw[YY,YY,YY];omega),?_⟩;refine FF W1.dk hm' (P4 hk hnm h1 h2 ?_) fx.2.2.1 (WB (QW h1 h2) Ç) (On hr' hk (hy.mono λz hz F H2 hF s2 e2=>?_))
 ·rw[UN,UN,UN,UN,QX,List.append_assoc,List.append_assoc,List.append_assoc];rfl
 ·subst hz;refine Óe len2 (Ļ ⟨F,p,false,z,Z,Z,snw hp _ _ e2,ZI,q _ ((Äc).trans (snw hp))⟩)
end
open PySem L2 PyProof.Rows
section
variable {P:Z3}{w:Z5}{K:ZC}{mg:Ą}{base:Z8}{C:Z1}{cs:ãb}
variable {f:Z1}{gv:Z0}{A:Z4}{ou:êb}{s:Z2}{H:Hp}{E:XK}
variable {a dx d tb t nb:Z1}{c n:Nat}{nm kd y:Str}{prs:Prs}{x:Int}{ts us:Ts}
noncomputable def Ah(H:Hp)(a tb t nb:Z1)(c:Nat)(nm:Str)(n:Nat)(kd:Str)(prs:Prs)(σ:L2.St)(H1:Hp):Prop:=∃o7:Z9 V, σ = üd none/\ńa H1/\ċd H1
theorem ag6(T:ûa)(hso:ěb) (hstr:Þc) (W:Ĳd) (hm:(nm,t,prs)∈us) (G:Ů) (hr:Îb 39 à) :
  Þb 6 (λD σ H1=>Ÿa σ H1/\if kd = "nth" then ∀H',Ŀd->Úc else ∀σ' H',Ÿa σ' H'->D.nx σ' H'):=by
 have nd:=sc_ag.nd;obtain⟨hT,hg⟩:=W.l.T _ hm;have hT:ľ:=hT;have hg:Ĕ:=hg;have hbd:∀q∈prs,Bd50 q.2:=W.l.b _ hm;have hnm:Y2 nm.cps.toList=true:=W.l.m _ hm;have hnf:=VX hnm;obtain⟨g,g1,g2,g3,g4⟩:=łd;have hfl:î Ůa=Ĳa:=BT g.len;have h36:Ĳa<=6*6:=Nat.mul_le_mul g2 g4;have hpos:0<Ĳa:=Nat.mul_pos g1 g3;have hF:Þb 6 _:=ša WH (pv 5) ZR (Ħ (È 8 (Ħc 2 (Èe (WN (į (ZN U7 (pln T (pv 6)) ZB) ZB)) (Ħc 2 ZB)))) (Ģe 9 ZR) (ĉc (ša o_lt (pv 8) (pln T (pv 6)) (ZL (Ģe 9 (Ďa (pa1 (Èe (ßb IT (ß 6)) (pv 8))))))) (Æe (X7 ąc) (ďb ZR (pvw 3) (Ďa (ß 8))) (pv 9))))
 generalize agS 6=S at hF;refine ps6 hF ?_;rintro D σ H1 ⟨⟨o7,rfl,s1,eN⟩,q⟩;refine ų
 by_cases hk:kd = "nth"
 ·rw[YD (r:=true) (ZS hk)];rw[ZH hk]at q;refine Ŧb ⟨_,Z,_,_,Z,Z,by constructor<;>decide,_,Z,nb,_,Z,Ė eN.sq,_,_,Z,Z,len2,λl hl=>?_⟩;rw[ZD,hfl];have s2:=snw (o:=.lst [Žb (Ý Ĳa+2),ô 100]) hl;have e2:(Ï H1 l [Žb (Ý Ĳa+2),ô 100]) l=_:=ZI;generalize Ï H1 l [Žb (Ý Ĳa+2),ô 100]=H2 at s2 e2 ⊢;obtain⟨z,a1,hz⟩:=Rz (u:=Ý Ĳa+2) (v:=100) (c/12000);have hz0:0<z/\z<=100:=by rcases hz with rfl | rfl<;>omega
  obtain⟨k,ek⟩:∃k:Nat,(Þ c/120)%z=Ùe:=Ņ (Int.toNat_of_nonneg (Int.emod_nonneg _ À)).symm;have hk100:k<100:=by
   have:=O3 (Þ c/120) hz0.1;omega
  refine⟨_,Z,_,_,Z,Z,by constructor<;>decide,_,_,Z,Z,Ç,l,_,_,Žb z,Z,Z,sqo e2,ú (show(Þ c/12000)=Ý (c/12000) by omega) a1,_,_,Z,Z,hz0.1,?_⟩;rw[ek];refine ã len2 (λdu hdu=>?_);have s3:=snw (o:=.lst [V.bl true,ĉ "place"]) hdu;have e3:(Ï H2 du [V.bl true,ĉ "place"]) du=_:=ZI;generalize Ï H2 du [V.bl true,ĉ "place"]=H3 at s3 e3 ⊢;have s13:=(Äc).trans s3;have eN3:ċd H3:=øe (űc eN);have ls:āb " "=1:=Â
  have ln:āb "nth "=4:=Â
  have hkl:î (űa (Ý k))<=3:=VU hk100;have hlk:(ũ k:Int).natAbs.log2<1920:=VM (by have:ũ 10 ^ 10<=Īd:=ŝa Ç;omega);obtain⟨t',prs',hm',hr'⟩:=PM W.e hm;have hl':prs'.length=prs.length:=SV hr';have hw':w0 prs'=ĺ:=PF hr';have fin:∀(du2:Z1) (b:Bool) (y2:Str) (H4:Hp),Same H3 H4->H4 du2=Ù [V.bl b,ĉ y2]->(∀(x:Str) (Q:VK),RowW x [ć "nth",nm,ĭ k]->(∀F H',H4 F=none->Àa H4 F [.bl b,ĉ y2])->spSd C cs [œ,íd] H4 Q λcls _ H'=>False) -> tRet (tOp (λu v H Q=>∃a c b x,u=œ/\v=Ê c/\H a=Ù [.bl b,íd]/\H c=Ù [.bl b,íd]/\Q Ĩ H) (tFx (spSd C cs) ďc (TH (tVar 0) (TH (tOp (Äb (∃i j,x=ĉ i/\y=ĉ j/\Ŧc/\Q (ĉ (i++j)) H)) (tOp (Äb (∃i j,x=ĉ i/\y=ĉ j/\Ŧc/\Q (ĉ (i++j)) H)) (tOp (Äb (∃i j,x=ĉ i/\y=ĉ j/\Ŧc/\Q (ĉ (i++j)) H)) (tC (ĉ "nth ")) (GI 3)) (tC (ĉ " "))) (tCB GM (TH (tVar 8) tNil))) tNil))) (tVar 9)) D (đ (Ğe k) (Ú du2) none none none none) H4:=by
   intro du2 b y2 H4 s4 e4 hsd;refine⟨_,Z,nm,ã n Z,_,_,Z,Z,Ĭb,_,_,Z,Z,sl6 (by rw[YY];omega),_,Z,_,Z,hlk,_,_,Z,Z,sl6 (by rw[YY,YY];omega),?_⟩;refine hsd _ _ (FC hnm hk100 ?_) λF H5 hF s5 e5=>⟨_,Z,F,du2,b,y2,Z,Z,e5,s5 _ _ e4,q _ ((s13.trans s4).trans s5)⟩;rw[UN,UN,UN,QX,List.append_assoc,List.append_assoc,show ąa "nth "=Ãd "nth" by decide +kernel,List.append_assoc];rfl
  refine íc nb eN3.sq;rw[ZD,hfl]
  by_cases hlt:k<Ĳa
  ·rw[ZS (show Ý k<Ý Ĳa by omega)];refine Ŧb (Řc nb Ůa eN3.sq À (λD2 ms hD2 hp hs=>⟨_,Z,D2,_,_,Žb (ms.getD k 0),Z,Z,sqo ZI,?_,_,Z,?_,len2,λdu2 hdu2=>?_⟩))
   ·have hl2:k<ms.length:=by rw[hp.length_eq,hfl];exact hlt
    exact WE (by rw[ZX,WA hl2,WY,WA hl2];rfl)
   ·have hl2:k<ms.length:=by rw[hp.length_eq,hfl];exact hlt
    have hmem:ms.getD k 0∈Ůa:=by
     rw[WY,WA hl2];exact hp.mem_iff.mp (YE hl2)
    unfold WJ at hmem;obtain⟨r,hr1,hr2⟩:=List.mem_flatten.mp hmem;obtain⟨q0,hq0,rfl⟩:=Áb hr1;exact VM (hbd q0 hq0 _ hr2)
   ·have hl2:k<ms.length:=by rw[hp.length_eq,hfl];exact hlt
    refine fin du2 false (ZM (ms.getD k 0)) _ ((snw hD2).trans (snw hdu2)) ZI λx Q hx hq=>?_;refine FF ((W.same (s13.trans ((snw hD2).trans (snw hdu2)))).dk) hm' hx Í (WB (VU hk100) Ç) ?_;have nn:žb "nth" (ć "nth" ≠ "walk" /\ ć "nth" ≠ "below") := Â
    unfold AnsOk;rw[ZE nn.1,ZE nn.2.1,ZE nn.2.2.1,ZE nn.2.2.2];refine⟨k,Z,by rw[hl',hw'];exact hlt,λfs hfs=>?_⟩;have S:=hfs.rows hr';rw[kth6 S hp hs k hl2];have hmem:ms.getD k 0∈Ůa:=by
     rw[WY,WA hl2];exact hp.mem_iff.mp (YE hl2)
    unfold WJ at hmem;obtain⟨r,hr1,hr2⟩:=List.mem_flatten.mp hmem;obtain⟨q0,hq0,rfl⟩:=Áb hr1;exact ã (VM (hbd q0 hq0 _ hr2)) hq
  ·rw[ZW (show ¬Ý k<Ý Ĳa by omega)];refine ĭb (fin du true "place" H3 ŵ e3 λx Q hx hq=>?_);exact RY (j:=3) (W.same s13).dk.ob rfl Ç (Gu (W.same s13).dk hm' hx (WB (VU hk100) Ç) (by rw[hl',hw'];omega)) hq
 ·rw[YD (r:=false) (ZW hk)];rw[ZE hk]at q;exact ĭb (q _ _ ⟨o7,Z,s1,eN⟩)
theorem ag5(W:Ĳd)(hm:(nm,t,prs)∈us)(G:Ů) (G2:Ŋ) (hr:Îb 39 à) :
  PN à (agS 5) (λD n0 σ H1=>Ÿa σ H1/\if kd = "show" then ∀m H',n0<=m->Ŀd->D.rt m Ĩ H' else ∀σ' H',Ÿa σ' H'->D.nx n0 σ' H'):=by
 have nd:=sc_ag.nd;obtain⟨hT,hg⟩:=W.l.T _ hm;have hT:ľ:=hT;have hg:Ĕ:=hg;have hbd:∀q∈prs,Bd50 q.2:=W.l.b _ hm;have hnm:Y2 nm.cps.toList=true:=W.l.m _ hm;have hnf:=VX hnm;have hr2:Îb 2 à:=Ĩd;have hF:PN à (agS 5) _:=SL (pcm WH (pv 5) ZR) (UR (ON (KH (X7 ąc) (T0 G.toN hr UZ (V8 (UI Ü) (V8 (QZ UC KE (UI (pvw 3))) SZ))) (D6 (V8 (UI U9) (V8 (T0 G2.toN hr2 UZ (SO (ß 4))) SZ))) (U0 _)))) KJ;generalize agS 5=S at hF;intro pins s' σ H1 n0 D hn I h;refine hF pins s' σ H1 n0 D hn I ?_;obtain⟨⟨o7,rfl,s1,eN⟩,q⟩:=h;refine ų
 by_cases hk:kd = "show"
 ·rw[YD (r:=true) (ZS hk)];rw[ZH hk]at q;have ls:āb "show "=5:=Â
  obtain⟨t',prs',hm',hr'⟩:=PM W.e hm;refine Ŧb (ža (λm hm1 hnm1=>⟨nm,ã n Z,_,_,Z,Z,Ĭb,?_⟩));refine Qj (W.same s1).dk hm' (OA Í hnm ?_) (λq0 hq0=>?_) λF H2 hF2 s2 e2=>?_
  ·rw[UN,show ąa "show "=Ãd "show" by decide +kernel,List.append_assoc];rfl
  ·have:q0.2∈ð:=by rw[<- hr'];exact Ń q0 hq0
   obtain⟨q1,hq1,e⟩:=Áb this;have e:q1.2=q0.2:=e;rw[<- e];exact hbd q1 hq1
  ·refine⟨_,Z,hm1,t,prs,Z,(ëa s1).same s2,hg,hbd,λH3 s3=>ã len2 (Ļ ⟨F,p,false,Ñd,Z,Z,?_,ZI,q m _ hnm1 (((Äc).trans s3).trans (snw hp))⟩)⟩;have e3:=snw (o:=.lst [öa,ĉ Ñd]) hp _ _ (øe e2);have ee:shS prs'=Ñd:=by unfold shS;rw[hr']
   rw[ee]at e3;exact e3
 ·rw[YD (r:=false) (ZW hk)];rw[ZE hk]at q;exact ĭb (q _ _ ⟨o7,Z,s1,eN⟩)
end
open PySem L2 PyProof.Rows
section
variable {P:Z3}{w:Z5}{K:ZC}{mg:Ą}{base:Z8}{C:Z1}{cs:ãb}
inductive spAG(P:Z3)(w:Z5)(C:Z1)(n0:Nat)(vs:ĝ)(H:Hp)(Q:VN)(z4_:XK):Prop
 |mk (a dx d tb:Z1) (n:Nat) (ts us:Ts) (c:Nat) (h0:vs=[œ,Ê tb,Ó c]) (h1:Ĳd) (h2:us≠[]) (h3:∀m H',n0<=m->Ŀd->Q m Ĩ H')
theorem Iy{prs:Prs}{i:Nat}{p:Z1×Ċ}(h:prs[i]?=Ã p):WJ (prs.take ůa)=WJ (prs.take i)++p.2:=by
 unfold WJ;rw[List.take_add_one,h,W2,List.flatten_append];simp
theorem Jg(T:ûa)(hso:ěb) (hstr:Þc) (D:é "_law_asked_good" T5 č) (G:Ů) (G2:Ŋ)
  (G3:ác) (G4:Ä 1 "_law_walk" ž spWalk) (G5:Ŏc):àa:=by
 refine éb sc_ag
 ·obtain⟨a,dx,d,tb,n,ts,us,c,rfl,_⟩:=h;rfl
 ·obtain⟨a,dx,d,tb,n,ts,us,c,rfl,W,hne,q⟩:=h;have nd:=sc_ag.nd;have hr1:Îb 1 à:=Ĩd;have B0:Þb 0 _:=È 3 (Èe (ßb (MP rfl) éc) (ZN WS Ķa (àc BM éc)));have B1:Þb 1 _:=ZV (i:=4) nd rfl äb (N6 ó (pvw 3) Ÿ);have B2:Þb 2 _:=È 5 (Èe (ũb ZR (ZF ZR (ZF ZR (į ZR ZR)))) (Ħc 2 ZB));have B3:Þb 3 _:=Ćd 6;have B4:Þb 4 _:=ňa (Y7 ŕc) (YQ (i:=7) nd rfl Ô) (ZL (È 6 (ZN SN (pv 6) (pv 7))));have B7:Þb 7 _:=ZV (i:=10) nd rfl äb (pe_f G5 hr1 (â 4 (ċa YM 2)));have A5:=λ(nm kd:Str) (t nb:Z1) (prs:Prs) (hm:(nm,t,prs)∈us)=>ag5 (E:=E) (f:=f) (gv:=gv) (A:=A) (ou:=ou) (s:=s) (nb:=nb) (c:=c) (kd:=kd) W hm G G2 hr;have A6:=λ(nm kd:Str) (t nb:Z1) (prs:Prs) (hm:(nm,t,prs)∈us)=>ag6 (E:=E) (f:=f) (gv:=gv) (A:=A) (ou:=ou) (s:=s) (nb:=nb) (c:=c) (kd:=kd) T hso hstr W hm G hr;have A8:=λ(nm kd:Str) (t nb:Z1) (prs:Prs) (x:Int) (o9:Z9 V) (hg:tabB prs=true)=>ag8 (P:=P) (w:=w) (K:=K) (base:=base) (E:=E) (f:=f) (gv:=gv) (A:=A) (ou:=ou) (s:=s) (H:=H) (a:=a) (tb:=tb) (t:=t) (nb:=nb) (c:=c) (n:=n) (nm:=nm) (kd:=kd) (x:=x) (o9:=o9) T hstr hg;have A9:=λ(nm kd y:Str) (t nb:Z1) (prs:Prs) (x:Int) (hT:Tab H t prs) (hg:tabB prs=true)=>ag9 (E:=E) (f:=f) (gv:=gv) (A:=A) (ou:=ou) (s:=s) (a:=a) (tb:=tb) (nb:=nb) (c:=c) (n:=n) (nm:=nm) (kd:=kd) (y:=y) (x:=x) T hT hg G3 hr1;have A10:=λ(nm kd y:Str) (t nb:Z1) (prs:Prs) (x:Int) (hT:Tab H t prs) (hg:tabB prs=true)=>ag10 (P:=P) (w:=w) (K:=K) (base:=base) (E:=E) (f:=f) (gv:=gv) (A:=A) (ou:=ou) (s:=s) (a:=a) (tb:=tb) (nb:=nb) (c:=c) (n:=n) (nm:=nm) (kd:=kd) (y:=y) (x:=x) T hstr hT hg;have A11:=λ(nm kd y:Str) (t nb:Z1) (prs:Prs) (x:Int) (hT:Tab H t prs) (hg:tabB prs=true)=>ag11 (E:=E) (f:=f) (gv:=gv) (A:=A) (ou:=ou) (s:=s) (a:=a) (tb:=tb) (nb:=nb) (c:=c) (n:=n) (nm:=nm) (kd:=kd) (y:=y) (x:=x) hT hg G3 G4 hr1 (D0 hg x).1 (D0 hg x).2;have A12:=λ(nm kd y:Str) (t nb:Z1) (prs:Prs) (x:Int) (hm:(nm,t,prs)∈us)=>ag12 (E:=E) (f:=f) (gv:=gv) (A:=A) (ou:=ou) (s:=s) (nb:=nb) (c:=c) (kd:=kd) (y:=y) (x:=x) hstr W hm G hr;have eB:WI T5=[agS 0,agS 1,agS 2,agS 3,agS 4,agS 5,agS 6,agS 7,agS 8,agS 9,agS 10,agS 11,agS 12]:=by kernel_rfl
  rw[eB];clear eB;generalize agS 0=S0 at B0 ⊢;generalize agS 1=S1 at B1 ⊢;generalize agS 2=S2 at B2 ⊢;generalize agS 3=S3 at B3 ⊢;generalize agS 4=S4 at B4 ⊢;generalize agS 5=S5 at A5 ⊢;generalize agS 6=S6 at A6 ⊢;generalize agS 7=S7 at B7 ⊢;generalize agS 8=S8 at A8 ⊢;generalize agS 9=S9 at A9 ⊢;generalize agS 10=S10 at A10 ⊢;generalize agS 11=S11 at A11 ⊢;generalize agS 12=S12 at A12 ⊢;have R:PNs à [S5,S6,S7,S8,S9,S10,S11,S12] (λD n1 σ H1=>∃(nm kd:Str) (t nb:Z1) (prs:Prs),(nm,t,prs)∈us/\kd∈six/\Ÿa σ H1/\∀m H',n1<=m->Ŀd->D.rt m Ĩ H'):=by
   intro pins s' σ H1 n1 D hn I h;obtain⟨nm,kd,t,nb,prs,hm,hk,hA,q⟩:=h;obtain⟨hT,hg⟩:=W.l.T _ hm;have hT:ľ:=hT;have hg:Ĕ:=hg;have R6:PSs à [S6,S7,S8,S9,S10,S11,S12] (λD σ H1=>kd ≠ "show" /\ Ÿa σ H1/\∀H',Ŀd->Úc):=by
    have R7:kd∈Ř->PSs à [S7,S8,S9,S10,S11,S12] (λD σ H1=>Ÿa σ H1/\∀H',Ŀd->Úc):=by
     intro hk4;have R8:∀x:Int,-999999999<=x->x<=999999999->PSs à [S8,S9,S10,S11,S12] (λD σ H1=>(∃o7 o8 o11 o12 o13:Z9 V, σ = Ňd none o13/\ńa H1/\ċd H1)/\∀H',Ŀd->Úc):=by
      intro x h1 h2 pins s' σ H1 D I h;refine ZG (A8 nm kd t nb prs x none hg) (Ħ (A9 nm kd æd t nb prs x hT hg) (A10 nm kd (if kd = "find" then TU Ëb else æd) t nb prs x hT hg) (ZG (A11 nm kd (if kd = "stair" then ņd else if kd = "find" then TU Ëb else æd) t nb prs x hT hg) (ZL (A12 nm kd _ t nb prs x hm hk4 h1 h2 (Om hk4 rfl))))) pins s' σ H1 D I ?_;exact ã h.1 (λσ2 H2 h2=>ã h2 (λσ3 H3 h3=>ã h3 (λσ4 H4 h4=>ã h4 (λσ5 H5 h5=>ã h5 h.2))))
     intro pins s' σ H1 D I h;obtain⟨⟨o7,rfl,s1,eN⟩,q⟩:=h;have B7':PS à S7 (λD σ H1=>σ = üd none/\ńa H1/\ċd H1/\∀x H2,-999999999<=x->x<=999999999->ńa H2->ċd H2->D.nx (üd (ļ x)) H2):=by
      refine ps6 B7 ?_;rintro D σ H1 ⟨rfl,s1,eN,q⟩;refine⟨_,Z,_,Z,_,_,Z,Z,by constructor<;>decide,t,prs,c/120,by rw[show(Þ c/120)=Ý (c/120) by omega],ëa s1,hg,λx H2 h1 h2 s2=>q x H2 h1 h2 Äc (űc eN)⟩
     refine wpAny_execs_cons (thn (B7' pins s' _ H1 { nx:=λσ2 H2=>∃x:Int,-999999999<=x/\x<=999999999/\(∃o7 o8 o11 o12 o13:Z9 V, σ2=Ňd none o13/\ńa H2/\ċd H2),rt:=Õa } I ⟨Z,s1,eN,λx H2 h1 h2 s2 e2=>⟨x,h1,h2,_,_,_,_,_,Z,s2,e2⟩⟩) λfl s2 q2=>?_)
     cases fl with
     |next =>
      obtain⟨σ2,H2,I2,x,h1,h2,h3⟩:=q2;exact R8 x h1 h2 pins s2 σ2 H2 D I2 (ã h3 q)
     |ret v=>obtain⟨_,_,_,_,_,z⟩:=q2;exact Ő z
     |brk=>obtain⟨_,_,_,z⟩:=q2;exact Ő z
     |cont=>obtain⟨_,_,_,z⟩:=q2;exact Ő z
    intro pins s' σ H1 D I h;obtain⟨hns,hA,q⟩:=h
    by_cases hkn:kd = "nth"
    ·refine ZG (A6 nm kd t nb prs hm) (u:=FK) WG pins s' σ H1 D I (ųb hA);rw[ZH hkn];exact q
    ·have hk4:kd∈Ř:=by
      rcases Iv hk with z | z | z
      ·exact z
      ·exact ń z hkn
      ·exact ń z hns
     refine ZG (A6 nm kd t nb prs hm) (R7 hk4) pins s' σ H1 D I (ųb hA);rw[ZE hkn];exact λσ2 H2 h2=>ã h2 q
   by_cases hks:kd = "show"
   ·refine Y1 (A5 nm kd t nb prs hm) (u:=λ_ _ _ _=>False) (λ_ _ _ _ _ _ _ _ z=>z.elim) pins s' σ H1 n1 D hn I (ųb hA);rw[ZH hks];exact q
   ·refine Y1 (A5 nm kd t nb prs hm) (FA R6) pins s' σ H1 n1 D hn I (ųb hA);rw[ZE hks];exact λσ2 H2 h2=>ő hks h2 (λH' s'=>q n1 H' ħ s')
  clear A5 A6 A8 A9 A10 A11 A12 B7;refine ë (įa B0 B1 (įa B2 B3 (Y1 (YG B4) R)));clear B0 B1 B2 B3 B4 R;have hlu:((Ėb).map (·.1))=(us.map (·.1)).map Sum.inr:=QC us;have hl50:=W.len;refine ĩd (·.1) W.l.g hlu (by rw[ZD];omega);have s1:Ĝa H H L éa:=snw hL;have e1:(Ï H L éa) L=_:=ZI;generalize Ï H L éa=H1 at s1 e1 ⊢;obtain⟨nm,t,prs,hm,hat,hn0,hpos⟩:=W.l.pick hp hne c;refine åd;refine⟨_,Z,nm,ã n Z,tb,n,nm,Ėb,Ê t,Z,Z,(W.l.same s1).g,VW W.l.nd hm,?_⟩;obtain⟨hT,hg⟩:=W.l.T _ hm;have hT:ľ:=hT;have hg:Ĕ:=hg;obtain⟨g,g1,g2,g3,g4⟩:=łd;refine ã (sl6 Ç) (λL2 hL2=>?_);have s2:Ĝa H1 H1 L2 (six.map V.str):=snw hL2;have e2:(Ï H1 L2 (six.map V.str)) L2=Ù (six.map V.str):=ZI;have s2':Ĝa H1 H1 L2 üb:=s2;have e2':(Ï H1 L2 üb) L2=Ù (six.map V.str):=e2;clear s2 e2;generalize Ï H1 L2 üb=H2 at s2' e2' ⊢;obtain⟨kd,hkd,hak⟩:∃kd,kd∈six/\atI (six.map V.str) ((Þ c/20)%6)=Ã (Æd kd):=by
   have h6:(c/20)%6<six.length:=X9 _ Ç;refine ő (six[(c/20)%6]) (YE h6) ?_;rw[show((Þ c/20)%6)=Ý ((c/20)%6) by omega];exact WE (by rw[ZX,WA h6];rfl)
  refine⟨_,Z,_,_,Z,Z,by constructor<;>decide,_,_,Z,Z,Ç,L2,_,_,_,Z,Z,sqo e2',hak,len0,λN0 hN0=>?_⟩;have s3:=snw (o:=.lst []) hN0;have e3:(Ï H2 N0 []) N0=Ù ((WJ (prs.take 0)).map V.int):=ZI;generalize Ï H2 N0 []=H3 at s3 e3 ⊢;have s13:=(Ľ s2').trans s3;refine Ća t (ĉd s13) (JA (xs:=Ų Śb) (λi σ H4=>∃(o7:Z9 V) (nb:Z1),σ = üd none/\ńa H4/\H4 nb=Ù ((WJ (prs.take i)).map V.int)) ⟨none,N0,Z,s13,e3⟩ (λi σ H4 _ ⟨_,_,_,s4,_⟩=>ĉd s4) (λi x σ H4 hx ⟨o7,nb,es,s4,en⟩=>?_) (λσ H4 ⟨o7,nb,es,s4,en⟩=>?_))
  ·subst es;rw[ZX]at hx;cases hp:prs[i]? with
   |none=>rw[hp]at hx;cases hx
   |some p =>
    rw[hp]at hx;have hx:Śb=x:=WC hx;subst hx;have hpm:=UF hp;have hi:Ĵb i:=Ăb hp;have hR:H4 p.1=Ù (p.2.map V.int):=(ëa s4).r p hpm;have hl:=g.len p hpm;have g2:ėa:=g2;have hfl:î (WJ (prs.take i))<=36:=by
     have:=MA (prs.take i) (Ļ (ú (g.len p (List.mem_of_mem_take hp)) g4))
     rw[VO]at this;omega
    refine⟨_,Z,_,Z,nb,p.1,_,_,Z,Z,en,hR,sl6 (by rw[ZD,ZD];omega),λm hm=>şc m Z (s4.trans (snw hm)) (by rw[ZI,Iy hp,W2])⟩
  ·subst es;rw[ZD,List.take_length]at en;exact⟨nm,kd,t,nb,prs,hm,hkd,⟨o7,Z,s4,en⟩,λm H' hm s'=>q m H' hm s'⟩
end
open PySem L2 PyProof.Rows
theorem BR:∀a b:Ċ,PyData.eqvAll (a.map PyData.int) (b.map PyData.int)=è (a=b)
 | [],[]=>by simp[PyData.eqvAll]
 | [],b::bs=>by simp[PyData.eqvAll]
 |a::as,[]=>by simp[PyData.eqvAll]
 |a::as,b::bs=>by
  rw[Y8,Y8];simp only[PyData.eqvAll,PyData.eqv,BR as bs];rw[Bool.eq_iff_iff];simp
theorem BG(a b:Ċ):PyData.eqv (dRow a) (dRow b)=è (a=b):=by
 unfold dRow;simp only[PyData.eqv];exact BR a b
theorem nf_pair:nfB ns=true ↔ ns.Pairwise (·<=·):=by
 rw[nfB_iff];constructor
 ·intro h;rw[List.pairwise_iff_getElem];have key:∀d i,ďe (i+d)->Ģa i<=Ģa (i+d):=by
   intro d
   induction d with
   |zero=>intro i _;exact Int.le_refl _
   |succ d ih =>
    intro i hi;have a:=ih i À;have b:=h (i+d) À;have:Ģa (i+d+1)=Ģa (i+(d+1)):=rfl;omega
  intro i j hi hj hij;have:=key (j-i) i À;rw[show i+(j-i)=j by omega,WY,WY,Ÿd,WA hj]at this;exact this
 ·intro h i hi;have:=List.pairwise_iff_getElem.mp h i ůa À hi À;rw[WY,WY,WA (show ďe i by omega),Ÿd];exact this
theorem AB(hp:ms.Perm ns)(hs:ms.Pairwise (·<=·)):è (ns=ms)=nfB ns:=by
 cases hb:nfB ns with
 |true =>
  rw[TF];refine(hp.symm.eq_of_pairwise (le:=(·<=·)) (λa b _ _ h1 h2=>À) (nf_pair.mp hb) hs)
 |false =>
  rw[decide_eq_false_iff_not];intro z;rw[<- z]at hs;rw[nf_pair.mpr hs]at hb;cases hb
theorem Xd(hp:p∈prs)(h:nfB p.2=false):srB prs=false:=by
 unfold srB;rw[Bool.and_eq_false_iff];left;rw[List.all_eq_false];exact ő _ (Ń p hp) (by simp[h])
theorem Xc(hj:j<ĺ)(h:nfB Ĕd=false):srB prs=false:=by
 unfold srB;rw[Bool.and_eq_false_iff];right;rw[List.all_eq_false];exact ő _ (Ń j (List.mem_range.mpr hj)) (by simp[h])
open PySem L2 PyProof.Rows
noncomputable def Fr6(d:Z1)(H H':Hp):Prop:=∀b o,ŕa d
theorem Same.fr6{d:Z1}{H H':Hp}(s:Ŀd):Fr6 d H H':=λb o _ e=>s b o e
theorem Fr6.upd{d x:Z1}{H H1:Hp}{o:HO}(a:Fr6 d H H1)(hx:ē x):Fr6 d H (upd H1 x o):=λb u n e=>(ZP (WX e hx)).trans (a b u n e)
theorem Tab.fr6{d t:Z1}{H H':Hp}{prs:Prs}(h:ľ)(f:Fr6 d H H')(hd:∀xs,H d≠Ù xs):ıd H' :=
 ã (f _ _ (λz=>hd _ (by rw[<- z];exact h.l)) h.l) (Ļ (f _ _ (λz=>hd _ (by rw[<- z];exact h.r p hp)) (h.r p hp)))
theorem L6.fr6{P:Z3}{w:Z5}{H H':Hp}{tb d:Z1}{n:Nat}{us:Ts}{kv:Âb}(h:żc H)(f:Fr6 d H H')(hd:H d=Ã (.dK kv)):żc H':=by
 have ntd:tb≠d:=λz=>by obtain⟨vs,e,_⟩:=h.g;rw[z,hd]at e;cases e
 exact⟨h.g.keeps (by obtain⟨vs,e,_⟩:=h.g;rw[f _ _ ntd e,e]),ůc ((h.T e he).1.fr6 f (λxs z=>by rw[hd]at z;cases z)) he,h.b,h.m,h.nd⟩
theorem DeskAt.off(h:Ĳb)(hx:∃xs,H x=Ù xs)(n:∀e∈ts,e.2.1≠x/\∀p∈e.2.2,p.1≠x):Ď (upd H x o) ts:=by
 obtain⟨xs,hx⟩:=hx;refine⟨(ZP λz=>by have:=h.ob;rw[z,hx]at this;cases this).trans h.ob,(ZP λz=>by have:=h.D;rw[z,hx]at this;cases this).trans h.D,ůc (ã ((ZP (n e he).1).trans (h.T e he).1.l) (Ļ ((ZP ((n e he).2 p hp)).trans ((h.T e he).1.r p hp)))) he,h.nd⟩
theorem Kx(hi:i<rows.length)(k:Nat)(hk:k<rows.length):((setR rows i j x)[k]?).map (·.length)=(rows[k]?).map (·.length):=by
 unfold setR;rw[List.getElem?_set];split
 ·next h =>
  subst h;rw[WY,Ÿd];simp
 ·rfl
theorem Xm(hg:Ĕ)(hi:Ĵb i)(h:Õb (·.2)=ña):tabB qs=srB qs/\qs.length=prs.length/\(∀p∈qs,p.2.length=ĺ)/\w0 qs=ĺ:=by
 obtain⟨g,g1,g2,g3,g4⟩:=łd;have g2:ėa:=g2;have hl:qs.length=prs.length:=by
  have:=õ h;rw[ZD]at this;unfold setR at this;rw[QJ,ZD]at this;exact this
 have hw:∀p∈qs,p.2.length=ĺ:=Ļ (by
  obtain⟨k,hk⟩:=List.getElem?_of_mem hp;have hkl:=Ăb hk;have h1:=Kx (rows:=ð) (i:=i) (j:=j) (x:=x) (by rw[ZD];exact hi) k (by rw[ZD];omega);rw[<- h,ZX,hk,ZX,WA (show Ĵb k by omega)]at h1;have h2:p.2.length=prs[k].2.length:=by simpa using h1
  rw[h2];exact g.len _ (YE _))
 have hw0:w0 qs=ĺ:=GK À hw;refine⟨?_,hl,hw,hw0⟩;have sh:shB qs=true:=by
  unfold shB;rw[hl,hw0,ZS (show 1<=prs.length from g1),ZS g2,Bool.true_and,Bool.true_and,YT,UK,UK];refine ã Óa Óa
  ·obtain⟨p,hp,rfl⟩:=Áb hb;unfold rowB;rw[hw p hp,ZS g3,ZS g4];rfl
  ·obtain⟨p,hp,rfl⟩:=Áb hb;rw[hw p hp];exact ZS rfl
 unfold tabB;rw[sh,Bool.true_and]
section
variable {P:Z3}{w:Z5}{K:ZC}{mg:Ą}{base:Z8}{C:Z1}{cs:ãb}
noncomputable abbrev cgN:ù:=["desk","tables","cell","name","table","r","c","x","words","told","k","line"]
theorem sc_cg:ä cgN č XZ:=scm
noncomputable abbrev cgX(P:Z3)(w:Z5)(K:ZC)(mg:Ą)(base:Z8)(f:Z1)(gv:Z0)(A:Z4)(ou:êb)(s:Z2)(H:Hp)(E:XK):Cx:=Çb cgN "_law_cell_good" XZ gv ou
noncomputable def cgS(k:Nat):Z6:=ÿ XZ k
variable {f:Z1}{gv:Z0}{A:Z4}{ou:êb}{s:Z2}{H:Hp}{E:XK}{a tb t F:Z1}{cc n i j:Nat}{nm wt word:Str}{x:Int}{b:Bool}{qs:Prs}
noncomputable def Cg(a tb t F:Z1)(cc n i j:Nat)(nm wt:Str)(x:Int)(σ:L2.St):Prop:=∃o10 o11:Z9 V,σ = ād
theorem cg9(T:ûa)(hso:ěb) (hr:Îb 39 ò) (hT:Tab H0 t qs) (h6:qs.length<=6) (hw:∀p∈qs,p.2.length=w0 qs) (hw6:w0 qs<=6) (hF:H0 F=Ù [.bl b,ĉ word]) (hb:srB qs=false->b=true/\word = "fit") :
  PS ò (cgS 9) (λD σ H1=>(Űa cc σ/\Same H0 H1)/\(∀H',ç H0->srB qs=false->Úc)/\∀σ' H',Űa cc σ'->ç H0->(∀p∈qs,nfB p.2=true)->D.nx σ' H'):=by
 have nd:=sc_cg.nd;have hu:öd ò:=ąc;have hS:Čb 9:=ňa (ňb (pa1 (pln T ŕc))) (YQ (i:=10) nd rfl äb) (ZL (ša (F1 hr.units) (ă 4 (pv 10)) (ßb IT (pa1 (ă 4 (pv 10)))) (Ġ (ťa 9 ZR))))
 generalize cgS 9=S at hS;refine ps6 hS ?_;rintro D σ H1 ⟨⟨⟨o10,o11,rfl⟩,s1⟩,qr,qn⟩;refine⟨_,Z,t,_,Z,Ė (ĉd s1),_,Z,À,by rw[ZD];omega,?_⟩;rw[ZD];refine SB (λk σ H2=>Űa cc σ/\Same H0 H2/\∀p∈qs.take k,nfB p.2=true) (ő (ő o10 o11 Z) s1 Í) ?_ ?_
 ·rintro k σ H2 hk ⟨⟨o10',o11',rfl⟩,s2,hf⟩;have hk:k<qs.length:=by simpa using hk
  have hp:qs[k]?=Ã (qs[k]):=WA hk;have hpm:=YE hk;have hR:=(ëa s2).r _ hpm;have hat:atI (Õb (λp=>Śb)) (0+Ùe)=Ã (Ŷ qs[k].1):=by rw[Int.zero_add];exact WE (by rw[ZX,hp];rfl)
  refine⟨_,Z,_,Z,t,_,_,_,Z,Z,ĉd s2,hat,_,Z,_,Z,t,_,_,_,Z,Z,ĉd s2,hat,qs[k].1,qs[k].2,Z,hR.sq,by rw[hw _ hpm];omega,λD1 ms hD1 hpm2 hso2=>?_⟩;have s3:Ĝa H2 H2 D1 (ms.map V.int):=snw hD1;refine⟨dRow qs[k].2,dRow ms,(hR.same s3).rd,Row.rd (show Row _ D1 ms from ZI),ML _,ML _,_,Z,?_⟩;rw[BG,AB hpm2 hso2];cases hb2:nfB qs[k].2 with
  |false =>
   have hsr:=Xd hpm hb2;obtain⟨rfl,rfl⟩:=hb hsr;exact Ķ "fit" (øe (űc hF)) (qr _ ((Ųd).trans (snw hp)) hsr)
  |true =>
   refine ĭb (ő (Àe _) Ųd (λp' hp'=>?_));rw[List.take_add_one,hp]at hp';rcases ũd hp' with z | z
   ·exact hf p' z
   ·rw[V3.mp z];exact hb2
 ·rintro σ H2 ⟨hc,s2,hf⟩;have hf:∀p∈qs.take qs.length,nfB p.2=true:=hf;rw[List.take_length]at hf;exact qn _ _ hc s2 hf
theorem cg10(T:ûa)(hso:ěb) (hr:Îb 39 ò) (hT:Tab H0 t qs) (h1:1<=qs.length) (h6:qs.length<=6) (hw:∀p∈qs,p.2.length=w0 qs) (hw6:w0 qs<=6) (hF:H0 F=Ù [.bl b,ĉ word]) (hb:srB qs=false->b=true/\word = "fit") :
  PS ò (cgS 10) (λD σ H1=>(Űa cc σ/\Same H0 H1)/\(∀H',ç H0->srB qs=false->Úc)/\∀σ' H',Űa cc σ'->ç H0->(∀k,k<w0 qs->nfB (col qs k)=true)->D.nx σ' H'):=by
 have nd:=sc_cg.nd;have nd1:(["row","k"]:ù).Nodup:=Â
 have hu:öd ò:=ąc;obtain⟨p0,hp0,hm0,hx0⟩:=X0 (prs:=qs) h1;have hS:Čb 10:=ňa (ňb (pa1 (pln T (ü ZY 4)))) (YQ (i:=10) nd rfl äb) (ZG (Q6 ["row","k"] [none,Ã 10] (ZJ XZ) cgN (i:=11) nd rfl Ô rfl (Y7 ŕc) Â (Ö ň) (Ö Y0) (Ö (pix (ixL K) Ü ó))) (ZL (ša (F1 hr.units) (pv 11) (ßb IT (ß 11)) (Ġ (ťa 9 ZR)))))
 generalize cgS 10=S at hS;refine ps6 hS ?_;rintro D σ H1 ⟨⟨⟨o10,o11,rfl⟩,s1⟩,qr,qn⟩;have hT1:=ëa s1;refine⟨_,Z,t,_,0,Ê p0.1,Z,Z,hT1.sq,UM (j:=0) (by rw[ZX,hx0];rfl),p0.1,_,Z,Ė (hT1.r p0 hm0).sq,_,Z,?_⟩;rw[ZD,hw p0 hm0];refine ő À À (SB (λk σ H2=>Űa cc σ/\Same H0 H2/\∀m,m<k->nfB (col qs m)=true) (ő (ő o10 o11 Z) s1 (λm hm=>ń hm À)) ?_ ?_)
 ·rintro k σ H3 hk ⟨⟨o10',o11',rfl⟩,sm3,hc⟩;rw[YR]at hk;have hT3:=ëa sm3;refine Ća t hT3.sq (Q7 (ms:=qs) (λp=>Śb) řd (λp=>Žb (p.2.getD k 0)) hT3.sq Ĭb (λp hp H4 Q4 s4 q4=>q4 _ ŵ) (λp hp _ H4 Q4 s4 q4=>?_) λD1 H4 hD1 s4 e4=>?_)
  ·refine⟨_,Z,_,Z,p.1,_,_,_,Z,Z,((hT3.r p hp).same s4).sq,?_,q4 _ ŵ⟩;rw[Int.zero_add];exact XG (ú (hw p hp) hk)
  rw[List.filter_eq_self.mpr Ÿ]at e4;have hR4:Row H4 D1 (col qs k):=by
   unfold Row col;rw[e4,W7];rfl
  refine⟨_,Z,_,Z,D1,col qs k,Z,hR4.sq,by unfold col;rw[ZD];omega,λD2 ms hD2 hpm2 hso2=>?_⟩;have s5:Ĝa H4 H4 D2 (ms.map V.int):=snw hD2;refine⟨dRow (col qs k),dRow ms,(hR4.same s5).rd,Row.rd (show Row _ D2 ms from ZI),ML _,ML _,_,Z,?_⟩;rw[BG,AB hpm2 hso2];cases hb2:nfB (col qs k)with
  |false =>
   have hsr:=Xc hk hb2;obtain⟨rfl,rfl⟩:=hb hsr;exact Ķ "fit" (ød (sm3 _ _ hF)) (qr _ ((sm3.trans (s4.trans s5)).trans (snw hp)) hsr)
  |true =>
   refine ĭb (ő (Àe _) (sm3.trans (s4.trans s5)) (λm hm=>?_));rcases Nat.lt_or_ge m k with z | z
   ·exact hc m z
   ·rw[show m=k by omega];exact hb2
 ·rintro σ H3 ⟨hc,s3,hf⟩;rw[YR]at hf;exact qn _ _ hc s3 hf
end
open PySem L2 PyProof.Rows
theorem Dp{qs:Prs}{i:Nat}{ns:Ċ}{α:Type}(f:Z1->α)(hi:i<qs.length):(Ċd (qs[i].1,ns)).map (λp=>f p.1)=Õb (λp=>f p.1):=by
 rw[List.map_set];refine List.ext_getElem? λk=>?_;rw[List.getElem?_set];split
 ·next h =>
  subst h;rw[ZD,ZH hi,ZX,Ÿd];rfl
 ·rfl
theorem Tab.setAt{H:Hp}{t:Z1}{qs:Prs}{i:Nat}(j:Nat)(x:Int)(hT:Tab H t qs)(hi:i<qs.length)(hnd:Çe (Õb (·.1)))(hnt:∀p∈qs,p.1≠t) :
  Tab (Ï H qs[i].1 ((qs[i].2.set j x).map V.int)) t (Ċd (qs[i].1,qs[i].2.set j x))/\(Ċd (qs[i].1,qs[i].2.set j x)).map (·.2)=setR (Õb (·.2)) i j x:=by
 have mqi:qs[i]∈qs:=YE hi;have hqi:qs[i]?=Ã (qs[i]):=Ÿd;have hn:∀p∈qs,p.1=qs[i].1->p=qs[i]:=λp hp e=>by
  obtain⟨k,hk⟩:=Úd;have hkl:=Ăb hk;have:k=i:=(List.getElem?_inj (l:=Õb (·.1)) (by rw[ZD];exact hkl) hnd).mp (by rw[ZX,ZX,hk,hqi];simp[e]);subst this;exact WC (hk.symm.trans hqi)
 refine ųb (ã ?_ Åc)
 ·rw[Dp V.ref hi];exact(ZP (ĥ (hnt _ mqi))).trans hT.l
 ·rcases ŀb hp with z | z
  ·by_cases e:p.1=qs[i].1
   ·have hk:=hn p z e;have:p=(qs[i].1,qs[i].2.set j x)\/p≠(qs[i].1,qs[i].2.set j x):=Classical.em _;rcases this with h | h
    ·rw[h];exact ZI
    ·exfalso;obtain⟨k,hk2⟩:=Úd;rw[List.getElem?_set]at hk2;split at hk2
     ·next h' =>
      exact h (WC hk2).symm
     ·next h' =>
      have hkl:=Ăb hk2;have:k=i:=(List.getElem?_inj (l:=Õb (·.1)) (by rw[ZD];exact hkl) hnd).mp (by rw[ZX,ZX,hk2,hqi];simp[e]);exact h' this.symm
   ·exact(ZP e).trans (hT.r p z)
  ·rw[z];exact ZI
 ·unfold setR;rw[List.map_set]
  congr 1
  rw[WY,ZX,hqi];rfl
theorem L6.put{P:Z3}{w:Z5}{H H4:Hp}{tb t:Z1}{n m:Nat}{us:Ts}{x:Str}{prs:Prs}(h:żc H)(hf:∀c,c≠tb->H4 c=H c)(hg:DG P w H4 tb m (putK Ėb (ça x) (Ê t)))(hT:ľ)(ht:Ĕ)(hb:∀q∈prs,Bd50 q.2)(hx:Y2 x.cps.toList=true):L6 P w H4 tb m (Ũb us x):=by
 have nl:∀b xs,H b=Ù xs->H4 b=Ù xs:=λb xs e=>by
  refine(hf b Îc).trans e;obtain⟨vs,e2,_⟩:=h.g;rw[z,e2]at e;cases e
 have tt:∀{t:Z1}{prs:Prs},ľ->ıd H4:=Ĥc;rw[EL us x t prs]at hg;refine⟨hg,λe he=>?_,λe he=>?_,λe he=>?_,DA h.nd x t prs⟩
 ·rcases PX he with he | rfl
  ·exact ã (tt (h.T e he).1) (h.T e he).2
  ·exact ã (tt hT) ht
 ·rcases PX he with he | rfl
  ·exact h.b e he
  ·exact hb
 ·rcases PX he with he | rfl
  ·exact h.m e he
  ·exact hx
theorem DeskAt.frT(h:Ĳb)(hf:∀c,c≠tb->H4 c=H c)(ht:H tb=Ã (.ext φ)):Ď H4 ts:=by
 have nl:∀b o,H b=ţ->o≠.ext φ->H4 b=ţ:=λb o e n=>(hf b λz=>by rw[z,ht]at e;exact n (WC e).symm).trans e;refine⟨nl _ _ h.ob (λz=>nomatch z),nl _ _ h.D (λz=>nomatch z),ůc (ã (nl _ _ (h.T e he).1.l (λz=>nomatch z)) (Ļ (nl _ _ ((h.T e he).1.r p hp) (λz=>nomatch z)))) he,h.nd⟩
theorem Vu(h:∀r∈rows,Bd50 r)(hx:x.natAbs<Īd)(hi:i<rows.length):∀r∈setR rows i j x,Bd50 r:=λr hr=>by
 unfold setR at hr;rcases ŀb hr with z | z
 ·exact h r z
 ·rw[z];intro n hn;rw[WY,Ÿd]at hn;rcases ŀb hn with z | z
  ·exact h _ (YE hi) n z
  ·rw[z];exact hx
section
variable {P:Z3}{w:Z5}{K:ZC}{mg:Ą}{base:Z8}{C:Z1}{cs:ãb}
inductive spCG(P:Z3)(w:Z5)(C:Z1)(vs:ĝ)(H:Hp)(Q:VK)(z3_:XK):Prop
 |mk (a dx d tb:Z1) (n:Nat) (ts us:Ts) (c:Nat) (h0:vs=[œ,Ê tb,Ó c]) (h1:Ĳd) (h2:us≠[]) (h3:∀H' ts' us',(∀b o,b≠d->ŕa tb)->Ż H' ts' us'->us'.length=us.length->Q Ĩ H')
variable {f:Z1}{gv:Z0}{A:Z4}{ou:êb}{s:Z2}{H:Hp}{E:XK}{a dx d tb t:Z1}{cc n:Nat}{ts us:Ts}
inductive Ct(P:Z3)(w:Z5)(C:Z1)(H:Hp)(a dx d tb:Z1)(cc n:Nat)(ts us:Ts)(σ:L2.St)(H6:Hp):Prop
 |mk (nm wt word:Str) (t t0 F:Z1) (prs qs:Prs) (i j:Nat) (x:Int) (b:Bool) (h0:Űa cc σ) (h1:(nm,t0,prs)∈us) (h2:Tab H6 t qs) (h3:Õb (·.2)=ð) (h4:ē t) (h5:(∀p∈qs,ē p.1/\p.1≠t)) (h6:Çe (Õb (·.1))) (h7:ē F) (h8:H6 F=Ù [.bl b,ĉ word]) (h9:x.natAbs<Īd) (h10:i<=prs.length) (h11:j<=ĺ) (h12:(((i=prs.length\/j=ĺ)/\b=true/\word = "cell" /\ ńa H6)\/(Ĵb i/\j<ĺ/\UT ña=false/\b=true/\word = "fit" /\ ńa H6) \/ (Ĵb i/\j<ĺ/\UT ña=true/\b=false/\word = "ok" /\ Fr6 d H H6/\∃t' prs',prs'.map (·.2)=ña/\Ď H6 (ùd nm)/\(∀p∈qs,p.1≠t'/\∀z∈prs',z.1≠p.1))))
theorem Qc(T:ûa)(hso:ěb) (W:Ĳd) (hr:Îb 39 ò):PSs ò [cgS 7,cgS 8,cgS 9,cgS 10,cgS 11,cgS 12] (λD σ H6=>Ct P w C H a dx d tb cc n ts us σ H6/\∀H' ts' us',(∀b o,b≠d->ŕa tb)->Ż H' ts' us'->us'.length=us.length->Úc):=by
 have nd:=sc_cg.nd;have hu:öd ò:=ąc;have B7:Čb 7:=ZZ (řb (pcm WH (pv 5) (pln T ŕc)) (pcm WH (pv 6) (pln T (ü ZY 4)))) (Ġ (ťa 9 ZR)) W0;have B8:Čb 8:=P1 (pv 7) (OL (ă 4 (pv 5)) (pv 6) NX);have B9:=λ(H0:Hp) (t F:Z1) (i j:Nat) (nm wt word:Str) (x:Int) (b:Bool) (qs:Prs) (hT:Tab H0 t qs) (h6:qs.length<=6) (hw:∀p∈qs,p.2.length=w0 qs) (hw6:w0 qs<=6) (hF:H0 F=some (.lst [.bl b,.str word])) (hb:srB qs=false->b=true/\word = "fit")=>cg9 (a:=a) (tb:=tb) (cc:=cc) (n:=n) (i:=i) (j:=j) (nm:=nm) (wt:=wt) (x:=x) T hso hr hT h6 hw hw6 hF hb;have B10:=λ(H0:Hp) (t F:Z1) (i j:Nat) (nm wt word:Str) (x:Int) (b:Bool) (qs:Prs) (hT:Tab H0 t qs) (h1:1<=qs.length) (h6:qs.length<=6) (hw:∀p∈qs,p.2.length=w0 qs) (hw6:w0 qs<=6) (hF:H0 F=some (.lst [.bl b,.str word])) (hb:srB qs=false->b=true/\word = "fit")=>cg10 (a:=a) (tb:=tb) (cc:=cc) (n:=n) (i:=i) (j:=j) (nm:=nm) (wt:=wt) (x:=x) T hso hr hT h1 h6 hw hw6 hF hb;have B11:Čb 11:=Pr ó Żc ŕc rfl;have B12:Čb 12:=ZU (ťa 9 ZR);generalize cgS 7=S7 at B7 ⊢;generalize cgS 8=S8 at B8 ⊢;generalize cgS 9=S9 at B9 ⊢;generalize cgS 10=S10 at B10 ⊢;generalize cgS 11=S11 at B11 ⊢;generalize cgS 12=S12 at B12 ⊢;intro pins s' σ H6 D I h;obtain⟨⟨nm,wt,word,t,t0,F,prs,qs,i,j,x,b,⟨o10,o11,rfl⟩,hm,hT,hrows,ht0,hq0,hnd,hF0,hF,hx,hi,hj,hcase⟩,q⟩:=h;obtain⟨_,hg⟩:=W.l.T _ hm;have hg:Ĕ:=hg;obtain⟨g,g1,g2,g3,g4⟩:=łd;have g2:ėa:=g2;have hl:qs.length=prs.length:=SV hrows;have hw:w0 qs=ĺ:=PF hrows;have hgq:tabB qs=true:=ú (O2 hrows) hg
 obtain⟨gq,_,_,_,_⟩:=Y4 hgq;obtain⟨p0,hp0,hm0,hx0⟩:=X0 (prs:=qs) À;have hbd:∀q∈prs,Bd50 q.2:=W.l.b _ hm;have hnm:Y2 nm.cps.toList=true:=W.l.m _ hm;have R:PSs ò [S8,S9,S10,S11,S12] (λD σ H7=>σ = ād/\H6=H7/\Ĵb i/\j<ĺ/\∀H' ts' us',(∀b o,b≠d->ŕa tb)->Ż H' ts' us'->us'.length=us.length->Úc):=by
  intro pins s' σ H7 D I h;obtain⟨eσ,eH,hi',hj',q⟩:=h;subst eσ;subst eH;have hiq:i<qs.length:=À
  obtain⟨hT8,hr8⟩:=hT.setAt j x hiq hnd (Ļ (hq0 p hp).2);have mqi:qs[i]∈qs:=YE hiq;have hRi:=hT.r _ mqi;have hrS:(Ċd (qs[i].1,qs[i].2.set j x)).map (·.2)=ña:=by rw[hr8,hrows]
  obtain⟨tsr,hlS,hwS,hw0S⟩:=Xm hg hi' hrS;have hokS:UT ña=srB (Ċd (qs[i].1,qs[i].2.set j x)):=by rw[<- tsr,SD hrS]
  have nFq:F≠qs[i].1:=XY hF hRi (λz=>by
   injection z with z;have hlen:=gq.len _ mqi;cases e:qs[i].2 with
   |nil=>rw[e]at hlen;simp at hlen;omega
   |cons y ys=>rw[e]at z;injection z with z1 _;cases z1)
  have f68:Fr6 d H H6->Fr6 d H (Ï H6 qs[i].1 ((qs[i].2.set j x).map V.int)):=λfr=>fr.upd (hq0 _ mqi).1;have fr6:Fr6 d H H6:=by
   rcases hcase with⟨_,_,_,z⟩ | ⟨_,_,_,_,_,z⟩ | ⟨_,_,_,_,_,z,_⟩
   ·exact Same.fr6 z
   ·exact Same.fr6 z
   ·exact z
  have hF8:(Ï H6 qs[i].1 ((qs[i].2.set j x).map V.int)) F=Ù [.bl b,ĉ word]:=(ZP nFq).trans hF;have hb:srB (Ċd (qs[i].1,qs[i].2.set j x))=false->b=true/\word = "fit" := λz=>by
   rw[<- hokS]at z;rcases hcase with⟨z1,_⟩ | ⟨_,_,_,z1,z2,_⟩ | ⟨_,_,z1,_⟩
   ·omega
   ·exact ã z1 z2
   ·rw[z1]at z;cases z
  have hsm:ńa H6->Ĝa H H6 qs[i].1 ((qs[i].2.set j x).map V.int):=λz=>z.upd (hq0 _ mqi).1;have ret:∀H',ç (Ï H6 qs[i].1 ((qs[i].2.set j x).map V.int))->srB (Ċd (qs[i].1,qs[i].2.set j x))=false->Úc:=λH' s' z=>by
   rw[<- hokS]at z;rcases hcase with⟨z1,_⟩ | ⟨_,_,_,_,_,z1⟩ | ⟨_,_,z1,_⟩
   ·omega
   ·have:=(hsm z1).trans s';exact q H' ts us (λb o _ _ e=>this b o e) (W.same this) rfl
   ·rw[z1]at z;cases z
  refine ZG B8 (Ħ (B9 _ t F i j nm wt word x b _ hT8 À (Ļ (by rw[hw0S];exact hwS p hp)) À hF8 hb) (B10 _ t F i j nm wt word x b _ hT8 À À (Ļ (by rw[hw0S];exact hwS p hp)) À hF8 hb) (ZG B11 (ZL B12))) pins s' _ H6 D I ?_;refine⟨_,Z,_,Z,_,Z,t,_,_,Ŷ qs[i].1,Z,Z,hT.sq,WE (by rw[ZX,WA hiq];rfl),_,Z,qs[i].1,_,_,j,Z,Z,hRi,?_,?_⟩
  ·rw[ZD,gq.len _ mqi,hw];unfold ixN;rw[ZH À,ZH À,YR]
  rw[<- List.map_set];refine ő (ã (ő o10 o11 Z) ŵ) ret (λσ9 H9 c9 s9 hrowsN=>ő (ã c9 s9) ret (λσ10 H10 c10 s10 hcols=>?_));obtain⟨o10',o11',rfl⟩:=c10;have hsr:srB (Ċd (qs[i].1,qs[i].2.set j x))=true:=by
   unfold srB;rw[YT,UK,UK];refine ã Óa Óa
   ·obtain⟨p,hp,rfl⟩:=Áb hb;exact hrowsN p hp
   ·obtain⟨k,hk,rfl⟩:=Áb hb;exact hcols k (Àc hk)
  rw[<- hokS]at hsr;rcases hcase with⟨z1,_⟩ | ⟨_,_,z1,_⟩ | ⟨_,_,_,rfl,rfl,fr,t',prs',hr',hD6,hoff⟩
  ·omega
  ·rw[z1]at hsr;cases hsr
  have kvd:=W.dk.D;have fr8:=f68 fr;have l8:=W.l.fr6 fr8 kvd;have l10:=l8.same s10;have hlu:î Ėb=us.length:=by unfold kvs;rw[ZD]
  refine⟨_,Z,_,Z,_,Z,tb,n,n,nm,Ėb,Z,Z,ħ,l10.g,by rw[hlu];exact UB (by have:=W.len;omega),λH11 hf hdg=>?_⟩;have tabS:tabB (Ċd (qs[i].1,qs[i].2.set j x))=true:=ú (SD hrS) hsr
  have bdS:∀z∈Ċd (qs[i].1,qs[i].2.set j x),Bd50 z.2:=λz hz=>Vu (rows:=ð) (λr hr=>by
    obtain⟨p,hp,rfl⟩:=Áb hr
    exact hbd p hp) hx (by rw[ZD];exact hi') _ (by rw[<- hrS];exact Ń z hz)
  have l11:=l10.put hf hdg (hT8.same s10) tabS bdS hnm;have hD8:Ď (Ï H6 qs[i].1 ((qs[i].2.set j x).map V.int)) (ùd nm):=hD6.off (Ņ hRi) (λe he=>by
   rcases PX he with he | rfl
   ·have:=W.dk.T e he;have h0:=(hq0 _ mqi).1;refine ã Îc (λp hp z=>?_)
    ·have:=this.1.l;rw[z,h0]at this;cases this
    ·have:=this.1.r p hp;unfold Row at this;rw[z,h0]at this;cases this
   ·exact ã (ĥ (hoff _ mqi).1) (Ļ ((hoff _ mqi).2 p hp)))
  obtain⟨vsx,etb,_⟩:=l10.g;have hD11:=(hD8.same s10).frT hf etb;refine Óe len2 Åc;have sp:=snw (o:=.lst [öa,ĉ "ok"]) hp;have ntF:F≠tb:=λz=>by
   have:=s10 _ _ hF8;rw[z,etb]at this;cases this
  have hF11:H11 F=Ù [öa,ĉ "ok"]:=(hf F ntF).trans (s10 _ _ hF8);refine⟨F,p,false, "ok",Z,Z,sp _ _ hF11,ZI,?_⟩;have hin:nm∈us.map (·.1):=Ń _ hm;have hlen:î (putT us nm t (Ċd (qs[i].1,qs[i].2.set j x)))=us.length:=by
   unfold putT;rw[ZH hin,ZD]
  refine q _ (ùd nm) (putT us nm t (Ċd (qs[i].1,qs[i].2.set j x))) (λb o n1 n2 e=>sp _ _ ((hf b n2).trans (s10 _ _ (fr8 b o n1 e)))) ⟨hD11.same sp,l11.same sp,FQ W.e nm t t' (by rw[hrS,hr']),by rw[hlen];exact W.len⟩ hlen
 refine ZG B7 R pins s' _ H6 D I ?_;refine⟨_,Z,_,Z,t,_,Z,Ė hT.sq,Z,_,Z,?_⟩;rw[ZD,hl];have dn:∀u v:Nat,è (Žb (Ý u)=Žb (Ý v))=è (u=v):=λu v=>by
  rw[XA];exact ã (λh=>by injection h with h;omega) (λh=>by rw[h])
 rw[dn];have cell:(i=prs.length\/j=ĺ)->b=true/\word = "cell" /\ ńa H6:=λz=>by
  rcases hcase with⟨_,z1,z2,z3⟩ | ⟨z1,z2,_⟩ | ⟨z1,z2,_⟩
  ·exact ő z1 z2 z3
  ·omega
  ·omega
 have done:(i=prs.length\/j=ĺ)->∀H',ç H6->Úc:=λz H' s'=>by
  have:=(cell z).2.2.trans s';exact q H' ts us (λb o _ _ e=>this b o e) (W.same this) rfl
 by_cases hc1:i=prs.length
 ·rw[ZS hc1];obtain⟨rfl,rfl,_⟩:=cell (Ė hc1);exact Ŧb (Ķ "cell" hF (done (Ė hc1) _ (snw hp)))
 ·rw[ZW hc1];refine ĭb ⟨_,Z,_,Z,t,_,0,Ê p0.1,Z,Z,hT.sq,UM (j:=0) (by rw[ZX,hx0];rfl),p0.1,_,Z,ļd,Z,_,Z,?_⟩;rw[ZD,gq.len p0 hm0,hw,dn]
  by_cases hc2:j=ĺ
  ·rw[ZS hc2];obtain⟨rfl,rfl,_⟩:=cell (Ŀ hc2);exact Ķ "cell" hF (done (Ŀ hc2) _ (snw hp))
  ·rw[ZW hc2];exact ĭb ⟨Z,Z,À,À,q⟩
end
open PySem L2 PyProof.Rows
section
variable {P:Z3}{w:Z5}{K:ZC}{mg:Ą}{base:Z8}{C:Z1}{cs:ãb}
theorem Lr(T:ûa)(hso:ěb) (hstr:Þc) (D:é "_law_cell_good" XZ č) (G:Ů) (G5:Ŏc):ĸb:=by
 refine Á sc_cg
 ·obtain⟨a,dx,d,tb,n,ts,us,c,rfl,_⟩:=h;rfl
 ·obtain⟨a,dx,d,tb,n,ts,us,c,rfl,W,hne,q⟩:=h;have nd:=sc_cg.nd;have nd1:(Ïb:ù).Nodup:=Â
  have nd2:(["one"]:ù).Nodup:=Â
  have hr1:Îb 1 ò:=Ĩd;have B0:Čb 0:=È 3 (Èe (ßb (MP rfl) éc) (ZN WS Ķa (àc BM éc)));have B1:Čb 1:=Q6 Ïb [none] (ZJ XZ) cgN (i:=4) nd rfl Ô rfl (Y7 (N6 ó (pvw 3) Ÿ)) Â (Ö ň) (Ö Y0) (Ö (pe_t (GE K) T.list boot_list Ş));have B2:Čb 2:=È 5 (Ħc 2 (ZN U7 (pln T ŕc) ZB));have B3:Čb 3:=È 6 (Ħc 2 (ZN U7 (pln T (ü ZY 4)) ZB));have B4:Čb 4:=È 7 (pe_f G5 hr1 (â 4 (ċa YM 2)));have B5:Čb 5:=È 8 (ûd (pa1 (Ì ["one"] [none] XZ cgN (Y7 (WN (ZF (pv 5) (ýa (pv 6) 7)))) (pg_c 0 nd2) Y0 (Ďa Ş))));have B6:Čb 6:=È 9 (ďb ZR (pvw 3) (pv 8));have R:=Qc (K:=K) (base:=base) (E:=E) (f:=f) (gv:=gv) (A:=A) (ou:=ou) (s:=s) (cc:=c) T hso W hr;have eB:WI XZ=[cgS 0,cgS 1,cgS 2,cgS 3,cgS 4,cgS 5,cgS 6,cgS 7,cgS 8,cgS 9,cgS 10,cgS 11,cgS 12]:=by kernel_rfl
  rw[eB];clear eB;generalize cgS 0=S0 at B0 ⊢;generalize cgS 1=S1 at B1 ⊢;generalize cgS 2=S2 at B2 ⊢;generalize cgS 3=S3 at B3 ⊢;generalize cgS 4=S4 at B4 ⊢;generalize cgS 5=S5 at B5 ⊢;generalize cgS 6=S6 at B6 ⊢;refine ĉb B0 B1 (Ħ B2 B3 (Ħ B4 B5 (ZG B6 R)));clear B0 B1 B2 B3 B4 B5 B6 R;have hlu:((Ėb).map (·.1))=(us.map (·.1)).map Sum.inr:=QC us;have hl50:=W.len;refine ĩd (·.1) W.l.g hlu (by rw[ZD];omega);have s1:Ĝa H H L éa:=snw hL;have e1:(Ï H L éa) L=_:=ZI;generalize Ï H L éa=H1 at s1 e1 ⊢;obtain⟨nm,t0,prs,hm,hat,hn0,hpos⟩:=W.l.pick hp hne c;refine åd;obtain⟨hT,hg⟩:=W.l.T _ hm;have hT:Tab H t0 prs:=hT;have hg:Ĕ:=hg;have hnm:Y2 nm.cps.toList=true:=W.l.m _ hm;have hnf:=VX hnm;obtain⟨g,g1,g2,g3,g4⟩:=łd;have g2:ėa:=g2;have hT1:=ëa s1;refine⟨_,Z,nm,ã n Z,tb,n,nm,Ėb,Ê t0,Z,Z,(W.l.same s1).g,VW W.l.nd hm,t0,Z,Ņ hT1.sq,IK (λp:Z1×Ċ=>Śb) (λp=>.lst (p.2.map V.int)) hT1.sq À (Œd ⟨_,Z,p.1,_,Z,Ė ((hT1.same sm).r p hp).sq,λl hl=>q' l _ hl (snw hl) ZI⟩) λt qs0 H2 hM hqm hnd hq s2 eM=>?_⟩;obtain⟨qs,hqs⟩:∃qs:Prs,qs=qs0.map λx=>(x.1,x.2.2):=Ôe;have hT2:Tab H2 t qs:=by
   refine ã ?_ Åc
   ·rw[eM,hqs,W7];rfl
   ·rw[hqs]at hp;obtain⟨x,hx,rfl⟩:=Áb hp;exact(hq x hx).1
  have hrows:Õb (·.2)=ð:=by
   rw[hqs,W7,<- hqm,W7];rfl
  have hq0:∀p∈qs,ē p.1/\p.1≠t:=Ļ (by
   rw[hqs]at hp;obtain⟨x,hx,rfl⟩:=Áb hp;exact ã (ğd (hq x hx).2.1) (hq x hx).2.2)
  have hnd2:Çe (Õb (·.1)):=by
   rw[hqs,W7];exact hnd
  have ht0:ē t:=ğd hM;clear hqm hq eM hqs hnd;have s12:=Äc;have hl:qs.length=prs.length:=SV hrows;have hw:w0 qs=ĺ:=PF hrows;have hgq:tabB qs=true:=ú (O2 hrows) hg
  obtain⟨gq,_,_,_,_⟩:=Y4 hgq;obtain⟨p0,hp0,hm0,hx0⟩:=X0 (prs:=qs) À;obtain⟨i,ei,hi⟩:∃i:Nat,(Þ c/20)%(Þ prs.length+1)=Þ i/\i<=prs.length:=ő ((c/20)%(prs.length+1)) (by rw[Int.natCast_emod,Int.natCast_ediv];rfl) (by have:=X9 (c/20) (show 0<prs.length+1 by omega);omega);obtain⟨j,ej,hj⟩:∃j:Nat,(Þ c/140)%(Þ ĺ+1)=Þ j/\j<=ĺ:=ő ((c/140)%(ĺ+1)) (by rw[Int.natCast_emod,Int.natCast_ediv];rfl) (by have:=X9 (c/140) (show 0<ĺ+1 by omega);omega);refine⟨_,Z,_,_,Z,Z,by constructor<;>decide,_,Z,t,_,Z,Ė hT2.sq,_,_,Z,Z,_,_,Z,Z,by rw[ZD];omega,?_⟩;rw[ZD,hl,ei];refine⟨_,Z,_,_,Z,Z,by constructor<;>decide,_,Z,t,_,0,Ê p0.1,Z,Z,hT2.sq,UM (j:=0) (by rw[ZX,hx0];rfl),p0.1,_,Z,Ė (hT2.r p0 hm0).sq,_,_,Z,Z,_,_,Z,Z,by rw[ZD];omega,?_⟩;rw[ZD,gq.len p0 hm0,hw,ej];refine⟨_,Z,_,Z,_,_,Z,Z,by constructor<;>decide,t,qs,c/1000,by rw[show(Þ c/1000)=Ý (c/1000) by omega],hT2,hgq,λx H3 h1 h2 s3=>?_⟩;have hT3:=hT2.same s3;refine⟨Z,_,Z,_,Z,_,Z,(by show ø 3;decide),λL2 hL2=>?_⟩;have s4:=snw (o:=.lst ([Þ i,Þ j,x].map V.int)) hL2;have e4:(Ï H3 L2 ([Þ i,Þ j,x].map V.int)) L2=Ù ([Þ i,Þ j,x].map V.int):=ZI;have s4':Ĝa H3 H3 L2 [Žb (ũ i),Žb (ũ j),Žb x]:=s4;have e4':(Ï H3 L2 [Žb (ũ i),Žb (ũ j),Žb x]) L2=Ù ([Þ i,Þ j,x].map V.int):=e4;clear s4 e4;generalize Ï H3 L2 [Žb (ũ i),Žb (ũ j),Žb x]=H4 at s4' e4' ⊢;have hp10:ũ 10 ^ 10<=Īd:=ŝa Ç;have lgi:(ũ i:Int).natAbs<Īd:=À
  have lgj:(ũ j:Int).natAbs<Īd:=À
  have lgx:x.natAbs<Īd:=À
  have hil:=VU (show i<100 by omega);have hjl:=VU (show j<100 by omega);have hxl:=QW h1 h2;refine⟨L2,Z,Ņ (sqo e4'),V0 V.int (λz=>Æd (ZM z)) (sqo e4') (by show ø 3;decide) (λz hz H' Q' sm q'=>Ğc z ?_ Īc) λD2 H5 hD2 s5 eD2=>?_⟩
  ·simp only[W9,YH,or_false]at hz;rcases hz with rfl | rfl | rfl
   ·exact VM lgi
   ·exact VM lgj
   ·exact VM lgx
  refine⟨_,D2,[ĭ i,ĭ j,ZM x],Z,Z,eD2,?_,?_⟩
  ·rw[show(ć " ")=ű #[32] from YO];refine RZ (B:=10) Ĳc Í;simp only[W9,YH,or_false]at hw;rcases hw with rfl | rfl | rfl<;>omega
  obtain⟨wt,ewt⟩:∃wt,wt=ŭa " " [ĭ i,ĭ j,ZM x]:=Ôe;rw[<- ewt];have cwt:wt.cps.toList=ñ (ĭ i)++32::(ñ (ĭ j)++32::ñ (ZM x)):=by rw[ewt,UJ,UJ,PU]
  have lwt:wt.length<=18:=by
   have:=õ cwt;rw[WR,WK,YL,WK,YL,WR,WR,WR]at this;omega
  clear ewt;have s25:=(s3.trans s4').trans s5;have s15:=s12.trans s25;have hT5:=hT2.same s25;have lc:āb "cell "=5:=Â
  have ls:āb " "=1:=Â
  refine⟨_,Z,nm,ã n Z,_,_,Z,Z,Ĭb,_,_,Z,Z,sl6 (by rw[YY];omega),_,Z,_,_,Z,Z,sl6 (by rw[YY,YY];omega),?_⟩;have RW:=DY (n:=nm) (x:=(Ø "cell " ++ nm++Ø " " ++ wt)) (i:=i) (j:=j) (k:=x) hnm À À h1 h2 (by
   rw[UN,UN,UN,QX,cwt,List.append_assoc,List.append_assoc,show ąa "cell "=Ãd "cell" by decide +kernel,List.append_assoc]
   rfl)
  obtain⟨t',prs',hm',hr'⟩:=PM W.e hm;have hl':prs'.length=prs.length:=SV hr';have hw':w0 prs'=ĺ:=PF hr';have W5:=W.same s15;have a1:śa i:=À
  have a2:śa j:=À
  have a3:űd x:=À
  have cg:∀F,Űa c [Ú a,Ú tb,Ğe c,Ã (.sT nm n),Ú t,Ã Ŧd,Ğe j,ļ x,Ã (ĉ wt),Ú F,none,none]:=λF=>ő none none Z
  by_cases hc:i=prs.length\/j=ĺ
  ·refine RY (j:=0) W5.dk.ob rfl Ç (Nu W5.dk hm' RW a1 a2 a3 À) λF H6 hF s6 e6=>ã (áb "cell" true (hT5.same s6) (Ė ⟨hc,Z,Z,s15.trans s6⟩)) q
  ·have hi':Ĵb i:=À
   have hj':j<ĺ:=À
   by_cases hok:UT ña=true
   ·refine Qi W5.dk (by have:=W5.tlen;omega) hm' RW a1 a2 a3 À À (by rw[hr'];exact hok) λF H6 t2 prs2 hF f1 f2 fr e6 hr2 hD=>ã (áb "ok" false ?_ (Ŀ (Ŀ ⟨hi',hj',hok,Z,Z,λb o nb e=>fr b o nb (s15 b o e),t2,prs2,by rw[hr2,hr'],hD,Åc⟩))) q
    ·exact hT5.fr6 (d:=d) fr (λxs z=>by rw[W5.dk.D]at z;cases z)
    ·have:=hT5.r p hp;unfold Row at this;refine ã Îc (λy hy z=>?_)
     ·rw[z,f1]at this;cases this
     ·rw[<- z,f2 y hy]at this;cases this
   ·have hok:UT ña=false:=by simpa using hok
    refine RY (j:=1) W5.dk.ob rfl Ç (Pz W5.dk hm' RW a1 a2 a3 À À (by rw[hr'];exact hok)) λF H6 hF s6 e6=>ã (áb "fit" true (hT5.same s6) (Ŀ (Ė ⟨hi',hj',hok,Z,Z,s15.trans s6⟩))) q
end
open PySem L2 PyProof.Rows
noncomputable def X4(r p:Nat):Ŧa:=(Ĵ r).flatMap λa=>(Ĵ p).map λb=>4*a+b
theorem Ex(r p:Nat):X4 (r+1) p=X4 r p++(Ĵ p).map λb=>4*r+b:=by
 unfold X4;rw[List.range_succ,List.flatMap_append];simp
theorem JZ:∀r p:_root_.Fin 5,î (X4 r.val p.val)<=16:=Â
theorem Kn:∀r p:_root_.Fin 5,X4 r.val p.val=(allL r.val p.val).map (phi p.val):=Â
theorem AO:∀r p:_root_.Fin 5,X4 r.val p.val=(Ĵ 16).filter λs=>è (s/4<r.val)&&è (s%4<p.val):=Â
theorem CF(r4:r<=4)(p1:1<=p)(p4:p<=4):∃m,m<2 ^ 16/\X4 r p=ûb/\fw 4 ûb=Ÿb:=by
 refine⟨msum 16 λs=>è (s/4<r)&&è (s%4<p),NG _ _,?_,?_⟩
 ·rw[IH];exact AO (Ąd r) (Ąd p)
 ·rw[IH,<- AO (Ąd r) (Ąd p),Kn (Ąd r) (Ąd p)];exact Ve (Xw p1 p4) _
theorem Rp(hj:j<4):(YJ 4 (4*a+j)).map kV=[Žb (ũ a),Ó j]:=by
 unfold YJ;rw[show(4*a+j)/4=a by omega,show(4*a+j)%4=j by omega];rfl
structure PL6(H:Hp)(L:Z1)(ps:śd Z1):Prop where
 l:H L=Ù ĭd
 c:∀q∈ps,H q.2=Ĥ ((YJ 4 q.1).map kV)
theorem PL6.same{H H':Hp}{L:Z1}{ps:śd Z1}(h:PL6 H L ps)(s:Ŀd):PL6 H' L ps:=ã (s _ _ h.l) (λq hq=>s _ _ (h.c q hq))
theorem Kd{H:Hp}{b M:Z1}{xs ys:ĝ}(h1:H b=Ĥ xs)(h2:H M=Ù ys):b≠M:=XY h1 h2 (by intro z;cases z)
theorem PL6.grow{H:Hp}{L:Z1}{ps qs:śd Z1}(h:PL6 H L ps)(hq:∀q∈qs,H q.2=Ĥ ((YJ 4 q.1).map kV)):PL6 (Ï H L ((ĭd)++Õb (λq=>Ŷ q.2))) L (ps++qs) :=
 ã (by rw[ZI,W2]) (λq hq'=>by
  have:H q.2=Ĥ ((YJ 4 q.1).map kV):=(ũd hq').elim (h.c q) (hq q);rw[ZP (Kd this h.l)]
  exact this)
structure Ak(kv:ĩc)(m:Nat):Prop where
 len:kv.length<=m
 val:∀k v,valV kv k=ôc->∃z:Nat,v=Ó z
theorem Ak.put{kv:ĩc}{m:Nat}(h:Ak kv m)(k:Đ)(z:Nat):Ak (putK kv k (Ó z)) (m+1):=by
 refine ã (WB (RB kv k _) (by have:=h.len;omega)) (λk' v e=>?_);rw[SY]at e
 by_cases c:k'=k
 ·rw[ZH c]at e;cases e;exact ã z Z
 ·rw[ZE c]at e;exact h.val k' v e
theorem Ak.get{kv:ĩc}{m:Nat}(h:Ak kv m)(k:Đ):∃z:Nat,(valV kv k).getD (ô 0)=Ó z:=by
 cases e:valV kv k with
 |none=>exact ã 0 Z
 |some v=>obtain⟨z,rfl⟩:=h.val k v e;exact ã z Z
section
variable {P:Z3}{w:Z5}{K:ZC}{mg:Ą}{base:Z8}{C:Z1}{cs:ãb}
theorem Vc{H H':Hp}{d x:Z1}{kvs:ŷb}(h:Ñc H d)(n:d≠x)(f:∀b o,ŕa x)(hx:∀ys,H x≠Ĥ ys):Ñc H' d:=by
 refine h.keeps ?_ λb ys e=>f b _ (λz=>hx _ (by rw[<- z];exact e)) e;obtain⟨xs,e,_⟩:=h;rw[f d _ n e,e]
inductive spSG(P:Z3)(w:Z5)(C:Z1)(vs:ĝ)(H:Hp)(Q:VK)(z3_:XK):Prop
 |mk (a dx kn ak:Z1) (fs:ġa V) (c m:Nat) (kvs:ŷb) (akv:ĩc) (h0:vs=[œ,Ó c,Ê kn,Ê ak]) (h1:Ŵb fs) (h2:Ġb (ć "say")=none) (h3:Ñc H kn) (h4:KnN kvs) (h5:H ak=Ã (.dT akv)) (h6:Ak akv m) (h7:m<=100) (h8:∀H' kvs' akv',(∀b o,b≠kn->ŕa ak)->DN P w H' kn kvs'->KnN kvs'->H' ak=Ã (.dT akv')->Ak akv' (m+1)->Q Ĩ H')
noncomputable abbrev sgN:ù:=["desk","cell","known","asked","r","p","told","cells","a"]
theorem sc_sg:ä sgN Òe SS:=scm
noncomputable abbrev sgX(P:Z3)(w:Z5)(K:ZC)(mg:Ą)(base:Z8)(f:Z1)(gv:Z0)(A:Z4)(ou:êb)(s:Z2)(H:Hp)(E:XK):Cx:=Çb sgN "_law_size_good" SS gv ou
noncomputable def sgS(k:Nat):Z6:=ÿ SS k
theorem Mz(T:ûa)(hstr:Þc) (htup:ě "tuple") (D:é "_law_size_good" SS Òe) (G:Ů) (G1:ļb 17 16):ĳ:=by
 refine Á sc_sg
 ·obtain⟨a,dx,kn,ak,fs,c,m,kvs,akv,rfl,_⟩:=h;rfl
 ·obtain⟨a,dx,kn,ak,fs,c,m,kvs,akv,rfl,ha,hfs,hdn,hkn,hak,hAk,hm,q⟩:=h;have nd:=sc_sg.nd;have nd1:(["b","a"]:ù).Nodup:=Â
  have hr17:Îb 17 ł:=Ĩd;have hu1:=UP hr;have hu:öd ł:=UW Ł hu1;have B0:Ŕc 0:=K1 (i:=4) (j:=5) rfl nd rfl rfl Ç rfl rfl (į (ZN WS ó ZB) (Ča ó ZB)) rfl;have B1:Ŕc 1:=ša WH (Ča ó ZB) ZB (ZL (È 4 (Ča ó ZB)));have B2:Ŕc 2:=pifF (pcm o_gt (CW hu1 Żc (US (ýa ŕc 5)) ZB ⟨Z,Z,Z,Z⟩) ZB);have B3:Ŕc 3:=Q5 hu1 Żc (US (ýa ŕc 5)) (ZN U7 (CW hu1 Żc (US (ýa ŕc 5)) ZB ⟨Z,Z,Z,Z⟩) ZB) rfl;have B4:Ŕc 4:=È 6 (ďb ZR (Ďa (ß 4)) (Ďa (ß 5)));have B5:Ŕc 5:=ZZ (WO (PW.pt (RV (PV o_le o_le ZB ŕc ZB) (PB (PV o_le o_le ZB (pv 5) ZB))))) (Ġ (ťa 6 ZR)) W0;have B6:Ŕc 6:=Ćd 7;have B7:Ŕc 7:=ŷ (ňb (ß 4)) (YQ (i:=8) nd rfl äb) (pv 7) (Ì ["b","a"] [none,Ã 8] SS sgN (ňb (ß 5)) ň Y0 (US (â 1 Ü)))
  have B8:Ŕc 8:=ZU (ťa 6 (Ďa (pa1 (Ýa G1 hr17 (pe_t IQ htup boot_tuple (ß 7)) 2))));have eB:WI SS=[sgS 0,sgS 1,sgS 2,sgS 3,sgS 4,sgS 5,sgS 6,sgS 7,sgS 8]:=by kernel_rfl
  rw[eB];clear eB;generalize sgS 0=S0 at B0 ⊢;generalize sgS 1=S1 at B1 ⊢;generalize sgS 2=S2 at B2 ⊢;generalize sgS 3=S3 at B3 ⊢;generalize sgS 4=S4 at B4 ⊢;generalize sgS 5=S5 at B5 ⊢;generalize sgS 6=S6 at B6 ⊢;generalize sgS 7=S7 at B7 ⊢;generalize sgS 8=S8 at B8 ⊢;have R:PSs ł [S2,S3,S4,S5,S6,S7,S8] (λD σ H1=>∃r p:Nat,σ = [Ú a,Ğe c,Ú kn,Ú ak,Ğe r,Ğe p,none,none,none]/\H1=H/\r<100/\p<6 /\ ∀H' kvs' akv',(∀b o,b≠kn->ŕa ak)->DN P w H' kn kvs'->KnN kvs'->H' ak=Ã (.dT akv')->Ak akv' (m+1)->Úc):=by
   intro pins s' σ H1 D I h;obtain⟨r,p,eσ,eH,hr100,hp6,q⟩:=h;subst eσ;subst eH;refine ZG B2 (Ħ B3 B4 (Ħ B5 B6 (ZG B7 (ZL B8)))) pins s' _ _ D I ?_;clear B0 B1 B2 B3 B4 B5 B6 B7 B8;have nka:kn≠ak:=λz=>by obtain⟨xs,e,_⟩:=hdn;rw[z,hak]at e;cases e
   refine⟨_,Z,ak,Z,Ŀ (Ņ (Ė hak)),_,Z,_,Z,len2,λb1 hb1=>?_⟩;have s1:=snw (o:=.tup şb) hb1;have e1:(Ě H1 b1 şb) b1=Ĥ (([ōc r,ōc p]:Đ).map kV):=ZI;generalize Ě H1 b1 şb=H2 at s1 e1 ⊢;obtain⟨z,hz⟩:=hAk.get [ōc r,ōc p];refine ë (DGet.t (Ųc hak) e1);rw[hz];refine Ŀb _ Z îb
   ·exact q H2 kvs akv (λb o _ _ e=>s1 b o e) (UY hdn s1) hkn (Ųc hak) (ã (Ĉd hAk.len) hAk.val)
   refine⟨_,Z,ak,Z,Ŀ (Ņ (Ė (Ųc hak))),_,Z,_,Z,len2,λb2 hb2=>?_⟩;have s2:=snw (o:=.tup şb) hb2;have e2:(Ě H2 b2 şb) b2=Ĥ (([ōc r,ōc p]:Đ).map kV):=ZI;generalize Ě H2 b2 şb=H3 at s2 e2 ⊢;refine ë (DGet.t (űc (Ųc hak)) e2);rw[hz];refine⟨_,_,Z,Z,_,Z,_,Z,_,Z,len2,λb3 hb3=>?_⟩;have s3:=snw (o:=.tup şb) hb3;have e3:(Ě H3 b3 şb) b3=Ĥ (([ōc r,ōc p]:Đ).map kV):=ZI;generalize Ě H3 b3 şb=H4 at s3 e3 ⊢;have s14:=(Äc).trans s3;have hak4:=s14 _ _ hak;refine⟨ak,_,Z,DPut.t hak4 e3 (UB (by have:=hAk.len;omega)),?_⟩;have ak5:=hAk.put [ōc r,ōc p] (z+1);have ez:Ý (z+1)=Þ z+1:=À
   rw[ez]at ak5;have f5:∀b o,b≠ak->H1 b=ţ->(îa) b=ţ:=λb o n e=>(ZP n).trans (s14 _ _ e);have h5:(îa) ak=_:=ZI;have dn5:Ñc îa kn:=Vc hdn nka f5 (λys e=>by rw[hak]at e;cases e);have na:a≠ak:=λz=>by rw[z,hak]at ha;cases ha
   have ha5:=f5 _ _ na ha;generalize îa=H5 at f5 h5 dn5 ha5 ⊢;have hrl:=VU hr100;have hpl:=VU (show p<100 by omega);have hrl':î (űa (Ý r))<=3:=hrl;have hpl':î (űa (Ý p))<=3:=hpl;have hp10:ũ 10 ^ 10<=Īd:=ŝa Ç;have lgr:(ũ r:Int).natAbs.log2<1920:=VM À;have lgp:(ũ p:Int).natAbs.log2<1920:=VM À;have ll:āb "looks "=6:=Â
   have ls:āb " "=1:=Â
   refine⟨_,Z,_,Z,_,Z,lgr,_,_,Z,Z,Ĭb,_,_,Z,Z,sl6 (by rw[YY];omega),_,Z,_,Z,lgp,_,_,Z,Z,sl6 (by rw[YY,YY];omega),?_⟩;have RW:=Gv (x:=(Ø "looks " ++ űa (Ý r)++Ø " " ++ űa (Ý p))) (i:=r) (j:=p) hr100 À (by
    rw[UN,UN,UN,QX,List.append_assoc,List.append_assoc,show ąa "looks "=Ãd "looks" by decide +kernel,List.append_assoc]
    rfl)
   by_cases hs:(1<=r/\r<=4)/\(1<=p/\p<=4)
   ·obtain⟨⟨r1,r4⟩,p1,p4⟩:=hs;have hfle:Ÿb<=16:=by
     obtain⟨m2,hm2,eb,ef⟩:=CF r4 p1 p4;rw[<- ef,<- eb];exact WB (O6 4 _ _ ħ) (JZ (Ąd r) (Ąd p))
    refine Kv ha5 hfs RW (WB hrl Ç) (WB hpl Ç) r1 r4 p1 p4 (VM À) λF H6 hF s6 e6=>?_;refine Ìa ?_;rw[ZS (show Þ 1<=Ý r by omega)];refine Ŧb (Ŀb _ Z ?_);rw[ZS (show Ý r<=4 by omega)];refine Ŧb (Ìa ?_);rw[ZS (show Þ 1<=Ý p by omega)];refine Ŧb (Ŀb _ Z ?_);rw[ZS (show Ý p<=4 by omega)];refine ĭb (ã len0 Ĵd);have s7:=snw (o:=.lst []) hL;have pl7:PL6 (Ï H6 L []) L []:=ã ZI (λx hx=>nomatch hx);have L0:H5 L=none:=s6.free hL;generalize Ï H6 L []=H7 at s7 pl7 ⊢;have s57:=s6.trans s7;refine⟨_,Z,_,Z,À,À,?_⟩;rw[YR];refine SB (λi σ H8=>∃(ps:śd Z1) (o8:Z9 V),σ = [Ú a,Ğe c,Ú kn,Ú ak,Ğe r,Ğe p,Ú F,Ú L,o8]/\Same H5 H8/\H8 F=Ù [öa,ĉ (ZM (Ý Ÿb))]/\PL6 H8 L ps/\ps.map (·.1)=X4 i p) ⟨[],none,Z,s57,s7 _ _ e6,pl7,Z⟩ ?_ ?_
    ·rintro i σ H8 hi ⟨ps,o8,rfl,s8,e8,pl8,hcm⟩;rw[Int.zero_add];have hpl:=õ hcm;rw[ZD]at hpl;have hc16:=JZ (Ąd i) (Ąd p);have hc16:î (X4 i p)<=16:=hc16;refine⟨_,Z,õb pl8.l,_,Z,_,Z,À,À,?_⟩;rw[YR];refine Ey (λj=>.tup [Ŧd,Ó j]) À (λj hj H9 Q9 s9 q9=>Ğc _ len2 (λT1 hT1=>?_)) λD2 qs H9 hD2 hqm _ hqs s9 eD=>?_
     ·rw[Int.zero_add];exact q9 T1 _ hT1 (snw hT1) ZI
     have pl9:=pl8.same s9;have hql:=õ hqm;rw[ZD,List.length_range]at hql;have hqj:∀x∈qs,x.2<p:=λx hx=>Àc (by rw[<- hqm];exact Ń x hx);have gr:=pl9.grow (qs:=Õb (λx=>(4*i+x.2,x.1))) (λx hx=>by
      obtain⟨y,hy,rfl⟩:=Áb hx;show H9 y.1=Ĥ ((YJ 4 (4*i+y.2)).map kV);rw[Rp (by have:=hqj y hy;omega)]
      exact(hqs y hy).1)
     rw[W7]at gr;refine⟨L,D2,_,_,Z,Z,pl9.l,eD,by rw[ZD,ZD];exact Ĭb,?_⟩;have nFL:F≠L:=λz=>by
      have h1:=s7;have h2:H6 L=none:=hL;rw[<- z,e6]at h2;cases h2
     refine⟨ps++Õb (λx=>(4*i+x.2,x.1)),_,Z,(s8.trans s9).upd L0,(ZP nFL).trans (s9 _ _ e8),gr,?_⟩;rw[W2,hcm,Ex,W7,<- hqm,W7];rfl
    ·rintro σ H8 ⟨ps,o8,rfl,s8,e8,pl8,hcm⟩;obtain⟨m2,hm2,eb,ef⟩:=CF r4 p1 p4;have hcm:ps.map (·.1)=X4 r p:=hcm;have hc16:î (X4 r p)<=16:=JZ (Ąd r) (Ąd p);have hps:ps.length<=16:=by
      have:=õ hcm;rw[ZD]at this;omega
     refine⟨_,Z,_,Z,L,_,Z,ìb (sqo pl8.l) (λt1 ht1=>?_)⟩;have s9:ıb H8 t1 ĭd:=snw ht1;have c9:Cls (Ě H8 t1 ĭd) t1 ps:=ã ZI (λq hq=>s9 _ _ (pl8.c q hq));generalize Ě H8 t1 ĭd=H9 at s9 c9 ⊢;have s59:=s8.trans s9;refine⟨_,Z,t1,kn,ps,m2,kvs,Z,c9,by rw[hcm,eb],hm2,hps,UY dn5 s59,hkn,λkvs' H10 B10 D10 N10=>?_⟩;rw[ef];refine şc Z (VM À) len2 (λp2 hp2=>?_);have sp:=snw (o:=.lst [öa,ĉ (ZM (Ý Ÿb))]) hp2;have nFk:F≠kn:=λz=>by
      obtain⟨xs,e,_⟩:=dn5;rw[<- z,hF]at e;cases e
     have nak:ak≠kn:=ĥ nka;refine⟨F,p2,false,ZM (Ý Ÿb),Z,Z,sp _ _ (B10 _ _ nFk (s9 _ _ e8)),ZI,?_⟩;exact q _ kvs' _ (λb o n1 n2 e=>sp _ _ (B10 b o n1 (s59 _ _ (f5 b o n2 e)))) (UY D10 sp) N10 (sp _ _ (B10 _ _ nak (s59 _ _ h5))) ak5
   ·have hside:Ķb (XE r&&XE p):=by
     unfold XE;rw[Bool.eq_false_iff];intro z;simp only[YT,decide_eq_true_eq]at z;exact hs z
    refine RY (j:=5) ha5 hfs Ç (Nx RW (WB hrl Ç) (WB hpl Ç) hside) λF H6 hF s6 e6=>?_;have fin:∀H7,Same H6 H7->D.rt Ĩ H7:=λH7 s7=>q H7 kvs _ (λb o n1 n2 e=>s7 _ _ (s6 _ _ (f5 b o n2 e))) (UY (UY dn5 s6) s7) hkn (s7 _ _ (s6 _ _ h5)) ak5;refine Ìa ?_
    by_cases c1:Þ 1<=Ý r
    ·rw[ZS c1];refine Ŧb (Ŀb _ Z ?_)
     by_cases c2:Ý r<=4
     ·rw[ZS c2];refine Ŧb (Ìa ?_)
      by_cases c3:Þ 1<=Ý p
      ·rw[ZS c3];refine Ŧb (Ŀb _ Z ?_);rw[ZW (show ¬Ý p<=4 by omega)];exact Ěc
      ·rw[ZW c3];exact ĭb (ža Ěc)
     ·rw[ZW c2];exact ĭb Ěc
    ·rw[ZW c1];exact ĭb (ža (ĭb Ěc))
  refine ĉb B0 B1 R;clear B0 B1 R B2 B3 B4 B5 B6 B7 B8;refine⟨_,Z,_,_,Z,Z,Ç,_,Z,_,_,Z,Z,by constructor<;>decide,_,_,Z,Z,Ç,_,_,Z,?_⟩;refine Àb (by constructor<;>decide) ?_
  ·refine⟨_,Z,_,_,Z,Z,by constructor<;>decide,_,_,Z,Z,Ç,c/144%100,c/6%6,?_,Z,X9 _ Ç,X9 _ Ç,q⟩;rw[show(Þ c/144%100)=Ý (c/144%100) by omega,show(Þ c/6%6)=Ý (c/6%6) by omega];rfl
  ·refine⟨c%6,c/6%6,?_,Z,À,À,q⟩;rw[show(Þ c%6)=Ý (c%6) by omega,show(Þ c/6%6)=Ý (c/6%6) by omega];rfl
end
open PySem L2 PyProof.Rows
noncomputable def OQ:Z7->Z9 Str
 | .Constant (.str x) _ _=>äd
 |_=>none
noncomputable def K5:Z7->Z9 (Str×Str)
 | .Tuple [a,b] _ _=>match OQ a,OQ b with
  |some x,some y=>Ã (x,y)
  |_,_=>none
 |_=>none
noncomputable def OT:Šc->Z9 (ġa Str)
 | []=>Ã []
 |e::es=>match K5 e,OT es with
  |some x,some xs=>Ã (x::xs)
  |_,_=>none
theorem BY(h:OQ e=äd):∃j p,e=ŵa x j p:=by
 unfold OQ at h;split at h
 ·cases h;exact Àe _
 ·cases h
theorem Fd(h:K5 e=äd):∃j1 p1 j2 p2 k p,e=.Tuple [ŵa x.1 j1 p1,ŵa x.2 j2 p2] k p:=by
 unfold K5 at h;split at h
 ·next a b k p =>
  split at h
  ·next u v h1 h2 =>
   cases h;obtain⟨j1,p1,rfl⟩:=BY h1;obtain⟨j2,p2,rfl⟩:=BY h2;exact⟨_,_,_,_,_,_,Z⟩
  ·cases h
 ·cases h
noncomputable abbrev Pq:=ċ Z1 (Str×Str)
noncomputable def PqAt(H0 H:Hp)(q:Z1×Str×Str):Prop:=H q.1=Ĥ [ĉ q.2.1,ĉ q.2.2]/\H0 q.1=none
theorem KS:∀{es:Šc}{xs:ġa Str},OT es=Ã xs->PA X es (λ_ H Q=>∀(qs:Pq) (H':Hp),Ŀd->Õb (·.2)=xs->(∀q∈qs,PqAt H H' q)->Q ņa H')
 | [],xs,h=>by
  cases h;exact λpos pins s σ H Q I q=>U1 pos pins s σ H Q I (q [] H ŵ rfl (λq hq=>nomatch hq))
 |e::es,xs,h=>by
  unfold OT at h;split at h
  ·next u v h1 h2 =>
   cases h;obtain⟨j1,p1,j2,p2,k,p,rfl⟩:=Fd h1;refine λpos pins s σ H Q I q=>ZF (X:=X) (US (į ZR ZR)) (KS h2) rfl pos pins s σ H Q I ?_;refine ã (by show ø 2;decide) (λa ha qs H' s' hm hq=>?_);have sa:=snw (o:=.tup [ĉ u.1,ĉ u.2]) ha;refine q ((a,u)::qs) H' (sa.trans s') (by rw[Y8,hm]) ĵd;rcases ĳd hz with rfl | hz
   ·exact ã (s' _ _ ZI) ha
   ·exact ã (hq z hz).1 (sa.free (hq z hz).2)
  ·cases h
end Seek
namespace Seek
open PySem L2 PyProof.Rows Builtin Builtin.Str
noncomputable def OB:ġa Str:=[("table a","row"),("table A 1","row"),("table a 2 1","text")]
noncomputable def QP:ġa Str:=[("table a ","text"),("cell a 0 0","row"),("looks 4","row")]
noncomputable def QQ:ġa Str:=[("find a 01","row"),("nth a 100","row"),("below a x","row")]
noncomputable def QR:ġa Str:=[("show","row"),("looks 04 4","row")]
theorem Vn:∀p∈OB++QP++QQ++QR,(p.2 = "row" /\ p.1.length<=500/\hfB (spl p.1)=false)\/p=(Ø "table a 2 1",Ø "text")\/p=(Ø "table a ",Ø "text"):=Â
theorem Wu:ĺc (spl "table a 2 1")/\spl "table a 2 1" = [ć "table", "a","2 1"]/\āb "table a 2 1"<=500/\XX "2 1" = false/\āb "2 1"<=500:=Â
theorem Wv:ĺc (spl "table a ")/\spl "table a " = [ć "table", "a",""]/\āb "table a "<=500/\XX "" = false/\āb ""<=500:=Â
theorem Xn:î (ĉa "2 1" "/" "\n")<=2000/\î (ō (ĉa "2 1" "/" "\n") "\n")<=600/\(∀l∈ō (ĉa "2 1" "/" "\n") "\n",l.length<=600)/\ō (ĉa "2 1" "/" "\n") "\n" = [[2,1]].map rowS/\UT [[2,1]]=false:=Â
theorem Xo:î (ĉa "" "/" "\n")<=2000/\î (ō (ĉa "" "/" "\n") "\n")<=600/\(∀l∈ō (ĉa "" "/" "\n") "\n",l.length<=600)/\LB (ĉa "" "/" "\n")=false:=Â
noncomputable def Rfd(C:Z1)(cs:ãb)(H:Hp)(a:Z1)(p:Str×Str):Prop:=∃j,j<7/\p.2=Śd /\ Ĺa p.1 Ĉc
theorem Rfd.same{C:Z1}{cs:ãb}{H H':Hp}{a:Z1}{p:Str×Str}(h:Rfd C cs H a p)(s:Ŀd):Rfd C cs H' a p:=let ⟨j,h1,h2,h3⟩:=h;⟨j,h1,h2,λH1 Q E s1 he=>h3 H1 Q E (s.trans s1) he⟩
theorem rfd0(hd:Ĳb)(hts:ts.length<=50):∀p∈OB++QP++QQ++QR,Rfd C cs H a p:=Ļ (by
 rcases Vn p hp with⟨h1,h2,h3⟩ | rfl | rfl
 ·exact⟨4,Ç,h1,Oa h2 h3⟩
 ·obtain⟨h1,h2,h3,h4,h5⟩:=Wu;obtain⟨k1,k2,k3,k4,k5⟩:=Xn;exact⟨6,Ç,Z,DW hd À h3 h1 h2 h5 h4 (Ŀ ⟨[[2,1]],ő k1 k2 k3,ő Í Í k4,k5⟩)⟩
 ·obtain⟨h1,h2,h3,h4,h5⟩:=Wv;obtain⟨k1,k2,k3,k4⟩:=Xo;exact⟨6,Ç,Z,DW hd À h3 h1 h2 h5 h4 (ìb (ő k1 k2 k3) k4)⟩)
noncomputable def eight:ġa (Str×Str):=[("cell X 0 0 1","cell "," 0 0 1"),("drop X","drop ",""),("find X 1","find "," 1"),("stair X 1","stair "," 1"),("walk X 1","walk "," 1"),("below X 1","below "," 1"),("nth X 1","nth "," 1"),("show X","show ","")]
theorem IC:∀e∈eight,occurrences e.1 "X" 0 e.1.length (e.1.length+1)=[e.2.1.length]/\partsBetween e.1 [e.2.1.length] (āb "X")=[e.2.1,e.2.2]/\e.1.length<=12:=Â
theorem Ny(he:e∈eight)(n:Str):ñ (ĉa e.1 "X" n)=e.2.1.cps.toList++(n.cps.toList++e.2.2.cps.toList):=by
 obtain⟨h1,h2,_⟩:=IC e he;unfold Txt.replace;rw[h1,h2];have:((([e.2.1.length]:Ŧa).isEmpty||(āb "X"==0&&n.length==0))=true)=False:=by
  have hx:Ķb (āb "X"==0):=Â
  rw[hx];simp
 rw[ZE (by rw[this];exact id)];unfold glued;show((e.2.1.cps++n.cps)++e.2.2.cps).toList=_;rw[Array.toList_append,Array.toList_append,List.append_assoc]
theorem num0:ñ (ZM (Ý 0))=[48]/\ñ (ZM 1)=[49]/\ñ (ZM (Ý 1))=[49]:=Â
theorem Lw(he:e∈eight)(hn:ća=true):∃f ws,RowW (ĉa e.1 "X" n) (f::n::ws)/\f ≠ "looks" /\ ľc := by
 have hc:=Ny he n;obtain⟨n0,n1,n1'⟩:=num0;simp only[eight,W9,YH,or_false]at he;rcases he with rfl | rfl | rfl | rfl | rfl | rfl | rfl | rfl
 ·refine îe "cell" (DY (i:=0) (j:=0) (k:=1) hn Ç Ç Ç Ç ?_);rw[hc,n0,n1,show ąa "cell "=Ãd "cell" by decide +kernel,show ąa " 0 0 1"=[32,48,32,48,32,49] by decide +kernel,List.append_assoc];rfl
 ·refine îe "drop" (OA Í hn ?_);rw[hc,show ąa "drop "=Ãd "drop" by decide +kernel,show ąa ""=[] by decide +kernel,List.append_nil,List.append_assoc];rfl
 ·refine îe "find" (P4 (k:=1) Í hn Ç Ç ?_);rw[hc,n1,show ąa "find "=Ãd "find" by decide +kernel,show ąa " 1"=[32,49] by decide +kernel,List.append_assoc];rfl
 ·refine îe "stair" (P4 (k:=1) Í hn Ç Ç ?_);rw[hc,n1,show ąa "stair "=Ãd "stair" by decide +kernel,show ąa " 1"=[32,49] by decide +kernel,List.append_assoc];rfl
 ·refine îe "walk" (P4 (k:=1) Í hn Ç Ç ?_);rw[hc,n1,show ąa "walk "=Ãd "walk" by decide +kernel,show ąa " 1"=[32,49] by decide +kernel,List.append_assoc];rfl
 ·refine îe "below" (P4 (k:=1) Í hn Ç Ç ?_);rw[hc,n1,show ąa "below "=Ãd "below" by decide +kernel,show ąa " 1"=[32,49] by decide +kernel,List.append_assoc];rfl
 ·refine îe "nth" (FC (k:=1) hn Ç ?_);rw[hc,n1',show ąa "nth "=Ãd "nth" by decide +kernel,show ąa " 1"=[32,49] by decide +kernel,List.append_assoc];rfl
 ·refine îe "show" (OA Í hn ?_);rw[hc,show ąa "show "=Ãd "show" by decide +kernel,show ąa ""=[] by decide +kernel,List.append_nil,List.append_assoc];rfl
theorem DX(hd:Ĳb)(he:e∈eight)(hn:ća=true)(ho:n∉îc (·.1)):Rfd C cs H a (ĉa e.1 "X" n, "name"):=by
 obtain⟨f,ws,h1,h2,h3⟩:=Lw he hn;exact⟨2,Ç,Z,Nv hd h1 h2 h3 ho⟩
theorem G0(h:ća=true):Ķb (Ø "X" == n):=by
 rw[VQ];intro z;rw[<- z]at h;exact ń h Â
theorem Fv(h:íe (valV Ėb Öa)=false):n∉us.map (·.1):=λz=>by
 obtain⟨⟨x,t,prs⟩,he,e⟩:=Áb z;have e:x=n:=e;subst e;have:ça x∈(Ėb).map (·.1):=by rw[QC];exact Ń x z
 cases q:valV Ėb (ça x)with
 |none=>exact NY q this
 |some v=>rw[q]at h;cases h
section
variable {P:Z3}{w:Z5}{K:ZC}{mg:Ą}{base:Z8}{C:Z1}{cs:ãb}
inductive spRG(P:Z3)(w:Z5)(C:Z1)(n0:Nat)(vs:ĝ)(H:Hp)(Q:VN)(z4_:XK):Prop
 |mk (a dx d tb:Z1) (n:Nat) (ts us:Ts) (c:Nat) (h0:vs=[œ,Ê tb,Ó c]) (h1:Ĳd) (h2:∀m H',n0<=m->Ŀd->Q m Ĩ H')
noncomputable abbrev rgN:ù:=["desk","tables","cell","rows","gone","words","word","row","due"]
theorem sc_rg:ä rgN č RM:=scm
noncomputable abbrev rgX(P:Z3)(w:Z5)(K:ZC)(mg:Ą)(base:Z8)(f:Z1)(gv:Z0)(A:Z4)(ou:êb)(s:Z2)(H:Hp)(E:XK):Cx:=Çb rgN "_law_refused_good" RM gv ou
noncomputable def rgS(k:Nat):Z6:=ÿ RM k
theorem J1(nd:X.N.Nodup)(hi:X.N[i]?=äd)(hx:Ŋb x)(hf:Ĳ x)(hv:∀p:Pos,Œ (Ďc p) (tVar i))(h:OT es=Ã xs)
  (hs:swapsWith (.BinOp (Ďc p2) .Add (.List es p3) p4) (Ã (Ďc p1)) p5.line X.env=œc:=by rfl):ġd (Ďc p1) (.BinOp (Ďc p2) .Add (.List es p3) p4) p5 (tOp rCat (tVar i) (tLst λ_ H Q=>∀(qs:Pq) (H':Hp),Ŀd->Õb (·.2)=xs->(∀q∈qs,PqAt H H' q)->Q ņa H')) :=
 ZV nd hi hx (ZN SN (hv p2) (WN (KS h))) hs hf
structure Rw(H H1:Hp)(L:Z1)(qs:Pq):Prop where
 sm:ńa H1
 n:ē L
 l:H1 L=Ù ņa
 t:∀q∈qs,H1 q.1=Ĥ [ĉ q.2.1,ĉ q.2.2]
theorem Rw.same{H H1 H2:Hp}{L:Z1}{qs:Pq}(h:Rw H H1 L qs)(s:Same H1 H2):Rw H H2 L qs:=⟨h.sm.trans s,h.n,s _ _ h.l,λq hq=>s _ _ (h.t q hq)⟩
theorem K3(h:Rw H H1 L qs)(hσ:σ[i]?=Ã (Ú L))(hl:qs.length+xs.length<=500)(q:∀L' qs' H',Rw H H' L' (qs++qs')->qs'.map (·.2)=xs->D.nx (ľd (Ú L')) H') :
  tAsg (tOp rCat (tVar i) (tLst λ_ H Q=>∀(qs:Pq) (H':Hp),Ŀd->Õb (·.2)=xs->(∀q∈qs,PqAt H H' q)->Q ņa H')) (WV i) D σ H1:=by
 refine ő _ hσ (λq1 H2 s2 hm hq=>?_);have hl1:=õ hm;rw[ZD]at hl1;refine ã (sl6 (by rw[ZD];omega)) Åc;have sp:=snw (o:=.lst (q1.map λq=>Ŷ q.1)) hp;refine⟨L,p,_,_,Z,Z,sp _ _ (űc h.l),ZI,sl6 (by rw[ZD,ZD];omega),λp2 hp2=>?_⟩;have sp2:=snw (o:=.lst ((ņa)++q1.map λq=>Ŷ q.1)) hp2;refine q p2 q1 _ ⟨h.sm.trans ((s2.trans sp).trans sp2),(h.sm.trans (s2.trans sp)).free hp2,by rw[ZI,W2],ĵd⟩ hm;rcases ũd hz with hz | hz
 ·exact sp2 _ _ (sp _ _ (űc (h.t z hz)))
 ·exact sp2 _ _ (sp _ _ (hq z hz).1)
theorem Su(T:ûa)(D:é "_law_refused_good" RM č) (G:Ů) (G2:ĩa):ėb:=by
 refine éb sc_rg
 ·obtain⟨a,dx,d,tb,n,ts,us,c,rfl,_⟩:=h;rfl
 ·obtain⟨a,dx,d,tb,n,ts,us,c,rfl,W,q⟩:=h;have nd:=sc_rg.nd;have hr2:Îb 2 ŗ:=Ĩd;have hu:öd ŗ:=ąc;have B0:PS ŗ (rgS 0) _:=È 3 (WN (KS (xs:=OB) (by kernel_rfl)));have B1:PS ŗ (rgS 1) _:=J1 (i:=3) nd rfl Ô Ô (λp=>Żc) (xs:=QP) (by kernel_rfl);have B2:PS ŗ (rgS 2) _:=J1 (i:=3) nd rfl Ô Ô (λp=>Żc) (xs:=QQ) (by kernel_rfl);have B3:PS ŗ (rgS 3) _:=J1 (i:=3) nd rfl Ô Ô (λp=>Żc) (xs:=QR) (by kernel_rfl);have B4:PN ŗ (rgS 4) _:=T4 (i:=4) nd rfl Ô (T0 G2 hr2 UZ (SO (â 2 ZB)));have B5:PN ŗ (rgS 5) _:=SL (P3 (Ol (pvw 4) ó)) (Y1 (YG (È 5 (ũb ZR (į ZR ZR)))) (UR (LY PassesOwn.never rfl (Y7 (ZN SN (pv 5) (ũb ZR (į ZR ZR)))) (YQ (i:=6) nd rfl Ô) (UR (Pn (Ty X3 QI QH TC Żc (V8 (Pk (V8 (DQ (i:=4) (UI (pv 6))) (V8 (UI ZR) SZ))) SZ))))))) KJ
  have B6:PS ŗ (rgS 6) _:=P1 (ă 3 (Ħc 2 (pln T Żc))) (P0 rfl (XO (YQ (i:=7) nd rfl Ô) (XO (YQ (i:=8) nd rfl Ô) P9)));have B7:PS ŗ (rgS 7) _:=ZU (Æe (X7 hu) (UX G hr UZ (ýa Ü 7)) (WN (ýa U9 8)));have eB:WI RM=[rgS 0,rgS 1,rgS 2,rgS 3,rgS 4,rgS 5,rgS 6,rgS 7]:=by kernel_rfl
  rw[eB];clear eB;generalize rgS 0=S0 at B0 ⊢;generalize rgS 1=S1 at B1 ⊢;generalize rgS 2=S2 at B2 ⊢;generalize rgS 3=S3 at B3 ⊢;generalize rgS 4=S4 at B4 ⊢;generalize rgS 5=S5 at B5 ⊢;generalize rgS 6=S6 at B6 ⊢;generalize rgS 7=S7 at B7 ⊢;have R:PSs ŗ [S6,S7] (λD σ H1=>∃(L:Z1) (qs:Pq) (o4 o5 o6:Z9 V),σ = ųc o4 o5 o6/\Rw H H1 L qs/\qs≠[]/\(∀z∈qs,Rfd C cs H a z.2)/\∀H',Ŀd->Úc):=by
   intro pins s' σ H1 D I h;obtain⟨L,qs,o4,o5,o6,rfl,hR,hne,hrf,q⟩:=h;refine ZG B6 (ZL B7) pins s' _ H1 D I ?_;clear B0 B1 B2 B3 B4 B5 B6 B7;have h0:0<qs.length:=Åe hne;have hm:(c/8)%qs.length<qs.length:=X9 _ h0;have hz:=YE hm;refine⟨_,Z,_,Z,_,_,Z,Z,by constructor<;>decide,_,Z,L,_,Z,Ė (sqo hR.l),_,_,Z,Z,by rw[ZD];omega,L,_,_,Ŷ (qs[(c/8)%qs.length]).1,Z,Z,sqo hR.l,?_,?_⟩
   ·rw[ZD,show(Þ c/8%Þ qs.length)=Ý ((c/8)%qs.length) by rw[Int.natCast_emod,Int.natCast_ediv];rfl];exact WE (by rw[ZX,WA hm];rfl)
   generalize qs[(c/8)%qs.length]=z at hz;refine Ąa z.1 (hR.t z hz);obtain⟨j,hj,ed,hrf2⟩:=(hrf z hz).same hR.sm;refine şc Z _ Z ?_;refine RY (hR.sm _ _ W.dk.ob) rfl hj hrf2 λF H2 hF s2 e2=>Óe len2 (Ļ ⟨F,p,true,z.2.2,Z,Z,?_,ZI,q _ ((hR.sm.trans s2).trans (snw hp))⟩);rw[ed];exact snw hp _ _ e2
  refine ë (įa B0 B1 (įa B2 B3 (Y1 B4 (Y1 B5 (FA R)))));clear B0 B1 B2 B3 B4 B5 B6 B7 R;have hts:=W.tlen;have rf0:=rfd0 (cs:=cs) W.dk hts;intro q0 H1 s1 hm0 hq0;have hl0:=õ hm0;rw[ZD]at hl0;have hl0:q0.length=3:=hl0;refine ã (sl6 (by rw[ZD];omega)) Åc;have R0:Rw H (Ï H1 p (q0.map λq=>Ŷ q.1)) p q0:=⟨Ľ (snw hp),ğd hp,ZI,λz hz=>snw hp _ _ (hq0 z hz).1⟩;generalize Ï H1 p (q0.map λq=>Ŷ q.1)=H2 at R0 ⊢;refine K3 (xs:=QP) R0 rfl (by rw[hl0];decide) λL1 q1 H3 R1 hm1=>?_;have hl1:=õ hm1;rw[ZD]at hl1;have hl1:q1.length=3:=hl1;refine K3 (xs:=QQ) R1 rfl (by rw[WK,hl0,hl1];decide) λL2 q2 H4 R2 hm2=>?_;have hl2:=õ hm2;rw[ZD]at hl2;have hl2:q2.length=3:=hl2;refine K3 (xs:=QR) R2 rfl (by rw[WK,WK,hl0,hl1,hl2];decide) λL q3 H5 R3 hm3=>?_;have hl3:=õ hm3;rw[ZD]at hl3;have hl3:q3.length=2:=hl3;obtain⟨qs,eqs⟩:∃qs:Pq,qs=q0++q1++q2++q3:=Ôe;have hqm:Õb (·.2)=OB++QP++QQ++QR:=by rw[eqs,W2,W2,W2,hm0,hm1,hm2,hm3]
  have hql:qs.length=11:=by rw[eqs,WK,WK,WK,hl0,hl1,hl2,hl3]
  rw[<- eqs]at R3;clear eqs R0 R1 R2 hm0 hm1 hm2 hm3 hl0 hl1 hl2 hl3;have hrf:∀z∈qs,Rfd C cs H a z.2:=λz hz=>rf0 z.2 (by rw[<- hqm];exact Ń z hz);refine⟨_,Z,Þ c,7,Z,λx m m' H6 hnam hnm hmm s6=>?_⟩;have R6:=R3.same s6;have W6':=W.same R6.sm;have hnf:=VX hnam;refine⟨x,ã m' Z,_,Z,tb,n,x,Ėb,Z,Z,W6'.l.g,_,Z,?_⟩;cases hv:íe (valV Ėb (ça x)) with
  |true=>exact ĭb ⟨L,qs,_,_,_,Z,R6,(λz=>by rw[z]at hql;cases hql),hrf,λH' s'=>q m H' hnm s'⟩
  |false =>
   have hout:x∉îc (·.1):=by
    rw[<- J8 W.e];exact Fv hv
   refine Ŧb (ã (sl6 Ç) (λw1 hw1=>?_));have s7:=snw (o:=.lst [Æd "cell X 0 0 1", ĉ "drop X", ĉ "find X 1", ĉ "stair X 1"]) hw1;have e7:(Ï H6 w1 [Æd "cell X 0 0 1", ĉ "drop X", ĉ "find X 1", ĉ "stair X 1"]) w1=_:=ZI;generalize Ï H6 w1 [Æd "cell X 0 0 1", ĉ "drop X", ĉ "find X 1", ĉ "stair X 1"]=H7 at s7 e7 ⊢;refine Óe (sl6 Ç) (λw2 hw2=>?_);have s8:=snw (o:=.lst [Æd "walk X 1", ĉ "below X 1", ĉ "nth X 1", ĉ "show X"]) hw2;have e8:(Ï H7 w2 [Æd "walk X 1", ĉ "below X 1", ĉ "nth X 1", ĉ "show X"]) w2=_:=ZI;generalize Ï H7 w2 [Æd "walk X 1", ĉ "below X 1", ĉ "nth X 1", ĉ "show X"]=H8 at s8 e8 ⊢;refine⟨w1,w2,_,_,Z,Z,s8 _ _ e7,e8,sl6 Ç,λw3 hw3=>?_⟩;have s9:Ĝa H8 H8 w3 ţa:=snw hw3;have e9:(Ï H8 w3 ţa) w3=Ù ţa:=ZI;have R9:=R6.same ((s7.trans s8).trans s9);have nLw:w3≠L:=λz=>by
    have:=(R6.same (s7.trans s8)).l;rw[<- z,hw3]at this;cases this
   have goal:∀H9:Hp,Rw H H9 L qs->H9 w3=Ù ţa->nFor (λ_ _ R=>R (Itl K w3) H9) (WV 6) (IX (nBM K "list" DB (tVar 3) (OC (nTup (OC (IZ "X" 4 (nE (tVar 6))) (OC (nE (tC (ĉ "name"))) nNil))) nNil))) { nx:=λn1 σ2 H2=>(nS λD σ H1=>∃(L:Z1) (qs:Pq) (o4 o5 o6:Z9 V),σ = ųc o4 o5 o6/\Rw H H1 L qs/\qs≠[]/\(∀z∈qs,Rfd C cs H a z.2)/\∀H',Ŀd->Úc) { nx:=λn _ H'=>Q n .non H',rt:=Q } n1 σ2 H2,rt:=Q } m (ųc (Ã (.sT x m')) (Ú w1) none) H9:=by
    intro H9 R9 e9;refine Kc (K:=K) (xs:=ţa) (λi n1 σ H10=>∃(o6:Z9 V) (q4:Pq),σ = ųc (Ã (.sT x m')) (Ú w1) o6/\Rw H H10 L (qs++q4)/\H10 w3=Ù ţa/\(∀z∈q4,Rfd C cs H a z.2)/\q4.length=i/\m<=n1) ⟨none,[],Z,by rw[List.append_nil];exact R9,e9,(λz hz=>nomatch hz),Z,ħ⟩ (λi n1 σ H10 _ ⟨_,_,_,_,e,_⟩=>sqo e) ?_ ?_
    ·rintro i y n1 σ H10 hy ⟨o6,q4,rfl,R10,e10,h10,l10,hm10⟩;rw[ZX]at hy;cases he:eight[i]? with
     |none=>rw[he]at hy;cases hy
     |some e =>
      rw[he]at hy;have hy:Æd e.1=y:=WC hy;subst hy;have hem:=UF he;have hi8:i<8:=Ăb he;obtain⟨_,_,c3⟩:=IC e hem;refine⟨_,Z,õb R10.l,_,Z,e.1,x,m',Z,Z,À,G0 hnam,À,À,len2,λT1 hT1=>?_⟩;have s11:=snw (o:=.tup [ĉ (ĉa e.1 "X" x),ĉ "name"]) hT1;have e11:(Ě H10 T1 [ĉ (ĉa e.1 "X" x),ĉ "name"]) T1=_:=ZI;generalize Ě H10 T1 [ĉ (ĉa e.1 "X" x),ĉ "name"]=H11 at s11 e11 ⊢;have R11:=R10.same s11;refine⟨L,_,_,Z,Z,R11.l,UB (by rw[ZD,WK];omega),_,q4++[(T1,ĉa e.1 "X" x,Ø "name")],Z,⟨R11.sm.upd R11.n,R11.n,?_,ĵd⟩,?_,ĵd,by rw[WK,l10];rfl,hm10⟩
      ·rw[ZI,<- List.append_assoc,W2 (l₂:=[(T1,ĉa e.1 "X" x,Ø "name")])];rfl
      ·have:H11 z.1=Ĥ [ĉ z.2.1,ĉ z.2.2]:=by
        rw[<- List.append_assoc]at hz;rcases ũd hz with hz | hz
        ·exact R11.t z hz
        ·rw[V3.mp hz];exact e11
       rw[ZP (XY this R11.l (λz=>nomatch z))];exact this
      ·exact(ZP nLw).trans (s11 _ _ e10)
      ·rcases ũd hz with hz | hz
       ·exact h10 z hz
       ·rw[V3.mp hz];exact DX W.dk hem hnam hout
    ·rintro n1 σ H10 ⟨o6,q4,rfl,R10,e10,h10,l10,hm10⟩;refine⟨L,qs++q4,_,_,_,Z,R10,(λz=>by have:=õ z;rw[WK,hql]at this;simp at this),ĵd,λH' s'=>q n1 H' À s'⟩;rcases ũd hz with hz | hz
     ·exact hrf z hz
     ·exact h10 z hz
   exact⟨w3,Z,Ņ (sqo e9),goal _ R9 e9⟩
end
end Seek
namespace Seek
open PySem L2 PyProof.Rows Builtin Builtin.Str
theorem L6.drop{P:Z3}{w:Z5}{H H4:Hp}{tb:Z1}{n:Nat}{us:Ts}{x:Str}(h:żc H)(hf:∀c,c≠tb->H4 c=H c)(hg:DG P w H4 tb n (VD Ėb (ça x))):L6 P w H4 tb n (VE us x):=by
 have nl:∀b xs,H b=Ù xs->H4 b=Ù xs:=λb xs e=>by
  refine(hf b Îc).trans e;obtain⟨vs,e2,_⟩:=h.g;rw[z,e2]at e;cases e
 have tt:∀{t:Z1}{prs:Prs},ľ->ıd H4:=Ĥc;rw[CK us x]at hg;exact⟨hg,ůc (tt (h.T e (QA he).1).1) (QA he).1,λe he=>h.b e (QA he).1,λe he=>h.m e (QA he).1,BD h.nd x⟩
section
variable {P:Z3}{w:Z5}{K:ZC}{mg:Ą}{base:Z8}{C:Z1}{cs:ãb}
inductive spDG(P:Z3)(w:Z5)(C:Z1)(n0:Nat)(vs:ĝ)(H:Hp)(Q:VN)(z4_:XK):Prop
 |mk (a dx d tb t:Z1) (n m k:Nat) (ts us:Ts) (nm:Str) (prs:Prs) (h0:vs=[œ,Ê tb,.sT nm m,Ó k]) (h1:Ĳd) (h2:(nm,t,prs)∈us) (h3:m<=n0) (h4:∀n1 H' ts' us',n0<=n1->(∀b o,b≠d->ŕa tb)->Ż H' ts' us'->us'.length<=us.length->Q n1 Ĩ H')
noncomputable abbrev dgN:ù:=["desk","tables","name","k","rows"]
theorem sc_dg:ä dgN õa RS:=scm
noncomputable abbrev dgX(P:Z3)(w:Z5)(K:ZC)(mg:Ą)(base:Z8)(f:Z1)(gv:Z0)(A:Z4)(ou:êb)(s:Z2)(H:Hp)(E:XK):Cx:=Çb dgN "_law_drop_good" RS gv ou
noncomputable def dgS(k:Nat):Z6:=ÿ RS k
theorem Mn(kc:ţc)(D:é "_law_drop_good" RS õa) (M:żb) (G:Ů):Ž:=by
 refine éb sc_dg
 ·obtain⟨a,dx,d,tb,t,n,m,k,ts,us,nm,prs,rfl,_⟩:=h;rfl
 ·obtain⟨a,dx,d,tb,t,n,m,k,ts,us,nm,prs,rfl,W,hm,hmn,q⟩:=h;have nd:=sc_dg.nd;have hr38:Îb 38 řa:=Ĩd;have hu:öd řa:=ąc;have B0:PS řa (dgS 0) _:=Y9 (Pd ó (pvw 2) ⟨Z,Z,Z,Z⟩);have B1:PS řa (dgS 1) _:=È 4 (ũb ZR (ZF ZR (ZF ZR (ZF ZR (ZF ZR (į ZR ZR))))));have B2:PS řa (dgS 2) _:=pifF (pcm SJ (O8 M kc.cls hr38 UZ Ü (pa1 (ZN UC ZR (pvw 2)))) ZR);have B3:PN řa (dgS 3) _:=ON (KH (X7 hu) (T0 G.toN hr UZ (V8 (UI Ü) (V8 (DQ (i:=2) (UI (ă 4 (ċa WS 3)))) SZ))) (UI (WN (į U9 ZR))) (U0 _));have eB:WI RS=[dgS 0,dgS 1,dgS 2,dgS 3]:=by kernel_rfl
  rw[eB];clear eB;generalize dgS 0=S0 at B0 ⊢;generalize dgS 1=S1 at B1 ⊢;generalize dgS 2=S2 at B2 ⊢;generalize dgS 3=S3 at B3 ⊢;refine ë (įa B0 B1 (Y1 (YG B2) (UR B3)));clear B0 B1 B2 B3;have hnm:Y2 nm.cps.toList=true:=W.l.m _ hm;have hnf:=VX hnm;obtain⟨t',prs',hm',hr'⟩:=PM W.e hm;refine⟨_,Z,tb,Z,ő n Ėb W.l.g,nm,ã m Z,n,nm,Ėb,Ê t,Z,W.l.g,VW W.l.nd hm,λH1 hf1 hg1=>?_⟩;have l1:=W.l.drop hf1 hg1;obtain⟨vs0,etb,_⟩:=W.l.g;have d1:=W.dk.frT hf1 etb;refine ã (by show ø 8;decide) Ĵd;have s2:Ĝa H1 H1 L [Æd "cell X 0 0 1", ĉ "drop X", ĉ "find X 1", ĉ "stair X 1", ĉ "walk X 1", ĉ "below X 1", ĉ "nth X 1", ĉ "show X"]:=snw hL;have e2:(Ï H1 L [Æd "cell X 0 0 1", ĉ "drop X", ĉ "find X 1", ĉ "stair X 1", ĉ "walk X 1", ĉ "below X 1", ĉ "nth X 1", ĉ "show X"]) L=Ù ţa:=ZI;generalize Ï H1 L [Æd "cell X 0 0 1", ĉ "drop X", ĉ "find X 1", ĉ "stair X 1", ĉ "walk X 1", ĉ "below X 1", ĉ "nth X 1", ĉ "show X"]=H2 at s2 e2 ⊢;have d2:=d1.same s2;have l2:=l1.same s2;have ld:āb "drop "=5:=Â
  have RW:=OA (f := "drop") (x:=Ø "drop " ++ nm) Í hnm (by
   rw[UN,show ąa "drop "=Ãd "drop" by decide +kernel,List.append_assoc]
   rfl)
  refine⟨_,Z,a,dx,_,Z,d2.ob,Z,nm,ã m Z,_,_,Z,Z,Ĭb,Ė ⟨a,dx,d,t',ts,_, "drop",nm,[],prs',Z,d2,RW.l,by rw[RW.s];exact RW.f,RW.s,Â,Â,hm',λp H3 hp s3 e3=>Ŀ (Ŀ (Ŀ ⟨a,dx,d,p,t',ts,nm,prs',Z,d2.same s3,by rw[RW.s]at e3;exact e3,hm',?_⟩))⟩⟩;refine⟨Z,_,Z,?_⟩;rw[YD (r:=true) Â];have d4:=(d2.same s3).drop6 nm;have f4:∀b o,b≠d->H2 b=ţ->(ſa H3 d (VD Łc (ça nm))) b=ţ:=λb o nb e=>(ZP nb).trans (øe e);have l4:=l2.fr6 (d:=d) f4 d2.D;have nLd:L≠d:=λz=>by rw[z,d2.D]at e2;cases e2
  have e4:=f4 _ _ nLd e2;generalize ſa H3 d (VD Łc (ça nm))=H4 at d4 f4 l4 e4 ⊢;have hk8:k%8<eight.length:=X9 _ Ç;have hem:=YE hk8;have hek:(ţa)[k%8]?=Ã (Æd (eight[k%8]).1):=by rw[ZX,WA hk8];rfl
  generalize eight[k%8]=e at hem hek;obtain⟨_,_,c3⟩:=IC e hem;have W4:Ż H4 (VE ts nm) (VE us nm):=⟨d4,l4,Rf W.e nm,WB (X2 _ _) W.len⟩;refine ĭb ⟨_,Z,_,Z,_,Z,_,_,Z,Z,Ç,L,_,_,Æd e.1,Z,Z,sqo e4,?_,e.1,nm,m,Z,Z,hmn,G0 hnm,À,À,?_⟩
  ·rw[show(Ùe%8)=Ý (k%8) by omega];exact WE hek
  obtain⟨j,hj,ed,hrf⟩:=DX (cs:=cs) d4 hem hnm (Lv ts nm);refine RY d4.ob rfl hj hrf λF H5 hF s5 e5=>ã len2 (λp2 hp2=>?_);have s6:=snw (o:=.lst [Ĩ,ĉ "name"]) hp2;rw[<- ed]at e5;refine⟨F,p2,true, "name",Z,Z,s6 _ _ e5,ZI,q n0 _ _ _ ħ (λb o n1 n2 e=>s6 _ _ (s5 _ _ (f4 b o n1 (űc ((hf1 b n2).trans e))))) (W4.same (s5.trans s6)) (X2 _ _)⟩
end
open PySem L2 PyProof.Rows
theorem Lg{X:Cx}{tg iter elt:Z7}{ifs:Šc}{scope:Scope}{pos:Pos}{wi:TI}{g:TG}{tc:TT}{te:TE}(N':ù)(ix:Æ ğc)(hc:èa)(hi:ęc)(ok:TR X.env.scope scope X.N N' ix=true)
  (hg:∀cl C s2 H2 ex,īd) (ht:∀cl C s2 H2 ex,Öd) (he:∀cl C s2 H2 ex,PE Ăa elt te)
  (hs:∀x,ča=pure x:=by intro _;rfl):Œ (ý tg ifs) (OG wi g tc te ix):=WU N' ix X.env.scope X.N hc hi ok hg ht he rfl rfl hs
theorem Go(K:ZC)(hl:Œ l tl)(hK:X.K=K:=by rfl):PI X tg l (L3 K tl):=by subst hK;exact Y7 hl
end Seek
namespace Seek
open PySem L2 PyProof.Rows Builtin Builtin.Str
theorem Eg:47∉ñ (ZM n):=λh=>by
 cases n with
 |ofNat m =>
  rw[show Int.ofNat m=Þ m from rfl,X8]at h;have:=TB m 47 h;omega
 |negSucc m =>
  rw[RD]at h;rcases ĳd h with z | z
  ·omega
  ·have:=TB _ 47 z;omega
theorem Cd(r:Ċ):47∉ñ (rowS r):=by
 unfold rowS;rw[YO,VY];exact NS Ç λw hw=>by
  obtain⟨n,hn,rfl⟩:=Áb hw;exact Eg
theorem GH:(Ø "/")=ű #[47]:=Â
theorem LW(h:prs≠[]):Ñd=Òb #[47] ((ð).map rowS):=by
 unfold shS;rw[TJ,GH,StrLaws.replace_one,<- TJ,Zi (by simpa using h)]
theorem C0(h:prs≠[]):ĉa Ñd "/" "\n" = tabS ð:=by
 rw[LW h,GH,StrLaws.replace_one,<- VY,QF (by simpa using h) (λw hw=>by
  obtain⟨r,hr,rfl⟩:=Áb hw
  exact Cd r)]
 unfold tabS;rw[TJ,VY]
theorem Tp(h:prs≠[]):XX Ñd=false:=by
 have hf:10∉ñ Ñd:=ú (LW h) (NS Ç λw hw=>by
   obtain⟨r,hr,rfl⟩:=Áb hw;exact AG r)
 unfold XX;rw[PySem.W.occ_nil_of_no (lim:=1) (h:=λi hi=>?_)]
 ·rfl
 rw[StrLaws.subAt_eq,TJ,VQ];intro z;refine hf (List.mem_of_mem_drop (i:=i) (List.mem_of_mem_take (i:=1) ?_));have z:List.take 1 (List.drop i (ñ Ñd))=[10]:=z;rw[z];exact V3.mpr rfl
theorem AK(c d:Nat):∀ws:ù,Õd #[c] ws=Õd #[d] ws
 | []=>rfl
 | [w]=>by rw[VJ,VJ]
 |w::x::r=>by
  rw[VJ,VJ,WK,WK,YL,YL,AK c d (x::r)]
theorem ES(h:prs≠[]):î Ñd=î (tabS ð):=by
 rw[LW h,<- WR,AK 47 10,<- VY];unfold tabS;rw[TJ,WR]
theorem Qv(hg:Ĕ)(hb:∀p∈prs,Bd50 p.2):SF (tabS ð)/\RowsOf (tabS ð) ð:=by
 obtain⟨g,g1,g2,g3,g4⟩:=łd;have g2:ėa:=g2;have hne:prs≠[]:=λz=>by rw[z]at g1;simp at g1
 have hs:=Zi (rows:=ð) (by simpa using hne);refine⟨ő (MM hg hb) ?_ (λl hl=>?_),by simpa using hne,λr hr=>?_,hs⟩
 ·rw[hs,ZD,ZD];omega
 ·rw[hs]at hl;obtain⟨r,hr,rfl⟩:=Áb hl;obtain⟨q,hq,rfl⟩:=Áb hr;exact WB Ņd Ç
 ·obtain⟨q,hq,rfl⟩:=Áb hr;intro z;have:=g.len q hq;rw[z]at this;have:0=ĺ:=this;omega
theorem Ld(hd:Ĳb)(hts:ts.length<=900)(hn:ća=true)(hg:Ĕ)(hb:∀p∈prs,Bd50 p.2)(hx:x.cps.toList=ąa "table"++32::(Ũd (ñ Ñd)))
  (q:∀t' prs' H',prs'.map (·.2)=ð->(∀b o,ŕa d)->Ď H' (ùd n)->Q (ĉ "ok") H'):spOk C c9 [œ,íd] H Q E:=by
 obtain⟨g,g1,g2,g3,g4⟩:=łd;have hne:prs≠[]:=λz=>by rw[z]at g1;simp at g1
 have hl:=MM hg hb;have hsl:=ES hne;have RW:=Gw hn (by rw[hsl];exact hl) hx;obtain⟨t1,t2⟩:=Qv hg hb;refine Ŀ (Ŀ ⟨a,dx,d,ts,x,n,Ñd,Z,hd,À,RW.l,by rw[RW.s];exact RW.f,RW.s,λH1 s1=>Óe À (Ŀ ⟨Tp hne,_,_,Z,ú (C0 hne) t1,ú (C0 hne) t2,by rw[<- SD rfl];exact hg,λt' prs' H2 _ _ s2 hT2 hr2=>ųb s2⟩)⟩);have d2:=(Ęc).same s2;exact q t' prs' _ hr2 (λb o nb e=>(ZP nb).trans (űc (Ųc e))) (d2.put6 hT2 (ú (O2 hr2) hg))
end Seek
namespace L2
open PySem PySem.Spec PyProof.Rows Builtin Builtin.Str
section
variable {X:Cx}{a b c e o i value:Z7}{es:Šc}{ta:TE}{tn:TAN}{te:TEN}{pos pos':Pos}{st:Z6}{rest:Æ Z6}{td ty tv:TE}
theorem Tx(h:ùe e te):Œ e (ďa (te 0 σ H λ_=>Q)):=λpins s σ H Q I q=>thn (h pins s σ H 0 _ (WW _) I q) λ_ _ ⟨_,_,z⟩=>z
theorem Pw(h:PNs X rest t):PSs X rest (λD σ H=>t { nx:=λ_=>D.nx,rt:=λ_=>D.rt } 0 σ H):=λpins s σ H D I q=>thn (h pins s σ H 0 _ (WW _) I q) λf _ ⟨_,_,z⟩=>by
 cases f with
 |next=>exact z
 |ret v=>exact z
 |brk=>obtain⟨_,_,_,z⟩:=z;exact Ő z
 |cont=>obtain⟨_,_,_,z⟩:=z;exact Ő z
theorem pn6(h:PN X st t)(k:∀D n σ H,t' D n σ H->t D n σ H):PN X st t':=ëe (h pins s σ H n D hn I (k D n σ H q))
theorem pns6(h:PNs X rest t)(k:∀D n σ H,t' D n σ H->t D n σ H):PNs X rest t':=ëe (h pins s σ H n D hn I (k D n σ H q))
noncomputable def nMx(C:Z1)(m:Str)(sp:Sp)(R:St->Ť Z0)(ta:TE)(t:TAN):TEN:=Äd (ta σ H λx H1=>∃(a dx:Z1) (fs:ġa V),x=œ/\H1 a=Ã (Ŧ fs)/\Ġb m=none/\t n σ H1 λn1 vs H2=>sp (x::vs) H2 (Q n1) Ŷd)
theorem Xu(F:MtAtX X.prog X.w X.K X.mg X.base k C m ps sp)(c:Cls X.K C)(hr:õc X.A)(hR:VR X R)(he:Œ o ta)(ha:PAN X ŀ tn)
  (hst:Õ ŀ=(false,í e)::Õ es:=by rfl) (hpl:(ąb).any (·.1)=false:=by rfl)
  (ht:í Ôd=(do
   let ov <- í o
   Ľc
   let (f,first) <- holding [ov] (getMethod ov m pl)
   ĳa ŀ):=by rfl) :
  ùe Ôd (nMx C m sp R ta tn):=by
 obtain⟨f,hm,hl,run⟩:=F;intro pins s σ H n Q hn I h;refine PySem.W.methodCall_KW (pl:=pl) (Êc hn Òa (λu s1 ⟨k1,x,H1,I1,rx,a,dx,fs,ex,ea,l,q⟩=>?_)) ht;subst ex;obtain rfl:u=ĩ a:=rx;refine MK I1 ea c hm l ?_;refine PySem.W.callWith_K (first:=[œ]) (h₀:=X.base) I.ok.mod.kin hm.kp (thn (ha pos pins s1 σ H1 n _ k1 I1 q) λus s2 ⟨m2,k2,vs,H2,I2,r,q2⟩=>ųb I2.kIn) hst hpl;refine wpAny_call (Āa (codeAny_toks_of k2 (Ěe (Q m2))));obtain⟨k3,hq⟩:=hq;cases res with
 |error ev =>
  obtain⟨e',cls,H',rfl,Fl,rr⟩:=hq;exact ſb H2 s2 I2
 |ok fl =>
  cases fl with
  |ret u=>exact ő m2 k3 (I2.after hq)
  |next=>exact Ő hq
  |brk=>exact Ő hq
  |cont=>exact Ő hq
noncomputable def Tf(X:Cx)(td ty tv:TE):TS:=Ŵa (∃a n m N z kvs,x=œ/\y=.sT z m/\n<=N/\m<=N/\öb H3/\kvs.length<sizeLine /\ ∀H4,(∀c,c≠a->H4 c=H3 c)->DG X.prog X.w H4 a N (Ċb (Ŀ z) v)->Ġd H4)
theorem DR(ho:Œ o td)(hi:Œ i ty)(hv:Œ value tv)(hs:ŋc=œc) :
  ŗb (Tf X td ty tv):=by
 intro pins s σ H D I h;refine Ža (λr s1 ⟨v,H1,I1,rv,q1⟩=>úd (λu s2 ⟨x,H2,I2,rx,q2⟩=>ïb s2 H2 I2 q2 (λiv s3 ⟨y,H3,I3,ry,a,n,m,N,z,kvs,ex,ey,hnm,hmN,dg,hl,q3⟩=>?_)));subst ex ey;obtain rfl:u=ĩ a:=rx;obtain⟨vs,rel,hz,hd,dd⟩:=XW I3.hok dg;obtain⟨vs0,e0,_⟩:=dg;have hl2:ø (î (Ċb (Ŀ z) v)):=by have:=RB kvs (Ŀ z) v;omega
 refine Zr (P6 ry.wk) (GD (ry.up hmN)) (dd.up hnm) (λh' dd' hs'=>?_) hz;have rel2:=rel.put (Ŀ z) rv;have new:gF X.prog X.w a N (stored vs (Ŀ z) r) h':=ő (by rw[<- rel2.length];exact hl2) hd dd';have he:∃q,İa a=Ã q:=let ⟨q,_,_,hq,_⟩:=dd';ã q hq;exact źb (by rw[e0];exact True.intro) he rel2
end
theorem AF:∀(p:Str) (l:ù),risingS p l=true->(p::l).Pairwise Ńd
 |p,[],_=>Í
 |p,x::r,h=>by
  have h:(! ltCps x.cps.toList p.cps.toList&&risingS x r)=true:=h;rw[YT,ltCps_eq,Bool.not_eq_true',decide_eq_false_iff_not]at h;have h1:p.cps.toList<=x.cps.toList:=List.not_lt.mp h.1;have ih:=AF x r h.2;refine Ŭb (λy hy=>?_) ih;rcases ĳd hy with rfl | hy
  ·exact h1
  ·exact List.le_trans h1 (List.rel_of_pairwise_cons ih hy)
theorem BV:∀(l:ù),sortedS l=true->l.Pairwise Ńd
 | [],_=>.nil
 |x::r,h=>AF x r h
theorem Fq(ha:sortedS a=true)(hb:sortedS b=true)(hp:a.Perm b):a=b :=
 hp.eq_of_pairwise (le:=Ńd) (λx y _ _ h1 h2=>Str.ext' (Array.toList_inj.mp (List.le_antisymm h1 h2))) (BV a ha) (BV b hb)
end L2
namespace Seek
open PySem L2 PyProof.Rows Builtin Builtin.Str
structure St6(P:Z3)(w:Z5)(C:Z1)(H0:Hp)(a dx d tb kn ak:Z1)(n m:Nat)(ts us:Ts)(H1:Hp):Prop where
 sm:Same H0 H1
 W:Ż H1 ts us
 ul:us.length<=m
 kn:∃kvs,Ñc H1 kn/\KnN kvs
 ak:∃akv,H1 ak=Ã (.dT akv)/\Ak akv m
structure Nw(H0:Hp)(d tb kn ak:Z1):Prop where
 hd:H0 d=none
 htb:H0 tb=none
 hkn:H0 kn=none
 hak:H0 ak=none
 ne:tb≠kn
theorem Ak.le(h:Ak kv m)(l:m<=m'):Ak kv m':=ã (WB h.len l) h.val
theorem DN.fr{P:Z3}{w:Z5}{H H':Hp}{d kn tb:Z1}{kvs:ŷb}(h:Ñc H kn)(f:∀b o,b≠d->ŕa tb)(n1:kn≠d)(n2:kn≠tb)(hd:∀ys,H d≠Ĥ ys)(ht:∀ys,H tb≠Ĥ ys):Ñc H' kn:=by
 refine h.keeps ?_ λb ys e=>f b _ (λz=>hd _ (by rw[<- z];exact e)) (λz=>ht _ (by rw[<- z];exact e)) e;obtain⟨xs,e,_⟩:=h;rw[f kn _ n1 n2 e,e]
section
variable {P:Z3}{w:Z5}{C:Z1}{H0 H1 H2:Hp}{a dx d tb kn ak:Z1}{n m:Nat}{ts us:Ts}
theorem St6.same(h:ĕ m H1)(s:Same H1 H2):ĕ m H2:=by
 obtain⟨kvs,k1,k2⟩:=h.kn;obtain⟨akv,a1,a2⟩:=h.ak;exact⟨h.sm.trans s,h.W.same s,h.ul,ő kvs (UY k1 s) k2,ő akv (s _ _ a1) a2⟩
theorem St6.more(h:ĕ m H1){m':Nat}(l:m<=m'):ĕ m' H1:=by
 obtain⟨akv,a1,a2⟩:=h.ak;exact⟨h.sm,h.W,WB h.ul l,h.kn,ő akv a1 (a2.le l)⟩
theorem St6.fr(h:ĕ m H1)(N:ŏb){m' n':Nat}{ts' us':Ts}(l:m<=m')(hu:us'.length<=m')(f:∀b o,b≠d->b≠tb->H1 b=ţ->H2 b=ţ)(W:W6 P w C H2 a dx d tb n' ts' us'):St6 P w C H0 a dx d tb kn ak n' m' ts' us' H2:=by
 obtain⟨kvs,k1,k2⟩:=h.kn;obtain⟨akv,a1,a2⟩:=h.ak;obtain⟨vs0,etb,_⟩:=h.W.l.g;have eD:=h.W.dk.D;obtain⟨xs0,ekn,_⟩:=id k1;refine⟨λb o e=>f b o (WX e N.hd) (WX e N.htb) (h.sm _ _ e),W,hu,ő kvs (DN.fr k1 f Îc (ĥ N.ne) (λys z=>?_) (λys z=>?_)) k2,ő akv (f _ _ Îc Îc a1) (a2.le l)⟩
 ·rw[z,eD]at ekn;cases ekn
 ·rw[eD]at z;cases z
 ·rw[etb]at z;cases z
 ·rw[z,eD]at a1;cases a1
 ·rw[z,etb]at a1;cases a1
theorem St6.sz(h:ĕ m H1)(N:ŏb){kvs':ŷb}{akv':ĩc}(f:∀b o,b≠kn->b≠ak->H1 b=ţ->H2 b=ţ)(k1:DN P w H2 kn kvs')(k2:KnN kvs')(e:H2 ak=Ã (.dT akv'))(hA:Ak akv' (m+1)):ĕ (m+1) H2:=by
 obtain⟨kvs,q1,q2⟩:=h.kn;obtain⟨akv,a1,a2⟩:=h.ak;obtain⟨vs0,etb,_⟩:=id h.W.l.g;obtain⟨xs0,ekn,_⟩:=id q1;have eD:=h.W.dk.D;have nl:∀b xs,H1 b=Ù xs->H2 b=Ù xs:=λb xs e=>f b _ (λz=>by rw[z,ekn]at e;cases e) (λz=>by rw[z,a1]at e;cases e) e;have tt:∀{t:Z1}{prs:Prs},ıd H1->ıd H2:=Ĥc;refine⟨λb o e=>f b o (WX e N.hkn) (WX e N.hak) (h.sm _ _ e),⟨⟨f _ _ Îc Îc h.W.dk.ob,f _ _ Îc Îc eD,λe he=>ã (tt (h.W.dk.T e he).1) (h.W.dk.T e he).2,h.W.dk.nd⟩,⟨h.W.l.g.keeps ?_,λe he=>ã (tt (h.W.l.T e he).1) (h.W.l.T e he).2,h.W.l.b,h.W.l.m,h.W.l.nd⟩,h.W.e,h.W.len⟩,Ĉd h.ul,ő kvs' k1 k2,ő akv' e hA⟩
 ·have:=h.W.dk.ob;rw[z,ekn]at this;cases this
 ·have:=h.W.dk.ob;rw[z,a1]at this;cases this
 ·rw[z,ekn]at eD;cases eD
 ·rw[z,a1]at eD;cases eD
 ·rw[f _ _ N.ne (λz=>by rw[z,a1]at etb;cases etb) etb,etb]
end
end Seek
namespace Seek
open PySem L2 PyProof.Rows Builtin Builtin.Str
noncomputable def mln(z:Int):Int:=z*1000000
theorem JC(ns:Ċ)(i:Nat):(ns.map mln).getD i 0=mln (Ģa i):=by
 rw[WY,WY,ZX];cases ns[i]?<;>rfl
theorem GW(ns:Ċ):nfB (ns.map mln)=nfB ns:=by
 unfold nfB;rw[ZD]
 congr 1
 refine Ź (λi _=>?_);rw[XA,JC,JC];unfold mln;omega
theorem Qr(h:Õb (·.2)=Ų (p.2.map mln)):tabB qs=tabB prs:=by
 have e0:(Ų (p.1,p.2.map mln)).map (·.2)=Ų (p.2.map mln):=by rw[W7];rfl
 rw[O2 (prs:=Ų (p.1,p.2.map mln)) (h.trans e0.symm)];have w:w0 (Ų (p.1,p.2.map mln))=ĺ:=by
  unfold w0;cases prs with
  |nil=>rfl
  |cons p r=>simp
 have c:∀j,col (Ų (p.1,p.2.map mln)) j=(Ĕd).map mln:=λj=>by
  unfold col;rw[W7,W7];exact Ź (λp _=>JC p.2 j)
 unfold tabB shB srB;rw[w,ZD,W7,W7,W7]
 congr 1
 ·congr 2
  ·congr 1
   refine Ź (λp _=>?_);show rowB (p.2.map mln)=rowB p.2;unfold rowB;rw[ZD]
  ·congr 1
   refine Ź (λp _=>?_);show è (î (p.2.map mln)=_)=è (p.2.length=_);rw[ZD]
 ·congr 2
  ·refine Ź (λp _=>GW p.2)
  ·refine Ź (λj _=>?_);rw[c,GW]
theorem Vt(h:Bd27 ns):Bd50 (ns.map mln):=λn hn=>by
 obtain⟨z,hz,rfl⟩:=Áb hn;have h1:=h z hz;have h2:(mln z).natAbs=z.natAbs*1000000:=by unfold mln;rw[Int.natAbs_mul];rfl
 rw[h2];have:ũ 10 ^ 27*1000000<=Īd:=Â
 omega
theorem Zv(h:Bd27 ns):Bd50 ns:=λn hn=>WT (h n hn) (ŝa Ç)
noncomputable def forB:Z6->Æ Z6
 | .For _ _ b _ _=>b
 |_=>[]
noncomputable def LC:Z6->Æ Z6
 | .If _ b _ _=>b
 |_=>[]
noncomputable def MX:Z6->Æ Z6
 | .If _ _ b _=>b
 |_=>[]
noncomputable abbrev lwN:ù:=["script","desk","tables","known","asked","k","cell","mixed","name","good","some"]
theorem sc_law36:ä lwN ["script"] dLaw:=scm
noncomputable abbrev lwX(P:Z3)(w:Z5)(K:ZC)(mg:Ą)(base:Z8)(f:Z1)(gv:Z0)(A:Z4)(ou:êb)(s:Z2)(H:Hp)(E:XK):Cx:=Çb lwN "law" dLaw gv ou
noncomputable def p0:Z6:=.Pass ⟨0,0,0,0⟩
noncomputable def lwS(k:Nat):Z6:=(WI dLaw).getD k p0
noncomputable def lbS(k:Nat):Z6:=(forB (lwS 4)).getD k p0
noncomputable def l1S(k:Nat):Z6:=(LC (lbS 2)).getD k p0
noncomputable def e1S:Z6:=(MX (lbS 2)).getD 0 p0
noncomputable def e2S:Z6:=(MX e1S).getD 0 p0
noncomputable def e3S:Z6:=(MX e2S).getD 0 p0
noncomputable abbrev lσ(a0 a tb kn ak:Z1)(i c v:Nat)(o8 o9 o10:Z9 V):L2.St:=[Ú a0,Ú a,Ú tb,Ú kn,Ú ak,Ã Ŧd,Ğe c,Ğe v,o8,o9,o10]
section
variable {P:Z3}{w:Z5}{K:ZC}{mg:Ą}{base:Z8}{C:Z1}{cs:ãb}{f:Z1}{gv:Z0}{A:Z4}{ou:êb}{s:Z2}{H:Hp}{E:XK}{H0:Hp}{a0 a dx d tb kn ak:Z1}{ns:Ċ}
noncomputable def Af(P:Z3)(w:Z5)(C:Z1)(H0:Hp)(a0 a dx d tb kn ak:Z1)(m i c v:Nat)(D:EndsN):Prop:=∀n' n ts us o8 o10 H2,n<=n'->ĕ (m+1) H2->D.nx n' (Ņa o8 (Ã Ĩ)) H2
inductive tBr(P:Z3)(w:Z5)(C:Z1)(H0:Hp)(a0 a dx d tb kn ak:Z1)(q:Ts->Prop)(D:EndsN)(n':Nat)(σ:L2.St)(H1:Hp):Prop
 |mk (c i v n m:Nat) (ts us:Ts) (o8 o9 o10:Z9 V) (h0:σ=Ņa o8 o9) (h1:n<=n') (h2:m<=45) (h3:i<=45) (h4:q us) (h5:ĕ m H1) (h6:Af P w C H0 a0 a dx d tb kn ak m i c v D)
theorem l1c(kc:ţc)(N:ŏb)(M:żb) (G4:Ŋ) (hr:Îb 40 Ð):PN Ð (l1S 3) (λD n' σ H3=>∃(c i v n n2 m mx:Nat) (ts us:Ts) (x:Str) (t:Z1) (prs:Prs) (o9 o10:Z9 V) (H1:Hp),σ=Ņa (Ã (.sT x mx)) o9/\n2<=n'/\m<=45/\ĕ m H1/\(∀b o,b≠tb->H1 b=ţ->H3 b=ţ)/\Ď H3 ts/\L6 P w H3 tb n2 (Ũb us x)/\Af P w C H0 a0 a dx d tb kn ak m i c v D):=by
 have nd:=sc_law36.nd;have hr2:Îb 2 Ð:=Ĩd;have hr38:Îb 38 Ð:=Ĩd;have B:PN Ð (l1S 3) _:=T4 (i:=9) nd rfl Ô (KH WH (Xu M kc.cls hr38 UZ ó (V8 (QZ UC (QZ UC (QZ UC KE (UI (pvw 8))) (UI ZR)) (T0 G4.toN hr2 UZ (SO (pa1 (N6 Ķa (pvw 8) Ÿ))))) SZ)) (UI ZR) (U0 _));generalize l1S 3=S at B;refine pn6 B ?_;rintro D n' σ H3 ⟨c,i,v,n,n2,m,mx,ts,us,x,t,prs,o9,o10,H1,rfl,hn,hm,st,fr,dk,l,q⟩;have hin:=D9 us x t prs;obtain⟨hT,hg⟩:=l.T _ hin;have hT:ıd H3:=hT;have hg:Ĕ:=hg;have hb:∀p∈prs,Bd50 p.2:=l.b _ hin;have hx:Y2 x.cps.toList=true:=l.m _ hin;have hnf:=VX hx;have hne:prs≠[]:=λz=>by
  obtain⟨_,g1,_⟩:=łd;rw[z]at g1;simp at g1
 have hsl:î Ñd<=2000:=ú (ES hne) (MM hg hb)
 have lt:āb "table "=6:=Â
 have ls:āb " "=1:=Â
 refine⟨_,Z,a,dx,_,Z,dk.ob,Z,λm1 h1 hm1=>⟨x,ã mx Z,_,_,Z,Z,sl30 À,_,_,Z,Z,sl30 (by rw[YY];omega),_,Z,x,ã mx Z,tb,n2,x,_,Ê t,Z,Z,l.g,VW l.nd hin,h1,t,prs,Z,hT,hg,hb,λH4 s4=>⟨_,_,Z,Z,sl30 (by rw[YY,YY];omega),?_⟩⟩⟩;have hul:=st.ul;have htl:=st.W.tlen;refine Ld (dk.same s4) À hx hg hb ?_ λt' prs' H5 hr' fr5 dk5=>ųb Z
 ·rw[UN,UN,UN,QX,List.append_assoc,List.append_assoc,show ąa "table "=Ãd "table" by decide +kernel,List.append_assoc];rfl
 rw[YD (r:=true) Â];have l5:=(l.same s4).fr6 (d:=d) fr5 (dk.same s4).D;have hlen:=DU us x t prs;exact q m1 n2 _ _ _ _ H5 À (st.fr N (Nat.le_succ m) À (λb o nd nt e=>fr5 b o nd (s4 _ _ (fr b o nt e))) ⟨dk5,l5,FQ st.W.e x t t' hr'.symm,À⟩)
end
end Seek
namespace Seek
open PySem L2 PyProof.Rows Builtin Builtin.Str
section
variable {P:Z3}{w:Z5}{K:ZC}{mg:Ą}{base:Z8}{C:Z1}{cs:ãb}{f:Z1}{gv:Z0}{A:Z4}{ou:êb}{s:Z2}{H:Hp}{E:XK}{H0:Hp}{a0 a dx d tb kn ak:Z1}{ns:Ċ}
theorem l1b(kc:ţc)(N:ŏb)(hS:SqL K H0 a0 Æa)(M:żb) (G1:Ļb) (G2:ĩa) (G3:ķb) (G4:Ŋ) (hr:Îb 40 Ð) :
  PNs Ð (LC (lbS 2)) (tBr P w C H0 a0 a dx d tb kn ak λ_=>True):=by
 have nd:=sc_law36.nd;have nd1:(Ïb:ù).Nodup:=Â
 have nd2:(["one"]:ù).Nodup:=Â
 have hr1:Îb 1 Ð:=Ĩd;have hr2:Îb 2 Ð:=Ĩd;have B0:PN Ð (l1S 0) _:=T4 (i:=8) nd rfl Ô (T0 G2 hr2 UZ (SO (į (pe_f G1 hr1 (į Ü ZB)) (ċa YM 6))));have B1:PS Ð (l1S 1) _:=DR Ķa (pv 8) (pe_f G3 hr2 (â 7 ZB)) rfl;have B2:PS Ð (l1S 2) _:=ša WH (Ħc 6 ZB) ZB (ZL (DR Ķa (pv 8) (Ì Ïb [none] dLaw lwN (Y7 (N6 Ķa (pvw 8) Ÿ)) ň Y0 (Lg ["one"] [none] rfl (Go K Ü) (by kernel_rfl) (Ö (pg_c 0 nd2)) (Ö Y0) (Ö (ZN V5 Ü (ZN OD ZB ZB))))) rfl))
 have B3:=@l1c P w K mg base C cs f gv A ou s H E H0 a0 a dx d tb kn ak kc N M G4 hr;have eB:LC (lbS 2)=[l1S 0,l1S 1,l1S 2,l1S 3]:=by kernel_rfl
 rw[eB];clear eB;generalize l1S 0=S0 at B0 ⊢;generalize l1S 1=S1 at B1 ⊢;generalize l1S 2=S2 at B2 ⊢;generalize l1S 3=S3 at B3 ⊢;refine pns6 (Y1 B0 (įa B1 B2 (UR B3))) ?_;clear B0 B1 B2 B3;rintro D n' σ H1 ⟨c,i,v,n,m,ts,us,o8,o9,o10,rfl,hn,hm,hi,_,st,q⟩;refine⟨_,Z,a0,ns,0,Z,st.sm.seq hS,Ç,λc0=>⟨_,Z,_,_,Z,Z,by constructor<;>decide,c0,c/5,by rw[show(Þ c/5)=Ý (c/5) by omega],λx n2 mx H2 hx hn2 hmx s2=>?_⟩⟩;have st2:=st.same s2;refine Ğc (Þ v) À (λt prs H3 ht hp hnd s3 hT hg hb27=>?_);have st3:=st2.same s3;have hul:=st.ul;have hku:î Ėb=us.length:=by unfold kvs;rw[ZD]
 refine⟨_,Z,_,Z,tb,n,mx,n2,x,Ėb,Z,Z,À,hmx,st3.W.l.g,by rw[hku];exact T8 À,λH4 hf4 hg4=>?_⟩;have l4:=st3.W.l.put hf4 hg4 hT hg (Ļ (Zv (hb27 p hp))) hx;obtain⟨vs0,etb,_⟩:=st3.W.l.g;have d4:=st3.W.dk.frT hf4 etb;have fr4:∀b o,b≠tb->H1 b=ţ->H4 b=ţ:=λb o nb e=>(hf4 b nb).trans (øe (űc e));refine Àb (by constructor<;>decide) ?_
 ·have hin:=D9 us x t prs;obtain⟨hT4,_⟩:=l4.T _ hin;have hT4:ıd H4:=hT4;obtain⟨g,g1,g2,g3,g4⟩:=łd;have g2:ėa:=g2;refine⟨_,Z,x,ã mx Z,tb,n2,x,_,Ê t,Z,Z,l4.g,VW l4.nd hin,t,Z,Ņ hT4.sq,IK (λp:Z1×Ċ=>Śb) (λp=>.lst ((p.2.map mln).map V.int)) hT4.sq À (Œd ?_) λt2 qs0 H5 ht2 hqm hnd5 hq s5 eM=>?_⟩
  ·have hR:=(hT4.same sm).r p hp;refine Ća p.1 hR.sq (V0 V.int (λz=>Žb (mln z)) hR.sq (ú ŝb (sl30 À)) (λz hz H'' Q'' sm2 q2=>⟨_,Z,10,6,Z,Z,ő Ç Ç Ç,_,_,Z,Z,Ŀ (by constructor<;>decide),q2 _ ŵ⟩) λD2 H6 hD2 s6 eD2=>?_);refine q' D2 H6 hD2 s6 ?_;rw[eD2,W7];rfl
  obtain⟨qs,hqs⟩:∃qs:Prs,qs=qs0.map λx=>(x.1,x.2.2.map mln):=Ôe;have hT5:Tab H5 t2 qs:=by
   refine ã ?_ Åc
   ·rw[eM,hqs,W7];rfl
   ·rw[hqs]at hp;obtain⟨y,hy,rfl⟩:=Áb hp;exact(hq y hy).1
  have hrows:Õb (·.2)=Ų (p.2.map mln):=by
   rw[hqs,W7,<- hqm,W7];rfl
  have hg5:tabB qs=true:=ú (Qr hrows) hg
  have hb5:∀p∈qs,Bd50 p.2:=Ļ (by
   have:p.2∈Ų (p.2.map mln):=by rw[<- hrows];exact Ń p hp
   obtain⟨y,hy,e⟩:=Áb this;rw[<- e];exact Vt (hb27 y hy))
  have l5:=l4.same s5;have hpl:=DU us x t prs;have hku5:î (kvs (Ũb us x))=î (Ũb us x):=by unfold kvs;rw[ZD]
  refine⟨_,Z,_,Z,tb,n2,mx,n2,x,_,Z,Z,ħ,hmx,l5.g,by rw[hku5];exact T8 À,λH6 hf6 hg6=>?_⟩;have l6:=l5.put hf6 hg6 hT5 hg5 hb5 hx;obtain⟨vs5,etb5,_⟩:=l5.g;have d6:=(d4.same s5).frT hf6 etb5;have epp:putT (Ũb us x) x t2 qs=putT us x t2 qs:=by
   have h1:x∈(Ũb us x).map (·.1):=Ń _ hin;have h2:putT (Ũb us x) x t2 qs=(Ũb us x).map (λe=>if e.1=x then(x,t2,qs)else e):=ZH h1;rw[h2];unfold putT
   by_cases hc:x∈us.map (·.1)
   ·rw[ZH hc,ZH hc,W7];refine Ź (λe _=>?_);dsimp only[Function.comp]
    by_cases hc2:e.1=x
    ·simp[hc2]
    ·simp[hc2]
   ·rw[ZE hc,ZE hc,W2]
    congr 1
    ·refine(Ź (λe he=>?_)).trans (List.map_id _);rw[ZE (λz=>hc (by rw[<- z];exact Ń e he))];rfl
    ·show [if x=x then(x,t2,qs)else(x,t,prs)]=_;rw[ŧb]
  rw[epp]at l6;exact⟨c,i,v,n,n2,m,mx,ts,us,x,t2,qs,o9,o10,H1,Z,ħ,hm,st,λb o nb e=>(hf6 b nb).trans (s5 _ _ (fr4 b o nb e)),d6,l6,q⟩
 ·exact⟨c,i,v,n,n2,m,mx,ts,us,x,t,prs,o9,o10,H1,Z,ħ,hm,st,fr4,d4,l4,q⟩
end
end Seek
namespace Seek
open PySem L2 PyProof.Rows Builtin Builtin.Str
section
variable {P:Z3}{w:Z5}{K:ZC}{mg:Ą}{base:Z8}{C:Z1}{cs:ãb}{f:Z1}{gv:Z0}{A:Z4}{ou:êb}{s:Z2}{H:Hp}{E:XK}{H0:Hp}{a0 a dx d tb kn ak:Z1}{ns:Ċ}
theorem l3b(N:ŏb)(Gs:ĳ) (Ga:àa) (hr:Îb 40 Ð) :
  PN Ð e3S Ćc:=by
 have nd:=sc_law36.nd;have B:PN Ð e3S _:=SL ŧd (UR (YG (È 9 (pe_f Gs hr (ZF ó (ZF (ċa YM 6) (ýa Żc 4))))))) (UR (T4 (i:=9) nd rfl Ô (T0 Ga hr UZ (SO (ZF ó (â 2 (ċa YM 6)))))))
 generalize e3S=S at B;refine pn6 B ?_;rintro D n' σ H1 ⟨c,i,v,n,m,ts,us,o8,o9,o10,rfl,hn,hm,hi,hne,st,q⟩;refine Űc _ Z Z Ç _ Z îb
 ·obtain⟨kvs,k1,k2⟩:=st.kn;obtain⟨akv,a1,a2⟩:=st.ak;exact⟨_,Z,_,Z,_,_,Z,Z,by constructor<;>decide,_,Z,_,Z,a,dx,kn,ak,_,c/25,m,kvs,akv,by rw[show(Þ c/25)=Ý (c/25) by omega],st.W.dk.ob,Z,k1,k2,a1,a2,À,λH' kvs' akv' fr k1' k2' e hA=>q n' n ts us o8 o10 H' hn (st.sz N fr k1' k2' e hA)⟩
 ·exact⟨_,Z,_,Z,_,Z,_,_,Z,Z,by constructor<;>decide,a,dx,d,tb,n,ts,us,c/5,by rw[show(Þ c/5)=Ý (c/5) by omega],st.W,hne,λm' H' hm' s'=>q m' n ts us o8 o10 H' À ((st.same s').more (Nat.le_succ m))⟩
theorem l2b(T:ûa)(hso:ěb) (N:ŏb) (Gd:Ž) (Gs:ĳ) (Ga:àa) (hr:Îb 40 Ð) :
  PN Ð e2S Ćc:=by
 have nd:=sc_law36.nd;have B3:=@l3b P w K mg base C f gv A ou s H E H0 a0 a dx d tb kn ak N Gs Ga hr;have B:PN Ð e2S _:=SL ŧd (Y1 (YG (È 10 (ßb (MP rfl) (ß 2)))) (UR (T4 (i:=9) nd rfl Ô (T0 Gd hr UZ (SO (ZF ó (ZF Ķa (ýa (ă 10 (Ħc 6 (pln T (pv 10)))) 5)))))))) (UR B3)
 generalize e2S=S at B;refine pn6 B ?_;clear B B3;rintro D n' σ H1 ⟨c,i,v,n,m,ts,us,o8,o9,o10,rfl,hn,hm,hi,hne,st,q⟩;refine Űc _ Z Z Ç _ Z îb
 ·have hul:=st.ul;refine ĩd (·.1) st.W.l.g (QC us) (by rw[ZD];omega);have s2:Ĝa H1 H1 L éa:=snw hL;have e2:(Ï H1 L éa) L=_:=ZI;generalize Ï H1 L éa=H2 at s2 e2 ⊢;have st2:=st.same s2;obtain⟨x,t,prs,hmem,hat,hn0,hpos⟩:=st.W.l.pick hp hne (c/25);have hl:Þ (î éa)=Þ (î Ėb):=by
   rw[ZD,hp.length_eq,ZD];unfold kvs;rw[ZD]
  refine⟨_,Z,_,Z,_,Z,_,Z,_,_,Z,Z,by constructor<;>decide,_,Z,L,_,Z,Ė (sqo e2),_,_,Z,Z,by rw[hl];exact hpos,L,_,_,V.sT x n,Z,Z,sqo e2,?_,_,Z,a,dx,d,tb,t,n,n,i,ts,us,x,prs,Z,st2.W,hmem,hn,λn1 H' ts' us' h1 fr W' hl'=>q n1 n ts' us' o8 _ H' À (st2.fr N (Nat.le_succ m) À fr W')⟩;rw[hl,show(Þ c/25)=Ý (c/25) by omega];exact hat
 ·exact íb us hne st q
theorem l2a(T:ûa)(hso:ěb) (N:ŏb) (Gc:ĸb) (Gd:Ž) (Gs:ĳ) (Ga:àa) (hr:Îb 40 Ð) :
  PN Ð e1S Ćc:=by
 have nd:=sc_law36.nd;have B2:=@l2b P w K mg base C f gv A ou s H E H0 a0 a dx d tb kn ak T hso N Gd Gs Ga hr;have B:PN Ð e1S _:=SL ŧd (UR (YG (È 9 (pe_f Gc hr (ZF ó (â 2 (ċa YM 6))))))) (UR B2)
 generalize e1S=S at B;refine pn6 B ?_;clear B B2;rintro D n' σ H1 ⟨c,i,v,n,m,ts,us,o8,o9,o10,rfl,hn,hm,hi,hne,st,q⟩;refine Űc _ Z Z Ç _ Z îb
 ·have hul:=st.ul;exact⟨_,Z,_,Z,_,Z,_,_,Z,Z,by constructor<;>decide,a,dx,d,tb,n,ts,us,c/5,by rw[show(Þ c/5)=Ý (c/5) by omega],st.W,hne,λH' ts' us' fr W' hl'=>q n' n ts' us' o8 o10 H' hn (st.fr N (Nat.le_succ m) À fr W')⟩
 ·exact íb us hne st q
theorem l2(T:ûa)(hso:ěb) (kc:ţc) (N:ŏb) (hS:SqL K H0 a0 Æa) (M:żb) (G1:Ļb) (G2:ĩa) (G3:ķb) (G4:Ŋ)
  (Gc:ĸb) (Gd:Ž) (Gs:ĳ) (Ga:àa) (hr:Îb 40 Ð) :
  PN Ð (lbS 2) (tBr P w C H0 a0 a dx d tb kn ak λ_=>True):=by
 have B1:=@l1b P w K mg base C cs f gv A ou s H E H0 a0 a dx d tb kn ak ns kc N hS M G1 G2 G3 G4 hr;have B2:=@l2a P w K mg base C f gv A ou s H E H0 a0 a dx d tb kn ak T hso N Gc Gd Gs Ga hr;have hu8:(Ð).A.units+8<cLine:=by have:=hr.units;omega
 have B:PN Ð (lbS 2) _:=SL (řb (pcm (Va hu8) Ķa CY) ŧd) B1 (UR B2);generalize lbS 2=S at B;refine pn6 B ?_;clear B B1 B2;rintro D n' σ H1 ⟨c,i,v,n,m,ts,us,o8,o9,o10,rfl,hn,hm,hi,_,st,q⟩;refine ža Åc;have s2:=snw (o:=.dK []) hp;have e2:(ſa H1 p []) p=Ã (.dK []):=ZI;generalize ſa H1 p []=H2 at s2 e2 ⊢;have st2:=st.same s2;refine⟨tb,p,n,Ėb,Z,Z,st2.W.l.g,e2,_,Z,?_⟩;have go1:tBr P w C H0 a0 a dx d tb kn ak (λ_=>True) D n' (Ņa o8 o9) H2:=íb us trivial st2 q;cases us with
 |nil=>exact Ŧb (Ŧb go1)
 |cons u r =>
  refine ĭb (Űc _ Z Z Ç _ Z (ite2 (λ_=>go1) (λ_=>?_)));exact íb (u::r) (λz=>nomatch z) st2 q
end
end Seek
namespace Seek
open PySem L2 PyProof.Rows Builtin Builtin.Str
section
variable {P:Z3}{w:Z5}{K:ZC}{mg:Ą}{base:Z8}{C:Z1}{cs:ãb}{f:Z1}{gv:Z0}{A:Z4}{ou:êb}{s:Z2}{H:Hp}{E:XK}{H0:Hp}{a0 a dx d tb kn ak:Z1}{ns:Ċ}
theorem l3(hso:ěb) (kc:ţc) (M1:ãc) (hr:Îb 40 Ð):PS Ð (lbS 3) (λD σ H1=>∃(c i v n m:Nat) (ts us:Ts) (o8 o10:Z9 V),σ=Ņa o8 (Ã Ĩ)/\m<=46/\ĕ m H1/\∀H2,ĕ m H2->D.nx (Ņa o8 (Ã Ĩ)) H2):=by
 have hr1:Îb 1 Ð:=Ĩd;have hu:öd Ð:=ąc;have B:PS Ð (lbS 3) _:=pifF (řb (Ģd (pv 9)) (pcm (Oi hu) (Yj M1 kc.cls hr1 ó) (ßb (MP rfl) (ß 2))));generalize lbS 3=S at B;refine ps6 B ?_;clear B;rintro D σ H1 ⟨c,i,v,n,m,ts,us,o8,o10,rfl,hm,st,q⟩;have hul:=st.ul;have htl:=st.W.tlen;refine şc Z true Z (ĭb ⟨_,Z,a,dx,_,Z,st.W.dk.ob,Z,a,dx,d,ts,Z,st.W.dk,À,λL ss hL hp hs=>?_⟩);have s2:Ĝa H1 H1 L (ss.map V.str):=snw hL;have e2:(Ï H1 L (ss.map V.str)) L=_:=ZI;generalize Ï H1 L (ss.map V.str)=H2 at s2 e2 ⊢;have st2:=st.same s2;refine⟨_,Z,tb,n,Ėb,us.map (·.1),Z,st2.W.l.g,QC us,by rw[ZD];omega,λL2 ss2 hL2 hp2 hs2=>?_⟩;have s3:Ĝa H2 H2 L2 (ss2.map λx=>V.sT x n):=snw hL2;have hn:=J8 st.W.e;have ess:ss=ss2:=Fq hs hs2 (hp.trans (by rw[<- hn];exact hp2.symm));subst ess;exact⟨L,L2,n,ss,Z,Z,øe e2,ZI,_,Z,ĭb (q _ (st2.same s3))⟩
theorem l4(Gr:ėb) (hr:Îb 40 Ð):PS Ð (lbS 4) (λD σ H1=>∃(c i v n m:Nat) (ts us:Ts) (o8 o10:Z9 V),σ=Ņa o8 (Ã Ĩ)/\ĕ m H1/\∀H2,ĕ m H2->D.nx (Ņa o8 (Ã Ĩ)) H2):=by
 have B:PS Ð (lbS 4) _:=pifF (PW.pt (RV (pcm WH (Ħc 6 ZB) ZB) (PB (Ģd (Tx (T0 Gr hr UZ (SO (ZF ó (ýa Ķa 7)))))))));generalize lbS 4=S at B;refine ps6 B ?_;clear B;rintro D σ H1 ⟨c,i,v,n,m,ts,us,o8,o10,rfl,st,q⟩;refine Àb (by constructor<;>decide) (ĭb (q H1 st));exact⟨_,Z,_,Z,_,Z,a,dx,d,tb,n,ts,us,v,Z,st.W,λm' H' hm' s'=>ő true Z (ĭb (q H' (st.same s')))⟩
noncomputable abbrev lτ(a0 a tb kn ak:Z1)(i:Nat)(o6 o7 o8 o9 o10:Z9 V):L2.St:=[Ú a0,Ú a,Ú tb,Ú kn,Ú ak,Ã Ŧd,o6,o7,o8,o9,o10]
inductive tTurn(P:Z3)(w:Z5)(C:Z1)(H0:Hp)(a0 a dx d tb kn ak:Z1)(D:EndsN)(n':Nat)(σ:L2.St)(H1:Hp):Prop
 |mk (i n m:Nat) (ts us:Ts) (o6 o7 o8 o9 o10:Z9 V) (h0:σ=lτ a0 a tb kn ak i o6 o7 o8 o9 o10) (h1:n<=n') (h2:m<=45) (h3:i<=45) (h4:ĕ m H1) (h5:∀n' n ts us o6 o7 o8 o9 o10 H2,n<=n'->ĕ (m+1) H2->D.nx n' (lτ a0 a tb kn ak i o6 o7 o8 o9 o10) H2)
theorem lB(T:ûa)(hso:ěb) (kc:ţc) (N:ŏb) (hS:SqL K H0 a0 Æa) (M:żb) (M1:ãc) (G1:Ļb) (Gm:Ĺb) (G2:ĩa) (G3:ķb) (G4:Ŋ)
  (Gc:ĸb) (Gd:Ž) (Gs:ĳ) (Ga:àa) (Gr:ėb) (hr:Îb 40 Ð) :
  PNs Ð (forB (lwS 4)) (tTurn P w C H0 a0 a dx d tb kn ak):=by
 have nd:=sc_law36.nd;have hr1:Îb 1 Ð:=Ĩd;have B0:PS Ð (lbS 0) _:=È 6 (pe_b Op T.abs boot_abs (pa1 (Ýa G1 hr1 Ü 5)));have B1:PS Ð (lbS 1) _:=È 7 (Ýa Gm hr1 (pv 6) 5);have B2:=@l2 P w K mg base C cs f gv A ou s H E H0 a0 a dx d tb kn ak ns T hso kc N hS M G1 G2 G3 G4 Gc Gd Gs Ga hr;have B3:=@l3 P w K mg base C f gv A ou s H E H0 a0 a dx d tb kn ak hso kc M1 hr;have B4:=@l4 P w K mg base C f gv A ou s H E H0 a0 a dx d tb kn ak Gr hr;have eB:forB (lwS 4)=[lbS 0,lbS 1,lbS 2,lbS 3,lbS 4]:=by kernel_rfl
 rw[eB];clear eB;generalize lbS 0=S0 at B0 ⊢;generalize lbS 1=S1 at B1 ⊢;generalize lbS 2=S2 at B2 ⊢;generalize lbS 3=S3 at B3 ⊢;generalize lbS 4=S4 at B4 ⊢;refine pns6 (įa B0 B1 (Y1 B2 (Y1 (YG B3) (UR (YG B4))))) ?_;clear B0 B1 B2 B3 B4;rintro D n' σ H1 ⟨i,n,m,ts,us,o6,o7,o8,o9,o10,rfl,hn,hm,hi,st,q⟩;refine Űc Z a0 ns i (st.sm.seq hS) À (λc0=>ő c0 Z ?_);obtain⟨c,hc⟩:∃c:Nat,(if c0<0 then -c0 else c0)=Þ c:=ã c0.natAbs (by split<;>omega);rw[hc];refine⟨_,Z,_,Z,Þ c,i,Z,À,λv0 H2 h0 _ s2=>?_⟩;obtain⟨v,rfl⟩:∃v:Nat,v0=Þ v:=Ąd v0.toNat;refine íb us trivial (st.same s2) (λn3 n2 ts2 us2 o8 o10 H3 hn3 st3=>?_);exact⟨c,i,v,n2,m+1,ts2,us2,o8,o10,Z,À,st3,λH4 st4=>⟨c,i,v,n2,m+1,ts2,us2,o8,o10,Z,st4,λH5 st5=>q n3 n2 ts2 us2 _ _ _ _ _ H5 hn3 st5⟩⟩
theorem Je{H:Hp}{Q:VK}(q:∀a dx d H',Ŀd->ē d->Ď H' []->Q œ H'):∀x dx,ē x->ē dx->dx≠x->spDInit C [Ê x] (ăa H) ėc E0:=λx dx hx hdx n=>by
 refine⟨x,dx,Z,ZI,λd H' hd nd k hD=>ã Z (q x dx d H' (λb o e=>?_) ?_ hD)⟩
 ·have nb:b≠x:=λz=>by rw[z,hx]at e;cases e
  have nb2:b≠dx:=λz=>by rw[z,hdx]at e;cases e
  refine k b o nb ?_;rw[ZP nb,ZP nb2];exact e
 ·rw[ZP nd]at hd
  by_cases z:d=dx
  ·rw[z];exact hdx
  ·rw[ZP z]at hd;exact hd
end
inductive spLaw(K:ZC)(vs:ĝ)(H:Hp)(Q:VK)(z3_:XK):Prop
 |mk (a:Z1) (ns:Ċ) (h0:vs=[œ]) (h1:Èb a Æa) (h2:ns.length<=63) (h3:∀H',Q Ĩ H')
section
variable {P:Z3}{w:Z5}{K:ZC}{mg:Ą}{base:Z8}{C:Z1}{cs:ãb}
theorem Ul(T:ûa)(hmin:ě "min") (hso:ěb) (kc:ţc) (hmk:īb K=true) (hkp:Ũ K C=true) (hm:Ūb "Desk" C) (F:Fun K "law" "law" dLaw f fd) (M0:İ 1 "__init__" ["self"] (spDInit C)) (M1:ãc) (M:żb)
  (G1:Ļb) (Gm:Ĺb) (G2:ĩa) (G3:ķb) (G4:Ŋ)
  (Gc:ĸb) (Gd:Ž) (Gs:ĳ) (Ga:àa) (Gr:ėb):ąd P K 41 f:=by
 refine F.ok sc_law36 ę (λgv A ou s H vs Q E hr h=>?_)
 ·obtain⟨a,ns,rfl,_⟩:=h;rfl
 ·obtain⟨a0,ns,rfl,hS,hlen,q⟩:=h;have nd:=sc_law36.nd;have hr2:Îb 2 Ð:=Ĩd;have B0:PS Ð (lwS 0) _:=È 1 (Pg M0 hmk hkp hr2 rfl hm);have B1:PS Ð (lwS 1) _:=È 2 Pc;have B2:PS Ð (lwS 2) _:=È 3 Pi;have B3:PS Ð (lwS 3) _:=È 4 CZ;have B4:∀{tb:TSN},PNs Ð (forB (lwS 4)) tb->PN Ð (lwS 4) _:=λhb=>LY PassesOwn.never rfl (ňb (pa1 (ŵb (į ZB (pe_b (JY rfl) hmin boot_min (į Ïd ZB)))))) (YQ (i:=5) nd rfl Ô) hb;have B5:PS Ð (lwS 5) _:=ZU U9;have BB:=λ(a dx d tb kn ak:Z1) (N:Nw H d tb kn ak)=>@lB P w K mg base C cs f gv A ou s H E H a0 a dx d tb kn ak ns T hso kc N hS M M1 G1 Gm G2 G3 G4 Gc Gd Gs Ga Gr hr;have eB:WI dLaw=[lwS 0,lwS 1,lwS 2,lwS 3,lwS 4,lwS 5]:=by kernel_rfl
  rw[eB];clear eB;generalize lwS 0=S0 at B0 ⊢;generalize lwS 1=S1 at B1 ⊢;generalize lwS 2=S2 at B2 ⊢;generalize lwS 3=S3 at B3 ⊢;generalize lwS 4=S4 at B4 BB ⊢;generalize lwS 5=S5 at B5 ⊢;have R:PNs Ð [S4,S5] (λD n' σ H1=>∃(a dx d tb kn ak:Z1),Nw H d tb kn ak/\σ = [Ú a0,Ú a,Ú tb,Ú kn,Ú ak,none,none,none,none,none,none]/\St6 P w C H a dx d tb kn ak 0 0 [] [] H1/\∀n H',D.rt n Ĩ H'):=by
   intro pins s' σ H1 n D hn I h;obtain⟨a,dx,d,tb,kn,ak,N,rfl,st,q⟩:=h;refine Y1 (B4 (BB a dx d tb kn ak N)) (UR (YG B5)) pins s' _ H1 n D hn I ?_;clear B0 B1 B2 B3 B4 B5 BB;refine⟨_,Z,a0,_,Z,Ė (st.sm.seq hS),_,_,Z,_,_,Z,?_⟩;rw[ZD];have hb:∀y:Int,y=(if(if Þ 45<Þ ns.length then 45 else Þ ns.length)>8 then(if Þ 45<Þ ns.length then 45 else Þ ns.length)else 8)->0<=y/\y<=45:=λy hy=>by
    subst hy;split
    ·split at * <;> omega
    ·omega
   have hb:=hb _ rfl;generalize (if(if Þ 45<Þ ns.length then 45 else Þ ns.length)>8 then(if Þ 45<Þ ns.length then 45 else Þ ns.length)else 8)=many at hb ⊢;refine⟨many,Z,À,À,AS (λi n' σ H2=>∃(n:Nat) (ts us:Ts) (o5 o6 o7 o8 o9 o10:Z9 V),σ = [Ú a0,Ú a,Ú tb,Ú kn,Ú ak,o5,o6,o7,o8,o9,o10]/\n<=n'/\St6 P w C H a dx d tb kn ak n i ts us H2) ⟨0,[],[],none,none,none,none,none,none,Z,WW _,st⟩ ?_ (λn2 σ H2 _=>q n2 H2)⟩;rintro i n2 σ H2 hi ⟨n3,ts,us,o5,o6,o7,o8,o9,o10,rfl,hn3,st2⟩;rw[Int.zero_add];exact⟨i,n3,i,ts,us,o6,o7,o8,o9,o10,Z,hn3,À,À,st2,λn4 n5 ts2 us2 o6 o7 o8 o9 o10 H3 hn4 st3=>⟨n5,ts2,us2,_,o6,o7,o8,o9,o10,Z,hn4,st3⟩⟩
  have B0':PS Ð S0 (λD σ H=>∀a dx d H',Ŀd->ē d->Ď H' []->D.nx (σ.set 1 (Ú a)) H'):=ps6 B0 λD σ H1 q=>Je (Q:=λv H'=>D.nx (σ.set 1 ôc) H') λa dx d H' sm hd hD=>q a dx d H' sm hd hD;refine ë (Pw (įa B0' B1 (įa B2 B3 R)));clear B0 B0' B1 B2 B3 B4 B5 BB R;intro a dx d H1 s1 hd dk tb H2 htb f2 g2 kn H3 hkn f3 dn3 ak hak;have s2:Same H1 H2:=λb o e=>(f2 b (WX e htb)).trans e;have s3:Same H2 H3:=λb o e=>(f3 b (WX e hkn)).trans e;have s4:=snw (o:=.dT []) hak;have e4:(upd H3 ak (.dT [])) ak=Ã (.dT []):=ZI;generalize upd H3 ak (.dT [])=H4 at s4 e4 ⊢;have s14:=(Ųd).trans s4;obtain⟨vs0,etb,_⟩:=id g2;refine⟨a,dx,d,tb,kn,ak,⟨hd,ğd htb,(Äc).free hkn,((Äc).trans s3).free hak,Îc⟩,Z,⟨Ľ s14,⟨dk.same s14,⟨g2.keeps ?_,(λe he=>nomatch he),(λe he=>nomatch he),(λe he=>nomatch he),.nil⟩,Z,WW _⟩,WW _,ő [] (UY dn3 s4) KnN.nil,ő [] e4 (ã (WW _) (λk v e=>nomatch e))⟩,λn H'=>q H'⟩
  ·rw[z,hkn]at etb;cases etb
  ·rw[s4 _ _ (øe etb),etb]
end
open PySem L2 PyProof.Rows
theorem Zop{K:ZC}{h:Z8}{mg:Ą}{x:Str}{st:Z6}{ps:ù}{f:Z1}(X:K.In h)(G:ŷa){od an:Z9 Z1}{sl:Array (Z9 Z0)}{oc kV dc pm cd ct:Z0}
  (a:PySem.W.nsIn K mainGlobals x=Ã (Ú f)) (l:Ľd f=Ã ⟨oc,od,.func (ğ x x dc cd),sl⟩) (c:PySem.W.codeIn K cd x=true) (k:Ũ K f=true)
  (b:∀(kV doc pm:Z0) (an:Z9 Z1) (gv ct:Z0) (us:š),us.length=ps.length->bindArgs (ğ x x doc gv) (ã us [])=pure ĕc):é x st ps:=by
 have F:=FR (st:=st) l c k;exact⟨f,_,F,õd a,F.binds b⟩
theorem Zs5{K:ZC}{h:Z8}{mg:Ą}{t1 t2 t3:Tok}(X:K.In h)(G:ŷa)(e1:á "len" none) (e2:á "all" none) (e3:á "isinstance" none)
  (e4:á "range" none) (e5:á "int" none) (e6:á "bool" none) (e7:á "list" none) (e8:á "enumerate" none)
  (e9:á "abs" none) (e10:á "max" none) (e11:á "MOST_ROWS" (Ã (.int 6 t1))) (e12:á "MOST_PLACES" (Ã (.int 6 t2))) (e13:á "MOST_TO_A_SIDE" (Ã (.int 4 t3))):ûa :=
 ⟨XT X G e1,XT X G e2,XT X G e3,XT X G e4,XT X G e5,XT X G e6,XT X G e7,XT X G e8,XT X G e9,XT X G e10, Ņ (õd e11),Ņ (õd e12),Ņ (õd e13)⟩
theorem walk{l:PySem.W.OpenLaw}{q:Z3}{loose:ù}{XP:Û (Ą) Z8}{YP:Û Z5 Z8}{d:DefRec}{K:Params->ZC}(hn:l.most=Ã 63)(hdf:d.params.defaults=[])
  (hY:∀(w:Z5) (h:Z8),YP w h->(ļc).In h)
  (F:∀(w:Z5) (mg:Ą) (fa:Z1) (h:Z8),(ļc).In h->ŷa->mg d.name=Ú fa -> ∃fd:FuncData,(∀(s:Z2) (u:Z0),Ůc fd [u] [("script",u)])/\∀base:Z8,(ļc).In base->Ţc->ąd l.prog ļc 60 fa) :
  đd :=
 L2.Qx (n:=63) (k:=60) (x := "script") (CX:=λ_=>CX0) (sp:=λw=>spLaw ļc) hn Ç hdf ⟨Z,Ç,Ç,Z⟩ hY F (λ_ _ a ns hl _ hS=>⟨a,ns,Z,hS,hl,λ_=>rfl⟩) λ_ _ _ _ _ z=>z
open PySem L2 PyProof.Rows
theorem Zsu{K:ZC}{h:Z8}{mg:Ą}{S a0 a1 a2 a3 a4 a5 a6 a7 a8 a9 a10 a11:Z1}(X:K.In h)(G:ŷa)(e:õe "SeekError" S) (e0:õe "NoTable" a0) (e1:õe "NoCell" a1)
  (e2:õe "NoNumber" a2) (e3:õe "NoSize" a3) (e4:õe "NoStair" a4) (e5:õe "NoLook" a5)
  (e6:õe "NoPlace" a6) (e7:õe "NoFit" a7) (e8:õe "NoChange" a8) (e9:õe "NoText" a9)
  (e10:õe "NoName" a10) (e11:õe "NoRow" a11):Nms mg S Ģ :=
 ⟨Z,õd e,õd e0,õd e1,õd e2,õd e3,õd e4,õd e5,õd e6,õd e7,õd e8,õd e9,õd e10,õd e11⟩
theorem ZsT{K:ZC}{S C a0 a1 a2 a3 a4 a5 a6 a7 a8 a9 a10 a11:Z1}{i:Nat}(k:Ëd C)(sk:ıc (Ê S)=Ĥe)(kv:Ű K Âe (Ŀa "ValueError")=Ĥe)
  (k0:ĵ a0=Ã (è (0=i))) (k1:ĵ a1=Ã (è (1=i))) (k2:ĵ a2=Ã (è (2=i))) (k3:ĵ a3=Ã (è (3=i)))
  (k4:ĵ a4=Ã (è (4=i))) (k5:ĵ a5=Ã (è (5=i))) (k6:ĵ a6=Ã (è (6=i))) (k7:ĵ a7=Ã (è (7=i)))
  (k8:ĵ a8=Ã (è (8=i))) (k9:ĵ a9=Ã (è (9=i))) (k10:ĵ a10=Ã (è (10=i))) (k11:ĵ a11=Ã (è (11=i))) :
  Err K S Ģ i C :=
 ⟨k,sk,kv,λj D h=>match j,h with
  | 0,h=>by cases h;exact k0
  | 1,h=>by cases h;exact k1
  | 2,h=>by cases h;exact k2
  | 3,h=>by cases h;exact k3
  | 4,h=>by cases h;exact k4
  | 5,h=>by cases h;exact k5
  | 6,h=>by cases h;exact k6
  | 7,h=>by cases h;exact k7
  | 8,h=>by cases h;exact k8
  | 9,h=>by cases h;exact k9
  | 10,h=>by cases h;exact k10
  | 11,h=>by cases h;exact k11
  |n+12,h=>by simp at h⟩
open PySem L2 PyProof.Rows
theorem Rg:figS=ű #[48,49,50,51,52,53,54,55,56,57]:=by
 have e:figS.cps.toList=[48,49,50,51,52,53,54,55,56,57]:=Â
 have e2:figS.cps = #[48,49,50,51,52,53,54,55,56,57]:=Array.ext' e;generalize figS=f at *;cases f;simp only at e2;rw[e2]
theorem ZsR{K:ZC}{h:Z8}{mg:Ą}{t}(X:K.In h)(G:ŷa)(e:á "FIGURES" (Ã (.str (ű #[48,49,50,51,52,53,54,55,56,57]) t))):∃t,mg "FIGURES" = Ã (.str figS t) :=
 ã t (by rw[Rg];exact õd e)
open PySem L2 PyProof.Rows
noncomputable def EsIs:Û (Æ DictEntry) (ġa Z1)
 | [],[]=>True
 |e::es,x::xs=>(∃t,e.key=.str x.1 t)/\e.val=Ê x.2/\EsIs es xs
 |_,_=>False
noncomputable def StIs:Û š ù
 | [],[]=>True
 |v::vs,x::xs=>(∃t,v=.str x t)/\StIs vs xs
 |_,_=>False
theorem StIs.vals:∀{vs:š}{xs:ù},StIs vs xs->Vals (xs.map V.str) vs
 | [],[],_=>.nil
 |v::vs,x::xs,h=>Ŭb h.1 h.2.vals
theorem EsIs.find:∀{es:Æ DictEntry}{fs:ġa Z1},EsIs es fs->∀x,(es.find? λe=>Value.isStrOf x e.key).map (·.val)=(Ġb x).map Value.ref
 | [],[],_,_=>rfl
 |e::es,(y,a)::fs,h,x=>by
  obtain⟨⟨t,hk⟩,hv,hr⟩:=h;rw[List.find?_cons,List.lookup_cons,hk];have hb:Value.isStrOf x (Čc y)=(x==y):=by
   by_cases z:x=y
   ·subst z;simp[Value.isStrOf]
   ·rw[VQ.mpr z];have:¬y=x:=λq=>z q.symm;simp[Value.isStrOf,this]
  rw[hb];cases hxy:(x==y)with
  |true=>simp[hv]
  |false=>exact hr.find x
theorem Zrh{K:ZC}{w:Z5}{a:Z1}{es:Array DictEntry}{n:Nat}{fs:ġa Z1}(l:Ľd a=Ã ⟨Ŀa "dict",none,.dict es n,#[]⟩) (k:PySem.W.KeysLit w.params es.toList) (lo:ſ a) (b:EsIs es.toList fs):TopD K w a fs :=
 ⟨es,n,l,k,lo,λx=>by
  unfold findBy;rw[<- Array.find?_toList]
  exact b.find x⟩
theorem ZcY{K:ZC}{a:Z1}{o:Obj}{its:Array Z0}{n:Nat}{xs:ù}(l:Ľd a=ţ)(c:o.cls=ĥb) (d:o.data=.seq its n) (z:its.size<=10) (v:StIs its.toList xs):∀H,łb a (xs.map V.str) :=
 λH=>Ŀ ⟨o,its,n,l,c,d,Ĭb,v.vals,by rw[List.all_map];exact UK.mpr Ÿ⟩
theorem Oy:formL=[(ű #[116,97,98,108,101],[ű #[78,65,77,69],ű #[84,69,88,84]]),(ű #[99,101,108,108],[ű #[78,65,77,69],ű #[82],ű #[67],ű #[88]]),(ű #[100,114,111,112],[ű #[78,65,77,69]]),(ű #[102,105,110,100],[ű #[78,65,77,69],ű #[88]]),(ű #[115,116,97,105,114],[ű #[78,65,77,69],ű #[88]]),(ű #[119,97,108,107],[ű #[78,65,77,69],ű #[88]]),(ű #[98,101,108,111,119],[ű #[78,65,77,69],ű #[88]]),(ű #[110,116,104],[ű #[78,65,77,69],ű #[75]]),(ű #[115,104,111,119],[ű #[78,65,77,69]]),(ű #[108,111,111,107,115],[ű #[82],ű #[80]])]:=Â
theorem Zt6{K:ZC}{w:Z5}{h:Z8}{mg:Ą}{a t0 t1 t2 t3 t4 t5 t6 t7 t8 t9:Z1}(X:K.In h)(G:ŷa)(e:õe "FORMS" a)
  (d:TopD K w a [(ű #[116,97,98,108,101],t0),(ű #[99,101,108,108],t1),(ű #[100,114,111,112],t2),(ű #[102,105,110,100],t3),(ű #[115,116,97,105,114],t4),(ű #[119,97,108,107],t5),(ű #[98,101,108,111,119],t6),(ű #[110,116,104],t7),(ű #[115,104,111,119],t8),(ű #[108,111,111,107,115],t9)])
  (q0:∀H,łb t0 (([ű #[78,65,77,69],ű #[84,69,88,84]]:ù).map V.str))
  (q1:∀H,łb t1 (([ű #[78,65,77,69],ű #[82],ű #[67],ű #[88]]:ù).map V.str))
  (q2:∀H,łb t2 (([ű #[78,65,77,69]]:ù).map V.str))
  (q3:∀H,łb t3 (([ű #[78,65,77,69],ű #[88]]:ù).map V.str))
  (q4:∀H,łb t4 (([ű #[78,65,77,69],ű #[88]]:ù).map V.str))
  (q5:∀H,łb t5 (([ű #[78,65,77,69],ű #[88]]:ù).map V.str))
  (q6:∀H,łb t6 (([ű #[78,65,77,69],ű #[88]]:ù).map V.str))
  (q7:∀H,łb t7 (([ű #[78,65,77,69],ű #[75]]:ù).map V.str))
  (q8:∀H,łb t8 (([ű #[78,65,77,69]]:ù).map V.str))
  (q9:∀H,łb t9 (([ű #[82],ű #[80]]:ù).map V.str))
  : FmOk K w mg:=by
 refine⟨a,_,õd e,d,?_⟩;rw[Oy];exact⟨Z,q0,Z,q1,Z,q2,Z,q3,Z,q4,Z,q5,Z,q6,Z,q7,Z,q8,Z,q9,True.intro⟩
structure DkM(K:ZC)(mg:Ą)(C:Z1):Prop where
 c:ţc
 gl:Ūb "Desk" C
 mks:īb K=true
 kp:Ũ K C=true
theorem ZsX{K:ZC}{h:Z8}{mg:Ą}{C:Z1}(X:K.In h)(G:ŷa)(aC:õe "Desk" C)
  (pg:ģc Str.empty=true) (hd:Íd=true) (po:öe=true) (sa:ża) (mk:īb K=true) (kc:Ũ K C=true)
  (n1:ı "tables" = Ã none):DkM K mg C:=⟨ã ⟨pg,hd,po,sa⟩ n1,õd aC,mk,kc⟩
theorem Rt:lowS=ű #[97,98,99,100,101,102,103,104,105,106,107,108,109,110,111,112,113,114,115,116,117,118,119,120,121,122]:=Â
theorem ZsY{K:ZC}{h:Z8}{mg:Ą}{t1 t2 t3 t4:Tok}(X:K.In h)(G:ŷa)(e1:á "SMALL_LETTERS" (Ã (.str (ű #[97,98,99,100,101,102,103,104,105,106,107,108,109,110,111,112,113,114,115,116,117,118,119,120,121,122]) t1))) (e2:á "MOST_LETTERS" (Ã (.int 8 t2))) (e3:á "MOST_FIGURES_OF_COUNT" (Ã (.int 2 t3))) (e4:á "MOST_FIGURES_OF_NUMBER" (Ã (.int 9 t4))):DkC mg :=
 ⟨ã t1 (by rw[Rt];exact õd e1),Ņ (õd e2),Ņ (õd e3),Ņ (õd e4)⟩
theorem Sd(h:Mono sp)(h':Mono sp'):Mono Ģc:=λvs H Q Q' E i z=>z.elim (λy=>Ė (h vs H Q Q' E i y)) λy=>Ŀ (h' vs H Q Q' E i y)
theorem Sf:Mono (spRTX2 c):=λvs H Q Q' E i ⟨x,h1,h2,h3,q⟩=>⟨x,h1,h2,h3,q⟩
theorem Sg:Mono (spRTX3 c):=λvs H Q Q' E i ⟨x,rows,h1,h2,h3,h4,q⟩=>⟨x,rows,h1,h2,h3,h4,q⟩
theorem Se(h:Mono sp):Mono (spRS c sp):=λvs H Q Q' E i ⟨x,h1,h2,z⟩=>⟨x,h1,h2,z.elim .inl λ⟨a,b⟩=>ūb a (h _ _ Q Q' _ i b)⟩
open PySem L2 PyProof.Rows
theorem Zs8{l:PySem.W.OpenLaw}{w:Z5}{K:ZC}{mg:Ą}{fa C D S a0 a1 a2 a3 a4 a5 a6 a7 a8 a9 a10 a11:Z1}(hfa:Ūb "law" fa) (T:ûa) (h_tuple:ě "tuple") (h_reversed:ě "reversed") (h_zip:ě "zip") (h_min:ě "min") (h_str:Þc) (h_sorted:ěb) (h_sum:ě "sum") (h_ValueError:ě "ValueError") (h_fig:∃t,mg "FIGURES" = Ã (.str figS t)) (N:Nms mg S Ģ) (kS:Ëd S) (E1:Err K S Ģ 1 a1) (E3:Err K S Ģ 3 a3) (E6:Err K S Ģ 6 a6) (E7:Err K S Ģ 7 a7) (E9:Err K S Ģ 9 a9) (E10:Err K S Ģ 10 a10) (E11:Err K S Ģ 11 a11) (zK:RkM K mg C) (zD:DkM K mg D) (zF:FmOk K w mg) (zC:DkC mg)
  (o_init:Y6 K D "__init__" "Desk.__init__" (WQ U8 0) ["self"])
  (o_names:Y6 K D "names" "Desk.names" (WQ U8 1) ["self"])
  (o_say:åa D)
  (o_say_of_table:Ŝ D)
  (m_init:Y6 K C "__init__" "Reckoning.__init__" (WQ YW 0) ŉc)
  (m_left_between:Áe)
  (m_fewest:Ñb)
  (m_looks_at:Y6 K C "looks_at" "Reckoning.looks_at" (WQ YW 3) Ða)
  (m_fewest_through:ś)
  (d_is_whole:é "is_whole" JL Ę)
  (d_all_whole:é "all_whole" Q8 ["things"])
  (d_never_falls:é "never_falls" MC ["numbers"])
  (d_is_row:é "is_row" LQ Ę)
  (d_has_table_shape:é "has_table_shape" QT Ę)
  (d_numbers_at_place:é "numbers_at_place" M3 ņc)
  (d_is_sorted_both_ways:é "is_sorted_both_ways" PL Ŏ)
  (d_is_table:é "is_table" JK Ę)
  (d_is_cell_of_size:é "is_cell_of_size" N3 Ŗa)
  (d_is_cell:é "is_cell" NK Į)
  (d_need_table:é "need_table" IM Ę)
  (d_need_cell:é "need_cell" NQ Į)
  (d_need_number:é "need_number" IU Ę)
  (d_cells_of:é "cells_of" OU ž)
  (d_how_many_less:é "how_many_less" O5 Ėe)
  (d_stair_of:é "stair_of" OV ž)
  (d_is_stair:é "is_stair" M6 ûc)
  (d_how_many_cells:é "how_many_cells" L5 Ŏ)
  (d_merged:é "merged" NN Ŏ)
  (d_need_place:é "need_place" MH Į)
  (d_number_by:é "number_by" NR ["table","k"])
  (d_count_less:é "count_less" LP ž)
  (d_copy_of:é "copy_of" NJ Ŏ)
  (d_table_with:é "table_with" L8 Úa)
  (d_changed_table:é "changed_table" M4 Úa)
  (d_is_side:é "is_side" PK Ę)
  (d_need_size:é "need_size" O0 Ša)
  (d_is_at_no_row_above:é "is_at_no_row_above" OK ["low","high"])
  (d_need_stairs:é "need_stairs" IV Ċa)
  (d_is_left_open:é "is_left_open" IA Ýc)
  (d_bits_of_cells:é "bits_of_cells" KL Ša)
  (d_left_by_less:é "left_by_less" N2 ["bits","cell"])
  (d_left_by_greater:é "left_by_greater" O4 ["bits","cell"])
  (d_looks_left:é "looks_left" IL Ċa)
  (d_fewest_looks:é "fewest_looks" PJ Ša)
  (d_writes_count:é "writes_count" NO ųa)
  (d_writes_number:é "writes_number" J3 ųa)
  (d_show_row:é "show_row" M7 Ïb)
  (d_show_table:é "show_table" MJ Ŏ)
  (d_read_row:é "read_row" SU ĝe)
  (d_read_table:Êd)
  (d_walk_for:é "walk_for" L7 ž)
  (d_is_name:é "is_name" NL ųa)
  (d_is_short_count:é "is_short_count" dShC ųa)
  (d_is_short_number:é "is_short_number" dShN ųa)
  (d_is_written_as:é "is_written_as" MU ["kind","word"])
  (d_split_row:é "split_row" IB Ïb)
  (d_has_form:é "has_form" M5 ["words"])
  (d_words_of:é "words_of" M8 Ïb)
  (d_read_slashed:é "read_slashed" JN ["text"])
  (d_show_cells:é "show_cells" MI ["cells"])
  (d_show_found:é "show_found" IN ["cells"])
  (d_answer_of:é "answer_of" N1 ëb)
  (d__law_cell:é "_law_cell" LE ["script","k"])
  (d__law_said:Űd)
  (d__law_mixed:é "_law_mixed" LG ["cell","k"])
  (d__law_table:é "_law_table" LI ["cell","most"])
  (d__law_written:é "_law_written" M9 Ŏ)
  (d__law_shown:é "_law_shown" LH Ŏ)
  (d__law_cells:é "_law_cells" NM ["cells"])
  (d__law_walk:é "_law_walk" LF ž)
  (d__law_number:é "_law_number" JM ["table","cell"])
  (d__law_name:é "_law_name" YV ["cell","k"])
  (d__law_looks:ťb)
  (d__law_asked_good:é "_law_asked_good" T5 č)
  (d__law_cell_good:é "_law_cell_good" XZ č)
  (d__law_size_good:é "_law_size_good" SS Òe)
  (d__law_refused_good:é "_law_refused_good" RM č)
  (d__law_drop_good:é "_law_drop_good" RS õa)
  (d_law:é "law" dLaw ["script"])
  : ∃fd:FuncData,(∀(s:Z2) (v:Z0),Ůc fd [v] [("script",v)])/\∀base:Z8,K.In base->Ţc->ąd l.prog K 60 fa:=by
 obtain⟨f,fd,F,hm,hb⟩:=d_law;have e:=hfa.symm.trans hm;cases e;refine ő fd ?_ (λbase _ _=>?_)
 ·obtain⟨oc,od,kV,doc,pm,an,gv,ct,osl,rfl,lk,hcd⟩:=F.ex;exact λs v=>.of_eq rfl
 ·have g_is_whole:=Em (P:=l.prog) (w:=w) (base:=base) T d_is_whole;have g_all_whole:=Dt T d_all_whole g_is_whole;have g_allT:=Cp T d_all_whole g_is_whole;have g_never_falls:=Ye (P:=l.prog) (w:=w) (base:=base) T d_never_falls;have g_is_row:=Mo T d_is_row g_all_whole;have g_has_table_shape:=Mw T d_has_table_shape g_is_row;have g_numbers_at_place:=Eh (P:=l.prog) (w:=w) (base:=base) d_numbers_at_place;have g_is_sorted_both_ways:=Js T d_is_sorted_both_ways g_never_falls g_numbers_at_place;have g_is_table:=El d_is_table g_has_table_shape g_is_sorted_both_ways;have g_is_cell_of_size:=Jj T h_tuple d_is_cell_of_size g_allT;have g_szX:=Ux T h_tuple d_is_cell_of_size g_allT;have g_is_cell:=Jm T d_is_cell g_is_cell_of_size;have g_isCX:=So T d_is_cell g_szX;have g_need_table:=Cv d_need_table g_is_table;have g_need_cell:=Du d_need_cell g_is_cell;have g_ncX:=Ur E1.k N.n1 d_need_cell g_isCX;have g_need_number:=Bc d_need_number g_is_whole;have g_cells_of:=Mj T d_cells_of g_need_table g_need_number;have g_how_many_less:=Sq (P:=l.prog) (w:=w) (base:=base) T d_how_many_less;have g_stair_of:=Lb d_stair_of g_need_table g_need_number g_how_many_less;have g_is_stair:=Ek T h_reversed d_is_stair g_all_whole g_never_falls;have g_how_many_cells:=Ss (P:=l.prog) (w:=w) (base:=base) T d_how_many_cells;have g_merged:=Jr T h_sorted d_merged g_need_table;have g_need_place:=Cu d_need_place g_is_whole g_how_many_cells;have g_plX:=Ut E6.k N.n6 d_need_place g_is_whole g_how_many_cells;have g_number_by:=Dw d_number_by g_need_table g_need_place g_merged;have g_nbX:=Uq d_number_by g_need_table g_plX;have g_count_less:=Ml h_sum d_count_less g_stair_of;have g_copy_of:=Jk (P:=l.prog) (w:=w) (base:=base) T d_copy_of;have g_table_with:=Of d_table_with g_copy_of;have g_changed_table:=Uj E7.k N.n7 d_changed_table g_need_cell g_ncX g_need_number g_table_with g_is_table;have g_chG:=Ei d_changed_table g_need_cell g_need_number g_table_with g_is_table;have g_is_side:=Jo T d_is_side g_is_whole;have g_sideN:=My T d_is_side g_is_whole;have g_need_size:=Dv d_need_size g_is_side;have g_nsX:=Us E3.k N.n3 d_need_size g_sideN;have g_is_at_no_row_above:=Lq (P:=l.prog) (w:=w) (base:=base) T h_zip d_is_at_no_row_above;have g_need_stairs:=Bd d_need_stairs g_is_stair g_is_at_no_row_above;have g_is_left_open:=Cq (P:=l.prog) (w:=w) (base:=base) d_is_left_open;have g_bits_of_cells:=Jh (P:=l.prog) (w:=w) (base:=base) T d_bits_of_cells;have g_left_by_less:=Ji (P:=l.prog) (w:=w) (base:=base) h_sum d_left_by_less;have g_left_by_greater:=Sn (P:=l.prog) (w:=w) (base:=base) h_sum d_left_by_greater;have g_rInit:=Mu zK.c m_init g_bits_of_cells g_left_by_less g_left_by_greater;have g_leftB:=Mq h_sum zK.c m_left_between g_is_left_open;have g_looksAt:=En (P:=l.prog) (w:=w) (base:=base) (mg:=mg) zK.c m_looks_at;have g_fewest:=Jl T h_min zK.c m_fewest m_fewest_through g_looksAt;have g_looks_left:=Cr zK d_looks_left g_need_size g_need_stairs g_rInit g_leftB g_fewest;have g_fewest_looks:=Ej d_fewest_looks g_need_size g_looks_left;have g_fwX:=Uk d_fewest_looks g_nsX;have g_writes_count:=Ep (P:=l.prog) (w:=w) (base:=base) T h_fig d_writes_count;have g_writes_number:=Ca d_writes_number g_writes_count;have g_show_row:=Eo (P:=l.prog) (w:=w) (base:=base) h_str d_show_row;have g_show_table:=Cw d_show_table g_need_table g_show_row;have g_read_row:=Dx T d_read_row g_writes_number;have g_rrX:=Dy T E9.k N.n9 d_read_row g_writes_number;have g_read_table:=Be T h_str d_read_table g_read_row g_is_table;have g_rtX2:=Bg T h_str E9.k N.n9 d_read_table g_read_row g_rrX;have g_rtX3:=Bh T h_str E9.k N.n9 d_read_table g_read_row g_is_table;have g_walk_for:=Oe T d_walk_for g_need_table g_need_number;have g_is_name:=Jn (P:=l.prog) (w:=w) (base:=base) T zC d_is_name;have g_is_short_count:=Uu T zC d_is_short_count g_writes_count;have g_is_short_number:=Uv T zC d_is_short_number g_writes_number;have g_is_written_as:=Og d_is_written_as g_is_name g_is_short_number g_is_short_count;have g_split_row:=La (P:=l.prog) (w:=w) (base:=base) d_split_row;have g_has_form:=Yd T h_zip zF d_has_form g_is_written_as;have g_words_of:=Yf T h_str d_words_of g_split_row g_has_form;have g_woX:=Uy T h_str E11.k N.n11 d_words_of g_split_row g_has_form;have g_read_slashed:=GA E9.k N.n9 d_read_slashed g_read_table.toX;have g_rsX:=GA E9.k N.n9 d_read_slashed (g_rtX2.or g_rtX3);have g_show_cells:=Sy (P:=l.prog) (w:=w) (base:=base) d_show_cells;have g_show_found:=Uw d_show_found g_show_cells;have g_answer_of:=Ui h_str d_answer_of g_show_found g_cells_of g_show_row g_stair_of g_show_cells g_walk_for g_count_less g_number_by;have g_ansX:=Sl h_str d_answer_of g_nbX;have g_dInit:=Mm (P:=l.prog) (w:=w) (base:=base) (mg:=mg) zD.c o_init;have g_names:=Mt (P:=l.prog) (w:=w) (base:=base) h_sorted zD.c o_names;have g_sot1:=Sz zD.c o_say_of_table g_show_table;have g_sot2:=EK T zD.c o_say_of_table g_answer_of.toX;have g_sot2X:=EK T zD.c o_say_of_table g_ansX;have g_sot3:=Ob T zD.c o_say_of_table g_changed_table;have g_sot4:=Oc T zD.c o_say_of_table g_chG;have g_sot5:=Od (P:=l.prog) (w:=w) (base:=base) (mg:=mg) zD.c o_say_of_table;have g_say1:=Sw o_say g_woX;have g_say2:=Sx zD.c E10.k N.n10 o_say g_words_of;have g_say3X:=EH zD.c o_say g_words_of (g_sot3.or g_sot2X);have g_say4X:=EI T h_str o_say g_words_of (g_fwX.mono Ç);have g_say5X:=EJ (Se (Sd Sf Sg)) zD.c o_say g_words_of g_rsX;have g_sayX:Č l.prog D (spRf D Ģ):=g_say1.or (g_say2.or (g_say3X.or (g_say4X.or g_say5X)));have g_sayA:Č l.prog D (spOk D ([a0,a1,a2,a3,a4,a5,a6,a7,a8,a9,a10,a11].getD 9 0)):=(EH zD.c o_say g_words_of (g_sot1.or (g_sot2.or (g_sot4.or g_sot5)))).or ((EI T h_str o_say g_words_of g_fewest_looks.toX).or (EJ (CS A4) zD.c o_say g_words_of g_read_slashed));have g__law_cell:=Mp (P:=l.prog) (w:=w) (base:=base) T d__law_cell;have g__law_said:=Sv T h_ValueError N kS zD.c (λj hj=>match j,hj with | 0,_=>E1 | 1,_=>E7 | 2,_=>E10 | 3,_=>E6 | 4,_=>E11 | 5,_=>E3 | 6,_=>E9) d__law_said g_sayX;have g_sd:FnAtX l.prog w K mg base 39 "_law_said" ["desk","row"] (spSd D Ģ):=(Mv Sc N kS zD.c d__law_said g_sayA).toX.or g__law_said.toX;have g__law_mixed:=Ms (P:=l.prog) (w:=w) (base:=base) d__law_mixed;have g__law_table:=Lc T d__law_table g__law_mixed;have g__law_written:=Et (P:=l.prog) (w:=w) (base:=base) h_str d__law_written;have g__law_shown:=Mx d__law_shown g__law_written;have g__law_cells:=Jp (P:=l.prog) (w:=w) (base:=base) h_str d__law_cells;have g__law_walk:=Mr (P:=l.prog) (w:=w) (base:=base) T d__law_walk;have g__law_number:=Sr (P:=l.prog) (w:=w) (base:=base) T h_min d__law_number;have g__law_name:=Jq T d__law_name g__law_mixed;have g__law_looks:=G9 (P:=l.prog) (w:=w) (base:=base) T h_tuple h_min d__law_looks 16;have g__law_asked_good:=Jg T h_sorted h_str d__law_asked_good g_sd g__law_shown g__law_cells g__law_walk g__law_number;have g__law_cell_good:=Lr T h_sorted h_str d__law_cell_good g_sd g__law_number;have g__law_size_good:=Mz T h_str h_tuple d__law_size_good g_sd g__law_looks;have g__law_refused_good:=Su T d__law_refused_good g_sd g__law_name;have g__law_drop_good:=Mn zD.c d__law_drop_good g_sayA g_sd;exact FnOk.mono (Ul (cs:=Ģ) T h_min h_sorted zD.c zD.mks zD.kp zD.gl F g_dInit g_names g_sayA g__law_cell g__law_mixed g__law_name g__law_table g__law_shown g__law_cell_good g__law_drop_good g__law_size_good g__law_asked_good g__law_refused_good) Ç
end Seek
namespace PySem.W.Fast
def tw6728280266990391746:=()
def tw4443631337137120007:=()
def tw14546654187448942232:=()
def tw9121600930675133377:=()
def tw10602161351713323822:=()
def tw41663425718213220:=()
def tw14866852502299039010:=()
def tw2004253267876541435:=()
def tw17549990318695106167:=()
def tw10058200826070168510:=()
def tw11794714380008391697:=()
def tw14650351361635081707:=()
def tw16315637967212320569:=()
def tw8738116406652929751:=()
def tw3193672009417272132:=()
def tw1410026349092756100:=()
def tw17672315725164241717:=()
def tw2262782326276935973:=()
def tw297416902748400950:=()
def tw12322224800530247987:=()
def tw273101193226281159:=()
def tw3868219714262081733:=()
def tw1168455602804719075:=()
def tw14989513769472638443:=()
def tw7534431839499091737:=()
def tw3694104544606953604:=()
def tw18305784765720644355:=()
def tw18216352302869934277:=()
def tw9608640144341735068:=()
def tw11343478295110392498:=()
def tw10294216951522175145:=()
def tw9456206769216221514:=()
def tw15108980935134500612:=()
def tw11062019176428141310:=()
def tw14875488454007305162:=()
def tw11156284936945005904:=()
def tw4761355683493069677:=()
def tw9907705519283171606:=()
def tw15847039933733019542:=()
def tw8911889657164865662:=()
def tw6184283537623622275:=()
def tw16061863613044260018:=()
def tw12795324237173693517:=()
def tw6137340707611540386:=()
def tw18261321819614537541:=()
def tw6896712766539360675:=()
def tw3249208753679635516:=()
def tw11371402584690209121:=()
def tw11022591896608735772:=()
def tw7030747488858758195:=()
def tw5681928817721770647:=()
def tw12434375387817536165:=()
def tw10837458565496946674:=()
def tw10055455500068223133:=()
def tw18059431756921029572:=()
def tw14726152243462029870:=()
def tw8976156390527187354:=()
def tw2149553214996299963:=()
def tw14463170380536775729:=()
def tw13660039752577606836:=()
def tw13338339141251870059:=()
def tw10792862440329875843:=()
def tw5978065845280873830:=()
def tw16660176337533855236:=()
def tw7389549474027833241:=()
def tw15566688134718165890:=()
def tw2445533273201956973:=()
def tw14687090866282853742:=()
def tw13370066923973147444:=()
def tw4890212955542269493:=()
def tw4509481455078796085:=()
def tw4268782803192782836:=()
def tw13023987451111360732:=()
def tw12858028661182436877:=()
def tw8631935370778272071:=()
def tw9812209169578938232:=()
def tw1947310031283752521:=()
def tw14492091291816255404:=()
def tw13642889481343907008:=()
def tw2942792061798025217:=()
def tw6605533454240850545:=()
def tw6287074556258363522:=()
def tw16257147699358333370:=()
def tw333618170585278799:=()
def tw7409858226822104460:=()
def tw13547067322414061398:=()
def tw517541104282336680:=()
def tw13393014575349277273:=()
def tw511764469954335993:=()
def tw14595897477418235703:=()
def tw739717902066122768:=()
def tw13977959279097217070:=()
def tw7177440663556655103:=()
def tw9603208857260597202:=()
def tw14700166749274522423:=()
def tw16845230958877483891:=()
def tw1161211139284882472:=()
def tw8147099415100703238:=()
def tw189441379811798700:=()
def tw15332037476052671527:=()
def tw8855895663058303399:=()
def tw12877505316206413751:=()
def tw7544497014590533567:=()
def tw4968692870912584609:=()
def tw4019260325173977690:=()
def tw10502249077689940394:=()
def tw15249528984535551944:=()
def tw356735894045361883:=()
def tw8509188407025456448:=()
def tw6320239454438437588:=()
def tw14306543616227456885:=()
def tw17323372189810994914:=()
def tw9058935418019559644:=()
def tw13614857915944530972:=()
def tw13846654591450397968:=()
def tw15275615724657021431:=()
def tw7205354067968326984:=()
def tw648643525917557313:=()
def tw17993757354642021568:=()
def tw13077212275755135855:=()
def tw5484166635547393564:=()
def tw15864772555135775945:=()
def tw1953724466071815282:=()
def tw5837125826744203102:=()
def tw5602391289219165689:=()
def tw16193884265585145223:=()
def tw12916471926702501468:=()
def tw12814500622740764069:=()
def tw2848977349815772720:=()
def tw4249971236052548379:=()
def tw10413393216001598726:=()
def tw8678784141442897125:=()
def tw1230000782929484404:=()
def tw2249581533170462371:=()
def tw13725770280177419664:=()
def tw5685368284865468179:=()
def tw5876447354785040209:=()
def tw15797680251274249606:=()
def tw4879374415780081603:=()
def tw9550481507619456642:=()
def tw13917269194276083675:=()
def tw12673550026290317764:=()
def tw7763115337332373618:=()
def tw6169362542169195100:=()
def tw11539601375668687851:=()
def tw18152305020502811926:=()
def tw10846828777408728257:=()
def tw8255733359061382245:=()
def tw6909745616097022123:=()
def tw13003004157504293874:=()
def tw13957878372673259861:=()
def tw21243956602696801:=()
def tw9089257378891954593:=()
def tw13097310235026783275:=()
def tw13927026223046121255:=()
def tw3139670955533402032:=()
def tw3667685128320628500:=()
def tw12124330352426754996:=()
def tw7148184180353128360:=()
def tw16367239289460952513:=()
def tw8843764710797585123:=()
def tw4735201676965168168:=()
def tw8808069575636473709:=()
def tw2138364448051527099:=()
def tw1152723713963507537:=()
def tw11123960908603001303:=()
def tw11685858123857297319:=()
def tw4584780729419580592:=()
def tw5474879106348057074:=()
def tw10786294924785823303:=()
def tw13147952352949548936:=()
def tw16690772310123278969:=()
def tw11322899964708153373:=()
def tw9867703941365610595:=()
def tw7379337571351638837:=()
def tw11200316225524634187:=()
def tw14108749909875443442:=()
def tw9435301685217391211:=()
def tw9750558448255443349:=()
def tw15569562192483672312:=()
def tw13337081695497167008:=()
def tw707952344604304516:=()
def tw18292698557983718283:=()
def tw8106768563604454803:=()
def tw6380309467887545761:=()
def tw9538899918630162629:=()
def tw14081066337303572622:=()
def tw10928261809761198449:=()
def tw12654002876429802526:=()
def tw2127260500920553037:=()
def tw3781144967201185318:=()
def tw12739015309924385350:=()
def tw2829466533604903555:=()
def tw6263857661931116950:=()
def tw14888266165157120702:=()
def tw712466928193526651:=()
def tw11372934449573175196:=()
def tw16547002595773607077:=()
def tw5601175271906037928:=()
def tw2160149316526279267:=()
def tw200863668729423468:=()
def tw16624884837062242027:=()
def tw17478238273800094878:=()
def tw17846192103789923098:=()
def tw16224737976209106717:=()
def tw14005197471178877583:=()
def tw18357990749790608066:=()
def tw6210530309668363122:=()
def tw10245727966825721363:=()
def tw9506410919878991667:=()
def tw9339270439145798866:=()
def tw5911856538524816979:=()
def tw2393208425467914758:=()
def tw12164581176187743118:=()
def tw14870382772318706628:=()
def tw1694830420636127943:=()
def tw2377382948648835638:=()
def tw17317303497296218027:=()
def tw671179859067451742:=()
def tw15326204554506043491:=()
def tw5140985754921069304:=()
def tw7293520428546128932:=()
def tw596505606174888925:=()
def tw3942249218407610054:=()
def tw7682486241673519810:=()
def tw12271564006253759484:=()
def tw15593721155705013980:=()
def tw16098124106415789159:=()
def tw18204567493352660178:=()
def tw869355919253216746:=()
def tw2797154120610250262:=()
def tw12965535120399291666:=()
def tw10608581557762991587:=()
def tw10343424012905879522:=()
def tw658118933524866519:=()
def tw3244465542990682739:=()
def tw16095563653452785822:=()
def tw13263262377618723106:=()
def tw17746703368328618441:=()
def tw6013560901742154246:=()
def tw13241199722927031980:=()
def tw17628965375342714866:=()
def tw10922262035465159469:=()
def tw11513654164160069140:=()
def tw15846747694893802322:=()
def tw8514053871509644028:=()
def tw6537401983508717062:=()
def tw6071589072818598234:=()
def tw5642551406433527339:=()
def tw5627413428887754591:=()
def tw4526032184817180148:=()
def tw16533603498269163941:=()
def tw16341566554605541642:=()
def tw12301554816003582132:=()
def tw10076052747598886630:=()
def tw986040961469214516:=()
def tw16655343767817905694:=()
def tw14370801316751876233:=()
def tw14686446951345410852:=()
def tw12513872842489649217:=()
def tw4729907719228273972:=()
def tw17824171541259373571:=()
def tw7458912825033041545:=()
def tw6685855618597678239:=()
def tw14875493529899220804:=()
def tw14174363561478897640:=()
def tw15261866333796721690:=()
def tw3568040350260883378:=()
def tw10586143467961011035:=()
def tw5991245163120418209:=()
def tw4498740704468665668:=()
def tw11949434448526144696:=()
def tw18388414938405276533:=()
def tw5235462976913331938:=()
def tw3510623506043065557:=()
def tw17466512241310802171:=()
def tw12104544254229370456:=()
def tw10225140923977785723:=()
def tw4816260451747179539:=()
def tw14879078905655188225:=()
def tw1081845297047865515:=()
def tw11905074654722670706:=()
def tw14563597341212363973:=()
def tw18431247933799151063:=()
def tw9656155547312463322:=()
def tw7627818193053405095:=()
def tw9024898031966182231:=()
def tw8574491304660712690:=()
def tw5421802719738629933:=()
def tw15114473386629973697:=()
def tw13647362831389212121:=()
def tw14754147793454173505:=()
def tw1378146987627203951:=()
def tw13246919506733858680:=()
def tw16159733510746959362:=()
def tw11736704086207585403:=()
def tw2125417873605261031:=()
def tw2058796024474526241:=()
def tw18038239967592251470:=()
def tw2203195481164870753:=()
def tw12775734876413583613:=()
def tw5050706013461318501:=()
def tw10168831135321356569:=()
def tw6633357788221715002:=()
def tw4597776510600708848:=()
def tw3587608891824611829:=()
def tw1995291917909247833:=()
def tw12627856794051696740:=()
def tw6532541706528248021:=()
def tw14762542763289068918:=()
def tw14573056281598767390:=()
def tw13126586679680625113:=()
def tw8139247296133582185:=()
def tw7433123134233943200:=()
def tw15611720648868559701:=()
def tw14415890203401967206:=()
def tw11699028684728201105:=()
def tw1882340002168691814:=()
def tw16222218500299327573:=()
def tw15586477126348071552:=()
def tw10341523781225053836:=()
def tw2242324873851539224:=()
def tw11924600244746860585:=()
def tw5844142209439117072:=()
def tw13768422265473907743:=()
def tw1197152506157843842:=()
def tw197113078080015346:=()
def tw6281409507642799438:=()
def tw5629038956007469423:=()
def tw4376989961361585297:=()
def tw14794927796273520628:=()
def tw12730483069429354725:=()
def tw14048030616924792076:=()
def tw16675951185288188361:=()
def tw15368089259043642912:=()
def tw13486798725379564520:=()
def tw9011511276015903322:=()
def tw8956031831531715536:=()
def tw5726016753160187726:=()
def tw1298999158528423530:=()
def tw8509704834992013362:=()
def tw12669027979085155112:=()
def tw12798441807840921883:=()
def tw9403621379230496925:=()
def tw4609080552781732380:=()
def tw4575001767629248979:=()
def tw3758676948636601803:=()
def tw1566887025771915173:=()
def tw10983002491898314509:=()
def tw9165051421093367765:=()
def tw7877237261809487031:=()
def tw10571048598145813416:=()
def tw9351424627499716281:=()
def tw4208243134520675643:=()
def tw15598015186254761195:=()
def tw1544498757396153116:=()
def tw10008928978429134781:=()
def tw4550943531491697112:=()
def tw11990475540854770002:=()
def tw18221063075447476336:=()
def tw16917846048972570758:=()
def tw1289330457957315790:=()
def tw4900320872914779327:=()
def tw13881427384323126665:=()
def tw1925313506003300508:=()
def tw1066176356592307454:=()
def tw12936732750083413503:=()
def tw6747720664731716304:=()
def tw8845371727218140628:=()
def tw5437587573122028269:=()
def tw13519120468041830761:=()
def tw17513818541313072208:=()
def tw1688540543503173844:=()
def tw9055854533010434032:=()
def tw7097668232223315874:=()
def tw4851753861195937488:=()
def tw8573908203612731692:=()
def tw481929126303220506:=()
def tw15063879960140921148:=()
def tw14934608449587525077:=()
def tw13000808684834494668:=()
def tw11294597115927070576:=()
def tw8337368420792258122:=()
def tw1151174288805834101:=()
def tw18424877675931195707:=()
def tw9660054424429056290:=()
def tw7886633200413413933:=()
def tw4050163524998923159:=()
def tw4270715143458056262:=()
def tw12868193734616403168:=()
def tw13307014889334375342:=()
def tw5468564538544063141:=()
def tw11043850424298159672:=()
def tw1310646689509121695:=()
def tw13774802448246660599:=()
def tw4156003886537427176:=()
def tw3158764882177888871:=()
def tw2403719982712993750:=()
def tw9694894291073639282:=()
def tw4327824875503566631:=()
def tw2877830595875075314:=()
def tw10008351478878476015:=()
def tw5300883668375316626:=()
def tw8773500117877377658:=()
def tw18134500122399272046:=()
def tw4444513911875860823:=()
def tw14659896209414289132:=()
def tw14872350805276803787:=()
def tw12749080448952711673:=()
def tw17447376374189285068:=()
def tw16222787997157514723:=()
def tw14586724614062328228:=()
def tw8428007009147021450:=()
def tw627478413785018631:=()
def tw8923004686049502719:=()
def tw6147920752045828396:=()
def tw5540889700957537572:=()
def tw16088992544103013130:=()
def tw13297796653381743624:=()
def tw7183325401098593347:=()
def tw701349510300178410:=()
def tw6307716294830997571:=()
def tw6185610234559998124:=()
def tw4676390664088948710:=()
def tw2995124819790262927:=()
def tw2725465693265767795:=()
def tw2711024508353852908:=()
def tw17319753789237018629:=()
def tw13717521157766450149:=()
def tw11385843281222136163:=()
def tw10810069905711619127:=()
def tw7692807951220437937:=()
def tw9638528495389671578:=()
def tw6267822738345673585:=()
def tw17518472473675591689:=()
def tw16403039524083677577:=()
def tw7593180616993162654:=()
def tw7229759667603130340:=()
def tw8632701762826732186:=()
def tw9382240797862126421:=()
def tw5159003851029168912:=()
def tw15702817516744375269:=()
def tw12505886705827407:=()
end PySem.W.Fast
open PySem PySem.W PyProof.Rows
theorem lq1{us:Æ Value}(h:us.length=1):∃a,us=[a]:=List.length_eq_one_iff.mp h
theorem lq2{us:Æ Value}(h:us.length=2):∃a b,us=[a,b]:=by
 cases us with
 |nil=>cases h
 |cons a r=>obtain⟨b,rfl⟩:=lq1 (us:=r) (Nat.succ.inj h);exact ő a b rfl
theorem lq3{us:Æ Value}(h:us.length=3):∃a b c,us=[a,b,c]:=by
 cases us with
 |nil=>cases h
 |cons a r=>obtain⟨b,c,rfl⟩:=lq2 (us:=r) (Nat.succ.inj h);exact⟨a,b,c,rfl⟩
theorem lq4{us:Æ Value}(h:us.length=4):∃a b c d,us=[a,b,c,d]:=by
 cases us with
 |nil=>cases h
 |cons a r=>obtain⟨b,c,d,rfl⟩:=lq3 (us:=r) (Nat.succ.inj h);exact⟨a,b,c,d,rfl⟩
theorem PySem.Challenge.cw_stairseek_k36_rows_of_a_desk_holds : PySem.Challenge.rw_stairseek_k36_rows_of_a_desk.Holds := by
 w_on;o_law;k_head;(case hw=>w_witness2)
 k_fill
 refine Seek.walk (l:=PySem.Challenge.rw_stairseek_k36_rows_of_a_desk) rfl rfl (λw h Y=>PySem.W.kIn_of Y) ?F
 case F =>
  intro w mg fa h KX G hmg
  refine' Seek.Zs8 hmg ?T ?_ ?_ ?_ ?_ ?_ ?_ ?_ ?_ ?x_fig ?zN ?zS ?_ ?_ ?_ ?_ ?_ ?_ ?_ ?zK ?zD ?zF ?zC ?_ ?_ ?_ ?_ ?_ ?_ ?_ ?_ ?_ ?_ ?_ ?_ ?_ ?_ ?_ ?_ ?_ ?_ ?_ ?_ ?_ ?_ ?_ ?_ ?_ ?_ ?_ ?_ ?_ ?_ ?_ ?_ ?_ ?_ ?_ ?_ ?_ ?_ ?_ ?_ ?_ ?_ ?_ ?_ ?_ ?_ ?_ ?_ ?_ ?_ ?_ ?_ ?_ ?_ ?_ ?_ ?_ ?_ ?_ ?_ ?_ ?_ ?_ ?_ ?_ ?_ ?_ ?_ ?_ ?_ ?_ ?_ ?_ ?_ ?_ ?_ ?_ ?_ ?_
  case T =>
   refine' Seek.Zs5 KX G ?e1 ?e2 ?e3 ?e4 ?e5 ?e6 ?e7 ?e8 ?e9 ?e10 ?e11 ?e12 ?e13
   (case e1=>k_is);(case e2=>k_is);(case e3=>k_is);(case e4=>k_is);(case e5=>k_is);(case e6=>k_is);(case e7=>k_is);(case e8=>k_is);(case e9=>k_is);(case e10=>k_is);(case e11=>k_is);(case e12=>k_is);(case e13=>k_is)
  case x_fig =>
   refine' Seek.ZsR KX G ?e
   (case e=>k_is)
  case zN =>
   refine' Seek.Zsu KX G ?e ?e0 ?e1 ?e2 ?e3 ?e4 ?e5 ?e6 ?e7 ?e8 ?e9 ?e10 ?e11
   (case e=>k_is);(case e0=>k_is);(case e1=>k_is);(case e2=>k_is);(case e3=>k_is);(case e4=>k_is);(case e5=>k_is);(case e6=>k_is);(case e7=>k_is);(case e8=>k_is);(case e9=>k_is);(case e10=>k_is);(case e11=>k_is)
  case zS =>
   refine' L2.ExcK.mk ?exc ?ga ?gt ?cl ?ob ?bx
   (case exc=>k_exc);(case ga=>k_is);(case gt=>k_is);(case cl=>k_is);(case ob=>k_is);(case bx=>k_is)
  case zK =>
   refine' Seek.ZrM KX G ?aC ?pg ?hd ?po ?sa ?mk ?kc ?n1 ?n2 ?n3
   (case aC=>k_is);(case pg=>k_is);(case hd=>k_is);(case po=>k_is);(case sa=>k_is);(case mk=>k_is);(case kc=>k_is);(case n1=>k_is);(case n2=>k_is);(case n3=>k_is)
  case zD =>
   refine' Seek.ZsX KX G ?aC ?pg ?hd ?po ?sa ?mk ?kc ?n1
   (case aC=>k_is);(case pg=>k_is);(case hd=>k_is);(case po=>k_is);(case sa=>k_is);(case mk=>k_is);(case kc=>k_is);(case n1=>k_is)
  case zF =>
   refine' Seek.Zt6 KX G ?e (Seek.Zrh ?l ?k ?lo ?b) (Seek.ZcY ?l0 ?c0 ?d0 ?z0 ?v0) (Seek.ZcY ?l1 ?c1 ?d1 ?z1 ?v1) (Seek.ZcY ?l2 ?c2 ?d2 ?z2 ?v2) (Seek.ZcY ?l3 ?c3 ?d3 ?z3 ?v3) (Seek.ZcY ?l4 ?c4 ?d4 ?z4 ?v4) (Seek.ZcY ?l5 ?c5 ?d5 ?z5 ?v5) (Seek.ZcY ?l6 ?c6 ?d6 ?z6 ?v6) (Seek.ZcY ?l7 ?c7 ?d7 ?z7 ?v7) (Seek.ZcY ?l8 ?c8 ?d8 ?z8 ?v8) (Seek.ZcY ?l9 ?c9 ?d9 ?z9 ?v9)
   (case e=>k_is);(case l=>k_is);(case k=>k_keys);(case lo=>decide);(case b=>exact⟨ćb,rfl,ćb,rfl,ćb,rfl,ćb,rfl,ćb,rfl,ćb,rfl,ćb,rfl,ćb,rfl,ćb,rfl,ćb,rfl,True.intro⟩)
   (case l0=>k_is);(case c0=>rfl);(case d0=>rfl);(case z0=>decide);(case v0=>exact ő ćb ćb True.intro)
   (case l1=>k_is);(case c1=>rfl);(case d1=>rfl);(case z1=>decide);(case v1=>exact⟨ćb,ćb,ćb,ćb,True.intro⟩)
   (case l2=>k_is);(case c2=>rfl);(case d2=>rfl);(case z2=>decide);(case v2=>exact ã ćb True.intro)
   (case l3=>k_is);(case c3=>rfl);(case d3=>rfl);(case z3=>decide);(case v3=>exact ő ćb ćb True.intro)
   (case l4=>k_is);(case c4=>rfl);(case d4=>rfl);(case z4=>decide);(case v4=>exact ő ćb ćb True.intro)
   (case l5=>k_is);(case c5=>rfl);(case d5=>rfl);(case z5=>decide);(case v5=>exact ő ćb ćb True.intro)
   (case l6=>k_is);(case c6=>rfl);(case d6=>rfl);(case z6=>decide);(case v6=>exact ő ćb ćb True.intro)
   (case l7=>k_is);(case c7=>rfl);(case d7=>rfl);(case z7=>decide);(case v7=>exact ő ćb ćb True.intro)
   (case l8=>k_is);(case c8=>rfl);(case d8=>rfl);(case z8=>decide);(case v8=>exact ã ćb True.intro)
   (case l9=>k_is);(case c9=>rfl);(case d9=>rfl);(case z9=>decide);(case v9=>exact ő ćb ćb True.intro)
  case zC =>
   refine' Seek.ZsY KX G ?e1 ?e2 ?e3 ?e4
   (case e1=>k_is);(case e2=>k_is);(case e3=>k_is);(case e4=>k_is)
  all_goals first
   | (refine' Seek.Zop KX G ?a ?l ?c ?k ?b;(case a=>k_is);(case l=>k_is);(case c=>k_is);(case k=>k_is);(case b=>first | (intro _ _ _ _ _ _ us hl;obtain⟨_,rfl⟩:=lq1 hl;exact rfl) | (intro _ _ _ _ _ _ us hl;obtain⟨_,_,rfl⟩:=lq2 hl;exact rfl) | (intro _ _ _ _ _ _ us hl;obtain⟨_,_,_,rfl⟩:=lq3 hl;exact rfl) | (intro _ _ _ _ _ _ us hl;obtain⟨_,_,_,_,rfl⟩:=lq4 hl;exact rfl)))
   | (refine' PySem.W.mg_none_of KX G ?e;(case e=>k_is))
   | (refine' L2.ZjQ ?a ?i ?l ?c ?k ?b;(case a=>k_is);(case i=>k_is);(case l=>k_is);(case c=>k_is);(case k=>k_is);(case b=>first | (intro _ _ _ _ _ _ us hl;obtain⟨_,rfl⟩:=lq1 hl;exact rfl) | (intro _ _ _ _ _ _ us hl;obtain⟨_,_,rfl⟩:=lq2 hl;exact rfl) | (intro _ _ _ _ _ _ us hl;obtain⟨_,_,_,rfl⟩:=lq3 hl;exact rfl) | (intro _ _ _ _ _ _ us hl;obtain⟨_,_,_,_,rfl⟩:=lq4 hl;exact rfl)))
   | (refine' Seek.ZsT (L2.ExcK.mk ?exc ?ga ?gt ?cl ?ob ?bx) ?sk ?kv ?k0 ?k1 ?k2 ?k3 ?k4 ?k5 ?k6 ?k7 ?k8 ?k9 ?k10 ?k11;(case exc=>k_exc);(case ga=>k_is);(case gt=>k_is);(case cl=>k_is);(case ob=>k_is);(case bx=>k_is);(case sk=>k_is);(case kv=>kit_is);(case k0=>kit_is);(case k1=>kit_is);(case k2=>kit_is);(case k3=>kit_is);(case k4=>kit_is);(case k5=>kit_is);(case k6=>kit_is);(case k7=>kit_is);(case k8=>kit_is);(case k9=>kit_is);(case k10=>kit_is);(case k11=>kit_is))